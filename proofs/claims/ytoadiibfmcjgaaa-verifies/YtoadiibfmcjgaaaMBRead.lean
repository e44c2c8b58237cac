import Derived.Test.YtoadiibfmcjgaaaBkText
import Derived.Test.YtoadiibfmcjgaaaMRead
import Derived.Test.YtoadiibfmcjgaaaHhead
import Derived.Deep.CutRange
import Derived.Test.YtoadiibfmcjgaaaMOpen
/-
  A STORE INTO A BOX OF SLICES turns nothing of what a closed book is read from.
-/
namespace Go.Proofs.Ytoadiibfmcjgaaa
open Go.RowKit
set_option maxRecDepth 100000

/-- A block whose cells are slices alone. -/
def SlBox (w : World) (g : Nat) : Prop := ∃ cs t, w.heap[g]? = some (.cells cs t (0, 0)) ∧ ∀ (i : Nat) (v : Value), cs[i]? = some v → ∃ ao n c, v = .slice ao n c
theorem SlBox.ne {w : World} {g b o : Nat} {v : Value} (h : SlBox w g) (hc : w.cell? ⟨b, o, none⟩ = some v) (hv : ∀ ao n c, v ≠ .slice ao n c) : b ≠ g := by
  intro e
  subst e
  obtain ⟨cs, t, hh, hall⟩ := h
  rw [cell_of_row w _ o _ _ _ hh] at hc
  obtain ⟨ao, n, c, e⟩ := hall o v hc
  exact hv ao n c e
theorem SlBox.set {w : World} {g : Nat} (h : SlBox w g) (j : Nat) (ao : Option Addr) (n c : Nat) : SlBox (w.setCell ⟨g, j, none⟩ (.slice ao n c)) g := by
  obtain ⟨cs, t, hh, hall⟩ := h
  refine ⟨cs.setIfInBounds j (.slice ao n c), t, heap_setCell_same w g j cs t _ hh, fun i v hv => ?_⟩
  by_cases e : i = j
  · subst e
    rw [Array.getElem?_setIfInBounds] at hv
    simp only [if_true] at hv
    split at hv
    · simp at hv; exact ⟨_, _, _, hv.symm⟩
    · simp at hv
  · rw [Array.getElem?_setIfInBounds_ne (Ne.symm e)] at hv
    exact hall i v hv
theorem off_cell {w : World} {g j : Nat} {u : Value} {p : Addr} (hne : p.block ≠ g) : (w.setCell ⟨g, j, none⟩ u).cell? p = w.cell? p :=
  World.cell?_of_block (heap_setCell_other w ⟨g, j, none⟩ p.block u hne)
theorem PstsIn.off {w : World} {g j : Nat} {u : Value} {ao : Option Addr} {ps : List Sg.Pst} (h : PstsIn w ao ps) (hB : SlBox w g) : PstsIn (w.setCell ⟨g, j, none⟩ u) ao ps := by
  rcases h with h0 | ⟨b, off, e, hb, hat⟩
  · exact Or.inl h0
  · by_cases h0 : ps.length = 0
    · exact Or.inl h0
    · have hne := hB.ne (hat 0 (by omega)).1 (by simp)
      refine Or.inr ⟨b, off, e, by simpa using hb, fun i hi => ?_⟩
      rw [off_cell (by exact hne), off_cell (by exact hne)]
      exact hat i hi
theorem EntsIn.off {w : World} {g j : Nat} {u : Value} {ao : Option Addr} {es : List Sg.Ent} (h : EntsIn w ao es) (hB : SlBox w g) : EntsIn (w.setCell ⟨g, j, none⟩ u) ao es := by
  rcases h with h0 | ⟨b, off, e, hb, hat⟩
  · exact Or.inl h0
  · by_cases h0 : es.length = 0
    · exact Or.inl h0
    · have hne := hB.ne (hat 0 (by omega)).1 (by simp)
      refine Or.inr ⟨b, off, e, by simpa using hb, fun i hi => ?_⟩
      rw [off_cell (by exact hne), off_cell (by exact hne)]
      obtain ⟨h1, ao', cap', h2, h3⟩ := hat i hi
      exact ⟨h1, ao', cap', h2, h3.off hB⟩
theorem AccsIn.off {w : World} {g j : Nat} {u : Value} {ao : Option Addr} {ac : List Sg.Acc} (h : AccsIn w ao ac) (hB : SlBox w g) : AccsIn (w.setCell ⟨g, j, none⟩ u) ao ac := by
  rcases h with h0 | ⟨b, off, e, hb, hat⟩
  · exact Or.inl h0
  · by_cases h0 : ac.length = 0
    · exact Or.inl h0
    · have hne := hB.ne (hat 0 (by omega)).1 (by simp)
      refine Or.inr ⟨b, off, e, by simpa using hb, fun i hi => ?_⟩
      rw [off_cell (by exact hne), off_cell (by exact hne)]
      exact hat i hi
theorem BalIn.off {w : World} {g j m c : Nat} {u : Value} {now : List Int} (h : BalIn w m c now) (hB : SlBox w g) : BalIn (w.setCell ⟨g, j, none⟩ u) m c now := by
  refine h.block (heap_setCell_other w ⟨g, j, none⟩ m u (fun e => ?_))
  obtain ⟨D, ⟨es, clock, h1, _⟩, _⟩ := h
  obtain ⟨cs, t, hh, _⟩ := hB
  have e' : m = g := e
  subst e'
  rw [hh] at h1
  simp at h1
theorem Closed.off {w : World} {g j nA nP b : Nat} {u A : Value} {aoA ao : Option Addr} {h : Sg.Hist} {rs : List Rec} (c : Closed w aoA nA nP h A ao rs b) (hB : SlBox w g) : Closed (w.setCell ⟨g, j, none⟩ u) aoA nA nP h A ao rs b := by
  have hn : 0 < rs.length := by
    have h1 := c.inb
    have h2 := c.bk.len
    have h3 := c.lenP
    unfold Sg.inBounds at h1
    simp only [Bool.and_eq_true, decide_eq_true_eq] at h1
    omega
  have hne : b ≠ g := hB.ne (o := 0 * 11 + 3) (v := .int .u64 (nHi rs[0].t0)) ((c.bk.cells 0 hn 3 (by omega)).trans rfl) (by simp)
  refine ⟨c.accs.off hB, c.lenA, c.lenP, c.inb, c.sizQ, c.bk.at_, by simpa using c.bk.lt, fun i hi j hj => ?_, c.bk.len, fun i hi => ?_, c.bk.fineB, c.bk.fineT⟩
  · rw [off_cell (by exact hne)]
    exact c.bk.cells i hi j hj
  · obtain ⟨h1, h2, h3, g1, g2, g3, aoE, capE, g4, g5⟩ := c.bk.recs i hi
    exact ⟨h1, h2, h3, g1.off hB, g2, g3, aoE, capE, g4, g5.off hB⟩
end Go.Proofs.Ytoadiibfmcjgaaa

/-
  THE WALKS of book.Read, audit.Verify.
-/
namespace Go.Proofs.Ytoadiibfmcjgaaa
open Go.RowKit
set_option maxRecDepth 100000
attribute [local go_sem ↓] Go.wp_at_zero Go.wp_at_succ

namespace Sg
theorem rdAcc_small (s : List UInt8) : (rdAcc s).1.name.size ≤ 255 ∧ fits (rdAcc s).1.line = true := by
  unfold rdAcc
  refine ⟨?_, fits_nat (one_lt _)⟩
  show (ofL _).size ≤ 255
  rw [ofL_size]
  have := one_lt s
  simp
  omega
theorem rdEnt_small (s : List UInt8) : (rdEnt rdP s).1.memo.size ≤ 255 ∧ (rdEnt rdP s).1.posts.length ≤ 255 := by
  unfold rdEnt
  refine ⟨?_, ?_⟩
  · show (ofL _).size ≤ 255
    rw [ofL_size]
    have := one_lt s
    simp
    omega
  · show (rdMany _ _ _).1.length ≤ 255
    rw [rdMany_len]
    exact Nat.min_le_right _ _
theorem rdPer_small (n : Nat) (s : List UInt8) : (rdPer rdP n s).1.length ≤ 255 ∧ ∀ e ∈ (rdPer rdP n s).1, e.memo.size ≤ 255 ∧ e.posts.length ≤ 255 := by
  unfold rdPer
  refine ⟨?_, ?_⟩
  · show (rdMany _ _ _).1.length ≤ 255
    rw [rdMany_len]
    exact Nat.min_le_right _ _
  · exact rdMany_all (rdEnt rdP) (fun e => e.memo.size ≤ 255 ∧ e.posts.length ≤ 255) rdEnt_small _ _
end Sg

theorem same_txt {x y : ByteArray} (h : x.toList = y.toList) : x = y := by
  rw [ByteArray.toList_eq, ByteArray.toList_eq] at h
  exact Go.WideShapes.bytes_inj h
theorem slBox_two {w : World} {g : Nat} {t : TypeId} (h : Two w g nilV nilV t) : SlBox w g := by
  refine ⟨_, _, h, fun i v hv => ?_⟩
  match i, hv with
  | 0, hv => simp at hv; exact ⟨_, _, _, hv.symm⟩
  | 1, hv => simp at hv; exact ⟨_, _, _, hv.symm⟩
  | i + 2, hv => simp at hv
/-- A history that was read, as Close asks for it. -/
theorem rdHist_in {W : World} {B : Nat} {vA vP : Value} {s : List UInt8} (hA : OwnA W B vA (Sg.rdHist Sg.rdP s).accs) (hP : OwnPs W B vP (Sg.rdHist Sg.rdP s).pers) :
    ∃ aoA capA aoP capP, vA = .slice aoA (Sg.rdHist Sg.rdP s).accs.length capA ∧ vP = .slice aoP (Sg.rdHist Sg.rdP s).pers.length capP ∧ (Sg.rdHist Sg.rdP s).accs.length ≤ capA ∧ capA ≤ 9223372036854775807 ∧ HistIn W aoA aoP (Sg.rdHist Sg.rdP s).accs.length (Sg.rdHist Sg.rdP s).pers.length (Sg.rdHist Sg.rdP s) := by
  obtain ⟨aoA, capA, e1, c1, c2, iA⟩ := hA.in_
  obtain ⟨aoP, capP, e2, _, iP⟩ := hP.in_
  have kA : ∀ a ∈ (Sg.rdHist Sg.rdP s).accs, a.name.size ≤ 255 ∧ Sg.fits a.line = true := Sg.rdMany_all Sg.rdAcc (fun a => a.name.size ≤ 255 ∧ Sg.fits a.line = true) Sg.rdAcc_small _ _
  have kP : ∀ p ∈ (Sg.rdHist Sg.rdP s).pers, p.length ≤ 255 ∧ ∀ e ∈ p, e.memo.size ≤ 255 ∧ e.posts.length ≤ 255 := Sg.rdMany_all (Sg.rdPer Sg.rdP _) (fun p => p.length ≤ 255 ∧ ∀ e ∈ p, e.memo.size ≤ 255 ∧ e.posts.length ≤ 255) (Sg.rdPer_small _) _ _
  refine ⟨aoA, capA, aoP, capP, e1, e2, c1, by unfold maxLen at c2; omega, iA, iP, rfl, rfl, fun a ha => ⟨by have := (kA a ha).1; omega, (kA a ha).2⟩, fun p hp => ⟨by have := (kP p hp).1; omega, fun e he => ?_⟩, Sg.rdHist_fits (fun s => Sg.fits_wrap _) s⟩
  have := (kP p hp).2 e he
  omega

set_option maxHeartbeats 3200000 in
/-- book.Read: a text is a package, or it is refused. -/
theorem bRead_any (t : ByteArray) (w : World) :
    Calls Try.prog 55 #[.string t] w fun e w' => Below w.heap.size w w' ∧
      ((¬ Sg.isPk (Sg.rdHist Sg.rdP (Sg.tx t)) t ∧ e = .returned (.tuple #[.agg #[nilV, nilV], .int .i64 5])) ∨
       (Sg.isPk (Sg.rdHist Sg.rdP (Sg.tx t)) t ∧ ∃ aoA nA nP capA ao cap rs b, e = .returned (.tuple #[.agg #[.slice aoA nA capA, .slice ao nP cap], .int .i64 0]) ∧ Closed w' aoA nA nP (Sg.rdHist Sg.rdP (Sg.tx t)) (.slice aoA nA capA) ao rs b)) := by
  obtain ⟨h, hh⟩ : ∃ h, Sg.rdHist Sg.rdP (Sg.tx t) = h := ⟨_, rfl⟩
  rw [hh]
  have HHH : Hid (Sg.rdHist Sg.rdP (Sg.tx t) = h) := hh
  clear hh
  have hT := Two.new w nilV nilV 93
  have a0 : Below w.heap.size w (w.alloc (.cells #[nilV, nilV] 93)) := (Below.refl _ _).alloc (Nat.le_refl _) _
  go_enter Try.func55, Try.ntmps55
  go_wp2_with fail
  refine (layRead_any t _).mono ?_
  rintro e w1 ⟨rfl, hR1, hb1, hz1⟩
  have hT1 := hT.below hb1
  have b01 := a0.trans (hb1.mono a0.size)
  have hz0 : (w.alloc (.cells #[nilV, nilV] 93)).heap.size = w.heap.size + 1 := by simp
  rw [hz0] at hR1 hz1
  clear hT a0 hb1
  go_wp2_with fail
  refine (readHistory_any (Sg.tx t) (w.heap.size + 1) _ hR1).mono ?_
  rintro e w2 ⟨vA, vP, rfl, hA, hP, s', hr2⟩
  have hT2 : Two w2 w.heap.size nilV nilV 93 := (hr2.block (lt_of_block hT1) (by omega)).trans hT1
  have b02 : Below w.heap.size w w2 := b01.grown hr2.grown b01.size (fun k hk => by simp at hk; omega)
  obtain ⟨aoA, capA, aoP, capP, hvA, hvP, hnc, hcap, hH⟩ := rdHist_in hA hP
  rw [HHH.out] at hvA hvP hnc hH
  obtain ⟨nA, hnA⟩ : ∃ k, h.accs.length = k := ⟨_, rfl⟩
  obtain ⟨nP, hnP⟩ : ∃ k, h.pers.length = k := ⟨_, rfl⟩
  rw [hnA] at hvA hnc hH
  rw [hnP] at hvP hH
  subst hvA hvP
  have hcall := bClose_any h aoA aoP nA nP capA capP w2 hH hnc hcap
  have HH : Hid (HistIn w2 aoA aoP nA nP h) := hH
  clear hA hP hr2 b01 hT1 hR1 hnA hnP hH hz1 hz0
  go_wp2_with fail
  refine hcall.mono ?_
  rintro e w3 ⟨hb3, hcase⟩
  have b03 := b02.trans (hb3.mono b02.size)
  have hT3 := hT2.below hb3
  have hsz3 : w.heap.size < w3.heap.size := lt_of_block hT3
  clear hcall
  rcases hcase with ⟨he, rfl⟩ | ⟨hib, he, ao, cap, rs, b, rfl, hcc, hBk⟩
  · have qz : (Sg.closeErr h != 0) = true := by rw [bne_iff_ne]; exact he
    have HN : Hid (¬ Sg.isPk h t) := fun hp => he hp.1
    clear he
    generalize Sg.closeErr h = ee at *
    have aB : Below w3.heap.size w3 (w3.alloc (.cells #[nilV, nilV] 93)) := (Below.refl _ _).alloc (Nat.le_refl _) _
    have hT4 := hT3.below aB
    have b04 := b03.trans (aB.mono b03.size)
    clear hT3 b03 aB hb3
    go_upto_region 2 with fail
    generalize w3.alloc (.cells #[nilV, nilV] 93) = w4 at *
    obtain ⟨c0, c1⟩ := hT4.cells
    obtain ⟨f0, f1⟩ := two_frozen hT4
    have HB : Hid (Below w.heap.size w ((w4.setCell ⟨w.heap.size, 0, none⟩ nilV).setCell ⟨w.heap.size, 1, none⟩ nilV)) := (b04.setCell (Nat.le_refl _) _).setCell (Nat.le_refl _) _
    go_wp2_with fail
    refine bodyPost_ret (v := .tuple #[.agg #[nilV, nilV], .int .i64 5]) (by simp [results, Try.results55, go_sem, c0, c1]) rfl ⟨HB.out, Or.inl ⟨HN.out, rfl⟩⟩
  · have hC : Closed w3 aoA nA nP h (.slice aoA nA capA) ao rs b := ⟨HH.out.accs.below hb3, HH.out.lenA, HH.out.lenP, hib, HH.out.sizQ, hBk⟩
    have HPk : Hid (Sg.package h = Sg.pkTo h (Sg.balances h) (Sg.totals h) nP ∧ Sg.closeErr h = 0) := by
      unfold Sg.package; rw [if_pos he, HH.out.lenP]; exact ⟨rfl, he⟩
    have aB : Below w3.heap.size w3 (w3.alloc (.cells #[.slice aoA nA capA, .slice ao nP cap] 93)) := (Below.refl _ _).alloc (Nat.le_refl _) _
    have hT4 := hT3.below aB
    have b04 := b03.trans (aB.mono b03.size)
    have hTb := Two.new w3 (.slice aoA nA capA) (.slice ao nP cap) 93
    have hcall := bText_any h aoA ao nA nP capA cap b rs _ (hC.below aB)
    have HC : Hid (Closed (w3.alloc (.cells #[.slice aoA nA capA, .slice ao nP cap] 93)) aoA nA nP h (.slice aoA nA capA) ao rs b) := hC.below aB
    clear hC hBk he hib aB hT3 b03
    go_wp2_with fail
    refine hcall.mono ?_
    rintro e w5 ⟨y, rfl, hy, hb5⟩
    clear hcall
    have hT5 := hT4.below hb5
    have hTb5 := hTb.below hb5
    have b05 := b04.trans (hb5.mono b04.size)
    have HC5 : Hid (Closed w5 aoA nA nP h (.slice aoA nA capA) ao rs b) := HC.out.below hb5
    obtain ⟨c0, c1⟩ := hT5.cells
    obtain ⟨f0, f1⟩ := two_frozen hT5
    obtain ⟨d0, d1⟩ := hTb5.cells
    clear hT4 hTb b04 HC hb5
    by_cases e : y.toList = t.toList
    · have HY : Hid (Sg.isPk h t) := ⟨HPk.out.2, by rw [HPk.out.1, ← hy.out]; exact same_txt e⟩
      have hyt := same_txt e
      subst hyt
      have HB : Hid (Below w.heap.size w ((w5.setCell ⟨w.heap.size, 0, none⟩ (.slice aoA nA capA)).setCell ⟨w.heap.size, 1, none⟩ (.slice ao nP cap))) := (b05.setCell (Nat.le_refl _) _).setCell (Nat.le_refl _) _
      have HC6 : Hid (Closed ((w5.setCell ⟨w.heap.size, 0, none⟩ (.slice aoA nA capA)).setCell ⟨w.heap.size, 1, none⟩ (.slice ao nP cap)) aoA nA nP h (.slice aoA nA capA) ao rs b) := (HC5.out.off (slBox_two hT5)).off ((slBox_two hT5).set _ _ _ _)
      go_wp2_with fail
      refine bodyPost_ret (v := .tuple #[.agg #[.slice aoA nA capA, .slice ao nP cap], .int .i64 0]) (by simp [results, Try.results55, go_sem, c0, c1]) rfl ⟨HB.out, Or.inr ⟨HY.out, _, _, _, _, _, _, _, _, rfl, HC6.out⟩⟩
    · have eb : (y.toList == t.toList) = false := by simp [e]
      have HN : Hid (¬ Sg.isPk h t) := fun hp => e (by rw [hy.out, ← HPk.out.1, hp.2])
      have HB : Hid (Below w.heap.size w ((w5.setCell ⟨w.heap.size, 0, none⟩ nilV).setCell ⟨w.heap.size, 1, none⟩ nilV)) := (b05.setCell (Nat.le_refl _) _).setCell (Nat.le_refl _) _
      go_wp2_with fail
      refine bodyPost_ret (v := .tuple #[.agg #[nilV, nilV], .int .i64 5]) (by simp [results, Try.results55, go_sem, c0, c1]) rfl ⟨HB.out, Or.inl ⟨HN.out, rfl⟩⟩

/-- What Verify answers of a package. -/
def Sg.verErr (h : Sg.Hist) (hd : ByteArray) : Int := if Sg.headOf h = hd then 0 else 6
set_option maxHeartbeats 1600000 in
/-- audit.Verify. -/
theorem verify_any (t hd : ByteArray) (w : World) :
    Calls Try.prog 33 #[.string t, .string hd] w fun e w' => Below w.heap.size w w' ∧
      ((¬ Sg.isPk (Sg.rdHist Sg.rdP (Sg.tx t)) t ∧ e = .returned (.int .i64 5)) ∨
       (Sg.isPk (Sg.rdHist Sg.rdP (Sg.tx t)) t ∧ e = .returned (.int .i64 (Sg.verErr (Sg.rdHist Sg.rdP (Sg.tx t)) hd)))) := by
  obtain ⟨h, hh⟩ : ∃ h, Sg.rdHist Sg.rdP (Sg.tx t) = h := ⟨_, rfl⟩
  have hcall := bRead_any t w
  rw [hh] at hcall ⊢
  clear hh
  go_enter Try.func33, Try.ntmps33
  go_wp2_with fail
  refine hcall.mono ?_
  rintro e w1 ⟨hb1, hcase⟩
  clear hcall
  rcases hcase with ⟨hn, rfl⟩ | ⟨hy, aoA, nA, nP, capA, ao, cap, rs, b, rfl, hC⟩
  · have HN : Hid (¬ Sg.isPk h t) := hn
    clear hn
    go_wp2_with fail
    go_ret
    exact ⟨hb1.alloc hb1.size _, Or.inl ⟨HN.out, rfl⟩⟩
  · have aB : Below w1.heap.size w1 (w1.alloc (.cells #[.slice aoA nA capA, .slice ao nP cap] 93)) := (Below.refl _ _).alloc (Nat.le_refl _) _
    have b2 := hb1.trans (aB.mono hb1.size)
    have hfine : ∀ p ∈ h.pers, perFine nA p := by
      intro p hp
      obtain ⟨h1, h2⟩ := Sg.bnd_pers hC.inb p hp
      have hc := hy.1
      unfold Sg.closeErr at hc
      rw [if_pos hC.inb] at hc
      refine ⟨h1, fun e he => ⟨(h2 e he).1, (h2 e he).2, fun u hu => ?_⟩⟩
      have h3 := Sg.persTo_ok _ _ _ hc p hp e he u hu
      rw [hC.lenA] at h3
      exact ⟨h3.1, h3.2, (hC.sizQ p hp e he u hu).2⟩
    have hcall := bHead_any h aoA ao nA nP capA cap b rs _ (hC.below aB) hfine
    have HY : Hid (Sg.isPk h t) := hy
    have HH : Hid (Sg.headOf h = (Sg.hdTo h (Sg.balances h) (Sg.totals h) nP).2) := by
      show _ = _
      unfold Sg.headOf
      rw [if_pos hy.1, hC.lenP]
    clear hy hC hfine hb1 aB
    go_wp2_with fail
    refine hcall.mono ?_
    rintro e w3 ⟨y, rfl, hy2, hb3⟩
    clear hcall
    have b3 := b2.trans (hb3.mono b2.size)
    by_cases e : y.toList = hd.toList
    · have ey := same_txt e
      have HE : Hid (Sg.headOf h = hd) := by show _ = _; rw [HH.out, ← hy2.out, ey]
      subst ey
      go_wp2_with fail
      go_ret
      exact ⟨b3, Or.inr ⟨HY.out, by unfold Sg.verErr; rw [if_pos HE.out]; rfl⟩⟩
    · have eb : (y.toList == hd.toList) = false := by simp [e]
      have HE : Hid (¬ Sg.headOf h = hd) := fun h' => e (by rw [hy2.out, ← HH.out, h'])
      go_wp2_with fail
      go_ret
      exact ⟨b3, Or.inr ⟨HY.out, by unfold Sg.verErr; rw [if_neg HE.out]; rfl⟩⟩
end Go.Proofs.Ytoadiibfmcjgaaa

/-
  THE WALKS of signetref.Verify, signetlaw.Verifies (P8).
-/
namespace Go.Proofs.Ytoadiibfmcjgaaa
open Go.RowKit
set_option maxRecDepth 100000
attribute [local go_sem ↓] Go.wp_at_zero Go.wp_at_succ

set_option maxHeartbeats 1600000 in
/-- signetref.Verify. -/
theorem refVerify_any (t hd : ByteArray) (w : World) (ht : t.size ≤ 140737488355328) :
    Calls Try.prog 34 #[.string t, .string hd] w fun e w' => Below w.heap.size w w' ∧
      ((¬ Sg.isPk (Sg.rdHist Sg.rdR (Sg.tx t)) t ∧ e = .returned (.int .i64 5)) ∨
       (Sg.isPk (Sg.rdHist Sg.rdR (Sg.tx t)) t ∧ e = .returned (.int .i64 (Sg.verErr (Sg.rdHist Sg.rdR (Sg.tx t)) hd)))) := by
  obtain ⟨h, hh⟩ : ∃ h, Sg.rdHist Sg.rdR (Sg.tx t) = h := ⟨_, rfl⟩
  have hcall := open_any t w ht
  rw [hh] at hcall ⊢
  clear hh
  go_enter Try.func34, Try.ntmps34
  go_wp2_with fail
  refine hcall.mono ?_
  rintro e w1 ⟨hb1, hcase⟩
  clear hcall
  rcases hcase with ⟨hn, rfl⟩ | ⟨hy, aoA, aoP, aoB, aoT, nA, nP, capA, capP, capB, capT, rfl, h1, hC⟩
  · have HN : Hid (¬ Sg.isPk h t) := hn
    clear hn
    go_wp2_with fail
    go_ret
    exact ⟨hb1.alloc hb1.size _, Or.inl ⟨HN.out, rfl⟩⟩
  · have aB : Below w1.heap.size w1 (w1.alloc (.cells #[.slice aoA nA capA, .slice aoP nP capP, .slice aoB nP capB, .slice aoT nP capT] 65)) := (Below.refl _ _).alloc (Nat.le_refl _) _
    have b2 := hb1.trans (aB.mono hb1.size)
    have hcall := head_any h (Sg.balances h) (Sg.totals h) aoA aoP aoB aoT nA nP capA capP capB capT _ (hC.below aB) h1
    have HY : Hid (Sg.isPk h t) := hy
    have HH : Hid (Sg.headOf h = (Sg.hdTo h (Sg.balances h) (Sg.totals h) nP).2) := by
      show _ = _
      unfold Sg.headOf
      rw [if_pos hy.1, hC.lenP]
    clear hy hC hb1 aB
    generalize (Sg.hdTo h (Sg.balances h) (Sg.totals h) nP).2 = y at *
    go_wp2_with fail
    refine hcall.mono ?_
    rintro e w3 ⟨rfl, hb3⟩
    clear hcall
    have b3 := b2.trans (hb3.mono b2.size)
    by_cases e : y.toList = hd.toList
    · have ey := same_txt e
      have HE : Hid (Sg.headOf h = hd) := by show _ = _; rw [HH.out, ey]
      subst ey
      go_wp2_with fail
      go_ret
      exact ⟨b3, Or.inr ⟨HY.out, by unfold Sg.verErr; rw [if_pos HE.out]; rfl⟩⟩
    · have eb : (y.toList == hd.toList) = false := by simp [e]
      have HE : Hid (¬ Sg.headOf h = hd) := fun h' => e (by rw [← HH.out, h'])
      go_wp2_with fail
      go_ret
      exact ⟨b3, Or.inr ⟨HY.out, by unfold Sg.verErr; rw [if_neg HE.out]; rfl⟩⟩

/-- What both answer. -/
def Sg.verAll (t hd : ByteArray) : Int := if Sg.isPk (Sg.rdHist Sg.rdP (Sg.tx t)) t then Sg.verErr (Sg.rdHist Sg.rdP (Sg.tx t)) hd else 5
theorem verify_all (t hd : ByteArray) (w : World) :
    Calls Try.prog 33 #[.string t, .string hd] w fun e w' => e = .returned (.int .i64 (Sg.verAll t hd)) ∧ Below w.heap.size w w' := by
  refine (verify_any t hd w).mono ?_
  rintro e w' ⟨hb, ⟨hn, rfl⟩ | ⟨hy, rfl⟩⟩
  · exact ⟨by unfold Sg.verAll; rw [if_neg hn], hb⟩
  · exact ⟨by unfold Sg.verAll; rw [if_pos hy], hb⟩
theorem refVerify_all (t hd : ByteArray) (w : World) (ht : t.size ≤ 140737488355328) :
    Calls Try.prog 34 #[.string t, .string hd] w fun e w' => e = .returned (.int .i64 (Sg.verAll t hd)) ∧ Below w.heap.size w w' := by
  obtain ⟨hiff, hsame⟩ := Sg.read_both t
  refine (refVerify_any t hd w ht).mono ?_
  rintro e w' ⟨hb, ⟨hn, rfl⟩ | ⟨hy, rfl⟩⟩
  · exact ⟨by unfold Sg.verAll; rw [if_neg (fun h => hn (hiff.1 h))], hb⟩
  · have hy' := hiff.2 hy
    exact ⟨by unfold Sg.verAll; rw [if_pos hy', hsame hy'], hb⟩

set_option maxHeartbeats 800000 in
theorem verifies_any (t hd : ByteArray) (w : World) (ht : t.size ≤ 140737488355328) :
    Calls Try.prog 7 #[.string t, .string hd] w fun e w' => e = .returned (.bool true) ∧ Below w.heap.size w w' := by
  obtain ⟨v, hv⟩ : ∃ v, Sg.verAll t hd = v := ⟨_, rfl⟩
  have c1 := fun W => verify_all t hd W
  have c2 := fun W => refVerify_all t hd W ht
  rw [hv] at c1 c2
  clear hv
  go_enter Try.func7, Try.ntmps7
  go_wp2_with fail
  refine (c1 _).mono ?_
  rintro e w1 ⟨rfl, hb1⟩
  go_wp2_with fail
  refine (c2 _).mono ?_
  rintro e w2 ⟨rfl, hb2⟩
  clear c1 c2
  go_wp2_with fail
  go_ret
  exact ⟨rfl, hb1.trans (hb2.mono hb1.size)⟩
end Go.Proofs.Ytoadiibfmcjgaaa
