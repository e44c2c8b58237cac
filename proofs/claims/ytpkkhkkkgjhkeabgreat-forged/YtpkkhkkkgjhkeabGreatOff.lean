import Derived.Test.YtpkkhkkkgjhkeabGreatPkText
import Derived.Test.YtpkkhkkkgjhkeabGreatReader
import Derived.Test.YtpkkhkkkgjhkeabGreatHhead
import Derived.Deep.CutRange
/-
  A STORE INTO A BOX OF SLICES turns nothing of what a closed book is read from.
-/
namespace Go.Proofs.YtpkkhkkkgjhkeabGreat
open Go.RowKit
set_option maxRecDepth 100000

/-- A block whose cells are slices alone. -/
def SlBox (w : World) (g : Nat) : Prop := ∃ cs t, w.heap[g]? = some (.cells cs t (0, 0)) ∧ ∀ (i : Nat) (v : Value), cs[i]? = some v → ∃ ao n c, v = .slice ao n c
theorem SlBox.ne {w : World} {g b o : Nat} {v : Value} (h : SlBox w g) (hc : w.cell? ⟨b, o, none⟩ = some v) (hv : ∀ ao n c, v ≠ .slice ao n c) : b ≠ g := by
  intro e
  subst e
  obtain ⟨cs, t, hh, hall⟩ := h
  rw [cell_of_row w _ o _ _ _ hh] at hc
  obtain ⟨ao, n, c, e⟩ := hall o v hc
  exact hv ao n c e
theorem SlBox.set {w : World} {g : Nat} (h : SlBox w g) (j : Nat) (ao : Option Addr) (n c : Nat) : SlBox (w.setCell ⟨g, j, none⟩ (.slice ao n c)) g := by
  obtain ⟨cs, t, hh, hall⟩ := h
  refine ⟨cs.setIfInBounds j (.slice ao n c), t, heap_setCell_same w g j cs t _ hh, fun i v hv => ?_⟩
  by_cases e : i = j
  · subst e
    rw [Array.getElem?_setIfInBounds] at hv
    simp only [if_true] at hv
    split at hv
    · simp at hv; exact ⟨_, _, _, hv.symm⟩
    · simp at hv
  · rw [Array.getElem?_setIfInBounds_ne (Ne.symm e)] at hv
    exact hall i v hv
theorem off_cell {w : World} {g j : Nat} {u : Value} {p : Addr} (hne : p.block ≠ g) : (w.setCell ⟨g, j, none⟩ u).cell? p = w.cell? p :=
  World.cell?_of_block (heap_setCell_other w ⟨g, j, none⟩ p.block u hne)
theorem PstsIn.off {w : World} {g j : Nat} {u : Value} {ao : Option Addr} {ps : List Sg.Pst} (h : PstsIn w ao ps) (hB : SlBox w g) : PstsIn (w.setCell ⟨g, j, none⟩ u) ao ps := by
  rcases h with h0 | ⟨b, off, e, hb, hat⟩
  · exact Or.inl h0
  · by_cases h0 : ps.length = 0
    · exact Or.inl h0
    · have hne := hB.ne (hat 0 (by omega)).1 (by simp)
      refine Or.inr ⟨b, off, e, by simpa using hb, fun i hi => ?_⟩
      rw [off_cell (by exact hne), off_cell (by exact hne)]
      exact hat i hi
theorem EntsIn.off {w : World} {g j : Nat} {u : Value} {ao : Option Addr} {es : List Sg.Ent} (h : EntsIn w ao es) (hB : SlBox w g) : EntsIn (w.setCell ⟨g, j, none⟩ u) ao es := by
  rcases h with h0 | ⟨b, off, e, hb, hat⟩
  · exact Or.inl h0
  · by_cases h0 : es.length = 0
    · exact Or.inl h0
    · have hne := hB.ne (hat 0 (by omega)).1 (by simp)
      refine Or.inr ⟨b, off, e, by simpa using hb, fun i hi => ?_⟩
      rw [off_cell (by exact hne), off_cell (by exact hne)]
      obtain ⟨h1, ao', cap', h2, h3⟩ := hat i hi
      exact ⟨h1, ao', cap', h2, h3.off hB⟩
theorem AccsIn.off {w : World} {g j : Nat} {u : Value} {ao : Option Addr} {ac : List Sg.Acc} (h : AccsIn w ao ac) (hB : SlBox w g) : AccsIn (w.setCell ⟨g, j, none⟩ u) ao ac := by
  rcases h with h0 | ⟨b, off, e, hb, hat⟩
  · exact Or.inl h0
  · by_cases h0 : ac.length = 0
    · exact Or.inl h0
    · have hne := hB.ne (hat 0 (by omega)).1 (by simp)
      refine Or.inr ⟨b, off, e, by simpa using hb, fun i hi => ?_⟩
      rw [off_cell (by exact hne), off_cell (by exact hne)]
      exact hat i hi
theorem BalIn.off {w : World} {g j m c : Nat} {u : Value} {now : List Int} (h : BalIn w m c now) (hB : SlBox w g) : BalIn (w.setCell ⟨g, j, none⟩ u) m c now := by
  refine h.block (heap_setCell_other w ⟨g, j, none⟩ m u (fun e => ?_))
  obtain ⟨D, ⟨es, clock, h1, _⟩, _⟩ := h
  obtain ⟨cs, t, hh, _⟩ := hB
  have e' : m = g := e
  subst e'
  rw [hh] at h1
  simp at h1
theorem Closed.off {w : World} {g j nA nP b : Nat} {u A : Value} {aoA ao : Option Addr} {h : Sg.Hist} {rs : List Rec} (c : Closed w aoA nA nP h A ao rs b) (hB : SlBox w g) : Closed (w.setCell ⟨g, j, none⟩ u) aoA nA nP h A ao rs b := by
  have hn : 0 < rs.length := by
    have h1 := c.inb
    have h2 := c.bk.len
    have h3 := c.lenP
    unfold Sg.inBounds at h1
    simp only [Bool.and_eq_true, decide_eq_true_eq] at h1
    omega
  have hne : b ≠ g := hB.ne (o := 0 * 11 + 3) (v := .int .u64 (nHi rs[0].t0)) ((c.bk.cells 0 hn 3 (by omega)).trans rfl) (by simp)
  refine ⟨c.accs.off hB, c.lenA, c.lenP, c.inb, c.sizQ, c.bk.at_, by simpa using c.bk.lt, fun i hi j hj => ?_, c.bk.len, fun i hi => ?_, c.bk.fineB, c.bk.fineT⟩
  · rw [off_cell (by exact hne)]
    exact c.bk.cells i hi j hj
  · obtain ⟨h1, h2, h3, g1, g2, g3, aoE, capE, g4, g5⟩ := c.bk.recs i hi
    exact ⟨h1, h2, h3, g1.off hB, g2, g3, aoE, capE, g4, g5.off hB⟩
end Go.Proofs.YtpkkhkkkgjhkeabGreat

/-
  THE WALKS of book.Read, audit.Verify.
-/
namespace Go.Proofs.YtpkkhkkkgjhkeabGreat
open Go.RowKit
set_option maxRecDepth 100000
attribute [local go_sem ↓] Go.wp_at_zero Go.wp_at_succ

theorem same_txt {x y : ByteArray} (h : x.toList = y.toList) : x = y := by
  rw [ByteArray.toList_eq, ByteArray.toList_eq] at h
  exact Go.WideShapes.bytes_inj h
theorem slBox_two {w : World} {g : Nat} {t : TypeId} (h : Two w g nilV nilV t) : SlBox w g := by
  refine ⟨_, _, h, fun i v hv => ?_⟩
  match i, hv with
  | 0, hv => simp at hv; exact ⟨_, _, _, hv.symm⟩
  | 1, hv => simp at hv; exact ⟨_, _, _, hv.symm⟩
  | i + 2, hv => simp at hv
/-- A history that was read, as Close asks for it. -/
theorem pdHist_in {W : World} {B : Nat} {vA vP : Value} {s : List UInt8} (hA : OwnA W B vA (Sg.pdHist s).accs) (hP : OwnPs W B vP (Sg.pdHist s).pers) :
    ∃ aoA capA aoP capP, vA = .slice aoA (Sg.pdHist s).accs.length capA ∧ vP = .slice aoP (Sg.pdHist s).pers.length capP ∧ (Sg.pdHist s).accs.length ≤ capA ∧ capA ≤ 9223372036854775807 ∧ HistIn W aoA aoP (Sg.pdHist s).accs.length (Sg.pdHist s).pers.length (Sg.pdHist s) := by
  obtain ⟨aoA, capA, e1, c1, c2, iA⟩ := hA.in_
  obtain ⟨aoP, capP, e2, _, iP⟩ := hP.in_
  have kA : ∀ a ∈ (Sg.pdHist s).accs, a.name.size ≤ 255 ∧ Sg.fits a.line = true := Sg.pdMany_all Sg.pdAcc (fun a => a.name.size ≤ 255 ∧ Sg.fits a.line = true) Sg.pdAcc_small _ _
  have kP : ∀ p ∈ (Sg.pdHist s).pers, p.length ≤ 255 ∧ ∀ e ∈ p, e.memo.size ≤ 255 ∧ e.posts.length ≤ 255 := Sg.pdMany_all (Sg.pdPer _) (fun p => p.length ≤ 255 ∧ ∀ e ∈ p, e.memo.size ≤ 255 ∧ e.posts.length ≤ 255) (Sg.pdPer_small _) _ _
  refine ⟨aoA, capA, aoP, capP, e1, e2, c1, by unfold maxLen at c2; omega, iA, iP, rfl, rfl, fun a ha => ⟨by have := (kA a ha).1; omega, (kA a ha).2⟩, fun p hp => ⟨by have := (kP p hp).1; omega, fun e he => ?_⟩, Sg.pdHist_fits s⟩
  have := (kP p hp).2 e he
  omega

/-- A book that was read holds lists of its own. -/
def ReadOwn (w w' : World) (rs : List Rec) (h : Sg.Hist) (A : Value) : Prop := OwnA w' w.heap.size A h.accs ∧ (∀ i (_ : i < rs.length) (_ : i < h.pers.length), OwnE w' w.heap.size rs[i].eV h.pers[i]) ∧ Apart (rs.map Rec.eV)
theorem ev_key {w : World} {B nP capP : Nat} {aoP : Option Addr} {rs : List Rec} {ps : List (List Sg.Ent)} {us : List Value} (hEv : EvAt w aoP rs) (hrow : w.ownsRow B 42 1 (.slice aoP nP capP) ps.length us) (ul : us.length = ps.length) (i : Nat) (h1 : i < rs.length) (h3 : i < us.length) : rs[i].eV = us[i] := by
  obtain ⟨b, off, e1, e2⟩ := hEv i h1
  obtain ⟨g, cap, e3, _, _⟩ := hrow.form (by omega)
  subst e1
  simp only [Value.slice.injEq, Option.some.injEq, Addr.mk.injEq, and_true] at e3
  obtain ⟨⟨rfl, rfl⟩, rfl, rfl⟩ := e3
  have hc := World.ownsRow.cellAt hrow i (by omega)
  rw [Nat.zero_add, hc, List.getElem?_eq_getElem (by omega)] at e2
  simp only [Option.some.injEq] at e2
  exact e2.symm
theorem ev_own {w : World} {B nP capP : Nat} {aoP : Option Addr} {rs : List Rec} {ps : List (List Sg.Ent)} (hEv : EvAt w aoP rs) (hP : OwnPsA w B (.slice aoP nP capP) ps) (hl : rs.length = ps.length) : (∀ i (_ : i < rs.length) (_ : i < ps.length), OwnE w B rs[i].eV ps[i]) ∧ Apart (rs.map Rec.eV) := by
  obtain ⟨us, ul, hrow, hus, hap⟩ := hP
  have key : ∀ i (_ : i < rs.length) (_ : i < us.length), rs[i].eV = us[i] := fun i h1 h3 => ev_key hEv hrow ul i h1 h3
  have e : rs.map Rec.eV = us := by
    apply List.ext_getElem
    · simp; omega
    · intro i h1 h2
      rw [List.getElem_map]
      exact key i (by simpa using h1) h2
  refine ⟨fun i h1 h2 => ?_, by rw [e]; exact hap⟩
  rw [key i h1 (by omega)]
  exact hus i h2 (by omega)

set_option maxHeartbeats 3200000 in
/-- book.Read: a text is a package, or it is refused. -/
theorem bRead_any (t : ByteArray) (w : World) :
    Calls Tryz.prog 20 #[.string t] w fun e w' => Below w.heap.size w w' ∧
      ((¬ Sg.isPk (Sg.pdHist (Sg.tx t)) t ∧ e = .returned (.tuple #[.agg #[nilV, nilV], .int .i64 5])) ∨
       (Sg.isPk (Sg.pdHist (Sg.tx t)) t ∧ ∃ aoA nA nP capA ao cap rs b, e = .returned (.tuple #[.agg #[.slice aoA nA capA, .slice ao nP cap], .int .i64 0]) ∧ (nA ≤ capA ∧ capA ≤ 9223372036854775807) ∧ Closed w' aoA nA nP (Sg.pdHist (Sg.tx t)) (.slice aoA nA capA) ao rs b ∧ ReadOwn w w' rs (Sg.pdHist (Sg.tx t)) (.slice aoA nA capA))) := by
  obtain ⟨h, hh⟩ : ∃ h, Sg.pdHist (Sg.tx t) = h := ⟨_, rfl⟩
  rw [hh]
  have HHH : Hid (Sg.pdHist (Sg.tx t) = h) := hh
  clear hh
  have hT := Two.new w nilV nilV 65
  have a0 : Below w.heap.size w (w.alloc (.cells #[nilV, nilV] 65)) := (Below.refl _ _).alloc (Nat.le_refl _) _
  go_enter Tryz.func20, Tryz.ntmps20
  go_wp2_with fail
  refine (layRead_any t _).mono ?_
  rintro e w1 ⟨rfl, hR1, hb1, hz1⟩
  have hT1 := hT.below hb1
  have b01 := a0.trans (hb1.mono a0.size)
  have hz0 : (w.alloc (.cells #[nilV, nilV] 65)).heap.size = w.heap.size + 1 := by simp
  rw [hz0] at hR1 hz1
  clear hT a0 hb1
  go_wp2_with fail
  refine (readHistory_any (Sg.tx t, false) (w.heap.size + 1) _ hR1).mono ?_
  rintro e w2 ⟨vA, vP, rfl, hA, hP, s', hr2⟩
  have hT2 : Two w2 w.heap.size nilV nilV 65 := (hr2.block (lt_of_block hT1) (by omega)).trans hT1
  have b02 : Below w.heap.size w w2 := b01.grown hr2.grown b01.size (fun k hk => by simp at hk; omega)
  obtain ⟨aoA, capA, aoP, capP, hvA, hvP, hnc, hcap, hH⟩ := pdHist_in hA hP.own
  change OwnA _ _ _ (Sg.pdHist (Sg.tx t)).accs at hA
  change OwnPsA _ _ _ (Sg.pdHist (Sg.tx t)).pers at hP
  rw [HHH.out] at hvA hvP hnc hH hA hP
  obtain ⟨nA, hnA⟩ : ∃ k, h.accs.length = k := ⟨_, rfl⟩
  obtain ⟨nP, hnP⟩ : ∃ k, h.pers.length = k := ⟨_, rfl⟩
  rw [hnA] at hvA hnc hH
  rw [hnP] at hvP hH
  subst hvA hvP
  have HOA : Hid (OwnA w2 (w.heap.size + 1) (.slice aoA nA capA) h.accs) := ownsRow_mono hA (by omega)
  have HOP : Hid (OwnPsA w2 (w.heap.size + 1) (.slice aoP nP capP) h.pers) := hP.mono (by omega)
  have hcall := bClose_any h aoA aoP nA nP capA capP w2 hH hnc hcap
  have HH : Hid (HistIn w2 aoA aoP nA nP h) := hH
  clear hA hP hr2 b01 hT1 hR1 hnA hnP hH hz1 hz0
  go_wp2_with fail
  refine hcall.mono ?_
  rintro e w3 ⟨hb3, hcase⟩
  have b03 := b02.trans (hb3.mono b02.size)
  have hT3 := hT2.below hb3
  have hsz3 : w.heap.size < w3.heap.size := lt_of_block hT3
  clear hcall
  rcases hcase with ⟨he, rfl⟩ | ⟨hib, he, ao, cap, rs, b, rfl, hcc, hBk, hEv⟩
  · have qz : (Sg.closeErr h != 0) = true := by rw [bne_iff_ne]; exact he
    have HN : Hid (¬ Sg.isPk h t) := fun hp => he hp.1
    clear he
    generalize Sg.closeErr h = ee at *
    have aB : Below w3.heap.size w3 (w3.alloc (.cells #[nilV, nilV] 65)) := (Below.refl _ _).alloc (Nat.le_refl _) _
    have hT4 := hT3.below aB
    have b04 := b03.trans (aB.mono b03.size)
    clear hT3 b03 aB hb3
    go_upto_region 2 with fail
    generalize w3.alloc (.cells #[nilV, nilV] 65) = w4 at *
    obtain ⟨c0, c1⟩ := hT4.cells
    obtain ⟨f0, f1⟩ := two_frozen hT4
    have HB : Hid (Below w.heap.size w ((w4.setCell ⟨w.heap.size, 0, none⟩ nilV).setCell ⟨w.heap.size, 1, none⟩ nilV)) := (b04.setCell (Nat.le_refl _) _).setCell (Nat.le_refl _) _
    go_wp2_with fail
    refine bodyPost_ret (v := .tuple #[.agg #[nilV, nilV], .int .i64 5]) (by simp [results, Tryz.results20, go_sem, c0, c1]) rfl ⟨HB.out, Or.inl ⟨HN.out, rfl⟩⟩
  · have hC : Closed w3 aoA nA nP h (.slice aoA nA capA) ao rs b := ⟨HH.out.accs.below hb3, HH.out.lenA, HH.out.lenP, hib, HH.out.sizQ, hBk⟩
    have HPk : Hid (Sg.package h = Sg.pkTo h (Sg.balances h) (Sg.totals h) nP ∧ Sg.closeErr h = 0) := by
      unfold Sg.package; rw [if_pos he, HH.out.lenP]; exact ⟨rfl, he⟩
    have HOE : Hid ((∀ i (_ : i < rs.length) (_ : i < h.pers.length), OwnE w2 (w.heap.size + 1) rs[i].eV h.pers[i]) ∧ Apart (rs.map Rec.eV)) := ev_own hEv HOP.out (by rw [hBk.len, HH.out.lenP])
    have aB : Below w3.heap.size w3 (w3.alloc (.cells #[.slice aoA nA capA, .slice ao nP cap] 65)) := (Below.refl _ _).alloc (Nat.le_refl _) _
    have hT4 := hT3.below aB
    have b04 := b03.trans (aB.mono b03.size)
    have hTb := Two.new w3 (.slice aoA nA capA) (.slice ao nP cap) 65
    have hcall := bText_any h aoA ao nA nP capA cap b rs _ (hC.below aB)
    have HC : Hid (Closed (w3.alloc (.cells #[.slice aoA nA capA, .slice ao nP cap] 65)) aoA nA nP h (.slice aoA nA capA) ao rs b) := hC.below aB
    clear hC hBk he hib aB hT3 b03
    go_wp2_with fail
    refine hcall.mono ?_
    rintro e w5 ⟨y, rfl, hy, hb5⟩
    clear hcall
    have hT5 := hT4.below hb5
    have hTb5 := hTb.below hb5
    have b05 := b04.trans (hb5.mono b04.size)
    have hb25 : Below w2.heap.size w2 w5 := (hb3.trans (((Below.refl _ _).alloc (Nat.le_refl _) (.cells #[.slice aoA nA capA, .slice ao nP cap] 65)).mono hb3.size)).trans (hb5.mono (by have := hb3.size; simp; omega))
    have HC5 : Hid (Closed w5 aoA nA nP h (.slice aoA nA capA) ao rs b) := HC.out.below hb5
    obtain ⟨c0, c1⟩ := hT5.cells
    obtain ⟨f0, f1⟩ := two_frozen hT5
    obtain ⟨d0, d1⟩ := hTb5.cells
    clear hT4 hTb b04 HC hb5
    by_cases e : y.toList = t.toList
    · have HY : Hid (Sg.isPk h t) := ⟨HPk.out.2, by rw [HPk.out.1, ← hy.out]; exact same_txt e⟩
      have hyt := same_txt e
      subst hyt
      have HB : Hid (Below w.heap.size w ((w5.setCell ⟨w.heap.size, 0, none⟩ (.slice aoA nA capA)).setCell ⟨w.heap.size, 1, none⟩ (.slice ao nP cap))) := (b05.setCell (Nat.le_refl _) _).setCell (Nat.le_refl _) _
      have HC6 : Hid (Closed ((w5.setCell ⟨w.heap.size, 0, none⟩ (.slice aoA nA capA)).setCell ⟨w.heap.size, 1, none⟩ (.slice ao nP cap)) aoA nA nP h (.slice aoA nA capA) ao rs b) := (HC5.out.off (slBox_two hT5)).off ((slBox_two hT5).set _ _ _ _)
      have HRO : Hid (ReadOwn w ((w5.setCell ⟨w.heap.size, 0, none⟩ (.slice aoA nA capA)).setCell ⟨w.heap.size, 1, none⟩ (.slice ao nP cap)) rs h (.slice aoA nA capA)) := by
        refine ⟨?_, fun i h1 h2 => ?_, HOE.out.2⟩
        · exact ownsRow_mono (ownsRow_setCell_below (ownsRow_setCell_below (ownsRow_below HOA.out hb25) (by show w.heap.size < _; omega) _) (by show w.heap.size < _; omega) _) (Nat.le_succ _)
        · exact ((((HOE.out.1 i h1 h2).below hb25).setCell_below (by omega) _).setCell_below (by omega) _).mono (Nat.le_succ _)
      go_wp2_with fail
      refine bodyPost_ret (v := .tuple #[.agg #[.slice aoA nA capA, .slice ao nP cap], .int .i64 0]) (by simp [results, Tryz.results20, go_sem, c0, c1]) rfl ⟨HB.out, Or.inr ⟨HY.out, _, _, _, _, _, _, _, _, rfl, ⟨hnc, hcap⟩, HC6.out, HRO.out⟩⟩
    · have eb : (y.toList == t.toList) = false := by simp [e]
      have HN : Hid (¬ Sg.isPk h t) := fun hp => e (by rw [hy.out, ← HPk.out.1, hp.2])
      have HB : Hid (Below w.heap.size w ((w5.setCell ⟨w.heap.size, 0, none⟩ nilV).setCell ⟨w.heap.size, 1, none⟩ nilV)) := (b05.setCell (Nat.le_refl _) _).setCell (Nat.le_refl _) _
      go_wp2_with fail
      refine bodyPost_ret (v := .tuple #[.agg #[nilV, nilV], .int .i64 5]) (by simp [results, Tryz.results20, go_sem, c0, c1]) rfl ⟨HB.out, Or.inl ⟨HN.out, rfl⟩⟩

/-- What Verify answers of a package. -/
def Sg.verErr (h : Sg.Hist) (hd : ByteArray) : Int := if Sg.headOf h = hd then 0 else 6
end Go.Proofs.YtpkkhkkkgjhkeabGreat
