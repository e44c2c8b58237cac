import Derived.Test.YtoadiibfmcjgaaaGreatMLaw
import Derived.Test.YtoadiibfmcjgaaaGreatMDec
import Derived.Test.YtoadiibfmcjgaaaGreatMCur
import Derived.Test.YtoadiibfmcjgaaaGreatMCopy
import Derived.Test.YtoadiibfmcjgaaaGreatMSpare
import Derived.Test.YtoadiibfmcjgaaaGreatBroot
import Derived.ProofKit
import Derived.OpenShut
import Derived.ShutString
import Derived.ChangeOld
import Derived.SizedLaws
import Derived.SliceStrings
import Derived.Carry
import Derived.Test.YtoadiibfmcjgaaaGreatCloseWalk
import Derived.Deep.Slices
/-
  THE WALK of signetlaw.Decodes (P7).
-/
namespace Go.Proofs.YtoadiibfmcjgaaaGreat
open Go.RowKit
set_option maxRecDepth 100000
attribute [local go_sem ↓] Go.wp_at_zero Go.wp_at_succ

theorem erow_of {w : World} {B : Nat} {v : Value} {es : List Sg.Ent} (h : OwnE w B v es) (h1 : es.length ≤ 255) (h2 : ∀ e ∈ es, e.posts.length ≤ 255) : ERow w B w.heap.size v es.length := by
  obtain ⟨us, a, b, c⟩ := h
  refine ⟨_, b, ⟨h1, fun g hg => (World.ownsRow.lt b g hg).2⟩, fun j hj => ⟨us[j]'(by omega), (eCells_at es us a j hj).2, es[j].posts.length, _, ⟨h2 _ (List.getElem_mem hj), fun g hg => (World.ownsRow.lt (c j hj (by omega)) g hg).2⟩, c j hj (by omega)⟩⟩
theorem ERow.below {w w' : World} {B M n : Nat} {v : Value} (h : ERow w B M v n) (hb : Below w.heap.size w w') : ERow w' B M v n := by
  obtain ⟨xs, a, b, c⟩ := h
  refine ⟨xs, ownsRow_below a hb, b, fun j hj => ?_⟩
  obtain ⟨u, e, n2, ys, h1, h2⟩ := c j hj
  exact ⟨u, e, n2, ys, h1, ownsRow_below h2 hb⟩
theorem ownsRow_frame {w w' : World} {B M B' : Nat} {e : TypeId} {sz n : Nat} {v : Value} {xs : List Value} (h : w.ownsRow B' e sz v n xs) (hf : FrameM B M w w') (hM : M ≤ B') : w'.ownsRow B' e sz v n xs := by
  refine ⟨h.1, ?_⟩
  rcases h.2 with h0 | ⟨g, cap, cur, h1, h2, h3, h4⟩
  · exact Or.inl h0
  · exact Or.inr ⟨g, cap, cur, h1, h2, (hf.block g (lt_of_block h3) (Or.inr (by omega))).trans h3, h4⟩
theorem OwnPs.frame {w w' : World} {B M B' : Nat} {v : Value} {ps : List (List Sg.Ent)} (h : OwnPs w B' v ps) (hf : FrameM B M w w') (hM : M ≤ B') : OwnPs w' B' v ps := by
  obtain ⟨us, a, b, c⟩ := h
  refine ⟨us, a, ownsRow_frame b hf hM, fun i h1 h2 => ?_⟩
  obtain ⟨vs, x, y, z⟩ := c i h1 h2
  exact ⟨vs, x, ownsRow_frame y hf hM, fun j h3 h4 => ownsRow_frame (z j h3 h4) hf hM⟩
theorem hist_again {W w : World} {B : Nat} {aoA aoP : Option Addr} {nA nP capA capP : Nat} {h : Sg.Hist} (hH : HistIn W aoA aoP nA nP h) (hA : OwnA w B (.slice aoA nA capA) h.accs) (hP : OwnPs w B (.slice aoP nP capP) h.pers) : HistIn w aoA aoP nA nP h := by
  obtain ⟨ao1, c1, e1, _, _, i1⟩ := hA.in_
  obtain ⟨ao2, c2, e2, _, i2⟩ := hP.in_
  simp only [Value.slice.injEq] at e1 e2
  obtain ⟨rfl, _, _⟩ := e1
  obtain ⟨rfl, _, _⟩ := e2
  exact ⟨i1, i2, hH.lenA, hH.lenP, hH.sizA, hH.sizP, hH.sizQ⟩
/-- The history that was read, or none. -/
def Sg.opened (t : ByteArray) : Sg.Hist := if Sg.isPk (Sg.rdHist Sg.rdP (Sg.tx t)) t then Sg.rdHist Sg.rdP (Sg.tx t) else ⟨[], []⟩
def Sg.openErr (t : ByteArray) : Int := if Sg.isPk (Sg.rdHist Sg.rdP (Sg.tx t)) t then 0 else 5
theorem none_in (w : World) : HistIn w none none 0 0 ⟨[], []⟩ := ⟨Or.inl rfl, Or.inl rfl, rfl, rfl, fun a ha => by simp at ha, fun p hp => by simp at hp, fun p hp => by simp at hp⟩
/-- What Decode answers, for spoil: rows. -/
def DecRows (w' : World) (B : Nat) (aoA aoP : Option Addr) (nA nP capA capP : Nat) : Prop := ∃ us axs, w'.ownsRow B 59 2 (.slice aoA nA capA) nA axs ∧ w'.ownsRow B 24 1 (.slice aoP nP capP) nP us ∧ (∀ k, k < nP → ∃ u m, us[k]? = some u ∧ ERow w' B w'.heap.size u m) ∧ Apart us ∧ nA ≤ 255 ∧ nP ≤ 255
theorem decode_all (t : ByteArray) (w : World) :
    Calls Tryz.prog 10 #[.string t] w fun e w' => ∃ aoA capA aoP capP, e = .returned (.tuple #[.agg #[.slice aoA (Sg.opened t).accs.length capA, .slice aoP (Sg.opened t).pers.length capP], .int .i64 (Sg.openErr t)]) ∧ Hid (HistIn w' aoA aoP (Sg.opened t).accs.length (Sg.opened t).pers.length (Sg.opened t)) ∧ Hid (DecRows w' w.heap.size aoA aoP (Sg.opened t).accs.length (Sg.opened t).pers.length capA capP) ∧ Below w.heap.size w w' := by
  refine (decode_any t w).mono ?_
  rintro e w' ⟨hb, ⟨hn, rfl⟩ | ⟨hy, aoA, nA, capA, aoP, nP, capP, rfl, _, hH, hOA, us, hul, hrow, hus, hap⟩⟩
  · have e1 : Sg.opened t = ⟨[], []⟩ := by unfold Sg.opened; rw [if_neg hn]
    have e2 : Sg.openErr t = 5 := by unfold Sg.openErr; rw [if_neg hn]
    rw [e1, e2]
    exact ⟨none, 0, none, 0, rfl, none_in w', ⟨[], [], World.ownsRow_nil _ _ _ _, World.ownsRow_nil _ _ _ _, fun k hk => absurd hk (by simp), fun i j u v g _ hx => by simp at hx, by simp, by simp⟩, hb⟩
  · have e1 : Sg.opened t = Sg.rdHist Sg.rdP (Sg.tx t) := by unfold Sg.opened; rw [if_pos hy]
    have e2 : Sg.openErr t = 0 := by unfold Sg.openErr; rw [if_pos hy]
    rw [e1, e2]
    have hlA := hH.lenA
    have hlP := hH.lenP
    have hi : Sg.inBounds (Sg.rdHist Sg.rdP (Sg.tx t)) = true := by
      have hc := hy.1
      cases hb : Sg.inBounds (Sg.rdHist Sg.rdP (Sg.tx t)) with
      | true => rfl
      | false => unfold Sg.closeErr at hc; rw [hb] at hc; simp at hc
    have hbp := Sg.bnd_pers hi
    have hnum : (Sg.rdHist Sg.rdP (Sg.tx t)).accs.length ≤ 8 ∧ (Sg.rdHist Sg.rdP (Sg.tx t)).pers.length ≤ 6 := by
      unfold Sg.inBounds at hi
      simp only [Bool.and_eq_true, decide_eq_true_eq] at hi
      omega
    subst hlA hlP
    refine ⟨aoA, capA, aoP, capP, rfl, hH, ⟨us, _, hOA, hrow, fun k hk => ?_, hap, by omega, by omega⟩, hb⟩
    have hku : k < us.length := by omega
    refine ⟨us[k], _, List.getElem?_eq_getElem hku, erow_of (hus k hk hku) (by have := (hbp _ (List.getElem_mem hk)).1; omega) (fun e he => by have := ((hbp _ (List.getElem_mem hk)).2 e he).2; omega)⟩
theorem open_all (t : ByteArray) (w : World) (ht : t.size ≤ 140737488355328) :
    Calls Tryz.prog 6 #[.string t] w fun e w' => ∃ aoA capA aoP capP vB vT, e = .returned (.tuple #[.agg #[.slice aoA (Sg.opened t).accs.length capA, .slice aoP (Sg.opened t).pers.length capP, vB, vT], .int .i64 (Sg.openErr t)]) ∧ (∃ a n c, vB = .slice a n c) ∧ (∃ a n c, vT = .slice a n c) ∧ Hid (HistIn w' aoA aoP (Sg.opened t).accs.length (Sg.opened t).pers.length (Sg.opened t) ∧ OwnA w' w.heap.size (.slice aoA (Sg.opened t).accs.length capA) (Sg.opened t).accs ∧ OwnPs w' w.heap.size (.slice aoP (Sg.opened t).pers.length capP) (Sg.opened t).pers) ∧ Below w.heap.size w w' := by
  obtain ⟨hiff, hsame⟩ := Sg.read_both t
  refine (open_any t w ht).mono ?_
  rintro e w' ⟨hb, ⟨hn, rfl⟩ | ⟨hy, aoA, aoP, aoB, aoT, nA, nP, capA, capP, capB, capT, rfl, h1, hC, hOA, hOP⟩⟩
  · have hn' : ¬ Sg.isPk (Sg.rdHist Sg.rdP (Sg.tx t)) t := fun h => hn (hiff.1 h)
    have e1 : Sg.opened t = ⟨[], []⟩ := by unfold Sg.opened; rw [if_neg hn']
    have e2 : Sg.openErr t = 5 := by unfold Sg.openErr; rw [if_neg hn']
    rw [e1, e2]
    exact ⟨none, 0, none, 0, _, _, rfl, ⟨_, _, _, rfl⟩, ⟨_, _, _, rfl⟩, ⟨none_in w', World.ownsRow_nil _ _ _ _, OwnPs.nil _ _⟩, hb⟩
  · have hy' := hiff.2 hy
    have e1 : Sg.opened t = Sg.rdHist Sg.rdP (Sg.tx t) := by unfold Sg.opened; rw [if_pos hy']
    have e2 : Sg.openErr t = 0 := by unfold Sg.openErr; rw [if_pos hy']
    rw [hsame hy'] at hC hOA hOP
    rw [e1, e2]
    have hlA := hC.lenA
    have hlP := hC.lenP
    subst hlA hlP
    refine ⟨aoA, capA, aoP, capP, _, _, rfl, ⟨_, _, _, rfl⟩, ⟨_, _, _, rfl⟩, ⟨⟨hC.accs, hC.pers, rfl, rfl, fun a ha => ?_, fun p hp => ?_, Sg.rdHist_fits (fun s => Sg.fits_wrap _) _⟩, hOA, hOP⟩, hb⟩
    · have := hC.accFine a ha
      exact ⟨by omega, decide_eq_true (by omega)⟩
    · have := hC.allFine p hp
      exact ⟨by have := this.1; omega, fun e he => by have := this.2 e he; omega⟩

end Go.Proofs.YtoadiibfmcjgaaaGreat

/-
  THE WALK of signetlaw.Extends (P7).
-/
namespace Go.Proofs.YtoadiibfmcjgaaaGreat
open Go.RowKit
set_option maxRecDepth 100000
attribute [local go_sem ↓] Go.wp_at_zero Go.wp_at_succ

/-- What Extend answers. -/
def Sg.extPk (t : ByteArray) (p : List Sg.Ent) : ByteArray := if Sg.isPk (Sg.rdHist Sg.rdP (Sg.tx t)) t then Sg.package (Sg.plus (Sg.opened t) p) else ByteArray.empty
def Sg.extHd (t : ByteArray) (p : List Sg.Ent) : ByteArray := if Sg.isPk (Sg.rdHist Sg.rdP (Sg.tx t)) t then Sg.headOf (Sg.plus (Sg.opened t) p) else ByteArray.empty
def Sg.extErr (t : ByteArray) (p : List Sg.Ent) : Int := if Sg.isPk (Sg.rdHist Sg.rdP (Sg.tx t)) t then Sg.closeErr (Sg.plus (Sg.opened t) p) else 5
theorem ext_all (t : ByteArray) (p : List Sg.Ent) (aoX : Option Addr) (nX capX : Nat) (w : World) (hE : EntsIn w aoX p) (hn : p.length = nX) (hp : PerSizes p) :
    Calls Tryz.prog 5 #[.string t, .agg #[.slice aoX nX capX]] w fun e w' => e = .returned (.tuple #[.string (Sg.extPk t p), .string (Sg.extHd t p), .int .i64 (Sg.extErr t p)]) ∧ Below w.heap.size w w' := by
  refine (extend_any t p aoX nX capX w hE hn hp).mono ?_
  rintro e w' ⟨hb, ⟨hn', rfl⟩ | ⟨hy, rfl⟩⟩
  · refine ⟨?_, hb⟩
    unfold Sg.extPk Sg.extHd Sg.extErr
    rw [if_neg hn', if_neg hn', if_neg hn']
  · refine ⟨?_, hb⟩
    unfold Sg.extPk Sg.extHd Sg.extErr Sg.opened
    rw [if_pos hy, if_pos hy, if_pos hy, if_pos hy]
theorem ext_cases (t : ByteArray) (p : List Sg.Ent) : (Sg.openErr t = 0 ∧ Sg.extPk t p = Sg.package (Sg.plus (Sg.opened t) p) ∧ Sg.extHd t p = Sg.headOf (Sg.plus (Sg.opened t) p) ∧ Sg.extErr t p = Sg.closeErr (Sg.plus (Sg.opened t) p) ∧ Sg.inBounds (Sg.opened t) = true) ∨ (Sg.openErr t = 5 ∧ Sg.extPk t p = ByteArray.empty ∧ Sg.extHd t p = ByteArray.empty ∧ Sg.extErr t p = 5) := by
  by_cases hy : Sg.isPk (Sg.rdHist Sg.rdP (Sg.tx t)) t
  · refine Or.inl ⟨by unfold Sg.openErr; rw [if_pos hy], by unfold Sg.extPk; rw [if_pos hy], by unfold Sg.extHd; rw [if_pos hy], by unfold Sg.extErr; rw [if_pos hy], ?_⟩
    unfold Sg.opened
    rw [if_pos hy]
    have hc := hy.1
    cases hb : Sg.inBounds (Sg.rdHist Sg.rdP (Sg.tx t)) with
    | true => rfl
    | false => unfold Sg.closeErr at hc; rw [hb] at hc; simp at hc
  · exact Or.inr ⟨by unfold Sg.openErr; rw [if_neg hy], by unfold Sg.extPk; rw [if_neg hy], by unfold Sg.extHd; rw [if_neg hy], by unfold Sg.extErr; rw [if_neg hy]⟩
/-- What stands: the period's box, what is handed in, what is kept. -/
structure ExI (w w1 wx : World) (v0 vX vL vM : Value) : Prop where
  bel0 : Below w.heap.size w w1
  bel : Below w1.heap.size w1 wx
  pb : wx.heap[w.heap.size]? = some (.cells #[v0] 24 (0, 0))
  ab : wx.heap[w1.heap.size]? = some (.cells #[vX] 24 (0, 0))
  kb : Two wx (w1.heap.size + 1) vL vM 27
theorem ExI.below {w w1 wx w' : World} {v0 vX vL vM : Value} (m : ExI w w1 wx v0 vX vL vM) (h : Below wx.heap.size wx w') : ExI w w1 w' v0 vX vL vM :=
  ⟨m.bel0, m.bel.trans (h.mono m.bel.size), (h.block _ (lt_of_block m.pb)).trans m.pb, (h.block _ (lt_of_block m.ab)).trans m.ab, m.kb.below h⟩
theorem ExI.all {w w1 wx : World} {v0 vX vL vM : Value} (m : ExI w w1 wx v0 vX vL vM) : Below w.heap.size w wx := m.bel0.trans (m.bel.mono m.bel0.size)
theorem ExI.cells {w w1 wx : World} {v0 vX vL vM : Value} (m : ExI w w1 wx v0 vX vL vM) : wx.cell? ⟨w.heap.size, 0, none⟩ = some v0 ∧ wx.cell? ⟨w1.heap.size, 0, none⟩ = some vX ∧ wx.frozen? ⟨w1.heap.size, 0, none⟩ = false ∧ wx.cell? ⟨w1.heap.size + 1, 0, none⟩ = some vL ∧ wx.cell? ⟨w1.heap.size + 1, 1, none⟩ = some vM := by
  refine ⟨?_, ?_, ?_, m.kb.cells.1, m.kb.cells.2⟩
  · rw [cell_of_row wx _ _ _ _ _ m.pb]; rfl
  · rw [cell_of_row wx _ _ _ _ _ m.ab]; rfl
  · simp [World.frozen?, m.ab]
theorem ExI.nil {w w1 wx : World} {v0 vX vL vM u : Value} (m : ExI w w1 wx v0 vX vL vM) (h0 : w.heap.size < w1.heap.size) : ExI w w1 (wx.setCell ⟨w1.heap.size, 0, none⟩ u) v0 u vL vM := by
  refine ⟨m.bel0, m.bel.setCell (Nat.le_refl _) _, ?_, heap_setCell_same wx _ 0 _ _ u m.ab, ?_⟩
  · exact (heap_setCell_other wx ⟨w1.heap.size, 0, none⟩ w.heap.size u (by show w.heap.size ≠ w1.heap.size; omega)).trans m.pb
  · exact (heap_setCell_other wx ⟨w1.heap.size, 0, none⟩ (w1.heap.size + 1) u (by show w1.heap.size + 1 ≠ w1.heap.size; omega)).trans m.kb

set_option maxHeartbeats 3200000 in
theorem extends_any (t : ByteArray) (es : List Sg.Ent) (ao : Option Addr) (n cap : Nat) (w : World) (ht : t.size ≤ 140737488355328) (hE : EntsIn w ao es) (hn : es.length = n) (hmax : n ≤ 3518437208883) (hpp : ∀ e ∈ es, e.posts.length ≤ 8796093022207) (hp : PerSizes es) :
    Calls Tryz.prog 3 #[.string t, .agg #[.slice ao n cap]] w fun e w' => e = .returned (.bool true) ∧ Below w.heap.size w w' := by
  obtain ⟨p0, pi, pz0, pz1, pz2⟩ := info_parts Tryz.infoPer1
  have hq := fun (w : World) (a : Option Addr) (n c : Nat) => Lib.run_eql_slice_nil (P := Tryz.prog) w 22 48 a n c 0 0 Tryz.underlying22
  have HE : Hid (EntsIn w ao es) := hE
  have HN : Hid (es.length = n) := hn
  have HQ : Hid (∀ e ∈ es, e.posts.length ≤ 8796093022207) := hpp
  have HP : Hid (PerSizes es) := hp
  clear hE hn hpp hp
  have a0 : Below w.heap.size w (w.alloc (.cells #[.slice ao n cap] 24)) := (Below.refl _ _).alloc (Nat.le_refl _) _
  have hc0 := spare_any es ao n cap (w.alloc (.cells #[.slice ao n cap] 24)) HN.out hmax (HE.out.below a0) HQ.out
  have hpb : (w.alloc (.cells #[.slice ao n cap] 24)).heap[w.heap.size]? = some (.cells #[.slice ao n cap] 24 (0, 0)) := heap_alloc_new w _
  go_enter Tryz.func3, Tryz.ntmps3
  go_wp2_with fail
  refine hc0.mono ?_
  clear hc0
  rintro e w1 ⟨g, aoM, capM, rfl, hsp, hb1⟩
  have hw1 : w.heap.size < w1.heap.size := Nat.lt_of_lt_of_le (lt_of_block hpb) hb1.size
  have aB : Below w1.heap.size w1 ((w1.alloc (.cells #[.slice (some ⟨g, 0, none⟩) n (n + 2)] 24)).alloc (.cells #[.slice (some ⟨g, 0, none⟩) (n + 2) (n + 2), .slice aoM n capM] 27)) := ((Below.refl _ _).alloc (Nat.le_refl _) _).alloc (by simp) _
  have HX : Hid (ExI w w1 ((w1.alloc (.cells #[.slice (some ⟨g, 0, none⟩) n (n + 2)] 24)).alloc (.cells #[.slice (some ⟨g, 0, none⟩) (n + 2) (n + 2), .slice aoM n capM] 27)) (.slice ao n cap) (.slice (some ⟨g, 0, none⟩) n (n + 2)) (.slice (some ⟨g, 0, none⟩) (n + 2) (n + 2)) (.slice aoM n capM)) := by
    refine ⟨a0.trans (hb1.mono a0.size), aB, ?_, ?_, ?_⟩
    · exact (aB.block _ hw1).trans ((hb1.block _ (lt_of_block hpb)).trans hpb)
    · rw [Below.heap_alloc _ _ _ (by simp)]; exact heap_alloc_new w1 _
    · have := heap_alloc_new (w1.alloc (.cells #[.slice (some ⟨g, 0, none⟩) n (n + 2)] 24)) (.cells #[.slice (some ⟨g, 0, none⟩) (n + 2) (n + 2), .slice aoM n capM] 27)
      show _ = _
      simpa using this
  have HS : Hid (Spared w1 (w.alloc (.cells #[.slice ao n cap] 24)).heap.size g n aoM es) := hsp
  clear hsp hb1 aB a0 hpb
  have HS2 : Hid (EntsIn ((w1.alloc (.cells #[.slice (some ⟨g, 0, none⟩) n (n + 2)] 24)).alloc (.cells #[.slice (some ⟨g, 0, none⟩) (n + 2) (n + 2), .slice aoM n capM] 27)) (some ⟨g, 0, none⟩) es) := (HS.out.below HX.out.bel).ents
  obtain ⟨x0, xA, xF, xL, xM⟩ := HX.out.cells
  go_upto_if 23 with fail
  generalize (w1.alloc (.cells #[.slice (some ⟨g, 0, none⟩) n (n + 2)] 24)).alloc (.cells #[.slice (some ⟨g, 0, none⟩) (n + 2) (n + 2), .slice aoM n capM] 27) = W2 at *
  go_cut [] from 24 to 24 (fun wx => ∃ aoX capX, Hid (ExI w w1 wx (.slice ao n cap) (.slice aoX n capX) (.slice (some ⟨g, 0, none⟩) (n + 2) (n + 2)) (.slice aoM n capM)) ∧ Hid (EntsIn wx aoX es))
  case first =>
    rcases ao with _ | q
    · have h0 : es.length = 0 := by
        rcases HE.out with h | ⟨b, o, e, _⟩
        · exact h
        · simp at e
      have hn0 : n = 0 := by rw [← HN.out]; exact h0
      have H0 : Hid (es.length = 0) := h0
      clear h0
      subst hn0
      go_wp2_with fail
      go_meet
      exact ⟨none, 0, HX.out.nil hw1, Or.inl H0.out⟩
    · go_wp2_with fail
      go_meet
      exact ⟨_, _, HX, HS2⟩
  case rest =>
    obtain ⟨aoX, capX, HX3, HEX⟩ := hcut
    obtain ⟨v3, ev3⟩ : ∃ z : World, z = wc := ⟨_, rfl⟩
    subst ev3
    clear HX HS2 x0 xA xF xL xM
    obtain ⟨x0, xA, xF, xL, xM⟩ := HX3.out.cells
    have c1 := ext_all t es aoX n capX v3 HEX.out HN.out HP.out
    have c2 := fun W => open_all t W ht
    have hcs := ext_cases t es
    generalize Sg.extPk t es = pk at c1 hcs
    generalize Sg.extHd t es = hd at c1 hcs
    generalize Sg.extErr t es = er at c1 hcs
    generalize Sg.opened t = h at c2 hcs
    generalize Sg.openErr t = ee at c2 hcs
    obtain ⟨nA, hnA⟩ : ∃ k, h.accs.length = k := ⟨_, rfl⟩
    obtain ⟨nP, hnP⟩ : ∃ k, h.pers.length = k := ⟨_, rfl⟩
    rw [hnA, hnP] at c2
    have HL : Hid (h.accs.length = nA ∧ h.pers.length = nP) := ⟨hnA, hnP⟩
    have HCS : Hid _ := hcs
    clear hnA hnP hcs
    go_wp2_with fail
    refine c1.mono ?_
    clear c1
    rintro e w4 ⟨rfl, hb4⟩
    have HX4 : Hid (ExI w w1 w4 (.slice ao n cap) (.slice aoX n capX) (.slice (some ⟨g, 0, none⟩) (n + 2) (n + 2)) (.slice aoM n capM)) := HX3.out.below hb4
    clear HX3 HEX hb4 x0 xA xF xL xM
    go_wp2_with fail
    refine (c2 _).mono ?_
    clear c2
    rintro e w5 ⟨aoA, capA, aoP, capP, vB, vT, rfl, ⟨x1, x2, x3, rfl⟩, ⟨x4, x5, x6, rfl⟩, HO, hb5⟩
    have aC : Below w5.heap.size w5 (w5.alloc (.cells #[.slice aoA nA capA, .slice aoP nP capP, .slice x1 x2 x3, .slice x4 x5 x6] 39)) := (Below.refl _ _).alloc (Nat.le_refl _) _
    have hK : (w5.alloc (.cells #[.slice aoA nA capA, .slice aoP nP capP, .slice x1 x2 x3, .slice x4 x5 x6] 39)).heap[w5.heap.size]? = some (.cells #[.slice aoA nA capA, .slice aoP nP capP, .slice x1 x2 x3, .slice x4 x5 x6] 39 (0, 0)) := heap_alloc_new w5 _
    have HX5 : Hid (ExI w w1 (w5.alloc (.cells #[.slice aoA nA capA, .slice aoP nP capP, .slice x1 x2 x3, .slice x4 x5 x6] 39)) (.slice ao n cap) (.slice aoX n capX) (.slice (some ⟨g, 0, none⟩) (n + 2) (n + 2)) (.slice aoM n capM)) := HX4.out.below (hb5.trans (aC.mono hb5.size))
    have HO5 : Hid (HistIn (w5.alloc (.cells #[.slice aoA nA capA, .slice aoP nP capP, .slice x1 x2 x3, .slice x4 x5 x6] 39)) aoA aoP nA nP h) := HO.out.1.below aC
    clear HX4 HO hb5 aC
    obtain ⟨⟨d0, d1, _, _⟩, _, _, _, _⟩ := four_cells hK
    obtain ⟨x0, _, _, xL, xM⟩ := HX5.out.cells
    go_upto_if 38 with fail
    generalize w5.alloc (.cells #[.slice aoA nA capA, .slice aoP nP capP, .slice x1 x2 x3, .slice x4 x5 x6] 39) = W6 at *
    go_cut [11, 12, 13, 14] from 39 to 53 (fun f c s _ wx => f = .int .i64 er ∧ c = .string pk ∧ s = .string hd ∧ Hid (ExI w w1 wx (.slice ao n cap) (.slice aoX n capX) (.slice (some ⟨g, 0, none⟩) (n + 2) (n + 2)) (.slice aoM n capM)))
    case first =>
      rcases HCS.out with ⟨rfl, hpk, hhd, her, hi⟩ | ⟨rfl, rfl, rfl, rfl⟩
      · have hn6 : nP ≤ 6 := by
          have hi' := hi
          unfold Sg.inBounds at hi'
          simp only [Bool.and_eq_true, decide_eq_true_eq] at hi'
          have := HL.out.2
          omega
        have HI : Hid (Sg.inBounds h = true) := hi
        have HPk : Hid (pk = Sg.package (Sg.plus h es) ∧ hd = Sg.headOf (Sg.plus h es) ∧ er = Sg.closeErr (Sg.plus h es)) := ⟨hpk, hhd, her⟩
        clear hi hpk hhd her
        go_wp2_with fail
        refine (history_any h aoA aoP nA nP capA capP W6 HO5.out HI.out).mono ?_
        rintro e w7 ⟨vA, vP, rfl, hoA, hoP, hb7⟩
        obtain ⟨aoB, capB, eB, _, _, iA⟩ := hoA.in_
        obtain ⟨aoQ, capQ, eQ, _, iP⟩ := hoP.in_
        rw [HL.out.1] at eB
        rw [HL.out.2] at eQ
        subst eB eQ
        have hH7 : HistIn w7 aoB aoQ nA nP h := ⟨iA, iP, HO5.out.lenA, HO5.out.lenP, HO5.out.sizA, HO5.out.sizP, HO5.out.sizQ⟩
        obtain ⟨us, hul, hrow, hus⟩ := hoP
        rw [HL.out.2] at hrow
        have HX7 : Hid (ExI w w1 w7 (.slice ao n cap) (.slice aoX n capX) (.slice (some ⟨g, 0, none⟩) (n + 2) (n + 2)) (.slice aoM n capM)) := HX5.out.below hb7
        have aD : Below w7.heap.size w7 ((w7.alloc (.cells #[.slice aoB nA capB, .slice aoQ nP capQ] 36)).alloc (.cells #[.slice ao n cap] 24)) := ((Below.refl _ _).alloc (Nat.le_refl _) _).alloc (by simp) _
        have hbox : Two ((w7.alloc (.cells #[.slice aoB nA capB, .slice aoQ nP capQ] 36)).alloc (.cells #[.slice ao n cap] 24)) w7.heap.size (.slice aoB nA capB) (.slice aoQ nP capQ) 36 := (Two.new w7 _ _ _).below ((Below.refl _ _).alloc (Nat.le_refl _) _)
        have HA : Hid (OwnA ((w7.alloc (.cells #[.slice aoB nA capB, .slice aoQ nP capQ] 36)).alloc (.cells #[.slice ao n cap] 24)) W6.heap.size (.slice aoB nA capB) h.accs) := hoA.below aD
        have HUs : Hid (∀ i (h1 : i < h.pers.length) (h2 : i < us.length), OwnE ((w7.alloc (.cells #[.slice aoB nA capB, .slice aoQ nP capQ] 36)).alloc (.cells #[.slice ao n cap] 24)) W6.heap.size us[i] h.pers[i]) := fun i k1 k2 => (hus i k1 k2).below aD
        have HUL : Hid (us.length = h.pers.length) := hul
        have HH7 : Hid (HistIn w7 aoB aoQ nA nP h) := hH7
        have hs7 : W6.heap.size ≤ w7.heap.size := hb7.size
        have hs7w : w.heap.size < w7.heap.size := lt_of_block HX7.out.pb
        clear hoA hus hul hH7 x0 xL xM d0 d1 iA iP
        obtain ⟨x0, _, _, _, _⟩ := HX7.out.cells
        go_wp2_with (at_builtin; (refine wpList_append_lies _ rfl _ _ 34 rfl W6.heap.size 24 p0 (.agg #[.slice none 0 0]) 1 24 Tryz.underlying34 pi pz0 pz1 pz2 rfl (by decide) (.slice aoQ nP capQ) nP us rfl ((hrow.alloc _).alloc _) ⟨w7.heap.size + 1, 0, none⟩ 1 1 [.slice ao n cap] rfl rfl (World.news_of_block (cs := #[.slice ao n cap]) (t := 24) (fr := (0, 0)) (new_block2 w7 _ _ _)) (by intro u hu; simp at hu; subst hu; rfl) (by omega) (by unfold maxLen; omega) (by omega) (by simp; omega) (w7.heap.size + 2) (by simp) ?_))
        intro g1 cap1 w9 hown9 hgrow _ hlt9
        have b68 := hb7.trans (aD.mono hb7.size)
        have b69 : Below W6.heap.size W6 w9 := b68.grown hgrow b68.size (fun q hq => by have := (World.ownsRow.lt hrow q hq).1; omega)
        have b6A : Below W6.heap.size W6 (w9.setCell ⟨w7.heap.size, 1, none⟩ (.slice (some ⟨g1, 0, none⟩) (nP + 1) cap1)) := b69.setCell (by show _ ≤ w7.heap.size; omega) _
        have HXA : Hid (ExI w w1 (w9.setCell ⟨w7.heap.size, 1, none⟩ (.slice (some ⟨g1, 0, none⟩) (nP + 1) cap1)) (.slice ao n cap) (.slice aoX n capX) (.slice (some ⟨g, 0, none⟩) (n + 2) (n + 2)) (.slice aoM n capM)) := HX5.out.below b6A
        obtain ⟨box9, hH9⟩ := ext_hist (p := es) (capX := cap) (aoX := ao) HH7.out HA.out HUL.out ((hrow.alloc _).alloc _) HUs.out hbox hgrow (by rw [HN.out]; exact hown9) (HE.out.below HXA.out.all) HP.out
        obtain ⟨by0, by1⟩ := box9.cells
        have bf1 := (two_fz box9).2
        have hcall := refSeal_any (Sg.plus h es) aoB (some ⟨g1, 0, none⟩) nA (nP + 1) capB cap1 _ hH9
        clear hown9 hgrow hrow hbox hH9 HA HUs HH7 HUL b68 b69 b6A x0 box9 aD hb7 HX7 HX5 HO5
        rw [← HPk.out.1, ← HPk.out.2.1, ← HPk.out.2.2] at hcall
        go_wp2_with fail
        refine hcall.mono ?_
        clear hcall
        rintro e wB ⟨rfl, hbB⟩
        have HXB : Hid (ExI w w1 wB (.slice ao n cap) (.slice aoX n capX) (.slice (some ⟨g, 0, none⟩) (n + 2) (n + 2)) (.slice aoM n capM)) := HXA.out.below hbB
        clear HXA hbB by0 by1 bf1
        go_wp2_with fail
        go_meet
        exact ⟨rfl, rfl, rfl, HXB⟩
      · go_wp2_with fail
        go_meet
        exact ⟨rfl, rfl, rfl, HX5⟩
    case rest =>
      obtain ⟨ef, ec, es1, HXC⟩ := hcut
      subst ef ec es1
      obtain ⟨vC, evC⟩ : ∃ z : World, z = wc := ⟨_, rfl⟩
      subst evC
      clear HX5 HO5 x0 xL xM d0 d1 hK HCS HL
      obtain ⟨x0, _, _, xL, xM⟩ := HXC.out.cells
      have hS := HS.out.below HXC.out.bel
      have hcall := asItWas_any es g (n + 2) aoM ao n capM cap vC HN.out (by omega) (Nat.le_refl _) hS.lt hS.ents hS.behind hS.kept (HE.out.below HXC.out.all) (fun e he => by have := HQ.out e he; omega)
      have ball := HXC.out.all
      clear hS
      go_wp2_with fail
      refine hcall.mono ?_
      clear hcall
      rintro e wD ⟨rfl, hbD⟩
      have bD := ball.trans (hbD.mono ball.size)
      clear hbD ball HXC x0 xL xM
      go_wp2_with fail
      go_ret
      exact ⟨rfl, bD⟩
end Go.Proofs.YtoadiibfmcjgaaaGreat

/-
  THE WALKS of Depth, isPath, and of both climbs (P4).
-/
namespace Go.Proofs.YtoadiibfmcjgaaaGreat
open Go.RowKit
set_option maxRecDepth 100000
attribute [local go_sem ↓] Go.wp_at_zero Go.wp_at_succ

/-- Has each text two bytes? -/
def twos (ss : List ByteArray) : Bool := ss.all fun s => s.size == 2
/-- Has a path the form of one of this leaf among so many? -/
def okPath (i n : Nat) (ss : List ByteArray) : Bool := decide (ss.length = Sg.depth i n) && twos ss
/-- A slice of texts, which may be nil or empty. -/
def StrsIn (w : World) (ao : Option Addr) (ss : List ByteArray) : Prop := ss.length = 0 ∨ ∃ b off, ao = some ⟨b, off, none⟩ ∧ b < w.heap.size ∧ StrsAt w b off ss

theorem ret_bool {a b : Bool} (h : a = b) : Ending.returned (.bool a) = .returned (.bool b) := by rw [h]
theorem twos_snoc {ss : List ByteArray} {j : Nat} (hj : j < ss.length) : twos (ss.take (j + 1)) = (twos (ss.take j) && (ss.getD j ByteArray.empty).size == 2) := by
  unfold twos
  rw [List.take_succ_eq_append_getElem hj, List.all_append]
  simp [List.getD, hj]
theorem twos_stop {ss : List ByteArray} {j : Nat} (hj : j < ss.length) (h : ((ss.getD j ByteArray.empty).size == 2) = false) : twos ss = false := by
  unfold twos
  rw [List.all_eq_false]
  refine ⟨ss[j], List.getElem_mem hj, ?_⟩
  simp [List.getD, hj] at h
  simpa using h

end Go.Proofs.YtoadiibfmcjgaaaGreat

/-
  A slice of texts that came in, opened; what each statement's last step leans on.
-/
namespace Go.Proofs.YtoadiibfmcjgaaaGreat
set_option maxRecDepth 100000
open Go.ChangeShapes Go.WideShapes Go.ChangeAt Go.RowKit
open Go.ChangeMaps (open_string shut_string)

theorem own' : ownKnob Tryz.prog.godebug = none := by kernel_rfl
theorem laidOut : laidOutB Tryz.prog = true := by kernel_rfl
theorem Tryz.cellsStr : Tryz.prog.cellsOf 9 = 1 := by kernel_rfl
theorem Tryz.bytesStr : Tryz.prog.bytesOf 9 = 16 := by kernel_rfl

theorem weights_strs {H : Type} {e : TypeId} : ∀ (ss : List ByteArray) (s : ByteArray), s ∈ ss → s.size ∈ DataW.weightsAll (H := H) Tryz.prog e (strs ss)
  | [], s, h => by simp at h
  | x :: r, s, h => by
    have es : s.data.toList.length = s.size := by rw [Array.length_toList]; rfl
    simp only [strs, List.map_cons, DataW.weightsAll, List.mem_append]
    rcases List.mem_cons.1 h with rfl | h
    · exact Or.inl (by simp only [DataW.weights, es]; exact List.mem_singleton.2 rfl)
    · exact Or.inr (weights_strs r s h)

/-- A slice of texts that came in: what the walks ask of it. -/
theorem open_leaves {H : Type} {enc : TypeId × Value → H} {W : World} {v : Value} {d : DataW H} {p : List MemPlace} {base : Nat} {ts : List TypeId} {ds : List (DataW H)} {j : Nat}
    (hv : Value.okWide Tryz.prog W .any base 85 v) (h : DataW.Trod enc Tryz.prog W 0 (fun _ => true) true 85 v d p)
    (hsz : (DataW.weightsEach Tryz.prog ts ds).all (· ≤ reachBytes) = true) (ht : ts[j]? = some 85) (hd : ds[j]? = some d) :
    ∃ ao len cap ss, v = .slice ao len cap ∧ ss.length = len ∧ len ≤ cap ∧ cap ≤ 8796093022000 ∧ (∀ s ∈ ss, s.size ≤ 140737488351232) ∧ StrsIn W ao ss ∧ (ao = none → len = 0 ∧ cap = 0) := by
  obtain ⟨ao, len, cap, rfl⟩ := okWide_slice Tryz.underlying85 hv
  obtain ⟨fuel, hf⟩ := h
  rcases open_strings Tryz.underlying85 Tryz.underlying9 Tryz.cellsStr hf with ⟨hcs, _⟩ | ⟨a, l', c', ss, hcs, _, hl, _, hlen, hx, hcell, _⟩
  · simp [Value.cells] at hcs
    obtain ⟨rfl, rfl, rfl⟩ := hcs
    exact ⟨none, 0, 0, [], rfl, rfl, Nat.le_refl _, by omega, by simp, Or.inl rfl, fun _ => ⟨rfl, rfl⟩⟩
  · simp [Value.cells] at hcs
    obtain ⟨rfl, rfl, rfl⟩ := hcs
    simp only [if_true] at hlen
    have hx1 : d = .slice (strs (ss.take len)) (strs (ss.drop len)) := by
      have := congrArg Prod.fst hx; simpa using this
    subst hx1
    have hw := sized_slice hsz ht hd Tryz.underlying85
    rw [Tryz.bytesStr] at hw
    simp only [strs, List.length_map, List.length_take, List.length_drop, reachBytes] at hw
    have hcap : cap * 16 ≤ 140737488351232 := by omega
    refine ⟨some a, len, cap, ss.take len, rfl, by simp; omega, hl, by omega, ?_, ?_, fun h => by simp at h⟩
    · intro s hs
      have := List.all_eq_true.1 hsz s.size (DataW.weights_mem_each ht hd s.size (by
        simp only [DataW.weights, Tryz.underlying85]
        exact List.mem_cons_of_mem _ (List.mem_append.2 (Or.inl (weights_strs _ s hs)))))
      exact of_decide_eq_true this
    · by_cases h0 : len = 0
      · exact Or.inl (by simp [h0])
      · right
        obtain ⟨b, off, spot⟩ := a
        have hc0 := hcell 0 (by omega)
        have hspot : spot = none := by simpa [Addr.add] using World.cell?_spot hc0
        subst hspot
        refine ⟨b, off, rfl, World.block_lt_of_cell? W _ hc0, fun i hi => ?_⟩
        have hi' : i < len ∧ i < ss.length := by simp at hi; omega
        have := hcell i hi'.2
        have ea : Addr.add ⟨b, off, none⟩ i = ⟨b, off + i, none⟩ := by cases i <;> simp [Addr.add]
        rw [ea] at this
        rw [this]
        simp [List.getD, hi'.1]

end Go.Proofs.YtoadiibfmcjgaaaGreat

/-
  A PERIOD, A HISTORY that came in, opened: rows within rows.
-/
namespace Go.Proofs.YtoadiibfmcjgaaaGreat
set_option maxRecDepth 100000
open Go.ChangeShapes Go.WideShapes Go.ChangeAt Go.RowKit

theorem Tryz.cells1 : Tryz.prog.cellsOf 3 = 1 := by kernel_rfl
theorem Tryz.cellsPst : Tryz.prog.cellsOf 50 = 2 := by kernel_rfl
theorem Tryz.bytesPst : Tryz.prog.bytesOf 50 = 16 := by kernel_rfl
theorem Tryz.cellsEnt : Tryz.prog.cellsOf 48 = 2 := by kernel_rfl
theorem Tryz.bytesEnt : Tryz.prog.bytesOf 48 = 40 := by kernel_rfl
theorem Tryz.cellsPer : Tryz.prog.cellsOf 24 = 1 := by kernel_rfl
theorem Tryz.bytesPer : Tryz.prog.bytesOf 24 = 24 := by kernel_rfl
theorem Tryz.cellsAcc : Tryz.prog.cellsOf 59 = 2 := by kernel_rfl
theorem Tryz.bytesAcc : Tryz.prog.bytesOf 59 = 24 := by kernel_rfl
theorem Tryz.cellsHis : Tryz.prog.cellsOf 36 = 2 := by kernel_rfl
theorem Tryz.cellsPsts : Tryz.prog.cellsOf 46 = 1 := by kernel_rfl
theorem Tryz.cellsEnts : Tryz.prog.cellsOf 22 = 1 := by kernel_rfl
theorem Tryz.cellsPers : Tryz.prog.cellsOf 34 = 1 := by kernel_rfl
theorem Tryz.cellsAccs : Tryz.prog.cellsOf 33 = 1 := by kernel_rfl
theorem fits_of_wf {n : Int} (h : (Lit.int .i64 n).wf = true) : Sg.fits n = true := by
  have : -9223372036854775808 ≤ n ∧ n ≤ 9223372036854775807 := by simpa [Lit.wf, IntKind.min, IntKind.max, IntKind.signed, IntKind.bits] using h
  exact decide_eq_true this
theorem weights_mem_all {H : Type} {e : TypeId} {d : DataW H} {n : Nat} (hn : n ∈ d.weights Tryz.prog e) : ∀ {l : List (DataW H)}, d ∈ l → n ∈ DataW.weightsAll Tryz.prog e l
  | x :: r, h => by
    simp only [DataW.weightsAll, List.mem_append]
    rcases List.mem_cons.1 h with rfl | h
    · exact Or.inl hn
    · exact Or.inr (weights_mem_all hn h)

/-- A row that came in, by its elements. -/
theorem open_row {H : Type} {enc : TypeId × Value → H} {W : World} {n c z : Nat} {t e : TypeId} {v : Value} {x : DataW H × List MemPlace} {α : Type} [Inhabited α] {Q : List Value → α → Prop}
    (hu : Tryz.prog.underlying t = some (.slice e)) (hc : Tryz.prog.cellsOf e = c) (hz : Tryz.prog.bytesOf e = z) (h0 : 0 < c)
    (h : DataW.trod enc Tryz.prog W 0 (fun _ => true) true n t [v] = some x) (hw : ∀ y ∈ x.1.weights Tryz.prog t, y ≤ reachBytes)
    (one : ∀ m cs y, DataW.trod enc Tryz.prog W 0 (fun _ => true) true m e cs = some y → (∀ u ∈ y.1.weights Tryz.prog e, u ≤ reachBytes) → ∃ a, Q cs a) :
    ∃ ao len cap, ∃ l : List α, v = .slice ao len cap ∧ l.length = len ∧ len ≤ cap ∧ cap * z ≤ 140737488351232 ∧ (ao = none → cap = 0) ∧
      (∀ a ∈ l, ∃ cs, Q cs a) ∧
      (l.length = 0 ∨ ∃ b off, ao = some ⟨b, off, none⟩ ∧ b < W.heap.size ∧ ∀ i (hi : i < l.length), ∃ cs, Q cs l[i] ∧ cs.length = c ∧ ∀ j, j < c → W.cell? ⟨b, off + i * c + j, none⟩ = cs[j]?) := by
  rcases Go.Deep.open_slice hu h with ⟨hcs, _⟩ | ⟨a, len, cap, m, k, D, Pl, hcs, _, hl, _, hm, rfl, hel⟩
  · simp only [List.cons.injEq, and_true] at hcs
    subst hcs
    exact ⟨none, 0, 0, [], rfl, rfl, Nat.le_refl _, by omega, fun _ => rfl, by simp, Or.inl rfl⟩
  · simp only [List.cons.injEq, and_true] at hcs
    subst hcs
    simp only [if_true] at hm
    subst hm
    simp only [DataW.weights, hu] at hw
    have hs := hw _ (List.mem_cons_self ..)
    rw [hz] at hs
    simp only [List.length_map, List.length_range, reachBytes] at hs
    rw [hc] at hel
    have each : ∀ i, i < len → ∃ q : α, ∃ cs, Q cs q ∧ cs.length = c ∧ ∀ j, j < c → W.cell? (a.add (i * c + j)) = cs[j]? := by
      intro i hi
      obtain ⟨cs, h1, h2⟩ := hel i (by omega)
      obtain ⟨_, hcl, hcell⟩ := World.cells?_some h1
      obtain ⟨q, hq⟩ := one _ _ _ h2 (fun u hu' => hw u (List.mem_cons_of_mem _ (List.mem_append.2 (Or.inl (weights_mem_all hu' (List.mem_map.2 ⟨i, List.mem_range.2 hi, rfl⟩))))))
      refine ⟨q, cs, hq, hcl, fun j hj => ?_⟩
      have := hcell j hj
      rw [Go.Deep.add_add] at this
      exact this
    obtain ⟨q, hq⟩ := Go.Deep.choose_lt each
    have hll : ((List.range len).map q).length = len := by simp
    refine ⟨some a, len, m, (List.range len).map q, rfl, hll, hl, ?_, fun hh => (by simp at hh), ?_, ?_⟩
    · have : len + (m - len) = m := by omega
      rw [this] at hs
      exact hs
    · intro y hy
      simp only [List.mem_map, List.mem_range] at hy
      obtain ⟨i, hi, rfl⟩ := hy
      obtain ⟨cs, h1, _⟩ := hq i hi
      exact ⟨cs, h1⟩
    · by_cases hlen : len = 0
      · exact Or.inl (by rw [hll]; exact hlen)
      · right
        obtain ⟨b, off, spot⟩ := a
        obtain ⟨cs0, _, hl0, hc0⟩ := hq 0 (by omega)
        have hc00 := hc0 0 h0
        rw [List.getElem?_eq_getElem (by omega)] at hc00
        have hspot : spot = none := by simpa [Addr.add] using World.cell?_spot hc00
        subst hspot
        have hbl : b < W.heap.size := by
          have hh := World.block_lt_of_cell? W _ hc00
          simpa [Addr.add] using hh
        refine ⟨b, off, rfl, hbl, fun i hi => ?_⟩
        have hi' : i < len := by rw [hll] at hi; exact hi
        obtain ⟨cs, h1, h2, h3⟩ := hq i hi'
        have ea : ∀ k, Addr.add ⟨b, off, none⟩ k = ⟨b, off + k, none⟩ := fun k => by cases k <;> simp [Addr.add]
        refine ⟨cs, ?_, h2, fun j hj => ?_⟩
        · simp only [List.getElem_map, List.getElem_range]; exact h1
        · have := h3 j hj
          rw [ea, ← Nat.add_assoc] at this
          exact this


/-- One posting. -/
def IsPst (cs : List Value) (q : Sg.Pst) : Prop := cs = [.int .i64 q.acct, .int .i64 q.amt] ∧ Sg.fits q.acct = true ∧ Sg.fits q.amt = true
theorem open_pst {H : Type} {enc : TypeId × Value → H} {W : World} {n : Nat} {cs : List Value} {x : DataW H × List MemPlace} (h : DataW.trod enc Tryz.prog W 0 (fun _ => true) true n 50 cs = some x) : ∃ q, IsPst cs q := by
  obtain ⟨xs, k, _, _, hcl, hxl, hf⟩ := DataW.trod_struct Tryz.underlying50 h
  rw [Tryz.cellsPst] at hcl
  match cs, hcl with
  | [c0, c1], _ =>
    match xs, hxl with
    | [y0, y1], _ =>
      have g0 : DataW.trod enc Tryz.prog W 0 (fun _ => true) true k 3 (([c0, c1].drop 0).take (Tryz.prog.cellsOf 3)) = some y0 := hf 0 { name := "Account", type := 3, offset := 0, embedded := false, tag := "", pkgPath := "", byteOffset := 0 } rfl
      have g1 : DataW.trod enc Tryz.prog W 0 (fun _ => true) true k 3 (([c0, c1].drop 1).take (Tryz.prog.cellsOf 3)) = some y1 := hf 1 { name := "Amount", type := 3, offset := 1, embedded := false, tag := "", pkgPath := "", byteOffset := 8 } rfl
      rw [Tryz.cells1] at g0 g1
      simp only [List.drop_succ_cons, List.drop_zero, List.take_succ_cons, List.take_zero] at g0 g1
      obtain ⟨a, e0, _, ha⟩ := DataW.trod_int Tryz.underlying3 g0
      obtain ⟨b, e1, _, hb⟩ := DataW.trod_int Tryz.underlying3 g1
      simp only [List.cons.injEq, and_true] at e0 e1
      subst e0 e1
      exact ⟨⟨a, b⟩, rfl, fits_of_wf ha, fits_of_wf hb⟩
theorem open_psts {H : Type} {enc : TypeId × Value → H} {W : World} {n : Nat} {v : Value} {x : DataW H × List MemPlace} (h : DataW.trod enc Tryz.prog W 0 (fun _ => true) true n 46 [v] = some x) (hw : ∀ y ∈ x.1.weights Tryz.prog 46, y ≤ reachBytes) :
    ∃ ao len cap qs, v = .slice ao len cap ∧ qs.length = len ∧ len ≤ 8796093021952 ∧ PstsIn W ao qs ∧ ∀ q ∈ qs, Sg.fits q.acct = true ∧ Sg.fits q.amt = true := by
  haveI : Inhabited Sg.Pst := ⟨⟨0, 0⟩⟩
  obtain ⟨ao, len, cap, l, hv, hl, hlc, hcap, _, hall, hat⟩ := open_row Tryz.underlying46 Tryz.cellsPst Tryz.bytesPst (by omega) h hw (Q := IsPst) (fun m cs y hy _ => open_pst hy)
  refine ⟨ao, len, cap, l, hv, hl, by omega, ?_, fun q hq => ?_⟩
  · rcases hat with h0 | ⟨b, off, e, hb, hi⟩
    · exact Or.inl h0
    · refine Or.inr ⟨b, off, e, hb, fun i h => ?_⟩
      obtain ⟨cs, ⟨rfl, _⟩, _, hc⟩ := hi i h
      exact ⟨hc 0 (by omega), hc 1 (by omega)⟩
  · obtain ⟨cs, h1⟩ := hall q hq
    exact h1.2
/-- One entry. -/
def IsEnt (W : World) (cs : List Value) (e : Sg.Ent) : Prop := (∃ ao cap, cs = [.string e.memo, .slice ao e.posts.length cap] ∧ PstsIn W ao e.posts) ∧ e.memo.size ≤ 140737488351232 ∧ e.posts.length ≤ 8796093021952 ∧ ∀ q ∈ e.posts, Sg.fits q.acct = true ∧ Sg.fits q.amt = true
theorem open_ent {H : Type} {enc : TypeId × Value → H} {W : World} {n : Nat} {cs : List Value} {x : DataW H × List MemPlace} (h : DataW.trod enc Tryz.prog W 0 (fun _ => true) true n 48 cs = some x) (hw : ∀ y ∈ x.1.weights Tryz.prog 48, y ≤ reachBytes) : ∃ e, IsEnt W cs e := by
  obtain ⟨xs, k, _, rfl, hcl, hxl, hf⟩ := DataW.trod_struct Tryz.underlying48 h
  rw [Tryz.cellsEnt] at hcl
  match cs, hcl with
  | [c0, c1], _ =>
    match xs, hxl with
    | [y0, y1], _ =>
      have g0 : DataW.trod enc Tryz.prog W 0 (fun _ => true) true k 9 (([c0, c1].drop 0).take (Tryz.prog.cellsOf 9)) = some y0 := hf 0 { name := "Memo", type := 9, offset := 0, embedded := false, tag := "", pkgPath := "", byteOffset := 0 } rfl
      have g1 : DataW.trod enc Tryz.prog W 0 (fun _ => true) true k 46 (([c0, c1].drop 1).take (Tryz.prog.cellsOf 46)) = some y1 := hf 1 { name := "Postings", type := 46, offset := 1, embedded := false, tag := "", pkgPath := "", byteOffset := 16 } rfl
      rw [Tryz.cellsStr] at g0
      rw [Tryz.cellsPsts] at g1
      simp only [List.drop_succ_cons, List.drop_zero, List.take_succ_cons, List.take_zero] at g0 g1
      simp only [DataW.weights, Tryz.underlying48] at hw
      obtain ⟨s, e0, ey, _⟩ := DataW.trod_string Tryz.underlying9 g0
      simp only [List.cons.injEq, and_true] at e0
      subst e0 ey
      have w0 := hw s.data.toList.length (DataW.weights_mem_each (j := 0) (t := 9) rfl rfl _ (by simp only [DataW.weights]; exact List.mem_singleton.2 rfl))
      have es : s.data.toList.length = s.size := by rw [Array.length_toList]; rfl
      rw [es, reachBytes] at w0
      obtain ⟨ao, len, cap, qs, rfl, hl, hn, hin, hfit⟩ := open_psts g1 (fun y hy => hw y (DataW.weights_mem_each (j := 1) (t := 46) rfl rfl _ hy))
      subst hl
      exact ⟨⟨s, qs⟩, ⟨ao, cap, rfl, hin⟩, w0, hn, hfit⟩
theorem open_ents {H : Type} {enc : TypeId × Value → H} {W : World} {n : Nat} {v : Value} {x : DataW H × List MemPlace} (h : DataW.trod enc Tryz.prog W 0 (fun _ => true) true n 22 [v] = some x) (hw : ∀ y ∈ x.1.weights Tryz.prog 22, y ≤ reachBytes) :
    ∃ ao len cap es, v = .slice ao len cap ∧ es.length = len ∧ len ≤ 3518437208780 ∧ EntsIn W ao es ∧ ∀ e ∈ es, e.memo.size ≤ 140737488351232 ∧ e.posts.length ≤ 8796093021952 ∧ ∀ q ∈ e.posts, Sg.fits q.acct = true ∧ Sg.fits q.amt = true := by
  haveI : Inhabited Sg.Ent := ⟨⟨ByteArray.empty, []⟩⟩
  obtain ⟨ao, len, cap, l, hv, hl, hlc, hcap, _, hall, hat⟩ := open_row Tryz.underlying22 Tryz.cellsEnt Tryz.bytesEnt (by omega) h hw (Q := IsEnt W) (fun m cs y hy hy2 => open_ent hy hy2)
  refine ⟨ao, len, cap, l, hv, hl, by omega, ?_, fun q hq => ?_⟩
  · rcases hat with h0 | ⟨b, off, e, hb, hi⟩
    · exact Or.inl h0
    · refine Or.inr ⟨b, off, e, hb, fun i h => ?_⟩
      obtain ⟨cs, ⟨⟨ao', cap', rfl, hin⟩, _⟩, _, hc⟩ := hi i h
      exact ⟨hc 0 (by omega), ao', cap', hc 1 (by omega), hin⟩
  · obtain ⟨cs, h1⟩ := hall q hq
    exact h1.2
/-- One period. -/
def IsPer (W : World) (cs : List Value) (p : List Sg.Ent) : Prop := (∃ ao cap, cs = [.slice ao p.length cap] ∧ EntsIn W ao p) ∧ p.length ≤ 3518437208780 ∧ ∀ e ∈ p, e.memo.size ≤ 140737488351232 ∧ e.posts.length ≤ 8796093021952 ∧ ∀ q ∈ e.posts, Sg.fits q.acct = true ∧ Sg.fits q.amt = true
theorem open_per {H : Type} {enc : TypeId × Value → H} {W : World} {n : Nat} {cs : List Value} {x : DataW H × List MemPlace} (h : DataW.trod enc Tryz.prog W 0 (fun _ => true) true n 24 cs = some x) (hw : ∀ y ∈ x.1.weights Tryz.prog 24, y ≤ reachBytes) : ∃ p, IsPer W cs p := by
  obtain ⟨xs, k, _, rfl, hcl, hxl, hf⟩ := DataW.trod_struct Tryz.underlying24 h
  rw [Tryz.cellsPer] at hcl
  match cs, hcl with
  | [c0], _ =>
    match xs, hxl with
    | [y0], _ =>
      have g0 : DataW.trod enc Tryz.prog W 0 (fun _ => true) true k 22 (([c0].drop 0).take (Tryz.prog.cellsOf 22)) = some y0 := hf 0 { name := "Entries", type := 22, offset := 0, embedded := false, tag := "", pkgPath := "", byteOffset := 0 } rfl
      rw [Tryz.cellsEnts] at g0
      simp only [List.drop_zero, List.take_succ_cons, List.take_zero] at g0
      simp only [DataW.weights, Tryz.underlying24] at hw
      obtain ⟨ao, len, cap, es, rfl, hl, hn, hin, hfit⟩ := open_ents g0 (fun y hy => hw y (DataW.weights_mem_each (j := 0) (t := 22) rfl rfl _ hy))
      subst hl
      exact ⟨es, ⟨ao, cap, rfl, hin⟩, hn, hfit⟩
theorem open_pers {H : Type} {enc : TypeId × Value → H} {W : World} {n : Nat} {v : Value} {x : DataW H × List MemPlace} (h : DataW.trod enc Tryz.prog W 0 (fun _ => true) true n 34 [v] = some x) (hw : ∀ y ∈ x.1.weights Tryz.prog 34, y ≤ reachBytes) :
    ∃ ao len cap ps, v = .slice ao len cap ∧ ps.length = len ∧ len ≤ cap ∧ cap ≤ 5864062014634 ∧ PersIn W ao ps ∧ ∀ p ∈ ps, p.length ≤ 3518437208780 ∧ ∀ e ∈ p, e.memo.size ≤ 140737488351232 ∧ e.posts.length ≤ 8796093021952 ∧ ∀ q ∈ e.posts, Sg.fits q.acct = true ∧ Sg.fits q.amt = true := by
  obtain ⟨ao, len, cap, l, hv, hl, hlc, hcap, _, hall, hat⟩ := open_row Tryz.underlying34 Tryz.cellsPer Tryz.bytesPer (by omega) h hw (Q := IsPer W) (fun m cs y hy hy2 => open_per hy hy2)
  refine ⟨ao, len, cap, l, hv, hl, hlc, by omega, ?_, fun q hq => ?_⟩
  · rcases hat with h0 | ⟨b, off, e, hb, hi⟩
    · exact Or.inl h0
    · refine Or.inr ⟨b, off, e, hb, fun i h => ?_⟩
      obtain ⟨cs, ⟨⟨ao', cap', rfl, hin⟩, _⟩, _, hc⟩ := hi i h
      refine ⟨ao', cap', ?_, hin⟩
      have := hc 0 (by omega)
      rw [Nat.mul_one, Nat.add_zero] at this
      exact this
  · obtain ⟨cs, h1⟩ := hall q hq
    exact h1.2
/-- One account. -/
def IsAcc (cs : List Value) (a : Sg.Acc) : Prop := cs = [.string a.name, .int .i64 a.line] ∧ a.name.size ≤ 140737488351232 ∧ Sg.fits a.line = true
theorem open_acc {H : Type} {enc : TypeId × Value → H} {W : World} {n : Nat} {cs : List Value} {x : DataW H × List MemPlace} (h : DataW.trod enc Tryz.prog W 0 (fun _ => true) true n 59 cs = some x) (hw : ∀ y ∈ x.1.weights Tryz.prog 59, y ≤ reachBytes) : ∃ a, IsAcc cs a := by
  obtain ⟨xs, k, _, rfl, hcl, hxl, hf⟩ := DataW.trod_struct Tryz.underlying59 h
  rw [Tryz.cellsAcc] at hcl
  match cs, hcl with
  | [c0, c1], _ =>
    match xs, hxl with
    | [y0, y1], _ =>
      have g0 : DataW.trod enc Tryz.prog W 0 (fun _ => true) true k 9 (([c0, c1].drop 0).take (Tryz.prog.cellsOf 9)) = some y0 := hf 0 { name := "Name", type := 9, offset := 0, embedded := false, tag := "", pkgPath := "", byteOffset := 0 } rfl
      have g1 : DataW.trod enc Tryz.prog W 0 (fun _ => true) true k 3 (([c0, c1].drop 1).take (Tryz.prog.cellsOf 3)) = some y1 := hf 1 { name := "Line", type := 3, offset := 1, embedded := false, tag := "", pkgPath := "", byteOffset := 16 } rfl
      rw [Tryz.cellsStr] at g0
      rw [Tryz.cells1] at g1
      simp only [List.drop_succ_cons, List.drop_zero, List.take_succ_cons, List.take_zero] at g0 g1
      simp only [DataW.weights, Tryz.underlying59] at hw
      obtain ⟨s, e0, ey, _⟩ := DataW.trod_string Tryz.underlying9 g0
      obtain ⟨b, e1, _, hb⟩ := DataW.trod_int Tryz.underlying3 g1
      simp only [List.cons.injEq, and_true] at e0 e1
      subst e0 e1 ey
      have w0 := hw s.data.toList.length (DataW.weights_mem_each (j := 0) (t := 9) rfl rfl _ (by simp only [DataW.weights]; exact List.mem_singleton.2 rfl))
      have es : s.data.toList.length = s.size := by rw [Array.length_toList]; rfl
      rw [es, reachBytes] at w0
      exact ⟨⟨s, b⟩, rfl, w0, fits_of_wf hb⟩
theorem open_accs {H : Type} {enc : TypeId × Value → H} {W : World} {n : Nat} {v : Value} {x : DataW H × List MemPlace} (h : DataW.trod enc Tryz.prog W 0 (fun _ => true) true n 33 [v] = some x) (hw : ∀ y ∈ x.1.weights Tryz.prog 33, y ≤ reachBytes) :
    ∃ ao len cap ac, v = .slice ao len cap ∧ ac.length = len ∧ len ≤ cap ∧ cap ≤ 5864062014634 ∧ AccsIn W ao ac ∧ ∀ a ∈ ac, a.name.size ≤ 140737488351232 ∧ Sg.fits a.line = true := by
  haveI : Inhabited Sg.Acc := ⟨⟨ByteArray.empty, 0⟩⟩
  obtain ⟨ao, len, cap, l, hv, hl, hlc, hcap, _, hall, hat⟩ := open_row Tryz.underlying33 Tryz.cellsAcc Tryz.bytesAcc (by omega) h hw (Q := IsAcc) (fun m cs y hy hy2 => open_acc hy hy2)
  refine ⟨ao, len, cap, l, hv, hl, hlc, by omega, ?_, fun q hq => ?_⟩
  · rcases hat with h0 | ⟨b, off, e, hb, hi⟩
    · exact Or.inl h0
    · refine Or.inr ⟨b, off, e, hb, fun i h => ?_⟩
      obtain ⟨cs, ⟨rfl, _⟩, _, hc⟩ := hi i h
      exact ⟨hc 0 (by omega), hc 1 (by omega)⟩
  · obtain ⟨cs, h1⟩ := hall q hq
    exact h1.2
/-- A history. -/
theorem open_his {H : Type} {enc : TypeId × Value → H} {W : World} {n : Nat} {cs : List Value} {x : DataW H × List MemPlace} (h : DataW.trod enc Tryz.prog W 0 (fun _ => true) true n 36 cs = some x) (hw : ∀ y ∈ x.1.weights Tryz.prog 36, y ≤ reachBytes) :
    ∃ aoA nA capA aoP nP capP hh, cs = [.slice aoA nA capA, .slice aoP nP capP] ∧ HistIn W aoA aoP nA nP hh ∧ nA ≤ capA ∧ capA ≤ 5864062014634 ∧ nP ≤ capP ∧ capP ≤ 5864062014634 ∧ ∀ p ∈ hh.pers, p.length ≤ 3518437208780 ∧ ∀ e ∈ p, e.posts.length ≤ 8796093021952 := by
  obtain ⟨xs, k, _, rfl, hcl, hxl, hf⟩ := DataW.trod_struct Tryz.underlying36 h
  rw [Tryz.cellsHis] at hcl
  match cs, hcl with
  | [c0, c1], _ =>
    match xs, hxl with
    | [y0, y1], _ =>
      have g0 : DataW.trod enc Tryz.prog W 0 (fun _ => true) true k 33 (([c0, c1].drop 0).take (Tryz.prog.cellsOf 33)) = some y0 := hf 0 { name := "Accounts", type := 33, offset := 0, embedded := false, tag := "", pkgPath := "", byteOffset := 0 } rfl
      have g1 : DataW.trod enc Tryz.prog W 0 (fun _ => true) true k 34 (([c0, c1].drop 1).take (Tryz.prog.cellsOf 34)) = some y1 := hf 1 { name := "Periods", type := 34, offset := 1, embedded := false, tag := "", pkgPath := "", byteOffset := 24 } rfl
      rw [Tryz.cellsAccs] at g0
      rw [Tryz.cellsPers] at g1
      simp only [List.drop_succ_cons, List.drop_zero, List.take_succ_cons, List.take_zero] at g0 g1
      simp only [DataW.weights, Tryz.underlying36] at hw
      obtain ⟨aoA, nA, capA, ac, rfl, hlA, hA1, hA2, hinA, hfA⟩ := open_accs g0 (fun y hy => hw y (DataW.weights_mem_each (j := 0) (t := 33) rfl rfl _ hy))
      obtain ⟨aoP, nP, capP, ps, rfl, hlP, hP1, hP2, hinP, hfP⟩ := open_pers g1 (fun y hy => hw y (DataW.weights_mem_each (j := 1) (t := 34) rfl rfl _ hy))
      refine ⟨aoA, nA, capA, aoP, nP, capP, ⟨ac, ps⟩, rfl, ⟨hinA, hinP, hlA, hlP, fun a ha => ?_, fun p hp => ?_, fun p hp e he => ?_⟩, hA1, hA2, hP1, hP2, fun p hp => ?_⟩
      · have := hfA a ha; exact ⟨by omega, this.2⟩
      · have := hfP p hp; exact ⟨by omega, fun e he => by have := this.2 e he; omega⟩
      · exact ((hfP p hp).2 e he).2.2
      · have := hfP p hp; exact ⟨this.1, fun e he => (this.2 e he).2.1⟩
end Go.Proofs.YtoadiibfmcjgaaaGreat

/-
  THE PROOF OF 'Rows.ExtendsSaid' (P7: Extend of any text with any period).
-/
namespace Go.Proofs.YtoadiibfmcjgaaaGreat
set_option maxRecDepth 100000
open Go.ChangeShapes Go.WideShapes Go.ChangeAt Go.RowKit
open Go.ChangeMaps (open_string shut_string)

set_option maxRecDepth 100000 in
theorem extends_lifted (os : Os) (started : os.Started) (H : Type) (enc : TypeId × Value → H) :
    ReturnsInHanded {} Tryz.checked os 3 .any (Rows.extendsSpec.pre6 enc Tryz.prog Tryz.f3 Rows.extendsRow.domain false) (Rows.extendsSpec.post enc Tryz.prog Tryz.f3 false true false false) := by
  refine returnsInHanded_of_change_sized (C := Tryz.checked) own' started (by kernel_rfl) Tryz.func3
    (ChangeSpec.witness6 (enc := enc) (C := Tryz.checked) false ⟨#[], #[.string .empty, .agg #[.slice none 0 0]], []⟩ 8 (by kernel_rfl) (by kernel_rfl) (by kernel_rfl) (by kernel_rfl)) ?_
  intro W base args ds gs before hval0 hW _ hsz0 _
  have hval : ∀ (j : Nat) t v, Tryz.f3.params[j]? = some t → args[j]? = some v → Value.okWide Tryz.prog W .any base t v := hval0
  have hsz : (DataW.weightsEach Tryz.prog (Tryz.f3.params.toList ++ Rows.extendsSpec.plain.varTypes Tryz.prog) (ds ++ gs)).all (· ≤ reachBytes) = true := hsz0
  have hW' := hW
  obtain ⟨p, q, hA0, hV, rfl, _, _⟩ := hW
  have hA : DataW.TrodAll enc Tryz.prog W 0 (fun _ => true) true Tryz.f3.params.toList args.toList ds p := hA0
  rw [Tryz.params3] at hA hval hsz
  obtain ⟨v0, vs0, d0, ds0, p0, q0, hargs, rfl, rfl, h0, r0⟩ := trodAll_cons hA
  obtain ⟨v1, vs1, d1, ds1, p1, q1, rfl, rfl, rfl, h1, r1⟩ := trodAll_cons r0
  obtain ⟨rfl, rfl, rfl⟩ := trodAll_nil r1
  obtain rfl : args = #[v0, v1] := by cases args; simp_all
  obtain ⟨rfl, rfl⟩ := trodVars_none hV
  obtain ⟨s0, rfl, rfl, rfl, hmax0⟩ := open_string Tryz.underlying9 (hval 0 9 v0 rfl rfl) h0
  have hss := sized_string hsz (j := 0) (t := 9) rfl rfl
  have es : s0.data.toList.length = s0.size := by rw [Array.length_toList]; rfl
  rw [es, reachBytes] at hss
  obtain ⟨cs, rfl, _⟩ := okWide_struct Tryz.underlying24 (hval 1 24 v1 rfl rfl)
  have lt1 : ∀ x ∈ p1, x.block < W.heap.size := by obtain ⟨m, hm⟩ := h1; exact DataW.trod_lt m _ _ _ hm
  obtain ⟨p, ⟨⟨ao, cap, hcs, hE⟩, hn, hfit⟩⟩ : ∃ p, IsPer W cs.toList p := by
    obtain ⟨m, hm⟩ := h1
    exact open_per hm (fun y hy => of_decide_eq_true (List.all_eq_true.1 hsz y (DataW.weights_mem_each (j := 1) (t := 24) rfl rfl y hy)))
  obtain rfl : cs = #[.slice ao p.length cap] := by cases cs; simp_all
  clear hA0 hval0
  refine (extends_any s0 p ao p.length cap W (by omega) hE rfl (by omega) (fun e he => by have := hfit e he; omega) ⟨⟨by omega, fun e he => by have := hfit e he; omega⟩, fun e he q hq => (hfit e he).2.2 q hq⟩).mono fun e W' ⟨he, bel⟩ => ?_
  subst he
  exact ⟨_, rfl, _, _, _, [], _, [], hW', trodAll_mk1 (shut_bool Tryz.underlying4 _),
    trodAll_cons_mk (shut_string Tryz.underlying9 hmax0) (trodAll_cons_mk (Below.trod laidOut (by kernel_rfl) (of_decide_eq_true (by kernel_rfl)) h1 bel lt1) trodAll_mk0), rfl, bel.frame _, fun h => by cases h⟩

theorem extends_over : Rows.extendsRow.holds Tryz.pinned (OpenSpec.ofChange Rows.extendsSpec) :=
  OpenClaim.holds_of_wide 3 Tryz.f3 rfl rfl rfl rfl rfl rfl rfl ⟨rfl, rfl, rfl, rfl, rfl⟩ rfl rfl rfl rfl rfl (by kernel_rfl) Tryz.func3 (by kernel_rfl)
    (of_decide_eq_true (by kernel_rfl)) (by unfold Func.isWrapper; first | (rw [if_pos (by decide +kernel)]; kernel_rfl) | (rw [if_neg (by decide +kernel)]; exact ⟨rfl, rfl⟩))
    (fun os started H enc _ => extends_lifted os started H enc)

/-- The statement. -/
theorem extends_proved : Rows.ExtendsSaid := extends_over
#print axioms extends_proved
end Go.Proofs.YtoadiibfmcjgaaaGreat
