/-
  THE WALK of book.closePeriod.
-/
import Derived.Test.YtoadiibfmcjgaaaPost
import Derived.Test.YtoadiibfmcjgaaaCloseWalk
namespace Go.Proofs.Ytoadiibfmcjgaaa
open Go.RowKit Go.Maps
set_option maxRecDepth 100000
attribute [local go_sem ↓] Go.wp_at_zero Go.wp_at_succ

abbrev zU : Value := .int .u64 0
/-- A period of zeros. -/
def zeroPer : Array Value := #[nilV, nilV, .map none, zU, zU, zU, zU, zU, zU, zU, zU]
theorem perCells_zero (a e m : Value) : (perCells a e m [0, 0, 0, 0]).toArray = #[a, e, m, zU, zU, zU, zU, zU, zU, zU, zU] := by
  simp [perCells, numCells, nHi, nLo]
theorem perCells_four (a e m : Value) (t0 t1 t2 t3 : Int) : (perCells a e m [t0, t1, t2, t3]).toArray = #[a, e, m, .int .u64 (nHi t0), .int .u64 (nLo t0), .int .u64 (nHi t1), .int .u64 (nLo t1), .int .u64 (nHi t2), .int .u64 (nLo t2), .int .u64 (nHi t3), .int .u64 (nLo t3)] := by
  simp [perCells, numCells]
/-- Eleven cells of a block. -/
structure Eleven (w : World) (s : Nat) (c0 c1 c2 c3 c4 c5 c6 c7 c8 c9 c10 : Value) : Prop where
  a0 : w.cell? ⟨s, 0, none⟩ = some c0
  a1 : w.cell? ⟨s, 1, none⟩ = some c1
  a2 : w.cell? ⟨s, 2, none⟩ = some c2
  a3 : w.cell? ⟨s, 3, none⟩ = some c3
  a4 : w.cell? ⟨s, 4, none⟩ = some c4
  a5 : w.cell? ⟨s, 5, none⟩ = some c5
  a6 : w.cell? ⟨s, 6, none⟩ = some c6
  a7 : w.cell? ⟨s, 7, none⟩ = some c7
  a8 : w.cell? ⟨s, 8, none⟩ = some c8
  a9 : w.cell? ⟨s, 9, none⟩ = some c9
  a10 : w.cell? ⟨s, 10, none⟩ = some c10
  f0 : w.frozen? ⟨s, 0, none⟩ = false
  f1 : w.frozen? ⟨s, 1, none⟩ = false
  f2 : w.frozen? ⟨s, 2, none⟩ = false
  f3 : w.frozen? ⟨s, 3, none⟩ = false
  f4 : w.frozen? ⟨s, 4, none⟩ = false
  f5 : w.frozen? ⟨s, 5, none⟩ = false
  f6 : w.frozen? ⟨s, 6, none⟩ = false
  f7 : w.frozen? ⟨s, 7, none⟩ = false
  f8 : w.frozen? ⟨s, 8, none⟩ = false
  f9 : w.frozen? ⟨s, 9, none⟩ = false
  f10 : w.frozen? ⟨s, 10, none⟩ = false
theorem eleven_of {w : World} {s : Nat} {c0 c1 c2 c3 c4 c5 c6 c7 c8 c9 c10 : Value} {t : TypeId} (h : w.heap[s]? = some (.cells #[c0, c1, c2, c3, c4, c5, c6, c7, c8, c9, c10] t (0, 0))) : Eleven w s c0 c1 c2 c3 c4 c5 c6 c7 c8 c9 c10 := by
  constructor <;> simp [World.cell?, World.frozen?, h]
/-- Eleven stores into a block. -/
def put11 (W : World) (s : Nat) (c0 c1 c2 c3 c4 c5 c6 c7 c8 c9 c10 : Value) : World :=
  ((((((((((W.setCell ⟨s, 0, none⟩ c0).setCell ⟨s, 1, none⟩ c1).setCell ⟨s, 2, none⟩ c2).setCell ⟨s, 3, none⟩ c3).setCell ⟨s, 4, none⟩ c4).setCell ⟨s, 5, none⟩ c5).setCell ⟨s, 6, none⟩ c6).setCell ⟨s, 7, none⟩ c7).setCell ⟨s, 8, none⟩ c8).setCell ⟨s, 9, none⟩ c9).setCell ⟨s, 10, none⟩ c10
theorem put11_below {w W : World} {s n : Nat} (h : Below n w W) (hs : n ≤ s) (c0 c1 c2 c3 c4 c5 c6 c7 c8 c9 c10 : Value) : Below n w (put11 W s c0 c1 c2 c3 c4 c5 c6 c7 c8 c9 c10) :=
  ((((((((((h.setCell (p := ⟨s, 0, none⟩) hs c0).setCell (p := ⟨s, 1, none⟩) hs c1).setCell (p := ⟨s, 2, none⟩) hs c2).setCell (p := ⟨s, 3, none⟩) hs c3).setCell (p := ⟨s, 4, none⟩) hs c4).setCell (p := ⟨s, 5, none⟩) hs c5).setCell (p := ⟨s, 6, none⟩) hs c6).setCell (p := ⟨s, 7, none⟩) hs c7).setCell (p := ⟨s, 8, none⟩) hs c8).setCell (p := ⟨s, 9, none⟩) hs c9).setCell (p := ⟨s, 10, none⟩) hs c10
theorem put11_far (W : World) (s : Nat) (c0 c1 c2 c3 c4 c5 c6 c7 c8 c9 c10 : Value) (m : Nat) (hm : m ≠ s) : (put11 W s c0 c1 c2 c3 c4 c5 c6 c7 c8 c9 c10).heap[m]? = W.heap[m]? := by
  unfold put11
  iterate 11 rw [Below.heap_setCell _ _ _ _ hm]

/-- What is wrong with a period; 0: nothing. -/
def Sg.perErr (ac : List Sg.Acc) (es : List Sg.Ent) (now : List Int) : Int :=
  if (Sg.entsTo ac es now [0, 0, 0, 0]).1 ≠ 0 then (Sg.entsTo ac es now [0, 0, 0, 0]).1 else if (Sg.entsTo ac es now [0, 0, 0, 0]).2.2.any (fun v => !Sg.fits v) then 4 else 0

theorem totIndex (a b c d e f g h : Value) (W : World) :
    (Instr.index 114 (.agg #[a, b, c, d, e, f, g, h]) (.int .i64 0)).run Try.prog W = .ok (.agg #[a, b]) W ∧ (Instr.index 114 (.agg #[a, b, c, d, e, f, g, h]) (.int .i64 1)).run Try.prog W = .ok (.agg #[c, d]) W ∧
    (Instr.index 114 (.agg #[a, b, c, d, e, f, g, h]) (.int .i64 2)).run Try.prog W = .ok (.agg #[e, f]) W ∧ (Instr.index 114 (.agg #[a, b, c, d, e, f, g, h]) (.int .i64 3)).run Try.prog W = .ok (.agg #[g, h]) W := by
  refine ⟨?_, ?_, ?_, ?_⟩ <;> kernel_rfl

set_option maxHeartbeats 6400000 in
/-- closePeriod. -/
theorem closePer_any (ac : List Sg.Acc) (es : List Sg.Ent) (now : List Int) (aoA aoE : Option Addr) (nA capA ne capE m0 c : Nat) (w : World)
    (hlA : ac.length = nA) (hn8 : nA ≤ 8) (hA : AccsIn w aoA ac) (hlines : ∀ a ∈ ac, 0 ≤ a.line ∧ a.line ≤ 3)
    (hne : es.length = ne) (he12 : ne ≤ 12) (hE : EntsIn w aoE es) (hok : ∀ e ∈ es, e.posts.length ≤ 6 ∧ ∀ p ∈ e.posts, Sg.fits p.acct = true ∧ Sg.fits p.amt = true)
    (hnA : now.length = nA) (hnow : ∀ v ∈ now, Sg.fits v = true) (hbal : BalIn w m0 c now) (hc : c ≤ 432) :
    Calls Try.prog 67 #[.slice aoA nA capA, .slice aoE ne capE, .map (some m0)] w fun e w' =>
      Below w.heap.size w w' ∧ ((Sg.perErr ac es now ≠ 0 ∧ e = .returned (.tuple #[.agg zeroPer, .int .i64 (Sg.perErr ac es now)])) ∨
        (Sg.perErr ac es now = 0 ∧ ∃ now' t0 t1 t2 t3, Sg.entsTo ac es now [0, 0, 0, 0] = (0, now', [t0, t1, t2, t3]) ∧ (∀ v ∈ [t0, t1, t2, t3], Sg.fits v = true) ∧ (∀ v ∈ now', Sg.fits v = true) ∧ now'.length = nA ∧ BalIn w' (w.heap.size + 1) (c + 72) now' ∧
          e = .returned (.tuple #[.agg #[.slice aoA nA capA, .slice aoE ne capE, .map (some (w.heap.size + 1)), .int .u64 (nHi t0), .int .u64 (nLo t0), .int .u64 (nHi t1), .int .u64 (nLo t1), .int .u64 (nHi t2), .int .u64 (nLo t2), .int .u64 (nHi t3), .int .u64 (nLo t3)], .int .i64 0]))) := by
  have HLA : Hid (ac.length = nA) := hlA
  have HNE : Hid (es.length = ne) := hne
  have HOK : Hid (∀ e ∈ es, e.posts.length ≤ 6 ∧ ∀ p ∈ e.posts, Sg.fits p.acct = true ∧ Sg.fits p.amt = true) := hok
  have HLN : Hid (∀ a ∈ ac, 0 ≤ a.line ∧ a.line ≤ 3) := hlines
  have HEn0 : Hid (EnSpec ac nA 0 es now now [0, 0, 0, 0]) := EnSpec.start hnA hnow
  have HAA : Hid (AccsIn w aoA ac) := hA
  have HEE : Hid (EntsIn w aoE es) := hE
  have hcl := fun W (h : BalIn W m0 c now) => BalIn.clone h
  have HB0 : Hid (BalIn (w.alloc (.cells zeroPer 116)) m0 c now) := hbal.below ((Below.refl _ _).alloc (Nat.le_refl _) _)
  clear hlA hne hok hlines hnA hnow hA hE hbal
  unfold zeroPer at HB0
  go_enter Try.func67, Try.ntmps67
  go_wp2_with (go_at_call 87; refine (hcl _ HB0.out).mono ?_; rintro e w1 ⟨o, rfl, hw1, hbal1⟩; subst hw1)
  obtain ⟨w2, hw2⟩ : ∃ w2, w2 = (((w.alloc (Obj.cells #[nilV, nilV, Value.map none, zU, zU, zU, zU, zU, zU, zU, zU] 116)).alloc o).alloc (.cells #[.slice aoA nA capA, .slice aoE ne capE, .map (some (w.heap.size + 1)), zU, zU, zU, zU, zU, zU, zU, zU] 116)) := ⟨_, rfl⟩
  have HP2 : Hid (PerAt w2 (w.heap.size + 1 + 1) (.slice aoA nA capA) (.slice aoE ne capE) (.map (some (w.heap.size + 1))) [0, 0, 0, 0]) := by
    show PerAt _ _ _ _ _ _
    unfold PerAt
    rw [hw2, perCells_zero]
    have := heap_alloc_new ((w.alloc (Obj.cells #[nilV, nilV, Value.map none, zU, zU, zU, zU, zU, zU, zU, zU] 116)).alloc o) (.cells #[.slice aoA nA capA, .slice aoE ne capE, .map (some (w.heap.size + 1)), zU, zU, zU, zU, zU, zU, zU, zU] 116)
    simpa using this
  have HB2 : Hid (BalIn w2 (w.heap.size + 1) c now) := by
    rw [hw2]
    have e1 : (w.alloc (Obj.cells #[nilV, nilV, Value.map none, zU, zU, zU, zU, zU, zU, zU, zU] 116)).heap.size = w.heap.size + 1 := by simp
    rw [e1] at hbal1
    exact hbal1.below ((Below.refl _ _).alloc (Nat.le_refl _) _)
  have HZ2 : Hid (w2.heap[w.heap.size]? = some (.cells #[nilV, nilV, Value.map none, zU, zU, zU, zU, zU, zU, zU, zU] 116 (0, 0))) := by
    show _ = _
    rw [hw2, Below.heap_alloc _ _ _ (by simp; omega), Below.heap_alloc _ _ _ (by simp)]
    exact heap_alloc_new w _
  have hb2 : Below w.heap.size w w2 := by
    rw [hw2]
    exact (((Below.refl _ _).alloc (Nat.le_refl _) _).alloc (by simp) _).alloc (by simp; omega) _
  have hs2 : w.heap.size + 3 ≤ w2.heap.size := by rw [hw2]; simp
  rw [← hw2]
  clear hw2 hbal1 HB0 hcl
  go_loopw [21] (fun i wr => ∃ j : Nat, j ≤ ne ∧ i = .int .i64 (j : Int) ∧ ∃ now' tt, Hid (EnSpec ac nA j es now now' tt) ∧ Hid (PerAt wr (w.heap.size + 1 + 1) (.slice aoA nA capA) (.slice aoE ne capE) (.map (some (w.heap.size + 1))) tt) ∧ Hid (BalIn wr (w.heap.size + 1) (c + 6 * j) now') ∧ Hid (wr.heap[w.heap.size]? = some (.cells #[nilV, nilV, Value.map none, zU, zU, zU, zU, zU, zU, zU, zU] 116 (0, 0))) ∧ Below w.heap.size w wr) (fun i _ => ne - (intOf i).toNat)
  case atStart => exact ⟨0, by omega, rfl, _, _, HEn0, HP2, HB2, HZ2, hb2⟩
  case round =>
    obtain ⟨j, hj, rfl, now', tt, HEn, HP, HB, HZ, hbr⟩ := hrel
    obtain ⟨wz, ewz⟩ : ∃ z : World, z = wr := ⟨_, rfl⟩
    subst ewz
    have hsz := hbr.size
    have hgz := HP.out.lt
    clear HP2 HB2 HZ2 hb2 hs2 HEn0
    by_cases hlt : j < ne
    · have hja : j < es.length := by rw [HNE.out]; exact hlt
      obtain ⟨b, off, hao, hbw0, hd0, ao', cap', hd1, hps⟩ := HEE.out.cell (k := j) hja
      subst hao
      have hc0 := (hbr.cell (p := ⟨b, off + j * 2, none⟩) hbw0).trans hd0
      have hc1 := (hbr.cell (p := ⟨b, off + j * 2 + 1, none⟩) hbw0).trans hd1
      have hbw : b < wz.heap.size := by omega
      clear hd0 hd1
      have HOKj := HOK.out es[j] (List.getElem_mem _)
      have HOk : Hid (es[j].posts.length ≤ 6 ∧ ∀ p ∈ es[j].posts, Sg.fits p.acct = true ∧ Sg.fits p.amt = true) := HOKj
      have HBad : Hid (Sg.entErr nA es[j] now' ≠ 0 → Sg.perErr ac es now = Sg.entErr nA es[j] now') := fun e => by
        unfold Sg.perErr
        rw [HEn.out.bad HLA.out hja e, if_pos e]
      have HNx : Hid (Sg.entErr nA es[j] now' = 0 → EnSpec ac nA (j + 1) es now (Sg.comesAll es[j].posts now') (Sg.linesAll ac es[j].posts tt)) := fun e => HEn.out.next HLA.out hja e HLN.out (fun p hp => (HOk.out.2 p hp).2) HOk.out.1
      have HPst : Hid (PstsIn w ao' es[j].posts) := hps
      obtain ⟨x, pp, hxp⟩ : ∃ x pp, es[j] = ⟨x, pp⟩ := ⟨es[j].memo, es[j].posts, rfl⟩
      rw [hxp] at hc0 hc1 HOk HBad HNx HPst
      simp only at hc0 hc1
      obtain ⟨np, hnp⟩ : ∃ np, pp.length = np := ⟨_, rfl⟩
      rw [hnp] at hc1
      have h6 : np ≤ 6 := by have := HOk.out.1; simp only at this; omega
      have i1 : (0 : Int) ≤ (j : Int) := by omega
      have i2 : (j : Int) < (ne : Int) := by omega
      have hcall := fun (W : World) (hW : Below wz.heap.size wz W) => post_any x ac pp now' tt aoA ao' nA capA np cap' (w.heap.size + 1 + 1) (w.heap.size + 1) (c + 6 * j) (w.heap.size + 1) (.slice (some ⟨b, off, none⟩) ne capE) w W (hbr.trans (hW.mono hsz)) (by omega) (by omega) (by omega) (by omega)
        HLA.out HAA.out HLN.out hnp h6 HEn.out.lenN hn8 HPst.out HOk.out.2 HEn.out.fitN HEn.out.lenT (HP.out.block (hW.block _ hgz)) (HB.out.below hW) (by omega)
      have HNJ : Hid (c + 6 * j + np ≤ c + 6 * (j + 1)) := by show _ ≤ _; omega
      clear hnp hps hxp HOKj
      obtain ⟨ee, hee⟩ : ∃ ee, Sg.entErr nA ⟨x, pp⟩ now' = ee := ⟨_, rfl⟩
      simp only [hee] at hcall HBad HNx
      have HEe : Hid (Sg.entErr nA ⟨x, pp⟩ now' = ee) := hee
      clear hee
      by_cases hz : ee = 0
      · subst hz
        have HNx' : Hid (EnSpec ac nA (j + 1) es now (Sg.comesAll pp now') (Sg.linesAll ac pp tt)) := HNx.out rfl
        clear HNx HBad HEe
        go_wp2_with (go_at_call 88; refine (hcall _ ((Below.refl _ _).alloc (Nat.le_refl _) _)).mono ?_; rintro e w3 ⟨rfl, hb3, hk3⟩)
        obtain ⟨hk4, hk5⟩ := hk3 (by first | rfl | trivial)
        have HP3 : Hid (PerAt w3 (w.heap.size + 1 + 1) (.slice aoA nA capA) (.slice (some ⟨b, off, none⟩) ne capE) (.map (some (w.heap.size + 1))) (Sg.linesAll ac pp tt)) := hk4
        have HB3 : Hid (BalIn w3 (w.heap.size + 1) (c + 6 * (j + 1)) (Sg.comesAll pp now')) := hk5.mono HNJ.out
        have hbx : Below (w.heap.size + 1) wz w3 := ((Below.refl _ _).alloc (by omega) _).trans hb3
        have HZ3 : Hid (w3.heap[w.heap.size]? = some (.cells #[nilV, nilV, Value.map none, zU, zU, zU, zU, zU, zU, zU, zU] 116 (0, 0))) := (hbx.block _ (by omega)).trans HZ.out
        have hbe : Below w.heap.size w w3 := hbr.trans (hbx.mono (by omega))
        clear hk3 hk4 hk5 hcall hb3 hbx HP HB HZ
        go_roundw
        case rel => exact ⟨j + 1, by omega, by go_num, _, _, HNx', HP3, HB3, HZ3, hbe⟩
        case measure => simp [intOf]; omega
      · have HE : Hid (Sg.perErr ac es now = ee) := HBad.out hz
        have HZn : Hid (ee ≠ 0) := hz
        have qz : (ee != 0) = true := by rw [bne_iff_ne]; exact hz
        clear HNx HBad HEe hz
        go_wp2_with (go_at_call 88; refine (hcall _ ((Below.refl _ _).alloc (Nat.le_refl _) _)).mono ?_; rintro e w3 ⟨rfl, hb3, hk3⟩; clear hk3; have hbx : Below (w.heap.size + 1) wz w3 := ((Below.refl _ _).alloc (by omega) _).trans hb3; obtain ⟨a0, a1, a2, a3, a4, a5, a6, a7, a8, a9, a10, f0, f1, f2, f3, f4, f5, f6, f7, f8, f9, f10⟩ := eleven_of ((hbx.block _ (by omega)).trans HZ.out))
        have hbe : Below w.heap.size w w3 := hbr.trans (hbx.mono (by omega))
        refine bodyPost_ret (v := .tuple #[.agg #[nilV, nilV, .map none, zU, zU, zU, zU, zU, zU, zU, zU], .int .i64 ee]) (by simp [results, Try.results67, go_sem, a0, a1, a2, a3, a4, a5, a6, a7, a8, a9, a10]) rfl ⟨put11_below hbe (Nat.le_refl _) _ _ _ _ _ _ _ _ _ _ _, Or.inl ⟨by rw [HE.out]; exact HZn.out, by rw [HE.out]; rfl⟩⟩
    · have HD : Hid (Sg.entsTo ac es now [0, 0, 0, 0] = (0, now', tt)) := by
        have := HEn.out
        rw [show j = es.length by rw [HNE.out]; omega] at this
        exact this.done
      have HNr : Hid (∀ v ∈ tt, Tame v) := fun v hv => near_tame2 (HEn.out.near v hv) (by omega)
      have HL : Hid (now'.length = nA ∧ ∀ v ∈ now', Sg.fits v = true) := ⟨HEn.out.lenN, HEn.out.fitN⟩
      have hl4 := HEn.out.lenT
      obtain ⟨t0, t1, t2, t3, htt⟩ : ∃ t0 t1 t2 t3, tt = [t0, t1, t2, t3] := by
        match tt, hl4 with
        | [t0, t1, t2, t3], _ => exact ⟨t0, t1, t2, t3, rfl⟩
      subst htt
      have hT0 := HNr.out t0 (by simp)
      have hT1 := HNr.out t1 (by simp)
      have hT2 := HNr.out t2 (by simp)
      have hT3 := HNr.out t3 (by simp)
      have HOv : Hid (∀ r (h : r < [t0, t1, t2, t3].length), Sg.fits [t0, t1, t2, t3][r] = false → Sg.perErr ac es now = 4) := fun r hr e => by
        unfold Sg.perErr
        rw [HD.out]
        rw [if_neg (by simp), if_pos]
        rw [List.any_eq_true]
        exact ⟨_, List.getElem_mem hr, by rw [e]; rfl⟩
      have HOk0 : Hid ((∀ r (h : r < [t0, t1, t2, t3].length), r < 4 → Sg.fits [t0, t1, t2, t3][r] = true) → (∀ v ∈ [t0, t1, t2, t3], Sg.fits v = true) ∧ Sg.perErr ac es now = 0) := fun h => by
        have hv : ∀ v ∈ [t0, t1, t2, t3], Sg.fits v = true := fun v hv => by
          obtain ⟨i, hi, rfl⟩ := List.getElem_of_mem hv
          exact h i hi (by simpa using hi)
        refine ⟨hv, ?_⟩
        unfold Sg.perErr
        rw [HD.out]
        rw [if_neg (by simp), if_neg]
        rw [Bool.not_eq_true, List.any_eq_false]
        intro v hv'
        simp [hv v hv']
      have HBc : Hid (BalIn wz (w.heap.size + 1) (c + 72) now') := HB.out.mono (by omega)
      have HPg : Hid (wz.heap[w.heap.size + 1 + 1]? = some (.cells #[.slice aoA nA capA, .slice aoE ne capE, .map (some (w.heap.size + 1)), .int .u64 (nHi t0), .int .u64 (nLo t0), .int .u64 (nHi t1), .int .u64 (nLo t1), .int .u64 (nHi t2), .int .u64 (nLo t2), .int .u64 (nHi t3), .int .u64 (nLo t3)] 116 (0, 0))) := by
        have := HP.out
        unfold PerAt at this
        rw [perCells_four] at this
        exact this
      have HZy : Hid (wz.heap[w.heap.size]? = some (.cells #[nilV, nilV, Value.map none, zU, zU, zU, zU, zU, zU, zU, zU] 116 (0, 0))) := HZ.out
      have hBy : Below w.heap.size w wz := hbr
      have hwy : w.heap.size < wz.heap.size := by omega
      clear HEn HNr hl4 HB HZ hbr hsz
      obtain ⟨g0, g1, g2, g3, g4, g5, g6, g7, g8, g9, g10, _, _, _, _, _, _, _, _, _, _, _⟩ := eleven_of HPg.out
      go_wp2_with fail
      clear g0 g1 g2 g3 g4 g5 g6 g7 g8 g9 g10
      go_loopw [35] (fun i wr => ∃ r : Nat, r ≤ 4 ∧ i = .int .i64 (r : Int) ∧ Hid (∀ q (hq : q < [t0, t1, t2, t3].length), q < r → Sg.fits [t0, t1, t2, t3][q] = true) ∧ Below wz.heap.size wz wr) (fun i _ => 4 - (intOf i).toNat)
      case atStart => exact ⟨0, by omega, rfl, fun q _ hq => by omega, Below.refl _ _⟩
      case round =>
        obtain ⟨r, hr, rfl, HF, hby⟩ := hrel
        obtain ⟨wy, ewy⟩ : ∃ z : World, z = wr := ⟨_, rfl⟩
        subst ewy
        have hzy := hby.size
        have hix := totIndex (.int .u64 (nHi t0)) (.int .u64 (nLo t0)) (.int .u64 (nHi t1)) (.int .u64 (nLo t1)) (.int .u64 (nHi t2)) (.int .u64 (nLo t2)) (.int .u64 (nHi t3)) (.int .u64 (nLo t3)) wy
        obtain ⟨x0, x1, x2, x3⟩ := hix
        have hr5 : r = 0 ∨ r = 1 ∨ r = 2 ∨ r = 3 ∨ r = 4 := by omega
        rcases hr5 with rfl | rfl | rfl | rfl | rfl
        · -- line 0
          have hff := fun W => numFits_any t0 W hT0
          by_cases hf : Sg.fits t0 = true
          · rw [hf] at hff
            have HG : Hid (∀ q (hq : q < [t0, t1, t2, t3].length), q < 1 → Sg.fits [t0, t1, t2, t3][q] = true) := fun q hq hlt => by
              by_cases e' : q = 0
              · subst e'; exact hf
              · exact HF.out q hq (by omega)
            clear hf HF HOv
            go_wp2_with (go_at_call 89; refine (hff _).mono ?_; rintro e w6 ⟨rfl, hb6⟩)
            have hb7 := (hby.alloc hzy _).trans (hb6.mono (by simp; omega))
            clear hb6 hff
            go_roundw
            case rel => exact ⟨1, by omega, by first | rfl | go_num, HG, hb7⟩
            case measure => simp [intOf]
          · have hf' : Sg.fits t0 = false := Bool.eq_false_iff.2 hf
            rw [hf'] at hff
            have HE4 : Hid (Sg.perErr ac es now = 4) := HOv.out 0 (by simp) hf'
            clear hf hf' HF HOv
            go_wp2_with (go_at_call 89; refine (hff _).mono ?_; rintro e w6 ⟨rfl, hb6⟩; have hb7 := (hby.alloc hzy _).trans (hb6.mono (by simp; omega)); obtain ⟨a0, a1, a2, a3, a4, a5, a6, a7, a8, a9, a10, f0, f1, f2, f3, f4, f5, f6, f7, f8, f9, f10⟩ := eleven_of ((hb7.block w.heap.size hwy).trans HZy.out))
            have hbe := hBy.trans (hb7.mono (by omega))
            refine bodyPost_ret (v := .tuple #[.agg #[nilV, nilV, .map none, zU, zU, zU, zU, zU, zU, zU, zU], .int .i64 4]) (by simp [results, Try.results67, go_sem, a0, a1, a2, a3, a4, a5, a6, a7, a8, a9, a10]) rfl ⟨put11_below hbe (Nat.le_refl _) _ _ _ _ _ _ _ _ _ _ _, Or.inl ⟨by rw [HE4.out]; decide, by rw [HE4.out]; rfl⟩⟩
        · -- line 1
          have hff := fun W => numFits_any t1 W hT1
          by_cases hf : Sg.fits t1 = true
          · rw [hf] at hff
            have HG : Hid (∀ q (hq : q < [t0, t1, t2, t3].length), q < 2 → Sg.fits [t0, t1, t2, t3][q] = true) := fun q hq hlt => by
              by_cases e' : q = 1
              · subst e'; exact hf
              · exact HF.out q hq (by omega)
            clear hf HF HOv
            go_wp2_with (go_at_call 89; refine (hff _).mono ?_; rintro e w6 ⟨rfl, hb6⟩)
            have hb7 := (hby.alloc hzy _).trans (hb6.mono (by simp; omega))
            clear hb6 hff
            go_roundw
            case rel => exact ⟨2, by omega, by first | rfl | go_num, HG, hb7⟩
            case measure => simp [intOf]
          · have hf' : Sg.fits t1 = false := Bool.eq_false_iff.2 hf
            rw [hf'] at hff
            have HE4 : Hid (Sg.perErr ac es now = 4) := HOv.out 1 (by simp) hf'
            clear hf hf' HF HOv
            go_wp2_with (go_at_call 89; refine (hff _).mono ?_; rintro e w6 ⟨rfl, hb6⟩; have hb7 := (hby.alloc hzy _).trans (hb6.mono (by simp; omega)); obtain ⟨a0, a1, a2, a3, a4, a5, a6, a7, a8, a9, a10, f0, f1, f2, f3, f4, f5, f6, f7, f8, f9, f10⟩ := eleven_of ((hb7.block w.heap.size hwy).trans HZy.out))
            have hbe := hBy.trans (hb7.mono (by omega))
            refine bodyPost_ret (v := .tuple #[.agg #[nilV, nilV, .map none, zU, zU, zU, zU, zU, zU, zU, zU], .int .i64 4]) (by simp [results, Try.results67, go_sem, a0, a1, a2, a3, a4, a5, a6, a7, a8, a9, a10]) rfl ⟨put11_below hbe (Nat.le_refl _) _ _ _ _ _ _ _ _ _ _ _, Or.inl ⟨by rw [HE4.out]; decide, by rw [HE4.out]; rfl⟩⟩
        · -- line 2
          have hff := fun W => numFits_any t2 W hT2
          by_cases hf : Sg.fits t2 = true
          · rw [hf] at hff
            have HG : Hid (∀ q (hq : q < [t0, t1, t2, t3].length), q < 3 → Sg.fits [t0, t1, t2, t3][q] = true) := fun q hq hlt => by
              by_cases e' : q = 2
              · subst e'; exact hf
              · exact HF.out q hq (by omega)
            clear hf HF HOv
            go_wp2_with (go_at_call 89; refine (hff _).mono ?_; rintro e w6 ⟨rfl, hb6⟩)
            have hb7 := (hby.alloc hzy _).trans (hb6.mono (by simp; omega))
            clear hb6 hff
            go_roundw
            case rel => exact ⟨3, by omega, by first | rfl | go_num, HG, hb7⟩
            case measure => simp [intOf]
          · have hf' : Sg.fits t2 = false := Bool.eq_false_iff.2 hf
            rw [hf'] at hff
            have HE4 : Hid (Sg.perErr ac es now = 4) := HOv.out 2 (by simp) hf'
            clear hf hf' HF HOv
            go_wp2_with (go_at_call 89; refine (hff _).mono ?_; rintro e w6 ⟨rfl, hb6⟩; have hb7 := (hby.alloc hzy _).trans (hb6.mono (by simp; omega)); obtain ⟨a0, a1, a2, a3, a4, a5, a6, a7, a8, a9, a10, f0, f1, f2, f3, f4, f5, f6, f7, f8, f9, f10⟩ := eleven_of ((hb7.block w.heap.size hwy).trans HZy.out))
            have hbe := hBy.trans (hb7.mono (by omega))
            refine bodyPost_ret (v := .tuple #[.agg #[nilV, nilV, .map none, zU, zU, zU, zU, zU, zU, zU, zU], .int .i64 4]) (by simp [results, Try.results67, go_sem, a0, a1, a2, a3, a4, a5, a6, a7, a8, a9, a10]) rfl ⟨put11_below hbe (Nat.le_refl _) _ _ _ _ _ _ _ _ _ _ _, Or.inl ⟨by rw [HE4.out]; decide, by rw [HE4.out]; rfl⟩⟩
        · -- line 3
          have hff := fun W => numFits_any t3 W hT3
          by_cases hf : Sg.fits t3 = true
          · rw [hf] at hff
            have HG : Hid (∀ q (hq : q < [t0, t1, t2, t3].length), q < 4 → Sg.fits [t0, t1, t2, t3][q] = true) := fun q hq hlt => by
              by_cases e' : q = 3
              · subst e'; exact hf
              · exact HF.out q hq (by omega)
            clear hf HF HOv
            go_wp2_with (go_at_call 89; refine (hff _).mono ?_; rintro e w6 ⟨rfl, hb6⟩)
            have hb7 := (hby.alloc hzy _).trans (hb6.mono (by simp; omega))
            clear hb6 hff
            go_roundw
            case rel => exact ⟨4, by omega, by first | rfl | go_num, HG, hb7⟩
            case measure => simp [intOf]
          · have hf' : Sg.fits t3 = false := Bool.eq_false_iff.2 hf
            rw [hf'] at hff
            have HE4 : Hid (Sg.perErr ac es now = 4) := HOv.out 3 (by simp) hf'
            clear hf hf' HF HOv
            go_wp2_with (go_at_call 89; refine (hff _).mono ?_; rintro e w6 ⟨rfl, hb6⟩; have hb7 := (hby.alloc hzy _).trans (hb6.mono (by simp; omega)); obtain ⟨a0, a1, a2, a3, a4, a5, a6, a7, a8, a9, a10, f0, f1, f2, f3, f4, f5, f6, f7, f8, f9, f10⟩ := eleven_of ((hb7.block w.heap.size hwy).trans HZy.out))
            have hbe := hBy.trans (hb7.mono (by omega))
            refine bodyPost_ret (v := .tuple #[.agg #[nilV, nilV, .map none, zU, zU, zU, zU, zU, zU, zU, zU], .int .i64 4]) (by simp [results, Try.results67, go_sem, a0, a1, a2, a3, a4, a5, a6, a7, a8, a9, a10]) rfl ⟨put11_below hbe (Nat.le_refl _) _ _ _ _ _ _ _ _ _ _ _, Or.inl ⟨by rw [HE4.out]; decide, by rw [HE4.out]; rfl⟩⟩
        · obtain ⟨HV, HE0⟩ := HOk0.out HF.out
          have HVv : Hid (∀ v ∈ [t0, t1, t2, t3], Sg.fits v = true) := HV
          have HEz : Hid (Sg.perErr ac es now = 0) := HE0
          clear HF HOv HOk0 HV HE0
          obtain ⟨g0, g1, g2, g3, g4, g5, g6, g7, g8, g9, g10, _, _, _, _, _, _, _, _, _, _, _⟩ := eleven_of ((hby.block _ hgz).trans HPg.out)
          obtain ⟨a0, a1, a2, a3, a4, a5, a6, a7, a8, a9, a10, f0, f1, f2, f3, f4, f5, f6, f7, f8, f9, f10⟩ := eleven_of ((hby.block _ hwy).trans HZy.out)
          have hbe := hBy.trans (hby.mono (by omega))
          have HBn : Hid (BalIn wy (w.heap.size + 1) (c + 72) now') := HBc.out.below hby
          go_wp2_with fail
          refine bodyPost_ret (v := .tuple #[.agg #[.slice aoA nA capA, .slice aoE ne capE, .map (some (w.heap.size + 1)), .int .u64 (nHi t0), .int .u64 (nLo t0), .int .u64 (nHi t1), .int .u64 (nLo t1), .int .u64 (nHi t2), .int .u64 (nLo t2), .int .u64 (nHi t3), .int .u64 (nLo t3)], .int .i64 0]) (by simp [results, Try.results67, go_sem, a0, a1, a2, a3, a4, a5, a6, a7, a8, a9, a10]) rfl
            ⟨put11_below hbe (Nat.le_refl _) _ _ _ _ _ _ _ _ _ _ _, Or.inr ⟨HEz.out, now', t0, t1, t2, t3, HD.out, HVv.out, HL.out.2, HL.out.1, HBn.out.block (put11_far _ _ _ _ _ _ _ _ _ _ _ _ _ _ (by omega)), rfl⟩⟩
end Go.Proofs.Ytoadiibfmcjgaaa
