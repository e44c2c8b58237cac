import Derived.Test.YtpkkhkkkgjhkeabGreatRefSeal
import Derived.Test.YtpkkhkkkgjhkeabGreatCloseWalk
import Derived.Test.YtpkkhkkkgjhkeabGreatTree
import Derived.Test.YtpkkhkkkgjhkeabGreatEntersWalk
/-
  THE WALK of book.closePeriod.
-/
namespace Go.Proofs.YtpkkhkkkgjhkeabGreat
open Go.RowKit Go.Maps
set_option maxRecDepth 100000
attribute [local go_sem ↓] Go.wp_at_zero Go.wp_at_succ

abbrev zU : Value := .int .u64 0
/-- A period of zeros. -/
def zeroPer : Array Value := #[nilV, nilV, .map none, zU, zU, zU, zU, zU, zU, zU, zU]
theorem perCells_zero (a e m : Value) : (perCells a e m [0, 0, 0, 0]).toArray = #[a, e, m, zU, zU, zU, zU, zU, zU, zU, zU] := by
  simp [perCells, numCells, nHi, nLo]
theorem perCells_four (a e m : Value) (t0 t1 t2 t3 : Int) : (perCells a e m [t0, t1, t2, t3]).toArray = #[a, e, m, .int .u64 (nHi t0), .int .u64 (nLo t0), .int .u64 (nHi t1), .int .u64 (nLo t1), .int .u64 (nHi t2), .int .u64 (nLo t2), .int .u64 (nHi t3), .int .u64 (nLo t3)] := by
  simp [perCells, numCells]
/-- Eleven cells of a block. -/
structure Eleven (w : World) (s : Nat) (c0 c1 c2 c3 c4 c5 c6 c7 c8 c9 c10 : Value) : Prop where
  a0 : w.cell? ⟨s, 0, none⟩ = some c0
  a1 : w.cell? ⟨s, 1, none⟩ = some c1
  a2 : w.cell? ⟨s, 2, none⟩ = some c2
  a3 : w.cell? ⟨s, 3, none⟩ = some c3
  a4 : w.cell? ⟨s, 4, none⟩ = some c4
  a5 : w.cell? ⟨s, 5, none⟩ = some c5
  a6 : w.cell? ⟨s, 6, none⟩ = some c6
  a7 : w.cell? ⟨s, 7, none⟩ = some c7
  a8 : w.cell? ⟨s, 8, none⟩ = some c8
  a9 : w.cell? ⟨s, 9, none⟩ = some c9
  a10 : w.cell? ⟨s, 10, none⟩ = some c10
  f0 : w.frozen? ⟨s, 0, none⟩ = false
  f1 : w.frozen? ⟨s, 1, none⟩ = false
  f2 : w.frozen? ⟨s, 2, none⟩ = false
  f3 : w.frozen? ⟨s, 3, none⟩ = false
  f4 : w.frozen? ⟨s, 4, none⟩ = false
  f5 : w.frozen? ⟨s, 5, none⟩ = false
  f6 : w.frozen? ⟨s, 6, none⟩ = false
  f7 : w.frozen? ⟨s, 7, none⟩ = false
  f8 : w.frozen? ⟨s, 8, none⟩ = false
  f9 : w.frozen? ⟨s, 9, none⟩ = false
  f10 : w.frozen? ⟨s, 10, none⟩ = false
theorem eleven_of {w : World} {s : Nat} {c0 c1 c2 c3 c4 c5 c6 c7 c8 c9 c10 : Value} {t : TypeId} (h : w.heap[s]? = some (.cells #[c0, c1, c2, c3, c4, c5, c6, c7, c8, c9, c10] t (0, 0))) : Eleven w s c0 c1 c2 c3 c4 c5 c6 c7 c8 c9 c10 := by
  constructor <;> simp [World.cell?, World.frozen?, h]
/-- Eleven stores into a block. -/
def put11 (W : World) (s : Nat) (c0 c1 c2 c3 c4 c5 c6 c7 c8 c9 c10 : Value) : World :=
  ((((((((((W.setCell ⟨s, 0, none⟩ c0).setCell ⟨s, 1, none⟩ c1).setCell ⟨s, 2, none⟩ c2).setCell ⟨s, 3, none⟩ c3).setCell ⟨s, 4, none⟩ c4).setCell ⟨s, 5, none⟩ c5).setCell ⟨s, 6, none⟩ c6).setCell ⟨s, 7, none⟩ c7).setCell ⟨s, 8, none⟩ c8).setCell ⟨s, 9, none⟩ c9).setCell ⟨s, 10, none⟩ c10
theorem put11_below {w W : World} {s n : Nat} (h : Below n w W) (hs : n ≤ s) (c0 c1 c2 c3 c4 c5 c6 c7 c8 c9 c10 : Value) : Below n w (put11 W s c0 c1 c2 c3 c4 c5 c6 c7 c8 c9 c10) :=
  ((((((((((h.setCell (p := ⟨s, 0, none⟩) hs c0).setCell (p := ⟨s, 1, none⟩) hs c1).setCell (p := ⟨s, 2, none⟩) hs c2).setCell (p := ⟨s, 3, none⟩) hs c3).setCell (p := ⟨s, 4, none⟩) hs c4).setCell (p := ⟨s, 5, none⟩) hs c5).setCell (p := ⟨s, 6, none⟩) hs c6).setCell (p := ⟨s, 7, none⟩) hs c7).setCell (p := ⟨s, 8, none⟩) hs c8).setCell (p := ⟨s, 9, none⟩) hs c9).setCell (p := ⟨s, 10, none⟩) hs c10
theorem put11_far (W : World) (s : Nat) (c0 c1 c2 c3 c4 c5 c6 c7 c8 c9 c10 : Value) (m : Nat) (hm : m ≠ s) : (put11 W s c0 c1 c2 c3 c4 c5 c6 c7 c8 c9 c10).heap[m]? = W.heap[m]? := by
  unfold put11
  iterate 11 rw [Below.heap_setCell _ _ _ _ hm]

/-- What is wrong with a period; 0: nothing. -/
def Sg.perErr (ac : List Sg.Acc) (es : List Sg.Ent) (now : List Int) : Int :=
  if (Sg.entsTo ac es now [0, 0, 0, 0]).1 ≠ 0 then (Sg.entsTo ac es now [0, 0, 0, 0]).1 else if (Sg.entsTo ac es now [0, 0, 0, 0]).2.2.any (fun v => !Sg.fits v) then 4 else 0

theorem totIndex (a b c d e f g h : Value) (W : World) :
    (Instr.index 85 (.agg #[a, b, c, d, e, f, g, h]) (.int .i64 0)).run Tryz.prog W = .ok (.agg #[a, b]) W ∧ (Instr.index 85 (.agg #[a, b, c, d, e, f, g, h]) (.int .i64 1)).run Tryz.prog W = .ok (.agg #[c, d]) W ∧
    (Instr.index 85 (.agg #[a, b, c, d, e, f, g, h]) (.int .i64 2)).run Tryz.prog W = .ok (.agg #[e, f]) W ∧ (Instr.index 85 (.agg #[a, b, c, d, e, f, g, h]) (.int .i64 3)).run Tryz.prog W = .ok (.agg #[g, h]) W := by
  refine ⟨?_, ?_, ?_, ?_⟩ <;> kernel_rfl

set_option maxHeartbeats 6400000 in
/-- closePeriod. -/
theorem closePer_any (ac : List Sg.Acc) (es : List Sg.Ent) (now : List Int) (aoA aoE : Option Addr) (nA capA ne capE m0 c : Nat) (w : World)
    (hlA : ac.length = nA) (hn8 : nA ≤ 8) (hA : AccsIn w aoA ac) (hlines : ∀ a ∈ ac, 0 ≤ a.line ∧ a.line ≤ 3)
    (hne : es.length = ne) (he12 : ne ≤ 12) (hE : EntsIn w aoE es) (hok : ∀ e ∈ es, e.posts.length ≤ 6 ∧ ∀ p ∈ e.posts, Sg.fits p.acct = true ∧ Sg.fits p.amt = true)
    (hnA : now.length = nA) (hnow : ∀ v ∈ now, Sg.fits v = true) (hbal : BalIn w m0 c now) (hc : c ≤ 432) :
    Calls Tryz.prog 30 #[.slice aoA nA capA, .slice aoE ne capE, .map (some m0)] w fun e w' =>
      Below w.heap.size w w' ∧ ((Sg.perErr ac es now ≠ 0 ∧ e = .returned (.tuple #[.agg zeroPer, .int .i64 (Sg.perErr ac es now)])) ∨
        (Sg.perErr ac es now = 0 ∧ ∃ now' t0 t1 t2 t3, Sg.entsTo ac es now [0, 0, 0, 0] = (0, now', [t0, t1, t2, t3]) ∧ (∀ v ∈ [t0, t1, t2, t3], Sg.fits v = true) ∧ (∀ v ∈ now', Sg.fits v = true) ∧ now'.length = nA ∧ BalIn w' (w.heap.size + 1) (c + 72) now' ∧
          e = .returned (.tuple #[.agg #[.slice aoA nA capA, .slice aoE ne capE, .map (some (w.heap.size + 1)), .int .u64 (nHi t0), .int .u64 (nLo t0), .int .u64 (nHi t1), .int .u64 (nLo t1), .int .u64 (nHi t2), .int .u64 (nLo t2), .int .u64 (nHi t3), .int .u64 (nLo t3)], .int .i64 0]))) := by
  have HLA : Hid (ac.length = nA) := hlA
  have HNE : Hid (es.length = ne) := hne
  have HOK : Hid (∀ e ∈ es, e.posts.length ≤ 6 ∧ ∀ p ∈ e.posts, Sg.fits p.acct = true ∧ Sg.fits p.amt = true) := hok
  have HLN : Hid (∀ a ∈ ac, 0 ≤ a.line ∧ a.line ≤ 3) := hlines
  have HEn0 : Hid (EnSpec ac nA 0 es now now [0, 0, 0, 0]) := EnSpec.start hnA hnow
  have HAA : Hid (AccsIn w aoA ac) := hA
  have HEE : Hid (EntsIn w aoE es) := hE
  have hcl := fun W (h : BalIn W m0 c now) => BalIn.clone h
  have HB0 : Hid (BalIn (w.alloc (.cells zeroPer 87)) m0 c now) := hbal.below ((Below.refl _ _).alloc (Nat.le_refl _) _)
  clear hlA hne hok hlines hnA hnow hA hE hbal
  unfold zeroPer at HB0
  go_enter Tryz.func30, Tryz.ntmps30
  go_wp2_with (go_at_call 57; refine (hcl _ HB0.out).mono ?_; rintro e w1 ⟨o, rfl, hw1, hbal1⟩; subst hw1)
  obtain ⟨w2, hw2⟩ : ∃ w2, w2 = (((w.alloc (Obj.cells #[nilV, nilV, Value.map none, zU, zU, zU, zU, zU, zU, zU, zU] 87)).alloc o).alloc (.cells #[.slice aoA nA capA, .slice aoE ne capE, .map (some (w.heap.size + 1)), zU, zU, zU, zU, zU, zU, zU, zU] 87)) := ⟨_, rfl⟩
  have HP2 : Hid (PerAt w2 (w.heap.size + 1 + 1) (.slice aoA nA capA) (.slice aoE ne capE) (.map (some (w.heap.size + 1))) [0, 0, 0, 0]) := by
    show PerAt _ _ _ _ _ _
    unfold PerAt
    rw [hw2, perCells_zero]
    have := heap_alloc_new ((w.alloc (Obj.cells #[nilV, nilV, Value.map none, zU, zU, zU, zU, zU, zU, zU, zU] 87)).alloc o) (.cells #[.slice aoA nA capA, .slice aoE ne capE, .map (some (w.heap.size + 1)), zU, zU, zU, zU, zU, zU, zU, zU] 87)
    simpa using this
  have HB2 : Hid (BalIn w2 (w.heap.size + 1) c now) := by
    rw [hw2]
    have e1 : (w.alloc (Obj.cells #[nilV, nilV, Value.map none, zU, zU, zU, zU, zU, zU, zU, zU] 87)).heap.size = w.heap.size + 1 := by simp
    rw [e1] at hbal1
    exact hbal1.below ((Below.refl _ _).alloc (Nat.le_refl _) _)
  have HZ2 : Hid (w2.heap[w.heap.size]? = some (.cells #[nilV, nilV, Value.map none, zU, zU, zU, zU, zU, zU, zU, zU] 87 (0, 0))) := by
    show _ = _
    rw [hw2, Below.heap_alloc _ _ _ (by simp; omega), Below.heap_alloc _ _ _ (by simp)]
    exact heap_alloc_new w _
  have hb2 : Below w.heap.size w w2 := by
    rw [hw2]
    exact (((Below.refl _ _).alloc (Nat.le_refl _) _).alloc (by simp) _).alloc (by simp; omega) _
  have hs2 : w.heap.size + 3 ≤ w2.heap.size := by rw [hw2]; simp
  rw [← hw2]
  clear hw2 hbal1 HB0 hcl
  go_loopw [21] (fun i wr => ∃ j : Nat, j ≤ ne ∧ i = .int .i64 (j : Int) ∧ ∃ now' tt, Hid (EnSpec ac nA j es now now' tt) ∧ Hid (PerAt wr (w.heap.size + 1 + 1) (.slice aoA nA capA) (.slice aoE ne capE) (.map (some (w.heap.size + 1))) tt) ∧ Hid (BalIn wr (w.heap.size + 1) (c + 6 * j) now') ∧ Hid (wr.heap[w.heap.size]? = some (.cells #[nilV, nilV, Value.map none, zU, zU, zU, zU, zU, zU, zU, zU] 87 (0, 0))) ∧ Below w.heap.size w wr) (fun i _ => ne - (intOf i).toNat)
  case atStart => exact ⟨0, by omega, rfl, _, _, HEn0, HP2, HB2, HZ2, hb2⟩
  case round =>
    obtain ⟨j, hj, rfl, now', tt, HEn, HP, HB, HZ, hbr⟩ := hrel
    obtain ⟨wz, ewz⟩ : ∃ z : World, z = wr := ⟨_, rfl⟩
    subst ewz
    have hsz := hbr.size
    have hgz := HP.out.lt
    clear HP2 HB2 HZ2 hb2 hs2 HEn0
    by_cases hlt : j < ne
    · have hja : j < es.length := by rw [HNE.out]; exact hlt
      obtain ⟨b, off, hao, hbw0, hd0, ao', cap', hd1, hps⟩ := HEE.out.cell (k := j) hja
      subst hao
      have hc0 := (hbr.cell (p := ⟨b, off + j * 2, none⟩) hbw0).trans hd0
      have hc1 := (hbr.cell (p := ⟨b, off + j * 2 + 1, none⟩) hbw0).trans hd1
      have hbw : b < wz.heap.size := by omega
      clear hd0 hd1
      have HOKj := HOK.out es[j] (List.getElem_mem _)
      have HOk : Hid (es[j].posts.length ≤ 6 ∧ ∀ p ∈ es[j].posts, Sg.fits p.acct = true ∧ Sg.fits p.amt = true) := HOKj
      have HBad : Hid (Sg.entErr nA es[j] now' ≠ 0 → Sg.perErr ac es now = Sg.entErr nA es[j] now') := fun e => by
        unfold Sg.perErr
        rw [HEn.out.bad HLA.out hja e, if_pos e]
      have HNx : Hid (Sg.entErr nA es[j] now' = 0 → EnSpec ac nA (j + 1) es now (Sg.comesAll es[j].posts now') (Sg.linesAll ac es[j].posts tt)) := fun e => HEn.out.next HLA.out hja e HLN.out (fun p hp => (HOk.out.2 p hp).2) HOk.out.1
      have HPst : Hid (PstsIn w ao' es[j].posts) := hps
      obtain ⟨x, pp, hxp⟩ : ∃ x pp, es[j] = ⟨x, pp⟩ := ⟨es[j].memo, es[j].posts, rfl⟩
      rw [hxp] at hc0 hc1 HOk HBad HNx HPst
      simp only at hc0 hc1
      obtain ⟨np, hnp⟩ : ∃ np, pp.length = np := ⟨_, rfl⟩
      rw [hnp] at hc1
      have h6 : np ≤ 6 := by have := HOk.out.1; simp only at this; omega
      have i1 : (0 : Int) ≤ (j : Int) := by omega
      have i2 : (j : Int) < (ne : Int) := by omega
      have hcall := fun (W : World) (hW : Below wz.heap.size wz W) => post_any x ac pp now' tt aoA ao' nA capA np cap' (w.heap.size + 1 + 1) (w.heap.size + 1) (c + 6 * j) (w.heap.size + 1) (.slice (some ⟨b, off, none⟩) ne capE) w W (hbr.trans (hW.mono hsz)) (by omega) (by omega) (by omega) (by omega)
        HLA.out HAA.out HLN.out hnp h6 HEn.out.lenN hn8 HPst.out HOk.out.2 HEn.out.fitN HEn.out.lenT (HP.out.block (hW.block _ hgz)) (HB.out.below hW) (by omega)
      have HNJ : Hid (c + 6 * j + np ≤ c + 6 * (j + 1)) := by show _ ≤ _; omega
      clear hnp hps hxp HOKj
      obtain ⟨ee, hee⟩ : ∃ ee, Sg.entErr nA ⟨x, pp⟩ now' = ee := ⟨_, rfl⟩
      simp only [hee] at hcall HBad HNx
      have HEe : Hid (Sg.entErr nA ⟨x, pp⟩ now' = ee) := hee
      clear hee
      by_cases hz : ee = 0
      · subst hz
        have HNx' : Hid (EnSpec ac nA (j + 1) es now (Sg.comesAll pp now') (Sg.linesAll ac pp tt)) := HNx.out rfl
        clear HNx HBad HEe
        go_wp2_with (go_at_call 58; refine (hcall _ ((Below.refl _ _).alloc (Nat.le_refl _) _)).mono ?_; rintro e w3 ⟨rfl, hb3, hk3⟩)
        obtain ⟨hk4, hk5⟩ := hk3 (by first | rfl | trivial)
        have HP3 : Hid (PerAt w3 (w.heap.size + 1 + 1) (.slice aoA nA capA) (.slice (some ⟨b, off, none⟩) ne capE) (.map (some (w.heap.size + 1))) (Sg.linesAll ac pp tt)) := hk4
        have HB3 : Hid (BalIn w3 (w.heap.size + 1) (c + 6 * (j + 1)) (Sg.comesAll pp now')) := hk5.mono HNJ.out
        have hbx : Below (w.heap.size + 1) wz w3 := ((Below.refl _ _).alloc (by omega) _).trans hb3
        have HZ3 : Hid (w3.heap[w.heap.size]? = some (.cells #[nilV, nilV, Value.map none, zU, zU, zU, zU, zU, zU, zU, zU] 87 (0, 0))) := (hbx.block _ (by omega)).trans HZ.out
        have hbe : Below w.heap.size w w3 := hbr.trans (hbx.mono (by omega))
        clear hk3 hk4 hk5 hcall hb3 hbx HP HB HZ
        go_roundw
        case rel => exact ⟨j + 1, by omega, by go_num, _, _, HNx', HP3, HB3, HZ3, hbe⟩
        case measure => simp [intOf]; omega
      · have HE : Hid (Sg.perErr ac es now = ee) := HBad.out hz
        have HZn : Hid (ee ≠ 0) := hz
        have qz : (ee != 0) = true := by rw [bne_iff_ne]; exact hz
        clear HNx HBad HEe hz
        go_wp2_with (go_at_call 58; refine (hcall _ ((Below.refl _ _).alloc (Nat.le_refl _) _)).mono ?_; rintro e w3 ⟨rfl, hb3, hk3⟩; clear hk3; have hbx : Below (w.heap.size + 1) wz w3 := ((Below.refl _ _).alloc (by omega) _).trans hb3; obtain ⟨a0, a1, a2, a3, a4, a5, a6, a7, a8, a9, a10, f0, f1, f2, f3, f4, f5, f6, f7, f8, f9, f10⟩ := eleven_of ((hbx.block _ (by omega)).trans HZ.out))
        have hbe : Below w.heap.size w w3 := hbr.trans (hbx.mono (by omega))
        refine bodyPost_ret (v := .tuple #[.agg #[nilV, nilV, .map none, zU, zU, zU, zU, zU, zU, zU, zU], .int .i64 ee]) (by simp [results, Tryz.results30, go_sem, a0, a1, a2, a3, a4, a5, a6, a7, a8, a9, a10]) rfl ⟨put11_below hbe (Nat.le_refl _) _ _ _ _ _ _ _ _ _ _ _, Or.inl ⟨by rw [HE.out]; exact HZn.out, by rw [HE.out]; rfl⟩⟩
    · have HD : Hid (Sg.entsTo ac es now [0, 0, 0, 0] = (0, now', tt)) := by
        have := HEn.out
        rw [show j = es.length by rw [HNE.out]; omega] at this
        exact this.done
      have HNr : Hid (∀ v ∈ tt, Tame v) := fun v hv => near_tame2 (HEn.out.near v hv) (by omega)
      have HL : Hid (now'.length = nA ∧ ∀ v ∈ now', Sg.fits v = true) := ⟨HEn.out.lenN, HEn.out.fitN⟩
      have hl4 := HEn.out.lenT
      obtain ⟨t0, t1, t2, t3, htt⟩ : ∃ t0 t1 t2 t3, tt = [t0, t1, t2, t3] := by
        match tt, hl4 with
        | [t0, t1, t2, t3], _ => exact ⟨t0, t1, t2, t3, rfl⟩
      subst htt
      have hT0 := HNr.out t0 (by simp)
      have hT1 := HNr.out t1 (by simp)
      have hT2 := HNr.out t2 (by simp)
      have hT3 := HNr.out t3 (by simp)
      have HOv : Hid (∀ r (h : r < [t0, t1, t2, t3].length), Sg.fits [t0, t1, t2, t3][r] = false → Sg.perErr ac es now = 4) := fun r hr e => by
        unfold Sg.perErr
        rw [HD.out]
        rw [if_neg (by simp), if_pos]
        rw [List.any_eq_true]
        exact ⟨_, List.getElem_mem hr, by rw [e]; rfl⟩
      have HOk0 : Hid ((∀ r (h : r < [t0, t1, t2, t3].length), r < 4 → Sg.fits [t0, t1, t2, t3][r] = true) → (∀ v ∈ [t0, t1, t2, t3], Sg.fits v = true) ∧ Sg.perErr ac es now = 0) := fun h => by
        have hv : ∀ v ∈ [t0, t1, t2, t3], Sg.fits v = true := fun v hv => by
          obtain ⟨i, hi, rfl⟩ := List.getElem_of_mem hv
          exact h i hi (by simpa using hi)
        refine ⟨hv, ?_⟩
        unfold Sg.perErr
        rw [HD.out]
        rw [if_neg (by simp), if_neg]
        rw [Bool.not_eq_true, List.any_eq_false]
        intro v hv'
        simp [hv v hv']
      have HBc : Hid (BalIn wz (w.heap.size + 1) (c + 72) now') := HB.out.mono (by omega)
      have HPg : Hid (wz.heap[w.heap.size + 1 + 1]? = some (.cells #[.slice aoA nA capA, .slice aoE ne capE, .map (some (w.heap.size + 1)), .int .u64 (nHi t0), .int .u64 (nLo t0), .int .u64 (nHi t1), .int .u64 (nLo t1), .int .u64 (nHi t2), .int .u64 (nLo t2), .int .u64 (nHi t3), .int .u64 (nLo t3)] 87 (0, 0))) := by
        have := HP.out
        unfold PerAt at this
        rw [perCells_four] at this
        exact this
      have HZy : Hid (wz.heap[w.heap.size]? = some (.cells #[nilV, nilV, Value.map none, zU, zU, zU, zU, zU, zU, zU, zU] 87 (0, 0))) := HZ.out
      have hBy : Below w.heap.size w wz := hbr
      have hwy : w.heap.size < wz.heap.size := by omega
      clear HEn HNr hl4 HB HZ hbr hsz
      obtain ⟨g0, g1, g2, g3, g4, g5, g6, g7, g8, g9, g10, _, _, _, _, _, _, _, _, _, _, _⟩ := eleven_of HPg.out
      go_wp2_with fail
      clear g0 g1 g2 g3 g4 g5 g6 g7 g8 g9 g10
      go_loopw [35] (fun i wr => ∃ r : Nat, r ≤ 4 ∧ i = .int .i64 (r : Int) ∧ Hid (∀ q (hq : q < [t0, t1, t2, t3].length), q < r → Sg.fits [t0, t1, t2, t3][q] = true) ∧ Below wz.heap.size wz wr) (fun i _ => 4 - (intOf i).toNat)
      case atStart => exact ⟨0, by omega, rfl, fun q _ hq => by omega, Below.refl _ _⟩
      case round =>
        obtain ⟨r, hr, rfl, HF, hby⟩ := hrel
        obtain ⟨wy, ewy⟩ : ∃ z : World, z = wr := ⟨_, rfl⟩
        subst ewy
        have hzy := hby.size
        have hix := totIndex (.int .u64 (nHi t0)) (.int .u64 (nLo t0)) (.int .u64 (nHi t1)) (.int .u64 (nLo t1)) (.int .u64 (nHi t2)) (.int .u64 (nLo t2)) (.int .u64 (nHi t3)) (.int .u64 (nLo t3)) wy
        obtain ⟨x0, x1, x2, x3⟩ := hix
        have hr5 : r = 0 ∨ r = 1 ∨ r = 2 ∨ r = 3 ∨ r = 4 := by omega
        rcases hr5 with rfl | rfl | rfl | rfl | rfl
        · -- line 0
          have hff := fun W => numFits_any t0 W hT0
          by_cases hf : Sg.fits t0 = true
          · rw [hf] at hff
            have HG : Hid (∀ q (hq : q < [t0, t1, t2, t3].length), q < 1 → Sg.fits [t0, t1, t2, t3][q] = true) := fun q hq hlt => by
              by_cases e' : q = 0
              · subst e'; exact hf
              · exact HF.out q hq (by omega)
            clear hf HF HOv
            go_wp2_with (go_at_call 59; refine (hff _).mono ?_; rintro e w6 ⟨rfl, hb6⟩)
            have hb7 := (hby.alloc hzy _).trans (hb6.mono (by simp; omega))
            clear hb6 hff
            go_roundw
            case rel => exact ⟨1, by omega, by first | rfl | go_num, HG, hb7⟩
            case measure => simp [intOf]
          · have hf' : Sg.fits t0 = false := Bool.eq_false_iff.2 hf
            rw [hf'] at hff
            have HE4 : Hid (Sg.perErr ac es now = 4) := HOv.out 0 (by simp) hf'
            clear hf hf' HF HOv
            go_wp2_with (go_at_call 59; refine (hff _).mono ?_; rintro e w6 ⟨rfl, hb6⟩; have hb7 := (hby.alloc hzy _).trans (hb6.mono (by simp; omega)); obtain ⟨a0, a1, a2, a3, a4, a5, a6, a7, a8, a9, a10, f0, f1, f2, f3, f4, f5, f6, f7, f8, f9, f10⟩ := eleven_of ((hb7.block w.heap.size hwy).trans HZy.out))
            have hbe := hBy.trans (hb7.mono (by omega))
            refine bodyPost_ret (v := .tuple #[.agg #[nilV, nilV, .map none, zU, zU, zU, zU, zU, zU, zU, zU], .int .i64 4]) (by simp [results, Tryz.results30, go_sem, a0, a1, a2, a3, a4, a5, a6, a7, a8, a9, a10]) rfl ⟨put11_below hbe (Nat.le_refl _) _ _ _ _ _ _ _ _ _ _ _, Or.inl ⟨by rw [HE4.out]; decide, by rw [HE4.out]; rfl⟩⟩
        · -- line 1
          have hff := fun W => numFits_any t1 W hT1
          by_cases hf : Sg.fits t1 = true
          · rw [hf] at hff
            have HG : Hid (∀ q (hq : q < [t0, t1, t2, t3].length), q < 2 → Sg.fits [t0, t1, t2, t3][q] = true) := fun q hq hlt => by
              by_cases e' : q = 1
              · subst e'; exact hf
              · exact HF.out q hq (by omega)
            clear hf HF HOv
            go_wp2_with (go_at_call 59; refine (hff _).mono ?_; rintro e w6 ⟨rfl, hb6⟩)
            have hb7 := (hby.alloc hzy _).trans (hb6.mono (by simp; omega))
            clear hb6 hff
            go_roundw
            case rel => exact ⟨2, by omega, by first | rfl | go_num, HG, hb7⟩
            case measure => simp [intOf]
          · have hf' : Sg.fits t1 = false := Bool.eq_false_iff.2 hf
            rw [hf'] at hff
            have HE4 : Hid (Sg.perErr ac es now = 4) := HOv.out 1 (by simp) hf'
            clear hf hf' HF HOv
            go_wp2_with (go_at_call 59; refine (hff _).mono ?_; rintro e w6 ⟨rfl, hb6⟩; have hb7 := (hby.alloc hzy _).trans (hb6.mono (by simp; omega)); obtain ⟨a0, a1, a2, a3, a4, a5, a6, a7, a8, a9, a10, f0, f1, f2, f3, f4, f5, f6, f7, f8, f9, f10⟩ := eleven_of ((hb7.block w.heap.size hwy).trans HZy.out))
            have hbe := hBy.trans (hb7.mono (by omega))
            refine bodyPost_ret (v := .tuple #[.agg #[nilV, nilV, .map none, zU, zU, zU, zU, zU, zU, zU, zU], .int .i64 4]) (by simp [results, Tryz.results30, go_sem, a0, a1, a2, a3, a4, a5, a6, a7, a8, a9, a10]) rfl ⟨put11_below hbe (Nat.le_refl _) _ _ _ _ _ _ _ _ _ _ _, Or.inl ⟨by rw [HE4.out]; decide, by rw [HE4.out]; rfl⟩⟩
        · -- line 2
          have hff := fun W => numFits_any t2 W hT2
          by_cases hf : Sg.fits t2 = true
          · rw [hf] at hff
            have HG : Hid (∀ q (hq : q < [t0, t1, t2, t3].length), q < 3 → Sg.fits [t0, t1, t2, t3][q] = true) := fun q hq hlt => by
              by_cases e' : q = 2
              · subst e'; exact hf
              · exact HF.out q hq (by omega)
            clear hf HF HOv
            go_wp2_with (go_at_call 59; refine (hff _).mono ?_; rintro e w6 ⟨rfl, hb6⟩)
            have hb7 := (hby.alloc hzy _).trans (hb6.mono (by simp; omega))
            clear hb6 hff
            go_roundw
            case rel => exact ⟨3, by omega, by first | rfl | go_num, HG, hb7⟩
            case measure => simp [intOf]
          · have hf' : Sg.fits t2 = false := Bool.eq_false_iff.2 hf
            rw [hf'] at hff
            have HE4 : Hid (Sg.perErr ac es now = 4) := HOv.out 2 (by simp) hf'
            clear hf hf' HF HOv
            go_wp2_with (go_at_call 59; refine (hff _).mono ?_; rintro e w6 ⟨rfl, hb6⟩; have hb7 := (hby.alloc hzy _).trans (hb6.mono (by simp; omega)); obtain ⟨a0, a1, a2, a3, a4, a5, a6, a7, a8, a9, a10, f0, f1, f2, f3, f4, f5, f6, f7, f8, f9, f10⟩ := eleven_of ((hb7.block w.heap.size hwy).trans HZy.out))
            have hbe := hBy.trans (hb7.mono (by omega))
            refine bodyPost_ret (v := .tuple #[.agg #[nilV, nilV, .map none, zU, zU, zU, zU, zU, zU, zU, zU], .int .i64 4]) (by simp [results, Tryz.results30, go_sem, a0, a1, a2, a3, a4, a5, a6, a7, a8, a9, a10]) rfl ⟨put11_below hbe (Nat.le_refl _) _ _ _ _ _ _ _ _ _ _ _, Or.inl ⟨by rw [HE4.out]; decide, by rw [HE4.out]; rfl⟩⟩
        · -- line 3
          have hff := fun W => numFits_any t3 W hT3
          by_cases hf : Sg.fits t3 = true
          · rw [hf] at hff
            have HG : Hid (∀ q (hq : q < [t0, t1, t2, t3].length), q < 4 → Sg.fits [t0, t1, t2, t3][q] = true) := fun q hq hlt => by
              by_cases e' : q = 3
              · subst e'; exact hf
              · exact HF.out q hq (by omega)
            clear hf HF HOv
            go_wp2_with (go_at_call 59; refine (hff _).mono ?_; rintro e w6 ⟨rfl, hb6⟩)
            have hb7 := (hby.alloc hzy _).trans (hb6.mono (by simp; omega))
            clear hb6 hff
            go_roundw
            case rel => exact ⟨4, by omega, by first | rfl | go_num, HG, hb7⟩
            case measure => simp [intOf]
          · have hf' : Sg.fits t3 = false := Bool.eq_false_iff.2 hf
            rw [hf'] at hff
            have HE4 : Hid (Sg.perErr ac es now = 4) := HOv.out 3 (by simp) hf'
            clear hf hf' HF HOv
            go_wp2_with (go_at_call 59; refine (hff _).mono ?_; rintro e w6 ⟨rfl, hb6⟩; have hb7 := (hby.alloc hzy _).trans (hb6.mono (by simp; omega)); obtain ⟨a0, a1, a2, a3, a4, a5, a6, a7, a8, a9, a10, f0, f1, f2, f3, f4, f5, f6, f7, f8, f9, f10⟩ := eleven_of ((hb7.block w.heap.size hwy).trans HZy.out))
            have hbe := hBy.trans (hb7.mono (by omega))
            refine bodyPost_ret (v := .tuple #[.agg #[nilV, nilV, .map none, zU, zU, zU, zU, zU, zU, zU, zU], .int .i64 4]) (by simp [results, Tryz.results30, go_sem, a0, a1, a2, a3, a4, a5, a6, a7, a8, a9, a10]) rfl ⟨put11_below hbe (Nat.le_refl _) _ _ _ _ _ _ _ _ _ _ _, Or.inl ⟨by rw [HE4.out]; decide, by rw [HE4.out]; rfl⟩⟩
        · obtain ⟨HV, HE0⟩ := HOk0.out HF.out
          have HVv : Hid (∀ v ∈ [t0, t1, t2, t3], Sg.fits v = true) := HV
          have HEz : Hid (Sg.perErr ac es now = 0) := HE0
          clear HF HOv HOk0 HV HE0
          obtain ⟨g0, g1, g2, g3, g4, g5, g6, g7, g8, g9, g10, _, _, _, _, _, _, _, _, _, _, _⟩ := eleven_of ((hby.block _ hgz).trans HPg.out)
          obtain ⟨a0, a1, a2, a3, a4, a5, a6, a7, a8, a9, a10, f0, f1, f2, f3, f4, f5, f6, f7, f8, f9, f10⟩ := eleven_of ((hby.block _ hwy).trans HZy.out)
          have hbe := hBy.trans (hby.mono (by omega))
          have HBn : Hid (BalIn wy (w.heap.size + 1) (c + 72) now') := HBc.out.below hby
          go_wp2_with fail
          refine bodyPost_ret (v := .tuple #[.agg #[.slice aoA nA capA, .slice aoE ne capE, .map (some (w.heap.size + 1)), .int .u64 (nHi t0), .int .u64 (nLo t0), .int .u64 (nHi t1), .int .u64 (nLo t1), .int .u64 (nHi t2), .int .u64 (nLo t2), .int .u64 (nHi t3), .int .u64 (nLo t3)], .int .i64 0]) (by simp [results, Tryz.results30, go_sem, a0, a1, a2, a3, a4, a5, a6, a7, a8, a9, a10]) rfl
            ⟨put11_below hbe (Nat.le_refl _) _ _ _ _ _ _ _ _ _ _ _, Or.inr ⟨HEz.out, now', t0, t1, t2, t3, HD.out, HVv.out, HL.out.2, HL.out.1, HBn.out.block (put11_far _ _ _ _ _ _ _ _ _ _ _ _ _ _ (by omega)), rfl⟩⟩
end Go.Proofs.YtpkkhkkkgjhkeabGreat

/-
  THE WALK of book.Close: a history is closed.
-/
namespace Go.Proofs.YtpkkhkkkgjhkeabGreat
open Go.RowKit Go.Maps
set_option maxRecDepth 100000
attribute [local go_sem ↓] Go.wp_at_zero Go.wp_at_succ

theorem Tryz.infoPer : (Tryz.prog.info? 87).map (fun i => (i.zero, i.size, i.bytes)) = some (some (.agg #[.slice none 0 0, .slice none 0 0, .map none, .int .u64 0, .int .u64 0, .int .u64 0, .int .u64 0, .int .u64 0, .int .u64 0, .int .u64 0, .int .u64 0]), 11, 120) := by kernel_rfl

/-- A closed period: its entries, its map, what is in it, the totals. -/
structure Rec where
  eV : Value
  m : Nat
  now : List Int
  t0 : Int
  t1 : Int
  t2 : Int
  t3 : Int
def recCells (A : Value) (r : Rec) : List Value := [A, r.eV, .map (some r.m), .int .u64 (nHi r.t0), .int .u64 (nLo r.t0), .int .u64 (nHi r.t1), .int .u64 (nLo r.t1), .int .u64 (nHi r.t2), .int .u64 (nLo r.t2), .int .u64 (nHi r.t3), .int .u64 (nLo r.t3)]
def recsCells (A : Value) (rs : List Rec) : List Value := rs.flatMap (recCells A)
theorem recsCells_length (A : Value) : ∀ rs, (recsCells A rs).length = rs.length * 11
  | [] => rfl
  | r :: rs => by
    show (recCells A r ++ recsCells A rs).length = _
    rw [List.length_append, recsCells_length A rs, List.length_cons]
    simp only [recCells, List.length_cons, List.length_nil]; omega
theorem recsCells_snoc (A : Value) (rs : List Rec) (r : Rec) : recsCells A (rs ++ [r]) = recsCells A rs ++ recCells A r := by
  unfold recsCells; simp
theorem recsCells_at (A : Value) : ∀ (rs : List Rec) (i j : Nat) (h : i < rs.length), j < 11 → (recsCells A rs)[i * 11 + j]? = (recCells A rs[i])[j]?
  | r :: rs, 0, j, _, hj => by
    show (recCells A r ++ recsCells A rs)[0 * 11 + j]? = _
    rw [List.getElem?_append_left (by simp only [recCells, List.length_cons, List.length_nil]; omega)]
    simp
  | r :: rs, i + 1, j, h, hj => by
    show (recCells A r ++ recsCells A rs)[(i + 1) * 11 + j]? = _
    have hl : (recCells A r).length = 11 := rfl
    rw [List.getElem?_append_right (by rw [hl]; omega), hl, show (i + 1) * 11 + j - 11 = i * 11 + j by omega]
    exact recsCells_at A rs i j (by simpa using h) hj

theorem Sg.bnd_nums {h : Sg.Hist} (hi : Sg.inBounds h = true) : (1 ≤ h.accs.length ∧ h.accs.length ≤ 8) ∧ 1 ≤ h.pers.length ∧ h.pers.length ≤ 6 := by
  unfold Sg.inBounds at hi
  simp only [Bool.and_eq_true, decide_eq_true_eq] at hi
  omega
/-- What is known of the closed periods so far. -/
def RecOk (w0 w : World) (es : List Sg.Ent) (bal tot : List Int) (r : Rec) : Prop :=
  BalIn w r.m 600 r.now ∧ bal = r.now ∧ tot = [r.t0, r.t1, r.t2, r.t3] ∧ ∃ aoE capE, r.eV = .slice aoE es.length capE ∧ EntsIn w0 aoE es
def RecsOk (w0 w : World) (ps : List (List Sg.Ent)) (bal tot : List (List Int)) (rs : List Rec) : Prop :=
  ∀ i (h : i < rs.length), ∃ (h1 : i < ps.length) (h2 : i < bal.length) (h3 : i < tot.length), RecOk w0 w ps[i] bal[i] tot[i] rs[i]
theorem RecsOk.kept {w0 w w' : World} {ps : List (List Sg.Ent)} {bal tot : List (List Int)} {rs : List Rec} (h : RecsOk w0 w ps bal tot rs) (hk : ∀ m c now, BalIn w m c now → BalIn w' m c now) : RecsOk w0 w' ps bal tot rs := fun i hi => by
  obtain ⟨h1, h2, h3, g1, g2⟩ := h i hi
  exact ⟨h1, h2, h3, hk _ _ _ g1, g2⟩
theorem RecsOk.push {w0 w : World} {ps : List (List Sg.Ent)} {bal tot : List (List Int)} {rs : List Rec} {k : Nat} {r : Rec} {now tt : List Int} (h : RecsOk w0 w ps bal tot rs) (hk : rs.length = k) (hb : bal.length = k) (ht : tot.length = k) (hp : k < ps.length) (hr : RecOk w0 w ps[k] now tt r) :
    RecsOk w0 w ps (bal ++ [now]) (tot ++ [tt]) (rs ++ [r]) := fun i hi => by
  rw [List.length_append, List.length_cons, List.length_nil] at hi
  by_cases e : i = k
  · subst e
    refine ⟨hp, by simp [hb], by simp [ht], ?_⟩
    have e1 : (bal ++ [now])[i]'(by simp [hb]) = now := by rw [List.getElem_append_right (by omega)]; simp
    have e2 : (tot ++ [tt])[i]'(by simp [ht]) = tt := by rw [List.getElem_append_right (by omega)]; simp
    have e3 : (rs ++ [r])[i]'(by simp; omega) = r := by rw [List.getElem_append_right (by omega)]; simp
    rw [e1, e2, e3]
    exact hr
  · obtain ⟨h1, h2, h3, g⟩ := h i (by omega)
    refine ⟨h1, by simp; omega, by simp; omega, ?_⟩
    rw [List.getElem_append_left h2, List.getElem_append_left h3, List.getElem_append_left (by omega)]
    exact g

/-- What Close holds at the head of its loop. -/
structure BkInv (w w1 wr : World) (h : Sg.Hist) (A : Value) (nA k m : Nat) (now : List Int) (bal tot : List (List Int)) (rs : List Rec) (vP : Value) : Prop where
  bel : Below w1.heap.size w1 wr
  box : wr.heap[w1.heap.size]? = some (.cells #[A, vP] 65 (0, 0))
  now_ : BalIn wr m (72 * k) now
  row : wr.ownsRow (w1.heap.size + 1) 87 11 vP k (recsCells A rs)
  len : rs.length = k
  recs : RecsOk w wr h.pers bal tot rs
  spec : ClSpec h nA k now bal tot
  big : w1.heap.size + 1 ≤ wr.heap.size

theorem balIn_not_row {w : World} {base : Nat} {v : Value} {k n m c : Nat} {xs now} (h : BalIn w m c now) (hr : w.ownsRow base 87 n v k xs) : v.ownBlock ≠ some m := by
  intro e
  obtain ⟨D, ⟨es, clock, h1, _⟩, _⟩ := h
  rcases hr.2 with ⟨rfl, _⟩ | ⟨g, cap, cur, rfl, hb, hg, _⟩
  · simp [Value.ownBlock] at e
  · simp only [Value.ownBlock, Option.some.injEq] at e
    subst e
    rw [h1] at hg
    simp at hg

/-- A book, as it lies in memory. -/
structure BkIn (w : World) (A : Value) (ao : Option Addr) (nP : Nat) (h : Sg.Hist) (rs : List Rec) (b : Nat) : Prop where
  at_ : ao = some ⟨b, 0, none⟩
  lt : b < w.heap.size
  cells : ∀ i (hi : i < rs.length) j, j < 11 → w.cell? ⟨b, i * 11 + j, none⟩ = (recCells A rs[i])[j]?
  len : rs.length = nP
  recs : RecsOk w w h.pers (Sg.balances h) (Sg.totals h) rs
  fineB : ∀ l ∈ Sg.balances h, l.length = h.accs.length ∧ ∀ v ∈ l, Sg.fits v = true
  fineT : ∀ l ∈ Sg.totals h, ∀ v ∈ l, Sg.fits v = true
theorem RecsOk.world {w0 w : World} {ps : List (List Sg.Ent)} {bal tot : List (List Int)} {rs : List Rec} (h : RecsOk w0 w ps bal tot rs) (hb : Below w0.heap.size w0 w) : RecsOk w w ps bal tot rs := fun i hi => by
  obtain ⟨h1, h2, h3, g1, g2, g3, ao, cap, g4, g5⟩ := h i hi
  exact ⟨h1, h2, h3, g1, g2, g3, ao, cap, g4, g5.below hb⟩

theorem BkInv.start {w w1 : World} {h : Sg.Hist} {A : Value} {nA : Nat} (hn : h.accs.length = nA) :
    BkInv w w1 ((w1.alloc (.cells #[A, nilV] 65)).alloc (.map #[] 0)) h A nA 0 (w1.heap.size + 1) (List.replicate nA 0) [] [] [] nilV := by
  have e1 : (w1.alloc (.cells #[A, nilV] 65)).heap.size = w1.heap.size + 1 := by simp
  refine ⟨((Below.refl _ _).alloc (Nat.le_refl _) _).alloc (by simp) _, ?_, ?_, World.ownsRow_nil _ _ _ _, rfl, fun i hi => absurd hi (by simp), ClSpec.start hn, by simp⟩
  · rw [Below.heap_alloc _ _ _ (by simp)]; exact heap_alloc_new w1 _
  · have := BalIn.made (w1.alloc (.cells #[A, nilV] 65)) nA
    rw [e1] at this
    exact this

theorem new_block2 (w : World) (o : Obj) (cs : Array Value) (t : TypeId) : ((w.alloc o).alloc (.cells cs t)).heap[w.heap.size + 1]? = some (.cells cs t (0, 0)) := by
  have := heap_alloc_new (w.alloc o) (.cells cs t)
  have e : (w.alloc o).heap.size = w.heap.size + 1 := by simp
  rw [e] at this
  exact this
/-- One period more. -/
theorem BkInv.next {w w1 wz w3 w5 : World} {h : Sg.Hist} {A : Value} {nA k m' gg cap' : Nat} {now' : List Int} {bal tot : List (List Int)} {rs : List Rec} {vP : Value} {r : Rec} {o1 o2 : Obj}
    (hbw1 : Below w1.heap.size w1 wz) (hb3 : Below wz.heap.size wz w3) (hltb : w1.heap.size < wz.heap.size) (hbox : w3.heap[w1.heap.size]? = some (.cells #[A, vP] 65 (0, 0))) (hrow : wz.ownsRow (w1.heap.size + 1) 87 11 vP k (recsCells A rs)) (hlen : rs.length = k) (hrecs : RecsOk w wz h.pers bal tot rs)
    (hlB : bal.length = k) (hlT : tot.length = k) (hk : k < h.pers.length) (hbn : BalIn w3 m' (72 * k + 72) now') (hk6 : k < 6) (hspec : ClSpec h nA (k + 1) now' (bal ++ [now']) (tot ++ [[r.t0, r.t1, r.t2, r.t3]])) (hr1 : r.m = m') (hr2 : r.now = now') (hr3 : ∃ aoE capE, r.eV = .slice aoE h.pers[k].length capE ∧ EntsIn w aoE h.pers[k])
    (hown : w5.ownsRow (w1.heap.size + 1) 87 11 (.slice (some ⟨gg, 0, none⟩) (k + 1) cap') (k + 1) (recsCells A rs ++ recCells A r)) (hg : ((w3.alloc o1).alloc o2).grownBy w5 vP.ownBlock) :
    BkInv w w1 (w5.setCell ⟨w1.heap.size, 1, none⟩ (.slice (some ⟨gg, 0, none⟩) (k + 1) cap')) h A nA (k + 1) m' now' (bal ++ [now']) (tot ++ [[r.t0, r.t1, r.t2, r.t3]]) (rs ++ [r]) (.slice (some ⟨gg, 0, none⟩) (k + 1) cap') := by
  have hs3 := hb3.size
  have hrow3 := ownsRow_below hrow hb3
  have hbA : Below w3.heap.size w3 ((w3.alloc o1).alloc o2) := ((Below.refl _ _).alloc (Nat.le_refl _) _).alloc (by simp) _
  have hne : ∀ k', vP.ownBlock = some k' → w1.heap.size + 1 ≤ k' ∧ k' < w3.heap.size := hrow3.lt
  have key : ∀ j, j < w3.heap.size → some j ≠ vP.ownBlock → j ≠ w1.heap.size → (w5.setCell ⟨w1.heap.size, 1, none⟩ (.slice (some ⟨gg, 0, none⟩) (k + 1) cap')).heap[j]? = w3.heap[j]? := fun j h1 h2 h3 => by
    rw [Below.heap_setCell _ _ _ _ h3, hg.block j (by simp; omega) h2, hbA.block j h1]
  have keyB : ∀ m c nw, BalIn w3 m c nw → BalIn (w5.setCell ⟨w1.heap.size, 1, none⟩ (.slice (some ⟨gg, 0, none⟩) (k + 1) cap')) m c nw := fun m c nw hb => by
    refine hb.block (key m hb.lt (fun e => balIn_not_row hb hrow3 e.symm) (fun e => ?_))
    obtain ⟨D, ⟨es, clock, h1, _⟩, _⟩ := hb
    rw [e, hbox] at h1
    simp at h1
  have hb5 : w5.heap[w1.heap.size]? = some (.cells #[A, vP] 65 (0, 0)) := by
    rw [hg.block _ (by simp; omega) (fun e => by have := (hne _ e.symm).1; omega), hbA.block _ (by omega)]
    exact hbox
  have hs5 := hg.size
  refine ⟨?_, ?_, ?_, ?_, by simp [hlen], ?_, hspec, ?_⟩
  · refine Below.setCell (B := w1.heap.size) (p := ⟨w1.heap.size, 1, none⟩) ?_ (Nat.le_refl _) _
    refine Below.grown (B := w1.heap.size) ?_ hg (by simp; omega) (fun k' hk' => by have := (hne _ hk').1; omega)
    exact ((hbw1.trans (hb3.mono (by omega))).alloc (by omega) _).alloc (by simp; omega) _
  · rw [heap_setCell_same _ _ _ _ _ _ hb5]; rfl
  · exact (keyB _ _ _ hbn).mono (by omega)
  · have : recsCells A (rs ++ [r]) = recsCells A rs ++ recCells A r := recsCells_snoc A rs r
    rw [this]
    exact ownsRow_setCell_below hown (by simp) _
  · refine RecsOk.push ((hrecs.kept (fun m c nw hb => hb.below hb3)).kept keyB) hlen hlB hlT hk ⟨?_, hr2.symm, rfl, hr3⟩
    rw [hr1, hr2]
    exact (keyB _ _ _ hbn).mono (by omega)
  · simp at hs5; simp; omega

/-- The entries' lists of the records are those that were handed in. -/
def EvAt (w : World) (aoP : Option Addr) (rs : List Rec) : Prop := ∀ i (h : i < rs.length), ∃ b off, aoP = some ⟨b, off, none⟩ ∧ w.cell? ⟨b, off + i, none⟩ = some rs[i].eV
theorem EvAt.push {w : World} {b off : Nat} {rs : List Rec} {r : Rec} {k : Nat} (h : EvAt w (some ⟨b, off, none⟩) rs) (hk : rs.length = k) (hr : w.cell? ⟨b, off + k, none⟩ = some r.eV) : EvAt w (some ⟨b, off, none⟩) (rs ++ [r]) := fun i hi => by
  rw [List.length_append, List.length_cons, List.length_nil] at hi
  by_cases e : i = k
  · subst e
    refine ⟨b, off, rfl, ?_⟩
    rw [List.getElem_append_right (by omega)]
    simpa [hk] using hr
  · obtain ⟨b', off', e1, e2⟩ := h i (by omega)
    refine ⟨b', off', e1, ?_⟩
    rw [List.getElem_append_left (by omega)]
    exact e2

set_option maxHeartbeats 6400000 in
/-- Close. -/
theorem bClose_any (h : Sg.Hist) (aoA aoP : Option Addr) (nA nP capA capP : Nat) (w : World) (hH : HistIn w aoA aoP nA nP h) (hnc : nA ≤ capA) (hcap : capA ≤ 9223372036854775807) :
    Calls Tryz.prog 17 #[.agg #[.slice aoA nA capA, .slice aoP nP capP]] w fun e w' =>
      Below w.heap.size w w' ∧ ((Sg.closeErr h ≠ 0 ∧ e = .returned (.tuple #[.agg #[nilV, nilV], .int .i64 (Sg.closeErr h)])) ∨
        (Sg.inBounds h = true ∧ Sg.closeErr h = 0 ∧ ∃ ao cap rs b, e = .returned (.tuple #[.agg #[.slice aoA nA capA, .slice ao nP cap], .int .i64 0]) ∧ nP ≤ cap ∧ BkIn w' (.slice aoA nA capA) ao nP h rs b ∧ EvAt w aoP rs)) := by
  have HH : Hid (HistIn w aoA aoP nA nP h) := hH
  have hin := fun W (hb : Below w.heap.size w W) => inBounds_any h aoA aoP nA nP capA capP W hH.lenA hH.lenP hnc hcap (hH.accs.below hb) (hH.pers.below hb) hH.sizA hH.sizP
  have hbx : Below w.heap.size w ((w.alloc (.cells #[.slice aoA nA capA, .slice aoP nP capP] 26)).alloc (.cells #[nilV, nilV] 65)) := ((Below.refl _ _).alloc (Nat.le_refl _) _).alloc (by simp) _
  have HX : Hid (((w.alloc (.cells #[.slice aoA nA capA, .slice aoP nP capP] 26)).alloc (.cells #[nilV, nilV] 65)).heap[w.heap.size]? = some (.cells #[.slice aoA nA capA, .slice aoP nP capP] 26 (0, 0)) ∧
      ((w.alloc (.cells #[.slice aoA nA capA, .slice aoP nP capP] 26)).alloc (.cells #[nilV, nilV] 65)).heap[w.heap.size + 1]? = some (.cells #[nilV, nilV] 65 (0, 0))) := by
    refine ⟨?_, ?_⟩
    · rw [Below.heap_alloc _ _ _ (by simp)]; exact heap_alloc_new w _
    · have := heap_alloc_new (w.alloc (.cells #[.slice aoA nA capA, .slice aoP nP capP] 26)) (.cells #[nilV, nilV] 65)
      simpa using this
  clear hH
  obtain ⟨j0, ji, jz0, jz1, jz2⟩ := info_parts Tryz.infoPer
  by_cases hib : Sg.inBounds h = true
  · rw [hib] at hin
    have HIB : Hid (Sg.inBounds h = true) := hib
    clear hib
    have hmm := @run_makeMap Tryz.prog
    go_enter Tryz.func17, Tryz.ntmps17
    go_wp2_with fail
    refine (hin _ hbx).mono ?_
    rintro e w1 ⟨rfl, hb1⟩
    have hs1 := hb1.size
    have HX1 : Hid (w1.heap[w.heap.size]? = some (.cells #[.slice aoA nA capA, .slice aoP nP capP] 26 (0, 0)) ∧ w1.heap[w.heap.size + 1]? = some (.cells #[nilV, nilV] 65 (0, 0))) := ⟨(hb1.block _ (by simp; omega)).trans HX.out.1, (hb1.block _ (by simp)).trans HX.out.2⟩
    have y0 : w1.cell? ⟨w.heap.size, 0, none⟩ = some (.slice aoA nA capA) := by (rw [cell_of_row w1 _ 0 _ _ _ HX1.out.1]; rfl)
    have y1 : w1.cell? ⟨w.heap.size, 1, none⟩ = some (.slice aoP nP capP) := by (rw [cell_of_row w1 _ 1 _ _ _ HX1.out.1]; rfl)
    have hlt1 : w.heap.size < w1.heap.size := by (simp at hs1; omega)
    have HI0 : Hid (BkInv w w1 ((w1.alloc (.cells #[.slice aoA nA capA, nilV] 65)).alloc (.map #[] 0)) h (.slice aoA nA capA) nA 0 (w1.heap.size + 1) (List.replicate nA 0) [] [] [] nilV) := BkInv.start HH.out.lenA
    have hb01 : Below w.heap.size w w1 := hbx.trans (hb1.mono (by simp; omega))
    have hs1' : w.heap.size + 2 ≤ w1.heap.size := by simp at hs1; omega
    clear hb1 hbx HX hin hs1
    go_wp2_with fail
    go_loopw [5, 21] (fun v i wr => ∃ k : Nat, k ≤ nP ∧ i = .int .i64 (k : Int) ∧ ∃ m now bal tot rs vP, v = .map (some m) ∧ Hid (BkInv w w1 wr h (.slice aoA nA capA) nA k m now bal tot rs vP) ∧ Hid (EvAt w aoP rs)) (fun _ i _ => nP - (intOf i).toNat)
    case atStart => exact ⟨0, by omega, rfl, _, _, _, _, _, _, rfl, HI0, fun i hi => absurd hi (by simp)⟩
    case round =>
      obtain ⟨k, hk, rfl, m, now, bal, tot, rs, vP, rfl, HI, HEv⟩ := hrel
      obtain ⟨wz, ewz⟩ : ∃ z : World, z = wr := ⟨_, rfl⟩
      subst ewz
      have hbw1 := HI.out.bel
      have hb0z : Below w.heap.size w wz := hb01.trans (hbw1.mono (by omega))
      have hsz := hbw1.size
      have z0 : wz.cell? ⟨w.heap.size, 0, none⟩ = some (.slice aoA nA capA) := (hbw1.cell (p := ⟨w.heap.size, 0, none⟩) hlt1).trans y0
      have z1 : wz.cell? ⟨w.heap.size, 1, none⟩ = some (.slice aoP nP capP) := (hbw1.cell (p := ⟨w.heap.size, 1, none⟩) hlt1).trans y1
      have hX2 := (hbw1.block (w.heap.size + 1) (by omega)).trans HX1.out.2
      clear HI0 hmm y0 y1
      by_cases hlt : k < nP
      · have hka : k < h.pers.length := by rw [HH.out.lenP]; exact hlt
        obtain ⟨bP, offP, eP, hbP0, aoE, capE, hd, hE⟩ := HH.out.pers.cell (k := k) hka
        have hc := (hb0z.cell (p := ⟨bP, offP + k, none⟩) hbP0).trans hd
        have hbP : bP < wz.heap.size := by omega
        subst eP
        have HEE : Hid (EntsIn w aoE h.pers[k]) := hE
        obtain ⟨hfp1, hfp2⟩ := Sg.bnd_pers HIB.out h.pers[k] (List.getElem_mem _)
        have HBx : Hid (BalIn wz m (72 * k) now) := HI.out.now_
        obtain ⟨hna8, hnp6⟩ : nA ≤ 8 ∧ nP ≤ 6 := by
          have := Sg.bnd_nums HIB.out
          rw [HH.out.lenA, HH.out.lenP] at this
          omega
        have hcall := fun W (hb : Below wz.heap.size wz W) => closePer_any h.accs h.pers[k] now aoA aoE nA capA h.pers[k].length capE m (72 * k) W HH.out.lenA hna8 (HH.out.accs.below (hb0z.trans (hb.mono hb0z.size))) (fun a ha => (Sg.bnd_accs HIB.out a ha).2) rfl hfp1 (HEE.out.below (hb0z.trans (hb.mono hb0z.size)))
          (fun e he => ⟨(hfp2 e he).2, fun p hp => HH.out.sizQ h.pers[k] (List.getElem_mem _) e he p hp⟩) HI.out.spec.lenN HI.out.spec.fitN (HBx.out.below hb) (by omega)
        have HBad : Hid (Sg.perErr h.accs h.pers[k] now ≠ 0 → Sg.closeErr h = Sg.perErr h.accs h.pers[k] now) := fun e => by
          unfold Sg.perErr at e ⊢
          by_cases e1 : (Sg.entsTo h.accs h.pers[k] now [0, 0, 0, 0]).1 ≠ 0
          · rw [if_pos e1]; exact HI.out.spec.bad hka HIB.out e1
          · rw [if_neg e1] at e ⊢
            by_cases e2 : (Sg.entsTo h.accs h.pers[k] now [0, 0, 0, 0]).2.2.any (fun v => !Sg.fits v) = true
            · rw [if_pos e2]
              have e1' : (Sg.entsTo h.accs h.pers[k] now [0, 0, 0, 0]).1 = 0 := by omega
              exact HI.out.spec.over (now' := (Sg.entsTo h.accs h.pers[k] now [0, 0, 0, 0]).2.1) (tt := (Sg.entsTo h.accs h.pers[k] now [0, 0, 0, 0]).2.2) hka HIB.out (Prod.ext e1' rfl) e2
            · rw [if_neg e2] at e; exact absurd rfl e
        have HNx : Hid (∀ now' t0 t1 t2 t3, Sg.entsTo h.accs h.pers[k] now [0, 0, 0, 0] = (0, now', [t0, t1, t2, t3]) → (∀ v ∈ [t0, t1, t2, t3], Sg.fits v = true) → (∀ v ∈ now', Sg.fits v = true) → now'.length = nA → ClSpec h nA (k + 1) now' (bal ++ [now']) (tot ++ [[t0, t1, t2, t3]])) :=
          fun now' t0 t1 t2 t3 e1 e2 e3 e4 => HI.out.spec.next hka e1 e2 e4 e3 rfl
        have HLen : Hid (bal.length = k ∧ tot.length = k) := ⟨HI.out.spec.lenB, HI.out.spec.lenT⟩
        have hBox := HI.out.box
        have q0 : wz.cell? ⟨w1.heap.size, 0, none⟩ = some (.slice aoA nA capA) := by rw [cell_of_row wz _ 0 _ _ _ hBox]; rfl
        have q1 : wz.cell? ⟨w1.heap.size, 1, none⟩ = some vP := by rw [cell_of_row wz _ 1 _ _ _ hBox]; rfl
        have HBox : Hid (wz.heap[w1.heap.size]? = some (.cells #[.slice aoA nA capA, vP] 65 (0, 0))) := hBox
        have HRow : Hid (wz.ownsRow (w1.heap.size + 1) 87 11 vP k (recsCells (.slice aoA nA capA) rs)) := HI.out.row
        have HRecs : Hid (RecsOk w wz h.pers bal tot rs) := HI.out.recs
        have hlen := HI.out.len
        have hbig := HI.out.big
        have HEk : Hid (∃ es, es = h.pers[k]) := ⟨_, rfl⟩
        obtain ⟨ne, hne⟩ : ∃ ne, h.pers[k].length = ne := ⟨_, rfl⟩
        rw [hne] at hc hcall hfp1
        have HNe : Hid (h.pers[k].length = ne) := hne
        have HD : Hid (w.cell? ⟨bP, offP + k, none⟩ = some (.slice aoE ne capE)) := by show _ = _; rw [← hne]; exact hd
        obtain ⟨pe, hpe⟩ : ∃ pe, Sg.perErr h.accs h.pers[k] now = pe := ⟨_, rfl⟩
        simp only [hpe] at hcall HBad
        have i1 : (0 : Int) ≤ (k : Int) := by omega
        have i2 : (k : Int) < (nP : Int) := by omega
        have hltz : w.heap.size < wz.heap.size := by omega
        have hltb : w1.heap.size < wz.heap.size := by omega
        clear hne hpe hd hE HI hBox HEk hfp2
        go_wp2_with fail
        refine (hcall _ ((Below.refl _ _).alloc (Nat.le_refl _) _)).mono ?_
        rintro e w3 ⟨hb3, hcase⟩
        have hb3' : Below wz.heap.size wz w3 := ((Below.refl _ _).alloc (Nat.le_refl _) (.cells #[.slice aoE ne capE] 42)).trans (hb3.mono (by simp))
        have hs3 := hb3'.size
        have e3 : (wz.alloc (.cells #[.slice aoE ne capE] 42)).heap.size = wz.heap.size + 1 := by simp
        rw [e3] at hcase
        have hX3 := (hb3'.block (w.heap.size + 1) (by omega)).trans hX2
        have r0 : w3.cell? ⟨w.heap.size + 1, 0, none⟩ = some nilV := by rw [cell_of_row w3 _ 0 _ _ _ hX3]; rfl
        have r1 : w3.cell? ⟨w.heap.size + 1, 1, none⟩ = some nilV := by rw [cell_of_row w3 _ 1 _ _ _ hX3]; rfl
        have s0 : w3.frozen? ⟨w.heap.size + 1, 0, none⟩ = false := by simp [World.frozen?, hX3]
        have s1 : w3.frozen? ⟨w.heap.size + 1, 1, none⟩ = false := by simp [World.frozen?, hX3]
        have hlt3 : w.heap.size + 1 < w3.heap.size := by omega
        have hb03 : Below w.heap.size w w3 := hb0z.trans (hb3'.mono (by omega))
        clear hcall hb3
        rcases hcase with ⟨hz, rfl⟩ | ⟨hz, now', t0, t1, t2, t3, g1, g2, g3, g4, g5, rfl⟩
        · have HE : Hid (Sg.closeErr h = pe) := HBad.out hz
          have HZ : Hid (pe ≠ 0) := hz
          have qz : (pe != 0) = true := by rw [bne_iff_ne]; exact hz
          unfold zeroPer
          clear hz HBad HNx q0 q1
          go_wp2_with fail
          refine bodyPost_ret (v := .tuple #[.agg #[nilV, nilV], .int .i64 pe]) (by simp [results, Tryz.results17, go_sem, r0, r1, hlt3]) rfl ⟨(below_put2 hb03 (by omega) _ _).alloc (by simp; omega) _, Or.inl ⟨by rw [HE.out]; exact HZ.out, by rw [HE.out]⟩⟩
        · subst hz
          have HNx' := HNx.out now' t0 t1 t2 t3 g1 g2 g3 g4
          have HNxt : Hid (ClSpec h nA (k + 1) now' (bal ++ [now']) (tot ++ [[t0, t1, t2, t3]])) := HNx'
          have HBn : Hid (BalIn w3 (wz.heap.size + 1 + 1) (72 * k + 72) now') := g5
          clear HNx HNx' HBad g1 g2 g3 g4 g5 r0 r1 s0 s1
          have k0 : w3.cell? ⟨w1.heap.size, 0, none⟩ = some (.slice aoA nA capA) := (hb3'.cell (p := ⟨w1.heap.size, 0, none⟩) hltb).trans q0
          have k1 : w3.cell? ⟨w1.heap.size, 1, none⟩ = some vP := (hb3'.cell (p := ⟨w1.heap.size, 1, none⟩) hltb).trans q1
          have HBox3 : Hid (w3.heap[w1.heap.size]? = some (.cells #[.slice aoA nA capA, vP] 65 (0, 0))) := (hb3'.block _ hltb).trans HBox.out
          have hltb3 : w1.heap.size < w3.heap.size := by omega
          clear q0 q1
          have HRow3 : Hid (w3.ownsRow (w1.heap.size + 1) 87 11 vP k (recsCells (.slice aoA nA capA) rs)) := ownsRow_below HRow.out hb3'
          go_wp2_with (at_builtin; refine wpList_append_lies _ rfl _ _ 63 rfl (w1.heap.size + 1) 87 j0 (.agg #[.slice none 0 0, .slice none 0 0, .map none, .int .u64 0, .int .u64 0, .int .u64 0, .int .u64 0, .int .u64 0, .int .u64 0, .int .u64 0, .int .u64 0]) 11 120 Tryz.underlying63 ji jz0 jz1 jz2 rfl (by decide) vP k (recsCells (.slice aoA nA capA) rs) rfl ((HRow3.out.alloc _).alloc _) ⟨w3.heap.size + 1, 0, none⟩ 1 1 (recCells (.slice aoA nA capA) ⟨.slice aoE ne capE, wz.heap.size + 1 + 1, now', t0, t1, t2, t3⟩) rfl rfl ?c1 ?c2 ?c3 ?c4 ?c5 ?c6 (w3.heap.size + 2) ?c7 ?_)
          case c1 => exact World.news_of_block (cs := (recCells (.slice aoA nA capA) ⟨.slice aoE ne capE, wz.heap.size + 1 + 1, now', t0, t1, t2, t3⟩).toArray) (t := 87) (fr := (0, 0)) (new_block2 w3 _ _ _)
          case c2 => intro u hu; simp [recCells] at hu; rcases hu with rfl | rfl | rfl | rfl | rfl | rfl | rfl | rfl | rfl | rfl | rfl <;> rfl
          case c3 => omega
          case c4 => unfold maxLen; omega
          case c5 => omega
          case c6 => simp; omega
          case c7 => simp
          intro gg cap' w5 hown5 hgrow hat5 hlt5
          have HIn : Hid (BkInv w w1 (w5.setCell ⟨w1.heap.size, 1, none⟩ (.slice (some ⟨gg, 0, none⟩) (k + 1) cap')) h (.slice aoA nA capA) nA (k + 1) (wz.heap.size + 1 + 1) now' (bal ++ [now']) (tot ++ [[t0, t1, t2, t3]]) (rs ++ [⟨.slice aoE ne capE, wz.heap.size + 1 + 1, now', t0, t1, t2, t3⟩]) (.slice (some ⟨gg, 0, none⟩) (k + 1) cap')) :=
            BkInv.next (r := ⟨.slice aoE ne capE, wz.heap.size + 1 + 1, now', t0, t1, t2, t3⟩) hbw1 hb3' hltb HBox3.out HRow.out hlen HRecs.out HLen.out.1 HLen.out.2 hka HBn.out (by omega) HNxt.out rfl rfl ⟨aoE, capE, by rw [HNe.out], HEE.out⟩ hown5 hgrow
          have HEv2 : Hid (EvAt w (some ⟨bP, offP, none⟩) (rs ++ [⟨.slice aoE ne capE, wz.heap.size + 1 + 1, now', t0, t1, t2, t3⟩])) := HEv.out.push hlen HD.out
          have hrl := HRow3.out.lt
          have hB5 : w5.heap[w1.heap.size]? = some (.cells #[.slice aoA nA capA, vP] 65 (0, 0)) := by
            rw [hgrow.block _ (by simp; omega) (fun e => by have := (hrl _ e.symm).1; omega)]
            rw [Below.heap_alloc _ _ _ (by simp; omega), Below.heap_alloc _ _ _ hltb3]
            exact HBox3.out
          have c0 : w5.cell? ⟨w1.heap.size, 1, none⟩ = some vP := by rw [cell_of_row w5 _ 1 _ _ _ hB5]; rfl
          have c1 : w5.frozen? ⟨w1.heap.size, 1, none⟩ = false := by simp [World.frozen?, hB5]
          have c2 : w5.cell? ⟨w3.heap.size, 2, none⟩ = some (.map (some (wz.heap.size + 1 + 1))) := by
            have e1 := hgrow.cell_far ⟨w3.heap.size, 2, none⟩ (by simp; omega) (fun e => by have := (hrl _ e.symm).2; simp at this)
            rw [e1, World.cell?_alloc_past _ _ _ (by simp)]
            simp
          have hne13 : w3.heap.size ≠ w1.heap.size := by omega
          clear hown5 hgrow hat5 hB5 HBox3 HRow3 HRow HRecs HBn hrl k0 k1
          go_wp2_with fail
          go_roundw
          case rel => exact ⟨k + 1, by omega, by go_num, _, _, _, _, _, _, rfl, HIn, HEv2⟩
          case measure => simp [intOf]; omega
      · have hkn : k = h.pers.length := by rw [HH.out.lenP]; omega
        have hkP : k = nP := by omega
        subst hkP
        have hdone : Sg.closeErr h = 0 ∧ Sg.balances h = bal ∧ Sg.totals h = tot := by
          have := HI.out.spec
          rw [hkn] at this
          exact this.done HIB.out
        have hn1 : 1 ≤ k := by
          have := Sg.bnd_nums HIB.out
          rw [HH.out.lenP] at this
          omega
        have hrow := HI.out.row
        have hBox := HI.out.box
        obtain ⟨b, cap, hvP, hbk, hcc, hcells⟩ : ∃ b cap, vP = .slice (some ⟨b, 0, none⟩) k cap ∧ b < wz.heap.size ∧ k ≤ cap ∧ (w1.heap.size + 1 ≤ b ∧ ∀ i (hi : i < rs.length) j, j < 11 → wz.cell? ⟨b, i * 11 + j, none⟩ = (recCells (.slice aoA nA capA) rs[i])[j]?) := by
          have hk2 := hrow
          rcases hrow.2 with ⟨_, h0⟩ | ⟨g, cap, cur, rfl, hbg, hh, hle, hm, _, _⟩
          · omega
          · refine ⟨g, cap, rfl, lt_of_block hh, by omega, hbg, fun i hi j hj => ?_⟩
            have hlen := HI.out.len
            have := hk2.cellAt (i * 11 + j) (by omega)
            rw [this]
            exact recsCells_at _ rs i j hi hj
        subst hvP
        have q0 : wz.cell? ⟨w1.heap.size, 0, none⟩ = some (.slice aoA nA capA) := by rw [cell_of_row wz _ 0 _ _ _ hBox]; rfl
        have q1 : wz.cell? ⟨w1.heap.size, 1, none⟩ = some (.slice (some ⟨b, 0, none⟩) k cap) := by rw [cell_of_row wz _ 1 _ _ _ hBox]; rfl
        have r0 : wz.cell? ⟨w.heap.size + 1, 0, none⟩ = some nilV := by rw [cell_of_row wz _ 0 _ _ _ hX2]; rfl
        have r1 : wz.cell? ⟨w.heap.size + 1, 1, none⟩ = some nilV := by rw [cell_of_row wz _ 1 _ _ _ hX2]; rfl
        have s0 : wz.frozen? ⟨w.heap.size + 1, 0, none⟩ = false := by simp [World.frozen?, hX2]
        have s1 : wz.frozen? ⟨w.heap.size + 1, 1, none⟩ = false := by simp [World.frozen?, hX2]
        have HBk : Hid (BkIn ((wz.setCell ⟨w.heap.size + 1, 0, none⟩ (.slice aoA nA capA)).setCell ⟨w.heap.size + 1, 1, none⟩ (.slice (some ⟨b, 0, none⟩) k cap)) (.slice aoA nA capA) (some ⟨b, 0, none⟩) k h rs b) := by
          have hfar : ∀ j, j ≠ w.heap.size + 1 → ((wz.setCell ⟨w.heap.size + 1, 0, none⟩ (.slice aoA nA capA)).setCell ⟨w.heap.size + 1, 1, none⟩ (.slice (some ⟨b, 0, none⟩) k cap)).heap[j]? = wz.heap[j]? := fun j hj => by
            rw [Below.heap_setCell _ _ _ _ hj, Below.heap_setCell _ _ _ _ hj]
          have hbe := below_put2 (i := 0) (j := 1) hb0z (by omega : w.heap.size ≤ w.heap.size + 1) (.slice aoA nA capA) (.slice (some ⟨b, 0, none⟩) k cap)
          refine ⟨rfl, by simpa using hbk, fun i hi j hj => ?_, HI.out.len, ?_, ?_, ?_⟩
          · rw [World.cell?_of_block (w := wz) (hfar b (by omega))]
            exact hcells.2 i hi j hj
          · rw [hdone.2.1, hdone.2.2]
            refine RecsOk.world (HI.out.recs.kept (fun m c nw hb => hb.block (hfar m (fun e => ?_)))) hbe
            obtain ⟨D, ⟨es, clock, h1, _⟩, _⟩ := hb
            rw [e, hX2] at h1
            simp at h1
          · rw [hdone.2.1, HH.out.lenA]; exact HI.out.spec.fineB
          · rw [hdone.2.2]; exact fun l hl => (HI.out.spec.fineT l hl).2
        have HC0 : Hid (Sg.closeErr h = 0) := hdone.1
        clear HI hrow hBox hcells hdone hkn
        go_wp2_with fail
        refine bodyPost_ret (v := .tuple #[.agg #[.slice aoA nA capA, .slice (some ⟨b, 0, none⟩) k cap], .int .i64 0]) (by simp [results, Tryz.results17, go_sem, r0, r1]) rfl ⟨below_put2 hb0z (by omega) _ _, Or.inr ⟨HIB.out, HC0.out, some ⟨b, 0, none⟩, cap, rs, b, rfl, hcc, HBk.out, HEv.out⟩⟩
  · have hib' : Sg.inBounds h = false := Bool.eq_false_iff.2 hib
    rw [hib'] at hin
    have HE : Hid (Sg.closeErr h = 1) := by show _ = _; unfold Sg.closeErr; rw [if_neg (by rw [hib']; simp)]
    clear hib hib'
    go_enter Tryz.func17, Tryz.ntmps17
    go_wp2_with fail
    refine (hin _ hbx).mono ?_
    rintro e w1 ⟨rfl, hb1⟩
    have hX1 := (hb1.block (w.heap.size + 1) (by simp)).trans HX.out.2
    have a0 : w1.cell? ⟨w.heap.size + 1, 0, none⟩ = some nilV := by (rw [cell_of_row w1 _ 0 _ _ _ hX1]; rfl)
    have a1 : w1.cell? ⟨w.heap.size + 1, 1, none⟩ = some nilV := by (rw [cell_of_row w1 _ 1 _ _ _ hX1]; rfl)
    have f0 : w1.frozen? ⟨w.heap.size + 1, 0, none⟩ = false := by (simp [World.frozen?, hX1])
    have f1 : w1.frozen? ⟨w.heap.size + 1, 1, none⟩ = false := by (simp [World.frozen?, hX1])
    go_wp2_with fail
    have hbe := hbx.trans (hb1.mono (by simp; omega))
    refine bodyPost_ret (v := .tuple #[.agg #[nilV, nilV], .int .i64 1]) (by simp [results, Tryz.results17, go_sem, a0, a1]) rfl ⟨below_put2 hbe (by omega) _ _, Or.inl ⟨by rw [HE.out]; decide, by rw [HE.out]⟩⟩
end Go.Proofs.YtpkkhkkkgjhkeabGreat

/-
  THE WALKS of Period.many, Entries, journal, Balances, statement.
-/
namespace Go.Proofs.YtpkkhkkkgjhkeabGreat
open Go.RowKit Go.Maps
set_option maxRecDepth 100000
attribute [local go_sem ↓] Go.wp_at_zero Go.wp_at_succ

/-- A period's box: eleven cells. -/
def PerBox (w : World) (g : Nat) (a e m c3 c4 c5 c6 c7 c8 c9 c10 : Value) : Prop := w.heap[g]? = some (.cells #[a, e, m, c3, c4, c5, c6, c7, c8, c9, c10] 87 (0, 0))
theorem PerBox.new (w : World) (a e m c3 c4 c5 c6 c7 c8 c9 c10 : Value) : PerBox (w.alloc (.cells #[a, e, m, c3, c4, c5, c6, c7, c8, c9, c10] 87)) w.heap.size a e m c3 c4 c5 c6 c7 c8 c9 c10 := heap_alloc_new w _
theorem PerBox.below {w w' : World} {g : Nat} {a e m c3 c4 c5 c6 c7 c8 c9 c10 : Value} (h : PerBox w g a e m c3 c4 c5 c6 c7 c8 c9 c10) (hb : Below w.heap.size w w') : PerBox w' g a e m c3 c4 c5 c6 c7 c8 c9 c10 := (hb.block g (lt_of_block h)).trans h
theorem PerBox.kept {w w' : World} {b g : Nat} {a e m c3 c4 c5 c6 c7 c8 c9 c10 : Value} (h : PerBox w g a e m c3 c4 c5 c6 c7 c8 c9 c10) (hk : Kept b w w') (h1 : g ≠ b) : PerBox w' g a e m c3 c4 c5 c6 c7 c8 c9 c10 := hk g _ _ _ h h1 (by decide)
theorem PerBox.cells {w : World} {g : Nat} {a e m c3 c4 c5 c6 c7 c8 c9 c10 : Value} (h : PerBox w g a e m c3 c4 c5 c6 c7 c8 c9 c10) : Eleven w g a e m c3 c4 c5 c6 c7 c8 c9 c10 := eleven_of h

set_option maxHeartbeats 800000 in
theorem many_any (a m c3 c4 c5 c6 c7 c8 c9 c10 : Value) (ao : Option Addr) (ne cap : Nat) (w : World) :
    Calls Tryz.prog 61 #[.agg #[a, .slice ao ne cap, m, c3, c4, c5, c6, c7, c8, c9, c10]] w fun e w' => ∃ y, e = .returned (.string y) ∧ Hid (y = Sg.beB ne 1) ∧ y.size ≤ 8 ∧ Below w.heap.size w w' := by
  go_enter Tryz.func61, Tryz.ntmps61
  go_wp2_with fail
  refine (one_txt _ _).mono ?_
  rintro e w1 ⟨y, rfl, hy, hys, hb⟩
  go_wp2_with fail
  go_ret
  exact ⟨_, rfl, hy, hys, ((Below.refl _ _).alloc (Nat.le_refl _) _).trans (hb.mono (by simp))⟩

set_option maxHeartbeats 1600000 in
theorem balances_any (now : List Int) (eV c3 c4 c5 c6 c7 c8 c9 c10 : Value) (ao : Option Addr) (nA cap m c : Nat) (w : World) (hn : now.length = nA) (hn8 : nA ≤ 8) (hf : ∀ v ∈ now, Sg.fits v = true) (hb : BalIn w m c now) :
    Calls Tryz.prog 63 #[.agg #[.slice ao nA cap, eV, .map (some m), c3, c4, c5, c6, c7, c8, c9, c10]] w fun e w' => ∃ y, e = .returned (.string y) ∧ Hid (y = Sg.amountsB now) ∧ y.size ≤ 64 ∧ Below w.heap.size w w' := by
  have HN : Hid (now.length = nA) := hn
  have HB : Hid (BalIn w m c now) := hb
  have HF : Hid (∀ v ∈ now, Sg.fits v = true) := hf
  clear hn hb hf
  have aB : Below w.heap.size w ((w.alloc (.cells #[.slice ao nA cap, eV, .map (some m), c3, c4, c5, c6, c7, c8, c9, c10] 87)).alloc (.cells #[.pointer none, .slice none 0 0] 92)) := ((Below.refl _ _).alloc (Nat.le_refl _) _).alloc (by simp) _
  have hB0 : PerBox ((w.alloc (.cells #[.slice ao nA cap, eV, .map (some m), c3, c4, c5, c6, c7, c8, c9, c10] 87)).alloc (.cells #[.pointer none, .slice none 0 0] 92)) w.heap.size (.slice ao nA cap) eV (.map (some m)) c3 c4 c5 c6 c7 c8 c9 c10 := (PerBox.new w _ _ _ _ _ _ _ _ _ _ _).below ((Below.refl _ _).alloc (Nat.le_refl _) _)
  have ht0 : TB ((w.alloc (.cells #[.slice ao nA cap, eV, .map (some m), c3, c4, c5, c6, c7, c8, c9, c10] 87)).alloc (.cells #[.pointer none, .slice none 0 0] 92)) (w.heap.size + 1) ByteArray.empty := by
    have := TB.new (w.alloc (.cells #[.slice ao nA cap, eV, .map (some m), c3, c4, c5, c6, c7, c8, c9, c10] 87))
    have e : (w.alloc (.cells #[.slice ao nA cap, eV, .map (some m), c3, c4, c5, c6, c7, c8, c9, c10] 87)).heap.size = w.heap.size + 1 := by simp
    rw [e] at this
    exact this
  have HX0 : Hid (PerBox ((w.alloc (.cells #[.slice ao nA cap, eV, .map (some m), c3, c4, c5, c6, c7, c8, c9, c10] 87)).alloc (.cells #[.pointer none, .slice none 0 0] 92)) w.heap.size (.slice ao nA cap) eV (.map (some m)) c3 c4 c5 c6 c7 c8 c9 c10) := hB0
  have HT0 : Hid (TB ((w.alloc (.cells #[.slice ao nA cap, eV, .map (some m), c3, c4, c5, c6, c7, c8, c9, c10] 87)).alloc (.cells #[.pointer none, .slice none 0 0] 92)) (w.heap.size + 1) (Sg.amountsB (now.take 0))) := ht0
  clear hB0 ht0
  go_enter Tryz.func63, Tryz.ntmps63
  go_wp2_with fail
  go_loopw [8] (fun i wr => ∃ k : Nat, k ≤ nA ∧ i = .int .i64 (k : Int) ∧ Hid (TB wr (w.heap.size + 1) (Sg.amountsB (now.take k))) ∧ Hid (PerBox wr w.heap.size (.slice ao nA cap) eV (.map (some m)) c3 c4 c5 c6 c7 c8 c9 c10) ∧ Below w.heap.size w wr) (fun i _ => nA - (intOf i).toNat)
  case atStart => exact ⟨0, by omega, rfl, HT0, HX0, aB⟩
  case round =>
    obtain ⟨k, hk, rfl, HT, HX, hbr⟩ := hrel
    obtain ⟨wz, ewz⟩ : ∃ z : World, z = wr := ⟨_, rfl⟩
    subst ewz
    have hsz := hbr.size
    clear HT0 HX0 aB
    by_cases hlt : k < nA
    · have hka : k < now.length := by rw [HN.out]; exact hlt
      have q2 := HX.out.cells.a2
      have hfv := HF.out now[k] (List.getElem_mem _)
      have hfm : -9223372036854775808 ≤ now[k] ∧ now[k] ≤ 9223372036854775807 := of_decide_eq_true hfv
      have hlk := (HB.out.below hbr).look (i := k) hka (by rw [HN.out]; exact hn8)
      have HS : Hid (Sg.amountsB (now.take (k + 1)) = Sg.amountsB (now.take k) ++ Sg.beB now[k] 8) := by
        show _ = _
        rw [List.take_succ_eq_append_getElem hka, Sg.amountsB_snoc]
      have hos : (Sg.amountsB (now.take k)).size = 8 * k := by rw [Sg.amountsB_size, List.length_take]; omega
      generalize Sg.amountsB (now.take k) = oo at *
      generalize now[k] = v at *
      go_wp2_with fail
      refine (int64_any v _ hfv).mono ?_
      rintro e w3 ⟨rfl, hb3⟩
      go_wp2_with fail
      refine (eight_txt v _ hfm).mono ?_
      rintro e w4 ⟨y, rfl, hy, hys, hb4⟩
      go_wp2_with fail
      refine (write_any (w.heap.size + 1) oo y _ ((HT.out.below hb3).below hb4) (by omega)).mono ?_
      rintro e w5 ⟨rfl, tb5, hb5, hk5⟩
      have HXn : Hid (PerBox w5 w.heap.size (.slice ao nA cap) eV (.map (some m)) c3 c4 c5 c6 c7 c8 c9 c10) := ((HX.out.below hb3).below hb4).kept hk5 (by omega)
      have HTn : Hid (TB w5 (w.heap.size + 1) (Sg.amountsB (now.take (k + 1)))) := by
        show TB _ _ _
        rw [HS.out, ← hy.out]
        exact tb5
      have hs3 := hb3.size
      have hs4 := hb4.size
      have hbe : Below w.heap.size w w5 := ((hbr.trans (hb3.mono hsz)).trans (hb4.mono (by omega))).trans (hb5.mono (by omega))
      clear tb5 hb5 hk5 hb3 hb4 q2 hlk HS HX HT
      go_wp2_with fail
      go_roundw
      case rel => exact ⟨k + 1, by omega, by go_num, HTn, HXn, hbe⟩
      case measure => simp [intOf]; omega
    · have HE : Hid (Sg.amountsB (now.take k) = Sg.amountsB now) := by
        show _ = _
        rw [List.take_of_length_le (by rw [HN.out]; omega)]
      have hsize : (Sg.amountsB (now.take k)).size ≤ 64 := by rw [Sg.amountsB_size, List.length_take]; omega
      generalize Sg.amountsB (now.take k) = oo at *
      go_wp2_with fail
      refine (string_any _ _ _ HT.out).mono ?_
      rintro e w3 ⟨rfl, hb3⟩
      go_wp2_with fail
      go_ret
      exact ⟨_, rfl, HE, hsize, hbr.trans (hb3.mono (by omega))⟩

set_option maxHeartbeats 3200000 in
theorem statement_any (t0 t1 t2 t3 : Int) (aV eV mV : Value) (w : World) (f0 : Sg.fits t0 = true) (f1 : Sg.fits t1 = true) (f2 : Sg.fits t2 = true) (f3 : Sg.fits t3 = true) :
    Calls Tryz.prog 64 #[.agg #[aV, eV, mV, .int .u64 (nHi t0), .int .u64 (nLo t0), .int .u64 (nHi t1), .int .u64 (nLo t1), .int .u64 (nHi t2), .int .u64 (nLo t2), .int .u64 (nHi t3), .int .u64 (nLo t3)]] w fun e w' => ∃ y, e = .returned (.string y) ∧ Hid (y = Sg.amountsB [t0, t1, t2, t3]) ∧ y.size ≤ 64 ∧ Below w.heap.size w w' := by
  have aB : Below w.heap.size w ((w.alloc (.cells #[aV, eV, mV, .int .u64 (nHi t0), .int .u64 (nLo t0), .int .u64 (nHi t1), .int .u64 (nLo t1), .int .u64 (nHi t2), .int .u64 (nLo t2), .int .u64 (nHi t3), .int .u64 (nLo t3)] 87)).alloc (.cells #[.pointer none, .slice none 0 0] 92)) := ((Below.refl _ _).alloc (Nat.le_refl _) _).alloc (by simp) _
  have HT0 : Hid (TB ((w.alloc (.cells #[aV, eV, mV, .int .u64 (nHi t0), .int .u64 (nLo t0), .int .u64 (nHi t1), .int .u64 (nLo t1), .int .u64 (nHi t2), .int .u64 (nLo t2), .int .u64 (nHi t3), .int .u64 (nLo t3)] 87)).alloc (.cells #[.pointer none, .slice none 0 0] 92)) (w.heap.size + 1) (Sg.amountsB ([t0, t1, t2, t3].take 0))) := by
    have := TB.new (w.alloc (.cells #[aV, eV, mV, .int .u64 (nHi t0), .int .u64 (nLo t0), .int .u64 (nHi t1), .int .u64 (nLo t1), .int .u64 (nHi t2), .int .u64 (nLo t2), .int .u64 (nHi t3), .int .u64 (nLo t3)] 87))
    have e : (w.alloc (.cells #[aV, eV, mV, .int .u64 (nHi t0), .int .u64 (nLo t0), .int .u64 (nHi t1), .int .u64 (nLo t1), .int .u64 (nHi t2), .int .u64 (nLo t2), .int .u64 (nHi t3), .int .u64 (nLo t3)] 87)).heap.size = w.heap.size + 1 := by simp
    rw [e] at this
    exact this
  go_enter Tryz.func64, Tryz.ntmps64
  go_wp2_with fail
  go_loopw [8] (fun i wr => ∃ k : Nat, k ≤ 4 ∧ i = .int .i64 (k : Int) ∧ Hid (TB wr (w.heap.size + 1) (Sg.amountsB ([t0, t1, t2, t3].take k))) ∧ Below w.heap.size w wr) (fun i _ => 4 - (intOf i).toNat)
  case atStart => exact ⟨0, by omega, rfl, HT0, aB⟩
  case round =>
    obtain ⟨k, hk, rfl, HT, hbr⟩ := hrel
    obtain ⟨wz, ewz⟩ : ∃ z : World, z = wr := ⟨_, rfl⟩
    subst ewz
    have hsz := hbr.size
    clear HT0 aB
    obtain ⟨x0, x1, x2, x3⟩ := totIndex (.int .u64 (nHi t0)) (.int .u64 (nLo t0)) (.int .u64 (nHi t1)) (.int .u64 (nLo t1)) (.int .u64 (nHi t2)) (.int .u64 (nLo t2)) (.int .u64 (nHi t3)) (.int .u64 (nLo t3)) wz
    have hr5 : k = 0 ∨ k = 1 ∨ k = 2 ∨ k = 3 ∨ k = 4 := by omega
    rcases hr5 with rfl | rfl | rfl | rfl | rfl
    · -- line 0
      have hfm : -9223372036854775808 ≤ t0 ∧ t0 ≤ 9223372036854775807 := of_decide_eq_true f0
      have HS : Hid (Sg.amountsB ([t0, t1, t2, t3].take 1) = Sg.amountsB ([t0, t1, t2, t3].take 0) ++ Sg.beB t0 8) := Sg.amountsB_snoc [] t0
      have hos : (Sg.amountsB ([t0, t1, t2, t3].take 0)).size ≤ 32 := by rw [Sg.amountsB_size]; simp
      generalize Sg.amountsB ([t0, t1, t2, t3].take 0) = oo at *
      go_wp2_with fail
      refine (int64_any t0 _ f0).mono ?_
      rintro e w3 ⟨rfl, hb3⟩
      go_wp2_with fail
      refine (eight_txt t0 _ hfm).mono ?_
      rintro e w4 ⟨y, rfl, hy, hys, hb4⟩
      go_wp2_with fail
      refine (write_any (w.heap.size + 1) oo y _ (((HT.out.below ((Below.refl _ _).alloc (Nat.le_refl _) _)).below hb3).below hb4) (by omega)).mono ?_
      rintro e w5 ⟨rfl, tb5, hb5, hk5⟩
      have HTn : Hid (TB w5 (w.heap.size + 1) (Sg.amountsB ([t0, t1, t2, t3].take 1))) := by
        show TB _ _ _
        rw [HS.out, ← hy.out]
        exact tb5
      have hs3 := hb3.size
      have hs4 := hb4.size
      simp at hs3
      have hbe : Below w.heap.size w w5 := (((hbr.alloc hsz _).trans (hb3.mono (by simp; omega))).trans (hb4.mono (by omega))).trans (hb5.mono (by omega))
      clear tb5 hb5 hk5 hb3 hb4 HS HT
      go_wp2_with fail
      go_roundw
      case rel => exact ⟨1, by omega, by first | rfl | go_num, HTn, hbe⟩
      case measure => simp [intOf]
    · -- line 1
      have hfm : -9223372036854775808 ≤ t1 ∧ t1 ≤ 9223372036854775807 := of_decide_eq_true f1
      have HS : Hid (Sg.amountsB ([t0, t1, t2, t3].take 2) = Sg.amountsB ([t0, t1, t2, t3].take 1) ++ Sg.beB t1 8) := Sg.amountsB_snoc [t0] t1
      have hos : (Sg.amountsB ([t0, t1, t2, t3].take 1)).size ≤ 32 := by rw [Sg.amountsB_size]; simp
      generalize Sg.amountsB ([t0, t1, t2, t3].take 1) = oo at *
      go_wp2_with fail
      refine (int64_any t1 _ f1).mono ?_
      rintro e w3 ⟨rfl, hb3⟩
      go_wp2_with fail
      refine (eight_txt t1 _ hfm).mono ?_
      rintro e w4 ⟨y, rfl, hy, hys, hb4⟩
      go_wp2_with fail
      refine (write_any (w.heap.size + 1) oo y _ (((HT.out.below ((Below.refl _ _).alloc (Nat.le_refl _) _)).below hb3).below hb4) (by omega)).mono ?_
      rintro e w5 ⟨rfl, tb5, hb5, hk5⟩
      have HTn : Hid (TB w5 (w.heap.size + 1) (Sg.amountsB ([t0, t1, t2, t3].take 2))) := by
        show TB _ _ _
        rw [HS.out, ← hy.out]
        exact tb5
      have hs3 := hb3.size
      have hs4 := hb4.size
      simp at hs3
      have hbe : Below w.heap.size w w5 := (((hbr.alloc hsz _).trans (hb3.mono (by simp; omega))).trans (hb4.mono (by omega))).trans (hb5.mono (by omega))
      clear tb5 hb5 hk5 hb3 hb4 HS HT
      go_wp2_with fail
      go_roundw
      case rel => exact ⟨2, by omega, by first | rfl | go_num, HTn, hbe⟩
      case measure => simp [intOf]
    · -- line 2
      have hfm : -9223372036854775808 ≤ t2 ∧ t2 ≤ 9223372036854775807 := of_decide_eq_true f2
      have HS : Hid (Sg.amountsB ([t0, t1, t2, t3].take 3) = Sg.amountsB ([t0, t1, t2, t3].take 2) ++ Sg.beB t2 8) := Sg.amountsB_snoc [t0, t1] t2
      have hos : (Sg.amountsB ([t0, t1, t2, t3].take 2)).size ≤ 32 := by rw [Sg.amountsB_size]; simp
      generalize Sg.amountsB ([t0, t1, t2, t3].take 2) = oo at *
      go_wp2_with fail
      refine (int64_any t2 _ f2).mono ?_
      rintro e w3 ⟨rfl, hb3⟩
      go_wp2_with fail
      refine (eight_txt t2 _ hfm).mono ?_
      rintro e w4 ⟨y, rfl, hy, hys, hb4⟩
      go_wp2_with fail
      refine (write_any (w.heap.size + 1) oo y _ (((HT.out.below ((Below.refl _ _).alloc (Nat.le_refl _) _)).below hb3).below hb4) (by omega)).mono ?_
      rintro e w5 ⟨rfl, tb5, hb5, hk5⟩
      have HTn : Hid (TB w5 (w.heap.size + 1) (Sg.amountsB ([t0, t1, t2, t3].take 3))) := by
        show TB _ _ _
        rw [HS.out, ← hy.out]
        exact tb5
      have hs3 := hb3.size
      have hs4 := hb4.size
      simp at hs3
      have hbe : Below w.heap.size w w5 := (((hbr.alloc hsz _).trans (hb3.mono (by simp; omega))).trans (hb4.mono (by omega))).trans (hb5.mono (by omega))
      clear tb5 hb5 hk5 hb3 hb4 HS HT
      go_wp2_with fail
      go_roundw
      case rel => exact ⟨3, by omega, by first | rfl | go_num, HTn, hbe⟩
      case measure => simp [intOf]
    · -- line 3
      have hfm : -9223372036854775808 ≤ t3 ∧ t3 ≤ 9223372036854775807 := of_decide_eq_true f3
      have HS : Hid (Sg.amountsB ([t0, t1, t2, t3].take 4) = Sg.amountsB ([t0, t1, t2, t3].take 3) ++ Sg.beB t3 8) := Sg.amountsB_snoc [t0, t1, t2] t3
      have hos : (Sg.amountsB ([t0, t1, t2, t3].take 3)).size ≤ 32 := by rw [Sg.amountsB_size]; simp
      generalize Sg.amountsB ([t0, t1, t2, t3].take 3) = oo at *
      go_wp2_with fail
      refine (int64_any t3 _ f3).mono ?_
      rintro e w3 ⟨rfl, hb3⟩
      go_wp2_with fail
      refine (eight_txt t3 _ hfm).mono ?_
      rintro e w4 ⟨y, rfl, hy, hys, hb4⟩
      go_wp2_with fail
      refine (write_any (w.heap.size + 1) oo y _ (((HT.out.below ((Below.refl _ _).alloc (Nat.le_refl _) _)).below hb3).below hb4) (by omega)).mono ?_
      rintro e w5 ⟨rfl, tb5, hb5, hk5⟩
      have HTn : Hid (TB w5 (w.heap.size + 1) (Sg.amountsB ([t0, t1, t2, t3].take 4))) := by
        show TB _ _ _
        rw [HS.out, ← hy.out]
        exact tb5
      have hs3 := hb3.size
      have hs4 := hb4.size
      simp at hs3
      have hbe : Below w.heap.size w w5 := (((hbr.alloc hsz _).trans (hb3.mono (by simp; omega))).trans (hb4.mono (by omega))).trans (hb5.mono (by omega))
      clear tb5 hb5 hk5 hb3 hb4 HS HT
      go_wp2_with fail
      go_roundw
      case rel => exact ⟨4, by omega, by first | rfl | go_num, HTn, hbe⟩
      case measure => simp [intOf]
    · have HE : Hid (Sg.amountsB ([t0, t1, t2, t3].take 4) = Sg.amountsB [t0, t1, t2, t3]) := rfl
      have hsize : (Sg.amountsB ([t0, t1, t2, t3].take 4)).size ≤ 64 := by rw [Sg.amountsB_size]; simp
      generalize Sg.amountsB ([t0, t1, t2, t3].take 4) = oo at *
      go_wp2_with fail
      refine (string_any _ _ _ HT.out).mono ?_
      rintro e w3 ⟨rfl, hb3⟩
      go_wp2_with fail
      go_ret
      exact ⟨_, rfl, HE, hsize, hbr.trans (hb3.mono (by omega))⟩

set_option maxHeartbeats 3200000 in
/-- Period.Entries. -/
theorem entries_any (es : List Sg.Ent) (aV mV c3 c4 c5 c6 c7 c8 c9 c10 : Value) (ao : Option Addr) (n cap : Nat) (w : World) (hl : es.length = n) (hn12 : n ≤ 12) (hE : EntsIn w ao es) (hok : ∀ e ∈ es, e.memo.size ≤ 20 ∧ e.posts.length ≤ 6 ∧ ∀ p ∈ e.posts, Sg.fits p.acct = true ∧ Sg.fits p.amt = true) :
    Calls Tryz.prog 66 #[.agg #[aV, .slice ao n cap, mV, c3, c4, c5, c6, c7, c8, c9, c10]] w fun e w' => ∃ v, e = .returned v ∧ Hid (OwnStrs w' (w.heap.size + 1) v (es.map Sg.entB)) ∧ Below w.heap.size w w' := by
  obtain ⟨i0, hi, hz0, hz1, hz2⟩ := info_parts Tryz.infoStr
  have HN : Hid (es.length = n) := hl
  have HE : Hid (EntsIn w ao es) := hE
  have HOK : Hid (∀ e ∈ es, e.memo.size ≤ 20 ∧ e.posts.length ≤ 6 ∧ ∀ p ∈ e.posts, Sg.fits p.acct = true ∧ Sg.fits p.amt = true) := hok
  clear hl hE hok
  go_enter Tryz.func66, Tryz.ntmps66
  go_wp2_with fail
  go_loopw [3, 9] (fun o i wr => ∃ k : Nat, k ≤ n ∧ i = .int .i64 (k : Int) ∧ ∃ v, v = o ∧ Hid (OwnStrs wr (w.heap.size + 1) v ((es.take k).map Sg.entB)) ∧ Below w.heap.size w wr ∧ w.heap.size + 1 ≤ wr.heap.size) (fun _ i _ => n - (intOf i).toNat)
  case atStart => exact ⟨0, by omega, rfl, _, rfl, World.ownsRow_nil _ _ _ _, (Below.refl _ _).alloc (Nat.le_refl _) _, by simp⟩
  case round =>
    obtain ⟨k, hk, rfl, v, ev, HO, hbr, hs1⟩ := hrel
    subst ev
    obtain ⟨wz, ewz⟩ : ∃ z : World, z = wr := ⟨_, rfl⟩
    subst ewz
    have hsz := hbr.size
    by_cases hlt : k < n
    · have hka : k < es.length := by rw [HN.out]; exact hlt
      obtain ⟨b, off, hao, hbw, hc0, ao', cap', hc1, hps⟩ := (HE.out.below hbr).cell (k := k) hka
      subst hao
      obtain ⟨o1, o2, o3⟩ := HOK.out es[k] (List.getElem_mem _)
      have HS : Hid ((es.take (k + 1)).map Sg.entB = (es.take k).map Sg.entB ++ [Sg.entB es[k]]) := by
        show _ = _
        rw [List.take_succ_eq_append_getElem hka, List.map_append]; rfl
      have hlen : ((es.take k).map Sg.entB).length = k := by rw [List.length_map, List.length_take]; omega
      obtain ⟨x, ps, hxp⟩ : ∃ x ps, es[k] = ⟨x, ps⟩ := ⟨es[k].memo, es[k].posts, rfl⟩
      rw [hxp] at hc0 hc1 hps o1 o2 o3 HS
      simp only at hc0 hc1 hps o1 o2 o3
      obtain ⟨np, hnp⟩ : ∃ np, ps.length = np := ⟨_, rfl⟩
      rw [hnp] at hc1 o2
      have hcall := fun W (hb : Below wz.heap.size wz W) => entryText_any x ps ao' np cap' W hnp o2 (hps.below hb) o1 o3
      generalize (es.take k).map Sg.entB = ts at *
      have i1 : (0 : Int) ≤ (k : Int) := by omega
      have i2 : (k : Int) < (n : Int) := by omega
      clear hps hxp hnp o3
      go_wp2_with fail
      refine (hcall _ ((Below.refl _ _).alloc (Nat.le_refl _) _)).mono ?_
      rintro e w2 ⟨tx, rfl, htx, hts, hb2⟩
      have hb2' : Below wz.heap.size wz w2 := ((Below.refl _ _).alloc (Nat.le_refl _) _).trans (hb2.mono (by simp))
      have hown2 := HO.out.below hb2'
      have hs2 := hb2'.size
      have hbe2 : Below (w.heap.size + 1) wz w2 := hb2'.mono hs1
      unfold OwnStrs at hown2
      clear hb2 hcall
      go_wp2_with (at_builtin; refine wpList_append_own _ rfl _ _ 71 rfl (w.heap.size + 1) 9 i0 (.string ByteArray.empty) 1 16 Tryz.underlying71 hi hz0 hz1 hz2 rfl (by decide) _ _ _ rfl (hown2.alloc _) ⟨w2.heap.size, 0, none⟩ 1 1 [.string tx] rfl rfl ?c1 ?c2 ?c3 ?c4 ?c5 ?_)
      case c1 =>
        intro j u hj
        match j, hj with
        | 0, hj => simp at hj; subst hj; simp [Addr.add]
      case c2 => intro u hu; simp at hu; subst hu; rfl
      case c3 => unfold maxLen; omega
      case c4 => omega
      case c5 => simp; omega
      intro v' w4 hown' hgrow _
      have hb' := below_push (by omega) hown2 hbe2 hgrow
      have HOn : Hid (OwnStrs w4 (w.heap.size + 1) v' ((es.take (k + 1)).map Sg.entB)) := by
        show OwnStrs _ _ _ _
        rw [HS.out, ← htx.out]
        exact OwnStrs.push (by rw [hlen]; exact hown')
      have hbe : Below w.heap.size w w4 := hbr.trans (hb'.mono (by omega))
      have hs4 := hb'.size
      clear hgrow hown2 hown' hb' HS HO
      go_wp2_with fail
      go_roundw
      case rel => exact ⟨k + 1, by omega, by go_num, _, rfl, HOn, hbe, by omega⟩
      case measure => simp [intOf]; omega
    · have HOn : Hid (OwnStrs wz (w.heap.size + 1) v (es.map Sg.entB)) := by
        have := HO.out
        rw [List.take_of_length_le (by rw [HN.out]; omega)] at this
        exact this
      go_wp2_with fail
      go_ret
      exact ⟨_, rfl, HOn, hbr⟩
end Go.Proofs.YtpkkhkkkgjhkeabGreat

/-
  THE WALKS of book.drillText, leafText, Period.drills.
-/
namespace Go.Proofs.YtpkkhkkkgjhkeabGreat
open Go.RowKit Go.Maps
set_option maxRecDepth 100000
attribute [local go_sem ↓] Go.wp_at_zero Go.wp_at_succ

theorem perBox_facts {w wr : World} {a e m c3 c4 c5 c6 c7 c8 c9 c10 : Value} (h : Below (w.heap.size + 1) (w.alloc (.cells #[a, e, m, c3, c4, c5, c6, c7, c8, c9, c10] 87)) wr) :
    wr.cell? ⟨w.heap.size, 0, none⟩ = some a ∧ wr.cell? ⟨w.heap.size, 1, none⟩ = some e ∧ Below w.heap.size w wr ∧ w.heap.size + 1 ≤ wr.heap.size :=
  ⟨(h.cell (p := ⟨w.heap.size, 0, none⟩) (by simp)).trans (by simp), (h.cell (p := ⟨w.heap.size, 1, none⟩) (by simp)).trans (by simp), ((Below.refl _ _).alloc (Nat.le_refl _) _).trans (h.mono (by omega)), by have := h.size; simpa using this⟩

set_option maxHeartbeats 6400000 in
/-- Period.drills. -/
theorem perDrills_any (ac : List Sg.Acc) (es : List Sg.Ent) (line : Int) (aoA aoE : Option Addr) (nA capA ne capE : Nat) (mV c3 c4 c5 c6 c7 c8 c9 c10 : Value) (w : World) (hA : AccsIn w aoA ac) (hnA : ac.length = nA) (hE : EntsIn w aoE es) (hne : es.length = ne)
    (_hsm : nA ≤ 8) (hes : ne ≤ 12) (hent : ∀ e ∈ es, e.posts.length ≤ 6 ∧ ∀ t ∈ e.posts, 0 ≤ t.acct ∧ t.acct < (nA : Int) ∧ Sg.fits t.amt = true) :
    Calls Tryz.prog 76 #[.agg #[.slice aoA nA capA, .slice aoE ne capE, mV, c3, c4, c5, c6, c7, c8, c9, c10], .int .i64 line] w fun e w' => ∃ v, e = .returned v ∧ OwnDrls w' (w.heap.size + 1) v (Sg.drillsOf ac es line) ∧ Below w.heap.size w w' := by
  obtain ⟨j0, ji, jz0, jz1, jz2⟩ := info_parts Tryz.infoDrl
  have HNA : Hid (ac.length = nA) := hnA
  have HD : Hid (Sg.drillsOf ac es line = Sg.drillsFrom ac line 0 es) := rfl
  have HNE : Hid (es.length = ne) := hne
  have HENT : Hid (∀ e ∈ es, e.posts.length ≤ 6 ∧ ∀ t ∈ e.posts, 0 ≤ t.acct ∧ t.acct < (nA : Int) ∧ Sg.fits t.amt = true) := hent
  clear hnA hne hent
  go_enter Tryz.func76, Tryz.ntmps76
  go_wp2_with fail
  go_loopw [5, 13] (fun o i wr => ∃ k : Nat, k ≤ ne ∧ i = .int .i64 (k : Int) ∧ OwnDrls wr (w.heap.size + 1) o (Sg.drillsFrom ac line 0 (es.take k)) ∧ Below (w.heap.size + 1) (w.alloc (.cells #[.slice aoA nA capA, .slice aoE ne capE, mV, c3, c4, c5, c6, c7, c8, c9, c10] 87)) wr) (fun _ i _ => ne - (intOf i).toNat)
  case atStart => exact ⟨0, by omega, rfl, World.ownsRow_nil _ _ _ _, Below.refl _ _⟩
  case round =>
    obtain ⟨k, hk, rfl, hown, hbel⟩ := hrel
    by_cases hlt : k < ne
    · have hka : k < es.length := by rw [HNE.out]; exact hlt
      obtain ⟨hp6, hpt⟩ := HENT.out es[k] (List.getElem_mem _)
      have HZ : Hid (Sg.drTo ac line es k 0 es[k].posts = Sg.drillsFrom ac line 0 (es.take k)) := Sg.drTo_zero ac line es k es[k].posts
      have HX : Hid (Sg.drTo ac line es k es[k].posts.length es[k].posts = Sg.drillsFrom ac line 0 (es.take (k + 1))) := Sg.drTo_next ac line es k hka
      obtain ⟨_, _, hbw1, hsz1⟩ := perBox_facts hbel
      obtain ⟨bE, offE, hao, hbE, hcM, aoQ, capQ, hcQ, hPs⟩ := hE.cell (k := k) hka
      subst hao
      have HLen : Hid ((Sg.drillsFrom ac line 0 (es.take k)).length ≤ 72) := by
        have := Sg.drillsFrom_len ac line (es.take k) 0 (fun e he => (HENT.out e (List.mem_of_mem_take he)).1)
        simp at this
        show _ ≤ _
        omega
      generalize es[k].posts = ps at *
      obtain ⟨np, hnp⟩ : ∃ np, ps.length = np := ⟨_, rfl⟩
      rw [hnp] at hcQ hp6 HX
      have HNP : Hid (ps.length = np) := hnp
      have HPT : Hid (∀ t ∈ ps, 0 ≤ t.acct ∧ t.acct < (nA : Int) ∧ Sg.fits t.amt = true) := hpt
      have hcQ1 := (hbw1.cell (p := ⟨bE, offE + k * 2 + 1, none⟩) hbE).trans hcQ
      have hcM1 := (hbw1.cell (p := ⟨bE, offE + k * 2, none⟩) hbE).trans hcM
      generalize es[k].memo = mm at *
      have HO1 : Hid (OwnDrls (wr.alloc (.cells #[.string mm, .slice aoQ np capQ] 45)) (w.heap.size + 1) u5 (Sg.drTo ac line es k 0 ps)) := by rw [HZ.out]; exact World.ownsRow.alloc hown _
      have hbel1 := hbel.alloc (by omega) (.cells #[.string mm, .slice aoQ np capQ] 45)
      have i1 : (0 : Int) ≤ (k : Int) := by omega
      have i2 : (k : Int) < (ne : Int) := by omega
      clear hnp hpt HZ
      go_wp2_with fail
      go_loopw [5, 21] (fun o j wr => ∃ r : Nat, r ≤ np ∧ j = .int .i64 (r : Int) ∧ OwnDrls wr (w.heap.size + 1) o (Sg.drTo ac line es k r ps) ∧ Below (w.heap.size + 1) (w.alloc (.cells #[.slice aoA nA capA, .slice (some ⟨bE, offE, none⟩) ne capE, mV, c3, c4, c5, c6, c7, c8, c9, c10] 87)) wr) (fun _ j _ => np - (intOf j).toNat)
      case atStart => exact ⟨0, by omega, rfl, HO1.out, hbel1⟩
      case round =>
        obtain ⟨r, hr, rfl, hown2, hbel2⟩ := hrel
        obtain ⟨hx0, _, hbw2, hsz2⟩ := perBox_facts hbel2
        have hltb : w.heap.size < wr.heap.size := by omega
        by_cases hlr : r < np
        · have hra : r < ps.length := by rw [HNP.out]; exact hlr
          obtain ⟨bP, offP, hao, hbP, hc0, hc1⟩ := (hPs.below hbw2).cell (k := r) hra
          subst hao
          obtain ⟨ha0, ha1, hfm⟩ := HPT.out ps[r] (List.getElem_mem _)
          have HS : Hid (Sg.drTo ac line es k (r + 1) ps = Sg.drTo ac line es k r ps ++ (if Sg.lineOf ac ps[r].acct = line then [⟨k, r, ps[r].acct, ps[r].amt⟩] else [])) := Sg.drTo_succ ac line es k r ps hra
          have hfm' : -9223372036854775808 ≤ ps[r].amt ∧ ps[r].amt ≤ 9223372036854775807 := of_decide_eq_true hfm
          have HLn : Hid ((Sg.drTo ac line es k r ps).length ≤ 100) := by
            show _ ≤ _
            unfold Sg.drTo
            rw [List.length_append]
            have h1 := HLen.out
            have h2 := Sg.drillsIn_len ac line k (ps.take r) 0
            simp at h2
            omega
          generalize ps[r].acct = a at *
          generalize ps[r].amt = m at *
          obtain ⟨ai, rfl⟩ := Int.eq_ofNat_of_zero_le ha0
          have haa : ai < ac.length := by rw [HNA.out]; omega
          obtain ⟨bA, offA, hao, hbA, _, hcl⟩ := (hA.below hbw2).cell (k := ai) haa
          subst hao
          rw [Sg.lineOf_get haa] at HS
          generalize ac[ai].line = lx at *
          generalize Sg.drTo ac line es k r ps = ds at *
          have i3 : (0 : Int) ≤ (r : Int) := by omega
          have i4 : (r : Int) < (np : Int) := by omega
          have i5 : (ai : Int) < (nA : Int) := by omega
          clear hfm hA
          by_cases hel : lx = line
          · have helb : (lx == line) = true := by simp [hel]
            have HS2 : Hid (Sg.drTo ac line es k (r + 1) ps = ds ++ [⟨k, r, (ai : Int), m⟩]) := by show _ = _; rw [HS.out, if_pos hel]
            have hownU := hown2
            unfold OwnDrls at hownU
            have hln := HLn.out
            clear hel HS
            go_wp2_with (at_builtin; refine wpList_append_own _ rfl _ _ 35 rfl (w.heap.size + 1) 51 j0 (.agg #[.int .i64 0, .int .i64 0, .int .i64 0, .int .i64 0]) 4 32 Tryz.underlying35 ji jz0 jz1 jz2 rfl (by decide) _ _ _ rfl ((hownU.alloc _).alloc _) ⟨wr.heap.size + 1, 0, none⟩ 1 1 [.int .i64 (k : Int), .int .i64 (r : Int), .int .i64 (ai : Int), .int .i64 m] rfl rfl ?c1 ?c2 ?c3 ?c4 ?c5 ?_)
            case c1 => exact four_new _ _ _ _ _ _ _
            case c2 => intro u hu; simp at hu; rcases hu with rfl | rfl | rfl | rfl <;> rfl
            case c3 => unfold maxLen; omega
            case c4 => omega
            case c5 => simp; omega
            intro v' w4 hown' hgrow _
            have hbP3 := hbel2.alloc (by omega) (.cells #[.int .i64 (ai : Int), .int .i64 m] 49)
            have hb4 := below_pushN (by simp; omega) (hownU.alloc (.cells #[.int .i64 (ai : Int), .int .i64 m] 49)) hbP3 hgrow
            have HO4 : Hid (OwnDrls w4 (w.heap.size + 1) v' (Sg.drTo ac line es k (r + 1) ps)) := by
              show OwnDrls _ _ _ _
              rw [HS2.out]
              unfold OwnDrls
              rw [drlCells_snoc, List.length_append]
              exact hown'
            clear hgrow hown' hown2 hownU hbP3 HS2
            go_wp2_with fail
            go_roundw
            case rel => exact ⟨r + 1, by omega, by go_num, HO4.out, hb4⟩
            case measure => simp [intOf]; omega
          · have helb : (lx == line) = false := by simp [hel]
            have HS2 : Hid (Sg.drTo ac line es k (r + 1) ps = ds) := by show _ = _; rw [HS.out, if_neg hel]; simp
            have hb3 := hbel2.alloc (by omega) (.cells #[.int .i64 (ai : Int), .int .i64 m] 49)
            have ho3 := World.ownsRow.alloc hown2 (.cells #[.int .i64 (ai : Int), .int .i64 m] 49)
            have HO3 : Hid (OwnDrls (wr.alloc (.cells #[.int .i64 (ai : Int), .int .i64 m] 49)) (w.heap.size + 1) u5 ds) := ho3
            clear hel HS ho3
            go_wp2_with fail
            go_roundw
            case rel => exact ⟨r + 1, by omega, by go_num, by rw [HS2.out]; exact HO3.out, hb3⟩
            case measure => simp [intOf]; omega
        · have hrn : r = np := by omega
          rw [hrn, HX.out] at hown2
          go_wp2_with fail
          go_roundw
          case rel => exact ⟨k + 1, by omega, by go_num, hown2, hbel2⟩
          case measure => simp [intOf]; omega
    · have hkn : k = es.length := by rw [HNE.out]; omega
      rw [hkn, List.take_length] at hown
      go_wp2_with fail
      go_ret
      obtain ⟨_, _, hbw1, hsz1⟩ := perBox_facts hbel
      exact ⟨_, rfl, by rw [HD.out]; exact hown, hbw1⟩
end Go.Proofs.YtpkkhkkkgjhkeabGreat
