/-
  THE WALK of signetref.enters.
-/
import Derived.Test.YtoadiibfmcjgaaaEnters
namespace Go.Proofs.Ytoadiibfmcjgaaa
open Go.RowKit
set_option maxRecDepth 100000
attribute [local go_sem ↓] Go.wp_at_zero Go.wp_at_succ

/-- The sum's two cells. -/
def SumAt (w : World) (s : Nat) (v : Int) : Prop := w.heap[s]? = some (.cells #[.int .i64 (wHi v), .int .i64 (wLo v)] 130 (0, 0))
theorem SumAt.cells {w : World} {s : Nat} {v : Int} (h : SumAt w s v) : w.cell? ⟨s, 0, none⟩ = some (.int .i64 (wHi v)) ∧ w.cell? ⟨s, 1, none⟩ = some (.int .i64 (wLo v)) ∧ w.frozen? ⟨s, 0, none⟩ = false ∧ w.frozen? ⟨s, 1, none⟩ = false := by
  unfold SumAt at h; simp [World.cell?, World.frozen?, h]
theorem SumAt.set {w : World} {s : Nat} {u : Int} (h : SumAt w s u) (v : Int) : SumAt ((w.setCell ⟨s, 0, none⟩ (.int .i64 (wHi v))).setCell ⟨s, 1, none⟩ (.int .i64 (wLo v))) s v := by
  have h1 := heap_setCell_same w s 0 _ _ (.int .i64 (wHi v)) h
  have h2 := heap_setCell_same _ s 1 _ _ (.int .i64 (wLo v)) h1
  unfold SumAt
  rw [h2]
  simp
theorem SumAt.block {w w' : World} {s : Nat} {v : Int} (h : SumAt w s v) (hb : w'.heap[s]? = w.heap[s]?) : SumAt w' s v := hb.trans h

theorem past_alloc_cell {w : World} {ob : Obj} {b o : Nat} {v : Value} (h : w.cell? ⟨b, o, none⟩ = some v) : (w.alloc ob).cell? ⟨b, o, none⟩ = some v := (World.cell?_alloc_past _ _ _ (World.block_lt_of_cell? w _ h)).trans h
theorem grown_chain {w w1 w2 : World} {g : Nat} (h : w.grownBy w1 (some g)) (k : w1.grownBy w2 (some g)) : w.grownBy w2 (some g) :=
  ⟨k.os.trans h.os, k.tape.trans h.tape, k.output.trans h.output, Nat.le_trans h.size k.size, fun i hi hne => (k.block i (Nat.lt_of_lt_of_le hi h.size) hne).trans (h.block i hi hne)⟩
theorem below_grown {w w' : World} {g : Nat} (h : Below w.heap.size w w') : w.grownBy w' (some g) := ⟨h.os, h.tape, h.output, h.size, fun k hk _ => h.block k hk⟩
/-- One posting comes to the balances. -/
theorem wides_step {wz wr w1 : World} {g ai : Nat} {l : List Int} {v m : Int} {o : Obj} (hw : Wides wr g l) (hai : ai < l.length) (hgr : wz.grownBy wr (some g)) (hb1d : Below (wr.alloc o).drew.heap.size (wr.alloc o).drew w1) (h : l.set ai (l.getD ai 0 + m) = l.set ai (v + m)) :
    Wides ((w1.setCell ⟨g, ai * 2, none⟩ (.int .i64 (wHi (v + m)))).setCell ⟨g, ai * 2 + 1, none⟩ (.int .i64 (wLo (v + m)))) g (Sg.comes l ai m) ∧
      wz.grownBy ((w1.setCell ⟨g, ai * 2, none⟩ (.int .i64 (wHi (v + m)))).setCell ⟨g, ai * 2 + 1, none⟩ (.int .i64 (wLo (v + m)))) (some g) := by
  have hgx := hw.lt
  have hb1 : Below (wr.alloc o).heap.size (wr.alloc o) w1 := ((Below.refl _ _).drew).trans hb1d
  have h1 : Wides w1 g l := (hw.block (Below.heap_alloc wr o _ hgx)).block (hb1.block g (by simp; omega))
  refine ⟨?_, ?_⟩
  · unfold Sg.comes; rw [h]; exact h1.set hai (v + m)
  · exact grown_chain (grown_chain (grown_chain (grown_chain hgr (World.grownBy_alloc wr o _)) (below_grown hb1)) (setCell_grown _ _ _ _)) (setCell_grown _ _ _ _)
/-- The two boxes that enters makes first. -/
def boxes2 (w : World) (a b c d : Value) : World := (w.alloc (.cells #[a, b] 41)).alloc (.cells #[c, d] 55)
theorem boxes2_size (w : World) (a b c d : Value) : (boxes2 w a b c d).heap.size = w.heap.size + 2 := by unfold boxes2; simp
theorem boxes2_below (w : World) (a b c d : Value) : Below w.heap.size w (boxes2 w a b c d) := ((Below.refl _ _).alloc (Nat.le_refl _) _).alloc (by simp) _
theorem boxes2_cells (w : World) (a b c d : Value) : (boxes2 w a b c d).cell? ⟨w.heap.size, 0, none⟩ = some a ∧ (boxes2 w a b c d).cell? ⟨w.heap.size + 1, 1, none⟩ = some d := by
  unfold boxes2
  constructor
  · rw [World.cell?_alloc_past _ _ _ (by simp)]; simp
  · simp
/-- What a world that came behind them still has. -/
theorem boxes2_facts {w wr : World} {a b c d : Value} (h : Below (w.heap.size + 2) (boxes2 w a b c d) wr) :
    wr.cell? ⟨w.heap.size, 0, none⟩ = some a ∧ wr.cell? ⟨w.heap.size + 1, 1, none⟩ = some d ∧ Below w.heap.size w wr :=
  ⟨(h.cell (p := ⟨w.heap.size, 0, none⟩) (by simp)).trans (boxes2_cells w a b c d).1, (h.cell (p := ⟨w.heap.size + 1, 1, none⟩) (by simp)).trans (boxes2_cells w a b c d).2, (boxes2_below w a b c d).trans (h.mono (by omega))⟩


set_option maxHeartbeats 6400000 in
/-- signetref.enters. -/
theorem enters_any (x : ByteArray) (ps : List Sg.Pst) (now : List Int) (aoA aoP ao : Option Addr) (nA capA nP capP np cap g : Nat) (w0 w : World) (hb0 : Below w0.heap.size w0 w) (hg0 : w0.heap.size ≤ g)
    (hnp : ps.length = np) (hmax : np ≤ 6) (hnA : now.length = nA) (hn8 : nA ≤ 8) (hl : PstsIn w0 ao ps) (hok : ∀ p ∈ ps, Sg.fits p.acct = true ∧ Sg.fits p.amt = true) (hnow : ∀ v ∈ now, Sg.fits v = true) (hw : Wides w g now) :
    Calls Try.prog 75 #[.agg #[.slice aoA nA capA, .slice aoP nP capP], .agg #[.string x, .slice ao np cap], .slice (some ⟨g, 0, none⟩) nA nA] w fun e w' =>
      e = .returned (.int .i64 (Sg.entErr nA ⟨x, ps⟩ now)) ∧ w.grownBy w' (some g) ∧ (Sg.entErr nA ⟨x, ps⟩ now = 0 → Wides w' g (Sg.comesAll ps now)) := by
  have HNP : Hid (ps.length = np) := hnp
  have HNA : Hid (now.length = nA) := hnA
  have HOK : Hid (∀ p ∈ ps, Sg.fits p.acct = true ∧ Sg.fits p.amt = true) := hok
  have HNOW : Hid (∀ v ∈ now, Sg.fits v = true) := hnow
  clear hnp hnA hok hnow
  have hgw := hw.lt
  go_enter Try.func75, Try.ntmps75
  go_wp2_with fail
  go_loopw [8] (fun i wr => ∃ k : Nat, k ≤ np ∧ i = .int .i64 (k : Int) ∧ Hid (∀ j (hj : j < ps.length), j < k → 0 ≤ ps[j].acct ∧ ps[j].acct < (nA : Int)) ∧ SumAt wr (w.heap.size + 2) (Sg.amtSum (ps.take k)) ∧ w.heap.size + 2 < wr.heap.size ∧
      Below (w.heap.size + 2) (boxes2 w (.slice aoA nA capA) (.slice aoP nP capP) (.string x) (.slice ao np cap)) wr) (fun i _ => np - (intOf i).toNat)
  case atStart =>
    refine ⟨0, by omega, rfl, fun j _ hj => by omega, ?_, by simp, ?_⟩
    · show ((boxes2 w (.slice aoA nA capA) (.slice aoP nP capP) (.string x) (.slice ao np cap)).alloc _).heap[w.heap.size + 2]? = _
      rw [← boxes2_size w (.slice aoA nA capA) (.slice aoP nP capP) (.string x) (.slice ao np cap), heap_alloc_new]
      rfl
    · show Below (w.heap.size + 2) _ ((boxes2 w (.slice aoA nA capA) (.slice aoP nP capP) (.string x) (.slice ao np cap)).alloc _)
      exact (Below.refl _ _).alloc (by rw [boxes2_size]; exact Nat.le_refl _) _
  case round =>
    obtain ⟨k, hk, rfl, HA, hsum, hsz, hbel⟩ := hrel
    obtain ⟨hx0, hx1, hbw⟩ := boxes2_facts hbel
    have hb0r := hb0.trans (hbw.mono hb0.size)
    obtain ⟨s0, s1, f0, f1⟩ := hsum.cells
    have hN0 : w.heap.size < wr.heap.size := by omega
    have hN1 : w.heap.size + 1 < wr.heap.size := by omega
    by_cases hlt : k < np
    · have hka : k < ps.length := by rw [HNP.out]; exact hlt
      obtain ⟨b, off, hao, hbb, hc0, hc1⟩ := (hl.below hb0r).cell (k := k) hka
      subst hao
      obtain ⟨hfa, hfm⟩ := HOK.out ps[k] (List.getElem_mem _)
      have hT : Tame (Sg.amtSum (ps.take k)) := by
        have := (Sg.sum_near ps (fun p hp => (HOK.out p hp).2) k (by omega)).mono (d := 6) (by omega)
        unfold Sg.Near at this; unfold Tame; omega
      have HS : Hid (Sg.amtSum (ps.take (k + 1)) = Sg.amtSum (ps.take k) + ps[k].amt) := Sg.sum_take_succ ps k hka
      have HBad : Hid ((ps[k].acct < 0 ∨ (nA : Int) ≤ ps[k].acct) → Sg.entErr nA ⟨x, ps⟩ now = 2) := fun e => by
        unfold Sg.entErr
        rw [if_pos]
        rw [List.any_eq_true]
        exact ⟨ps[k], List.getElem_mem _, decide_eq_true e⟩
      have HGo : Hid (0 ≤ ps[k].acct ∧ ps[k].acct < (nA : Int) → ∀ j (hj : j < ps.length), j < k + 1 → 0 ≤ ps[j].acct ∧ ps[j].acct < (nA : Int)) := fun e j hj hjk => by
        by_cases e' : j = k
        · subst e'; exact e
        · exact HA.out j hj (by omega)
      have hfa' : -9223372036854775808 ≤ ps[k].acct ∧ ps[k].acct ≤ 9223372036854775807 := of_decide_eq_true hfa
      have hfm' : -9223372036854775808 ≤ ps[k].amt ∧ ps[k].amt ≤ 9223372036854775807 := of_decide_eq_true hfm
      generalize ps[k].acct = a at *
      generalize ps[k].amt = m at *
      generalize hSk : Sg.amtSum (ps.take k) = sv at *
      clear hSk hfa hfm
      by_cases oka : 0 ≤ a ∧ a < (nA : Int)
      · obtain ⟨oa1, oa2⟩ := oka
        have o1 : ¬ a < 0 := by omega
        have o2 : ¬ (nA : Int) ≤ a := by omega
        have HG := HGo.out ⟨oa1, oa2⟩
        have HG' : Hid (∀ j (hj : j < ps.length), j < k + 1 → 0 ≤ ps[j].acct ∧ ps[j].acct < (nA : Int)) := HG
        clear HG HBad HGo
        go_wp2_with fail
        refine (wideAdd_any sv m _ hT hfm').mono ?_
        rintro e w1 ⟨rfl, hb1⟩
        have hsum1 : SumAt w1 (w.heap.size + 2) sv := (hsum.block (Below.heap_alloc wr _ _ hsz)).block (hb1.block _ (by simp; omega))
        have hbel1 := (hbel.alloc (by omega) _).trans (hb1.mono (by simp; omega))
        have hz1 := hb1.size
        obtain ⟨t0, t1, e0, e1⟩ := hsum1.cells
        have hsum2 := hsum1.set (sv + m)
        have hbel2 := (hbel1.setCell (p := ⟨w.heap.size + 2, 0, none⟩) (by simp) (.int .i64 (wHi (sv + m)))).setCell (p := ⟨w.heap.size + 2, 1, none⟩) (by simp) (.int .i64 (wLo (sv + m)))
        have HS2 : Hid (SumAt ((w1.setCell ⟨w.heap.size + 2, 0, none⟩ (.int .i64 (wHi (sv + m)))).setCell ⟨w.heap.size + 2, 1, none⟩ (.int .i64 (wLo (sv + m)))) (w.heap.size + 2) (sv + m)) := hsum2
        have HZ : Hid (w.heap.size + 2 < w1.heap.size) := by simp at hz1; show _ < _; omega
        clear hsum hsum1 hsum2 hbel hbel1 hb1 s0 s1 f0 f1
        go_wp2_with fail
        go_roundw
        case rel => exact ⟨k + 1, by omega, by go_num, HG', by rw [HS.out]; exact HS2.out, by simpa [World.setCell] using HZ.out, hbel2⟩
        case measure => simp [intOf]; omega
      · have HE : Hid (Sg.entErr nA ⟨x, ps⟩ now = 2) := HBad.out (by omega)
        by_cases p1 : a < 0
        · clear oka
          go_wp2_with fail
          go_ret
          exact ⟨ret_num (by rw [HE.out]), below_grown (hbw.alloc hbw.size _), fun e => by rw [HE.out] at e; omega⟩
        · have p2 : (nA : Int) ≤ a := by omega
          clear oka
          go_wp2_with fail
          go_ret
          exact ⟨ret_num (by rw [HE.out]), below_grown (hbw.alloc hbw.size _), fun e => by rw [HE.out] at e; omega⟩
    · have hkn : k = ps.length := by rw [HNP.out]; omega
      rw [hkn, List.take_length] at hsum s0 s1
      have HAll : Hid (∀ p ∈ ps, 0 ≤ p.acct ∧ p.acct < (nA : Int)) := fun p hp => by
        obtain ⟨j, hj, rfl⟩ := List.getElem_of_mem hp
        exact HA.out j hj (by omega)
      have HNo2 : Hid (ps.any (fun p => decide (p.acct < 0 ∨ (nA : Int) ≤ p.acct)) = false) := by
        show _ = _
        rw [List.any_eq_false]
        intro p hp
        have := HAll.out p hp
        simp; omega
      clear HA hkn
      by_cases hz : Sg.amtSum ps = 0
      · rw [hz] at s0 s1
        have z0 : wr.cell? ⟨w.heap.size + 2, 0, none⟩ = some (.int .i64 0) := s0
        have z1 : wr.cell? ⟨w.heap.size + 2, 1, none⟩ = some (.int .i64 0) := s1
        obtain ⟨wz, ewz⟩ : ∃ z : World, z = wr := ⟨_, rfl⟩
        subst ewz
        have HEq : Hid (Sg.entErr nA ⟨x, ps⟩ now = if (Sg.comesAll ps now).any (fun v => !Sg.fits v) then 4 else 0) := by
          show _ = _
          unfold Sg.entErr
          rw [if_neg (by rw [HNo2.out]; simp), if_neg (by rw [hz]; simp)]
        have hWr : Wides wz g now := hw.block (hbw.block g hgw)
        have hgr0 : wz.grownBy wz (some g) := World.grownBy.refl _ _
        clear s0 s1 f0 f1 hsum hz HNo2 hbel hw
        go_wp2_with fail
        go_loopw [10] (fun i wr => ∃ k : Nat, k ≤ np ∧ i = .int .i64 (k : Int) ∧ Hid (Wides wr g (Sg.comesTo ps now k)) ∧ Hid (wz.grownBy wr (some g))) (fun i _ => np - (intOf i).toNat)
        case atStart => exact ⟨0, by omega, rfl, hWr, hgr0⟩
        case round =>
          obtain ⟨q, hq, rfl, HW, HGR⟩ := hrel
          have hqx1 : wr.cell? ⟨w.heap.size + 1, 1, none⟩ = some (.slice ao np cap) := HGR.out.cell hx1 (by simp; omega)
          have hb0x : Below w0.heap.size w0 wr := hb0r.grown HGR.out hb0r.size (fun k hk => by simp at hk; omega)
          have hzx := HGR.out.size
          have hN0x : w.heap.size < wr.heap.size := by omega
          have hN1x : w.heap.size + 1 < wr.heap.size := by omega
          by_cases hlq : q < np
          · have hqa : q < ps.length := by rw [HNP.out]; exact hlq
            obtain ⟨b, off, hao, hbb, hc0, hc1⟩ := (hl.below hb0x).cell (k := q) hqa
            subst hao
            obtain ⟨hfa, hfm⟩ := HOK.out ps[q] (List.getElem_mem _)
            obtain ⟨ha0, ha1⟩ := HAll.out ps[q] (List.getElem_mem _)
            have hlen : (Sg.comesTo ps now q).length = nA := by rw [Sg.comesTo_length ps now q (by omega)]; exact HNA.out
            have HSu : Hid (Sg.comesTo ps now (q + 1) = Sg.comes (Sg.comesTo ps now q) ps[q].acct.toNat ps[q].amt) := Sg.comesTo_succ ps now q hqa
            have hnear : ∀ v ∈ Sg.comesTo ps now q, Tame v := fun v hv => by
              have := (Sg.comesTo_near ps now 1 (fun v hv => Sg.near_fits (HNOW.out v hv)) (fun p hp => (HOK.out p hp).2) (by rw [HNA.out]; exact HAll.out) q (by omega) v hv).mono (d := 7) (by omega)
              unfold Sg.Near at this; unfold Tame; omega
            have hfm' : -9223372036854775808 ≤ ps[q].amt ∧ ps[q].amt ≤ 9223372036854775807 := of_decide_eq_true hfm
            generalize ps[q].acct = a at *
            generalize ps[q].amt = m at *
            obtain ⟨ai, rfl⟩ := Int.eq_ofNat_of_zero_le ha0
            rw [Int.toNat_natCast] at HSu
            generalize Sg.comesTo ps now q = l at *
            have hai : ai < l.length := by omega
            have hT : Tame (l.getD ai 0) := hnear _ (by rw [List.getD_eq_getElem?_getD, List.getElem?_eq_getElem hai]; simp)
            have HWl : Hid (Wides wr g l) := HW
            have d0 := HWl.out.hi hai
            have d1 := HWl.out.lo hai
            have d2 := HWl.out.free (ai * 2)
            have d3 := HWl.out.free (ai * 2 + 1)
            have hgx := HWl.out.lt
            have HSet : Hid (Sg.comes l ai m = l.set ai (l.getD ai 0 + m)) := rfl
            obtain ⟨v, hv⟩ : ∃ v, v = l.getD ai 0 := ⟨_, rfl⟩
            rw [← hv] at hT d0 d1
            have HV : Hid (v = l.getD ai 0) := hv
            clear hv hnear hfa HW HSet
            have i1 : (0 : Int) ≤ (ai : Int) := by omega
            have i2 : (ai : Int) < (nA : Int) := by omega
            go_wp2_with fail
            go_region_with (first | (go_at_call 76; refine (wideAdd_any v m _ hT hfm').mono ?_; rintro e w1 ⟨rfl, hb1⟩; have c0 : w1.cell? ⟨g, ai * 2, none⟩ = some (.int .i64 (wHi v)) := (hb1.cell (p := ⟨g, ai * 2, none⟩) (by simp; omega)).trans (past_alloc_cell d0); have c1 : w1.cell? ⟨g, ai * 2 + 1, none⟩ = some (.int .i64 (wLo v)) := (hb1.cell (p := ⟨g, ai * 2 + 1, none⟩) (by simp; omega)).trans (past_alloc_cell d1); have c2 : w1.frozen? ⟨g, ai * 2, none⟩ = false := (hb1.frozen (p := ⟨g, ai * 2, none⟩) (by simp; omega)).trans ((World.frozen?_alloc_past _ _ _ hgx).trans d2); have c3 : w1.frozen? ⟨g, ai * 2 + 1, none⟩ = false := (hb1.frozen (p := ⟨g, ai * 2 + 1, none⟩) (by simp; omega)).trans ((World.frozen?_alloc_past _ _ _ hgx).trans d3); have c4 : w1.cell? ⟨wr.heap.size, 0, none⟩ = some (.int .i64 (ai : Int)) := (hb1.cell (p := ⟨wr.heap.size, 0, none⟩) (by simp)).trans (by simp)))
            all_goals
              have hst := wides_step (v := v) (m := m) HWl.out hai HGR.out hb1 (by rw [← HV.out])
              have HST : Hid (Wides ((w1.setCell ⟨g, ai * 2, none⟩ (.int .i64 (wHi (v + m)))).setCell ⟨g, ai * 2 + 1, none⟩ (.int .i64 (wLo (v + m)))) g (Sg.comes l ai m) ∧ wz.grownBy ((w1.setCell ⟨g, ai * 2, none⟩ (.int .i64 (wHi (v + m)))).setCell ⟨g, ai * 2 + 1, none⟩ (.int .i64 (wLo (v + m)))) (some g)) := hst
              clear hst hb1 c0 c1 c2 c3 c4 HWl HGR
              go_wp2_with fail
              go_roundw
              case rel => exact ⟨q + 1, by omega, by go_num, by show Wides _ _ _; rw [HSu.out]; exact HST.out.1, HST.out.2⟩
              case measure => simp [intOf]; omega
          · have hqn : q = ps.length := by rw [HNP.out]; omega
            have HWn : Hid (Wides wr g (Sg.comesAll ps now)) := by
              show Wides _ _ _
              have := HW.out
              rw [hqn, Sg.comesTo_all] at this
              exact this
            have HGw : Hid (w.grownBy wr (some g)) := grown_chain (below_grown hbw) HGR.out
            have HLen : Hid ((Sg.comesAll ps now).length = nA) := by
              show _ = _
              rw [← Sg.comesTo_all, Sg.comesTo_length ps now _ (Nat.le_refl _)]; exact HNA.out
            generalize hlq : Sg.comesAll ps now = l at *
            have HLQ : Hid (Sg.comesAll ps now = l) := hlq
            clear hlq
            obtain ⟨wy, ewy⟩ : ∃ z : World, z = wr := ⟨_, rfl⟩
            subst ewy
            have hwy0 : Below wy.heap.size wy wy := Below.refl _ _
            clear hqn HW HGR hl hWr hx0 hx1 z0 z1 hb0x hb0r hgr0
            go_wp2_with fail
            go_loopw [12] (fun i w3 => ∃ k : Nat, k ≤ nA ∧ i = .int .i64 (k : Int) ∧ Hid (∀ j (hj : j < l.length), j < k → Sg.fits l[j] = true) ∧ Below wy.heap.size wy w3) (fun i _ => nA - (intOf i).toNat)
            case atStart => exact ⟨0, by omega, rfl, fun j _ hj => by omega, hwy0⟩
            case round =>
              obtain ⟨r, hr, rfl, HR, hby⟩ := hrel
              by_cases hlr : r < nA
              · have hra : r < l.length := by rw [HLen.out]; exact hlr
                have hWr := HWn.out.block (hby.block g HWn.out.lt)
                have d0 := hWr.hi hra
                have d1 := hWr.lo hra
                have eg : l.getD r 0 = l[r] := by simp [List.getD, hra]
                rw [eg] at d0 d1
                have HGo : Hid (Sg.fits l[r] = true → ∀ j (hj : j < l.length), j < r + 1 → Sg.fits l[j] = true) := fun e j hj hjr => by
                  by_cases e' : j = r
                  · subst e'; exact e
                  · exact HR.out j hj (by omega)
                have HBad : Hid (Sg.fits l[r] = false → Sg.entErr nA ⟨x, ps⟩ now = 4) := fun e => by
                  rw [HEq.out, if_pos]
                  rw [List.any_eq_true]
                  exact ⟨l[r], List.getElem_mem _, by rw [e]; rfl⟩
                generalize l[r] = v at *
                have i1 : (0 : Int) ≤ (r : Int) := by omega
                have i2 : (r : Int) < (nA : Int) := by omega
                clear eg hWr
                cases hfv : Sg.fits v with
                | true =>
                  have HG := HGo.out hfv
                  have HG' : Hid (∀ j (hj : j < l.length), j < r + 1 → Sg.fits l[j] = true) := HG
                  have HFv : Hid (Sg.fits v = true) := hfv
                  clear HG HGo HBad hfv
                  go_wp2_with fail
                  refine (wideFits_any v _).mono ?_
                  rintro e w4 ⟨rfl, hb4⟩
                  rw [HFv.out]
                  have hby4 := hby.trans (hb4.mono hby.size)
                  clear hb4
                  go_wp2_with fail
                  go_roundw
                  case rel => exact ⟨r + 1, by omega, by go_num, HG', hby4⟩
                  case measure => simp [intOf]; omega
                | false =>
                  have HE : Hid (Sg.entErr nA ⟨x, ps⟩ now = 4) := HBad.out hfv
                  have HFv : Hid (Sg.fits v = false) := hfv
                  clear HGo HBad hfv
                  go_wp2_with fail
                  refine (wideFits_any v _).mono ?_
                  rintro e w4 ⟨rfl, hb4⟩
                  rw [HFv.out]
                  have hby4 := hby.trans (hb4.mono hby.size)
                  clear hb4
                  go_wp2_with fail
                  go_ret
                  exact ⟨ret_num (by rw [HE.out]), grown_chain HGw.out (below_grown hby4), fun e => by rw [HE.out] at e; omega⟩
              · have HE : Hid (Sg.entErr nA ⟨x, ps⟩ now = 0) := by
                  show _ = _
                  rw [HEq.out, if_neg]
                  rw [List.any_eq_true]
                  rintro ⟨v, hv, e⟩
                  obtain ⟨j, hj, rfl⟩ := List.getElem_of_mem hv
                  rw [HR.out j hj (by have := HLen.out; omega)] at e
                  simp at e
                go_wp2_with fail
                go_ret
                exact ⟨ret_num (by rw [HE.out]), grown_chain HGw.out (below_grown hby), fun _ => by rw [HLQ.out]; exact HWn.out.block (hby.block g HWn.out.lt)⟩
      · have HE : Hid (Sg.entErr nA ⟨x, ps⟩ now = 3) := by
          show _ = _
          unfold Sg.entErr
          rw [if_neg (by rw [HNo2.out]; simp), if_pos hz]
        by_cases q0 : wHi (Sg.amtSum ps) = 0
        · have q1 : (wLo (Sg.amtSum ps) != 0) = true := by
            rw [bne_iff_ne]; intro e; apply hz; unfold wHi wLo at *; omega
          have q0' : (wHi (Sg.amtSum ps) != 0) = false := by rw [q0]; rfl
          generalize wHi (Sg.amtSum ps) = hi at *
          generalize wLo (Sg.amtSum ps) = lo at *
          clear hz q0 hsum
          go_wp2_with fail
          go_ret
          exact ⟨ret_num (by rw [HE.out]), below_grown hbw, fun e => by rw [HE.out] at e; omega⟩
        · have q0' : (wHi (Sg.amtSum ps) != 0) = true := by rw [bne_iff_ne]; exact q0
          generalize wHi (Sg.amtSum ps) = hi at *
          generalize wLo (Sg.amtSum ps) = lo at *
          clear hz q0 hsum
          go_wp2_with fail
          go_ret
          exact ⟨ret_num (by rw [HE.out]), below_grown hbw, fun e => by rw [HE.out] at e; omega⟩
end Go.Proofs.Ytoadiibfmcjgaaa
