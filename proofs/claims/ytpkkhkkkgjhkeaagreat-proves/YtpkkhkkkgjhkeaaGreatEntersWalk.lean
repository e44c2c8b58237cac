import Derived.Test.YtpkkhkkkgjhkeaaGreatSpec
import Derived.Test.YtpkkhkkkgjhkeaaGreatDrills
/-
  THE WALK of signetref.enters.
-/
namespace Go.Proofs.YtpkkhkkkgjhkeaaGreat
open Go.RowKit
set_option maxRecDepth 100000
attribute [local go_sem ↓] Go.wp_at_zero Go.wp_at_succ

/-- The sum's two cells. -/
def SumAt (w : World) (s : Nat) (v : Int) : Prop := w.heap[s]? = some (.cells #[.int .i64 (wHi v), .int .i64 (wLo v)] 98 (0, 0))
theorem SumAt.cells {w : World} {s : Nat} {v : Int} (h : SumAt w s v) : w.cell? ⟨s, 0, none⟩ = some (.int .i64 (wHi v)) ∧ w.cell? ⟨s, 1, none⟩ = some (.int .i64 (wLo v)) ∧ w.frozen? ⟨s, 0, none⟩ = false ∧ w.frozen? ⟨s, 1, none⟩ = false := by
  unfold SumAt at h; simp [World.cell?, World.frozen?, h]
theorem SumAt.set {w : World} {s : Nat} {u : Int} (h : SumAt w s u) (v : Int) : SumAt ((w.setCell ⟨s, 0, none⟩ (.int .i64 (wHi v))).setCell ⟨s, 1, none⟩ (.int .i64 (wLo v))) s v := by
  have h1 := heap_setCell_same w s 0 _ _ (.int .i64 (wHi v)) h
  have h2 := heap_setCell_same _ s 1 _ _ (.int .i64 (wLo v)) h1
  unfold SumAt
  rw [h2]
  simp
theorem SumAt.block {w w' : World} {s : Nat} {v : Int} (h : SumAt w s v) (hb : w'.heap[s]? = w.heap[s]?) : SumAt w' s v := hb.trans h

theorem past_alloc_cell {w : World} {ob : Obj} {b o : Nat} {v : Value} (h : w.cell? ⟨b, o, none⟩ = some v) : (w.alloc ob).cell? ⟨b, o, none⟩ = some v := (World.cell?_alloc_past _ _ _ (World.block_lt_of_cell? w _ h)).trans h
theorem grown_chain {w w1 w2 : World} {g : Nat} (h : w.grownBy w1 (some g)) (k : w1.grownBy w2 (some g)) : w.grownBy w2 (some g) :=
  ⟨k.os.trans h.os, k.tape.trans h.tape, k.output.trans h.output, Nat.le_trans h.size k.size, fun i hi hne => (k.block i (Nat.lt_of_lt_of_le hi h.size) hne).trans (h.block i hi hne)⟩
theorem below_grown {w w' : World} {g : Nat} (h : Below w.heap.size w w') : w.grownBy w' (some g) := ⟨h.os, h.tape, h.output, h.size, fun k hk _ => h.block k hk⟩
/-- One posting comes to the balances. -/
theorem wides_step {wz wr w1 : World} {g ai : Nat} {l : List Int} {v m : Int} {o : Obj} (hw : Wides wr g l) (hai : ai < l.length) (hgr : wz.grownBy wr (some g)) (hb1d : Below (wr.alloc o).drew.heap.size (wr.alloc o).drew w1) (h : l.set ai (l.getD ai 0 + m) = l.set ai (v + m)) :
    Wides ((w1.setCell ⟨g, ai * 2, none⟩ (.int .i64 (wHi (v + m)))).setCell ⟨g, ai * 2 + 1, none⟩ (.int .i64 (wLo (v + m)))) g (Sg.comes l ai m) ∧
      wz.grownBy ((w1.setCell ⟨g, ai * 2, none⟩ (.int .i64 (wHi (v + m)))).setCell ⟨g, ai * 2 + 1, none⟩ (.int .i64 (wLo (v + m)))) (some g) := by
  have hgx := hw.lt
  have hb1 : Below (wr.alloc o).heap.size (wr.alloc o) w1 := ((Below.refl _ _).drew).trans hb1d
  have h1 : Wides w1 g l := (hw.block (Below.heap_alloc wr o _ hgx)).block (hb1.block g (by simp; omega))
  refine ⟨?_, ?_⟩
  · unfold Sg.comes; rw [h]; exact h1.set hai (v + m)
  · exact grown_chain (grown_chain (grown_chain (grown_chain hgr (World.grownBy_alloc wr o _)) (below_grown hb1)) (setCell_grown _ _ _ _)) (setCell_grown _ _ _ _)
/-- The two boxes that enters makes first. -/
def boxes2 (w : World) (a b c d : Value) : World := (w.alloc (.cells #[a, b] 36)).alloc (.cells #[c, d] 55)
theorem boxes2_size (w : World) (a b c d : Value) : (boxes2 w a b c d).heap.size = w.heap.size + 2 := by unfold boxes2; simp
theorem boxes2_below (w : World) (a b c d : Value) : Below w.heap.size w (boxes2 w a b c d) := ((Below.refl _ _).alloc (Nat.le_refl _) _).alloc (by simp) _
theorem boxes2_cells (w : World) (a b c d : Value) : (boxes2 w a b c d).cell? ⟨w.heap.size, 0, none⟩ = some a ∧ (boxes2 w a b c d).cell? ⟨w.heap.size + 1, 1, none⟩ = some d := by
  unfold boxes2
  constructor
  · rw [World.cell?_alloc_past _ _ _ (by simp)]; simp
  · simp
/-- What a world that came behind them still has. -/
theorem boxes2_facts {w wr : World} {a b c d : Value} (h : Below (w.heap.size + 2) (boxes2 w a b c d) wr) :
    wr.cell? ⟨w.heap.size, 0, none⟩ = some a ∧ wr.cell? ⟨w.heap.size + 1, 1, none⟩ = some d ∧ Below w.heap.size w wr :=
  ⟨(h.cell (p := ⟨w.heap.size, 0, none⟩) (by simp)).trans (boxes2_cells w a b c d).1, (h.cell (p := ⟨w.heap.size + 1, 1, none⟩) (by simp)).trans (boxes2_cells w a b c d).2, (boxes2_below w a b c d).trans (h.mono (by omega))⟩


set_option maxHeartbeats 6400000 in
/-- signetref.enters. -/
theorem enters_any (x : ByteArray) (ps : List Sg.Pst) (now : List Int) (aoA aoP ao : Option Addr) (nA capA nP capP np cap g : Nat) (w0 w : World) (hb0 : Below w0.heap.size w0 w) (hg0 : w0.heap.size ≤ g)
    (hnp : ps.length = np) (hmax : np ≤ 6) (hnA : now.length = nA) (hn8 : nA ≤ 8) (hl : PstsIn w0 ao ps) (hok : ∀ p ∈ ps, Sg.fits p.acct = true ∧ Sg.fits p.amt = true) (hnow : ∀ v ∈ now, Sg.fits v = true) (hw : Wides w g now) :
    Calls Tryz.prog 41 #[.agg #[.slice aoA nA capA, .slice aoP nP capP], .agg #[.string x, .slice ao np cap], .slice (some ⟨g, 0, none⟩) nA nA] w fun e w' =>
      e = .returned (.int .i64 (Sg.entErr nA ⟨x, ps⟩ now)) ∧ w.grownBy w' (some g) ∧ (Sg.entErr nA ⟨x, ps⟩ now = 0 → Wides w' g (Sg.comesAll ps now)) := by
  have HNP : Hid (ps.length = np) := hnp
  have HNA : Hid (now.length = nA) := hnA
  have HOK : Hid (∀ p ∈ ps, Sg.fits p.acct = true ∧ Sg.fits p.amt = true) := hok
  have HNOW : Hid (∀ v ∈ now, Sg.fits v = true) := hnow
  clear hnp hnA hok hnow
  have hgw := hw.lt
  go_enter Tryz.func41, Tryz.ntmps41
  go_wp2_with fail
  go_loopw [8] (fun i wr => ∃ k : Nat, k ≤ np ∧ i = .int .i64 (k : Int) ∧ Hid (∀ j (hj : j < ps.length), j < k → 0 ≤ ps[j].acct ∧ ps[j].acct < (nA : Int)) ∧ SumAt wr (w.heap.size + 2) (Sg.amtSum (ps.take k)) ∧ w.heap.size + 2 < wr.heap.size ∧
      Below (w.heap.size + 2) (boxes2 w (.slice aoA nA capA) (.slice aoP nP capP) (.string x) (.slice ao np cap)) wr) (fun i _ => np - (intOf i).toNat)
  case atStart =>
    refine ⟨0, by omega, rfl, fun j _ hj => by omega, ?_, by simp, ?_⟩
    · show ((boxes2 w (.slice aoA nA capA) (.slice aoP nP capP) (.string x) (.slice ao np cap)).alloc _).heap[w.heap.size + 2]? = _
      rw [← boxes2_size w (.slice aoA nA capA) (.slice aoP nP capP) (.string x) (.slice ao np cap), heap_alloc_new]
      rfl
    · show Below (w.heap.size + 2) _ ((boxes2 w (.slice aoA nA capA) (.slice aoP nP capP) (.string x) (.slice ao np cap)).alloc _)
      exact (Below.refl _ _).alloc (by rw [boxes2_size]; exact Nat.le_refl _) _
  case round =>
    obtain ⟨k, hk, rfl, HA, hsum, hsz, hbel⟩ := hrel
    obtain ⟨hx0, hx1, hbw⟩ := boxes2_facts hbel
    have hb0r := hb0.trans (hbw.mono hb0.size)
    obtain ⟨s0, s1, f0, f1⟩ := hsum.cells
    have hN0 : w.heap.size < wr.heap.size := by omega
    have hN1 : w.heap.size + 1 < wr.heap.size := by omega
    by_cases hlt : k < np
    · have hka : k < ps.length := by rw [HNP.out]; exact hlt
      obtain ⟨b, off, hao, hbb, hc0, hc1⟩ := (hl.below hb0r).cell (k := k) hka
      subst hao
      obtain ⟨hfa, hfm⟩ := HOK.out ps[k] (List.getElem_mem _)
      have hT : Tame (Sg.amtSum (ps.take k)) := by
        have := (Sg.sum_near ps (fun p hp => (HOK.out p hp).2) k (by omega)).mono (d := 6) (by omega)
        unfold Sg.Near at this; unfold Tame; omega
      have HS : Hid (Sg.amtSum (ps.take (k + 1)) = Sg.amtSum (ps.take k) + ps[k].amt) := Sg.sum_take_succ ps k hka
      have HBad : Hid ((ps[k].acct < 0 ∨ (nA : Int) ≤ ps[k].acct) → Sg.entErr nA ⟨x, ps⟩ now = 2) := fun e => by
        unfold Sg.entErr
        rw [if_pos]
        rw [List.any_eq_true]
        exact ⟨ps[k], List.getElem_mem _, decide_eq_true e⟩
      have HGo : Hid (0 ≤ ps[k].acct ∧ ps[k].acct < (nA : Int) → ∀ j (hj : j < ps.length), j < k + 1 → 0 ≤ ps[j].acct ∧ ps[j].acct < (nA : Int)) := fun e j hj hjk => by
        by_cases e' : j = k
        · subst e'; exact e
        · exact HA.out j hj (by omega)
      have hfa' : -9223372036854775808 ≤ ps[k].acct ∧ ps[k].acct ≤ 9223372036854775807 := of_decide_eq_true hfa
      have hfm' : -9223372036854775808 ≤ ps[k].amt ∧ ps[k].amt ≤ 9223372036854775807 := of_decide_eq_true hfm
      generalize ps[k].acct = a at *
      generalize ps[k].amt = m at *
      generalize hSk : Sg.amtSum (ps.take k) = sv at *
      clear hSk hfa hfm
      by_cases oka : 0 ≤ a ∧ a < (nA : Int)
      · obtain ⟨oa1, oa2⟩ := oka
        have o1 : ¬ a < 0 := by omega
        have o2 : ¬ (nA : Int) ≤ a := by omega
        have HG := HGo.out ⟨oa1, oa2⟩
        have HG' : Hid (∀ j (hj : j < ps.length), j < k + 1 → 0 ≤ ps[j].acct ∧ ps[j].acct < (nA : Int)) := HG
        clear HG HBad HGo
        go_wp2_with fail
        refine (wideAdd_any sv m _ hT hfm').mono ?_
        rintro e w1 ⟨rfl, hb1⟩
        have hsum1 : SumAt w1 (w.heap.size + 2) sv := (hsum.block (Below.heap_alloc wr _ _ hsz)).block (hb1.block _ (by simp; omega))
        have hbel1 := (hbel.alloc (by omega) _).trans (hb1.mono (by simp; omega))
        have hz1 := hb1.size
        obtain ⟨t0, t1, e0, e1⟩ := hsum1.cells
        have hsum2 := hsum1.set (sv + m)
        have hbel2 := (hbel1.setCell (p := ⟨w.heap.size + 2, 0, none⟩) (by simp) (.int .i64 (wHi (sv + m)))).setCell (p := ⟨w.heap.size + 2, 1, none⟩) (by simp) (.int .i64 (wLo (sv + m)))
        have HS2 : Hid (SumAt ((w1.setCell ⟨w.heap.size + 2, 0, none⟩ (.int .i64 (wHi (sv + m)))).setCell ⟨w.heap.size + 2, 1, none⟩ (.int .i64 (wLo (sv + m)))) (w.heap.size + 2) (sv + m)) := hsum2
        have HZ : Hid (w.heap.size + 2 < w1.heap.size) := by simp at hz1; show _ < _; omega
        clear hsum hsum1 hsum2 hbel hbel1 hb1 s0 s1 f0 f1
        go_wp2_with fail
        go_roundw
        case rel => exact ⟨k + 1, by omega, by go_num, HG', by rw [HS.out]; exact HS2.out, by simpa [World.setCell] using HZ.out, hbel2⟩
        case measure => simp [intOf]; omega
      · have HE : Hid (Sg.entErr nA ⟨x, ps⟩ now = 2) := HBad.out (by omega)
        by_cases p1 : a < 0
        · clear oka
          go_wp2_with fail
          go_ret
          exact ⟨ret_num (by rw [HE.out]), below_grown (hbw.alloc hbw.size _), fun e => by rw [HE.out] at e; omega⟩
        · have p2 : (nA : Int) ≤ a := by omega
          clear oka
          go_wp2_with fail
          go_ret
          exact ⟨ret_num (by rw [HE.out]), below_grown (hbw.alloc hbw.size _), fun e => by rw [HE.out] at e; omega⟩
    · have hkn : k = ps.length := by rw [HNP.out]; omega
      rw [hkn, List.take_length] at hsum s0 s1
      have HAll : Hid (∀ p ∈ ps, 0 ≤ p.acct ∧ p.acct < (nA : Int)) := fun p hp => by
        obtain ⟨j, hj, rfl⟩ := List.getElem_of_mem hp
        exact HA.out j hj (by omega)
      have HNo2 : Hid (ps.any (fun p => decide (p.acct < 0 ∨ (nA : Int) ≤ p.acct)) = false) := by
        show _ = _
        rw [List.any_eq_false]
        intro p hp
        have := HAll.out p hp
        simp; omega
      clear HA hkn
      by_cases hz : Sg.amtSum ps = 0
      · rw [hz] at s0 s1
        have z0 : wr.cell? ⟨w.heap.size + 2, 0, none⟩ = some (.int .i64 0) := s0
        have z1 : wr.cell? ⟨w.heap.size + 2, 1, none⟩ = some (.int .i64 0) := s1
        obtain ⟨wz, ewz⟩ : ∃ z : World, z = wr := ⟨_, rfl⟩
        subst ewz
        have HEq : Hid (Sg.entErr nA ⟨x, ps⟩ now = if (Sg.comesAll ps now).any (fun v => !Sg.fits v) then 4 else 0) := by
          show _ = _
          unfold Sg.entErr
          rw [if_neg (by rw [HNo2.out]; simp), if_neg (by rw [hz]; simp)]
        have hWr : Wides wz g now := hw.block (hbw.block g hgw)
        have hgr0 : wz.grownBy wz (some g) := World.grownBy.refl _ _
        clear s0 s1 f0 f1 hsum hz HNo2 hbel hw
        go_wp2_with fail
        go_loopw [10] (fun i wr => ∃ k : Nat, k ≤ np ∧ i = .int .i64 (k : Int) ∧ Hid (Wides wr g (Sg.comesTo ps now k)) ∧ Hid (wz.grownBy wr (some g))) (fun i _ => np - (intOf i).toNat)
        case atStart => exact ⟨0, by omega, rfl, hWr, hgr0⟩
        case round =>
          obtain ⟨q, hq, rfl, HW, HGR⟩ := hrel
          have hqx1 : wr.cell? ⟨w.heap.size + 1, 1, none⟩ = some (.slice ao np cap) := HGR.out.cell hx1 (by simp; omega)
          have hb0x : Below w0.heap.size w0 wr := hb0r.grown HGR.out hb0r.size (fun k hk => by simp at hk; omega)
          have hzx := HGR.out.size
          have hN0x : w.heap.size < wr.heap.size := by omega
          have hN1x : w.heap.size + 1 < wr.heap.size := by omega
          by_cases hlq : q < np
          · have hqa : q < ps.length := by rw [HNP.out]; exact hlq
            obtain ⟨b, off, hao, hbb, hc0, hc1⟩ := (hl.below hb0x).cell (k := q) hqa
            subst hao
            obtain ⟨hfa, hfm⟩ := HOK.out ps[q] (List.getElem_mem _)
            obtain ⟨ha0, ha1⟩ := HAll.out ps[q] (List.getElem_mem _)
            have hlen : (Sg.comesTo ps now q).length = nA := by rw [Sg.comesTo_length ps now q (by omega)]; exact HNA.out
            have HSu : Hid (Sg.comesTo ps now (q + 1) = Sg.comes (Sg.comesTo ps now q) ps[q].acct.toNat ps[q].amt) := Sg.comesTo_succ ps now q hqa
            have hnear : ∀ v ∈ Sg.comesTo ps now q, Tame v := fun v hv => by
              have := (Sg.comesTo_near ps now 1 (fun v hv => Sg.near_fits (HNOW.out v hv)) (fun p hp => (HOK.out p hp).2) (by rw [HNA.out]; exact HAll.out) q (by omega) v hv).mono (d := 7) (by omega)
              unfold Sg.Near at this; unfold Tame; omega
            have hfm' : -9223372036854775808 ≤ ps[q].amt ∧ ps[q].amt ≤ 9223372036854775807 := of_decide_eq_true hfm
            generalize ps[q].acct = a at *
            generalize ps[q].amt = m at *
            obtain ⟨ai, rfl⟩ := Int.eq_ofNat_of_zero_le ha0
            rw [Int.toNat_natCast] at HSu
            generalize Sg.comesTo ps now q = l at *
            have hai : ai < l.length := by omega
            have hT : Tame (l.getD ai 0) := hnear _ (by rw [List.getD_eq_getElem?_getD, List.getElem?_eq_getElem hai]; simp)
            have HWl : Hid (Wides wr g l) := HW
            have d0 := HWl.out.hi hai
            have d1 := HWl.out.lo hai
            have d2 := HWl.out.free (ai * 2)
            have d3 := HWl.out.free (ai * 2 + 1)
            have hgx := HWl.out.lt
            have HSet : Hid (Sg.comes l ai m = l.set ai (l.getD ai 0 + m)) := rfl
            obtain ⟨v, hv⟩ : ∃ v, v = l.getD ai 0 := ⟨_, rfl⟩
            rw [← hv] at hT d0 d1
            have HV : Hid (v = l.getD ai 0) := hv
            clear hv hnear hfa HW HSet
            have i1 : (0 : Int) ≤ (ai : Int) := by omega
            have i2 : (ai : Int) < (nA : Int) := by omega
            go_wp2_with fail
            go_region_with (first | (go_at_call 42; refine (wideAdd_any v m _ hT hfm').mono ?_; rintro e w1 ⟨rfl, hb1⟩; have c0 : w1.cell? ⟨g, ai * 2, none⟩ = some (.int .i64 (wHi v)) := (hb1.cell (p := ⟨g, ai * 2, none⟩) (by simp; omega)).trans (past_alloc_cell d0); have c1 : w1.cell? ⟨g, ai * 2 + 1, none⟩ = some (.int .i64 (wLo v)) := (hb1.cell (p := ⟨g, ai * 2 + 1, none⟩) (by simp; omega)).trans (past_alloc_cell d1); have c2 : w1.frozen? ⟨g, ai * 2, none⟩ = false := (hb1.frozen (p := ⟨g, ai * 2, none⟩) (by simp; omega)).trans ((World.frozen?_alloc_past _ _ _ hgx).trans d2); have c3 : w1.frozen? ⟨g, ai * 2 + 1, none⟩ = false := (hb1.frozen (p := ⟨g, ai * 2 + 1, none⟩) (by simp; omega)).trans ((World.frozen?_alloc_past _ _ _ hgx).trans d3); have c4 : w1.cell? ⟨wr.heap.size, 0, none⟩ = some (.int .i64 (ai : Int)) := (hb1.cell (p := ⟨wr.heap.size, 0, none⟩) (by simp)).trans (by simp)))
            all_goals
              have hst := wides_step (v := v) (m := m) HWl.out hai HGR.out hb1 (by rw [← HV.out])
              have HST : Hid (Wides ((w1.setCell ⟨g, ai * 2, none⟩ (.int .i64 (wHi (v + m)))).setCell ⟨g, ai * 2 + 1, none⟩ (.int .i64 (wLo (v + m)))) g (Sg.comes l ai m) ∧ wz.grownBy ((w1.setCell ⟨g, ai * 2, none⟩ (.int .i64 (wHi (v + m)))).setCell ⟨g, ai * 2 + 1, none⟩ (.int .i64 (wLo (v + m)))) (some g)) := hst
              clear hst hb1 c0 c1 c2 c3 c4 HWl HGR
              go_wp2_with fail
              go_roundw
              case rel => exact ⟨q + 1, by omega, by go_num, by show Wides _ _ _; rw [HSu.out]; exact HST.out.1, HST.out.2⟩
              case measure => simp [intOf]; omega
          · have hqn : q = ps.length := by rw [HNP.out]; omega
            have HWn : Hid (Wides wr g (Sg.comesAll ps now)) := by
              show Wides _ _ _
              have := HW.out
              rw [hqn, Sg.comesTo_all] at this
              exact this
            have HGw : Hid (w.grownBy wr (some g)) := grown_chain (below_grown hbw) HGR.out
            have HLen : Hid ((Sg.comesAll ps now).length = nA) := by
              show _ = _
              rw [← Sg.comesTo_all, Sg.comesTo_length ps now _ (Nat.le_refl _)]; exact HNA.out
            generalize hlq : Sg.comesAll ps now = l at *
            have HLQ : Hid (Sg.comesAll ps now = l) := hlq
            clear hlq
            obtain ⟨wy, ewy⟩ : ∃ z : World, z = wr := ⟨_, rfl⟩
            subst ewy
            have hwy0 : Below wy.heap.size wy wy := Below.refl _ _
            clear hqn HW HGR hl hWr hx0 hx1 z0 z1 hb0x hb0r hgr0
            go_wp2_with fail
            go_loopw [12] (fun i w3 => ∃ k : Nat, k ≤ nA ∧ i = .int .i64 (k : Int) ∧ Hid (∀ j (hj : j < l.length), j < k → Sg.fits l[j] = true) ∧ Below wy.heap.size wy w3) (fun i _ => nA - (intOf i).toNat)
            case atStart => exact ⟨0, by omega, rfl, fun j _ hj => by omega, hwy0⟩
            case round =>
              obtain ⟨r, hr, rfl, HR, hby⟩ := hrel
              by_cases hlr : r < nA
              · have hra : r < l.length := by rw [HLen.out]; exact hlr
                have hWr := HWn.out.block (hby.block g HWn.out.lt)
                have d0 := hWr.hi hra
                have d1 := hWr.lo hra
                have eg : l.getD r 0 = l[r] := by simp [List.getD, hra]
                rw [eg] at d0 d1
                have HGo : Hid (Sg.fits l[r] = true → ∀ j (hj : j < l.length), j < r + 1 → Sg.fits l[j] = true) := fun e j hj hjr => by
                  by_cases e' : j = r
                  · subst e'; exact e
                  · exact HR.out j hj (by omega)
                have HBad : Hid (Sg.fits l[r] = false → Sg.entErr nA ⟨x, ps⟩ now = 4) := fun e => by
                  rw [HEq.out, if_pos]
                  rw [List.any_eq_true]
                  exact ⟨l[r], List.getElem_mem _, by rw [e]; rfl⟩
                generalize l[r] = v at *
                have i1 : (0 : Int) ≤ (r : Int) := by omega
                have i2 : (r : Int) < (nA : Int) := by omega
                clear eg hWr
                cases hfv : Sg.fits v with
                | true =>
                  have HG := HGo.out hfv
                  have HG' : Hid (∀ j (hj : j < l.length), j < r + 1 → Sg.fits l[j] = true) := HG
                  have HFv : Hid (Sg.fits v = true) := hfv
                  clear HG HGo HBad hfv
                  go_wp2_with fail
                  refine (wideFits_any v _).mono ?_
                  rintro e w4 ⟨rfl, hb4⟩
                  rw [HFv.out]
                  have hby4 := hby.trans (hb4.mono hby.size)
                  clear hb4
                  go_wp2_with fail
                  go_roundw
                  case rel => exact ⟨r + 1, by omega, by go_num, HG', hby4⟩
                  case measure => simp [intOf]; omega
                | false =>
                  have HE : Hid (Sg.entErr nA ⟨x, ps⟩ now = 4) := HBad.out hfv
                  have HFv : Hid (Sg.fits v = false) := hfv
                  clear HGo HBad hfv
                  go_wp2_with fail
                  refine (wideFits_any v _).mono ?_
                  rintro e w4 ⟨rfl, hb4⟩
                  rw [HFv.out]
                  have hby4 := hby.trans (hb4.mono hby.size)
                  clear hb4
                  go_wp2_with fail
                  go_ret
                  exact ⟨ret_num (by rw [HE.out]), grown_chain HGw.out (below_grown hby4), fun e => by rw [HE.out] at e; omega⟩
              · have HE : Hid (Sg.entErr nA ⟨x, ps⟩ now = 0) := by
                  show _ = _
                  rw [HEq.out, if_neg]
                  rw [List.any_eq_true]
                  rintro ⟨v, hv, e⟩
                  obtain ⟨j, hj, rfl⟩ := List.getElem_of_mem hv
                  rw [HR.out j hj (by have := HLen.out; omega)] at e
                  simp at e
                go_wp2_with fail
                go_ret
                exact ⟨ret_num (by rw [HE.out]), grown_chain HGw.out (below_grown hby), fun _ => by rw [HLQ.out]; exact HWn.out.block (hby.block g HWn.out.lt)⟩
      · have HE : Hid (Sg.entErr nA ⟨x, ps⟩ now = 3) := by
          show _ = _
          unfold Sg.entErr
          rw [if_neg (by rw [HNo2.out]; simp), if_pos hz]
        by_cases q0 : wHi (Sg.amtSum ps) = 0
        · have q1 : (wLo (Sg.amtSum ps) != 0) = true := by
            rw [bne_iff_ne]; intro e; apply hz; unfold wHi wLo at *; omega
          have q0' : (wHi (Sg.amtSum ps) != 0) = false := by rw [q0]; rfl
          generalize wHi (Sg.amtSum ps) = hi at *
          generalize wLo (Sg.amtSum ps) = lo at *
          clear hz q0 hsum
          go_wp2_with fail
          go_ret
          exact ⟨ret_num (by rw [HE.out]), below_grown hbw, fun e => by rw [HE.out] at e; omega⟩
        · have q0' : (wHi (Sg.amtSum ps) != 0) = true := by rw [bne_iff_ne]; exact q0
          generalize wHi (Sg.amtSum ps) = hi at *
          generalize wLo (Sg.amtSum ps) = lo at *
          clear hz q0 hsum
          go_wp2_with fail
          go_ret
          exact ⟨ret_num (by rw [HE.out]), below_grown hbw, fun e => by rw [HE.out] at e; omega⟩
end Go.Proofs.YtpkkhkkkgjhkeaaGreat

/-
  THE WALK of signetref.leaf.
-/
namespace Go.Proofs.YtpkkhkkkgjhkeaaGreat
open Go.RowKit
set_option maxRecDepth 100000

/-- A list that is the call's own, as a slice that is read. -/
theorem own_strs_shape {w : World} {base : Nat} {v : Value} {ss : List ByteArray} (h : OwnStrs w base v ss) : ∃ ao cap, v = .slice ao ss.length cap ∧ ss.length ≤ cap ∧ cap ≤ maxLen ∧ (1 ≤ ss.length → ∃ g, ao = some ⟨g, 0, none⟩ ∧ g < w.heap.size ∧ StrsAt w g 0 ss) := by
  have hk := h
  rcases h.2 with ⟨rfl, h0⟩ | ⟨g, cap, cur, rfl, _, hh, hle, hm, _, _⟩
  · exact ⟨none, 0, by rw [h0], by omega, by decide, fun h1 => by omega⟩
  · refine ⟨_, cap, rfl, hle, hm, fun _ => ⟨g, rfl, lt_of_block hh, fun i hi => ?_⟩⟩
    have := World.ownsRow.cellAt hk i (by omega)
    rw [Nat.zero_add, this]
    simp [List.getD, hi]

/-- signetref.Root of a list of the call's own. -/
theorem refRoot_own {w : World} {base : Nat} {v : Value} {ss : List ByteArray} (h : OwnStrs w base v ss) (hs : ∀ s ∈ ss, s.size ≤ 140737488355328) (hmax : ss.length ≤ 4096) :
    Calls Tryz.prog 62 #[v] w fun e w' => e = .returned (.string (Sg.root ss)) ∧ Below w.heap.size w w' := by
  obtain ⟨ao, cap, rfl, hle, hm, hin⟩ := own_strs_shape h
  by_cases h0 : ss.length = 0
  · rw [Sg.root_none h0, h0]
    exact refRoot_none ao cap w
  · obtain ⟨g, rfl, hg, hat⟩ := hin (by omega)
    exact refRoot_upto ss.length ss ss.length g 0 cap w rfl (Nat.le_refl _) (by omega) hle (by unfold maxLen at hm; omega) hs hg hat

theorem fits_line (k : Int) (h : 0 ≤ k ∧ k ≤ 3) : -9223372036854775808 ≤ k ∧ k ≤ 9223372036854775807 := by omega

set_option maxHeartbeats 1600000 in
/-- signetref.leaf. -/
theorem leaf_any2 (line total : Int) (ds : List Sg.Drl) (ao : Option Addr) (n cap : Nat) (w : World) (hn : ds.length = n) (hmax : n ≤ 4096) (hok : ∀ d ∈ ds, drlFits d) (hl : DrlsIn w ao ds) (hline : 0 ≤ line ∧ line ≤ 3) (ht : Sg.fits total = true) :
    Calls Tryz.prog 64 #[.int .i64 line, .int .i64 total, .slice ao n cap] w fun e w' => e = .returned (.string (Sg.lineB line total ds)) ∧ Below w.heap.size w w' := by
  have HN : Hid (ds.length = n) := hn
  clear hn
  have ht' : -9223372036854775808 ≤ total ∧ total ≤ 9223372036854775807 := of_decide_eq_true ht
  clear ht
  go_enter Tryz.func64, Tryz.ntmps64
  go_wp2_with fail
  refine (bytes_txt line 1 _ (fits_line line hline) (by decide) (by decide)).mono ?_
  rintro e w1 ⟨y1, rfl, hy1, hys1, hb1⟩
  go_wp2_with fail
  refine (bytes_txt total 8 _ ht' (by decide) (by decide)).mono ?_
  rintro e w2 ⟨y2, rfl, hy2, hys2, hb2⟩
  have b02 := hb1.trans (hb2.mono hb1.size)
  go_wp2_with fail
  refine (bytes_txt (n : Int) 2 _ (by omega) (by decide) (by decide)).mono ?_
  rintro e w3 ⟨y3, rfl, hy3, hys3, hb3⟩
  have b03 := b02.trans (hb3.mono b02.size)
  go_wp2_with fail
  refine (drills_any ds ao n cap _ HN.out hmax hok (hl.below b03)).mono ?_
  rintro e w4 ⟨v, rfl, hown, hb4⟩
  have b04 := b03.trans (hb4.mono b03.size)
  go_wp2_with fail
  refine (refRoot_own hown (fun s hs => by
    obtain ⟨d, _, rfl⟩ := List.mem_map.1 hs
    rw [Sg.drlB_size]; omega) (by rw [List.length_map, HN.out]; exact hmax)).mono ?_
  rintro e w5 ⟨rfl, hb5⟩
  have b05 := b04.trans (hb5.mono b04.size)
  have HE : Hid (Sg.lineB line total ds = y1 ++ y2 ++ y3 ++ Sg.root (ds.map Sg.drlB)) := by
    show _ = _
    unfold Sg.lineB
    rw [hy1.out, hy2.out, hy3.out, HN.out]
  have hrs := Sg.root_size (ds.map Sg.drlB)
  generalize Sg.root (ds.map Sg.drlB) = rt at *
  have hrs' : rt.size ≤ 2 := by omega
  have q1 : (y1 ++ y2).size ≤ 16 := by rw [cat_size]; omega
  have q2 : (y1 ++ y2 ++ y3).size ≤ 24 := by rw [cat_size, cat_size]; omega
  clear hrs hb1 hb2 hb3 hb4 hb5 b02 b03 b04 hown hl hok hy1 hy2 hy3
  go_wp2_with fail
  go_ret
  exact ⟨ret_str2 (by rw [HE.out]), b05⟩
end Go.Proofs.YtpkkhkkkgjhkeaaGreat

/-
  THE WALK of signetref.Books.Drills: and how closed books lie in memory.
-/
namespace Go.Proofs.YtpkkhkkkgjhkeaaGreat
open Go.RowKit
set_option maxRecDepth 100000

theorem Tryz.infoDrl : (Tryz.prog.info? 134).map (fun i => (i.zero, i.size, i.bytes)) = some (some (.agg #[.int .i64 0, .int .i64 0, .int .i64 0, .int .i64 0]), 4, 32) := by kernel_rfl

/-- Drills, cell by cell. -/
def drlCells (ds : List Sg.Drl) : List Value := ds.flatMap fun d => [.int .i64 (d.ent : Int), .int .i64 (d.place : Int), .int .i64 d.acct, .int .i64 d.amt]
theorem drlCells_length : ∀ ds, (drlCells ds).length = ds.length * 4
  | [] => rfl
  | d :: ds => by simp only [drlCells, List.flatMap_cons, List.length_append, List.length_cons, List.length_nil]; have := drlCells_length ds; unfold drlCells at this; rw [this]; omega
theorem drlCells_snoc (ds : List Sg.Drl) (d : Sg.Drl) : drlCells (ds ++ [d]) = drlCells ds ++ [.int .i64 (d.ent : Int), .int .i64 (d.place : Int), .int .i64 d.acct, .int .i64 d.amt] := by
  unfold drlCells; rw [List.flatMap_append]; simp
theorem drlCells_get : ∀ (ds : List Sg.Drl) (i : Nat) (h : i < ds.length), (drlCells ds)[i * 4]? = some (.int .i64 (ds[i].ent : Int)) ∧ (drlCells ds)[i * 4 + 1]? = some (.int .i64 (ds[i].place : Int)) ∧ (drlCells ds)[i * 4 + 2]? = some (.int .i64 ds[i].acct) ∧ (drlCells ds)[i * 4 + 3]? = some (.int .i64 ds[i].amt)
  | d :: ds, 0, _ => ⟨rfl, rfl, rfl, rfl⟩
  | d :: ds, i + 1, h => by
    have := drlCells_get ds i (by simpa using h)
    have e : drlCells (d :: ds) = [.int .i64 (d.ent : Int), .int .i64 (d.place : Int), .int .i64 d.acct, .int .i64 d.amt] ++ drlCells ds := rfl
    rw [e, List.getElem?_append_right (by simp; omega), List.getElem?_append_right (by simp; omega), List.getElem?_append_right (by simp; omega), List.getElem?_append_right (by simp; omega)]
    simpa [show (i + 1) * 4 - 4 = i * 4 by omega, show (i + 1) * 4 + 1 - 4 = i * 4 + 1 by omega, show (i + 1) * 4 + 2 - 4 = i * 4 + 2 by omega, show (i + 1) * 4 + 3 - 4 = i * 4 + 3 by omega] using this
/-- A list of drills that is the call's own. -/
def OwnDrls (w : World) (base : Nat) (v : Value) (ds : List Sg.Drl) : Prop := w.ownsRow base 134 4 v ds.length (drlCells ds)
theorem OwnDrls.below {w w' : World} {base : Nat} {v : Value} {ds : List Sg.Drl} (h : OwnDrls w base v ds) (hb : Below w.heap.size w w') : OwnDrls w' base v ds := ownsRow_below h hb
theorem OwnDrls.shape {w : World} {base : Nat} {v : Value} {ds : List Sg.Drl} (h : OwnDrls w base v ds) : ∃ ao cap, v = .slice ao ds.length cap ∧ DrlsIn w ao ds := by
  have hk := h
  rcases h.2 with ⟨rfl, h0⟩ | ⟨g, cap, cur, rfl, _, hh, hle, hm, _, _⟩
  · exact ⟨none, 0, by rw [h0], Or.inl h0⟩
  · refine ⟨_, cap, rfl, Or.inr ⟨g, 0, rfl, lt_of_block hh, fun i hi => ?_⟩⟩
    obtain ⟨a1, a2, a3, a4⟩ := drlCells_get ds i hi
    unfold DrlAt
    simp only [Nat.zero_add]
    rw [World.ownsRow.cellAt hk (i * 4) (by omega), World.ownsRow.cellAt hk (i * 4 + 1) (by omega), World.ownsRow.cellAt hk (i * 4 + 2) (by omega), World.ownsRow.cellAt hk (i * 4 + 3) (by omega)]
    exact ⟨a1, a2, a3, a4⟩

namespace Sg
theorem drillsIn_append (ac : List Acc) (line : Int) (i : Nat) : ∀ (p1 p2 : List Pst) (j : Nat), drillsIn ac line i j (p1 ++ p2) = drillsIn ac line i j p1 ++ drillsIn ac line i (j + p1.length) p2
  | [], p2, j => rfl
  | p :: p1, p2, j => by
    simp only [List.cons_append, drillsIn, List.length_cons]
    rw [drillsIn_append ac line i p1 p2 (j + 1), show j + 1 + p1.length = j + (p1.length + 1) by omega]
    split <;> simp
theorem drillsFrom_append (ac : List Acc) (line : Int) : ∀ (e1 e2 : List Ent) (i : Nat), drillsFrom ac line i (e1 ++ e2) = drillsFrom ac line i e1 ++ drillsFrom ac line (i + e1.length) e2
  | [], e2, i => rfl
  | e :: e1, e2, i => by
    simp only [List.cons_append, drillsFrom, List.length_cons]
    rw [drillsFrom_append ac line e1 e2 (i + 1), show i + 1 + e1.length = i + (e1.length + 1) by omega, List.append_assoc]
/-- The drills of the first i entries, and of the first j postings of the next. -/
def drTo (ac : List Acc) (line : Int) (es : List Ent) (i j : Nat) (ps : List Pst) : List Drl := drillsFrom ac line 0 (es.take i) ++ drillsIn ac line i 0 (ps.take j)
theorem drTo_zero (ac : List Acc) (line : Int) (es : List Ent) (i : Nat) (ps : List Pst) : drTo ac line es i 0 ps = drillsFrom ac line 0 (es.take i) := by unfold drTo; simp [drillsIn]
theorem drTo_succ (ac : List Acc) (line : Int) (es : List Ent) (i j : Nat) (ps : List Pst) (h : j < ps.length) : drTo ac line es i (j + 1) ps = drTo ac line es i j ps ++ (if lineOf ac ps[j].acct = line then [⟨i, j, ps[j].acct, ps[j].amt⟩] else []) := by
  unfold drTo
  rw [List.take_succ_eq_append_getElem h, drillsIn_append, List.append_assoc]
  simp only [drillsIn, List.length_take, Nat.zero_add, Nat.min_eq_left (Nat.le_of_lt h)]
theorem drTo_next (ac : List Acc) (line : Int) (es : List Ent) (i : Nat) (h : i < es.length) : drTo ac line es i es[i].posts.length es[i].posts = drillsFrom ac line 0 (es.take (i + 1)) := by
  unfold drTo
  rw [List.take_succ_eq_append_getElem h, drillsFrom_append, List.take_length]
  simp [drillsFrom, Nat.min_eq_left (Nat.le_of_lt h)]
theorem drillsIn_len (ac : List Acc) (line : Int) (i : Nat) : ∀ (ps : List Pst) (j : Nat), (drillsIn ac line i j ps).length ≤ ps.length
  | [], _ => Nat.le_refl _
  | p :: ps, j => by
    have := drillsIn_len ac line i ps (j + 1)
    simp only [drillsIn]; split <;> simp <;> omega
theorem drillsFrom_len (ac : List Acc) (line : Int) : ∀ (es : List Ent) (i : Nat), (∀ e ∈ es, e.posts.length ≤ 6) → (drillsFrom ac line i es).length ≤ 6 * es.length
  | [], _, _ => Nat.le_refl _
  | e :: es, i, h => by
    have h1 := drillsFrom_len ac line es (i + 1) (fun x hx => h x (by simp [hx]))
    have h2 := drillsIn_len ac line i e.posts 0
    have h3 := h e (by simp)
    simp only [drillsFrom, List.length_append, List.length_cons]; omega
theorem lineOf_get {ac : List Acc} {i : Nat} (h : i < ac.length) : lineOf ac (i : Int) = ac[i].line := by
  unfold lineOf; simp [List.getD, h]
end Sg

theorem past_cell {w : World} {o : Obj} {b f : Nat} {v : Value} (h : w.cell? ⟨b, f, none⟩ = some v) : (w.alloc o).cell? ⟨b, f, none⟩ = some v := (World.cell?_alloc_past _ _ _ (World.block_lt_of_cell? w _ h)).trans h
/-- The box of closed books. -/
def bkBox (w : World) (a b c d : Value) : World := w.alloc (.cells #[a, b, c, d] 39)
theorem bkBox_facts {w wr : World} {a b c d : Value} (h : Below (w.heap.size + 1) (bkBox w a b c d) wr) :
    wr.cell? ⟨w.heap.size, 0, none⟩ = some a ∧ wr.cell? ⟨w.heap.size, 1, none⟩ = some b ∧ wr.cell? ⟨w.heap.size, 2, none⟩ = some c ∧ wr.cell? ⟨w.heap.size, 3, none⟩ = some d ∧ Below w.heap.size w wr ∧ w.heap.size < wr.heap.size := by
  have hs := h.size
  unfold bkBox at h hs
  refine ⟨?_, ?_, ?_, ?_, ((Below.refl _ _).alloc (Nat.le_refl _) _).trans (h.mono (by omega)), by simp at hs; omega⟩
  · rw [h.cell (p := ⟨w.heap.size, 0, none⟩) (by simp)]; simp
  · rw [h.cell (p := ⟨w.heap.size, 1, none⟩) (by simp)]; simp
  · rw [h.cell (p := ⟨w.heap.size, 2, none⟩) (by simp)]; simp
  · rw [h.cell (p := ⟨w.heap.size, 3, none⟩) (by simp)]; simp
theorem bkBox_refl (w : World) (a b c d : Value) : Below (w.heap.size + 1) (bkBox w a b c d) (bkBox w a b c d) := Below.refl _ _
theorem bkBox_size (w : World) (a b c d : Value) : (bkBox w a b c d).heap.size = w.heap.size + 1 := by unfold bkBox; simp

/-- One append of one element of whatever size: what was below stays below. -/
theorem below_pushN {B : Nat} {e : TypeId} {sz : Nat} {w wr w1 : World} {v : Value} {n : Nat} {xs : List Value} {o : Obj} (hB : B ≤ wr.heap.size)
    (hown : wr.ownsRow B e sz v n xs) (hbel : Below B w wr) (hgrow : (wr.alloc o).grownBy w1 v.ownBlock) : Below B w w1 :=
  (hbel.alloc hB o).grown hgrow (by simp; omega) (fun j hj => (hown.lt j hj).1)

theorem four_new (w : World) (o : Obj) (a b c d : Value) (t : TypeId) : ∀ j u, [a, b, c, d][j]? = some u → ((w.alloc o).alloc (.cells #[a, b, c, d] t)).cell? ((⟨w.heap.size + 1, 0, none⟩ : Addr).add j) = some u := by
  intro j u hj
  match j, hj with
  | 0, hj => simp at hj; subst hj; simp [Addr.add]
  | 1, hj => simp at hj; subst hj; simp [Addr.add]
  | 2, hj => simp at hj; subst hj; simp [Addr.add]
  | 3, hj => simp at hj; subst hj; simp [Addr.add]

set_option maxHeartbeats 6400000 in
/-- Books.Drills. -/
theorem bDrills_any (ac : List Sg.Acc) (pers : List (List Sg.Ent)) (q : Nat) (line : Int) (aoA aoP : Option Addr) (nA capA nP capP : Nat) (vB vT : Value) (w : World) (hA : AccsIn w aoA ac) (hnA : ac.length = nA) (hP : PersIn w aoP pers) (hnP : pers.length = nP) (hq : q < pers.length)
    (_hsm : nA ≤ 8) (_hnP6 : nP ≤ 6) (hper : pers[q].length ≤ 12 ∧ ∀ e ∈ pers[q], e.posts.length ≤ 6 ∧ ∀ t ∈ e.posts, 0 ≤ t.acct ∧ t.acct < (nA : Int) ∧ Sg.fits t.amt = true) :
    Calls Tryz.prog 30 #[.agg #[.slice aoA nA capA, .slice aoP nP capP, vB, vT], .int .i64 (q : Int), .int .i64 line] w fun e w' => ∃ v, e = .returned v ∧ OwnDrls w' w.heap.size v (Sg.drillsOf ac pers[q] line) ∧ Below w.heap.size w w' := by
  obtain ⟨j0, ji, jz0, jz1, jz2⟩ := info_parts Tryz.infoDrl
  obtain ⟨b, off, rfl, hbw, aoE, capE, hcE, hE⟩ := hP.cell (k := q) hq
  have HNA : Hid (ac.length = nA) := hnA
  have hqi : (q : Int) < (nP : Int) := by omega
  have hq0 : (0 : Int) ≤ (q : Int) := by omega
  have HD : Hid (Sg.drillsOf ac pers[q] line = Sg.drillsFrom ac line 0 pers[q]) := rfl
  generalize pers[q] = es at *
  obtain ⟨hes, hent⟩ := hper
  obtain ⟨ne, hne⟩ : ∃ ne, es.length = ne := ⟨_, rfl⟩
  rw [hne] at hcE hes
  have HNE : Hid (es.length = ne) := hne
  have HENT : Hid (∀ e ∈ es, e.posts.length ≤ 6 ∧ ∀ t ∈ e.posts, 0 ≤ t.acct ∧ t.acct < (nA : Int) ∧ Sg.fits t.amt = true) := hent
  have hcE1 := fun o => past_cell (o := o) hcE
  clear hnA hne hent hq hnP hP
  go_enter Tryz.func30, Tryz.ntmps30
  go_wp2_with fail
  go_loopw [7, 9] (fun o i wr => ∃ k : Nat, k ≤ ne ∧ i = .int .i64 (k : Int) ∧ OwnDrls wr (w.heap.size + 1) o (Sg.drillsFrom ac line 0 (es.take k)) ∧ Below (w.heap.size + 1) (bkBox w (.slice aoA nA capA) (.slice (some ⟨b, off, none⟩) nP capP) vB vT) wr) (fun _ i _ => ne - (intOf i).toNat)
  case atStart => exact ⟨0, by omega, rfl, World.ownsRow_nil _ _ _ _, bkBox_refl _ _ _ _ _⟩
  case round =>
    obtain ⟨k, hk, rfl, hown, hbel⟩ := hrel
    by_cases hlt : k < ne
    · have hka : k < es.length := by rw [HNE.out]; exact hlt
      obtain ⟨hp6, hpt⟩ := HENT.out es[k] (List.getElem_mem _)
      have HZ : Hid (Sg.drTo ac line es k 0 es[k].posts = Sg.drillsFrom ac line 0 (es.take k)) := Sg.drTo_zero ac line es k es[k].posts
      have HX : Hid (Sg.drTo ac line es k es[k].posts.length es[k].posts = Sg.drillsFrom ac line 0 (es.take (k + 1))) := Sg.drTo_next ac line es k hka
      obtain ⟨_, _, _, _, hbw1, _⟩ := bkBox_facts hbel
      obtain ⟨bE, offE, hao, hbE, _, aoQ, capQ, hcQ, hPs⟩ := hE.cell (k := k) hka
      subst hao
      have HLen : Hid ((Sg.drillsFrom ac line 0 (es.take k)).length ≤ 72) := by
        have := Sg.drillsFrom_len ac line (es.take k) 0 (fun e he => (HENT.out e (List.mem_of_mem_take he)).1)
        simp at this
        show _ ≤ _
        omega
      generalize es[k].posts = ps at *
      obtain ⟨np, hnp⟩ : ∃ np, ps.length = np := ⟨_, rfl⟩
      rw [hnp] at hcQ hp6 HX
      have HNP : Hid (ps.length = np) := hnp
      have HPT : Hid (∀ t ∈ ps, 0 ≤ t.acct ∧ t.acct < (nA : Int) ∧ Sg.fits t.amt = true) := hpt
      have hcQ1 := (hbw1.cell (p := ⟨bE, offE + k * 2 + 1, none⟩) hbE).trans hcQ
      rw [← HZ.out] at hown
      have i1 : (0 : Int) ≤ (k : Int) := by omega
      have i2 : (k : Int) < (ne : Int) := by omega
      clear hnp hpt HZ
      go_wp2_with fail
      go_loopw [7, 10] (fun o j wr => ∃ r : Nat, r ≤ np ∧ j = .int .i64 (r : Int) ∧ OwnDrls wr (w.heap.size + 1) o (Sg.drTo ac line es k r ps) ∧ Below (w.heap.size + 1) (bkBox w (.slice aoA nA capA) (.slice (some ⟨b, off, none⟩) nP capP) vB vT) wr) (fun _ j _ => np - (intOf j).toNat)
      case atStart => exact ⟨0, by omega, rfl, hown, hbel⟩
      case round =>
        obtain ⟨r, hr, rfl, hown2, hbel2⟩ := hrel
        obtain ⟨hx0, _, _, _, hbw2, hsz2⟩ := bkBox_facts hbel2
        have hcQ2 := (hbw2.cell (p := ⟨bE, offE + k * 2 + 1, none⟩) hbE).trans hcQ
        by_cases hlr : r < np
        · have hra : r < ps.length := by rw [HNP.out]; exact hlr
          obtain ⟨bP, offP, hao, hbP, hc0, hc1⟩ := (hPs.below hbw2).cell (k := r) hra
          subst hao
          obtain ⟨ha0, ha1, hfm⟩ := HPT.out ps[r] (List.getElem_mem _)
          have HS : Hid (Sg.drTo ac line es k (r + 1) ps = Sg.drTo ac line es k r ps ++ (if Sg.lineOf ac ps[r].acct = line then [⟨k, r, ps[r].acct, ps[r].amt⟩] else [])) := Sg.drTo_succ ac line es k r ps hra
          have hfm' : -9223372036854775808 ≤ ps[r].amt ∧ ps[r].amt ≤ 9223372036854775807 := of_decide_eq_true hfm
          have HLn : Hid ((Sg.drTo ac line es k r ps).length ≤ 100) := by
            show _ ≤ _
            unfold Sg.drTo
            rw [List.length_append]
            have h1 := HLen.out
            have h2 := Sg.drillsIn_len ac line k (ps.take r) 0
            simp at h2
            omega
          generalize ps[r].acct = a at *
          generalize ps[r].amt = m at *
          obtain ⟨ai, rfl⟩ := Int.eq_ofNat_of_zero_le ha0
          have haa : ai < ac.length := by rw [HNA.out]; omega
          obtain ⟨bA, offA, hao, hbA, _, hcl⟩ := (hA.below hbw2).cell (k := ai) haa
          subst hao
          rw [Sg.lineOf_get haa] at HS
          generalize ac[ai].line = lx at *
          generalize Sg.drTo ac line es k r ps = ds at *
          have i3 : (0 : Int) ≤ (r : Int) := by omega
          have i4 : (r : Int) < (np : Int) := by omega
          have i5 : (ai : Int) < (nA : Int) := by omega
          clear hfm hA
          by_cases hel : lx = line
          · have helb : (lx == line) = true := by simp [hel]
            have HS2 : Hid (Sg.drTo ac line es k (r + 1) ps = ds ++ [⟨k, r, (ai : Int), m⟩]) := by show _ = _; rw [HS.out, if_pos hel]
            have hownU := hown2
            unfold OwnDrls at hownU
            have hln := HLn.out
            clear hel HS
            go_wp2_with (at_builtin; refine wpList_append_own _ rfl _ _ 75 rfl (w.heap.size + 1) 134 j0 (.agg #[.int .i64 0, .int .i64 0, .int .i64 0, .int .i64 0]) 4 32 Tryz.underlying75 ji jz0 jz1 jz2 rfl (by decide) _ _ _ rfl ((hownU.alloc _).alloc _) ⟨wr.heap.size + 1, 0, none⟩ 1 1 [.int .i64 (k : Int), .int .i64 (r : Int), .int .i64 (ai : Int), .int .i64 m] rfl rfl ?c1 ?c2 ?c3 ?c4 ?c5 ?_)
            case c1 => exact four_new _ _ _ _ _ _ _
            case c2 => intro u hu; simp at hu; rcases hu with rfl | rfl | rfl | rfl <;> rfl
            case c3 => unfold maxLen; omega
            case c4 => omega
            case c5 => simp; omega
            intro v' w4 hown' hgrow _
            have hbP3 := hbel2.alloc (by omega) (.cells #[.int .i64 (ai : Int), .int .i64 m] 57)
            have hb4 := below_pushN (by simp; omega) (hownU.alloc (.cells #[.int .i64 (ai : Int), .int .i64 m] 57)) hbP3 hgrow
            have HO4 : Hid (OwnDrls w4 (w.heap.size + 1) v' (Sg.drTo ac line es k (r + 1) ps)) := by
              show OwnDrls _ _ _ _
              rw [HS2.out]
              unfold OwnDrls
              rw [drlCells_snoc, List.length_append]
              exact hown'
            clear hgrow hown' hown2 hownU hbP3 HS2
            go_wp2_with fail
            go_roundw
            case rel => exact ⟨r + 1, by omega, by go_num, HO4.out, hb4⟩
            case measure => simp [intOf]; omega
          · have helb : (lx == line) = false := by simp [hel]
            have HS2 : Hid (Sg.drTo ac line es k (r + 1) ps = ds) := by show _ = _; rw [HS.out, if_neg hel]; simp
            have hb3 := hbel2.alloc (by omega) (.cells #[.int .i64 (ai : Int), .int .i64 m] 57)
            have ho3 := World.ownsRow.alloc hown2 (.cells #[.int .i64 (ai : Int), .int .i64 m] 57)
            have HO3 : Hid (OwnDrls (wr.alloc (.cells #[.int .i64 (ai : Int), .int .i64 m] 57)) (w.heap.size + 1) u7 ds) := ho3
            clear hel HS ho3
            go_wp2_with fail
            go_roundw
            case rel => exact ⟨r + 1, by omega, by go_num, by rw [HS2.out]; exact HO3.out, hb3⟩
            case measure => simp [intOf]; omega
        · have hrn : r = np := by omega
          rw [hrn, HX.out] at hown2
          go_wp2_with fail
          go_roundw
          case rel => exact ⟨k + 1, by omega, by go_num, hown2, hbel2⟩
          case measure => simp [intOf]; omega
    · have hkn : k = es.length := by rw [HNE.out]; omega
      rw [hkn, List.take_length] at hown
      go_wp2_with fail
      go_ret
      obtain ⟨_, _, _, _, hbw1, _⟩ := bkBox_facts hbel
      exact ⟨_, rfl, by rw [HD.out]; exact ownsRow_base hown (by omega), hbw1⟩
end Go.Proofs.YtpkkhkkkgjhkeaaGreat
