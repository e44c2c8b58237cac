import Derived.Test.YtoadiibfmcjgaaaRefSeal
import Derived.Test.YtoadiibfmcjgaaaHhead
/-
  THE WALKS of signetlaw.sameEntries.
-/
namespace Go.Proofs.Ytoadiibfmcjgaaa
open Go.RowKit
set_option maxRecDepth 100000
attribute [local go_sem ↓] Go.wp_at_zero Go.wp_at_succ

set_option maxHeartbeats 3200000 in
/-- signetlaw.sameEntries of two lists that are the same. -/
theorem sameEnts_any (es : List Sg.Ent) (ao1 ao2 : Option Addr) (n cap1 cap2 : Nat) (w : World) (hn : es.length = n) (hmax : n ≤ 140737488355328) (h1 : EntsIn w ao1 es) (h2 : EntsIn w ao2 es) (hp : ∀ e ∈ es, e.posts.length ≤ 140737488355328) :
    Calls Try.prog 28 #[.slice ao1 n cap1, .slice ao2 n cap2] w fun e w' => e = .returned (.bool true) ∧ Below w.heap.size w w' := by
  have HN : Hid (es.length = n) := hn
  have HP : Hid (∀ e ∈ es, e.posts.length ≤ 140737488355328) := hp
  clear hn hp
  go_enter Try.func28, Try.ntmps28
  go_wp2_with fail
  go_loopw [5] (fun i wr => ∃ k : Nat, k ≤ n ∧ i = .int .i64 (k : Int) ∧ Below w.heap.size w wr) (fun i _ => n - (intOf i).toNat)
  case atStart => exact ⟨0, by omega, rfl, Below.refl _ _⟩
  case round =>
    obtain ⟨k, hk, rfl, hbel⟩ := hrel
    by_cases hlt : k < n
    · have hka : k < es.length := by rw [HN.out]; exact hlt
      obtain ⟨b1, off1, e1, hb1, hm1, aq1, cq1, hc1, hp1⟩ := h1.cell (k := k) hka
      obtain ⟨b2, off2, e2, hb2, hm2, aq2, cq2, hc2, hp2⟩ := h2.cell (k := k) hka
      subst e1
      subst e2
      have hlp := HP.out es[k] (List.getElem_mem _)
      obtain ⟨mm, pp, hmp⟩ : ∃ mm pp, es[k] = ⟨mm, pp⟩ := ⟨_, _, rfl⟩
      rw [hmp] at hm1 hc1 hp1 hm2 hc2 hp2 hlp
      simp only at hm1 hc1 hp1 hm2 hc2 hp2 hlp
      obtain ⟨np, hnp⟩ : ∃ np, pp.length = np := ⟨_, rfl⟩
      rw [hnp] at hc1 hc2 hlp
      have HNP : Hid (pp.length = np) := hnp
      have hm1' := (hbel.cell (p := ⟨b1, off1 + k * 2, none⟩) hb1).trans hm1
      have hm2' := (hbel.cell (p := ⟨b2, off2 + k * 2, none⟩) hb2).trans hm2
      have hc1' := (hbel.cell (p := ⟨b1, off1 + k * 2 + 1, none⟩) hb1).trans hc1
      have hc2' := (hbel.cell (p := ⟨b2, off2 + k * 2 + 1, none⟩) hb2).trans hc2
      have i1 : (0 : Int) ≤ (k : Int) := by omega
      have i2 : (k : Int) < (n : Int) := by omega
      clear hmp hnp
      obtain ⟨wz, ewz⟩ : ∃ z : World, z = wr := ⟨_, rfl⟩
      subst ewz
      go_wp2_with fail
      go_quiet (fail)
      go_wp2_with fail
      go_loopw [6] (fun i wr => ∃ q : Nat, q ≤ np ∧ i = .int .i64 (q : Int) ∧ Below w.heap.size w wr) (fun i _ => np - (intOf i).toNat)
      case atStart => exact ⟨0, by omega, rfl, below_drewN hbel _⟩
      case round =>
        obtain ⟨q, hq, rfl, hbe⟩ := hrel
        have hd1 := (hbe.cell (p := ⟨b1, off1 + k * 2 + 1, none⟩) hb1).trans hc1
        have hd2 := (hbe.cell (p := ⟨b2, off2 + k * 2 + 1, none⟩) hb2).trans hc2
        by_cases hlq : q < np
        · have hqa : q < pp.length := by rw [HNP.out]; exact hlq
          obtain ⟨x1, o1, e1, _, ha1, hn1⟩ := (hp1.below hbe).cell (k := q) hqa
          obtain ⟨x2, o2, e2, _, ha2, hn2⟩ := (hp2.below hbe).cell (k := q) hqa
          subst e1
          subst e2
          generalize pp[q].acct = a at *
          generalize pp[q].amt = m at *
          have i3 : (0 : Int) ≤ (q : Int) := by omega
          have i4 : (q : Int) < (np : Int) := by omega
          clear hm1' hm2' hc1' hc2' hp1 hp2
          go_wp2_with fail
          go_quiet (fail)
          go_wp2_with fail
          go_roundw
          case rel => exact ⟨q + 1, by omega, by go_num, below_drewN hbe _⟩
          case measure => simp [intOf]; omega
        · clear hm1' hm2' hc1' hc2'
          go_wp2_with fail
          go_roundw
          case rel => exact ⟨k + 1, by omega, by go_num, hbe⟩
          case measure => simp [intOf]; omega
    · go_wp2_with fail
      go_ret
      exact ⟨rfl, hbel⟩
end Go.Proofs.Ytoadiibfmcjgaaa

/-
  THE WALK of signetlaw.sameHistory, of two histories that are the same.
-/
namespace Go.Proofs.Ytoadiibfmcjgaaa
open Go.RowKit
set_option maxRecDepth 100000
attribute [local go_sem ↓] Go.wp_at_zero Go.wp_at_succ

set_option maxHeartbeats 6400000 in
theorem lawSame_any (h : Sg.Hist) (aoA aoP aoB aoQ : Option Addr) (nA nP capA capP capB capQ : Nat) (w : World) (h1 : HistIn w aoA aoP nA nP h) (h2 : HistIn w aoB aoQ nA nP h) (hnA : nA ≤ 140737488355328) (hnP : nP ≤ 140737488355328) :
    Calls Try.prog 31 #[.agg #[.slice aoA nA capA, .slice aoP nP capP], .agg #[.slice aoB nA capB, .slice aoQ nP capQ]] w fun e w' => e = .returned (.bool true) ∧ Below w.heap.size w w' := by
  have hb0 : Below w.heap.size w ((w.alloc (.cells #[.slice aoA nA capA, .slice aoP nP capP] 41)).alloc (.cells #[.slice aoB nA capB, .slice aoQ nP capQ] 41)) := ((Below.refl _ _).alloc (Nat.le_refl _) _).alloc (by simp) _
  have hT1 : Two ((w.alloc (.cells #[.slice aoA nA capA, .slice aoP nP capP] 41)).alloc (.cells #[.slice aoB nA capB, .slice aoQ nP capQ] 41)) w.heap.size (.slice aoA nA capA) (.slice aoP nP capP) 41 := (Two.new w _ _ _).below ((Below.refl _ _).alloc (Nat.le_refl _) _)
  have hT2 : Two ((w.alloc (.cells #[.slice aoA nA capA, .slice aoP nP capP] 41)).alloc (.cells #[.slice aoB nA capB, .slice aoQ nP capQ] 41)) (w.heap.size + 1) (.slice aoB nA capB) (.slice aoQ nP capQ) 41 := by
    have e := Two.new (w.alloc (.cells #[.slice aoA nA capA, .slice aoP nP capP] 41)) (.slice aoB nA capB) (.slice aoQ nP capQ) 41
    rw [show (w.alloc (.cells #[.slice aoA nA capA, .slice aoP nP capP] 41)).heap.size = w.heap.size + 1 by simp] at e
    exact e
  have k1 := h1.below hb0
  have k2 := h2.below hb0
  clear h1 h2
  go_enter Try.func31, Try.ntmps31
  go_wp2_with fail
  generalize (w.alloc (.cells #[.slice aoA nA capA, .slice aoP nP capP] 41)).alloc (.cells #[.slice aoB nA capB, .slice aoQ nP capQ] 41) = W0 at *
  have HK1 : Hid (HistIn W0 aoA aoP nA nP h) := k1
  have HK2 : Hid (HistIn W0 aoB aoQ nA nP h) := k2
  clear k1 k2
  go_loopw [5] (fun i wr => ∃ k : Nat, k ≤ nA ∧ i = .int .i64 (k : Int) ∧ Below W0.heap.size W0 wr) (fun i _ => nA - (intOf i).toNat)
  case atStart => exact ⟨0, by omega, rfl, Below.refl _ _⟩
  case round =>
    obtain ⟨k, hk, rfl, hbel⟩ := hrel
    obtain ⟨wz, ewz⟩ : ∃ z : World, z = wr := ⟨_, rfl⟩
    subst ewz
    obtain ⟨s0, s1⟩ := (hT1.below hbel).cells
    obtain ⟨t0, t1⟩ := (hT2.below hbel).cells
    by_cases hlt : k < nA
    · have hka : k < h.accs.length := by rw [HK1.out.lenA]; exact hlt
      obtain ⟨b1, o1, e1, _, x1, y1⟩ := (HK1.out.accs.below hbel).cell (k := k) hka
      obtain ⟨b2, o2, e2, _, x2, y2⟩ := (HK2.out.accs.below hbel).cell (k := k) hka
      subst e1
      subst e2
      generalize h.accs[k].name = nm at *
      generalize h.accs[k].line = ln at *
      have i1 : (0 : Int) ≤ (k : Int) := by omega
      have i2 : (k : Int) < (nA : Int) := by omega
      go_wp2_with fail
      go_quiet (fail)
      go_wp2_with fail
      go_roundw
      case rel => exact ⟨k + 1, by omega, by go_num, below_drewN hbel _⟩
      case measure => simp [intOf]; omega
    · have i2 : ¬ (k : Int) < (nA : Int) := by omega
      go_wp2_with fail
      go_loopw [6] (fun i wr => ∃ q : Nat, q ≤ nP ∧ i = .int .i64 (q : Int) ∧ Below W0.heap.size W0 wr) (fun i _ => nP - (intOf i).toNat)
      case atStart => exact ⟨0, by omega, rfl, hbel⟩
      case round =>
        clear s0 s1 t0 t1 hbel
        obtain ⟨q, hq, rfl, hbe⟩ := hrel
        obtain ⟨wy, ewy⟩ : ∃ z : World, z = wr := ⟨_, rfl⟩
        subst ewy
        obtain ⟨s0, s1⟩ := (hT1.below hbe).cells
        obtain ⟨t0, t1⟩ := (hT2.below hbe).cells
        by_cases hlq : q < nP
        · have hqa : q < h.pers.length := by rw [HK1.out.lenP]; exact hlq
          obtain ⟨b1, o1, e1, _, a1, c1, x1, hE1⟩ := (HK1.out.pers.below hbe).cell (k := q) hqa
          obtain ⟨b2, o2, e2, _, a2, c2, x2, hE2⟩ := (HK2.out.pers.below hbe).cell (k := q) hqa
          subst e1
          subst e2
          have hsz := HK1.out.sizP _ (List.getElem_mem hqa)
          obtain ⟨es, hes⟩ : ∃ es, h.pers[q] = es := ⟨_, rfl⟩
          rw [hes] at x1 x2 hE1 hE2 hsz
          clear hes
          obtain ⟨n, hn⟩ : ∃ n, es.length = n := ⟨_, rfl⟩
          rw [hn] at x1 x2 hsz
          have hcall := fun W (hb : Below wy.heap.size wy W) => sameEnts_any es a1 a2 n c1 c2 W hn hsz.1 (hE1.below hb) (hE2.below hb) (fun e he => (hsz.2 e he).2)
          have i1 : (0 : Int) ≤ (q : Int) := by omega
          have i3 : (q : Int) < (nP : Int) := by omega
          clear hE1 hE2 hsz hn
          go_wp2_with fail
          go_region_law (rw [if_pos (by simp [Region.wanted])]; go_simp; go_at_call 28; refine (hcall _ (by first | exact Below.refl _ _ | exact (Below.refl _ _).drew)).mono ?_; rintro e w7 ⟨rfl, hb7⟩)
          all_goals
            have hbn : Below W0.heap.size W0 w7 := (by first | exact hbe.drew.trans (hb7.mono hbe.size) | exact hbe.trans (hb7.mono hbe.size))
            go_wp2_with fail
            go_roundw
            case rel => exact ⟨q + 1, by omega, by go_num, hbn⟩
            case measure => simp [intOf]; omega
        · have i3 : ¬ (q : Int) < (nP : Int) := by omega
          go_wp2_with fail
          go_ret
          exact ⟨rfl, hb0.trans (hbe.mono hb0.size)⟩
end Go.Proofs.Ytoadiibfmcjgaaa
