import Derived.Test.YtpkkhkkkgjhkeaaGreatRefSeal
/-
  THE WALKS of signetlaw.sameEntries.
-/
namespace Go.Proofs.YtpkkhkkkgjhkeaaGreat
open Go.RowKit
set_option maxRecDepth 100000
attribute [local go_sem ↓] Go.wp_at_zero Go.wp_at_succ

set_option maxHeartbeats 3200000 in
/-- signetlaw.sameEntries of two lists that are the same. -/
theorem sameEnts_any (es : List Sg.Ent) (ao1 ao2 : Option Addr) (n cap1 cap2 : Nat) (w : World) (hn : es.length = n) (hmax : n ≤ 140737488355328) (h1 : EntsIn w ao1 es) (h2 : EntsIn w ao2 es) (hp : ∀ e ∈ es, e.posts.length ≤ 140737488355328) :
    Calls Tryz.prog 24 #[.slice ao1 n cap1, .slice ao2 n cap2] w fun e w' => e = .returned (.bool true) ∧ Below w.heap.size w w' := by
  have HN : Hid (es.length = n) := hn
  have HP : Hid (∀ e ∈ es, e.posts.length ≤ 140737488355328) := hp
  clear hn hp
  go_enter Tryz.func24, Tryz.ntmps24
  go_wp2_with fail
  go_loopw [5] (fun i wr => ∃ k : Nat, k ≤ n ∧ i = .int .i64 (k : Int) ∧ Below w.heap.size w wr) (fun i _ => n - (intOf i).toNat)
  case atStart => exact ⟨0, by omega, rfl, Below.refl _ _⟩
  case round =>
    obtain ⟨k, hk, rfl, hbel⟩ := hrel
    by_cases hlt : k < n
    · have hka : k < es.length := by rw [HN.out]; exact hlt
      obtain ⟨b1, off1, e1, hb1, hm1, aq1, cq1, hc1, hp1⟩ := h1.cell (k := k) hka
      obtain ⟨b2, off2, e2, hb2, hm2, aq2, cq2, hc2, hp2⟩ := h2.cell (k := k) hka
      subst e1
      subst e2
      have hlp := HP.out es[k] (List.getElem_mem _)
      obtain ⟨mm, pp, hmp⟩ : ∃ mm pp, es[k] = ⟨mm, pp⟩ := ⟨_, _, rfl⟩
      rw [hmp] at hm1 hc1 hp1 hm2 hc2 hp2 hlp
      simp only at hm1 hc1 hp1 hm2 hc2 hp2 hlp
      obtain ⟨np, hnp⟩ : ∃ np, pp.length = np := ⟨_, rfl⟩
      rw [hnp] at hc1 hc2 hlp
      have HNP : Hid (pp.length = np) := hnp
      have hm1' := (hbel.cell (p := ⟨b1, off1 + k * 2, none⟩) hb1).trans hm1
      have hm2' := (hbel.cell (p := ⟨b2, off2 + k * 2, none⟩) hb2).trans hm2
      have hc1' := (hbel.cell (p := ⟨b1, off1 + k * 2 + 1, none⟩) hb1).trans hc1
      have hc2' := (hbel.cell (p := ⟨b2, off2 + k * 2 + 1, none⟩) hb2).trans hc2
      have i1 : (0 : Int) ≤ (k : Int) := by omega
      have i2 : (k : Int) < (n : Int) := by omega
      clear hmp hnp
      obtain ⟨wz, ewz⟩ : ∃ z : World, z = wr := ⟨_, rfl⟩
      subst ewz
      go_wp2_with fail
      go_quiet (fail)
      go_wp2_with fail
      go_loopw [6] (fun i wr => ∃ q : Nat, q ≤ np ∧ i = .int .i64 (q : Int) ∧ Below w.heap.size w wr) (fun i _ => np - (intOf i).toNat)
      case atStart => exact ⟨0, by omega, rfl, below_drewN hbel _⟩
      case round =>
        obtain ⟨q, hq, rfl, hbe⟩ := hrel
        have hd1 := (hbe.cell (p := ⟨b1, off1 + k * 2 + 1, none⟩) hb1).trans hc1
        have hd2 := (hbe.cell (p := ⟨b2, off2 + k * 2 + 1, none⟩) hb2).trans hc2
        by_cases hlq : q < np
        · have hqa : q < pp.length := by rw [HNP.out]; exact hlq
          obtain ⟨x1, o1, e1, _, ha1, hn1⟩ := (hp1.below hbe).cell (k := q) hqa
          obtain ⟨x2, o2, e2, _, ha2, hn2⟩ := (hp2.below hbe).cell (k := q) hqa
          subst e1
          subst e2
          generalize pp[q].acct = a at *
          generalize pp[q].amt = m at *
          have i3 : (0 : Int) ≤ (q : Int) := by omega
          have i4 : (q : Int) < (np : Int) := by omega
          clear hm1' hm2' hc1' hc2' hp1 hp2
          go_wp2_with fail
          go_quiet (fail)
          go_wp2_with fail
          go_roundw
          case rel => exact ⟨q + 1, by omega, by go_num, below_drewN hbe _⟩
          case measure => simp [intOf]; omega
        · clear hm1' hm2' hc1' hc2'
          go_wp2_with fail
          go_roundw
          case rel => exact ⟨k + 1, by omega, by go_num, hbe⟩
          case measure => simp [intOf]; omega
    · go_wp2_with fail
      go_ret
      exact ⟨rfl, hbel⟩
end Go.Proofs.YtpkkhkkkgjhkeaaGreat
