/-
  THE WALKS of book.drillText, leafText, Period.Drills.
-/
import Derived.Test.YtoadiibfmcjgaaaPerText
import Derived.Test.YtoadiibfmcjgaaaBdrills
import Derived.Test.YtoadiibfmcjgaaaBroot
namespace Go.Proofs.Ytoadiibfmcjgaaa
open Go.RowKit Go.Maps
set_option maxRecDepth 100000
attribute [local go_sem ↓] Go.wp_at_zero Go.wp_at_succ

theorem perBox_facts {w wr : World} {a e m c3 c4 c5 c6 c7 c8 c9 c10 : Value} (h : Below (w.heap.size + 1) (w.alloc (.cells #[a, e, m, c3, c4, c5, c6, c7, c8, c9, c10] 116)) wr) :
    wr.cell? ⟨w.heap.size, 0, none⟩ = some a ∧ wr.cell? ⟨w.heap.size, 1, none⟩ = some e ∧ Below w.heap.size w wr ∧ w.heap.size + 1 ≤ wr.heap.size :=
  ⟨(h.cell (p := ⟨w.heap.size, 0, none⟩) (by simp)).trans (by simp), (h.cell (p := ⟨w.heap.size, 1, none⟩) (by simp)).trans (by simp), ((Below.refl _ _).alloc (Nat.le_refl _) _).trans (h.mono (by omega)), by have := h.size; simpa using this⟩

set_option maxHeartbeats 6400000 in
/-- Period.Drills. -/
theorem perDrills_any (ac : List Sg.Acc) (es : List Sg.Ent) (line : Int) (aoA aoE : Option Addr) (nA capA ne capE : Nat) (mV c3 c4 c5 c6 c7 c8 c9 c10 : Value) (w : World) (hA : AccsIn w aoA ac) (hnA : ac.length = nA) (hE : EntsIn w aoE es) (hne : es.length = ne)
    (_hsm : nA ≤ 8) (hes : ne ≤ 12) (hent : ∀ e ∈ es, e.posts.length ≤ 6 ∧ ∀ t ∈ e.posts, 0 ≤ t.acct ∧ t.acct < (nA : Int) ∧ Sg.fits t.amt = true) :
    Calls Try.prog 126 #[.agg #[.slice aoA nA capA, .slice aoE ne capE, mV, c3, c4, c5, c6, c7, c8, c9, c10], .int .i64 line] w fun e w' => ∃ v, e = .returned v ∧ OwnDrls w' (w.heap.size + 1) v (Sg.drillsOf ac es line) ∧ Below w.heap.size w w' := by
  obtain ⟨j0, ji, jz0, jz1, jz2⟩ := info_parts Try.infoDrl
  have HNA : Hid (ac.length = nA) := hnA
  have HD : Hid (Sg.drillsOf ac es line = Sg.drillsFrom ac line 0 es) := rfl
  have HNE : Hid (es.length = ne) := hne
  have HENT : Hid (∀ e ∈ es, e.posts.length ≤ 6 ∧ ∀ t ∈ e.posts, 0 ≤ t.acct ∧ t.acct < (nA : Int) ∧ Sg.fits t.amt = true) := hent
  clear hnA hne hent
  go_enter Try.func126, Try.ntmps126
  go_wp2_with fail
  go_loopw [5, 13] (fun o i wr => ∃ k : Nat, k ≤ ne ∧ i = .int .i64 (k : Int) ∧ OwnDrls wr (w.heap.size + 1) o (Sg.drillsFrom ac line 0 (es.take k)) ∧ Below (w.heap.size + 1) (w.alloc (.cells #[.slice aoA nA capA, .slice aoE ne capE, mV, c3, c4, c5, c6, c7, c8, c9, c10] 116)) wr) (fun _ i _ => ne - (intOf i).toNat)
  case atStart => exact ⟨0, by omega, rfl, World.ownsRow_nil _ _ _ _, Below.refl _ _⟩
  case round =>
    obtain ⟨k, hk, rfl, hown, hbel⟩ := hrel
    by_cases hlt : k < ne
    · have hka : k < es.length := by rw [HNE.out]; exact hlt
      obtain ⟨hp6, hpt⟩ := HENT.out es[k] (List.getElem_mem _)
      have HZ : Hid (Sg.drTo ac line es k 0 es[k].posts = Sg.drillsFrom ac line 0 (es.take k)) := Sg.drTo_zero ac line es k es[k].posts
      have HX : Hid (Sg.drTo ac line es k es[k].posts.length es[k].posts = Sg.drillsFrom ac line 0 (es.take (k + 1))) := Sg.drTo_next ac line es k hka
      obtain ⟨_, _, hbw1, hsz1⟩ := perBox_facts hbel
      obtain ⟨bE, offE, hao, hbE, hcM, aoQ, capQ, hcQ, hPs⟩ := hE.cell (k := k) hka
      subst hao
      have HLen : Hid ((Sg.drillsFrom ac line 0 (es.take k)).length ≤ 72) := by
        have := Sg.drillsFrom_len ac line (es.take k) 0 (fun e he => (HENT.out e (List.mem_of_mem_take he)).1)
        simp at this
        show _ ≤ _
        omega
      generalize es[k].posts = ps at *
      obtain ⟨np, hnp⟩ : ∃ np, ps.length = np := ⟨_, rfl⟩
      rw [hnp] at hcQ hp6 HX
      have HNP : Hid (ps.length = np) := hnp
      have HPT : Hid (∀ t ∈ ps, 0 ≤ t.acct ∧ t.acct < (nA : Int) ∧ Sg.fits t.amt = true) := hpt
      have hcQ1 := (hbw1.cell (p := ⟨bE, offE + k * 2 + 1, none⟩) hbE).trans hcQ
      have hcM1 := (hbw1.cell (p := ⟨bE, offE + k * 2, none⟩) hbE).trans hcM
      generalize es[k].memo = mm at *
      have HO1 : Hid (OwnDrls (wr.alloc (.cells #[.string mm, .slice aoQ np capQ] 55)) (w.heap.size + 1) u5 (Sg.drTo ac line es k 0 ps)) := by rw [HZ.out]; exact World.ownsRow.alloc hown _
      have hbel1 := hbel.alloc (by omega) (.cells #[.string mm, .slice aoQ np capQ] 55)
      have i1 : (0 : Int) ≤ (k : Int) := by omega
      have i2 : (k : Int) < (ne : Int) := by omega
      clear hnp hpt HZ
      go_wp2_with fail
      go_loopw [5, 21] (fun o j wr => ∃ r : Nat, r ≤ np ∧ j = .int .i64 (r : Int) ∧ OwnDrls wr (w.heap.size + 1) o (Sg.drTo ac line es k r ps) ∧ Below (w.heap.size + 1) (w.alloc (.cells #[.slice aoA nA capA, .slice (some ⟨bE, offE, none⟩) ne capE, mV, c3, c4, c5, c6, c7, c8, c9, c10] 116)) wr) (fun _ j _ => np - (intOf j).toNat)
      case atStart => exact ⟨0, by omega, rfl, HO1.out, hbel1⟩
      case round =>
        obtain ⟨r, hr, rfl, hown2, hbel2⟩ := hrel
        obtain ⟨hx0, _, hbw2, hsz2⟩ := perBox_facts hbel2
        have hltb : w.heap.size < wr.heap.size := by omega
        by_cases hlr : r < np
        · have hra : r < ps.length := by rw [HNP.out]; exact hlr
          obtain ⟨bP, offP, hao, hbP, hc0, hc1⟩ := (hPs.below hbw2).cell (k := r) hra
          subst hao
          obtain ⟨ha0, ha1, hfm⟩ := HPT.out ps[r] (List.getElem_mem _)
          have HS : Hid (Sg.drTo ac line es k (r + 1) ps = Sg.drTo ac line es k r ps ++ (if Sg.lineOf ac ps[r].acct = line then [⟨k, r, ps[r].acct, ps[r].amt⟩] else [])) := Sg.drTo_succ ac line es k r ps hra
          have hfm' : -9223372036854775808 ≤ ps[r].amt ∧ ps[r].amt ≤ 9223372036854775807 := of_decide_eq_true hfm
          have HLn : Hid ((Sg.drTo ac line es k r ps).length ≤ 100) := by
            show _ ≤ _
            unfold Sg.drTo
            rw [List.length_append]
            have h1 := HLen.out
            have h2 := Sg.drillsIn_len ac line k (ps.take r) 0
            simp at h2
            omega
          generalize ps[r].acct = a at *
          generalize ps[r].amt = m at *
          obtain ⟨ai, rfl⟩ := Int.eq_ofNat_of_zero_le ha0
          have haa : ai < ac.length := by rw [HNA.out]; omega
          obtain ⟨bA, offA, hao, hbA, _, hcl⟩ := (hA.below hbw2).cell (k := ai) haa
          subst hao
          rw [Sg.lineOf_get haa] at HS
          generalize ac[ai].line = lx at *
          generalize Sg.drTo ac line es k r ps = ds at *
          have i3 : (0 : Int) ≤ (r : Int) := by omega
          have i4 : (r : Int) < (np : Int) := by omega
          have i5 : (ai : Int) < (nA : Int) := by omega
          clear hfm hA
          by_cases hel : lx = line
          · have helb : (lx == line) = true := by simp [hel]
            have HS2 : Hid (Sg.drTo ac line es k (r + 1) ps = ds ++ [⟨k, r, (ai : Int), m⟩]) := by show _ = _; rw [HS.out, if_pos hel]
            have hownU := hown2
            unfold OwnDrls at hownU
            have hln := HLn.out
            clear hel HS
            go_wp2_with (at_builtin; refine wpList_append_own _ rfl _ _ 167 rfl (w.heap.size + 1) 179 j0 (.agg #[.int .i64 0, .int .i64 0, .int .i64 0, .int .i64 0]) 4 32 Try.underlying167 ji jz0 jz1 jz2 rfl (by decide) _ _ _ rfl ((hownU.alloc _).alloc _) ⟨wr.heap.size + 1, 0, none⟩ 1 1 [.int .i64 (k : Int), .int .i64 (r : Int), .int .i64 (ai : Int), .int .i64 m] rfl rfl ?c1 ?c2 ?c3 ?c4 ?c5 ?_)
            case c1 => exact four_new _ _ _ _ _ _ _
            case c2 => intro u hu; simp at hu; rcases hu with rfl | rfl | rfl | rfl <;> rfl
            case c3 => unfold maxLen; omega
            case c4 => omega
            case c5 => simp; omega
            intro v' w4 hown' hgrow _
            have hbP3 := hbel2.alloc (by omega) (.cells #[.int .i64 (ai : Int), .int .i64 m] 90)
            have hb4 := below_pushN (by simp; omega) (hownU.alloc (.cells #[.int .i64 (ai : Int), .int .i64 m] 90)) hbP3 hgrow
            have HO4 : Hid (OwnDrls w4 (w.heap.size + 1) v' (Sg.drTo ac line es k (r + 1) ps)) := by
              show OwnDrls _ _ _ _
              rw [HS2.out]
              unfold OwnDrls
              rw [drlCells_snoc, List.length_append]
              exact hown'
            clear hgrow hown' hown2 hownU hbP3 HS2
            go_wp2_with fail
            go_roundw
            case rel => exact ⟨r + 1, by omega, by go_num, HO4.out, hb4⟩
            case measure => simp [intOf]; omega
          · have helb : (lx == line) = false := by simp [hel]
            have HS2 : Hid (Sg.drTo ac line es k (r + 1) ps = ds) := by show _ = _; rw [HS.out, if_neg hel]; simp
            have hb3 := hbel2.alloc (by omega) (.cells #[.int .i64 (ai : Int), .int .i64 m] 90)
            have ho3 := World.ownsRow.alloc hown2 (.cells #[.int .i64 (ai : Int), .int .i64 m] 90)
            have HO3 : Hid (OwnDrls (wr.alloc (.cells #[.int .i64 (ai : Int), .int .i64 m] 90)) (w.heap.size + 1) u5 ds) := ho3
            clear hel HS ho3
            go_wp2_with fail
            go_roundw
            case rel => exact ⟨r + 1, by omega, by go_num, by rw [HS2.out]; exact HO3.out, hb3⟩
            case measure => simp [intOf]; omega
        · have hrn : r = np := by omega
          rw [hrn, HX.out] at hown2
          go_wp2_with fail
          go_roundw
          case rel => exact ⟨k + 1, by omega, by go_num, hown2, hbel2⟩
          case measure => simp [intOf]; omega
    · have hkn : k = es.length := by rw [HNE.out]; omega
      rw [hkn, List.take_length] at hown
      go_wp2_with fail
      go_ret
      obtain ⟨_, _, hbw1, hsz1⟩ := perBox_facts hbel
      exact ⟨_, rfl, by rw [HD.out]; exact hown, hbw1⟩
end Go.Proofs.Ytoadiibfmcjgaaa
