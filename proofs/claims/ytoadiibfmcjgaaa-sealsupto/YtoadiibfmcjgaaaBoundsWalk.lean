/-
  THE WALK of signetref.Bounds.
-/
import Derived.Test.YtoadiibfmcjgaaaBounds
namespace Go.Proofs.Ytoadiibfmcjgaaa
open Go.RowKit
set_option maxRecDepth 100000

theorem txt_inj2 {x y : ByteArray} (h : x.toList = y.toList) : x = y := by
  rw [ByteArray.toList_eq, ByteArray.toList_eq] at h
  exact Go.WideShapes.bytes_inj h

theorem past_drewN {w W : World} {x y : Value} (h : W.cell? ⟨w.heap.size, 0, none⟩ = some x ∧ W.cell? ⟨w.heap.size, 1, none⟩ = some y ∧ Past w W) (q : Nat) :
    (W.drewN q).cell? ⟨w.heap.size, 0, none⟩ = some x ∧ (W.drewN q).cell? ⟨w.heap.size, 1, none⟩ = some y ∧ Past w (W.drewN q) :=
  ⟨by simpa using h.1, by simpa using h.2.1, by simpa using h.2.2.1, below_drewN h.2.2.2 q⟩

set_option maxHeartbeats 400000 in
/-- Bounds, where a number of lists is beyond its bounds. -/
theorem bounds_nums (h : Sg.Hist) (ao aoP : Option Addr) (n cap nP capP : Nat) (w : World) (hn : h.accs.length = n) (hp : h.pers.length = nP) (hb : ¬ (1 ≤ n ∧ n ≤ 8 ∧ 1 ≤ nP ∧ nP ≤ 6)) :
    Calls Try.prog 74 #[.agg #[.slice ao n cap, .slice aoP nP capP]] w fun e w' => e = .returned (.bool (Sg.inBounds h)) ∧ Below w.heap.size w w' := by
  have HF : Hid (Sg.inBounds h = false) := Sg.inBounds_nums (by rw [hn, hp]; exact hb)
  clear hn hp
  rw [HF.out]
  clear HF
  by_cases g1 : (n : Int) < 1
  · clear hb
    go_enter Try.func74, Try.ntmps74
    go_wp2_with fail
    go_ret
    exact ⟨rfl, (Below.refl _ _).alloc (Nat.le_refl _) _⟩
  by_cases g2 : 8 < (n : Int)
  · clear hb
    go_enter Try.func74, Try.ntmps74
    go_wp2_with fail
    go_ret
    exact ⟨rfl, (Below.refl _ _).alloc (Nat.le_refl _) _⟩
  by_cases g3 : (nP : Int) < 1
  · clear hb
    go_enter Try.func74, Try.ntmps74
    go_wp2_with fail
    go_ret
    exact ⟨rfl, (Below.refl _ _).alloc (Nat.le_refl _) _⟩
  have g4 : 6 < (nP : Int) := by omega
  clear hb
  go_enter Try.func74, Try.ntmps74
  go_wp2_with fail
  go_ret
  exact ⟨rfl, (Below.refl _ _).alloc (Nat.le_refl _) _⟩

set_option maxHeartbeats 6400000 in
/-- Bounds, else. -/
theorem bounds_rest (h : Sg.Hist) (ao aoP : Option Addr) (n cap nP capP : Nat) (w : World) (hn : h.accs.length = n) (hp : h.pers.length = nP) (g1 : 1 ≤ n) (g2 : n ≤ 8) (g3 : 1 ≤ nP) (g4 : nP ≤ 6) (hA : AccsIn w ao h.accs) (hP : PersIn w aoP h.pers)
    (hsA : ∀ a ∈ h.accs, a.name.size ≤ 140737488355328 ∧ Sg.fits a.line = true) (hsP : ∀ p ∈ h.pers, p.length ≤ 140737488355328 ∧ ∀ e ∈ p, e.memo.size ≤ 140737488355328 ∧ e.posts.length ≤ 140737488355328) :
    Calls Try.prog 74 #[.agg #[.slice ao n cap, .slice aoP nP capP]] w fun e w' => e = .returned (.bool (Sg.inBounds h)) ∧ Below w.heap.size w w' := by
  have HN : Hid (h.accs.length = n) := hn
  have HP : Hid (h.pers.length = nP) := hp
  clear hn hp
  have k1 : ¬ (n : Int) < 1 := by omega
  have k2 : ¬ 8 < (n : Int) := by omega
  have k3 : ¬ (nP : Int) < 1 := by omega
  have k4 : ¬ 6 < (nP : Int) := by omega
  go_enter Try.func74, Try.ntmps74
  go_wp2_with fail
  go_loopw [3] (fun i wr => ∃ k : Nat, k ≤ n ∧ i = .int .i64 (k : Int) ∧ Hid (Sg.accsTo h.accs k) ∧ (wr.cell? ⟨w.heap.size, 0, none⟩ = some (.slice ao n cap) ∧ wr.cell? ⟨w.heap.size, 1, none⟩ = some (.slice aoP nP capP) ∧ Past w wr)) (fun i _ => n - (intOf i).toNat)
  case atStart => exact ⟨0, by omega, rfl, fun i _ hi => by omega, past_new⟩
  case round =>
    obtain ⟨k, hk, rfl, HT, hpr⟩ := hrel
    have hb0 := hpr.1
    have hb1 := hpr.2.1
    by_cases hlt : k < n
    · have hka : k < h.accs.length := by rw [HN.out]; exact hlt
      obtain ⟨b, off, hao, hbw, hc0, hc1⟩ := (hA.below hpr.2.2.below).cell (k := k) hka
      subst hao
      obtain ⟨hx1, hx2⟩ := hsA h.accs[k] (List.getElem_mem _)
      have HBad : Hid (Sg.accOk h.accs[k] = false → Sg.inBounds h = false) := fun e => Sg.inBounds_accs (Sg.accsTo_bad hka (Or.inl e))
      have HTwo : Hid (∀ j (hj : j < h.accs.length), j < k → h.accs[j].name = h.accs[k].name → Sg.inBounds h = false) := fun j hj hjk e => Sg.inBounds_accs (Sg.accsTo_bad hka (Or.inr ⟨j, hj, hjk, e⟩))
      have HGo : Hid (Sg.accOk h.accs[k] = true → (∀ j (hj : j < h.accs.length), j < k → h.accs[j].name ≠ h.accs[k].name) → Sg.accsTo h.accs (k + 1)) := fun e1 e2 => Sg.accsTo_succ hka HT.out e1 e2
      obtain ⟨x, ln, hax⟩ : ∃ x ln, h.accs[k] = ⟨x, ln⟩ := ⟨h.accs[k].name, h.accs[k].line, rfl⟩
      rw [hax] at hc0 hc1 hx1 hx2 HBad HTwo HGo
      simp only at hc0 hc1 hx1
      have hfl : -9223372036854775808 ≤ ln ∧ ln ≤ 9223372036854775807 := of_decide_eq_true hx2
      clear hax hx2
      by_cases ok : 1 ≤ x.size ∧ x.size ≤ 12 ∧ 0 ≤ ln ∧ ln ≤ 3
      · have o1 : ¬ (x.size : Int) < 1 := by omega
        have o2 : ¬ 12 < (x.size : Int) := by omega
        have o3 : ¬ ln < 0 := by omega
        have o4 : ¬ 3 < ln := by omega
        have HOk : Hid (Sg.accOk ⟨x, ln⟩ = true) := decide_eq_true ok
        clear HBad ok
        have hpw := past_new (w := wr) (x := .string x) (y := .int .i64 ln) (t := 43)
        have hAr := hA.below hpr.2.2.below
        clear hA hP hsA hsP
        go_wp2_with fail
        go_loopw [5] (fun i wx => ∃ j : Nat, j ≤ k ∧ i = .int .i64 (j : Int) ∧ Hid (∀ j' (hj : j' < h.accs.length), j' < j → h.accs[j'].name ≠ x) ∧ (wx.cell? ⟨wr.heap.size, 0, none⟩ = some (.string x) ∧ wx.cell? ⟨wr.heap.size, 1, none⟩ = some (.int .i64 ln) ∧ Past wr wx)) (fun i _ => k - (intOf i).toNat)
        case atStart => exact ⟨0, by omega, rfl, fun j' _ hj => by omega, hpw⟩
        case round =>
          obtain ⟨j, hj, rfl, HJ, hpx⟩ := hrel
          have hbx0 := (hpx.2.2.below.cell (p := ⟨w.heap.size, 0, none⟩) (by simpa using hpr.2.2.1)).trans hb0
          have hx0 := hpx.1
          by_cases hjl : j < k
          · have hja : j < h.accs.length := by omega
            obtain ⟨b', off', hao', hbw', hd0, _⟩ := (hAr.below hpx.2.2.below).cell (k := j) hja
            simp only [Option.some.injEq, Addr.mk.injEq, and_true] at hao'
            obtain ⟨rfl, rfl⟩ := hao'
            have HT2 : Hid (h.accs[j].name = x → Sg.inBounds h = false) := HTwo.out j hja hjl
            have HJ2 : Hid (h.accs[j].name ≠ x → ∀ j' (hj : j' < h.accs.length), j' < j + 1 → h.accs[j'].name ≠ x) := fun e j' hj' hlt' => by
              by_cases e' : j' = j
              · subst e'; exact e
              · exact HJ.out j' hj' (by omega)
            generalize h.accs[j].name = z at *
            have i1 : (0 : Int) ≤ (j : Int) := by omega
            have i2 : (j : Int) < (n : Int) := by omega
            have i3 : (j : Int) < (k : Int) := by omega
            by_cases ez : z.toList = x.toList
            · have HF : Hid (Sg.inBounds h = false) := HT2.out (txt_inj2 ez)
              have ezb : (z.toList == x.toList) = true := by simp [ez]
              go_wp2_with fail
              go_quiet (fail)
              go_wp2_with fail
              go_ret
              exact ⟨ret_bool' (by rw [HF.out]), below_drewN (hpr.2.2.below.trans (hpx.2.2.below.mono (by have := hpr.2.2.1; omega))) _⟩
            · have HF : Hid (∀ j' (hj : j' < h.accs.length), j' < j + 1 → h.accs[j'].name ≠ x) := HJ2.out (fun e => ez (by rw [e]))
              have ezb : (z.toList == x.toList) = false := by simp [ez]
              go_wp2_with fail
              go_quiet (fail)
              go_wp2_with fail
              go_roundw
              case rel => exact ⟨j + 1, by omega, by go_num, HF, past_drewN hpx _⟩
              case measure => simp [intOf]; omega
          · have HF : Hid (Sg.accsTo h.accs (k + 1)) := HGo.out HOk.out (fun j' hj' hlt' => HJ.out j' hj' (by omega))
            have hpr2 := past_call hpr hpx.2.2.below
            go_wp2_with fail
            go_roundw
            case rel => exact ⟨k + 1, by omega, by go_num, HF, hpr2⟩
            case measure => simp [intOf]; omega
      · have HF : Hid (Sg.inBounds h = false) := HBad.out (decide_eq_false ok)
        clear HBad HTwo HGo HT
        by_cases p1 : (x.size : Int) < 1
        · clear ok
          go_wp2_with fail
          go_ret
          exact ⟨ret_bool' (by rw [HF.out]), hpr.2.2.below.alloc (by have := hpr.2.2.1; omega) _⟩
        by_cases p2 : 12 < (x.size : Int)
        · clear ok
          go_wp2_with fail
          go_ret
          exact ⟨ret_bool' (by rw [HF.out]), hpr.2.2.below.alloc (by have := hpr.2.2.1; omega) _⟩
        by_cases p3 : ln < 0
        · clear ok
          go_wp2_with fail
          go_ret
          exact ⟨ret_bool' (by rw [HF.out]), hpr.2.2.below.alloc (by have := hpr.2.2.1; omega) _⟩
        have p4 : 3 < ln := by omega
        clear ok
        go_wp2_with fail
        go_ret
        exact ⟨ret_bool' (by rw [HF.out]), hpr.2.2.below.alloc (by have := hpr.2.2.1; omega) _⟩
    · have HAll : Hid (Sg.accsTo h.accs h.accs.length) := by
        have e : k = h.accs.length := by rw [HN.out]; omega
        have := HT.out
        rw [e] at this
        exact this
      have hPr := hP.below hpr.2.2.below
      have hbel := hpr.2.2.below
      clear hA hsA HT hpr hP
      go_wp2_with fail
      go_loop [6] (fun i => ∃ q : Nat, q ≤ nP ∧ i = .int .i64 (q : Int) ∧ Hid (Sg.persOkTo h.pers q)) (fun i => nP - (intOf i).toNat)
      case atStart => exact ⟨0, by omega, rfl, fun i _ hi => by omega⟩
      case round =>
        obtain ⟨q, hq, rfl, HQ⟩ := hrel
        by_cases hlq : q < nP
        · have hqa : q < h.pers.length := by rw [HP.out]; exact hlq
          obtain ⟨b, off, hao, _, ao2, cap2, hc, hE⟩ := hPr.cell (k := q) hqa
          subst hao
          obtain ⟨hx1, hx2⟩ := hsP h.pers[q] (List.getElem_mem _)
          have HBad : Hid (Sg.perOk h.pers[q] = false → Sg.inBounds h = false) := fun e => Sg.inBounds_pers (Sg.persOk_bad hqa e)
          have HGo : Hid (Sg.perOk h.pers[q] = true → Sg.persOkTo h.pers (q + 1)) := fun e i hi hiq => by
            by_cases e' : i = q
            · subst e'; exact e
            · exact HQ.out i hi (by omega)
          generalize h.pers[q] = es at *
          obtain ⟨ne, hne⟩ : ∃ ne, es.length = ne := ⟨_, rfl⟩
          rw [hne] at hc hx1
          have HNE : Hid (es.length = ne) := hne
          by_cases hb12 : ne ≤ 12
          · have hb12' : ¬ 12 < (ne : Int) := by omega
            have HGo2 : Hid (Sg.entsOkTo es ne → Sg.persOkTo h.pers (q + 1)) := fun e => HGo.out (Sg.perOk_all (by rw [hne]; exact e) (by omega))
            have HBad2 : Hid (∀ i (hi : i < es.length), Sg.entOk es[i] = false → Sg.inBounds h = false) := fun i hi e => HBad.out (Sg.perOk_bad hi e)
            clear HGo HBad hne
            go_wp2_with fail
            go_loop [8] (fun i => ∃ r : Nat, r ≤ ne ∧ i = .int .i64 (r : Int) ∧ Hid (Sg.entsOkTo es r)) (fun i => ne - (intOf i).toNat)
            case atStart => exact ⟨0, by omega, rfl, fun i _ hi => by omega⟩
            case round =>
              obtain ⟨r, hr, rfl, HR⟩ := hrel
              by_cases hlr : r < ne
              · have hra : r < es.length := by rw [HNE.out]; exact hlr
                obtain ⟨b3, off3, hao3, _, hm, ao4, cap4, hps, _⟩ := hE.cell (k := r) hra
                subst hao3
                obtain ⟨hy1, hy2⟩ := hx2 es[r] (List.getElem_mem _)
                have HBad3 : Hid (Sg.entOk es[r] = false → Sg.inBounds h = false) := HBad2.out r hra
                have HGo3 : Hid (Sg.entOk es[r] = true → Sg.entsOkTo es (r + 1)) := fun e i hi hir => by
                  by_cases e' : i = r
                  · subst e'; exact e
                  · exact HR.out i hi (by omega)
                obtain ⟨mm, pp, hmp⟩ : ∃ mm pp, es[r] = ⟨mm, pp⟩ := ⟨es[r].memo, es[r].posts, rfl⟩
                rw [hmp] at hm hps hy1 hy2 HBad3 HGo3
                simp only at hm hps hy1 hy2
                obtain ⟨np, hnp⟩ : ∃ np, pp.length = np := ⟨_, rfl⟩
                rw [hnp] at hps hy2
                have HEQ : Hid (Sg.entOk ⟨mm, pp⟩ = decide (mm.size ≤ 20 ∧ 1 ≤ np ∧ np ≤ 6)) := by show _ = _; unfold Sg.entOk; simp only; rw [hnp]
                clear hmp hnp
                by_cases ok : mm.size ≤ 20 ∧ 1 ≤ np ∧ np ≤ 6
                · have o1 : ¬ 20 < (mm.size : Int) := by omega
                  have o2 : ¬ (np : Int) < 1 := by omega
                  have o3 : ¬ 6 < (np : Int) := by omega
                  have HF : Hid (Sg.entsOkTo es (r + 1)) := HGo3.out (by rw [HEQ.out]; exact decide_eq_true ok)
                  clear ok
                  go_wp2_with fail
                  go_round
                  case rel => exact ⟨r + 1, by omega, by go_num, HF⟩
                  case measure => simp [intOf]; omega
                · have HF : Hid (Sg.inBounds h = false) := HBad3.out (by rw [HEQ.out]; exact decide_eq_false ok)
                  by_cases p1 : 20 < (mm.size : Int)
                  · clear ok
                    go_wp2_with fail
                    go_ret
                    exact ⟨ret_bool' (by rw [HF.out]), hbel⟩
                  by_cases p2 : (np : Int) < 1
                  · clear ok
                    go_wp2_with fail
                    go_ret
                    exact ⟨ret_bool' (by rw [HF.out]), hbel⟩
                  have p3 : 6 < (np : Int) := by omega
                  clear ok
                  go_wp2_with fail
                  go_ret
                  exact ⟨ret_bool' (by rw [HF.out]), hbel⟩
              · have HF : Hid (Sg.persOkTo h.pers (q + 1)) := HGo2.out (by have e : r = ne := by omega
                                                                           rw [← e]; exact HR.out)
                go_wp2_with fail
                go_round
                case rel => exact ⟨q + 1, by omega, by go_num, HF⟩
                case measure => simp [intOf]; omega
          · have hb12' : 12 < (ne : Int) := by omega
            have HF : Hid (Sg.inBounds h = false) := HBad.out (by unfold Sg.perOk; rw [decide_eq_false (by omega)]; rfl)
            clear HBad HGo
            go_wp2_with fail
            go_ret
            exact ⟨ret_bool' (by rw [HF.out]), hbel⟩
        · have HF : Hid (Sg.inBounds h = true) := Sg.inBounds_yes (by rw [HN.out, HP.out]; omega) HAll.out (by
            have e : q = h.pers.length := by rw [HP.out]; omega
            have := HQ.out
            rw [e] at this
            exact this)
          go_wp2_with fail
          go_ret
          exact ⟨ret_bool' (by rw [HF.out]), hbel⟩
end Go.Proofs.Ytoadiibfmcjgaaa
