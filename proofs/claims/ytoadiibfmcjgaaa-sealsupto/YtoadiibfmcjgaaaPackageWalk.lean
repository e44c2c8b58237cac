/-
  THE WALK of signetref.Books.Package.
-/
import Derived.Test.YtoadiibfmcjgaaaPackage
namespace Go.Proofs.Ytoadiibfmcjgaaa
open Go.RowKit
set_option maxRecDepth 100000
attribute [local go_sem ↓] Go.wp_at_zero Go.wp_at_succ

theorem bk_keep {w w' : World} {a b c d : Value} (h : Below (w.heap.size + 1) (bkBox w a b c d) w') :
    w'.cell? ⟨w.heap.size, 0, none⟩ = some a ∧ w'.cell? ⟨w.heap.size, 1, none⟩ = some b ∧ w'.cell? ⟨w.heap.size, 2, none⟩ = some c ∧ w'.cell? ⟨w.heap.size, 3, none⟩ = some d ∧ Below (w.heap.size + 1) (bkBox w a b c d) w' := by
  obtain ⟨h0, h1, h2, h3, _, _⟩ := bkBox_facts h
  exact ⟨h0, h1, h2, h3, h⟩
theorem bk_call {w W w' : World} {a b c d : Value} (h : Below (w.heap.size + 1) (bkBox w a b c d) W) (hb : Below W.heap.size W w') : Below (w.heap.size + 1) (bkBox w a b c d) w' :=
  h.trans (hb.mono (by have := h.size; rw [bkBox_size] at this; omega))

set_option maxHeartbeats 6400000 in
/-- Books.Package. -/
theorem package_any (h : Sg.Hist) (bal tot : List (List Int)) (aoA aoP aoB aoT : Option Addr) (nA nP capA capP capB capT : Nat) (w : World) (hB : BksAt w aoA aoP aoB aoT nA nP h bal tot) :
    Calls Try.prog 53 #[.agg #[.slice aoA nA capA, .slice aoP nP capP, .slice aoB nP capB, .slice aoT nP capT]] w fun e w' => e = .returned (.string (Sg.pkTo h bal tot nP)) ∧ Below w.heap.size w w' := by
  have HB : Hid (BksAt w aoA aoP aoB aoT nA nP h bal tot) := hB
  obtain ⟨f8, f6⟩ := hB.few
  clear hB
  go_enter Try.func53, Try.ntmps53
  go_wp2_with fail
  go_region_held3 (fun w' => w'.cell? ⟨w.heap.size, 0, none⟩ = some (.slice aoA nA capA) ∧ w'.cell? ⟨w.heap.size, 1, none⟩ = some (.slice aoP nP capP) ∧ w'.cell? ⟨w.heap.size, 2, none⟩ = some (.slice aoB nP capB) ∧ w'.cell? ⟨w.heap.size, 3, none⟩ = some (.slice aoT nP capT) ∧ Below (w.heap.size + 1) (bkBox w (.slice aoA nA capA) (.slice aoP nP capP) (.slice aoB nP capB) (.slice aoT nP capT)) w')
    (first | assumption | exact bk_keep (Below.refl _ _) | exact bk_keep (Below.refl _ _).drew)
    (first
      | (go_at_call 79; refine (chart_any h.accs aoA aoP nA capA nP capP _ HB.out.lenA f8 HB.out.accFine (HB.out.accs.below ((bkBox_facts (Below.refl (w.heap.size + 1) (bkBox w (.slice aoA nA capA) (.slice aoP nP capP) (.slice aoB nP capB) (.slice aoT nP capT)))).2.2.2.2.1.drew))).mono ?_; rintro e w1 ⟨rfl, hb1⟩; have kb1 := bk_call ((Below.refl (w.heap.size + 1) (bkBox w (.slice aoA nA capA) (.slice aoP nP capP) (.slice aoB nP capB) (.slice aoT nP capT))).drew) hb1; have hh1 := bk_keep kb1; have hcz := Sg.chartB_size h.accs (fun a ha => (HB.out.accFine a ha).1); have hlA := HB.out.lenA; obtain ⟨ct, hct⟩ : ∃ ct, ct = Sg.chartB h.accs := ⟨_, rfl⟩; rw [← hct] at hcz; rw [← hct]; have HCT : Hid (ct = Sg.chartB h.accs) := hct; clear hct; have q1 := cat { data := #[83, 73, 71, 78] } ct (by show 4 + ct.size ≤ _; omega))
      | (go_at_call 40; refine (bytes_txt (nP : Int) 1 _ (by omega) (by decide) (by decide)).mono ?_; rintro e w2 ⟨y2, rfl, hy2, hys2, hb2⟩; have q2 := cat ({ data := #[83, 73, 71, 78] } ++ ct) y2 (by rw [cat_size]; show 4 + ct.size + _ ≤ _; omega); have kb2 := bk_call kb1 hb2; have hh2 := bk_keep kb2))
  have H0 : Hid ({ data := #[83, 73, 71, 78] } ++ ct ++ y2 = Sg.pkTo h bal tot 0) := by
    show _ = _
    rw [HCT.out, hy2.out]
    unfold Sg.pkTo
    rw [HB.out.lenP]
    rfl
  generalize ({ data := #[83, 73, 71, 78] } ++ ct ++ y2 : ByteArray) = o0 at *
  clear hh1 hh2 kb1 hb1 hb2 q1 q2 hy2 hys2 HCT hcz hlA
  go_wp2_with fail
  go_loopw [3, 4] (fun o i wr => ∃ k : Nat, k ≤ nP ∧ i = .int .i64 (k : Int) ∧ (∃ oo, o = .string oo ∧ Hid (oo = Sg.pkTo h bal tot k)) ∧ Below (w.heap.size + 1) (bkBox w (.slice aoA nA capA) (.slice aoP nP capP) (.slice aoB nP capB) (.slice aoT nP capT)) wr) (fun _ i _ => nP - (intOf i).toNat)
  case atStart => exact ⟨0, by omega, rfl, ⟨_, rfl, H0⟩, kb2⟩
  case round =>
    obtain ⟨k, hk, rfl, ⟨oo, rfl, hoo⟩, hbel⟩ := hrel
    obtain ⟨x0, x1, x2, x3, hbw, hsz⟩ := bkBox_facts hbel
    by_cases hlt : k < nP
    · have l1 : k < h.pers.length := by rw [HB.out.lenP]; exact hlt
      have l2 : k < bal.length := by rw [HB.out.lenB]; exact hlt
      have l3 : k < tot.length := by rw [HB.out.lenT]; exact hlt
      have HS : Hid (Sg.pkTo h bal tot (k + 1) = Sg.peTo oo h.pers[k] h.pers[k].length ++ Sg.amountsB bal[k] ++ Sg.amountsB tot[k]) := by
        show _ = _
        rw [Sg.pkTo_succ h bal tot k l1 l2 l3, Sg.perText_peTo, ← hoo.out]
      have hoz : oo.size ≤ 7000 := by
        rw [hoo.out]
        have := pkTo_size HB.out k (by omega)
        omega
      have hfine := HB.out.allFine _ (List.getElem_mem l1)
      obtain ⟨hbl, hbf⟩ := HB.out.balFine _ (List.getElem_mem l2)
      obtain ⟨htl, htf⟩ := HB.out.totFine _ (List.getElem_mem l3)
      obtain ⟨bP, offP, eP, hbP, aoE, capE, hcE, hE⟩ := (HB.out.pers).cell (k := k) l1
      subst eP
      obtain ⟨bB, offB, eB, hbB, aoI, capI, hcI, hI⟩ := (HB.out.bals).cell (k := k) l2
      subst eB
      obtain ⟨bT, offT, eT, hbT, aoJ, capJ, hcJ, hJ⟩ := (HB.out.tots).cell (k := k) l3
      subst eT
      rw [hbl] at hcI
      rw [htl] at hcJ
      generalize h.pers[k] = es at *
      generalize bal[k] = bl at *
      generalize tot[k] = tl at *
      obtain ⟨ne, hne⟩ : ∃ ne, es.length = ne := ⟨_, rfl⟩
      rw [hne] at hcE HS
      have HNE : Hid (es.length = ne) := hne
      have hes : ne ≤ 12 := by have := hfine.1; omega
      have HFI : Hid (perFine nA es) := hfine
      have HBL : Hid (bl.length = nA ∧ ∀ v ∈ bl, Sg.fits v = true) := ⟨hbl, hbf⟩
      have HTL : Hid (tl.length = 4 ∧ ∀ v ∈ tl, Sg.fits v = true) := ⟨htl, htf⟩
      have hcE' := (hbw.cell (p := ⟨bP, offP + k, none⟩) hbP).trans hcE
      have i1 : (0 : Int) ≤ (k : Int) := by omega
      have i2 : (k : Int) < (nP : Int) := by omega
      clear hfine hbl hbf htl htf hne l1 l2 l3
      go_wp2_with fail
      refine (bytes_txt (ne : Int) 1 _ (by omega) (by decide) (by decide)).mono ?_
      rintro e w3 ⟨y3, rfl, hy3, hys3, hb3⟩
      have kb3 := bk_call hbel hb3
      have HP0 : Hid (oo ++ y3 = Sg.peTo oo es 0) := by show _ = _; rw [hy3.out]; unfold Sg.peTo; rw [HNE.out]; rfl
      clear hb3 hy3 hbel
      go_wp2_with fail
      generalize oo ++ y3 = o3 at *
      go_loopw [3, 6] (fun o j wr => ∃ r : Nat, r ≤ ne ∧ j = .int .i64 (r : Int) ∧ (∃ op, o = .string op ∧ Hid (op = Sg.peTo oo es r)) ∧ Below (w.heap.size + 1) (bkBox w (.slice aoA nA capA) (.slice (some ⟨bP, offP, none⟩) nP capP) (.slice (some ⟨bB, offB, none⟩) nP capB) (.slice (some ⟨bT, offT, none⟩) nP capT)) wr) (fun _ j _ => ne - (intOf j).toNat)
      case atStart => exact ⟨0, by omega, rfl, ⟨_, rfl, HP0⟩, kb3⟩
      case round =>
        obtain ⟨r, hr, rfl, ⟨op, rfl, hop⟩, hbel2⟩ := hrel
        obtain ⟨z0, z1, z2, z3, hbw2, hsz2⟩ := bkBox_facts hbel2
        have hpz : op.size ≤ 8000 := by
          rw [hop.out]
          have := Sg.peTo_size oo es (fun e he => ⟨(HFI.out.2 e he).1, (HFI.out.2 e he).2.1⟩) r (by rw [HNE.out]; exact hr)
          omega
        by_cases hlr : r < ne
        · have hra : r < es.length := by rw [HNE.out]; exact hlr
          obtain ⟨bE, offE, eE, hbE, hm, aoQ, capQ, hcQ, hPs⟩ := (hE.below hbw2).cell (k := r) hra
          subst eE
          have HSu : Hid (Sg.peTo oo es (r + 1) = op ++ Sg.entB es[r]) := by show _ = _; rw [Sg.peTo_succ oo es r hra, ← hop.out]
          obtain ⟨g1, g2, g3⟩ := HFI.out.2 es[r] (List.getElem_mem _)
          have HPo : Hid (∀ p ∈ es[r].posts, Sg.fits p.acct = true ∧ Sg.fits p.amt = true) := fun p hp => ⟨decide_eq_true (by have := g3 p hp; omega), (g3 p hp).2.2⟩
          obtain ⟨mm, pp, hmp⟩ : ∃ mm pp, es[r] = ⟨mm, pp⟩ := ⟨_, _, rfl⟩
          rw [hmp] at hm hcQ hPs g1 g2 HPo HSu
          simp only at hm hcQ hPs g1 g2 HPo
          have hez : (Sg.entB ⟨mm, pp⟩).size ≤ 100 := by
            rw [Sg.entB_size]
            show 2 + mm.size + 9 * pp.length ≤ 100
            omega
          obtain ⟨np, hnp⟩ : ∃ np, pp.length = np := ⟨_, rfl⟩
          rw [hnp] at hcQ g2
          have HNP : Hid (pp.length = np) := hnp
          have i3 : (0 : Int) ≤ (r : Int) := by omega
          have i4 : (r : Int) < (ne : Int) := by omega
          clear hmp hnp g3 hop
          go_wp2_with fail
          refine (entry_any mm pp aoQ np capQ _ HNP.out g2 g1 HPo.out hPs).mono ?_
          rintro e w5 ⟨rfl, hb5⟩
          have kb5 := bk_call hbel2 hb5
          generalize Sg.entB ⟨mm, pp⟩ = et at *
          clear hb5 hbel2 hPs
          go_wp2_with fail
          go_roundw
          case rel => exact ⟨r + 1, by omega, by go_num, ⟨_, rfl, HSu.out.symm⟩, kb5⟩
          case measure => simp [intOf]; omega
        · have hrn : r = ne := by omega
          have HOP : Hid (op = Sg.peTo oo es ne) := by show _ = _; rw [hop.out, hrn]
          have hcI2 := (hbw2.cell (p := ⟨bB, offB + k, none⟩) hbB).trans hcI
          have hcJ2 := (hbw2.cell (p := ⟨bT, offT + k, none⟩) hbT).trans hcJ
          have hI2 := hI.below hbw2
          have hJ2 := hJ.below hbw2
          have hw2s := hbw2.size
          clear hop hrn hE
          obtain ⟨wz, ewz⟩ : ∃ z : World, z = wr := ⟨_, rfl⟩
          subst ewz
          have hS := six_keep (W := wz) (w' := wz) (Nat.lt_of_lt_of_le hbB hw2s) (Nat.lt_of_lt_of_le hbT hw2s) hsz2 ⟨z0, z1, z2, z3, hcI2, hcJ2⟩ (Below.refl _ _)
          have hSd := six_keep (W := wz) (w' := wz.drew) (Nat.lt_of_lt_of_le hbB hw2s) (Nat.lt_of_lt_of_le hbT hw2s) hsz2 ⟨z0, z1, z2, z3, hcI2, hcJ2⟩ (Below.refl _ _).drew
          go_wp2_with fail
          go_region_held3 (fun w' => w'.cell? ⟨w.heap.size, 0, none⟩ = some (.slice aoA nA capA) ∧ w'.cell? ⟨w.heap.size, 1, none⟩ = some (.slice (some ⟨bP, offP, none⟩) nP capP) ∧ w'.cell? ⟨w.heap.size, 2, none⟩ = some (.slice (some ⟨bB, offB, none⟩) nP capB) ∧ w'.cell? ⟨w.heap.size, 3, none⟩ = some (.slice (some ⟨bT, offT, none⟩) nP capT) ∧ w'.cell? ⟨bB, offB + k, none⟩ = some (.slice aoI nA capI) ∧ w'.cell? ⟨bT, offT + k, none⟩ = some (.slice aoJ 4 capJ) ∧ Below wz.heap.size wz w')
            (first | assumption)
            (first
              | (go_at_call_of 81 (Value.slice aoI nA capI); refine (amounts_any bl aoI nA capI _ HBL.out.1 (by omega) (hI2.below (Below.refl wz.heap.size wz).drew) HBL.out.2).mono ?_; rintro e w6 ⟨rfl, hb6⟩; have kb6 := ((Below.refl wz.heap.size wz).drew).trans hb6; have hh6 := six_keep (W := wz) (w' := w6) (Nat.lt_of_lt_of_le hbB hw2s) (Nat.lt_of_lt_of_le hbT hw2s) hsz2 ⟨z0, z1, z2, z3, hcI2, hcJ2⟩ kb6; have haz := Sg.amountsB_size bl; have hbl8 := HBL.out.1; obtain ⟨ya, hya⟩ : ∃ ya, ya = Sg.amountsB bl := ⟨_, rfl⟩; rw [← hya] at haz; rw [← hya]; have HYA : Hid (ya = Sg.amountsB bl) := hya; clear hya; have q6 := cat op ya (by omega))
              | (go_at_call 81; refine (amounts_any tl aoJ 4 capJ _ HTL.out.1 (by omega) (hJ2.below kb6) HTL.out.2).mono ?_; rintro e w7 ⟨rfl, hb7⟩; have kb7 := kb6.trans (hb7.mono kb6.size); have hh7 := six_keep (W := wz) (w' := w7) (Nat.lt_of_lt_of_le hbB hw2s) (Nat.lt_of_lt_of_le hbT hw2s) hsz2 ⟨z0, z1, z2, z3, hcI2, hcJ2⟩ kb7; have hcz := Sg.amountsB_size tl; have htl4 := HTL.out.1; obtain ⟨yb, hyb⟩ : ∃ yb, yb = Sg.amountsB tl := ⟨_, rfl⟩; rw [← hyb] at hcz; rw [← hyb]; have HYB : Hid (yb = Sg.amountsB tl) := hyb; clear hyb; have q7 := cat (op ++ ya) yb (by rw [cat_size]; omega)))
          have HE7 : Hid (Sg.pkTo h bal tot (k + 1) = op ++ ya ++ yb) := by show _ = _; rw [HS.out, HYA.out, HYB.out, ← HOP.out]
          have kb8 := bk_call hbel2 kb7
          clear hh6 hh7 kb6 kb7 hb6 hb7 q6 q7 HYA HYB hS hSd haz hcz hbl8 htl4 hbel2
          go_wp2_with fail
          go_roundw
          case rel => exact ⟨k + 1, by omega, by go_num, ⟨_, rfl, HE7.out.symm⟩, kb8⟩
          case measure => simp [intOf]; omega
    · have hkn : k = nP := by omega
      go_wp2_with fail
      go_ret
      exact ⟨ret_str2 (by rw [hoo.out, hkn]), hbw⟩
end Go.Proofs.Ytoadiibfmcjgaaa
