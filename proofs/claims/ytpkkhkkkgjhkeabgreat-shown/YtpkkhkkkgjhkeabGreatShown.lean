/-
  THE WALK of signetkeep.Shown (P9, P10).
-/
import Derived.Test.YtpkkhkkkgjhkeabGreatShownInv
namespace Go.Proofs.YtpkkhkkkgjhkeabGreat
open Go.RowKit
set_option maxRecDepth 100000
attribute [local go_sem ↓] Go.wp_at_zero Go.wp_at_succ

set_option maxHeartbeats 25600000 in
/-- Shown. -/
theorem shown_any (c each per : Int) (other : ByteArray) (rs : List Raw) (ao : Option Addr) (nr cap : Nat) (w : World) (hc : -9223372036854775808 ≤ c ∧ c ≤ 9223372036854775807) (he : -9223372036854775808 ≤ each ∧ each ≤ 9223372036854775807) (hp : -9223372036854775808 ≤ per ∧ per ≤ 9223372036854775807) (hl : rs.length = nr) (hnr : nr ≤ 4611686018427387904) (hR : RawsIn w ao rs) (hf : ∀ r ∈ rs, rawFits r) :
    Calls Tryz.prog 3 #[.int .i64 c, .slice ao nr cap, .int .i64 each, .int .i64 per, .string other] w fun e w' => e = .returned (.bool true) ∧ Below w.heap.size w w' := by
  have hmade := made_any c each rs ao nr cap w hc he hl hnr hR hf
  clear hc he hl hR hf
  go_enter Tryz.func3, Tryz.ntmps3
  go_wp2_with fail
  refine hmade.mono ?_
  rintro e w1 ⟨vA, vP, rfl, ac, ps, hA, hP, hok, hb1⟩
  clear hmade
  obtain ⟨aoA, capA, aoP, capP, e1, e2, c1, c2, hH⟩ := hist_own (h := ⟨ac, ps⟩) hA hP hok.sizes
  obtain ⟨nA, hnA⟩ : ∃ k, ac.length = k := ⟨_, rfl⟩
  obtain ⟨nP, hnP⟩ : ∃ k, ps.length = k := ⟨_, rfl⟩
  simp only [hnA, hnP] at e1 e2 c1 hH
  subst e1 e2
  have hpb : 1 ≤ nP ∧ nP ≤ 6 := by have := hok.pers; simp only [hnP] at this; exact this
  have hseal := fun W (hb : Below w1.heap.size w1 W) => seal_any ⟨ac, ps⟩ aoA aoP nA nP capA capP W (hH.below hb) c1 c2
  rw [hok.sealed] at hseal
  have aB : Below w1.heap.size w1 (w1.alloc (.cells #[.slice aoA nA capA, .slice aoP nP capP] 26)) := (Below.refl _ _).alloc (Nat.le_refl _) _
  have hT2 := Two.new w1 (.slice aoA nA capA) (.slice aoP nP capP) 26
  have iA := hH.accs.below aB
  have iP := hH.pers.below aB
  have b2 := hb1.trans (aB.mono hb1.size)
  obtain ⟨g, eg⟩ : ∃ g, w1.heap.size = g := ⟨_, rfl⟩
  have HOk : Hid (Sg.MadeOk ⟨ac, ps⟩) := hok
  have HNP : Hid (ps.length = nP) := hnP
  clear hok hA hP hH hb1 c1 c2 hnP
  go_wp2_with fail
  generalize (w1.alloc (.cells #[.slice aoA nA capA, .slice aoP nP capP] 26)) = w2 at *
  rw [eg] at hT2
  try rw [eg]
  refine (lives_any _).mono ?_
  rintro e w3 ⟨rfl, hb3⟩
  have hT3 := hT2.below hb3
  obtain ⟨c0, c1⟩ := hT3.cells
  have hs3 := hseal w3 (aB.trans (hb3.mono aB.size))
  have iA3 := iA.below hb3
  have iP3 := iP.below hb3
  have b3 := b2.trans (hb3.mono b2.size)
  have hpv := fun (i k : Int) W hik => prove_made HOk.out i k W hik
  have hlk := fun (i k : Nat) (hi : i < ps.length) (hk : k < 4) (hd : ByteArray) W => look_made HOk.out (i := i) (k := k) hi hk hd W
  have hlk2 := fun (i k : Nat) (hi : i < ps.length) (hk : k < 4) (hd : ByteArray) W => look_made2 HOk.out (i := i) (k := k) hi hk hd W
  have HPV : Hid (∀ (i k : Int) (W : World), (-9223372036854775808 ≤ i ∧ i ≤ 9223372036854775807) → Calls Tryz.prog 9 #[.string (Sg.package ⟨ac, ps⟩), .int .i64 i, .int .i64 k] W fun e w' => ∃ y, e = .returned (.tuple #[.string y, .int .i64 (if 0 ≤ i ∧ i < (nP : Int) ∧ 0 ≤ k ∧ k < 4 then 0 else 1)]) ∧ Hid (0 ≤ i ∧ i < (nP : Int) ∧ 0 ≤ k ∧ k < 4 → y = Sg.bunB (Sg.bunOf ⟨ac, ps⟩ i.toNat k.toNat)) ∧ Below W.heap.size W w') := by
    intro i k W hik
    have := hpv i k W hik
    simp only [HNP.out] at this
    exact this
  clear hT2 iA iP hb3 b2 hseal aB eg hpv
  generalize Sg.package ⟨ac, ps⟩ = pk at *
  obtain ⟨hd, ehd⟩ : ∃ hd, Sg.headOf ⟨ac, ps⟩ = hd := ⟨_, rfl⟩
  rw [ehd] at hs3
  have HHD : Hid (Sg.headOf ⟨ac, ps⟩ = hd) := ehd
  clear ehd
  have HLK : Hid (∀ (i k : Nat) (hi : i < nP) (hk : k < 4) (y : ByteArray) (_ : y = Sg.bunB (Sg.bunOf ⟨ac, ps⟩ i k)) W, Calls Tryz.prog 10 #[.string y, .string hd] W fun e w' => Below W.heap.size W w' ∧ ∃ vD, e = .returned (.tuple #[.agg #[.int .i64 (i : Int), .int .i64 (k : Int), .int .i64 (Sg.bunOf ⟨ac, ps⟩ i k).total, vD], .int .i64 0]) ∧ OwnDrls w' W.heap.size vD (Sg.bunOf ⟨ac, ps⟩ i k).drls) := by
    intro i k hi hk y hy W
    subst hy
    refine (hlk i k (by rw [HNP.out]; exact hi) hk hd W).mono ?_
    rintro e w' ⟨hb, ⟨hne, _⟩ | ⟨_, vD, rfl, hO⟩⟩
    · exact absurd HHD.out hne
    · exact ⟨hb, vD, rfl, hO⟩
  have HLO : Hid (∀ (i k : Nat) (hi : i < nP) (hk : k < 4) (y : ByteArray) (_ : y = Sg.bunB (Sg.bunOf ⟨ac, ps⟩ i k)) W, Calls Tryz.prog 10 #[.string y, .string other] W fun e w' => Below W.heap.size W w' ∧ ∃ (x0 x1 x2 : Int) (ao : Option Addr) (n cp : Nat), e = .returned (.tuple #[.agg #[.int .i64 x0, .int .i64 x1, .int .i64 x2, .slice ao n cp], .int .i64 (if hd = other then 0 else 6)])) := by
    intro i k hi hk y hy W
    subst hy
    have := hlk2 i k (by rw [HNP.out]; exact hi) hk other W
    rw [HHD.out] at this
    exact this
  clear hlk hlk2
  go_wp2_with fail
  refine hs3.mono ?_
  rintro e w4 ⟨rfl, hb4⟩
  have hT4 := hT3.below hb4
  have iA4 := iA3.below hb4
  have iP4 := iP3.below hb4
  have b4 := b3.trans (hb4.mono b3.size)
  obtain ⟨d0, d1⟩ := hT4.cells
  clear hs3 hT3 iA3 iP3 b3 hb4 c0 c1
  go_wp2_with fail
  refine (pick_any per nP _ hp (by omega) (by omega)).mono ?_
  rintro e w5 ⟨i, rfl, hi, hw⟩
  have hw' := hw.symm
  subst hw'
  clear hw d0 d1
  have hip : i < ps.length := by rw [HNP.out]; exact hi
  obtain ⟨bP, oP, eP, hbP, aoE, capE, cE, hE⟩ := iP4.cell hip
  subst eP
  obtain ⟨es, hes⟩ : ∃ es, ps[i] = es := ⟨_, rfl⟩
  obtain ⟨ne, hne⟩ : ∃ ne, es.length = ne := ⟨_, rfl⟩
  rw [hes] at cE hE
  rw [hne] at cE
  have HES : Hid (ps.getD i [] = es) := by show _ = _; rw [List.getD_eq_getElem?_getD, List.getElem?_eq_getElem hip]; exact hes
  have HNE : Hid (es.length = ne) := hne
  have HEF : Hid (es.length ≤ 12 ∧ ∀ e ∈ es, Sg.EntFine ac.length e) := by have := HOk.out.ents ps[i] (List.getElem_mem hip); rw [hes] at this; exact this
  have HB : Hid (∀ r : Nat, r < 4 → (Sg.bunOf ⟨ac, ps⟩ i r).total = Sg.amtsD (Sg.drillsOf ac es (r : Int)) ∧ (Sg.bunOf ⟨ac, ps⟩ i r).drls = Sg.drillsOf ac es (r : Int)) := fun r hr => by
    have ht := (Sg.total_is HOk.out.sealed (h := ⟨ac, ps⟩) (i := i) (k := r) hip hr).1
    simp only at ht
    rw [HES.out] at ht
    refine ⟨ht, ?_⟩
    show Sg.drillsOf ac (ps.getD i []) (r : Int) = _
    rw [HES.out]
  have HI0 : Hid (ShI w w4 g (.slice aoA nA capA) (.slice (some ⟨bP, oP, none⟩) nP capP) (.slice aoE ne capE) bP (oP + i) aoA aoE ac es) := ⟨hT4, iA4, cE, hbP, hE, b4⟩
  have hne12 : ne ≤ 12 := by have := HEF.out.1; omega
  have HALB : Hid (∀ r : Nat, r ≤ 4 → -1000000000000000 ≤ Sg.allTo ac es r ∧ Sg.allTo ac es r ≤ 1000000000000000) := by
    have hone : ∀ r : Nat, -158329674399744 ≤ Sg.amtsD (Sg.drillsOf ac es (r : Int)) ∧ Sg.amtsD (Sg.drillsOf ac es (r : Int)) ≤ 158329674399744 := fun r => by
      have h1 := Sg.amtsD_bd 2199023255552 (Sg.drillsOf ac es (r : Int)) (Sg.drillsFrom_amt (fun a => -2199023255552 ≤ a ∧ a ≤ 2199023255552) ac (r : Int) es 0 (fun e he t ht => (HEF.out.2 e he).small t ht))
      have h2 : (Sg.drillsOf ac es (r : Int)).length ≤ 6 * es.length := Sg.drillsFrom_len ac (r : Int) es 0 (fun e he => by have := (HEF.out.2 e he).few; omega)
      have h3 := HEF.out.1
      omega
    intro r hr
    have e : ∀ r, Sg.allTo ac es (r + 1) = Sg.allTo ac es r + Sg.amtsD (Sg.drillsOf ac es (r : Int)) := fun _ => rfl
    have e0 : Sg.allTo ac es 0 = 0 := rfl
    have h0 := hone 0
    have h1 := hone 1
    have h2 := hone 2
    have h3 := hone 3
    have : r = 0 ∨ r = 1 ∨ r = 2 ∨ r = 3 ∨ r = 4 := by omega
    rcases this with rfl | rfl | rfl | rfl | rfl
    · rw [e0]; omega
    · rw [e 0, e0]; omega
    · rw [e 1, e 0, e0]; omega
    · rw [e 2, e 1, e 0, e0]; omega
    · rw [e 3, e 2, e 1, e 0, e0]; omega
  clear hT4 iA4 iP4 b4 cE hE hes hne hbP
  go_wp2_with fail
  go_loopw [17, 18] (fun al li wr => ∃ r : Nat, r ≤ 4 ∧ li = .int .i64 (r : Int) ∧ (∃ s : Int, al = .int .i64 s ∧ Hid (s = Sg.allTo ac es r)) ∧ Hid (ShI w wr g (.slice aoA nA capA) (.slice (some ⟨bP, oP, none⟩) nP capP) (.slice aoE ne capE) bP (oP + i) aoA aoE ac es)) (fun _ li _ => 4 - (intOf li).toNat)
  case atStart => exact ⟨0, by omega, rfl, ⟨0, rfl, rfl⟩, HI0⟩
  case round =>
    obtain ⟨r, hr, rfl, ⟨al, rfl, HAL⟩, HI⟩ := hrel
    obtain ⟨wz, ewz⟩ : ∃ z : World, z = wr := ⟨_, rfl⟩
    subst ewz
    clear HI0
    by_cases hlt : r < 4
    · have hpr := HPV.out (i : Int) (r : Int) wz (by omega)
      rw [if_pos (by omega)] at hpr
      go_wp2_with fail
      refine hpr.mono ?_
      rintro e w5 ⟨y, rfl, hy, hb5⟩
      have ey : y = Sg.bunB (Sg.bunOf ⟨ac, ps⟩ i r) := by simpa using hy.out (by omega)
      have hlo := HLK.out i r hi hlt y ey
      have hlo2 := HLO.out i r hi hlt y ey
      have hbt := HB.out r hlt
      rw [hbt.1, hbt.2] at hlo
      have HI5 : Hid (ShI w w5 g (.slice aoA nA capA) (.slice (some ⟨bP, oP, none⟩) nP capP) (.slice aoE ne capE) bP (oP + i) aoA aoE ac es) := HI.out.below hb5
      clear hpr hy ey hb5 hbt HI
      obtain ⟨ds, hds⟩ : ∃ ds, Sg.drillsOf ac es (r : Int) = ds := ⟨_, rfl⟩
      obtain ⟨tr, htr⟩ : ∃ tr, Sg.amtsD ds = tr := ⟨_, rfl⟩
      rw [hds, htr] at hlo
      have HDS : Hid (Sg.drillsOf ac es (r : Int) = ds ∧ Sg.amtsD ds = tr) := ⟨hds, htr⟩
      clear hds htr
      go_wp2_with fail
      refine (hlo _).mono ?_
      rintro e w6 ⟨hb6, vD, rfl, hO6⟩
      obtain ⟨aoD, capD, eD, hin6⟩ := hO6.shape
      obtain ⟨nd, hnd⟩ : ∃ nd, ds.length = nd := ⟨_, rfl⟩
      rw [hnd] at eD
      subst eD
      have aL : Below w6.heap.size w6 (w6.alloc (.cells #[.int .i64 (i : Int), .int .i64 (r : Int), .int .i64 tr, .slice aoD nd capD] 37)) := (Below.refl _ _).alloc (Nat.le_refl _) _
      have hQ7 := Quad.new w6 (.int .i64 (i : Int)) (.int .i64 (r : Int)) (.int .i64 tr) (.slice aoD nd capD) 37
      have hs7 := HI5.out.below hb6
      obtain ⟨gL, egL⟩ : ∃ gL, w6.heap.size = gL := ⟨_, rfl⟩
      have HI7 : Hid (ShL w (w6.alloc (.cells #[.int .i64 (i : Int), .int .i64 (r : Int), .int .i64 tr, .slice aoD nd capD] 37)) g gL (.slice aoA nA capA) (.slice (some ⟨bP, oP, none⟩) nP capP) (.slice aoE ne capE) bP (oP + i) aoA aoE aoD nd capD ac es (.int .i64 (i : Int)) (.int .i64 (r : Int)) (.int .i64 tr) ds) := ⟨hs7.below aL, by rw [← egL]; exact hQ7, hin6.below aL⟩
      clear hlo hb6 hO6 hin6 aL hQ7 hs7 HI5
      go_wp2_with fail
      generalize (w6.alloc (.cells #[.int .i64 (i : Int), .int .i64 (r : Int), .int .i64 tr, .slice aoD nd capD] 37)) = w7 at *
      try rw [egL]
      refine (hlo2 _).mono ?_
      rintro e w8 ⟨hb8, x0, x1, x2, aoX, nX, cpX, rfl⟩
      have aM : Below w8.heap.size w8 (w8.alloc (.cells #[.int .i64 x0, .int .i64 x1, .int .i64 x2, .slice aoX nX cpX] 37)) := (Below.refl _ _).alloc (Nat.le_refl _) _
      have hb89 := hb8.trans (aM.mono hb8.size)
      have HI9 : Hid (ShL w (w8.alloc (.cells #[.int .i64 x0, .int .i64 x1, .int .i64 x2, .slice aoX nX cpX] 37)) g gL (.slice aoA nA capA) (.slice (some ⟨bP, oP, none⟩) nP capP) (.slice aoE ne capE) bP (oP + i) aoA aoE aoD nd capD ac es (.int .i64 (i : Int)) (.int .i64 (r : Int)) (.int .i64 tr) ds) := ⟨HI7.out.hist.below hb89, HI7.out.line.below hb89, HI7.out.drls.below hb89⟩
      obtain ⟨er, her⟩ : ∃ er : Int, (if hd = other then (0 : Int) else 6) = er := ⟨_, rfl⟩
      obtain ⟨q, hq1, hq2⟩ : ∃ q : Bool, (er == 0) = q ∧ (other.toList == hd.toList) = q := by
        by_cases hho : hd = other
        · rw [if_pos hho] at her
          exact ⟨true, by rw [← her]; rfl, eq_list' hho.symm⟩
        · rw [if_neg hho] at her
          exact ⟨false, by rw [← her]; rfl, ne_list' (fun h => hho h.symm)⟩
      rw [her]
      clear hlo2 hb8 aM hb89 HI7 her egL
      go_upto_region 14 with fail
      generalize (w8.alloc (.cells #[.int .i64 x0, .int .i64 x1, .int .i64 x2, .slice aoX nX cpX] 37)) = w9 at *
      obtain ⟨c0, c1, c2, c3⟩ := HI9.out.line.cells
      go_wp2_with fail
      clear c0 c1 c2 c3 hq1 hq2
      have HND : Hid (ds.length = nd) := hnd
      have hnd72 : nd ≤ 72 := by
        have := Sg.drillsFrom_len ac (r : Int) es 0 (fun e he => by have := (HEF.out.2 e he).few; omega)
        have e1 : Sg.drillsFrom ac (r : Int) 0 es = ds := HDS.out.1
        rw [e1, hnd, HNE.out] at this
        omega
      have HBD : Hid (∀ l : List Sg.Drl, (∃ t, ds = l ++ t) → -158329674399744 ≤ Sg.amtsD l ∧ Sg.amtsD l ≤ 158329674399744) := by
        intro l ⟨t, ht⟩
        have hall : ∀ d ∈ ds, -2199023255552 ≤ d.amt ∧ d.amt ≤ 2199023255552 := by
          rw [← HDS.out.1]
          exact Sg.drillsFrom_amt (fun a => -2199023255552 ≤ a ∧ a ≤ 2199023255552) ac (r : Int) es 0 (fun e he t ht => (HEF.out.2 e he).small t ht)
        have := Sg.amtsD_bd 2199023255552 l (fun d hd => hall d (by rw [ht]; exact List.mem_append_left _ hd))
        have hll : l.length ≤ 72 := by have := congrArg List.length ht; rw [List.length_append, HND.out] at this; omega
        omega
      go_loopw [25, 26, 27] (fun to_ at_ jv wr => ∃ j : Nat, j ≤ ne ∧ jv = .int .i64 (j : Int) ∧ (∃ (s : Int) (n : Nat), to_ = .int .i64 s ∧ at_ = .int .i64 (n : Int) ∧ Hid (s = Sg.amtsD (Sg.drillsFrom ac (r : Int) 0 (es.take j)) ∧ n = (Sg.drillsFrom ac (r : Int) 0 (es.take j)).length)) ∧ Hid (ShL w wr g gL (.slice aoA nA capA) (.slice (some ⟨bP, oP, none⟩) nP capP) (.slice aoE ne capE) bP (oP + i) aoA aoE aoD nd capD ac es (.int .i64 (i : Int)) (.int .i64 (r : Int)) (.int .i64 tr) ds)) (fun _ _ jv _ => ne - (intOf jv).toNat)
      case atStart => exact ⟨0, by omega, rfl, ⟨0, 0, rfl, rfl, by simp [Sg.drillsFrom, Sg.amtsD], by simp [Sg.drillsFrom]⟩, HI9⟩
      case round =>
        obtain ⟨j, hj, rfl, ⟨st, na, rfl, rfl, HSN⟩, HJ⟩ := hrel
        obtain ⟨wy, ewy⟩ : ∃ z : World, z = wr := ⟨_, rfl⟩
        subst ewy
        clear HI9
        obtain ⟨c0, c1⟩ := HJ.out.hist.box.cells
        have cE := HJ.out.hist.per
        have k1 : (0 : Int) ≤ (i : Int) := by omega
        have k2 : (i : Int) < (nP : Int) := by omega
        by_cases hjn : j < ne
        · have hjl : j < es.length := by rw [HNE.out]; exact hjn
          obtain ⟨bE, oE, eE, _, _, aoQ, capQ, cQ, hQ⟩ := HJ.out.hist.ents.cell hjl
          subst eE
          have k3 : (0 : Int) ≤ (j : Int) := by omega
          have k4 : (j : Int) < (ne : Int) := by omega
          have HEFj := HEF.out.2 es[j] (List.getElem_mem hjl)
          obtain ⟨np, hnp⟩ : ∃ np, es[j].posts.length = np := ⟨_, rfl⟩
          rw [hnp] at cQ
          have hnp4 : np ≤ 4 := by have := HEFj.few; omega
          have HNPJ : Hid (es[j].posts.length = np) := hnp
          have HPQ : Hid (PstsIn wy aoQ es[j].posts) := hQ
          have HEJ : Hid (Sg.EntFine ac.length es[j]) := HEFj
          clear hnp hQ HEFj
          go_wp2_with fail
          clear c0 c1 cE cQ
          have HK0 : Hid (PstsIn wy aoQ es[j].posts ∧ ShL w wy g gL (.slice aoA nA capA) (.slice (some ⟨bP, oP, none⟩) nP capP) (.slice (some ⟨bE, oE, none⟩) ne capE) bP (oP + i) aoA (some ⟨bE, oE, none⟩) aoD nd capD ac es (.int .i64 (i : Int)) (.int .i64 (r : Int)) (.int .i64 tr) ds) := ⟨HPQ.out, HJ.out⟩
          go_loopw [25, 26, 29] (fun to_ at_ kv wr => ∃ k : Nat, k ≤ np ∧ kv = .int .i64 (k : Int) ∧ (∃ (s : Int) (n : Nat), to_ = .int .i64 s ∧ at_ = .int .i64 (n : Int) ∧ Hid (s = Sg.amtsD (Sg.drTo ac (r : Int) es j k es[j].posts) ∧ n = (Sg.drTo ac (r : Int) es j k es[j].posts).length)) ∧ Hid (PstsIn wr aoQ es[j].posts ∧ ShL w wr g gL (.slice aoA nA capA) (.slice (some ⟨bP, oP, none⟩) nP capP) (.slice (some ⟨bE, oE, none⟩) ne capE) bP (oP + i) aoA (some ⟨bE, oE, none⟩) aoD nd capD ac es (.int .i64 (i : Int)) (.int .i64 (r : Int)) (.int .i64 tr) ds)) (fun _ _ kv _ => np - (intOf kv).toNat)
          case atStart => exact ⟨0, by omega, rfl, ⟨st, na, rfl, rfl, by rw [Sg.drTo_zero]; exact HSN.out⟩, HK0⟩
          case round =>
            obtain ⟨k, hk, rfl, ⟨sk, nk, rfl, rfl, HSK⟩, HK⟩ := hrel
            obtain ⟨wx, ewx⟩ : ∃ z : World, z = wr := ⟨_, rfl⟩
            subst ewx
            clear HK0
            by_cases hkn : k < np
            · have hkl : k < es[j].posts.length := by rw [HNPJ.out]; exact hkn
              obtain ⟨bQ, oQ, eQ, _, t0, t1⟩ := HK.out.1.cell hkl
              subst eQ
              have hacc := HEJ.out.accts _ (List.getElem_mem hkl)
              have hsma := HEJ.out.small _ (List.getElem_mem hkl)
              unfold Sg.acctOk at hacc
              obtain ⟨a, ha⟩ := Int.eq_ofNat_of_zero_le hacc.1
              have hal : a < ac.length := by have := hacc.2; rw [ha] at this; omega
              obtain ⟨bA, oA, eA, _, _, u1⟩ := HK.out.2.hist.accs.cell hal
              subst eA
              have hst1 := Sg.drTo_succ ac (r : Int) es j k es[j].posts hkl
              have hlo : Sg.lineOf ac es[j].posts[k].acct = ac[a].line := by rw [ha]; exact Sg.lineOf_get hal
              have hatx : ac[a].line = (r : Int) → ds[nk]? = some ⟨j, k, (a : Int), es[j].posts[k].amt⟩ := fun h => by
                have := Sg.drTo_at ac (r : Int) es hjl hkl (by rw [hlo]; exact h)
                rw [HDS.out.1, ← HSK.out.2, ha] at this
                exact this
              rw [hlo, ha] at hst1
              rw [ha] at t0
              obtain ⟨c0, c1⟩ := HK.out.2.hist.box.cells
              obtain ⟨d0, d1, d2, d3⟩ := HK.out.2.line.cells
              have g1 : (0 : Int) ≤ (k : Int) := by omega
              have g2 : (k : Int) < (np : Int) := by omega
              have g3 : (0 : Int) ≤ (a : Int) := by omega
              have g4 : (a : Int) < (nA : Int) := by rw [← hnA]; omega
              have HQN : Hid (∀ m, PstsIn (wx.drewN m) (some ⟨bQ, oQ, none⟩) es[j].posts ∧ ShL w (wx.drewN m) g gL (.slice (some ⟨bA, oA, none⟩) nA capA) (.slice (some ⟨bP, oP, none⟩) nP capP) (.slice (some ⟨bE, oE, none⟩) ne capE) bP (oP + i) (some ⟨bA, oA, none⟩) (some ⟨bE, oE, none⟩) aoD nd capD ac es (.int .i64 (i : Int)) (.int .i64 (r : Int)) (.int .i64 tr) ds) := fun m => ⟨HK.out.1, HK.out.2.drewN m⟩
              generalize es[j].posts[k].amt = am at *
              clear hlo ha hacc
              by_cases hli : ac[a].line = (r : Int)
              · have hat := hatx hli
                have hnk : nk < ds.length := (List.getElem?_eq_some_iff.1 hat).1
                obtain ⟨bD, oD, eD, _, v0, v1, v2, v3⟩ := HK.out.2.drls.cell (k := nk) hnk
                rw [List.getElem?_eq_getElem hnk] at hat
                simp only [Option.some.injEq] at hat
                rw [hat] at v0 v1 v2 v3
                simp only at v0 v1 v2 v3
                subst eD
                rw [hli] at u1
                rw [if_pos hli] at hst1
                have g5 : (0 : Int) ≤ (nk : Int) := by omega
                have g6 : (nk : Int) < (nd : Int) := by rw [← HND.out]; omega
                have g7 : decide ((nd : Int) ≤ (nk : Int)) = false := by rw [decide_eq_false_iff_not]; omega
                have g8 : decide (nd ≤ nk) = false := by rw [decide_eq_false_iff_not]; omega
                have g9 : (nk : Int) ≥ (nd : Int) ↔ False := ⟨fun h => by omega, fun h => h.elim⟩
                have g10 : nd ≤ nk ↔ False := ⟨fun h => by omega, fun h => h.elim⟩
                have hbd := HBD.out (Sg.drTo ac (r : Int) es j k es[j].posts) (by rw [← HDS.out.1]; exact Sg.drTo_front ac (r : Int) es hjl k)
                rw [← HSK.out.1] at hbd
                have hwr2 : IntKind.i64.wrap (sk + am) = sk + am := IntWalk.i64_in _ (by omega)
                have hwr3 : IntKind.i64.wrap ((nk : Int) + 1) = ((nk + 1 : Nat) : Int) := by rw [IntWalk.i64_in _ (by omega)]; omega
                have HN : Hid (sk + am = Sg.amtsD (Sg.drTo ac (r : Int) es j (k + 1) es[j].posts) ∧ nk + 1 = (Sg.drTo ac (r : Int) es j (k + 1) es[j].posts).length) := by
                  rw [hst1, Sg.amtsD_append, List.length_append, ← HSK.out.1, ← HSK.out.2]
                  exact ⟨by unfold Sg.amtsD; simp, rfl⟩
                clear hst1 hat hatx hli hbd hsma HK hnk
                go_wp2_with fail
                go_quiet (fail)
                go_wp2_with fail
                go_quiet (fail)
                go_wp2_with fail
                go_roundw
                case rel => exact ⟨k + 1, by omega, by go_num, ⟨_, _, rfl, rfl, HN⟩, HQN.out _⟩
                case measure => simp [intOf]; omega
              · have r4 : (ac[a].line == (r : Int)) = false := by simp [hli]
                rw [if_neg hli, List.append_nil] at hst1
                have HN : Hid (sk = Sg.amtsD (Sg.drTo ac (r : Int) es j (k + 1) es[j].posts) ∧ nk = (Sg.drTo ac (r : Int) es j (k + 1) es[j].posts).length) := by rw [hst1]; exact HSK.out
                generalize ac[a].line = li at *
                clear hst1 hatx hli hsma HK
                go_wp2_with fail
                go_quiet (fail)
                go_wp2_with fail
                go_roundw
                case rel => exact ⟨k + 1, by omega, by go_num, ⟨_, _, rfl, rfl, HN⟩, HQN.out _⟩
                case measure => simp [intOf]; omega
            · have ek : k = np := by omega
              subst ek
              have HN : Hid (sk = Sg.amtsD (Sg.drillsFrom ac (r : Int) 0 (es.take (j + 1))) ∧ nk = (Sg.drillsFrom ac (r : Int) 0 (es.take (j + 1))).length) := by
                have e1 := Sg.drTo_next ac (r : Int) es j hjl
                rw [HNPJ.out] at e1
                rw [← e1]
                exact HSK.out
              have k5 : ¬ (k : Int) < (k : Int) := by omega
              go_wp2_with fail
              go_roundw
              case rel => exact ⟨j + 1, by omega, by go_num, ⟨sk, nk, rfl, rfl, HN⟩, HK.out.2⟩
              case measure => simp [intOf]; omega
        · have ej : j = ne := by omega
          subst ej
          have HF : Hid (st = tr ∧ na = nd) := by
            have e1 : es.take j = es := List.take_of_length_le (by rw [HNE.out]; omega)
            have h1 := HSN.out
            rw [e1] at h1
            have e2 : Sg.drillsFrom ac (r : Int) 0 es = ds := HDS.out.1
            rw [e2, HDS.out.2, HND.out] at h1
            exact h1
          obtain ⟨est, ena⟩ := HF.out
          subst est ena
          obtain ⟨d0, d1, d2, d3⟩ := HJ.out.line.cells
          have k5 : ¬ (j : Int) < (j : Int) := by omega
          have hwr : IntKind.i64.wrap (al + st) = al + st := by
            refine IntWalk.i64_in _ ?_
            have h1 := HBD.out ds ⟨[], by simp⟩
            rw [HDS.out.2] at h1
            have h2 := HALB.out r hr
            rw [← HAL.out] at h2
            omega
          have HNA : Hid (al + st = Sg.allTo ac es (r + 1)) := by
            show _ = _
            have : Sg.allTo ac es (r + 1) = Sg.allTo ac es r + Sg.amtsD (Sg.drillsOf ac es (r : Int)) := rfl
            rw [this, HDS.out.1, HDS.out.2, HAL.out]
          go_wp2_with fail
          go_roundw
          case rel => exact ⟨r + 1, by omega, by go_num, ⟨_, rfl, HNA⟩, HJ.out.hist⟩
          case measure => simp [intOf]; omega
    · have er4 : r = 4 := by omega
      subst er4
      have hall : al = 0 := by
        rw [HAL.out]
        have e : ∀ r, Sg.allTo ac es (r + 1) = Sg.allTo ac es r + Sg.amtsD (Sg.drillsOf ac es (r : Int)) := fun _ => rfl
        have e0 : Sg.allTo ac es 0 = 0 := rfl
        rw [e 3, e 2, e 1, e 0, e0]
        have hb : Sg.inBounds ⟨ac, ps⟩ = true := HOk.out.inb
        have hln : ∀ a ∈ ac, 0 ≤ a.line ∧ a.line ≤ 3 := fun a ha => ⟨(Sg.bnd_accs hb a ha).2.1, (Sg.bnd_accs hb a ha).2.2⟩
        have := Sg.drillsFrom_all ac es 0 (fun e he => ⟨fun p hp => by
          have hac := (HEF.out.2 e he).accts p hp
          unfold Sg.acctOk at hac
          obtain ⟨a, ha⟩ := Int.eq_ofNat_of_zero_le hac.1
          have hal : a < ac.length := by have := hac.2; rw [ha] at this; omega
          rw [ha, Sg.lineOf_get hal]
          exact hln _ (List.getElem_mem hal), (HEF.out.2 e he).zero⟩)
        show 0 + Sg.amtsD (Sg.drillsOf ac es 0) + Sg.amtsD (Sg.drillsOf ac es 1) + Sg.amtsD (Sg.drillsOf ac es 2) + Sg.amtsD (Sg.drillsOf ac es 3) = 0
        unfold Sg.drillsOf
        omega
      subst hall
      have hp1 := HPV.out (nP : Int) 0 wz (by omega)
      rw [if_neg (by omega)] at hp1
      have hp2 := fun W => HPV.out 0 4 W (by omega)
      rw [if_neg (by omega)] at hp2
      obtain ⟨c0, c1⟩ := HI.out.box.cells
      have bel := HI.out.bel
      clear HI
      go_wp2_with fail
      refine hp1.mono ?_
      rintro e w5 ⟨y5, rfl, _, hb5⟩
      have bel5 := bel.trans (hb5.mono bel.size)
      clear hp1 hb5 bel
      go_wp2_with fail
      refine (hp2 _).mono ?_
      rintro e w6 ⟨y6, rfl, _, hb6⟩
      have bel6 := bel5.trans (hb6.mono bel5.size)
      clear hp2 hb6 bel5
      go_wp2_with fail
      go_ret
      exact ⟨rfl, bel6⟩
end Go.Proofs.YtpkkhkkkgjhkeabGreat
