/-
  THE WALK of signetref.Prove (P9).
-/
import Derived.Test.YtpkkhkkkgjhkeaaGreatProve
import Derived.Test.YtpkkhkkkgjhkeaaGreatRefPath
namespace Go.Proofs.YtpkkhkkkgjhkeaaGreat
namespace Sg
/-- A text, and so many texts behind it. -/
def oTo (s : Txt) (ss : List Txt) (j : Nat) : Txt := s ++ catB (ss.take j)
theorem oTo_zero (s : Txt) (ss : List Txt) : oTo s ss 0 = s := by unfold oTo catB; simp
theorem oTo_succ (s : Txt) (ss : List Txt) {j : Nat} (h : j < ss.length) : oTo s ss (j + 1) = oTo s ss j ++ ss[j] := by
  unfold oTo
  rw [List.take_succ_eq_append_getElem h, catB_snoc, ByteArray.append_assoc]
theorem oTo_all (s : Txt) (ss : List Txt) : oTo s ss ss.length = s ++ catB ss := by unfold oTo; rw [List.take_length]
theorem oTo_size (s : Txt) (ss : List Txt) (K j : Nat) (hs : ∀ x ∈ ss, x.size ≤ K) (hj : j ≤ ss.length) : (oTo s ss j).size ≤ s.size + j * K := by
  unfold oTo
  rw [ByteArray.size_append]
  have := catB_size (ss.take j) K (fun x hx => hs x (List.mem_of_mem_take hx))
  rw [List.length_take, Nat.min_eq_left hj] at this
  omega
end Sg
open Go.RowKit
set_option maxRecDepth 100000
attribute [local go_sem ↓] Go.wp_at_zero Go.wp_at_succ

set_option maxHeartbeats 12800000 in
/-- signetref.Prove. -/
theorem refProve_any (t : ByteArray) (i k : Int) (w : World) (ht : t.size ≤ 140737488355328) (hik : -9223372036854775808 ≤ i ∧ i ≤ 9223372036854775807) :
    Calls Tryz.prog 13 #[.string t, .int .i64 i, .int .i64 k] w fun e w' => ∃ y, e = .returned (.tuple #[.string y, .int .i64 (Sg.proveErr (Sg.rdHist Sg.rdR (Sg.tx t)) t i k)]) ∧ Hid (y = Sg.proveTxt (Sg.rdHist Sg.rdR (Sg.tx t)) t i k) ∧ Below w.heap.size w w' := by
  have hc1 := fun W => open_any t W ht
  generalize Sg.rdHist Sg.rdR (Sg.tx t) = h at *
  obtain ⟨er, her⟩ : ∃ er, Sg.proveErr h t i k = er := ⟨_, rfl⟩
  have HE : Hid (Sg.proveErr h t i k = er) := her
  have HT : Hid (er ≠ 0 → Sg.proveTxt h t i k = ByteArray.empty) := fun hne => Sg.proveTxt_none (by rw [HE.out]; exact hne)
  rw [her]
  clear her ht
  go_enter Tryz.func13, Tryz.ntmps13
  go_wp2_with fail
  refine (hc1 _).mono ?_
  rintro e w1 ⟨b1, hcase⟩
  clear hc1
  rcases hcase with ⟨hn, rfl⟩ | ⟨hy, aoA, aoP, aoB, aoT, nA, nP, capA, capP, capB, capT, rfl, h1, hC, _, _⟩
  · have HX : Hid (er = 5) := by show _ = _; rw [← HE.out]; unfold Sg.proveErr; rw [if_neg hn]
    have bb : Below w.heap.size w (w1.alloc (.cells #[nilV, nilV, nilV, nilV] 39)) := b1.alloc b1.size _
    clear hn b1
    go_wp2_with fail
    exact bodyPost_ret (v := .tuple #[.string { data := #[] }, .int .i64 5]) (by simp [results, Tryz.results13, go_sem]) rfl ⟨ByteArray.empty, by rw [HX.out]; rfl, (HT.out (by rw [HX.out]; decide)).symm, bb⟩
  · have aB : Below w1.heap.size w1 (w1.alloc (.cells #[.slice aoA nA capA, .slice aoP nP capP, .slice aoB nP capB, .slice aoT nP capT] 39)) := (Below.refl _ _).alloc (Nat.le_refl _) _
    have hQ2 := Quad.new w1 (.slice aoA nA capA) (.slice aoP nP capP) (.slice aoB nP capB) (.slice aoT nP capT) 39
    have hC2 := hC.below aB
    have b2 := b1.trans (aB.mono b1.size)
    have HL : Hid (h.pers.length = nP) := hC.lenP
    obtain ⟨hn8, hn6⟩ := hC.few
    obtain ⟨g1, eg1⟩ : ∃ g1, w1.heap.size = g1 := ⟨_, rfl⟩
    have HE2 : Hid (er = if 0 ≤ i ∧ i < (nP : Int) ∧ 0 ≤ k ∧ k < 4 then 0 else 1) := by
      show _ = _
      rw [← HE.out]
      unfold Sg.proveErr
      rw [if_pos hy, hC.lenP]
    have HY : Hid (Sg.isPk h t) := hy
    clear hC aB b1 hy
    go_upto_region 4 with fail
    generalize (w1.alloc (.cells #[.slice aoA nA capA, .slice aoP nP capP, .slice aoB nP capB, .slice aoT nP capT] 39)) = w2 at *
    rw [eg1] at hQ2
    try rw [eg1]
    clear eg1
    obtain ⟨c0, c1, c2, c3⟩ := hQ2.cells
    by_cases hbad : i < 0 ∨ (nP : Int) ≤ i ∨ k < 0 ∨ (4 : Int) ≤ k
    · have HX : Hid (er = 1) := by show _ = _; rw [HE2.out, if_neg (by omega)]
      clear HE2 HE hC2
      by_cases h1 : i < 0
      · go_wp2_with fail
        exact bodyPost_ret (v := .tuple #[.string { data := #[] }, .int .i64 1]) (by simp [results, Tryz.results13, go_sem]) rfl ⟨ByteArray.empty, by rw [HX.out]; rfl, (HT.out (by rw [HX.out]; decide)).symm, b2⟩
      · by_cases h2 : (nP : Int) ≤ i
        · go_wp2_with fail
          exact bodyPost_ret (v := .tuple #[.string { data := #[] }, .int .i64 1]) (by simp [results, Tryz.results13, go_sem]) rfl ⟨ByteArray.empty, by rw [HX.out]; rfl, (HT.out (by rw [HX.out]; decide)).symm, b2⟩
        · by_cases h3 : k < 0
          · clear hbad
            go_wp2_with fail
            exact bodyPost_ret (v := .tuple #[.string { data := #[] }, .int .i64 1]) (by simp [results, Tryz.results13, go_sem]) rfl ⟨ByteArray.empty, by rw [HX.out]; rfl, (HT.out (by rw [HX.out]; decide)).symm, b2⟩
          · have h4 : (3 : Int) < k := by omega
            clear hbad
            go_wp2_with fail
            exact bodyPost_ret (v := .tuple #[.string { data := #[] }, .int .i64 1]) (by simp [results, Tryz.results13, go_sem]) rfl ⟨ByteArray.empty, by rw [HX.out]; rfl, (HT.out (by rw [HX.out]; decide)).symm, b2⟩
    · obtain ⟨a, rfl⟩ := Int.eq_ofNat_of_zero_le (show 0 ≤ i by omega)
      obtain ⟨c, rfl⟩ := Int.eq_ofNat_of_zero_le (show 0 ≤ k by omega)
      have ha : a < nP := by omega
      have hcc : c < 4 := by omega
      have HX : Hid (er = 0) := by show _ = _; rw [HE2.out, if_pos (by omega)]
      have HB : Hid (Sg.proveTxt h t (a : Int) (c : Int) = Sg.bunB (Sg.bunOf h a c)) := by
        show _ = _
        unfold Sg.proveTxt
        rw [if_pos (by rw [HE.out]; exact HX.out)]
        rfl
      have k1 : ¬ (a : Int) < 0 := by omega
      have k2 : ¬ (nP : Int) ≤ (a : Int) := by omega
      have k3 : ¬ (c : Int) < 0 := by omega
      have k4 : ¬ (3 : Int) < (c : Int) := by omega
      have hp : a < h.pers.length := by rw [HL.out]; exact ha
      have hto : a < (Sg.totals h).length := by rw [hC2.lenT]; exact ha
      obtain ⟨ht4, htf⟩ := hC2.totFine _ (List.getElem_mem hto)
      have e1 : h.pers.getD a [] = h.pers[a] := by rw [List.getD_eq_getElem?_getD, List.getElem?_eq_getElem hp]; rfl
      have e3 : (Sg.totals h).getD a [] = (Sg.totals h)[a] := by rw [List.getD_eq_getElem?_getD, List.getElem?_eq_getElem hto]; rfl
      have hper := hC2.allFine _ (List.getElem_mem hp)
      obtain ⟨hdf, hdl⟩ := perFine_drills hn8 hper h.accs (c : Int)
      obtain ⟨hs4, hsz4⟩ := stmt_small h.accs h.pers[a] (Sg.totals h)[a]
      have htc : Sg.fits ((Sg.totals h)[a].getD c 0) = true := htf _ (by rw [List.getD_eq_getElem?_getD, List.getElem?_eq_getElem (by omega)]; exact List.getElem_mem _)
      have HBB : Hid (Sg.bunB (Sg.bunOf h a c) = ((((Sg.beB (a : Int) 1 ++ Sg.beB (c : Int) 1 ++ Sg.beB ((nP - a : Nat) : Int) 1) ++ Sg.catB (((Sg.hdTo h (Sg.balances h) (Sg.totals h) nP).1).drop a)) ++ Sg.beB ((Sg.totals h)[a].getD c 0) 8 ++ Sg.beB ((Sg.drillsOf h.accs h.pers[a] (c : Int)).length : Int) 2) ++ Sg.catB ((Sg.drillsOf h.accs h.pers[a] (c : Int)).map Sg.drlB)) ++ Sg.catB (Sg.path (Sg.stmt h.accs h.pers[a] (Sg.totals h)[a]) c)) := by
        show _ = _
        unfold Sg.bunB Sg.bunOf
        simp only [e1, e3, HL.out, List.length_drop, Sg.hdrsTo_len, List.map_drop, Sg.hdrsTo_texts]
        show _ = _
        simp only [ByteArray.append_assoc]
        rfl
      have hhd := fun W (hb : Below w2.heap.size w2 W) => headers_any h (Sg.balances h) (Sg.totals h) aoA aoP aoB aoT nA nP capA capP capB capT W (hC2.below hb)
      have hdr := fun W (hb : Below w2.heap.size w2 W) => bDrills_any h.accs h.pers a (c : Int) aoA aoP nA capA nP capP (.slice aoB nP capB) (.slice aoT nP capT) W (hC2.accs.below hb) hC2.lenA (hC2.pers.below hb) hC2.lenP hp hn8 hn6 ⟨hper.1, fun e he => ⟨((hper.2 e he).2).1, ((hper.2 e he).2).2⟩⟩
      have hlv := fun W (hb : Below w2.heap.size w2 W) => leaves_any h.accs h.pers (Sg.totals h) a aoA aoP aoT nA capA nP capP nP capT (.slice aoB nP capB) W (hC2.accs.below hb) hC2.lenA (hC2.pers.below hb) hC2.lenP hp (hC2.tots.below hb) hC2.lenT hto ht4 htf hn8 hn6 hper
      have HTS : Hid (∀ W, Below w2.heap.size w2 W → ∃ b off b' off' cp, aoT = some ⟨b, off, none⟩ ∧ W.cell? ⟨b, off + a, none⟩ = some (.slice (some ⟨b', off', none⟩) 4 cp) ∧ W.cell? ⟨b', off' + c, none⟩ = some (.int .i64 ((Sg.totals h)[a].getD c 0))) := fun W hb => by
        obtain ⟨b, off, e, _, ao', cp, q1, q2⟩ := (hC2.tots.below hb).cell hto
        obtain ⟨b', off', e', _, q3⟩ := q2.cell' (k := c) (by omega)
        rw [ht4, e'] at q1
        exact ⟨b, off, b', off', cp, e, q1, q3⟩
      have HHL : Hid ((Sg.hdTo h (Sg.balances h) (Sg.totals h) nP).1.length = nP) := Sg.hdTo_len _ _ _ _
      have HHZ : Hid (∀ x ∈ (Sg.hdTo h (Sg.balances h) (Sg.totals h) nP).1, x.size ≤ 128) := fun x hx => by
        rw [← Sg.hdrsTo_texts] at hx
        obtain ⟨y, hy, rfl⟩ := List.mem_map.1 hx
        have k := Sg.hdrsTo_small h _ y hy
        unfold Sg.Hdr.small at k
        unfold Sg.hdrB
        simp only [ByteArray.size_append, Sg.beB_size]
        omega
      have hft : -9223372036854775808 ≤ (Sg.totals h)[a].getD c 0 ∧ (Sg.totals h)[a].getD c 0 ≤ 9223372036854775807 := of_decide_eq_true htc
      clear hbad HE2 HE HT e1 e3 hper ht4 htf htc
      generalize (Sg.hdTo h (Sg.balances h) (Sg.totals h) nP).1 = hts at *
      generalize (Sg.totals h)[a].getD c 0 = tv at *
      generalize Sg.stmt h.accs h.pers[a] (Sg.totals h)[a] = us at *
      generalize Sg.drillsOf h.accs h.pers[a] (c : Int) = ds at *
      go_wp2_with fail
      refine (hhd w2 (Below.refl _ _)).mono ?_
      rintro e w3 ⟨v3, rfl, HO3, hb3⟩
      obtain ⟨q3, cap3, ev3, _, hq3, hc3, hm3⟩ := OwnStrs.some_of HO3 (by rw [HHL.out]; omega)
      rw [HHL.out] at ev3 hc3
      subst ev3
      have hat3 := (own_at HO3).drop a
      rw [Nat.zero_add] at hat3
      have m1 : (0 : Int) ≤ (a : Int) := by omega
      have m2 : (a : Int) ≤ (nP : Int) := by omega
      have m3 : (nP : Int) ≤ (cap3 : Int) := by omega
      have m4 : (a : Int) ≤ (cap3 : Int) := by omega
      have m5 : ¬ cap3 = a := by omega
      have HA3 : Hid (StrsAt w3 q3 a (hts.drop a)) := hat3
      have hby := fun (n : Int) (s : Nat) (h1 : -9223372036854775808 ≤ n ∧ n ≤ 9223372036854775807) (h2 : s ≤ 8) (h3 : 1 ≤ s) W => bytes_txt n s W h1 h2 h3
      have HBY : Hid (∀ (n : Int) (s : Nat), (-9223372036854775808 ≤ n ∧ n ≤ 9223372036854775807) → s ≤ 8 → 1 ≤ s → ∀ W, Calls Tryz.prog 29 #[.int .i64 n, .int .i64 (s : Int)] W fun e w' => ∃ y : ByteArray, e = .returned (.string y) ∧ Hid (y = Sg.beB n s) ∧ y.size ≤ 8 ∧ Below W.heap.size W w') := hby
      have hq2c := hQ2.below hb3
      obtain ⟨m, hm⟩ : ∃ m, nP - a = m := ⟨_, rfl⟩
      have HML : Hid ((hts.drop a).length = m) := by show _ = _; rw [List.length_drop, HHL.out, hm]
      have HDZ : Hid (∀ x ∈ hts.drop a, x.size ≤ 128) := fun x hx => HHZ.out x (List.mem_of_mem_drop hx)
      have hm6 : m ≤ 6 := by omega
      rw [hm] at HBB
      clear hhd hat3 HO3 hby c0 c1 c2 c3 HHL HHZ
      generalize hts.drop a = hs at *
      go_wp2_with fail
      try rw [hm]
      refine (HBY.out (a : Int) 1 (by omega) (by omega) (by omega) _).mono ?_
      rintro e w4 ⟨y4, rfl, hy4, hys4, hb4⟩
      go_wp2_with fail
      refine (HBY.out (c : Int) 1 (by omega) (by omega) (by omega) _).mono ?_
      rintro e w5 ⟨y5, rfl, hy5, hys5, hb5⟩
      have q5 := cat y4 y5 (by omega)
      go_wp2_with fail
      refine (HBY.out (m : Int) 1 (by omega) (by omega) (by omega) _).mono ?_
      rintro e w6 ⟨y6, rfl, hy6, hys6, hb6⟩
      have q6 := cat (y4 ++ y5) y6 (by rw [cat_size]; omega)
      have hb36 : Below w3.heap.size w3 w6 := (hb4.trans (hb5.mono hb4.size)).trans (hb6.mono (by have := hb4.size; have := hb5.size; omega))
      have HI0 : Hid (StrsAt w6 q3 a hs ∧ Quad w6 g1 (.slice aoA nA capA) (.slice aoP nP capP) (.slice aoB nP capB) (.slice aoT nP capT) 39 ∧ Below w2.heap.size w2 w6) := ⟨HA3.out.below hb36 hq3, hq2c.below hb36, hb3.trans (hb36.mono hb3.size)⟩
      have HS0 : Hid (y4 ++ y5 ++ y6 = Sg.beB (a : Int) 1 ++ Sg.beB (c : Int) 1 ++ Sg.beB (m : Int) 1) := by show _ = _; rw [hy4.out, hy5.out, hy6.out]
      have hsz0 : (y4 ++ y5 ++ y6).size ≤ 24 := by rw [cat_size, cat_size]; omega
      clear hb3 hb4 hb5 hb6 hb36 HA3 hq2c hys4 hys5 hys6
      go_wp2_with fail
      clear q5 q6
      generalize y4 ++ y5 ++ y6 = s0 at *
      have HSO : Hid (∀ r, r < m → ∃ x, hs.getD r ByteArray.empty = x ∧ Sg.oTo s0 hs (r + 1) = Sg.oTo s0 hs r ++ x ∧ x.size ≤ 128) := fun r hr => by
        have hr' : r < hs.length := by rw [HML.out]; exact hr
        refine ⟨hs[r], by rw [List.getD_eq_getElem?_getD, List.getElem?_eq_getElem hr']; rfl, Sg.oTo_succ s0 hs hr', HDZ.out _ (List.getElem_mem _)⟩
      have HSS : Hid (∀ r, r ≤ m → (Sg.oTo s0 hs r).size ≤ 24 + r * 128) := fun r hr => by
        have := Sg.oTo_size s0 hs 128 r HDZ.out (by rw [HML.out]; exact hr)
        omega
      go_loopw [11, 12] (fun o j wr => ∃ r : Nat, r ≤ m ∧ j = .int .i64 (r : Int) ∧ (∃ s, o = .string s ∧ Hid (s = Sg.oTo s0 hs r)) ∧ Hid (StrsAt wr q3 a hs ∧ Quad wr g1 (.slice aoA nA capA) (.slice aoP nP capP) (.slice aoB nP capB) (.slice aoT nP capT) 39 ∧ Below w2.heap.size w2 wr)) (fun _ j _ => m - (intOf j).toNat)
      case atStart => exact ⟨0, by omega, rfl, ⟨_, rfl, by show _ = _; rw [Sg.oTo_zero]⟩, HI0⟩
      case round =>
        obtain ⟨r, hr, rfl, ⟨s, rfl, HSs⟩, HI⟩ := hrel
        obtain ⟨wz, ewz⟩ : ∃ z : World, z = wr := ⟨_, rfl⟩
        subst ewz
        clear HI0
        obtain ⟨hat, hq, hbz⟩ := HI.out
        have hsz : s.size ≤ 24 + r * 128 := by rw [HSs.out]; exact HSS.out r hr
        by_cases hlt : r < m
        · obtain ⟨x, ex, hsx, hxz⟩ := HSO.out r hlt
          have hcx := hat r (by rw [HML.out]; exact hlt)
          rw [ex] at hcx
          have j1 : (0 : Int) ≤ (r : Int) := by omega
          have j2 : (r : Int) < (m : Int) := by omega
          have qx := cat s x (by omega)
          have HN : Hid (s ++ x = Sg.oTo s0 hs (r + 1)) := by show _ = _; rw [hsx, HSs.out]
          clear hat hq ex hsx hdr hlv
          go_wp2_with fail
          go_roundw
          case rel => exact ⟨r + 1, by omega, by go_num, ⟨_, rfl, HN⟩, HI⟩
          case measure => simp [intOf]; omega
        · have er' : r = m := by omega
          subst er'
          have HS1 : Hid (s = s0 ++ Sg.catB hs) := by show _ = _; rw [HSs.out, ← HML.out, Sg.oTo_all]
          obtain ⟨c0, c1, c2, c3⟩ := hq.cells
          have j2 : ¬ (r : Int) < (r : Int) := by omega
          clear HSO HSS hat
          go_wp2_with fail
          refine (hdr wz hbz).mono ?_
          rintro e w7 ⟨v7, rfl, HO7, hb7⟩
          obtain ⟨aoD, capD, ev7, hin7⟩ := HO7.shape
          subst ev7
          have bz7 := hbz.trans (hb7.mono hbz.size)
          obtain ⟨bT, offT, bU, offU, cpU, eT, t1, t2⟩ := HTS.out w7 bz7
          subst eT
          obtain ⟨d0, d1, d2, d3⟩ := (hq.below hb7).cells
          obtain ⟨nd, hnd⟩ : ∃ nd, ds.length = nd := ⟨_, rfl⟩
          rw [hnd] at hdl HBB ⊢
          have a1 : (0 : Int) ≤ (a : Int) := by omega
          have a2 : (a : Int) < (nP : Int) := by omega
          have a3 : (0 : Int) ≤ (c : Int) := by omega
          have a4 : (c : Int) < 4 := by omega
          have HQ7 : Hid (Quad w7 g1 (.slice aoA nA capA) (.slice aoP nP capP) (.slice aoB nP capB) (.slice (some ⟨bT, offT, none⟩) nP capT) 39 ∧ DrlsIn w7 aoD ds ∧ Below w2.heap.size w2 w7) := ⟨hq.below hb7, hin7, bz7⟩
          clear hdr hq c0 c1 c2 c3 hb7 HO7 hin7 bz7
          go_wp2_with fail
          refine (HBY.out tv 8 hft (by omega) (by omega) _).mono ?_
          rintro e w8 ⟨y8, rfl, hy8, hys8, hb8⟩
          have q8 := cat s y8 (by omega)
          clear t1 t2 d0 d1 d2 d3
          go_wp2_with fail
          refine (HBY.out (nd : Int) 2 (by omega) (by omega) (by omega) _).mono ?_
          rintro e w9 ⟨y9, rfl, hy9, hys9, hb9⟩
          have q9 := cat (s ++ y8) y9 (by rw [cat_size]; omega)
          have hb79 : Below w7.heap.size w7 w9 := hb8.trans (hb9.mono hb8.size)
          have hin9 := HQ7.out.2.1.below hb79
          have hdt := drills_any ds aoD nd capD w9 hnd (by omega) hdf hin9
          have HQ9 : Hid (Quad w9 g1 (.slice aoA nA capA) (.slice aoP nP capP) (.slice aoB nP capB) (.slice (some ⟨bT, offT, none⟩) nP capT) 39 ∧ Below w2.heap.size w2 w9) := ⟨HQ7.out.1.below hb79, HQ7.out.2.2.trans (hb79.mono HQ7.out.2.2.size)⟩
          have HS2 : Hid (s ++ y8 ++ y9 = s0 ++ Sg.catB hs ++ Sg.beB tv 8 ++ Sg.beB (nd : Int) 2) := by show _ = _; rw [HS1.out, hy8.out, hy9.out]
          have hsz2 : (s ++ y8 ++ y9).size ≤ 1000 := by rw [cat_size, cat_size]; omega
          clear hb8 hb9 hb79 hin9 HQ7 HS1 hy8 hy9
          go_wp2_with fail
          clear q8 q9
          generalize s ++ y8 ++ y9 = s2 at *
          refine hdt.mono ?_
          rintro e w10 ⟨v10, rfl, HO10, hb10⟩
          clear hdt
          have HDL : Hid ((ds.map Sg.drlB).length = nd) := by show _ = _; rw [List.length_map]; exact hnd
          have HDZ2 : Hid (∀ x ∈ ds.map Sg.drlB, x.size ≤ 11) := fun x hx => by
            obtain ⟨d, _, rfl⟩ := List.mem_map.1 hx
            rw [Sg.drlB_size]; omega
          obtain ⟨aoX, capX, ev10, _, _, hin10⟩ := OwnStrs.shape HO10
          rw [HDL.out] at ev10
          subst ev10
          have HQ10 : Hid (StrsIn w10 aoX (ds.map Sg.drlB) ∧ Quad w10 g1 (.slice aoA nA capA) (.slice aoP nP capP) (.slice aoB nP capB) (.slice (some ⟨bT, offT, none⟩) nP capT) 39 ∧ Below w2.heap.size w2 w10) := ⟨hin10, HQ9.out.1.below hb10, HQ9.out.2.trans (hb10.mono HQ9.out.2.size)⟩
          generalize ds.map Sg.drlB = dts at *
          have HSO : Hid (∀ r, r < nd → ∃ (h : r < dts.length), Sg.oTo s2 dts (r + 1) = Sg.oTo s2 dts r ++ dts[r] ∧ (dts[r]).size ≤ 11) := fun r hr => by
            have hr' : r < dts.length := by rw [HDL.out]; exact hr
            exact ⟨hr', Sg.oTo_succ s2 dts hr', HDZ2.out _ (List.getElem_mem _)⟩
          have HSS : Hid (∀ r, r ≤ nd → (Sg.oTo s2 dts r).size ≤ 1000 + r * 11) := fun r hr => by
            have := Sg.oTo_size s2 dts 11 r HDZ2.out (by rw [HDL.out]; exact hr)
            omega
          clear HO10 hb10 HQ9 hin10 HI
          go_wp2_with fail
          go_loopw [11, 15] (fun o j wr => ∃ r : Nat, r ≤ nd ∧ j = .int .i64 (r : Int) ∧ (∃ s, o = .string s ∧ Hid (s = Sg.oTo s2 dts r)) ∧ Hid (StrsIn wr aoX dts ∧ Quad wr g1 (.slice aoA nA capA) (.slice aoP nP capP) (.slice aoB nP capB) (.slice (some ⟨bT, offT, none⟩) nP capT) 39 ∧ Below w2.heap.size w2 wr)) (fun _ j _ => nd - (intOf j).toNat)
          case atStart => exact ⟨0, by omega, rfl, ⟨_, rfl, by show _ = _; rw [Sg.oTo_zero]⟩, HQ10⟩
          case round =>
            obtain ⟨u, hu, rfl, ⟨z, rfl, HZs⟩, HI⟩ := hrel
            obtain ⟨wv, ewv⟩ : ∃ z : World, z = wr := ⟨_, rfl⟩
            subst ewv
            clear HQ10
            obtain ⟨hat, hq, hbv⟩ := HI.out
            have hzz : z.size ≤ 1000 + u * 11 := by rw [HZs.out]; exact HSS.out u hu
            by_cases hlt : u < nd
            · obtain ⟨hu', hsx, hxz⟩ := HSO.out u hlt
              obtain ⟨bX, offX, eX, hcx⟩ := strsIn_cell hat hu'
              subst eX
              generalize dts[u] = x at *
              have j1 : (0 : Int) ≤ (u : Int) := by omega
              have j3 : (u : Int) < (nd : Int) := by omega
              have qx := cat z x (by omega)
              have HN : Hid (z ++ x = Sg.oTo s2 dts (u + 1)) := by show _ = _; rw [hsx, HZs.out]
              clear hat hq hsx hlv
              go_wp2_with fail
              go_roundw
              case rel => exact ⟨u + 1, by omega, by go_num, ⟨_, rfl, HN⟩, HI⟩
              case measure => simp [intOf]; omega
            · have er' : u = nd := by omega
              subst er'
              have HS3 : Hid (z = s2 ++ Sg.catB dts) := by show _ = _; rw [HZs.out, ← HDL.out, Sg.oTo_all]
              obtain ⟨c0, c1, c2, c3⟩ := hq.cells
              have j3 : ¬ (u : Int) < (u : Int) := by omega
              clear HSO HSS hat
              go_wp2_with fail
              refine (hlv wv hbv).mono ?_
              rintro e w11 ⟨v11, rfl, HO11, hb11⟩
              obtain ⟨q11, cap11, ev11, _, hq11, hc11, hm11⟩ := OwnStrs.some_of HO11 (by omega)
              rw [hs4] at ev11 hc11
              subst ev11
              have hpa := refPathW_upto 4 us 4 c q11 0 cap11 w11 hs4 (by omega) hcc hc11 (by omega) (by unfold maxLen at hm11; omega) (fun s hs => by have := hsz4 s hs; omega) hq11 (own_at HO11)
              have bv11 := hbv.trans (hb11.mono hbv.size)
              clear hlv hq c0 c1 c2 c3 HO11 HI
              go_wp2_with fail
              refine hpa.mono ?_
              rintro e w12 ⟨v12, rfl, HO12, hb12⟩
              have hp2 : (Sg.path us c).length = 2 := by rw [Sg.path_length _ _ _ (Nat.le_refl _), hs4]; exact Sg.depth4 (by omega)
              obtain ⟨p, q, ep, hpz, hqz⟩ := Sg.two_of hp2 (Sg.path_sizes _ _ _ (Nat.le_refl _))
              rw [ep] at HO12 HBB
              obtain ⟨q12, cap12, ev12, _, hq12, hc12, hm12⟩ := OwnStrs.some_of HO12 (by simp)
              have ev12' : v12 = .slice (some ⟨q12, 0, none⟩) 2 cap12 := ev12
              subst ev12'
              have x0 : w12.cell? ⟨q12, 0, none⟩ = some (.string p) := own_at HO12 0 (by simp)
              have x1 : w12.cell? ⟨q12, 1, none⟩ = some (.string q) := own_at HO12 1 (by simp)
              have b12 := b2.trans ((bv11.trans (hb12.mono bv11.size)).mono b2.size)
              have r1 := cat z p (by omega)
              have r2 := cat (z ++ p) q (by rw [cat_size]; omega)
              have HF : Hid (z ++ p ++ q = Sg.proveTxt h t (a : Int) (c : Int)) := by
                show _ = _
                rw [HB.out, HBB.out, HS3.out, HS2.out, HS0.out]
                have e2 : Sg.catB [p, q] = p ++ q := by unfold Sg.catB; simp
                rw [e2]
                simp only [ByteArray.append_assoc]
              clear hpa hb11 hb12 bv11 hbv HO12 ep HBB HB HS3 HS2 HS0
              go_wp2_with fail
              go_quiet (fail)
              go_wp2_with fail
              exact bodyPost_ret (v := .tuple #[.string (z ++ p ++ q), .int .i64 0]) (by simp [results, Tryz.results13, go_sem]) rfl ⟨z ++ p ++ q, by rw [HX.out], HF, below_drewN b12 _⟩
end Go.Proofs.YtpkkhkkkgjhkeaaGreat
