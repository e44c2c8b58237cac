/-
  THE WALK of Book.Headers.
-/
import Derived.Test.YtoadiibfmcjgaaaHleaves
import Derived.Test.YtoadiibfmcjgaaaBkText
import Derived.Test.YtoadiibfmcjgaaaHeaders
namespace Go.Proofs.Ytoadiibfmcjgaaa
open Go.RowKit Go.Maps
set_option maxRecDepth 100000
attribute [local go_sem ↓] Go.wp_at_zero Go.wp_at_succ

theorem headerB_eq (ac : List Sg.Acc) (i : Nat) (last : ByteArray) (p : List Sg.Ent) (b t : List Int) : Sg.headerB ac i last p b t = ({ data := #[72, 69, 65, 68] } : ByteArray) ++ Sg.beB i 1 ++ last ++ Sg.sumB (Sg.chartB ac) ++ Sg.sealsB ac p b t := by
  unfold Sg.headerB Sg.sealsB Sg.headT
  simp [ByteArray.append_assoc]

set_option maxHeartbeats 1600000 in
/-- Book.Headers. -/
theorem bHeaders_any (h : Sg.Hist) (aoA ao : Option Addr) (nA nP capA cap b : Nat) (rs : List Rec) (w : World) (hC : Closed w aoA nA nP h (.slice aoA nA capA) ao rs b) (hfine : ∀ p ∈ h.pers, perFine nA p) :
    Calls Try.prog 73 #[.agg #[.slice aoA nA capA, .slice ao nP cap]] w fun e w' => ∃ v, e = .returned v ∧ Hid (OwnStrs w' (w.heap.size + 1) v (Sg.hdTo h (Sg.balances h) (Sg.totals h) nP).1) ∧ Below w.heap.size w w' := by
  obtain ⟨i0, hi, hz0, hz1, hz2⟩ := info_parts Try.infoStr
  obtain ⟨hn8, hn6, hn1⟩ := hC.nums
  have HC : Hid (Closed w aoA nA nP h (.slice aoA nA capA) ao rs b) := hC
  have HFN : Hid (∀ p ∈ h.pers, perFine nA p) := hfine
  have hao := hC.bk.at_
  subst hao
  have hch := fun W (hb : Below w.heap.size w W) => bChart_any h.accs aoA nA capA (.slice (some ⟨b, 0, none⟩) nP cap) W hC.lenA hn8 (hC.accs.below hb) (fun a ha => (Sg.bnd_accs hC.inb a ha).1)
  have hB0 : Two (w.alloc (.cells #[.slice aoA nA capA, .slice (some ⟨b, 0, none⟩) nP cap] 93)) w.heap.size (.slice aoA nA capA) (.slice (some ⟨b, 0, none⟩) nP cap) 93 := Two.new w _ _ _
  have aB : Below w.heap.size w (w.alloc (.cells #[.slice aoA nA capA, .slice (some ⟨b, 0, none⟩) nP cap] 93)) := (Below.refl _ _).alloc (Nat.le_refl _) _
  clear hC hfine
  go_enter Try.func73, Try.ntmps73
  go_wp2_with fail
  refine (hch _ aB).mono ?_
  rintro e w1 ⟨y0, rfl, hy0, hys0, hb1⟩
  go_wp2_with fail
  refine (sumOf_txt y0 _ (by unfold maxLen; omega)).mono ?_
  rintro e w2 ⟨ch, rfl, hch2, hcs, hb2⟩
  have hB2 := (hB0.below hb1).below hb2
  obtain ⟨c0, c1⟩ := hB2.cells
  have hb02 : Below w.heap.size w w2 := (aB.trans (hb1.mono (by simp))).trans (hb2.mono (by have := hb1.size; simp at this; omega))
  have hs2 : w.heap.size + 1 ≤ w2.heap.size := by have := hb1.size; have := hb2.size; simp at *; omega
  have HCh : Hid (ch = Sg.sumB (Sg.chartB h.accs)) := by show _ = _; rw [hch2.out, hy0.out]
  clear hB0 hB2 hb1 hb2 aB hch hch2 hy0 hys0
  go_wp2_with fail
  clear c0 c1
  go_loopw [3, 5, 15] (fun o la i wr => ∃ k : Nat, k ≤ nP ∧ i = .int .i64 (k : Int) ∧ (∃ v, v = o ∧ Hid (OwnStrs wr (w.heap.size + 1) v (Sg.hdTo h (Sg.balances h) (Sg.totals h) k).1)) ∧ (∃ ll, la = .string ll ∧ Hid (ll = (Sg.hdTo h (Sg.balances h) (Sg.totals h) k).2)) ∧ Below w.heap.size w wr ∧ w.heap.size + 1 ≤ wr.heap.size) (fun _ _ i _ => nP - (intOf i).toNat)
  case atStart => exact ⟨0, by omega, rfl, ⟨_, rfl, World.ownsRow_nil _ _ _ _⟩, ⟨_, rfl, rfl⟩, hb02, hs2⟩
  case round =>
    obtain ⟨k, hk, rfl, ⟨v, ev, HO⟩, ⟨ll, rfl, hll⟩, hbr, hs1⟩ := hrel
    subst ev
    obtain ⟨wz, ewz⟩ : ∃ z : World, z = wr := ⟨_, rfl⟩
    subst ewz
    have hsz := hbr.size
    by_cases hlt : k < nP
    · obtain ⟨h1, h2, h3, h4, aoE, ne, capE, g1, g2, hper⟩ := (HC.out.below hbr).per hlt
      obtain ⟨x0, x1, x2, x3, x4, x5, x6, x7, x8, x9, x10⟩ := (HC.out.below hbr).bk.eleven h4
      have hbz := (HC.out.below hbr).bk.lt
      have hl2 : ll.size = 2 := by rw [hll.out]; exact Sg.hdTo_last h _ _ k
      have HS : Hid ((Sg.hdTo h (Sg.balances h) (Sg.totals h) (k + 1)).1 = (Sg.hdTo h (Sg.balances h) (Sg.totals h) k).1 ++ [({ data := #[72, 69, 65, 68] } : ByteArray) ++ Sg.beB k 1 ++ ll ++ ch ++ Sg.sealsB h.accs h.pers[k] rs[k].now [rs[k].t0, rs[k].t1, rs[k].t2, rs[k].t3]] ∧
          (Sg.hdTo h (Sg.balances h) (Sg.totals h) (k + 1)).2 = Sg.sumB (({ data := #[72, 69, 65, 68] } : ByteArray) ++ Sg.beB k 1 ++ ll ++ ch ++ Sg.sealsB h.accs h.pers[k] rs[k].now [rs[k].t0, rs[k].t1, rs[k].t2, rs[k].t3])) := by
        have e1 : h.pers.getD k [] = h.pers[k] := by rw [List.getD_eq_getElem?_getD, List.getElem?_eq_getElem h1]; rfl
        have e2 : (Sg.balances h).getD k [] = rs[k].now := by rw [List.getD_eq_getElem?_getD, List.getElem?_eq_getElem h2]; exact g1
        have e3 : (Sg.totals h).getD k [] = [rs[k].t0, rs[k].t1, rs[k].t2, rs[k].t3] := by rw [List.getD_eq_getElem?_getD, List.getElem?_eq_getElem h3]; exact g2
        rw [HCh.out, ← headerB_eq]
        simp only [Sg.hdTo, e1, e2, e3, ← hll.out]
        exact ⟨trivial, trivial⟩
      have hlen : (Sg.hdTo h (Sg.balances h) (Sg.totals h) k).1.length = k := Sg.hdTo_len h _ _ k
      have hcall := fun W (hb : Below wz.heap.size wz W) => seals_any h.accs h.pers[k] rs[k].now rs[k].t0 rs[k].t1 rs[k].t2 rs[k].t3 aoA aoE nA capA ne capE rs[k].m 600 W ((HC.out.below hbr).accs.below hb) HC.out.lenA hn8 (hper.ents.below hb) hper.len (HFN.out _ (List.getElem_mem h1)) hper.ok hper.lenN hper.fitN (hper.bal.below hb) hper.fitT
      rw [hper.eV] at x1
      generalize (Sg.hdTo h (Sg.balances h) (Sg.totals h) k).1 = hs at *
      generalize rs[k].m = m at *
      generalize rs[k].now = now at *
      generalize rs[k].t0 = t0 at *
      generalize rs[k].t1 = t1 at *
      generalize rs[k].t2 = t2 at *
      generalize rs[k].t3 = t3 at *
      generalize Sg.sealsB h.accs h.pers[k] now [t0, t1, t2, t3] = sb at *
      have i1 : (0 : Int) ≤ (k : Int) := by omega
      have i2 : (k : Int) < (nP : Int) := by omega
      clear hper g1 g2
      have aA : Below wz.heap.size wz (wz.alloc (.cells #[.slice aoA nA capA, .slice aoE ne capE, .map (some m), .int .u64 (nHi t0), .int .u64 (nLo t0), .int .u64 (nHi t1), .int .u64 (nLo t1), .int .u64 (nHi t2), .int .u64 (nLo t2), .int .u64 (nHi t3), .int .u64 (nLo t3)] 116)) := (Below.refl _ _).alloc (Nat.le_refl _) _
      have hP0 := PerBox.new wz (.slice aoA nA capA) (.slice aoE ne capE) (.map (some m)) (.int .u64 (nHi t0)) (.int .u64 (nLo t0)) (.int .u64 (nHi t1)) (.int .u64 (nLo t1)) (.int .u64 (nHi t2)) (.int .u64 (nLo t2)) (.int .u64 (nHi t3)) (.int .u64 (nLo t3))
      have hsg : ({ data := #[72, 69, 65, 68] } : ByteArray).size = 4 := rfl
      go_wp2_with fail
      go_region_held3 (fun w' => w'.cell? ⟨wz.heap.size, 0, none⟩ = some (.slice aoA nA capA) ∧ w'.cell? ⟨wz.heap.size, 1, none⟩ = some (.slice aoE ne capE) ∧ w'.cell? ⟨wz.heap.size, 2, none⟩ = some (.map (some m)) ∧ w'.cell? ⟨wz.heap.size, 3, none⟩ = some (.int .u64 (nHi t0)) ∧ w'.cell? ⟨wz.heap.size, 4, none⟩ = some (.int .u64 (nLo t0)) ∧ w'.cell? ⟨wz.heap.size, 5, none⟩ = some (.int .u64 (nHi t1)) ∧ w'.cell? ⟨wz.heap.size, 6, none⟩ = some (.int .u64 (nLo t1)) ∧ w'.cell? ⟨wz.heap.size, 7, none⟩ = some (.int .u64 (nHi t2)) ∧ w'.cell? ⟨wz.heap.size, 8, none⟩ = some (.int .u64 (nLo t2)) ∧ w'.cell? ⟨wz.heap.size, 9, none⟩ = some (.int .u64 (nHi t3)) ∧ w'.cell? ⟨wz.heap.size, 10, none⟩ = some (.int .u64 (nLo t3))) (first | assumption | exact elevens hP0 | exact elevens hP0.drew)
        (first
          | (go_at_call 70; refine (one_txt (k : Int) _).mono ?_; rintro e w3 ⟨y1, rfl, hy1, hys1, hb3⟩; have q1 := cat ({ data := #[72, 69, 65, 68] } : ByteArray) y1 (by rw [hsg]; omega); have q2 := cat (({ data := #[72, 69, 65, 68] } : ByteArray) ++ y1) ll (by rw [cat_size, hsg]; omega); have q3 := cat (({ data := #[72, 69, 65, 68] } : ByteArray) ++ y1 ++ ll) ch (by rw [cat_size, cat_size, hsg]; omega); have hP3 := PerBox.below (by first | exact hP0.drew | exact hP0) hb3; have hh3 := elevens hP3; have b3 : Below wz.heap.size wz w3 := (by first | exact aA.drew.trans (hb3.mono (by simp)) | exact aA.trans (hb3.mono (by simp))))
          | (go_at_call 95; refine (hcall _ (by first | exact b3 | exact b3.drew)).mono ?_; rintro e w4 ⟨y2, rfl, hy2, hys2, hb4⟩; have q4 := cat (({ data := #[72, 69, 65, 68] } : ByteArray) ++ y1 ++ ll ++ ch) y2 (by rw [cat_size, cat_size, cat_size, hsg]; omega); have hP4 := (by first | exact PerBox.below hP3 hb4 | exact PerBox.below hP3.drew hb4 : PerBox w4 wz.heap.size (.slice aoA nA capA) (.slice aoE ne capE) (.map (some m)) (.int .u64 (nHi t0)) (.int .u64 (nLo t0)) (.int .u64 (nHi t1)) (.int .u64 (nLo t1)) (.int .u64 (nHi t2)) (.int .u64 (nLo t2)) (.int .u64 (nHi t3)) (.int .u64 (nLo t3))); have hh4 := elevens hP4; have b4 : Below wz.heap.size wz w4 := (by first | exact b3.trans (hb4.mono b3.size) | exact b3.drew.trans (hb4.mono b3.size))))
      have hds : (({ data := #[72, 69, 65, 68] } : ByteArray) ++ y1 ++ ll ++ ch ++ y2).size ≤ 100 := by rw [cat_size, cat_size, cat_size, cat_size, hsg]; omega
      have HS1 : Hid ((Sg.hdTo h (Sg.balances h) (Sg.totals h) (k + 1)).1 = hs ++ [(({ data := #[72, 69, 65, 68] } : ByteArray) ++ y1 ++ ll ++ ch ++ y2)]) := by show _ = _; rw [HS.out.1, hy1.out, hy2.out]
      have HS2 : Hid ((Sg.hdTo h (Sg.balances h) (Sg.totals h) (k + 1)).2 = Sg.sumB (({ data := #[72, 69, 65, 68] } : ByteArray) ++ y1 ++ ll ++ ch ++ y2)) := by show _ = _; rw [HS.out.2, hy1.out, hy2.out]
      have hown4 := HO.out.below b4
      unfold OwnStrs at hown4
      have hs4 := b4.size
      clear hh3 hh4 hP0 hP3 hP4 hb3 hb4 b3 q1 q2 q3 q4 HS hcall x0 x1 x2 x3 x4 x5 x6 x7 x8 x9 x10 aA HO hy1 hy2
      go_wp2_with (at_builtin; refine wpList_append_own _ rfl _ _ 24 rfl (w.heap.size + 1) 9 i0 (.string ByteArray.empty) 1 16 Try.underlying24 hi hz0 hz1 hz2 rfl (by decide) _ _ _ rfl (hown4.alloc _) ⟨w4.heap.size, 0, none⟩ 1 1 [.string (({ data := #[72, 69, 65, 68] } : ByteArray) ++ y1 ++ ll ++ ch ++ y2)] rfl rfl ?c1 ?c2 ?c3 ?c4 ?c5 ?_)
      case c1 =>
        intro j u hj
        match j, hj with
        | 0, hj => simp at hj; subst hj; simp [Addr.add]
      case c2 => intro u hu; simp at hu; subst hu; rfl
      case c3 => unfold maxLen; omega
      case c4 => omega
      case c5 => simp; omega
      intro v' w5 hown' hgrow _
      have hb5 := below_push (B := w.heap.size + 1) (by omega) hown4 (b4.mono (by omega)) hgrow
      have HO5 : Hid (OwnStrs w5 (w.heap.size + 1) v' (Sg.hdTo h (Sg.balances h) (Sg.totals h) (k + 1)).1) := by
        show OwnStrs _ _ _ _
        rw [HS1.out]
        exact OwnStrs.push (by rw [hlen]; exact hown')
      have hbe5 : Below w.heap.size w w5 := hbr.trans (hb5.mono (by omega))
      have hs5 := hb5.size
      clear hgrow hown4 hown' hb5 HS1
      go_wp2_with fail
      refine (sumOf_txt (({ data := #[72, 69, 65, 68] } : ByteArray) ++ y1 ++ ll ++ ch ++ y2) _ (by unfold maxLen; omega)).mono ?_
      rintro e w6 ⟨y6, rfl, hy6, hys6, hb6⟩
      have HO6 : Hid (OwnStrs w6 (w.heap.size + 1) v' (Sg.hdTo h (Sg.balances h) (Sg.totals h) (k + 1)).1) := HO5.out.below hb6
      have HL6 : Hid (y6 = (Sg.hdTo h (Sg.balances h) (Sg.totals h) (k + 1)).2) := by show _ = _; rw [HS2.out, hy6.out]
      have hbe6 : Below w.heap.size w w6 := hbe5.trans (hb6.mono (by omega))
      have hs6 := hb6.size
      clear hb6 HO5 hy6 HS2
      go_wp2_with fail
      go_roundw
      case rel => exact ⟨k + 1, by omega, by go_num, ⟨_, rfl, HO6⟩, ⟨_, rfl, HL6⟩, hbe6, by omega⟩
      case measure => simp [intOf]; omega
    · have HOn : Hid (OwnStrs wz (w.heap.size + 1) v (Sg.hdTo h (Sg.balances h) (Sg.totals h) nP).1) := by
        have := HO.out
        rw [show k = nP by omega] at this
        exact this
      go_wp2_with fail
      go_ret
      exact ⟨_, rfl, HOn, hbr⟩

end Go.Proofs.Ytoadiibfmcjgaaa
