/-
  THE WALK of Book.Summed (P11): the texts that are summed for a book, from the head down.
-/
import Derived.Test.YtpkkhkkkgjhkeabFirstOther
import Derived.Test.YtpkkhkkkgjhkeabClashMath
import Derived.Test.YtpkkhkkkgjhkeabHhead
import Derived.Test.YtpkkhkkkgjhkeabOff
import Derived.Deep.AppendLies
namespace Go.Proofs.Ytpkkhkkkgjhkeab
namespace Sg
theorem bnd_of {h : Hist} (hc : closeErr h = 0) : inBounds h = true := by
  unfold closeErr at hc
  by_cases e : inBounds h = true
  · exact e
  · rw [if_neg e] at hc
    exact absurd hc (by decide)
theorem entsT_short {h : Hist} (hi : inBounds h = true) : ∀ p ∈ h.pers, p.length ≤ 12 ∧ ∀ s ∈ p.map entB, s.size ≤ 100 := fun p hp => by
  obtain ⟨h1, h2⟩ := bnd_pers hi p hp
  refine ⟨h1, fun s hs => ?_⟩
  obtain ⟨e, he, rfl⟩ := List.mem_map.1 hs
  have := h2 e he
  rw [entB_size]; omega
theorem summedB_short {h : Hist} (hi : inBounds h = true) (h8 : h.accs.length ≤ 8) : ∀ t ∈ summedB h, t.size ≤ 140737488355328 := by
  intro t ht
  unfold summedB at ht
  simp only [List.mem_append, List.mem_reverse, List.mem_map, List.mem_singleton, List.mem_flatMap] at ht
  rcases ht with (⟨x, hx, rfl⟩ | rfl) | ⟨p, hp, ht⟩
  · have k := hdrsTo_small h _ x hx
    unfold Hdr.small at k
    unfold hdrB
    simp only [ByteArray.size_append, beB_size]
    omega
  · have := chartB_size h.accs (fun a ha => (bnd_accs hi a ha).1)
    omega
  · have := ofRoot_short (K := 100) (by omega) ((entsT_short hi p hp).2) t ht
    omega
/-- The texts of a book's periods so far. -/
def sumTo (h : Hist) (k : Nat) : List Txt := ((hdrsTo h h.pers.length).map hdrB).reverse ++ [chartB h.accs] ++ (h.pers.take k).flatMap (fun p => ofRoot (p.map entB))
theorem sumTo_zero (h : Hist) : sumTo h 0 = ((hdrsTo h h.pers.length).map hdrB).reverse ++ [chartB h.accs] := by unfold sumTo; simp
theorem sumTo_succ (h : Hist) {k : Nat} (hk : k < h.pers.length) : sumTo h (k + 1) = sumTo h k ++ ofRoot (h.pers[k].map entB) := by
  unfold sumTo
  rw [List.take_succ_eq_append_getElem hk, List.flatMap_append, ← List.append_assoc]
  simp
theorem sumTo_pos (h : Hist) (k : Nat) : 1 ≤ (sumTo h k).length := by unfold sumTo; simp; omega
theorem sumTo_all (h : Hist) : sumTo h h.pers.length = summedB h := by unfold sumTo summedB; rw [List.take_length]
theorem sumTo_len (h : Hist) (hp : h.pers.length ≤ 6) : ∀ k, k ≤ h.pers.length → (∀ p ∈ h.pers, p.length ≤ 4096) → (sumTo h k).length ≤ 7 + 8192 * k
  | 0, _, _ => by rw [sumTo_zero]; simp [hdrsTo_len]; omega
  | k + 1, hk, hq => by
    have ih := sumTo_len h hp k (by omega) hq
    rw [sumTo_succ h (by omega), List.length_append]
    have := (ofRoot_len (h.pers[k].map entB) (by rw [List.length_map]; exact hq _ (List.getElem_mem _))).2
    omega
end Sg
open Go.RowKit
set_option maxRecDepth 100000
attribute [local go_sem ↓] Go.wp_at_zero Go.wp_at_succ

set_option maxHeartbeats 12800000 in
/-- Book.Summed. -/
theorem bSummed_any (h : Sg.Hist) (aoA ao : Option Addr) (nA nP capA cap b : Nat) (rs : List Rec) (w : World) (hC : Closed w aoA nA nP h (.slice aoA nA capA) ao rs b) (hfine : ∀ p ∈ h.pers, perFine nA p) :
    Calls Try.prog 23 #[.agg #[.slice aoA nA capA, .slice ao nP cap]] w fun e w' => ∃ v, e = .returned v ∧ Hid (OwnStrs w' w.heap.size v (Sg.summedB h)) ∧ Below w.heap.size w w' := by
  obtain ⟨i0, hi, hz0, hz1, hz2⟩ := info_parts Try.infoStr
  obtain ⟨hn8, hn6, hn1⟩ := hC.nums
  have HC : Hid (Closed w aoA nA nP h (.slice aoA nA capA) ao rs b) := hC
  have HFN : Hid (∀ p ∈ h.pers, perFine nA p) := hfine
  have hao := hC.bk.at_
  subst hao
  have HLP : Hid (h.pers.length = nP) := hC.lenP
  have hhd := fun W (hb : Below w.heap.size w W) => bHeaders_any h aoA (some ⟨b, 0, none⟩) nA nP capA cap b rs W (hC.below hb) hfine
  have hch := fun W (hb : Below w.heap.size w W) => bChart_any h.accs aoA nA capA (.slice (some ⟨b, 0, none⟩) nP cap) W hC.lenA hn8 (hC.accs.below hb) (fun a ha => (Sg.bnd_accs hC.inb a ha).1)
  have hB0 : Two (w.alloc (.cells #[.slice aoA nA capA, .slice (some ⟨b, 0, none⟩) nP cap] 55)) w.heap.size (.slice aoA nA capA) (.slice (some ⟨b, 0, none⟩) nP cap) 55 := Two.new w _ _ _
  have aB : Below w.heap.size w (w.alloc (.cells #[.slice aoA nA capA, .slice (some ⟨b, 0, none⟩) nP cap] 55)) := (Below.refl _ _).alloc (Nat.le_refl _) _
  have HZ : Hid (Sg.sumTo h 0 = ((Sg.hdrsTo h nP).map Sg.hdrB).reverse ++ [Sg.chartB h.accs]) := by show _ = _; rw [Sg.sumTo_zero, hC.lenP]
  clear hC hfine
  go_enter Try.func23, Try.ntmps23
  go_wp2_with fail
  refine (hhd _ aB).mono ?_
  rintro e w1 ⟨v1, rfl, HO1, hb1⟩
  obtain ⟨ao1, cap1, ev1, _, _, hin1⟩ := HO1.out.shape
  rw [Sg.hdrsTo_len] at ev1
  subst ev1
  have hht := hdrTexts_any (Sg.hdrsTo h nP) ao1 nP cap1 w1 (Sg.hdrsTo_len h nP) (by omega) (Sg.hdrsTo_small h nP) hin1
  have be1 := aB.trans (hb1.mono aB.size)
  have hB1 := hB0.below hb1
  have hl1 := lt_of_block hB1
  clear hhd hB0 hb1 aB HO1 hin1
  go_wp2_with fail
  refine hht.mono ?_
  rintro e w2 ⟨v2, rfl, HO2, hb2⟩
  have hhl : ((Sg.hdrsTo h nP).map Sg.hdrB).length = nP := by rw [List.length_map, Sg.hdrsTo_len]
  generalize (Sg.hdrsTo h nP).map Sg.hdrB = hts at *
  obtain ⟨g2, cap2, ev2, hg2B, hg2w, _, _⟩ := HO2.out.some_of (by omega)
  rw [hhl] at ev2
  subst ev2
  have hrev := reverse_own HO2.out (by omega)
  have hB2 := hB1.below hb2
  have be2 := be1.trans (hb2.mono be1.size)
  clear hht hB1 hb2 be1
  go_wp2_with fail
  refine hrev.mono ?_
  rintro e w3 ⟨rfl, HO3, hg3⟩
  have hB3 : Two w3 w.heap.size (.slice aoA nA capA) (.slice (some ⟨b, 0, none⟩) nP cap) 55 := (hg3.block _ (lt_of_block hB2) (fun e => by simp [Value.ownBlock] at e; omega)).trans hB2
  have be3 : Below w.heap.size w w3 := be2.grown hg3 be2.size (fun j hj => by simp [Value.ownBlock] at hj; omega)
  obtain ⟨c0, c1⟩ := hB3.cells
  clear hrev hg3 HO2 hB2 be2
  go_wp2_with fail
  refine (hch _ be3).mono ?_
  rintro e w4 ⟨y, rfl, hy, hyz, hb4⟩
  have hB4 := hB3.below hb4
  have be4 := be3.trans (hb4.mono be3.size)
  have hown4 : w4.ownsRow w.heap.size 9 1 (.slice (some ⟨g2, 0, none⟩) nP cap2) nP (hts.reverse.map Value.string) := by
    have := (HO3.out.below hb4).base (base' := w.heap.size) (by omega)
    unfold OwnStrs at this
    rw [List.length_reverse, hhl] at this
    exact this
  have aN : Below w4.heap.size w4 (w4.alloc (.cells #[.string y] 9)) := (Below.refl _ _).alloc (Nat.le_refl _) _
  have hlb := lt_of_block hB4
  have hB5 := hB4.below aN
  clear hch hB3 be3 HO3 hb4 c0 c1
  go_wp2_with (at_builtin; (refine wpList_append_lies _ rfl _ _ 64 rfl w.heap.size 9 i0 (.string ByteArray.empty) 1 16 Try.underlying64 hi hz0 hz1 hz2 rfl (by decide) (.slice (some ⟨g2, 0, none⟩) nP cap2) nP (hts.reverse.map Value.string) rfl (hown4.alloc _) ⟨w4.heap.size, 0, none⟩ 1 1 [.string y] rfl rfl (World.news_of_block (cs := #[.string y]) (t := 9) (fr := (0, 0)) (heap_alloc_new w4 _)) (by simp [Value.oneCell']) (by omega) (by unfold maxLen; omega) (by omega) (by have := be4.size; simp; omega) (w4.heap.size + 1) (by simp) ?_))
  intro g5 cap5 w5 hown5 hgrow5 _ hlt5
  have be5 : Below w.heap.size w w5 := (be4.trans (aN.mono be4.size)).grown hgrow5 (by have := be4.size; simp; omega) (fun j hj => by simp [Value.ownBlock] at hj; omega)
  have hB6 : Two w5 w.heap.size (.slice aoA nA capA) (.slice (some ⟨b, 0, none⟩) nP cap) 55 := (hgrow5.block _ (by simp; omega) (fun e => by simp [Value.ownBlock] at e; omega)).trans hB5
  have HO5 : Hid (OwnStrs w5 w.heap.size (.slice (some ⟨g5, 0, none⟩) (nP + 1) cap5) (Sg.sumTo h 0)) := by
    show OwnStrs _ _ _ _
    rw [HZ.out, ← hy.out]
    exact OwnStrs.app (by rw [List.length_reverse, hhl]) rfl (by simpa using hown5)
  obtain ⟨c0, c1⟩ := hB6.cells
  clear hown4 hown5 hgrow5 aN hB4 hB5 be4 hy hyz HZ
  go_wp2_with fail
  clear c0 c1
  go_loopw [3, 19] (fun o i wr => ∃ k : Nat, k ≤ nP ∧ i = .int .i64 (k : Int) ∧ (∃ v, v = o ∧ Hid (OwnStrs wr w.heap.size v (Sg.sumTo h k))) ∧ Below w.heap.size w wr) (fun _ i _ => nP - (intOf i).toNat)
  case atStart => exact ⟨0, by omega, rfl, ⟨_, rfl, HO5⟩, be5⟩
  case round =>
    obtain ⟨k, hk, rfl, ⟨v, ev, HO⟩, hbr⟩ := hrel
    subst ev
    obtain ⟨wz, ewz⟩ : ∃ z : World, z = wr := ⟨_, rfl⟩
    subst ewz
    clear HO5 be5
    by_cases hlt : k < nP
    · obtain ⟨h1, h2, h3, h4, aoE, ne, capE, gg1, gg2, hper⟩ := (HC.out.below hbr).per hlt
      obtain ⟨x0, x1, x2, x3, x4, x5, x6, x7, x8, x9, x10⟩ := (HC.out.below hbr).bk.eleven h4
      have hbz := (HC.out.below hbr).bk.lt
      have hn12 := hper.le12
      have hen := fun W (hb0 : Below wz.heap.size wz W) => entries_any h.pers[k] (.slice aoA nA capA) (.map (some rs[k].m)) (.int .u64 (nHi rs[k].t0)) (.int .u64 (nLo rs[k].t0)) (.int .u64 (nHi rs[k].t1)) (.int .u64 (nLo rs[k].t1)) (.int .u64 (nHi rs[k].t2)) (.int .u64 (nLo rs[k].t2)) (.int .u64 (nHi rs[k].t3)) (.int .u64 (nLo rs[k].t3)) aoE ne capE W hper.len hn12 (hper.ents.below hb0) hper.ok
      have HSC : Hid (Sg.sumTo h (k + 1) = Sg.sumTo h k ++ Sg.ofRoot (h.pers[k].map Sg.entB)) := Sg.sumTo_succ h h1
      have hsl : (Sg.sumTo h k).length ≤ 7 + 8192 * k := Sg.sumTo_len h (by rw [HLP.out]; exact hn6) k (by omega) (fun p hp => by have := (HFN.out p hp).1; omega)
      have hsp := Sg.sumTo_pos h k
      have hdl : (h.pers[k].map Sg.entB).length ≤ 4096 := by rw [List.length_map, hper.len]; omega
      have hdz : ∀ s ∈ h.pers[k].map Sg.entB, s.size ≤ 140737488355328 := fun s hs => by
        have := (Sg.entsT_short HC.out.inb h.pers[k] (List.getElem_mem h1)).2 s hs
        omega
      rw [hper.eV] at x1
      generalize h.pers[k].map Sg.entB = tsE at *
      generalize Sg.sumTo h k = ss at *
      generalize rs[k].m = m at *
      generalize rs[k].t0 = t0 at *
      generalize rs[k].t1 = t1 at *
      generalize rs[k].t2 = t2 at *
      generalize rs[k].t3 = t3 at *
      obtain ⟨g0, cap0, ev0, hg0B, hg0w, _, _⟩ := HO.out.some_of hsp
      obtain ⟨n0, hn0⟩ : ∃ n, ss.length = n := ⟨_, rfl⟩
      rw [hn0] at ev0
      subst ev0
      have i1 : (0 : Int) ≤ (k : Int) := by omega
      have i2 : (k : Int) < (nP : Int) := by omega
      have aP : Below wz.heap.size wz (wz.alloc (.cells #[.slice aoA nA capA, .slice aoE ne capE, .map (some m), .int .u64 (nHi t0), .int .u64 (nLo t0), .int .u64 (nHi t1), .int .u64 (nLo t1), .int .u64 (nHi t2), .int .u64 (nLo t2), .int .u64 (nHi t3), .int .u64 (nLo t3)] 75)) := (Below.refl _ _).alloc (Nat.le_refl _) _
      have hPn := PerBox.new wz (.slice aoA nA capA) (.slice aoE ne capE) (.map (some m)) (.int .u64 (nHi t0)) (.int .u64 (nLo t0)) (.int .u64 (nHi t1)) (.int .u64 (nLo t1)) (.int .u64 (nHi t2)) (.int .u64 (nLo t2)) (.int .u64 (nHi t3)) (.int .u64 (nLo t3))
      have hOz := HO.out.below aP
      have bez := hbr.trans (aP.mono hbr.size)
      have HNN : Hid (ss.length = n0) := hn0
      clear hper gg1 gg2 HO hn0 HFN
      go_upto_region 7 with fail
      generalize (wz.alloc (.cells #[.slice aoA nA capA, .slice aoE ne capE, .map (some m), .int .u64 (nHi t0), .int .u64 (nLo t0), .int .u64 (nHi t1), .int .u64 (nLo t1), .int .u64 (nHi t2), .int .u64 (nLo t2), .int .u64 (nHi t3), .int .u64 (nLo t3)] 75)) = W0 at *
      obtain ⟨a0, a1, a2, a3, a4, a5, a6, a7, a8, a9, a10⟩ := elevens hPn
      clear hPn x0 x1 x2 x3 x4 x5 x6 x7 x8 x9 x10
      go_wp2_with fail
      refine (hen _ aP).mono ?_
      rintro e w6 ⟨v6, rfl, HO6, hb6⟩
      have hO6z := hOz.below hb6
      have be6 := bez.trans (hb6.mono bez.size)
      have hroot := ofRoot_own HO6.out hdl hdz
      have hrl := Sg.ofRoot_len tsE hdl
      clear hen hOz bez hb6 aP a0 a1 a2 a3 a4 a5 a6 a7 a8 a9 a10
      go_wp2_with fail
      refine hroot.mono ?_
      rintro e w7 ⟨v7, rfl, HO7, hb7⟩
      have hO7z := hO6z.below hb7
      have be7 := be6.trans (hb7.mono be6.size)
      generalize Sg.ofRoot tsE = rts at *
      obtain ⟨g7, cap7, ev7, hB7, hgw7, _, _⟩ := HO7.out.some_of hrl.1
      subst ev7
      have hn7 := HO7.out.news
      have hown7 : w7.ownsRow w.heap.size 9 1 (.slice (some ⟨g0, 0, none⟩) n0 cap0) n0 (ss.map Value.string) := by
        have := hO7z
        unfold OwnStrs at this
        rw [HNN.out] at this
        exact this
      rw [HNN.out] at hsl
      clear hroot hO6z hO7z be6 HO6 hb7
      go_wp2_with (at_builtin; (refine wpList_append_lies _ rfl _ _ 64 rfl w.heap.size 9 i0 (.string ByteArray.empty) 1 16 Try.underlying64 hi hz0 hz1 hz2 rfl (by decide) (.slice (some ⟨g0, 0, none⟩) n0 cap0) n0 (ss.map Value.string) rfl hown7 ⟨g7, 0, none⟩ rts.length cap7 (rts.map Value.string) rfl (by simp) hn7 (strs_oneCell rts) (by omega) (by unfold maxLen; omega) (by omega) be7.size w7.heap.size rfl ?_))
      intro g8 cap8 w8 hown8 hgrow8 _ hlt8
      have be8 : Below w.heap.size w w8 := be7.grown hgrow8 be7.size (fun j hj => (World.ownsRow.lt hown7 j hj).1)
      have HO8 : Hid (OwnStrs w8 w.heap.size (.slice (some ⟨g8, 0, none⟩) (n0 + rts.length) cap8) (Sg.sumTo h (k + 1))) := by
        show OwnStrs _ _ _ _
        rw [HSC.out]
        exact OwnStrs.app HNN.out rfl hown8
      clear hown8 hgrow8 hown7 hn7 be7
      go_wp2_with fail
      go_roundw
      case rel => exact ⟨k + 1, by omega, by go_num, ⟨_, rfl, HO8⟩, be8⟩
      case measure => simp [intOf]; omega
    · have HOn : Hid (OwnStrs wz w.heap.size v (Sg.summedB h)) := by
        show OwnStrs _ _ _ _
        rw [← Sg.sumTo_all, HLP.out, ← show k = nP by omega]
        exact HO.out
      go_wp2_with fail
      go_ret
      exact ⟨_, rfl, HOn, hbr⟩
end Go.Proofs.Ytpkkhkkkgjhkeab
