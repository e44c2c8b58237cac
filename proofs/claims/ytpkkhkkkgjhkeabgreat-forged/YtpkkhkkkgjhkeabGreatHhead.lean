import Derived.Test.YtpkkhkkkgjhkeabGreatHheads
import Derived.Test.YtpkkhkkkgjhkeabGreatRefSeal
/-
  THE WALKS of Book.Head, seal.Seal.
-/
namespace Go.Proofs.YtpkkhkkkgjhkeabGreat
open Go.RowKit Go.Maps
set_option maxRecDepth 100000
attribute [local go_sem ↓] Go.wp_at_zero Go.wp_at_succ

set_option maxHeartbeats 1600000 in
/-- Book.Head. -/
theorem bHead_any (h : Sg.Hist) (aoA ao : Option Addr) (nA nP capA cap b : Nat) (rs : List Rec) (w : World) (hC : Closed w aoA nA nP h (.slice aoA nA capA) ao rs b) (hfine : ∀ p ∈ h.pers, perFine nA p) :
    Calls Tryz.prog 19 #[.agg #[.slice aoA nA capA, .slice ao nP cap]] w fun e w' => ∃ y, e = .returned (.string y) ∧ Hid (y = (Sg.hdTo h (Sg.balances h) (Sg.totals h) nP).2) ∧ Below w.heap.size w w' := by
  obtain ⟨hn8, hn6, hn1⟩ := hC.nums
  obtain ⟨k, hk⟩ : ∃ k, nP = k + 1 := ⟨nP - 1, by omega⟩
  obtain ⟨hs, res, hd, hlen, hgd, hsm, HRes, hcall⟩ : ∃ (hs : List Sg.Hdr) (res : ByteArray) (hd : Sg.Hdr), hs.length = nP ∧ hs[k]? = some hd ∧ hd.small ∧ Hid (res = (Sg.hdTo h (Sg.balances h) (Sg.totals h) nP).2 ∧ res = Sg.sumB (Sg.hdrB hd)) ∧
      ∀ W, Below w.heap.size w W → Calls Tryz.prog 36 #[.agg #[.slice aoA nA capA, .slice ao nP cap]] W fun e w' => ∃ v, e = .returned v ∧ Hid (OwnH w' (W.heap.size + 1) v hs) ∧ Below W.heap.size W w' := by
    refine ⟨Sg.hdrsTo h nP, (Sg.hdTo h (Sg.balances h) (Sg.totals h) nP).2, Sg.hdrOf h k, Sg.hdrsTo_len h nP, Sg.hdrsTo_get h (by omega), Sg.hdrOf_small h k, ⟨rfl, by rw [Sg.hdrSum_of, hk]⟩, fun W hb => bHeaders_any h aoA ao nA nP capA cap b rs W (hC.below hb) hfine⟩
  have hkn : k < nP := by omega
  have hwrp : IntKind.i64.wrap ((nP : Int) - 1) = (k : Int) := by rw [IntWalk.i64_in _ (by omega)]; omega
  clear hC hfine hk
  have aB : Below w.heap.size w (w.alloc (.cells #[.slice aoA nA capA, .slice ao nP cap] 65)) := (Below.refl _ _).alloc (Nat.le_refl _) _
  have hsum := fun W => hdrSum_any hd W hsm
  go_enter Tryz.func19, Tryz.ntmps19
  go_wp2_with fail
  refine (hcall _ aB).mono ?_
  rintro e w1 ⟨v, rfl, HO, hb1⟩
  have hb01 : Below w.heap.size w w1 := aB.trans (hb1.mono (by simp))
  obtain ⟨ao', cap', hv, hc1, hc2, hin⟩ := HO.out.shape
  obtain ⟨b', off, hao, hbw, hdat⟩ := hin.cell (k := k) (by omega)
  have ehd : hs[k]'(by omega) = hd := by
    rw [List.getElem?_eq_getElem (by omega)] at hgd
    exact Option.some.inj hgd
  rw [ehd] at hdat
  rw [hlen] at hv
  subst hv hao
  obtain ⟨mark, num, ahead, chart, ents, jour, stat, bals⟩ := hd
  obtain ⟨d0, d1, d2, d3, d4, d5, d6, d7⟩ := hdat
  simp only at d0 d1 d2 d3 d4 d5 d6 d7 hsum
  have i1 : (0 : Int) ≤ (k : Int) := by omega
  have i2 : (k : Int) < (nP : Int) := by omega
  clear hlen hcall HO hin hgd ehd hc1 hc2
  go_wp2_with fail
  refine (hsum _).mono ?_
  rintro e w2 ⟨y, rfl, hy, hys, hb2⟩
  clear d0 d1 d2 d3 d4 d5 d6 d7 hsum hys
  go_wp2_with fail
  go_ret
  exact ⟨_, rfl, by show _ = _; rw [hy.out, ← HRes.out.2, HRes.out.1], hb01.trans (hb2.mono hb01.size)⟩

set_option maxHeartbeats 3200000 in
/-- seal.Seal: of any history. -/
theorem seal_any (h : Sg.Hist) (aoA aoP : Option Addr) (nA nP capA capP : Nat) (w : World) (hH : HistIn w aoA aoP nA nP h) (hnc : nA ≤ capA) (hcap : capA ≤ 9223372036854775807) :
    Calls Tryz.prog 7 #[.agg #[.slice aoA nA capA, .slice aoP nP capP]] w fun e w' => e = .returned (.tuple #[.string (Sg.package h), .string (Sg.headOf h), .int .i64 (Sg.closeErr h)]) ∧ Below w.heap.size w w' := by
  have aB : Below w.heap.size w (w.alloc (.cells #[.slice aoA nA capA, .slice aoP nP capP] 26)) := (Below.refl _ _).alloc (Nat.le_refl _) _
  have HH : Hid (HistIn w aoA aoP nA nP h) := hH
  have hcall := bClose_any h aoA aoP nA nP capA capP _ (hH.below aB) hnc hcap
  clear hH
  go_enter Tryz.func7, Tryz.ntmps7
  go_wp2_with fail
  refine hcall.mono ?_
  rintro e w1 ⟨hb1, hcase⟩
  have hb01 : Below w.heap.size w w1 := aB.trans (hb1.mono (by simp))
  have hs1 := hb01.size
  clear hcall hb1
  rcases hcase with ⟨he, rfl⟩ | ⟨hib, he, ao, cap, rs, b, rfl, hcc, hBk, hEv⟩
  · have qz : (Sg.closeErr h != 0) = true := by rw [bne_iff_ne]; exact he
    have HP : Hid (Sg.package h = ByteArray.empty ∧ Sg.headOf h = ByteArray.empty) := by
      unfold Sg.package Sg.headOf; rw [if_neg he, if_neg he]; exact ⟨rfl, rfl⟩
    clear he
    generalize hee : Sg.closeErr h = ee at *
    have HEE : Hid (Sg.closeErr h = ee) := hee
    clear hee
    go_wp2_with fail
    refine bodyPost_ret (v := .tuple #[.string ByteArray.empty, .string ByteArray.empty, .int .i64 ee]) (by simp [results, Tryz.results7, go_sem]; rfl) rfl ⟨by rw [HP.out.1, HP.out.2, HEE.out], hb01.alloc hs1 _⟩
  · have HP : Hid (Sg.package h = Sg.pkTo h (Sg.balances h) (Sg.totals h) nP ∧ Sg.headOf h = (Sg.hdTo h (Sg.balances h) (Sg.totals h) nP).2 ∧ Sg.closeErr h = 0) := by
      unfold Sg.package Sg.headOf; rw [if_pos he, if_pos he, HH.out.lenP]; exact ⟨rfl, rfl, he⟩
    have hfine := fine_of HH.out hib he
    have hC : Closed w1 aoA nA nP h (.slice aoA nA capA) ao rs b := ⟨HH.out.accs.below hb01, HH.out.lenA, HH.out.lenP, hib, HH.out.sizQ, hBk⟩
    have htx := fun W (hb : Below w1.heap.size w1 W) => bText_any h aoA ao nA nP capA cap b rs W (hC.below hb)
    have hhd := fun W (hb : Below w1.heap.size w1 W) => bHead_any h aoA ao nA nP capA cap b rs W (hC.below hb) hfine
    clear he hib hBk hC hfine hEv
    generalize Sg.pkTo h (Sg.balances h) (Sg.totals h) nP = pk at *
    generalize (Sg.hdTo h (Sg.balances h) (Sg.totals h) nP).2 = hd at *
    have aA : Below w1.heap.size w1 (w1.alloc (.cells #[.slice aoA nA capA, .slice ao nP cap] 65)) := (Below.refl _ _).alloc (Nat.le_refl _) _
    have hT0 : Two (w1.alloc (.cells #[.slice aoA nA capA, .slice ao nP cap] 65)) w1.heap.size (.slice aoA nA capA) (.slice ao nP cap) 65 := Two.new _ _ _ _
    go_wp2_with fail
    go_region_held3 (fun w' => w'.cell? ⟨w1.heap.size, 0, none⟩ = some (.slice aoA nA capA) ∧ w'.cell? ⟨w1.heap.size, 1, none⟩ = some (.slice ao nP cap)) (first | assumption | exact hT0.cells | exact two_drew hT0.cells | exact two_drew (x := .slice aoA nA capA) (y := .slice ao nP cap) (by assumption))
      (first
        | (go_at_call 18; refine (htx _ (by first | exact aA | exact aA.drew)).mono ?_; rintro e w2 ⟨y1, rfl, hy1, hb2⟩; have hT2 := Two.below (by first | exact hT0.drew | exact hT0) hb2; have hh2 := hT2.cells; have b2 : Below w1.heap.size w1 w2 := (by first | exact aA.drew.trans (hb2.mono (by simp)) | exact aA.trans (hb2.mono (by simp))))
        | (go_at_call 19; refine (hhd _ (by first | exact b2 | exact b2.drew)).mono ?_; rintro e w3 ⟨y2, rfl, hy2, hb3⟩; have hT3 := (by first | exact Two.below hT2 hb3 | exact Two.below hT2.drew hb3 : Two w3 w1.heap.size (.slice aoA nA capA) (.slice ao nP cap) 65); have hh3 := hT3.cells; have b3 : Below w1.heap.size w1 w3 := (by first | exact b2.trans (hb3.mono b2.size) | exact b2.drew.trans (hb3.mono b2.size))))
    have hbe : Below w.heap.size w w3 := hb01.trans (b3.mono hs1)
    clear hh2 hh3 hT0 hT2 hT3 hb2 hb3 b2 b3 htx hhd
    go_wp2_with fail
    refine bodyPost_ret (v := .tuple #[.string y1, .string y2, .int .i64 0]) (by simp [results, Tryz.results7, go_sem]) rfl ⟨by rw [HP.out.1, HP.out.2.1, HP.out.2.2, hy1.out, hy2.out], hbe⟩
end Go.Proofs.YtpkkhkkkgjhkeabGreat
