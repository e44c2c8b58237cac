/-
  THE WALK of audit.Prove (P9).
-/
import Derived.Test.YtpkkhkkkgjhkeabGreatBunOf
import Derived.Test.YtpkkhkkkgjhkeabGreatClashes
namespace Go.Proofs.YtpkkhkkkgjhkeabGreat
namespace Sg
/-- Prove's error (P9). -/
def proveErr (h : Hist) (t : Txt) (i k : Int) : Int := if isPk h t then (if 0 ≤ i ∧ i < (h.pers.length : Int) ∧ 0 ≤ k ∧ k < 4 then 0 else 1) else 5
/-- What Prove writes. -/
def proveTxt (h : Hist) (t : Txt) (i k : Int) : Txt := if proveErr h t i k = 0 then bunB (bunOf h i.toNat k.toNat) else ByteArray.empty
theorem proveTxt_none {h : Hist} {t : Txt} {i k : Int} (h0 : proveErr h t i k ≠ 0) : proveTxt h t i k = ByteArray.empty := by unfold proveTxt; rw [if_neg h0]
end Sg
open Go.RowKit
set_option maxRecDepth 100000
attribute [local go_sem ↓] Go.wp_at_zero Go.wp_at_succ

theorem Closed.total_fits {w : World} {aoA : Option Addr} {nA nP : Nat} {h : Sg.Hist} {A : Value} {ao : Option Addr} {rs : List Rec} {b i k : Nat} (hC : Closed w aoA nA nP h A ao rs b) (hi : i < nP) (hk : k < 4) : Sg.fits (((Sg.totals h).getD i []).getD k 0) = true := by
  obtain ⟨h1, h2, h3, h4, aoE, ne, capE, gg1, gg2, hper⟩ := hC.per hi
  have e3 : (Sg.totals h).getD i [] = [rs[i].t0, rs[i].t1, rs[i].t2, rs[i].t3] := by rw [List.getD_eq_getElem?_getD, List.getElem?_eq_getElem h3]; exact gg2
  rw [e3]
  exact hper.fitT _ (by rw [List.getD_eq_getElem?_getD, List.getElem?_eq_getElem (by simpa using hk)]; exact List.getElem_mem _)

set_option maxHeartbeats 6400000 in
/-- audit.Prove. -/
theorem prove_any (t : ByteArray) (i k : Int) (w : World) (hik : -9223372036854775808 ≤ i ∧ i ≤ 9223372036854775807) :
    Calls Tryz.prog 9 #[.string t, .int .i64 i, .int .i64 k] w fun e w' => ∃ y, e = .returned (.tuple #[.string y, .int .i64 (Sg.proveErr (Sg.pdHist (Sg.tx t)) t i k)]) ∧ Hid (y = Sg.proveTxt (Sg.pdHist (Sg.tx t)) t i k) ∧ Below w.heap.size w w' := by
  have hc1 := fun W => bRead_any t W
  generalize Sg.pdHist (Sg.tx t) = h at *
  obtain ⟨er, her⟩ : ∃ er, Sg.proveErr h t i k = er := ⟨_, rfl⟩
  have HE : Hid (Sg.proveErr h t i k = er) := her
  have HT : Hid (er ≠ 0 → Sg.proveTxt h t i k = ByteArray.empty) := fun hne => Sg.proveTxt_none (by rw [HE.out]; exact hne)
  rw [her]
  clear her
  go_enter Tryz.func9, Tryz.ntmps9
  go_wp2_with fail
  refine (hc1 _).mono ?_
  rintro e w1 ⟨b1, hcase⟩
  clear hc1
  rcases hcase with ⟨hn, rfl⟩ | ⟨hy, aoA, nA, nP, capA, ao, cap, rs, b, rfl, _, hC, _⟩
  · have HX : Hid (er = 5) := by show _ = _; rw [← HE.out]; unfold Sg.proveErr; rw [if_neg hn]
    have bb : Below w.heap.size w (w1.alloc (.cells #[nilV, nilV] 65)) := b1.alloc b1.size _
    clear hn b1
    go_wp2_with fail
    exact bodyPost_ret (v := .tuple #[.string { data := #[] }, .int .i64 5]) (by simp [results, Tryz.results9, go_sem]) rfl ⟨ByteArray.empty, by rw [HX.out]; rfl, (HT.out (by rw [HX.out]; decide)).symm, bb⟩
  · have aB : Below w1.heap.size w1 (w1.alloc (.cells #[.slice aoA nA capA, .slice ao nP cap] 65)) := (Below.refl _ _).alloc (Nat.le_refl _) _
    have hT2 := Two.new w1 (.slice aoA nA capA) (.slice ao nP cap) 65
    have hC2 := hC.below aB
    have b2 := b1.trans (aB.mono b1.size)
    have HY : Hid (Sg.isPk h t) := hy
    have HL : Hid (h.pers.length = nP) := hC.lenP
    have hnum := hC.nums
    have fh := hC2.fine hy.1
    obtain ⟨g1, eg1⟩ : ∃ g1, w1.heap.size = g1 := ⟨_, rfl⟩
    have HE2 : Hid (er = if 0 ≤ i ∧ i < (nP : Int) ∧ 0 ≤ k ∧ k < 4 then 0 else 1) := by
      show _ = _
      rw [← HE.out]
      unfold Sg.proveErr
      rw [if_pos hy, hC.lenP]
    clear hC aB b1 hy
    go_upto_region 4 with fail
    generalize (w1.alloc (.cells #[.slice aoA nA capA, .slice ao nP cap] 65)) = w2 at *
    rw [eg1] at hT2
    try rw [eg1]
    clear eg1
    obtain ⟨c0, c1⟩ := hT2.cells
    by_cases h1 : i < 0
    · have HX : Hid (er = 1) := by show _ = _; rw [HE2.out, if_neg (by omega)]
      clear HE2 HE hC2 fh
      go_wp2_with fail
      exact bodyPost_ret (v := .tuple #[.string { data := #[] }, .int .i64 1]) (by simp [results, Tryz.results9, go_sem]) rfl ⟨ByteArray.empty, by rw [HX.out]; rfl, (HT.out (by rw [HX.out]; decide)).symm, b2⟩
    · by_cases h2 : (nP : Int) ≤ i
      · have HX : Hid (er = 1) := by show _ = _; rw [HE2.out, if_neg (by omega)]
        clear HE2 HE hC2 fh
        go_wp2_with fail
        exact bodyPost_ret (v := .tuple #[.string { data := #[] }, .int .i64 1]) (by simp [results, Tryz.results9, go_sem]) rfl ⟨ByteArray.empty, by rw [HX.out]; rfl, (HT.out (by rw [HX.out]; decide)).symm, b2⟩
      · by_cases h3 : k < 0
        · have HX : Hid (er = 1) := by show _ = _; rw [HE2.out, if_neg (by omega)]
          clear HE2 HE hC2 fh
          go_wp2_with fail
          exact bodyPost_ret (v := .tuple #[.string { data := #[] }, .int .i64 1]) (by simp [results, Tryz.results9, go_sem]) rfl ⟨ByteArray.empty, by rw [HX.out]; rfl, (HT.out (by rw [HX.out]; decide)).symm, b2⟩
        · by_cases h4 : (4 : Int) ≤ k
          · have HX : Hid (er = 1) := by show _ = _; rw [HE2.out, if_neg (by omega)]
            clear HE2 HE hC2 fh
            go_wp2_with fail
            exact bodyPost_ret (v := .tuple #[.string { data := #[] }, .int .i64 1]) (by simp [results, Tryz.results9, go_sem]) rfl ⟨ByteArray.empty, by rw [HX.out]; rfl, (HT.out (by rw [HX.out]; decide)).symm, b2⟩
          · obtain ⟨a, rfl⟩ := Int.eq_ofNat_of_zero_le (show 0 ≤ i by omega)
            obtain ⟨c, rfl⟩ := Int.eq_ofNat_of_zero_le (show 0 ≤ k by omega)
            have HX : Hid (er = 0) := by show _ = _; rw [HE2.out, if_pos (by omega)]
            have HB : Hid (Sg.proveTxt h t (a : Int) (c : Int) = Sg.bunB (Sg.bunOf h a c)) := by
              show _ = _
              unfold Sg.proveTxt
              rw [if_pos (by rw [HE.out]; exact HX.out)]
              rfl
            have hof := bunOf_any h aoA ao nA nP capA cap b a c rs w2 hC2 fh (by omega) (by omega)
            have hfi := Sg.bunOf_fine (h := h) (nA := nA) (i := a) (k := c) (by rw [HL.out]; omega) (by rw [HL.out]; exact hnum.2.1) (by omega) hnum.1 fh (hC2.total_fits (by omega) (by omega))
            clear HE2 HE hC2 fh HT
            go_wp2_with fail
            refine hof.mono ?_
            rintro e w3 ⟨aoD, aoH, nd, nh, capD, capH, vP, y, rfl, HB3, hb3⟩
            have b3 := b2.trans (hb3.mono b2.size)
            have htx := bunText_any (Sg.bunOf h a c) (.string y) aoD aoH nd nh capD capH w2.heap.size vP w3 hfi HB3.out.lenD HB3.out.lenH HB3.out.drls HB3.out.hdrs HB3.out.path
            clear hof hb3
            go_wp2_with fail
            refine htx.mono ?_
            rintro e w4 ⟨z, rfl, hz, hb4⟩
            have b4 := b3.trans (hb4.mono b3.size)
            clear htx hb4
            go_wp2_with fail
            exact bodyPost_ret (v := .tuple #[.string z, .int .i64 0]) (by simp [results, Tryz.results9, go_sem]) rfl ⟨z, by rw [HX.out], by show _ = _; rw [HB.out]; exact hz.out, b4⟩
end Go.Proofs.YtpkkhkkkgjhkeabGreat
