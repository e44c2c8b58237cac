/-
  THE WALK of signetref.Look (P10).
-/
import Derived.Test.YtpkkhkkkgjhkeaaRefRead
import Derived.Test.YtpkkhkkkgjhkeaaTexts
import Derived.Test.YtpkkhkkkgjhkeaaLookInto
import Derived.Deep.QuietTactic
import Derived.BigQuiet
namespace Go.Proofs.Ytpkkhkkkgjhkeaa
open Go.RowKit
set_option maxRecDepth 100000
attribute [local go_sem ↓] Go.wp_at_zero Go.wp_at_succ

namespace Sg
theorem ext_mid {a b c : ByteArray} {i j : Nat} (h1 : a.size = i) (h2 : i + b.size = j) : (a ++ b ++ c).extract i j = b := by
  apply tx_inj
  have e : ((a ++ b ++ c).extract i j) = (a ++ b ++ c).extract (min i (a ++ b ++ c).size) (min (i + b.size) (a ++ b ++ c).size) := by
    have k1 : i ≤ (a ++ b ++ c).size := by simp only [ByteArray.size_append]; omega
    have k2 : i + b.size ≤ (a ++ b ++ c).size := by simp only [ByteArray.size_append]; omega
    rw [Nat.min_eq_left k1, Nat.min_eq_left k2, h2]
  rw [e, extract_mid, tx_ofL, tx_append, tx_append, List.append_assoc, ← h1, ← tx_length a, List.drop_left, ← tx_length b, List.take_left]
theorem hdrB_ahead {h : Hdr} (f : h.Fixed) : (hdrB h).extract 5 7 = h.ahead := by
  have e : hdrB h = (h.mark ++ beB h.num 1) ++ h.ahead ++ (h.chart ++ beB h.ents 1 ++ h.jour ++ h.stat ++ h.bals) := by
    unfold hdrB; simp only [ByteArray.append_assoc]
  rw [e]
  exact ext_mid (by rw [ByteArray.size_append, f.mark, beB_size]) (by rw [f.ahead])
theorem hdrB_front {h : Hdr} (f : h.Fixed) : (hdrB h).extract 0 5 = h.mark ++ beB h.num 1 := by
  have e : hdrB h = ByteArray.empty ++ (h.mark ++ beB h.num 1) ++ (h.ahead ++ h.chart ++ beB h.ents 1 ++ h.jour ++ h.stat ++ h.bals) := by
    unfold hdrB; simp only [ByteArray.append_assoc, ByteArray.empty_append]
  rw [e]
  exact ext_mid rfl (by rw [ByteArray.size_append, f.mark, beB_size])
theorem hdrB_stat {h : Hdr} (f : h.Fixed) : (hdrB h).extract 12 14 = h.stat := by
  have e : hdrB h = (h.mark ++ beB h.num 1 ++ h.ahead ++ h.chart ++ beB h.ents 1 ++ h.jour) ++ h.stat ++ h.bals := by
    unfold hdrB; simp only [ByteArray.append_assoc]
  rw [e]
  exact ext_mid (by simp only [ByteArray.size_append, f.mark, beB_size, f.ahead, f.chart, f.jour]) (by rw [f.stat])
theorem hdrB_16 {h : Hdr} (f : h.Fixed) : (hdrB h).size = 16 := by
  unfold hdrB
  simp only [ByteArray.size_append, f.mark, beB_size, f.ahead, f.chart, f.jour, f.stat, f.bals]
/-- What the document's answer looks for at each header. -/
def goodH (n : Bun) (hd : Txt) (i : Nat) : Prop := sumB (hdrB (hG n i)) = (if i + 1 < n.hdrs.length then (hG n (i + 1)).ahead else hd) ∧ (hG n i).mark ++ beB (hG n i).num 1 = headT ++ beB ((n.per + i : Nat) : Int) 1
theorem good_all {n : Bun} {hd : Txt} (f : n.Fine) : (∀ i, i < n.hdrs.length → goodH n hd i) ↔ (numbered n && chained n && leadsHead n hd) = true := by
  have nh := f.hdrs
  have fx : ∀ i, i < n.hdrs.length → (hG n i).Fixed := fun i hi => by rw [hG_get hi]; exact f.fixed _ (List.getElem_mem hi)
  have np := f.per
  unfold numbered chained leadsHead
  simp only [Bool.and_eq_true, decide_eq_true_eq]
  constructor
  · intro h
    refine ⟨⟨fun i hi => ?_, fun i hi => ?_⟩, ?_⟩
    · have k := (h i hi).2
      obtain ⟨k1, k2⟩ := cat_inj k (by rw [(fx i hi).mark]; rfl)
      exact ⟨k1, beB_one_inj (fx i hi).num (by omega) k2⟩
    · have k := (h i (by omega)).1
      rw [if_pos (by omega)] at k
      exact k.symm
    · have k := (h (n.hdrs.length - 1) (by omega)).1
      rw [if_neg (by omega)] at k
      exact k
  · rintro ⟨⟨h1, h2⟩, h3⟩ i hi
    refine ⟨?_, by rw [(h1 i hi).1, (h1 i hi).2]⟩
    by_cases e : i + 1 < n.hdrs.length
    · rw [if_pos e, h2 i (by omega)]
    · rw [if_neg e, ← h3]
      have : n.hdrs.length - 1 = i := by omega
      rw [this]
end Sg

/-- How the document's look stands. -/
structure LkI (w : World) (g : Nat) (n : Sg.Bun) (vD vH vP : Value) (W : World) : Prop where
  res : Quad W w.heap.size (.int .i64 0) (.int .i64 0) (.int .i64 0) (.slice none 0 0) 74
  box : RBox W g (.int .i64 (n.per : Int)) (.int .i64 (n.line : Int)) (.int .i64 n.total) vD vH vP
  drow : OwnDrls W (w.heap.size + 1) vD n.drls
  hrow : OwnStrs W (w.heap.size + 1) vH (n.hdrs.map Sg.hdrB)
  prow : OwnStrs W (w.heap.size + 1) vP n.path
  bel : Below w.heap.size w W
  low : w.heap.size < g ∧ (∀ q, vD.ownBlock = some q → q < g) ∧ (∀ q, vH.ownBlock = some q → q < g) ∧ ∀ q, vP.ownBlock = some q → q < g
theorem LkI.below {w W W' : World} {g : Nat} {n : Sg.Bun} {vD vH vP : Value} (h : LkI w g n vD vH vP W) (hb : Below W.heap.size W W') : LkI w g n vD vH vP W' :=
  ⟨h.res.below hb, (hb.block _ (lt_of_block h.box)).trans h.box, ownsRow_below h.drow hb, ownsRow_below h.hrow hb, ownsRow_below h.prow hb, h.bel.trans (hb.mono h.bel.size), h.low⟩
theorem LkI.set {w W : World} {g s j : Nat} {n : Sg.Bun} {vD vH vP : Value} (h : LkI w g n vD vH vP W) (hs : g < s) (u : Value) : LkI w g n vD vH vP (W.setCell ⟨s, j, none⟩ u) := by
  obtain ⟨l1, l2, l3, l4⟩ := h.low
  exact ⟨(heap_setCell_other W ⟨s, j, none⟩ _ u (by show w.heap.size ≠ s; omega)).trans h.res, (heap_setCell_other W ⟨s, j, none⟩ _ u (by show g ≠ s; omega)).trans h.box, ownsRow_far h.drow (fun q hq => by have := l2 q hq; omega) u, ownsRow_far h.hrow (fun q hq => by have := l3 q hq; omega) u, ownsRow_far h.prow (fun q hq => by have := l4 q hq; omega) u, h.bel.setCell (show w.heap.size ≤ s by omega) u, h.low⟩

set_option maxHeartbeats 25600000 in
/-- signetref.Look. -/
theorem refLook_any (t hd : ByteArray) (w : World) (ht : t.size ≤ 140737488355328) :
    Calls Try.prog 38 #[.string t, .string hd] w fun e w' => Below w.heap.size w w' ∧
      ((Sg.lookErr t hd ≠ 0 ∧ e = .returned (.tuple #[zLine, .int .i64 (Sg.lookErr t hd)])) ∨
       (Sg.lookErr t hd = 0 ∧ ∃ vD, e = .returned (.tuple #[lineV (Sg.bunL (Sg.tx t)) vD, .int .i64 0]) ∧ OwnDrls w' w.heap.size vD (Sg.bunL (Sg.tx t)).drls)) := by
  have hcall := fun W => refRead_any t W ht
  have HFN : Hid (Sg.formL (Sg.tx t) = true → (Sg.bunL (Sg.tx t)).Fine) := fun h => Sg.bunL_fine h
  obtain ⟨er, her⟩ : ∃ er, Sg.lookErr t hd = er := ⟨_, rfl⟩
  have HER : Hid (er = if Sg.formL (Sg.tx t) = true then (if Sg.lookOk (Sg.bunL (Sg.tx t)) hd = true then 0 else 6) else 5) := by show _ = _; rw [← her]; rfl
  rw [her]
  clear her
  have hA0 := Quad.new w (.int .i64 0) (.int .i64 0) (.int .i64 0) (.slice none 0 0) 74
  have a0 : Below w.heap.size w (w.alloc (.cells #[.int .i64 0, .int .i64 0, .int .i64 0, .slice none 0 0] 74)) := (Below.refl _ _).alloc (Nat.le_refl _) _
  unfold RdRes at hcall
  generalize Sg.bunL (Sg.tx t) = n at *
  generalize Sg.formL (Sg.tx t) = fm at *
  go_enter Try.func38, Try.ntmps38
  go_wp2_with fail
  refine (hcall _).mono ?_
  rintro e w1 ⟨a, b, c, vD, vH, vP, rfl, ⟨⟨⟨aoD, nD, capD, eD⟩, ⟨aoH, nH, capH, eH⟩, ⟨aoP, nP, capP, eP, hcP0⟩⟩, hok⟩, hb1⟩
  clear hcall
  have hA1 := hA0.below hb1
  have b1 := a0.trans (hb1.mono a0.size)
  rw [World.size_alloc] at hok
  by_cases hfm : fm = true
  case neg =>
    have hff : fm = false := by simpa using hfm
    have HE : Hid (er = 5) := by show _ = _; rw [HER.out, hff]; rfl
    subst eD eH eP
    rw [hff]
    have aB : Below w1.heap.size w1 (w1.alloc (.cells #[.int .i64 a, .int .i64 b, .int .i64 c, .slice aoD nD capD, .slice aoH nH capH, .slice aoP nP capP] 120)) := (Below.refl _ _).alloc (Nat.le_refl _) _
    have hA2 := hA1.below aB
    have b2 := b1.trans (aB.mono b1.size)
    obtain ⟨q0, q1, q2, q3⟩ := hA2.cells
    obtain ⟨f0, f1, f2, f3⟩ := quad_free hA2
    have hSt := (quad_store hA2 (.int .i64 0) (.int .i64 0) (.int .i64 0) (.slice none 0 0)).2.1 w.heap.size (Nat.le_refl _)
    clear hok hfm hff HER hA0 a0 hb1 hA1 b1 aB
    go_upto_region 3 with fail
    generalize (w1.alloc (.cells #[.int .i64 a, .int .i64 b, .int .i64 c, .slice aoD nD capD, .slice aoH nH capH, .slice aoP nP capP] 120)) = w2 at *
    have HB : Hid (Below w.heap.size w ((((w2.setCell ⟨w.heap.size, 0, none⟩ (.int .i64 0)).setCell ⟨w.heap.size, 1, none⟩ (.int .i64 0)).setCell ⟨w.heap.size, 2, none⟩ (.int .i64 0)).setCell ⟨w.heap.size, 3, none⟩ (.slice none 0 0))) := b2.trans hSt
    clear hSt b2
    go_wp2_with fail
    refine bodyPost_ret (v := .tuple #[zLine, .int .i64 5]) (by simp [results, Try.results38, go_sem, q0, q1, q2, q3]) rfl ⟨HB.out, Or.inl ⟨by rw [HE.out]; decide, by rw [HE.out]⟩⟩
  obtain ⟨ea, eb, ec, hoD, hoH, hoP⟩ := hok hfm
  have hfine := HFN.out hfm
  have HE0 : Hid (er = if Sg.lookOk n hd = true then 0 else 6) := by show _ = _; rw [HER.out, hfm, if_pos rfl]
  have HFI : Hid n.Fine := hfine
  subst ea eb ec
  rw [hfm]
  clear hok hfm HFN HER eD eH
  obtain ⟨aoD, capD, eD⟩ := ownsRow_len hoD
  obtain ⟨aoH, capH, eH⟩ := ownsRow_len hoH
  obtain ⟨aoP2, capP2, eP2⟩ := ownsRow_len hoP
  have hcP1 : capP2 ≤ 1000 := by
    rw [eP] at eP2
    simp only [Value.slice.injEq] at eP2
    omega
  clear eP hcP0
  obtain ⟨aoP, eao⟩ : ∃ x, x = aoP2 := ⟨_, rfl⟩
  obtain ⟨capP, ecap⟩ : ∃ x, x = capP2 := ⟨_, rfl⟩
  subst eao ecap
  have eP := eP2
  clear eP2
  rw [List.length_map] at eH
  subst eD eH eP
  have aB : Below w1.heap.size w1 (w1.alloc (.cells #[.int .i64 (n.per : Int), .int .i64 (n.line : Int), .int .i64 n.total, .slice aoD n.drls.length capD, .slice aoH n.hdrs.length capH, .slice aoP n.path.length capP] 120)) := (Below.refl _ _).alloc (Nat.le_refl _) _
  have hI2 : LkI w w1.heap.size n (.slice aoD n.drls.length capD) (.slice aoH n.hdrs.length capH) (.slice aoP n.path.length capP) (w1.alloc (.cells #[.int .i64 (n.per : Int), .int .i64 (n.line : Int), .int .i64 n.total, .slice aoD n.drls.length capD, .slice aoH n.hdrs.length capH, .slice aoP n.path.length capP] 120)) :=
    ⟨hA1.below aB, RBox.new w1 (.int .i64 (n.per : Int)) (.int .i64 (n.line : Int)) (.int .i64 n.total) (.slice aoD n.drls.length capD) (.slice aoH n.hdrs.length capH) (.slice aoP n.path.length capP), ownsRow_below hoD aB, ownsRow_below hoH aB, ownsRow_below hoP aB, b1.trans (aB.mono b1.size), lt_of_block hA1, fun q hq => (World.ownsRow.lt hoD q hq).2, fun q hq => (World.ownsRow.lt hoH q hq).2, fun q hq => (World.ownsRow.lt hoP q hq).2⟩
  have e2 : (w1.alloc (.cells #[.int .i64 (n.per : Int), .int .i64 (n.line : Int), .int .i64 n.total, .slice aoD n.drls.length capD, .slice aoH n.hdrs.length capH, .slice aoP n.path.length capP] 120)).heap.size = w1.heap.size + 1 := by simp
  have aS : Below (w1.alloc (.cells #[.int .i64 (n.per : Int), .int .i64 (n.line : Int), .int .i64 n.total, .slice aoD n.drls.length capD, .slice aoH n.hdrs.length capH, .slice aoP n.path.length capP] 120)).heap.size (w1.alloc (.cells #[.int .i64 (n.per : Int), .int .i64 (n.line : Int), .int .i64 n.total, .slice aoD n.drls.length capD, .slice aoH n.hdrs.length capH, .slice aoP n.path.length capP] 120)) ((w1.alloc (.cells #[.int .i64 (n.per : Int), .int .i64 (n.line : Int), .int .i64 n.total, .slice aoD n.drls.length capD, .slice aoH n.hdrs.length capH, .slice aoP n.path.length capP] 120)).alloc (.cells #[.int .i64 0, .int .i64 0] 124)) := (Below.refl _ _).alloc (Nat.le_refl _) _
  have hS0 : SumAt ((w1.alloc (.cells #[.int .i64 (n.per : Int), .int .i64 (n.line : Int), .int .i64 n.total, .slice aoD n.drls.length capD, .slice aoH n.hdrs.length capH, .slice aoP n.path.length capP] 120)).alloc (.cells #[.int .i64 0, .int .i64 0] 124)) (w1.heap.size + 1) (Sg.amtsD (n.drls.take 0)) := by
    rw [← e2]; exact heap_alloc_new _ _
  have HI0 : Hid (LkI w w1.heap.size n (.slice aoD n.drls.length capD) (.slice aoH n.hdrs.length capH) (.slice aoP n.path.length capP) ((w1.alloc (.cells #[.int .i64 (n.per : Int), .int .i64 (n.line : Int), .int .i64 n.total, .slice aoD n.drls.length capD, .slice aoH n.hdrs.length capH, .slice aoP n.path.length capP] 120)).alloc (.cells #[.int .i64 0, .int .i64 0] 124)) ∧ SumAt ((w1.alloc (.cells #[.int .i64 (n.per : Int), .int .i64 (n.line : Int), .int .i64 n.total, .slice aoD n.drls.length capD, .slice aoH n.hdrs.length capH, .slice aoP n.path.length capP] 120)).alloc (.cells #[.int .i64 0, .int .i64 0] 124)) (w1.heap.size + 1) (Sg.amtsD (n.drls.take 0))) := ⟨hI2.below aS, hS0⟩
  clear hI2 aS hS0 e2 aB hoD hoH hoP hA0 a0 hb1 hA1 b1 hfine
  have hmany := HFI.out.many
  have hnh := HFI.out.hdrs
  go_wp2_with fail
  go_loopw [9] (fun i wr => ∃ k : Nat, k ≤ n.drls.length ∧ i = .int .i64 (k : Int) ∧ Hid (LkI w w1.heap.size n (.slice aoD n.drls.length capD) (.slice aoH n.hdrs.length capH) (.slice aoP n.path.length capP) wr ∧ SumAt wr (w1.heap.size + 1) (Sg.amtsD (n.drls.take k)))) (fun i _ => n.drls.length - (intOf i).toNat)
  case atStart => exact ⟨0, by omega, rfl, HI0⟩
  case round =>
    obtain ⟨k, hk, rfl, HI⟩ := hrel
    obtain ⟨wz, ewz⟩ : ∃ z : World, z = wr := ⟨_, rfl⟩
    subst ewz
    clear HI0
    obtain ⟨hI, hS⟩ := HI.out
    obtain ⟨_, _, c2, c3, c4, c5⟩ := hI.box.cells
    by_cases hlt : k < n.drls.length
    · obtain ⟨ao', cap', eD, hin⟩ := hI.drow.shape
      simp only [Value.slice.injEq] at eD
      obtain ⟨rfl, _, rfl⟩ := eD
      obtain ⟨b, off, hao, hbw, d0, d1, d2, d3⟩ := hin.cell (k := k) hlt
      subst hao
      have hfd := (HFI.out.drls _ (List.getElem_mem hlt)).2.2.2
      have hfm' : -9223372036854775808 ≤ n.drls[k].amt ∧ n.drls[k].amt ≤ 9223372036854775807 := of_decide_eq_true hfd
      have HS : Hid (Sg.amtsD (n.drls.take (k + 1)) = Sg.amtsD (n.drls.take k) + n.drls[k].amt) := by show _ = _; rw [List.take_succ_eq_append_getElem hlt, Sg.amtsD_snoc]
      have hT : Tame (Sg.amtsD (n.drls.take k)) := by
        have hbd := Sg.amtsD_bound (n.drls.take k) (fun d hd => (HFI.out.drls d (List.mem_of_mem_take hd)).2.2.2)
        have hlk : (n.drls.take k).length ≤ 72 := by rw [List.length_take]; omega
        unfold Tame
        omega
      generalize Sg.amtsD (n.drls.take k) = sv at *
      generalize n.drls[k].amt = am at *
      obtain ⟨s0, s1, g0, g1⟩ := hS.cells
      have hSl := lt_of_block hS
      have hBl := lt_of_block hI.box
      have i1 : (0 : Int) ≤ (k : Int) := by omega
      have i2 : (k : Int) < (n.drls.length : Int) := by omega
      have HI1 : Hid (LkI w w1.heap.size n (.slice (some ⟨b, off, none⟩) n.drls.length capD) (.slice aoH n.hdrs.length capH) (.slice aoP n.path.length capP) wz ∧ SumAt wz (w1.heap.size + 1) sv) := ⟨hI, hS⟩
      clear hfd hin HI d0 d1 d2 c2 c4 c5 hI hS
      go_wp2_with fail
      go_region_with (first | (go_at_call 67; refine (wideAdd_any sv am _ hT hfm').mono ?_; rintro e w2 ⟨rfl, hb2⟩; have hb2' : Below wz.heap.size wz w2 := (by first | exact hb2 | exact ((Below.refl wz.heap.size wz).drew).trans hb2); have hS2 : SumAt w2 (w1.heap.size + 1) sv := HI1.out.2.block (hb2'.block _ hSl); obtain ⟨t0, t1, t2, t3⟩ := hS2.cells))
      all_goals
        have HI2 : Hid (LkI w w1.heap.size n (.slice (some ⟨b, off, none⟩) n.drls.length capD) (.slice aoH n.hdrs.length capH) (.slice aoP n.path.length capP) ((w2.setCell ⟨w1.heap.size + 1, 0, none⟩ (.int .i64 (wHi (sv + am)))).setCell ⟨w1.heap.size + 1, 1, none⟩ (.int .i64 (wLo (sv + am)))) ∧ SumAt ((w2.setCell ⟨w1.heap.size + 1, 0, none⟩ (.int .i64 (wHi (sv + am)))).setCell ⟨w1.heap.size + 1, 1, none⟩ (.int .i64 (wLo (sv + am)))) (w1.heap.size + 1) (Sg.amtsD (n.drls.take (k + 1)))) := by
          refine ⟨((HI1.out.1.below hb2').set (by omega) _).set (by omega) _, ?_⟩
          rw [HS.out]
          exact hS2.set (sv + am)
        go_wp2_with fail
        go_roundw
        case rel => exact ⟨k + 1, by omega, by go_num, HI2⟩
        case measure => simp [intOf]; omega
    · have hkn : n.drls.take k = n.drls := List.take_of_length_le (by omega)
      rw [hkn] at hS
      have hbd := Sg.amtsD_bound n.drls (fun d hd => (HFI.out.drls d hd).2.2.2)
      have hT : Tame (Sg.amtsD n.drls) := by unfold Tame; omega
      have HTot : Hid (Sg.isTotal n = decide (Sg.amtsD n.drls = n.total) ∧ Sg.fits n.total = true) := ⟨rfl, HFI.out.total⟩
      generalize Sg.amtsD n.drls = v at *
      obtain ⟨s0, s1, g0, g1⟩ := hS.cells
      have hSl := lt_of_block hS
      have hBl := lt_of_block hI.box
      have HI1 : Hid (LkI w w1.heap.size n (.slice aoD n.drls.length capD) (.slice aoH n.hdrs.length capH) (.slice aoP n.path.length capP) wz ∧ SumAt wz (w1.heap.size + 1) v) := ⟨hI, hS⟩
      have i2 : ¬ (k : Int) < (n.drls.length : Int) := by omega
      clear hbd hkn HI hI hS c2 c4 c5
      go_wp2_with fail
      refine (wideFits_any v _).mono ?_
      rintro e w2 ⟨rfl, hb2⟩
      have hI2 := HI1.out.1.below hb2
      have hS2 : SumAt w2 (w1.heap.size + 1) v := HI1.out.2.block (hb2.block _ hSl)
      clear HI1 hb2 s0 s1 g0 g1 c3
      cases hfv : Sg.fits v with
      | false =>
        have HE : Hid (er = 6) := by
          show _ = _
          rw [HE0.out]
          have : Sg.isTotal n = false := by
            rw [HTot.out.1, decide_eq_false_iff_not]
            intro e
            rw [e, HTot.out.2] at hfv
            cases hfv
          unfold Sg.lookOk
          rw [this]
          simp
        clear hfv
        go_wp2_with fail
        go_quiet (fail)
        all_goals
          obtain ⟨q0, q1, q2, q3⟩ := hI2.res.cells
          obtain ⟨f0, f1, f2, f3⟩ := quad_free hI2.res
          have HB : Hid (Below w.heap.size w ((((w2.setCell ⟨w.heap.size, 0, none⟩ (.int .i64 0)).setCell ⟨w.heap.size, 1, none⟩ (.int .i64 0)).setCell ⟨w.heap.size, 2, none⟩ (.int .i64 0)).setCell ⟨w.heap.size, 3, none⟩ (.slice none 0 0))) := hI2.bel.trans ((quad_store hI2.res _ _ _ _).2.1 _ (Nat.le_refl _))
          go_wp2_with fail
          refine bodyPost_ret (v := .tuple #[zLine, .int .i64 6]) (by simp [results, Try.results38, go_sem, q0, q1, q2, q3]) rfl ⟨?_, Or.inl ⟨by rw [HE.out]; decide, by rw [HE.out]⟩⟩
          first | exact HB.out | exact HB.out.drew | exact below_drewN HB.out _
      | true =>
        obtain ⟨s0, s1, g0, g1⟩ := hS2.cells
        obtain ⟨_, _, c2, _, _, _⟩ := hI2.box.cells
        have hSl2 := lt_of_block hS2
        have hBl2 := lt_of_block hI2.box
        have hS0 : w2.cell? ⟨w1.heap.size + 1, 0, none⟩ = some (.int .i64 (wHi v)) ∧ w2.cell? ⟨w1.heap.size + 1, 1, none⟩ = some (.int .i64 (wLo v)) ∧ w2.cell? ⟨w1.heap.size, 2, none⟩ = some (.int .i64 n.total) := ⟨s0, s1, c2⟩
        have hS1 : w2.drew.cell? ⟨w1.heap.size + 1, 0, none⟩ = some (.int .i64 (wHi v)) ∧ w2.drew.cell? ⟨w1.heap.size + 1, 1, none⟩ = some (.int .i64 (wLo v)) ∧ w2.drew.cell? ⟨w1.heap.size, 2, none⟩ = some (.int .i64 n.total) := by simpa using hS0
        have hIn := fun W => wideInt_any v W hfv
        have HI2 : Hid (LkI w w1.heap.size n (.slice aoD n.drls.length capD) (.slice aoH n.hdrs.length capH) (.slice aoP n.path.length capP) w2) := hI2
        clear hfv s0 s1 g0 g1 c2 hS2 hI2
        by_cases hvt : v = n.total
        case neg =>
          have HE : Hid (er = 6) := by
            show _ = _
            rw [HE0.out]
            have : Sg.isTotal n = false := by rw [HTot.out.1, decide_eq_false_iff_not]; exact hvt
            unfold Sg.lookOk
            rw [this]
            simp
          have hcmp : (v == n.total) = false := by simp [hvt]
          clear hvt
          go_wp2_with fail
          go_region_held3 (fun w' => w'.cell? ⟨w1.heap.size + 1, 0, none⟩ = some (.int .i64 (wHi v)) ∧ w'.cell? ⟨w1.heap.size + 1, 1, none⟩ = some (.int .i64 (wLo v)) ∧ w'.cell? ⟨w1.heap.size, 2, none⟩ = some (.int .i64 n.total)) (first | with_reducible assumption | exact hS1)
            (first | (go_at_call 69; refine (hIn _).mono ?_; rintro e w3 ⟨rfl, hb3⟩; have hb3' : Below w2.heap.size w2 w3 := (by first | exact hb3 | exact ((Below.refl w2.heap.size w2).drew).trans hb3); have hh3 : w3.cell? ⟨w1.heap.size + 1, 0, none⟩ = some (.int .i64 (wHi v)) ∧ w3.cell? ⟨w1.heap.size + 1, 1, none⟩ = some (.int .i64 (wLo v)) ∧ w3.cell? ⟨w1.heap.size, 2, none⟩ = some (.int .i64 n.total) := ⟨(hb3'.cell (p := ⟨w1.heap.size + 1, 0, none⟩) hSl2).trans hS0.1, (hb3'.cell (p := ⟨w1.heap.size + 1, 1, none⟩) hSl2).trans hS0.2.1, (hb3'.cell (p := ⟨w1.heap.size, 2, none⟩) hBl2).trans hS0.2.2⟩; have hI3 := HI2.out.below hb3'))
          obtain ⟨q0, q1, q2, q3⟩ := hI3.res.cells
          obtain ⟨f0, f1, f2, f3⟩ := quad_free hI3.res
          have HB : Hid (Below w.heap.size w ((((w3.setCell ⟨w.heap.size, 0, none⟩ (.int .i64 0)).setCell ⟨w.heap.size, 1, none⟩ (.int .i64 0)).setCell ⟨w.heap.size, 2, none⟩ (.int .i64 0)).setCell ⟨w.heap.size, 3, none⟩ (.slice none 0 0))) := hI3.bel.trans ((quad_store hI3.res _ _ _ _).2.1 _ (Nat.le_refl _))
          go_wp2_with fail
          refine bodyPost_ret (v := .tuple #[zLine, .int .i64 6]) (by simp [results, Try.results38, go_sem, q0, q1, q2, q3]) rfl ⟨?_, Or.inl ⟨by rw [HE.out]; decide, by rw [HE.out]⟩⟩
          first | exact HB.out | exact HB.out.drew | exact below_drewN HB.out _
        have HTT : Hid (Sg.isTotal n = true) := by show _ = _; rw [HTot.out.1, decide_eq_true_eq]; exact hvt
        obtain ⟨tt, htt⟩ : ∃ tt, tt = n.total := ⟨_, rfl⟩
        clear HTot
        subst hvt
        clear htt tt
        go_wp2_with fail
        go_region_held3 (fun w' => w'.cell? ⟨w1.heap.size + 1, 0, none⟩ = some (.int .i64 (wHi n.total)) ∧ w'.cell? ⟨w1.heap.size + 1, 1, none⟩ = some (.int .i64 (wLo n.total)) ∧ w'.cell? ⟨w1.heap.size, 2, none⟩ = some (.int .i64 n.total)) (first | with_reducible assumption | exact hS1)
          (first | (go_at_call 69; refine (hIn _).mono ?_; rintro e w3 ⟨rfl, hb3⟩; have hb3' : Below w2.heap.size w2 w3 := (by first | exact hb3 | exact ((Below.refl w2.heap.size w2).drew).trans hb3); have hh3 : w3.cell? ⟨w1.heap.size + 1, 0, none⟩ = some (.int .i64 (wHi n.total)) ∧ w3.cell? ⟨w1.heap.size + 1, 1, none⟩ = some (.int .i64 (wLo n.total)) ∧ w3.cell? ⟨w1.heap.size, 2, none⟩ = some (.int .i64 n.total) := ⟨(hb3'.cell (p := ⟨w1.heap.size + 1, 0, none⟩) hSl2).trans hS0.1, (hb3'.cell (p := ⟨w1.heap.size + 1, 1, none⟩) hSl2).trans hS0.2.1, (hb3'.cell (p := ⟨w1.heap.size, 2, none⟩) hBl2).trans hS0.2.2⟩; have hI3 := HI2.out.below hb3'))
        have HI3 : Hid ((∀ j, j < 0 → Sg.goodH n hd j) ∧ LkI w w1.heap.size n (.slice aoD n.drls.length capD) (.slice aoH n.hdrs.length capH) (.slice aoP n.path.length capP) w3) := ⟨fun j hj => absurd hj (by omega), hI3⟩
        clear hI3 hh3 hS0 hS1 hIn hb3 hb3' HI2 hSl2 hBl2 hSl hBl hT
        go_wp2_with fail
        go_loopw [11] (fun i wr => ∃ k : Nat, k ≤ n.hdrs.length ∧ i = .int .i64 (k : Int) ∧ Hid ((∀ j, j < k → Sg.goodH n hd j) ∧ LkI w w1.heap.size n (.slice aoD n.drls.length capD) (.slice aoH n.hdrs.length capH) (.slice aoP n.path.length capP) wr)) (fun i _ => n.hdrs.length - (intOf i).toNat)
        case atStart => exact ⟨0, by omega, rfl, HI3⟩
        case round =>
          obtain ⟨k2, hk2, rfl, HI⟩ := hrel
          obtain ⟨wy, ewy⟩ : ∃ z : World, z = wr := ⟨_, rfl⟩
          subst ewy
          clear HI3
          obtain ⟨hgood, hI⟩ := HI.out
          obtain ⟨c0, c1, c2, c3, c4, c5⟩ := hI.box.cells
          have hBl := lt_of_block hI.box
          obtain ⟨aoH', capH', eH, hcH, _, hat0⟩ := own_strs_shape hI.hrow
          rw [List.length_map] at eH hcH hat0
          simp only [Value.slice.injEq] at eH
          obtain ⟨rfl, _, rfl⟩ := eH
          obtain ⟨gH, hao, hgl, hat⟩ := hat0 (by omega)
          subst hao
          have hcell : ∀ j (hj : j < n.hdrs.length), wy.cell? ⟨gH, j, none⟩ = some (.string (Sg.hdrB (Sg.hG n j))) := fun j hj => by
            have := hat j (by rw [List.length_map]; exact hj)
            rw [Nat.zero_add] at this
            rw [this, List.getD_eq_getElem?_getD, List.getElem?_map, List.getElem?_eq_getElem hj, Sg.hG_get hj]
            rfl
          have hfix : ∀ j, j < n.hdrs.length → (Sg.hG n j).Fixed := fun j hj => by rw [Sg.hG_get hj]; exact HFI.out.fixed _ (List.getElem_mem hj)
          have HI1 : Hid (LkI w w1.heap.size n (.slice aoD n.drls.length capD) (.slice (some ⟨gH, 0, none⟩) n.hdrs.length capH) (.slice aoP n.path.length capP) wy) := hI
          have HGO : Hid (∀ j, j < k2 → Sg.goodH n hd j) := hgood
          clear HI hat hat0 hI hgood
          by_cases hlt : k2 < n.hdrs.length
          · have hlt' := hlt
            have hc := hcell k2 hlt
            have h16 := Sg.hdrB_16 (hfix k2 hlt)
            have hfr0 := Sg.hdrB_front (hfix k2 hlt)
            have i1 : (0 : Int) ≤ (k2 : Int) := by omega
            have i2 : (k2 : Int) < (n.hdrs.length : Int) := by omega
            have hper := HFI.out.per
            have hwr : IntKind.i64.wrap ((n.per : Int) + (k2 : Int)) = (n.per : Int) + (k2 : Int) := IntWalk.i64_in _ (by omega)
            have hby : ∀ W, Calls Try.prog 46 #[.int .i64 ((n.per : Int) + (k2 : Int)), .int .i64 1] W fun e w' => ∃ y : ByteArray, e = .returned (.string y) ∧ Hid (y = Sg.beB ((n.per : Int) + (k2 : Int)) 1) ∧ y.size ≤ 8 ∧ Below W.heap.size W w' := fun W => bytes_txt ((n.per : Int) + (k2 : Int)) 1 W (by omega) (by omega) (by omega)
            by_cases hA : k2 + 1 < n.hdrs.length
            · have hc' := hcell (k2 + 1) hA
              have h16' := Sg.hdrB_16 (hfix (k2 + 1) hA)
              have hah := Sg.hdrB_ahead (hfix (k2 + 1) hA)
              have HGD0 : Hid (Sg.goodH n hd k2 ↔ (Sg.sumB (Sg.hdrB (Sg.hG n k2)) = (Sg.hdrB (Sg.hG n (k2 + 1))).extract 5 7 ∧ (Sg.hdrB (Sg.hG n k2)).extract 0 5 = ({ data := #[72, 69, 65, 68] } : ByteArray) ++ Sg.beB ((n.per : Int) + (k2 : Int)) 1)) := by
                show _ ↔ _
                unfold Sg.goodH
                rw [if_pos hA, hah, hfr0]
                rfl
              generalize Sg.hdrB (Sg.hG n (k2 + 1)) = T' at *
              generalize Sg.hdrB (Sg.hG n k2) = T at *
              have j1 : (k2 : Int) + 1 < (n.hdrs.length : Int) := by omega
              have j2 : (0 : Int) ≤ (k2 : Int) + 1 := by omega
              have j3 : (7 : Int) ≤ (T'.size : Int) := by omega
              have j4 : (5 : Int) ≤ (T.size : Int) := by omega
              clear hcell hfix hah hfr0 c1 c2 c3 c5
              go_wp2_with fail
              refine (sum_txt T _ (by omega)).mono ?_
              rintro e w4 ⟨ys, rfl, hys, hyz, hb4⟩
              have hBl4 : w1.heap.size < w4.heap.size := by have := hb4.size; omega
              have hgl4 : gH < w4.heap.size := by have := hb4.size; omega
              have hS0 : w4.cell? ⟨w1.heap.size, 0, none⟩ = some (.int .i64 (n.per : Int)) ∧ w4.cell? ⟨w1.heap.size, 4, none⟩ = some (.slice (some ⟨gH, 0, none⟩) n.hdrs.length capH) ∧ w4.cell? ⟨gH, k2, none⟩ = some (.string T) := ⟨(hb4.cell (p := ⟨w1.heap.size, 0, none⟩) hBl).trans c0, (hb4.cell (p := ⟨w1.heap.size, 4, none⟩) hBl).trans c4, (hb4.cell (p := ⟨gH, k2, none⟩) hgl).trans hc⟩
              have hS1 : w4.drew.cell? ⟨w1.heap.size, 0, none⟩ = some (.int .i64 (n.per : Int)) ∧ w4.drew.cell? ⟨w1.heap.size, 4, none⟩ = some (.slice (some ⟨gH, 0, none⟩) n.hdrs.length capH) ∧ w4.drew.cell? ⟨gH, k2, none⟩ = some (.string T) := by simpa using hS0
              have hc4' : w4.cell? ⟨gH, k2 + 1, none⟩ = some (.string T') := (hb4.cell (p := ⟨gH, k2 + 1, none⟩) hgl).trans hc'
              have z4 := hS0.2.1
              have HI4 : Hid (LkI w w1.heap.size n (.slice aoD n.drls.length capD) (.slice (some ⟨gH, 0, none⟩) n.hdrs.length capH) (.slice aoP n.path.length capP) w4) := HI1.out.below hb4
              have HGD : Hid ((Sg.goodH n hd k2 → (ys = T'.extract 5 7 ∧ T.extract 0 5 = ({ data := #[72, 69, 65, 68] } : ByteArray) ++ Sg.beB ((n.per : Int) + (k2 : Int)) 1)) ∧ ((ys = T'.extract 5 7 ∧ T.extract 0 5 = ({ data := #[72, 69, 65, 68] } : ByteArray) ++ Sg.beB ((n.per : Int) + (k2 : Int)) 1) → Sg.goodH n hd k2)) := by
                rw [hys.out]; exact ⟨HGD0.out.1, HGD0.out.2⟩
              clear hys hyz hb4 hc hc' c0 c4 HI1 HGD0
              go_upto_region 19 with fail
              obtain ⟨nx, hnx⟩ : ∃ nx, T'.extract 5 7 = nx := ⟨_, rfl⟩
              rw [hnx] at HGD ⊢
              clear hnx hc4' z4
              by_cases hsn : ys = nx
              · have hcmp1 := eq_list hsn
                have HSN : Hid (ys = nx) := hsn
                clear hsn
                by_cases hfr : T.extract 0 5 = ({ data := #[72, 69, 65, 68] } : ByteArray) ++ Sg.beB ((n.per : Int) + (k2 : Int)) 1
                · have HFR : Hid (T.extract 0 5 = ({ data := #[72, 69, 65, 68] } : ByteArray) ++ Sg.beB ((n.per : Int) + (k2 : Int)) 1) := hfr
                  have HG2 : Hid (∀ j, j < k2 + 1 → Sg.goodH n hd j) := fun j hj => by
                    by_cases ej : j = k2
                    · subst ej
                      exact HGD.out.2 ⟨HSN.out, HFR.out⟩
                    · exact HGO.out j (by omega)
                  clear hfr
                  go_wp2_with fail
                  go_region_held3 (fun w' => w'.cell? ⟨w1.heap.size, 0, none⟩ = some (.int .i64 (n.per : Int)) ∧ w'.cell? ⟨w1.heap.size, 4, none⟩ = some (.slice (some ⟨gH, 0, none⟩) n.hdrs.length capH) ∧ w'.cell? ⟨gH, k2, none⟩ = some (.string T)) (first | with_reducible assumption | exact hS1)
                    (first | (go_at_call 46; refine (hby _).mono ?_; rintro e w5 ⟨y5, rfl, hy5, hys5, hb5⟩; have hb5' : Below w4.heap.size w4 w5 := (by first | exact hb5 | exact ((Below.refl w4.heap.size w4).drew).trans hb5); have hh5 : w5.cell? ⟨w1.heap.size, 0, none⟩ = some (.int .i64 (n.per : Int)) ∧ w5.cell? ⟨w1.heap.size, 4, none⟩ = some (.slice (some ⟨gH, 0, none⟩) n.hdrs.length capH) ∧ w5.cell? ⟨gH, k2, none⟩ = some (.string T) := ⟨(hb5'.cell (p := ⟨w1.heap.size, 0, none⟩) hBl4).trans hS0.1, (hb5'.cell (p := ⟨w1.heap.size, 4, none⟩) hBl4).trans hS0.2.1, (hb5'.cell (p := ⟨gH, k2, none⟩) hgl4).trans hS0.2.2⟩; have hI5 := HI4.out.below hb5'; have qc := cat ({ data := #[72, 69, 65, 68] } : ByteArray) y5 (by show 4 + y5.size ≤ _; omega); have hcmp2 : ((T.extract 0 5).toList == (({ data := #[72, 69, 65, 68] } : ByteArray) ++ y5).toList) = true := eq_list (by rw [hy5.out]; exact HFR.out)))
                  have HI2 : Hid ((∀ j, j < k2 + 1 → Sg.goodH n hd j) ∧ LkI w w1.heap.size n (.slice aoD n.drls.length capD) (.slice (some ⟨gH, 0, none⟩) n.hdrs.length capH) (.slice aoP n.path.length capP) w5) := ⟨HG2.out, hI5⟩
                  clear hh5 hI5 hb5 hb5' hS0 hS1 HI4
                  go_wp2_with fail
                  go_roundw
                  case rel => exact ⟨k2 + 1, by omega, by go_num, HI2⟩
                  case measure => simp [intOf]; omega
                · have HFR : Hid (¬ T.extract 0 5 = ({ data := #[72, 69, 65, 68] } : ByteArray) ++ Sg.beB ((n.per : Int) + (k2 : Int)) 1) := hfr
                  have HBAD : Hid (¬ Sg.goodH n hd k2) := fun h => HFR.out (HGD.out.1 h).2
                  have HE : Hid (er = 6) := by
                    show _ = _
                    rw [HE0.out]
                    have hx : ¬ (Sg.numbered n && Sg.chained n && Sg.leadsHead n hd) = true := fun h => (absurd ((Sg.good_all HFI.out).2 h k2 hlt') (by exact HBAD.out))
                    unfold Sg.lookOk
                    rw [if_neg]
                    intro h
                    apply hx
                    simp only [Bool.and_eq_true] at h ⊢
                    exact h.1.1
                  clear hfr
                  go_wp2_with fail
                  go_region_held3 (fun w' => w'.cell? ⟨w1.heap.size, 0, none⟩ = some (.int .i64 (n.per : Int)) ∧ w'.cell? ⟨w1.heap.size, 4, none⟩ = some (.slice (some ⟨gH, 0, none⟩) n.hdrs.length capH) ∧ w'.cell? ⟨gH, k2, none⟩ = some (.string T)) (first | with_reducible assumption | exact hS1)
                    (first | (go_at_call 46; refine (hby _).mono ?_; rintro e w5 ⟨y5, rfl, hy5, hys5, hb5⟩; have hb5' : Below w4.heap.size w4 w5 := (by first | exact hb5 | exact ((Below.refl w4.heap.size w4).drew).trans hb5); have hh5 : w5.cell? ⟨w1.heap.size, 0, none⟩ = some (.int .i64 (n.per : Int)) ∧ w5.cell? ⟨w1.heap.size, 4, none⟩ = some (.slice (some ⟨gH, 0, none⟩) n.hdrs.length capH) ∧ w5.cell? ⟨gH, k2, none⟩ = some (.string T) := ⟨(hb5'.cell (p := ⟨w1.heap.size, 0, none⟩) hBl4).trans hS0.1, (hb5'.cell (p := ⟨w1.heap.size, 4, none⟩) hBl4).trans hS0.2.1, (hb5'.cell (p := ⟨gH, k2, none⟩) hgl4).trans hS0.2.2⟩; have hI5 := HI4.out.below hb5'; have qc := cat ({ data := #[72, 69, 65, 68] } : ByteArray) y5 (by show 4 + y5.size ≤ _; omega); have hcmp2 : ((T.extract 0 5).toList == (({ data := #[72, 69, 65, 68] } : ByteArray) ++ y5).toList) = false := ne_list (by rw [hy5.out]; exact HFR.out)))
                  obtain ⟨q0, q1, q2, q3⟩ := hI5.res.cells
                  obtain ⟨f0, f1, f2, f3⟩ := quad_free hI5.res
                  have HB : Hid (Below w.heap.size w ((((w5.setCell ⟨w.heap.size, 0, none⟩ (.int .i64 0)).setCell ⟨w.heap.size, 1, none⟩ (.int .i64 0)).setCell ⟨w.heap.size, 2, none⟩ (.int .i64 0)).setCell ⟨w.heap.size, 3, none⟩ (.slice none 0 0))) := hI5.bel.trans ((quad_store hI5.res _ _ _ _).2.1 _ (Nat.le_refl _))
                  go_wp2_with fail
                  refine bodyPost_ret (v := .tuple #[zLine, .int .i64 6]) (by simp [results, Try.results38, go_sem, q0, q1, q2, q3]) rfl ⟨?_, Or.inl ⟨by rw [HE.out]; decide, by rw [HE.out]⟩⟩
                  first | exact HB.out | exact HB.out.drew | exact below_drewN HB.out _
              · have hcmp1 := ne_list hsn
                have HBAD : Hid (¬ Sg.goodH n hd k2) := fun h => hsn (HGD.out.1 h).1
                have HE : Hid (er = 6) := by
                  show _ = _
                  rw [HE0.out]
                  have hx : ¬ (Sg.numbered n && Sg.chained n && Sg.leadsHead n hd) = true := fun h => (absurd ((Sg.good_all HFI.out).2 h k2 hlt') (by exact HBAD.out))
                  unfold Sg.lookOk
                  rw [if_neg]
                  intro h
                  apply hx
                  simp only [Bool.and_eq_true] at h ⊢
                  exact h.1.1
                clear hsn
                go_wp2_with fail
                go_quiet (fail)
                all_goals
                  obtain ⟨q0, q1, q2, q3⟩ := HI4.out.res.cells
                  obtain ⟨f0, f1, f2, f3⟩ := quad_free HI4.out.res
                  have HB : Hid (Below w.heap.size w ((((w4.setCell ⟨w.heap.size, 0, none⟩ (.int .i64 0)).setCell ⟨w.heap.size, 1, none⟩ (.int .i64 0)).setCell ⟨w.heap.size, 2, none⟩ (.int .i64 0)).setCell ⟨w.heap.size, 3, none⟩ (.slice none 0 0))) := HI4.out.bel.trans ((quad_store HI4.out.res _ _ _ _).2.1 _ (Nat.le_refl _))
                  go_wp2_with fail
                  refine bodyPost_ret (v := .tuple #[zLine, .int .i64 6]) (by simp [results, Try.results38, go_sem, q0, q1, q2, q3]) rfl ⟨?_, Or.inl ⟨by rw [HE.out]; decide, by rw [HE.out]⟩⟩
                  first | exact HB.out | exact HB.out.drew | exact below_drewN HB.out _
            · have HGD0 : Hid (Sg.goodH n hd k2 ↔ (Sg.sumB (Sg.hdrB (Sg.hG n k2)) = hd ∧ (Sg.hdrB (Sg.hG n k2)).extract 0 5 = ({ data := #[72, 69, 65, 68] } : ByteArray) ++ Sg.beB ((n.per : Int) + (k2 : Int)) 1)) := by
                show _ ↔ _
                unfold Sg.goodH
                rw [if_neg hA, hfr0]
                rfl
              generalize Sg.hdrB (Sg.hG n k2) = T at *
              have j1 : ¬ (k2 : Int) + 1 < (n.hdrs.length : Int) := by omega
              have j4 : (5 : Int) ≤ (T.size : Int) := by omega
              clear hcell hfix hfr0 c1 c2 c3 c5
              go_wp2_with fail
              refine (sum_txt T _ (by omega)).mono ?_
              rintro e w4 ⟨ys, rfl, hys, hyz, hb4⟩
              have hBl4 : w1.heap.size < w4.heap.size := by have := hb4.size; omega
              have hgl4 : gH < w4.heap.size := by have := hb4.size; omega
              have hS0 : w4.cell? ⟨w1.heap.size, 0, none⟩ = some (.int .i64 (n.per : Int)) ∧ w4.cell? ⟨w1.heap.size, 4, none⟩ = some (.slice (some ⟨gH, 0, none⟩) n.hdrs.length capH) ∧ w4.cell? ⟨gH, k2, none⟩ = some (.string T) := ⟨(hb4.cell (p := ⟨w1.heap.size, 0, none⟩) hBl).trans c0, (hb4.cell (p := ⟨w1.heap.size, 4, none⟩) hBl).trans c4, (hb4.cell (p := ⟨gH, k2, none⟩) hgl).trans hc⟩
              have hS1 : w4.drew.cell? ⟨w1.heap.size, 0, none⟩ = some (.int .i64 (n.per : Int)) ∧ w4.drew.cell? ⟨w1.heap.size, 4, none⟩ = some (.slice (some ⟨gH, 0, none⟩) n.hdrs.length capH) ∧ w4.drew.cell? ⟨gH, k2, none⟩ = some (.string T) := by simpa using hS0
              have z4 := hS0.2.1
              have HI4 : Hid (LkI w w1.heap.size n (.slice aoD n.drls.length capD) (.slice (some ⟨gH, 0, none⟩) n.hdrs.length capH) (.slice aoP n.path.length capP) w4) := HI1.out.below hb4
              have HGD : Hid ((Sg.goodH n hd k2 → (ys = hd ∧ T.extract 0 5 = ({ data := #[72, 69, 65, 68] } : ByteArray) ++ Sg.beB ((n.per : Int) + (k2 : Int)) 1)) ∧ ((ys = hd ∧ T.extract 0 5 = ({ data := #[72, 69, 65, 68] } : ByteArray) ++ Sg.beB ((n.per : Int) + (k2 : Int)) 1) → Sg.goodH n hd k2)) := by
                rw [hys.out]; exact ⟨HGD0.out.1, HGD0.out.2⟩
              clear hys hyz hb4 hc c0 c4 HI1 HGD0
              go_upto_region 19 with fail
              clear z4
              by_cases hsn : ys = hd
              · have hcmp1 := eq_list hsn
                have HSN : Hid (ys = hd) := hsn
                clear hsn
                by_cases hfr : T.extract 0 5 = ({ data := #[72, 69, 65, 68] } : ByteArray) ++ Sg.beB ((n.per : Int) + (k2 : Int)) 1
                · have HFR : Hid (T.extract 0 5 = ({ data := #[72, 69, 65, 68] } : ByteArray) ++ Sg.beB ((n.per : Int) + (k2 : Int)) 1) := hfr
                  have HG2 : Hid (∀ j, j < k2 + 1 → Sg.goodH n hd j) := fun j hj => by
                    by_cases ej : j = k2
                    · subst ej
                      exact HGD.out.2 ⟨HSN.out, HFR.out⟩
                    · exact HGO.out j (by omega)
                  clear hfr
                  go_wp2_with fail
                  go_region_held3 (fun w' => w'.cell? ⟨w1.heap.size, 0, none⟩ = some (.int .i64 (n.per : Int)) ∧ w'.cell? ⟨w1.heap.size, 4, none⟩ = some (.slice (some ⟨gH, 0, none⟩) n.hdrs.length capH) ∧ w'.cell? ⟨gH, k2, none⟩ = some (.string T)) (first | with_reducible assumption | exact hS1)
                    (first | (go_at_call 46; refine (hby _).mono ?_; rintro e w5 ⟨y5, rfl, hy5, hys5, hb5⟩; have hb5' : Below w4.heap.size w4 w5 := (by first | exact hb5 | exact ((Below.refl w4.heap.size w4).drew).trans hb5); have hh5 : w5.cell? ⟨w1.heap.size, 0, none⟩ = some (.int .i64 (n.per : Int)) ∧ w5.cell? ⟨w1.heap.size, 4, none⟩ = some (.slice (some ⟨gH, 0, none⟩) n.hdrs.length capH) ∧ w5.cell? ⟨gH, k2, none⟩ = some (.string T) := ⟨(hb5'.cell (p := ⟨w1.heap.size, 0, none⟩) hBl4).trans hS0.1, (hb5'.cell (p := ⟨w1.heap.size, 4, none⟩) hBl4).trans hS0.2.1, (hb5'.cell (p := ⟨gH, k2, none⟩) hgl4).trans hS0.2.2⟩; have hI5 := HI4.out.below hb5'; have qc := cat ({ data := #[72, 69, 65, 68] } : ByteArray) y5 (by show 4 + y5.size ≤ _; omega); have hcmp2 : ((T.extract 0 5).toList == (({ data := #[72, 69, 65, 68] } : ByteArray) ++ y5).toList) = true := eq_list (by rw [hy5.out]; exact HFR.out)))
                  have HI2 : Hid ((∀ j, j < k2 + 1 → Sg.goodH n hd j) ∧ LkI w w1.heap.size n (.slice aoD n.drls.length capD) (.slice (some ⟨gH, 0, none⟩) n.hdrs.length capH) (.slice aoP n.path.length capP) w5) := ⟨HG2.out, hI5⟩
                  clear hh5 hI5 hb5 hb5' hS0 hS1 HI4
                  go_wp2_with fail
                  go_roundw
                  case rel => exact ⟨k2 + 1, by omega, by go_num, HI2⟩
                  case measure => simp [intOf]; omega
                · have HFR : Hid (¬ T.extract 0 5 = ({ data := #[72, 69, 65, 68] } : ByteArray) ++ Sg.beB ((n.per : Int) + (k2 : Int)) 1) := hfr
                  have HBAD : Hid (¬ Sg.goodH n hd k2) := fun h => HFR.out (HGD.out.1 h).2
                  have HE : Hid (er = 6) := by
                    show _ = _
                    rw [HE0.out]
                    have hx : ¬ (Sg.numbered n && Sg.chained n && Sg.leadsHead n hd) = true := fun h => (absurd ((Sg.good_all HFI.out).2 h k2 hlt') (by exact HBAD.out))
                    unfold Sg.lookOk
                    rw [if_neg]
                    intro h
                    apply hx
                    simp only [Bool.and_eq_true] at h ⊢
                    exact h.1.1
                  clear hfr
                  go_wp2_with fail
                  go_region_held3 (fun w' => w'.cell? ⟨w1.heap.size, 0, none⟩ = some (.int .i64 (n.per : Int)) ∧ w'.cell? ⟨w1.heap.size, 4, none⟩ = some (.slice (some ⟨gH, 0, none⟩) n.hdrs.length capH) ∧ w'.cell? ⟨gH, k2, none⟩ = some (.string T)) (first | with_reducible assumption | exact hS1)
                    (first | (go_at_call 46; refine (hby _).mono ?_; rintro e w5 ⟨y5, rfl, hy5, hys5, hb5⟩; have hb5' : Below w4.heap.size w4 w5 := (by first | exact hb5 | exact ((Below.refl w4.heap.size w4).drew).trans hb5); have hh5 : w5.cell? ⟨w1.heap.size, 0, none⟩ = some (.int .i64 (n.per : Int)) ∧ w5.cell? ⟨w1.heap.size, 4, none⟩ = some (.slice (some ⟨gH, 0, none⟩) n.hdrs.length capH) ∧ w5.cell? ⟨gH, k2, none⟩ = some (.string T) := ⟨(hb5'.cell (p := ⟨w1.heap.size, 0, none⟩) hBl4).trans hS0.1, (hb5'.cell (p := ⟨w1.heap.size, 4, none⟩) hBl4).trans hS0.2.1, (hb5'.cell (p := ⟨gH, k2, none⟩) hgl4).trans hS0.2.2⟩; have hI5 := HI4.out.below hb5'; have qc := cat ({ data := #[72, 69, 65, 68] } : ByteArray) y5 (by show 4 + y5.size ≤ _; omega); have hcmp2 : ((T.extract 0 5).toList == (({ data := #[72, 69, 65, 68] } : ByteArray) ++ y5).toList) = false := ne_list (by rw [hy5.out]; exact HFR.out)))
                  obtain ⟨q0, q1, q2, q3⟩ := hI5.res.cells
                  obtain ⟨f0, f1, f2, f3⟩ := quad_free hI5.res
                  have HB : Hid (Below w.heap.size w ((((w5.setCell ⟨w.heap.size, 0, none⟩ (.int .i64 0)).setCell ⟨w.heap.size, 1, none⟩ (.int .i64 0)).setCell ⟨w.heap.size, 2, none⟩ (.int .i64 0)).setCell ⟨w.heap.size, 3, none⟩ (.slice none 0 0))) := hI5.bel.trans ((quad_store hI5.res _ _ _ _).2.1 _ (Nat.le_refl _))
                  go_wp2_with fail
                  refine bodyPost_ret (v := .tuple #[zLine, .int .i64 6]) (by simp [results, Try.results38, go_sem, q0, q1, q2, q3]) rfl ⟨?_, Or.inl ⟨by rw [HE.out]; decide, by rw [HE.out]⟩⟩
                  first | exact HB.out | exact HB.out.drew | exact below_drewN HB.out _
              · have hcmp1 := ne_list hsn
                have HBAD : Hid (¬ Sg.goodH n hd k2) := fun h => hsn (HGD.out.1 h).1
                have HE : Hid (er = 6) := by
                  show _ = _
                  rw [HE0.out]
                  have hx : ¬ (Sg.numbered n && Sg.chained n && Sg.leadsHead n hd) = true := fun h => (absurd ((Sg.good_all HFI.out).2 h k2 hlt') (by exact HBAD.out))
                  unfold Sg.lookOk
                  rw [if_neg]
                  intro h
                  apply hx
                  simp only [Bool.and_eq_true] at h ⊢
                  exact h.1.1
                clear hsn
                go_wp2_with fail
                go_quiet (fail)
                all_goals
                  obtain ⟨q0, q1, q2, q3⟩ := HI4.out.res.cells
                  obtain ⟨f0, f1, f2, f3⟩ := quad_free HI4.out.res
                  have HB : Hid (Below w.heap.size w ((((w4.setCell ⟨w.heap.size, 0, none⟩ (.int .i64 0)).setCell ⟨w.heap.size, 1, none⟩ (.int .i64 0)).setCell ⟨w.heap.size, 2, none⟩ (.int .i64 0)).setCell ⟨w.heap.size, 3, none⟩ (.slice none 0 0))) := HI4.out.bel.trans ((quad_store HI4.out.res _ _ _ _).2.1 _ (Nat.le_refl _))
                  go_wp2_with fail
                  refine bodyPost_ret (v := .tuple #[zLine, .int .i64 6]) (by simp [results, Try.results38, go_sem, q0, q1, q2, q3]) rfl ⟨?_, Or.inl ⟨by rw [HE.out]; decide, by rw [HE.out]⟩⟩
                  first | exact HB.out | exact HB.out.drew | exact below_drewN HB.out _
          · have HAll : Hid ((Sg.numbered n && Sg.chained n && Sg.leadsHead n hd) = true) := (Sg.good_all HFI.out).1 (fun i hi => HGO.out i (by omega))
            have i2 : ¬ (k2 : Int) < (n.hdrs.length : Int) := by omega
            have hc := hcell 0 (by omega)
            have h16 := Sg.hdrB_16 (hfix 0 (by omega))
            have hst := Sg.hdrB_stat (hfix 0 (by omega))
            obtain ⟨ao', cap', eD, hinD⟩ := HI1.out.drow.shape
            simp only [Value.slice.injEq] at eD
            obtain ⟨rfl, _, rfl⟩ := eD
            obtain ⟨aoP', capP', eP, hcP, hmP, hatP⟩ := own_strs_shape HI1.out.prow
            simp only [Value.slice.injEq] at eP
            obtain ⟨rfl, _, rfl⟩ := eP
            obtain ⟨p, q, ep, hp2, hq2⟩ := HFI.out.path
            have hpl : n.path.length = 2 := by rw [ep]; rfl
            have hsz2 : ∀ x ∈ n.path, x.size = 2 := by rw [ep]; intro x hx; simp at hx; rcases hx with rfl | rfl <;> assumption
            have hPs : StrsIn wy aoP n.path := by
              obtain ⟨g, e, hg, hat⟩ := hatP (by omega)
              exact Or.inr ⟨g, 0, e, hg, hat⟩
            have hl3 := HFI.out.line
            have hfits : ∀ d ∈ n.drls, drlFits d := fun d hd => by
              obtain ⟨k1, k2, k3, k4⟩ := HFI.out.drls d hd
              exact ⟨k1, k2, by unfold Sg.fits; rw [decide_eq_true_eq]; omega, k4⟩
            have hleaf := fun W (hb : Below wy.heap.size wy W) => leaf_any2 (n.line : Int) n.total n.drls aoD n.drls.length capD W rfl (by omega) hfits (hinD.below hb) ⟨by omega, by omega⟩ HFI.out.total
            unfold maxLen at hmP
            have hclimb : ∀ (leaf : ByteArray) (_ : leaf.size ≤ 1000) (W : World) (_ : Below wy.heap.size wy W), Calls Try.prog 54 #[.string leaf, .int .i64 (n.line : Int), .int .i64 4, .slice aoP n.path.length capP] W fun e w' => ∃ r : ByteArray, e = .returned (.tuple #[.string r, .bool (okLen n.path.length n.line 4)]) ∧ r.size ≤ 2 ∧ (okLen n.path.length n.line 4 = true → r = Sg.climb leaf n.line 4 n.path) ∧ Below W.heap.size W w' := fun leaf hs W hb => refClimb_upto (leaf := leaf) (by omega) 4 n.path aoP n.path.length n.line 4 capP W rfl (by omega) (by omega) (by omega) hcP (by omega) hsz2 (strsIn_below hPs hb)
            have hok : okLen n.path.length n.line 4 = true := by unfold okLen; rw [hpl, Sg.depth4 hl3]; rfl
            have HLT : Hid (Sg.leadsStmt n = decide (Sg.climb (Sg.lineB (n.line : Int) n.total n.drls) n.line 4 n.path = (Sg.hG n 0).stat)) := rfl
            have HLS : Hid ((Sg.lineB (n.line : Int) n.total n.drls).size ≤ 1000) := by
              show _ ≤ _
              unfold Sg.lineB
              simp only [ByteArray.size_append, Sg.beB_size, Sg.root_size]
              omega
            obtain ⟨lf, hlf⟩ : ∃ lf, Sg.lineB (n.line : Int) n.total n.drls = lf := ⟨_, rfl⟩
            rw [hlf] at hleaf HLT HLS
            obtain ⟨ok, hokk⟩ : ∃ ok, okLen n.path.length n.line 4 = ok := ⟨_, rfl⟩
            rw [hokk] at hclimb hok
            have HOK : Hid (ok = true) := hok
            have hS0 : wy.cell? ⟨w1.heap.size, 1, none⟩ = some (.int .i64 (n.line : Int)) ∧ wy.cell? ⟨w1.heap.size, 2, none⟩ = some (.int .i64 n.total) ∧ wy.cell? ⟨w1.heap.size, 3, none⟩ = some (.slice aoD n.drls.length capD) ∧ wy.cell? ⟨w1.heap.size, 5, none⟩ = some (.slice aoP n.path.length capP) := ⟨c1, c2, c3, c5⟩
            have hS1 : wy.drew.cell? ⟨w1.heap.size, 1, none⟩ = some (.int .i64 (n.line : Int)) ∧ wy.drew.cell? ⟨w1.heap.size, 2, none⟩ = some (.int .i64 n.total) ∧ wy.drew.cell? ⟨w1.heap.size, 3, none⟩ = some (.slice aoD n.drls.length capD) ∧ wy.drew.cell? ⟨w1.heap.size, 5, none⟩ = some (.slice aoP n.path.length capP) := by simpa using hS0
            have HBX : Hid (wy.cell? ⟨w1.heap.size, 0, none⟩ = some (.int .i64 (n.per : Int)) ∧ wy.cell? ⟨w1.heap.size, 4, none⟩ = some (.slice (some ⟨gH, 0, none⟩) n.hdrs.length capH) ∧ wy.cell? ⟨gH, 0, none⟩ = some (.string (Sg.hdrB (Sg.hG n 0)))) := ⟨c0, c4, hc⟩
            rw [← hst] at HLT
            generalize Sg.hdrB (Sg.hG n 0) = T at *
            have j3 : (14 : Int) ≤ (T.size : Int) := by omega
            have j0 : (0 : Int) < (n.hdrs.length : Int) := by omega
            clear hcell hfix hst hlf hokk hok hpl ep hPs hatP hinD hfits hsz2 c1 c2 c3 c5 hc c0
            go_wp2_with fail
            clear c4
            go_region_held3 (fun w' => w'.cell? ⟨w1.heap.size, 1, none⟩ = some (.int .i64 (n.line : Int)) ∧ w'.cell? ⟨w1.heap.size, 2, none⟩ = some (.int .i64 n.total) ∧ w'.cell? ⟨w1.heap.size, 3, none⟩ = some (.slice aoD n.drls.length capD) ∧ w'.cell? ⟨w1.heap.size, 5, none⟩ = some (.slice aoP n.path.length capP)) (first | with_reducible assumption | exact hS1)
              (first
                | (go_at_call 70; refine (hleaf _ (by first | exact Below.refl _ _ | exact (Below.refl wy.heap.size wy).drew)).mono ?_; rintro e w4 ⟨rfl, hb4⟩; have hb4' : Below wy.heap.size wy w4 := (by first | exact hb4 | exact ((Below.refl wy.heap.size wy).drew).trans hb4); have hh4 : w4.cell? ⟨w1.heap.size, 1, none⟩ = some (.int .i64 (n.line : Int)) ∧ w4.cell? ⟨w1.heap.size, 2, none⟩ = some (.int .i64 n.total) ∧ w4.cell? ⟨w1.heap.size, 3, none⟩ = some (.slice aoD n.drls.length capD) ∧ w4.cell? ⟨w1.heap.size, 5, none⟩ = some (.slice aoP n.path.length capP) := ⟨(hb4'.cell (p := ⟨w1.heap.size, 1, none⟩) hBl).trans hS0.1, (hb4'.cell (p := ⟨w1.heap.size, 2, none⟩) hBl).trans hS0.2.1, (hb4'.cell (p := ⟨w1.heap.size, 3, none⟩) hBl).trans hS0.2.2.1, (hb4'.cell (p := ⟨w1.heap.size, 5, none⟩) hBl).trans hS0.2.2.2⟩)
                | (go_at_call 54; refine (hclimb lf HLS.out _ hb4').mono ?_; rintro e w5 ⟨r5, rfl, _, hr5, hb5⟩; have hb5' : Below wy.heap.size wy w5 := hb4'.trans (hb5.mono hb4'.size); have hh5 : w5.cell? ⟨w1.heap.size, 1, none⟩ = some (.int .i64 (n.line : Int)) ∧ w5.cell? ⟨w1.heap.size, 2, none⟩ = some (.int .i64 n.total) ∧ w5.cell? ⟨w1.heap.size, 3, none⟩ = some (.slice aoD n.drls.length capD) ∧ w5.cell? ⟨w1.heap.size, 5, none⟩ = some (.slice aoP n.path.length capP) := ⟨(hb5'.cell (p := ⟨w1.heap.size, 1, none⟩) hBl).trans hS0.1, (hb5'.cell (p := ⟨w1.heap.size, 2, none⟩) hBl).trans hS0.2.1, (hb5'.cell (p := ⟨w1.heap.size, 3, none⟩) hBl).trans hS0.2.2.1, (hb5'.cell (p := ⟨w1.heap.size, 5, none⟩) hBl).trans hS0.2.2.2⟩))
            have hI5 := HI1.out.below hb5'
            have z4 := (hb5'.cell (p := ⟨w1.heap.size, 4, none⟩) hBl).trans HBX.out.2.1
            have zT := (hb5'.cell (p := ⟨gH, 0, none⟩) hgl).trans HBX.out.2.2
            have HR5 : Hid (r5 = Sg.climb lf n.line 4 n.path) := hr5 HOK.out
            clear hr5 hh4 hh5 hS0 hS1 hleaf hclimb hb4 hb4' hb5 hb5' HBX
            by_cases hcs : r5 = T.extract 12 14
            · have hcmp := eq_list hcs
              have HE : Hid (er = 0) := by
                show _ = _
                have e1 : Sg.leadsStmt n = true := by rw [HLT.out, decide_eq_true_eq, ← HR5.out]; exact hcs
                rw [HE0.out]
                unfold Sg.lookOk
                rw [HAll.out, e1, HTT.out]
                rfl
              clear hcs
              obtain ⟨o0, o1, o2, o3, _, _⟩ := hI5.box.cells
              obtain ⟨q0, q1, q2, q3⟩ := hI5.res.cells
              obtain ⟨f0, f1, f2, f3⟩ := quad_free hI5.res
              obtain ⟨_, hBl', hoth⟩ := quad_store hI5.res (.int .i64 (n.per : Int)) (.int .i64 (n.line : Int)) (.int .i64 n.total) (.slice aoD n.drls.length capD)
              have HB : Hid (Below w.heap.size w ((((w5.setCell ⟨w.heap.size, 0, none⟩ (.int .i64 (n.per : Int))).setCell ⟨w.heap.size, 1, none⟩ (.int .i64 (n.line : Int))).setCell ⟨w.heap.size, 2, none⟩ (.int .i64 n.total)).setCell ⟨w.heap.size, 3, none⟩ (.slice aoD n.drls.length capD)) ∧ OwnDrls ((((w5.setCell ⟨w.heap.size, 0, none⟩ (.int .i64 (n.per : Int))).setCell ⟨w.heap.size, 1, none⟩ (.int .i64 (n.line : Int))).setCell ⟨w.heap.size, 2, none⟩ (.int .i64 n.total)).setCell ⟨w.heap.size, 3, none⟩ (.slice aoD n.drls.length capD)) w.heap.size (.slice aoD n.drls.length capD) n.drls) := ⟨hI5.bel.trans (hBl' _ (Nat.le_refl _)), ownsRow_mono (ownsRow_offB hI5.drow (by omega) hoth) (Nat.le_succ _)⟩
              clear hBl' hoth
              go_wp2_with fail
              refine bodyPost_ret (v := .tuple #[lineV n (.slice aoD n.drls.length capD), .int .i64 0]) (by simp [results, Try.results38, go_sem, q0, q1, q2, q3]) rfl ⟨HB.out.1, Or.inr ⟨HE.out, _, rfl, HB.out.2⟩⟩
            · have hcmp := ne_list hcs
              have HE : Hid (er = 6) := by
                show _ = _
                have e1 : Sg.leadsStmt n = false := by rw [HLT.out, decide_eq_false_iff_not, ← HR5.out]; exact hcs
                rw [HE0.out]
                unfold Sg.lookOk
                rw [e1]
                simp
              clear hcs
              obtain ⟨q0, q1, q2, q3⟩ := hI5.res.cells
              obtain ⟨f0, f1, f2, f3⟩ := quad_free hI5.res
              have HB : Hid (Below w.heap.size w ((((w5.setCell ⟨w.heap.size, 0, none⟩ (.int .i64 0)).setCell ⟨w.heap.size, 1, none⟩ (.int .i64 0)).setCell ⟨w.heap.size, 2, none⟩ (.int .i64 0)).setCell ⟨w.heap.size, 3, none⟩ (.slice none 0 0))) := hI5.bel.trans ((quad_store hI5.res _ _ _ _).2.1 _ (Nat.le_refl _))
              go_wp2_with fail
              refine bodyPost_ret (v := .tuple #[zLine, .int .i64 6]) (by simp [results, Try.results38, go_sem, q0, q1, q2, q3]) rfl ⟨?_, Or.inl ⟨by rw [HE.out]; decide, by rw [HE.out]⟩⟩
              first | exact HB.out | exact HB.out.drew | exact below_drewN HB.out _
end Go.Proofs.Ytpkkhkkkgjhkeaa
