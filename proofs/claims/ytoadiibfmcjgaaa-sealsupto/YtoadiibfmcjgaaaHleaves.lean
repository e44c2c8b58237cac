/-
  THE WALKS of Period.Leaves, Period.seals.
-/
import Derived.Test.YtoadiibfmcjgaaaHleaf
import Derived.Test.YtoadiibfmcjgaaaLeaves
namespace Go.Proofs.Ytoadiibfmcjgaaa
open Go.RowKit Go.Maps
set_option maxRecDepth 100000
attribute [local go_sem ↓] Go.wp_at_zero Go.wp_at_succ

theorem PerBox.drew {w : World} {g : Nat} {a e m c3 c4 c5 c6 c7 c8 c9 c10 : Value} (h : PerBox w g a e m c3 c4 c5 c6 c7 c8 c9 c10) : PerBox w.drew g a e m c3 c4 c5 c6 c7 c8 c9 c10 := h
theorem thirteen {W : World} {g1 g2 : Nat} {c0 c1 c2 c3 c4 c5 c6 c7 c8 c9 c10 d0 d1 : Value} {t : TypeId} (h : PerBox W g1 c0 c1 c2 c3 c4 c5 c6 c7 c8 c9 c10) (k : Two W g2 d0 d1 t) : W.cell? ⟨g1, 0, none⟩ = some c0 ∧ W.cell? ⟨g1, 1, none⟩ = some c1 ∧ W.cell? ⟨g1, 2, none⟩ = some c2 ∧ W.cell? ⟨g1, 3, none⟩ = some c3 ∧ W.cell? ⟨g1, 4, none⟩ = some c4 ∧ W.cell? ⟨g1, 5, none⟩ = some c5 ∧ W.cell? ⟨g1, 6, none⟩ = some c6 ∧ W.cell? ⟨g1, 7, none⟩ = some c7 ∧ W.cell? ⟨g1, 8, none⟩ = some c8 ∧ W.cell? ⟨g1, 9, none⟩ = some c9 ∧ W.cell? ⟨g1, 10, none⟩ = some c10 ∧ W.cell? ⟨g2, 0, none⟩ = some d0 ∧ W.cell? ⟨g2, 1, none⟩ = some d1 := by
  obtain ⟨a0, a1, a2, a3, a4, a5, a6, a7, a8, a9, a10, _⟩ := h.cells
  obtain ⟨b0, b1⟩ := k.cells
  exact ⟨a0, a1, a2, a3, a4, a5, a6, a7, a8, a9, a10, b0, b1⟩
theorem totIndexAt (t0 t1 t2 t3 : Int) (r : Nat) (hr : r < 4) (W : World) :
    (Instr.index 114 (.agg #[.int .u64 (nHi t0), .int .u64 (nLo t0), .int .u64 (nHi t1), .int .u64 (nLo t1), .int .u64 (nHi t2), .int .u64 (nLo t2), .int .u64 (nHi t3), .int .u64 (nLo t3)]) (.int .i64 (r : Int))).run Try.prog W = .ok (.agg #[.int .u64 (nHi ([t0, t1, t2, t3].getD r 0)), .int .u64 (nLo ([t0, t1, t2, t3].getD r 0))]) W := by
  obtain ⟨x0, x1, x2, x3⟩ := totIndex (.int .u64 (nHi t0)) (.int .u64 (nLo t0)) (.int .u64 (nHi t1)) (.int .u64 (nLo t1)) (.int .u64 (nHi t2)) (.int .u64 (nLo t2)) (.int .u64 (nHi t3)) (.int .u64 (nLo t3)) W
  match r, hr with
  | 0, _ => exact x0
  | 1, _ => exact x1
  | 2, _ => exact x2
  | 3, _ => exact x3

set_option maxHeartbeats 6400000 in
/-- Period.Leaves. -/
theorem perLeaves_any (ac : List Sg.Acc) (es : List Sg.Ent) (t0 t1 t2 t3 : Int) (aoA aoE : Option Addr) (nA capA ne capE : Nat) (mV : Value) (w : World) (hA : AccsIn w aoA ac) (hnA : ac.length = nA) (hn8 : nA ≤ 8) (hE : EntsIn w aoE es) (hne : es.length = ne) (hper : perFine nA es) (ht : ∀ v ∈ [t0, t1, t2, t3], Sg.fits v = true) :
    Calls Try.prog 113 #[.agg #[.slice aoA nA capA, .slice aoE ne capE, mV, .int .u64 (nHi t0), .int .u64 (nLo t0), .int .u64 (nHi t1), .int .u64 (nLo t1), .int .u64 (nHi t2), .int .u64 (nLo t2), .int .u64 (nHi t3), .int .u64 (nLo t3)]] w fun e w' => ∃ v, e = .returned v ∧ Hid (OwnStrs w' (w.heap.size + 1) v (Sg.stmt ac es [t0, t1, t2, t3])) ∧ Below w.heap.size w w' := by
  obtain ⟨i0, hi, hz0, hz1, hz2⟩ := info_parts Try.infoStr
  have hdr := fun W (hb : Below w.heap.size w W) (line : Int) => perDrills_any ac es line aoA aoE nA capA ne capE mV (.int .u64 (nHi t0)) (.int .u64 (nLo t0)) (.int .u64 (nHi t1)) (.int .u64 (nLo t1)) (.int .u64 (nHi t2)) (.int .u64 (nLo t2)) (.int .u64 (nHi t3)) (.int .u64 (nLo t3)) W (hA.below hb) hnA (hE.below hb) hne hn8 (by have := hper.1; omega) (fun e he => ⟨((hper.2 e he).2).1, ((hper.2 e he).2).2⟩)
  have HFIT : Hid (∀ line, (∀ d ∈ Sg.drillsOf ac es line, drlFits d) ∧ (Sg.drillsOf ac es line).length ≤ 72) := fun line => perFine_drills hn8 hper ac line
  have HTF : Hid (∀ v ∈ [t0, t1, t2, t3], Sg.fits v = true) := ht
  have HST : Hid (stmtTo ac es [t0, t1, t2, t3] 4 = Sg.stmt ac es [t0, t1, t2, t3]) := rfl
  clear ht hper hE hA hnA hne
  have HX0 : Hid (PerBox (w.alloc (.cells #[.slice aoA nA capA, .slice aoE ne capE, mV, .int .u64 (nHi t0), .int .u64 (nLo t0), .int .u64 (nHi t1), .int .u64 (nLo t1), .int .u64 (nHi t2), .int .u64 (nLo t2), .int .u64 (nHi t3), .int .u64 (nLo t3)] 116)) w.heap.size (.slice aoA nA capA) (.slice aoE ne capE) mV (.int .u64 (nHi t0)) (.int .u64 (nLo t0)) (.int .u64 (nHi t1)) (.int .u64 (nLo t1)) (.int .u64 (nHi t2)) (.int .u64 (nLo t2)) (.int .u64 (nHi t3)) (.int .u64 (nLo t3))) := PerBox.new w _ _ _ _ _ _ _ _ _ _ _
  go_enter Try.func113, Try.ntmps113
  go_wp2_with fail
  go_loopw [3, 8] (fun o i wr => ∃ r : Nat, r ≤ 4 ∧ i = .int .i64 (r : Int) ∧ ∃ v, v = o ∧ Hid (OwnStrs wr (w.heap.size + 1) v (stmtTo ac es [t0, t1, t2, t3] r)) ∧ Hid (PerBox wr w.heap.size (.slice aoA nA capA) (.slice aoE ne capE) mV (.int .u64 (nHi t0)) (.int .u64 (nLo t0)) (.int .u64 (nHi t1)) (.int .u64 (nLo t1)) (.int .u64 (nHi t2)) (.int .u64 (nLo t2)) (.int .u64 (nHi t3)) (.int .u64 (nLo t3))) ∧ Below w.heap.size w wr) (fun _ i _ => 4 - (intOf i).toNat)
  case atStart => exact ⟨0, by omega, rfl, _, rfl, World.ownsRow_nil _ _ _ _, HX0, (Below.refl _ _).alloc (Nat.le_refl _) _⟩
  case round =>
    obtain ⟨r, hr, rfl, v, ev, HO, HX, hbr⟩ := hrel
    subst ev
    obtain ⟨wz, ewz⟩ : ∃ z : World, z = wr := ⟨_, rfl⟩
    subst ewz
    have hsz := hbr.size
    have hxl : w.heap.size < wz.heap.size := lt_of_block HX.out
    clear HX0
    by_cases hlt : r < 4
    · have hix := totIndexAt t0 t1 t2 t3 r hlt wz
      have hft : Sg.fits ([t0, t1, t2, t3].getD r 0) = true := HTF.out _ (by rw [List.getD_eq_getElem?_getD, List.getElem?_eq_getElem (by simpa using hlt)]; simp)
      have HS : Hid (stmtTo ac es [t0, t1, t2, t3] (r + 1) = stmtTo ac es [t0, t1, t2, t3] r ++ [Sg.lineB (r : Int) ([t0, t1, t2, t3].getD r 0) (Sg.drillsOf ac es (r : Int))]) := stmtTo_succ ac es _ r
      have HLL : Hid ((stmtTo ac es [t0, t1, t2, t3] r).length = r) := by show _ = _; unfold stmtTo; simp
      obtain ⟨hds, hdl⟩ := HFIT.out (r : Int)
      have HDS : Hid (∀ d ∈ Sg.drillsOf ac es (r : Int), drlFits d) := hds
      have hdr' := fun W hb => hdr W hb (r : Int)
      have hll := HLL.out
      generalize Sg.drillsOf ac es (r : Int) = dd at *
      generalize [t0, t1, t2, t3].getD r 0 = tr at *
      generalize stmtTo ac es [t0, t1, t2, t3] r = ss at *
      have i1 : (r : Int) < 4 := by omega
      have i3 : (0 : Int) ≤ (r : Int) := by omega
      have aA : Below wz.heap.size wz (wz.alloc (.cells #[.int .u64 (nHi tr), .int .u64 (nLo tr)] 113)) := (Below.refl _ _).alloc (Nat.le_refl _) _
      have hN0 : Two (wz.alloc (.cells #[.int .u64 (nHi tr), .int .u64 (nLo tr)] 113)) wz.heap.size (.int .u64 (nHi tr)) (.int .u64 (nLo tr)) 113 := Two.new _ _ _ _
      have hP0 := HX.out.below aA
      have hrow := World.ownsRow.lt HO.out
      clear hds hdr
      go_wp2_with fail
      go_region_held3 (fun w' => w'.cell? ⟨w.heap.size, 0, none⟩ = some (.slice aoA nA capA) ∧ w'.cell? ⟨w.heap.size, 1, none⟩ = some (.slice aoE ne capE) ∧ w'.cell? ⟨w.heap.size, 2, none⟩ = some mV ∧ w'.cell? ⟨w.heap.size, 3, none⟩ = some (.int .u64 (nHi t0)) ∧ w'.cell? ⟨w.heap.size, 4, none⟩ = some (.int .u64 (nLo t0)) ∧ w'.cell? ⟨w.heap.size, 5, none⟩ = some (.int .u64 (nHi t1)) ∧ w'.cell? ⟨w.heap.size, 6, none⟩ = some (.int .u64 (nLo t1)) ∧ w'.cell? ⟨w.heap.size, 7, none⟩ = some (.int .u64 (nHi t2)) ∧ w'.cell? ⟨w.heap.size, 8, none⟩ = some (.int .u64 (nLo t2)) ∧ w'.cell? ⟨w.heap.size, 9, none⟩ = some (.int .u64 (nHi t3)) ∧ w'.cell? ⟨w.heap.size, 10, none⟩ = some (.int .u64 (nLo t3)) ∧ w'.cell? ⟨wz.heap.size, 0, none⟩ = some (.int .u64 (nHi tr)) ∧ w'.cell? ⟨wz.heap.size, 1, none⟩ = some (.int .u64 (nLo tr))) (first | assumption | exact thirteen hP0 hN0 | exact thirteen hP0.drew hN0.drew | exact thirteen hP4a hN4a | exact thirteen hP5 hN5)
        (first
          | (go_at_call 108; refine (int64_any tr _ hft).mono ?_; rintro e w2 ⟨rfl, hb2⟩; have hP2 := PerBox.below (by first | exact hP0.drew | exact hP0) hb2; have hN2 := Two.below (by first | exact hN0.drew | exact hN0) hb2; have hh2 := thirteen hP2 hN2; have b2 : Below wz.heap.size wz w2 := (by first | exact aA.drew.trans (hb2.mono (by simp)) | exact aA.trans (hb2.mono (by simp))))
          | (go_at_call 126; refine (hdr' _ (by first | exact hbr.trans (b2.mono hsz) | exact (hbr.trans (b2.mono hsz)).drew)).mono ?_; rintro e w3 ⟨v3, rfl, hO3, hb3⟩; obtain ⟨ao3, cap3, hv3, hD3⟩ := hO3.shape; subst hv3; have hP3 := (by first | exact PerBox.below hP2 hb3 | exact PerBox.below hP2.drew hb3 : PerBox w3 w.heap.size (.slice aoA nA capA) (.slice aoE ne capE) mV (.int .u64 (nHi t0)) (.int .u64 (nLo t0)) (.int .u64 (nHi t1)) (.int .u64 (nLo t1)) (.int .u64 (nHi t2)) (.int .u64 (nLo t2)) (.int .u64 (nHi t3)) (.int .u64 (nLo t3))); have hN3 := (by first | exact Two.below hN2 hb3 | exact Two.below hN2.drew hb3 : Two w3 wz.heap.size (.int .u64 (nHi tr)) (.int .u64 (nLo tr)) 113); have hh3 := thirteen hP3 hN3; have b3 : Below wz.heap.size wz w3 := (by first | exact b2.trans (hb3.mono b2.size) | exact b2.drew.trans (hb3.mono b2.size)))
          | (go_at_call 125; refine (leafText_any (r : Int) tr dd ao3 dd.length cap3 _ rfl (by omega) HDS.out (by first | exact hD3 | exact hD3.below ((Below.refl _ _).drew)) hft).mono ?_; rintro e w4 ⟨tx, rfl, htx, hts, hb4⟩; have hP4 := (by first | exact PerBox.below hP3 hb4 | exact PerBox.below hP3.drew hb4 : PerBox w4 w.heap.size (.slice aoA nA capA) (.slice aoE ne capE) mV (.int .u64 (nHi t0)) (.int .u64 (nLo t0)) (.int .u64 (nHi t1)) (.int .u64 (nLo t1)) (.int .u64 (nHi t2)) (.int .u64 (nLo t2)) (.int .u64 (nHi t3)) (.int .u64 (nLo t3))); have hN4 := (by first | exact Two.below hN3 hb4 | exact Two.below hN3.drew hb4 : Two w4 wz.heap.size (.int .u64 (nHi tr)) (.int .u64 (nLo tr)) 113); have hh4 := thirteen hP4 hN4; have b4 : Below wz.heap.size wz w4 := (by first | exact b3.trans (hb4.mono b3.size) | exact b3.drew.trans (hb4.mono b3.size)); have hown4 := HO.out.below b4; unfold OwnStrs at hown4; have hs4 := b4.size; have hP4a := PerBox.below hP4 ((Below.refl _ _).alloc (Nat.le_refl _) (.cells #[.string tx] 9)); have hN4a := Two.below hN4 ((Below.refl _ _).alloc (Nat.le_refl _) (.cells #[.string tx] 9)))
          | (refine step_append_lies _ (by rfl) _ _ _ (by rfl) (w.heap.size + 1) 9 i0 _ 1 16 Try.underlying24 hi hz0 hz1 hz2 rfl (by omega) _ ss.length (ss.map Value.string) (by rfl) (hown4.alloc _) ⟨w4.heap.size, 0, none⟩ 1 1 [.string tx] (by rfl) (by rfl) (World.news_of_block (cs := #[.string tx]) (t := 9) (fr := (0, 0)) (heap_alloc_new w4 _)) (by simp [Value.oneCell']) (by omega) (by unfold maxLen; omega) (by omega) (by simp; omega) (w4.heap.size + 1) (by simp) ?_; intro g cap' w5 hown5 hgrow hat5 hlt5; have hP5 : PerBox w5 w.heap.size (.slice aoA nA capA) (.slice aoE ne capE) mV (.int .u64 (nHi t0)) (.int .u64 (nLo t0)) (.int .u64 (nHi t1)) (.int .u64 (nLo t1)) (.int .u64 (nHi t2)) (.int .u64 (nLo t2)) (.int .u64 (nHi t3)) (.int .u64 (nLo t3)) := (hgrow.block _ (by simp; omega) (fun e => by have := (hrow _ e.symm).1; omega)).trans hP4a; have hN5 : Two w5 wz.heap.size (.int .u64 (nHi tr)) (.int .u64 (nLo tr)) 113 := (hgrow.block _ (by simp; omega) (fun e => by have := (hrow _ e.symm).2; omega)).trans hN4a))
      have hb5 := below_push (B := w.heap.size + 1) (by omega) hown4 (b4.mono (by omega)) hgrow
      have HOn : Hid (OwnStrs w5 (w.heap.size + 1) (.slice (some ⟨g, 0, none⟩) (r + 1) cap') (stmtTo ac es [t0, t1, t2, t3] (r + 1))) := by
        have h5 := OwnStrs.push hown5
        rw [hll] at h5
        show OwnStrs _ _ _ _
        rw [HS.out, ← htx.out]
        exact h5
      have HXn : Hid (PerBox w5 w.heap.size (.slice aoA nA capA) (.slice aoE ne capE) mV (.int .u64 (nHi t0)) (.int .u64 (nLo t0)) (.int .u64 (nHi t1)) (.int .u64 (nLo t1)) (.int .u64 (nHi t2)) (.int .u64 (nLo t2)) (.int .u64 (nHi t3)) (.int .u64 (nLo t3))) := hP5
      have hbe : Below w.heap.size w w5 := hbr.trans (hb5.mono (by omega))
      clear hown5 hgrow hown4 hh2 hh3 hh4 b2 b3 b4 hb2 hb3 hb4 hb5 hP0 hP2 hP3 hP4 hP4a hP5 hN0 hN2 hN3 hN4 hN4a hN5 HO HX HS htx aA hO3 hD3 hdr' hrow hll
      go_wp2_with fail
      go_roundw
      case rel => exact ⟨r + 1, by omega, by go_num, _, rfl, HOn, HXn, hbe⟩
      case measure => simp [intOf]; omega
    · have HOn : Hid (OwnStrs wz (w.heap.size + 1) v (Sg.stmt ac es [t0, t1, t2, t3])) := by
        have := HO.out
        rw [show r = 4 by omega, HST.out] at this
        exact this
      go_wp2_with fail
      go_ret
      exact ⟨_, rfl, HOn, hbr⟩

theorem elevens {W : World} {g1 : Nat} {c0 c1 c2 c3 c4 c5 c6 c7 c8 c9 c10 : Value} (h : PerBox W g1 c0 c1 c2 c3 c4 c5 c6 c7 c8 c9 c10) : W.cell? ⟨g1, 0, none⟩ = some c0 ∧ W.cell? ⟨g1, 1, none⟩ = some c1 ∧ W.cell? ⟨g1, 2, none⟩ = some c2 ∧ W.cell? ⟨g1, 3, none⟩ = some c3 ∧ W.cell? ⟨g1, 4, none⟩ = some c4 ∧ W.cell? ⟨g1, 5, none⟩ = some c5 ∧ W.cell? ⟨g1, 6, none⟩ = some c6 ∧ W.cell? ⟨g1, 7, none⟩ = some c7 ∧ W.cell? ⟨g1, 8, none⟩ = some c8 ∧ W.cell? ⟨g1, 9, none⟩ = some c9 ∧ W.cell? ⟨g1, 10, none⟩ = some c10 := by
  obtain ⟨a0, a1, a2, a3, a4, a5, a6, a7, a8, a9, a10, _⟩ := h.cells
  exact ⟨a0, a1, a2, a3, a4, a5, a6, a7, a8, a9, a10⟩
theorem sumOf_txt (s : ByteArray) (w : World) (hs : s.size ≤ maxLen) :
    Calls Try.prog 39 #[.string s] w fun e w' => ∃ y : ByteArray, e = .returned (.string y) ∧ Hid (y = Sg.sumB s) ∧ y.size ≤ 8 ∧ Below w.heap.size w w' := by
  refine (sumOf_any s w hs).mono ?_
  rintro e w' ⟨rfl, hb⟩
  exact ⟨_, rfl, rfl, by rw [Sg.sumB_size]; omega, hb⟩
/-- What a period brings to its header. -/
def Sg.sealsB (ac : List Sg.Acc) (es : List Sg.Ent) (now t : List Int) : ByteArray := Sg.beB es.length 1 ++ Sg.root (es.map Sg.entB) ++ Sg.root (Sg.stmt ac es t) ++ Sg.sumB (Sg.amountsB now)
theorem stmt_small (ac : List Sg.Acc) (es : List Sg.Ent) (t : List Int) : (Sg.stmt ac es t).length = 4 ∧ ∀ x ∈ Sg.stmt ac es t, x.size ≤ 100 := by
  refine ⟨by unfold Sg.stmt; simp, fun x hx => ?_⟩
  unfold Sg.stmt at hx
  obtain ⟨k, _, rfl⟩ := List.mem_map.1 hx
  unfold Sg.lineB
  rw [cat_size, cat_size, cat_size, Sg.beB_size, Sg.beB_size, Sg.beB_size, Sg.root_size]; omega

set_option maxHeartbeats 6400000 in
/-- Period.seals. -/
theorem seals_any (ac : List Sg.Acc) (es : List Sg.Ent) (now : List Int) (t0 t1 t2 t3 : Int) (aoA aoE : Option Addr) (nA capA ne capE m c : Nat) (w : World) (hA : AccsIn w aoA ac) (hnA : ac.length = nA) (hn8 : nA ≤ 8) (hE : EntsIn w aoE es) (hne : es.length = ne) (hper : perFine nA es) (hok : ∀ e ∈ es, e.memo.size ≤ 20 ∧ e.posts.length ≤ 6 ∧ ∀ p ∈ e.posts, Sg.fits p.acct = true ∧ Sg.fits p.amt = true)
    (hn : now.length = nA) (hf : ∀ v ∈ now, Sg.fits v = true) (hb : BalIn w m c now) (ht : ∀ v ∈ [t0, t1, t2, t3], Sg.fits v = true) :
    Calls Try.prog 95 #[.agg #[.slice aoA nA capA, .slice aoE ne capE, .map (some m), .int .u64 (nHi t0), .int .u64 (nLo t0), .int .u64 (nHi t1), .int .u64 (nLo t1), .int .u64 (nHi t2), .int .u64 (nLo t2), .int .u64 (nHi t3), .int .u64 (nLo t3)]] w fun e w' => ∃ y, e = .returned (.string y) ∧ Hid (y = Sg.sealsB ac es now [t0, t1, t2, t3]) ∧ y.size ≤ 32 ∧ Below w.heap.size w w' := by
  have hn12 : ne ≤ 12 := by have := hper.1; omega
  have hma := fun W (_ : Below w.heap.size w W) => many_any (.slice aoA nA capA) (.map (some m)) (.int .u64 (nHi t0)) (.int .u64 (nLo t0)) (.int .u64 (nHi t1)) (.int .u64 (nLo t1)) (.int .u64 (nHi t2)) (.int .u64 (nLo t2)) (.int .u64 (nHi t3)) (.int .u64 (nLo t3)) aoE ne capE W
  have hen := fun W (hb0 : Below w.heap.size w W) => entries_any es (.slice aoA nA capA) (.map (some m)) (.int .u64 (nHi t0)) (.int .u64 (nLo t0)) (.int .u64 (nHi t1)) (.int .u64 (nLo t1)) (.int .u64 (nHi t2)) (.int .u64 (nLo t2)) (.int .u64 (nHi t3)) (.int .u64 (nLo t3)) aoE ne capE W hne hn12 (hE.below hb0) hok
  have hle := fun W (hb0 : Below w.heap.size w W) => perLeaves_any ac es t0 t1 t2 t3 aoA aoE nA capA ne capE (.map (some m)) W (hA.below hb0) hnA hn8 (hE.below hb0) hne hper ht
  have hbl := fun W (hb0 : Below w.heap.size w W) => balances_any now (.slice aoE ne capE) (.int .u64 (nHi t0)) (.int .u64 (nLo t0)) (.int .u64 (nHi t1)) (.int .u64 (nLo t1)) (.int .u64 (nHi t2)) (.int .u64 (nLo t2)) (.int .u64 (nHi t3)) (.int .u64 (nLo t3)) aoA nA capA m c W hn hn8 hf (hb.below hb0)
  have hl1 : (es.map Sg.entB).length ≤ 4096 := by rw [List.length_map, hne]; omega
  have hs1 : ∀ x ∈ es.map Sg.entB, x.size ≤ 100 := fun x hx => by
    obtain ⟨e, he, rfl⟩ := List.mem_map.1 hx
    have h1 := (hok e he).1
    have h2 := (hok e he).2.1
    rw [Sg.entB_size]; omega
  obtain ⟨hl2', hs2⟩ := stmt_small ac es [t0, t1, t2, t3]
  have hl2 : (Sg.stmt ac es [t0, t1, t2, t3]).length ≤ 4096 := by omega
  have HE : Hid (Sg.sealsB ac es now [t0, t1, t2, t3] = Sg.beB ne 1 ++ Sg.root (es.map Sg.entB) ++ Sg.root (Sg.stmt ac es [t0, t1, t2, t3]) ++ Sg.sumB (Sg.amountsB now)) := by show _ = _; unfold Sg.sealsB; rw [hne]
  generalize es.map Sg.entB = ts at *
  generalize Sg.stmt ac es [t0, t1, t2, t3] = us at *
  generalize Sg.amountsB now = ab at *
  clear hok hE hA hne hper hf hb ht hn hnA hl2'
  have aA : Below w.heap.size w (w.alloc (.cells #[.slice aoA nA capA, .slice aoE ne capE, .map (some m), .int .u64 (nHi t0), .int .u64 (nLo t0), .int .u64 (nHi t1), .int .u64 (nLo t1), .int .u64 (nHi t2), .int .u64 (nLo t2), .int .u64 (nHi t3), .int .u64 (nLo t3)] 116)) := (Below.refl _ _).alloc (Nat.le_refl _) _
  have hP0 : PerBox (w.alloc (.cells #[.slice aoA nA capA, .slice aoE ne capE, .map (some m), .int .u64 (nHi t0), .int .u64 (nLo t0), .int .u64 (nHi t1), .int .u64 (nLo t1), .int .u64 (nHi t2), .int .u64 (nLo t2), .int .u64 (nHi t3), .int .u64 (nLo t3)] 116)) w.heap.size (.slice aoA nA capA) (.slice aoE ne capE) (.map (some m)) (.int .u64 (nHi t0)) (.int .u64 (nLo t0)) (.int .u64 (nHi t1)) (.int .u64 (nLo t1)) (.int .u64 (nHi t2)) (.int .u64 (nLo t2)) (.int .u64 (nHi t3)) (.int .u64 (nLo t3)) := PerBox.new w _ _ _ _ _ _ _ _ _ _ _
  go_enter Try.func95, Try.ntmps95
  go_wp2_with fail
  go_region_held3 (fun w' => w'.cell? ⟨w.heap.size, 0, none⟩ = some (.slice aoA nA capA) ∧ w'.cell? ⟨w.heap.size, 1, none⟩ = some (.slice aoE ne capE) ∧ w'.cell? ⟨w.heap.size, 2, none⟩ = some (.map (some m)) ∧ w'.cell? ⟨w.heap.size, 3, none⟩ = some (.int .u64 (nHi t0)) ∧ w'.cell? ⟨w.heap.size, 4, none⟩ = some (.int .u64 (nLo t0)) ∧ w'.cell? ⟨w.heap.size, 5, none⟩ = some (.int .u64 (nHi t1)) ∧ w'.cell? ⟨w.heap.size, 6, none⟩ = some (.int .u64 (nLo t1)) ∧ w'.cell? ⟨w.heap.size, 7, none⟩ = some (.int .u64 (nHi t2)) ∧ w'.cell? ⟨w.heap.size, 8, none⟩ = some (.int .u64 (nLo t2)) ∧ w'.cell? ⟨w.heap.size, 9, none⟩ = some (.int .u64 (nHi t3)) ∧ w'.cell? ⟨w.heap.size, 10, none⟩ = some (.int .u64 (nLo t3))) (first | assumption | exact elevens hP0 | exact elevens hP0.drew)
    (first
      | (go_at_call 91; refine (hma _ (by first | exact aA | exact aA.drew)).mono ?_; rintro e w1 ⟨y1, rfl, hy1, hys1, hb1⟩; have hP1 := PerBox.below (by first | exact hP0.drew | exact hP0) hb1; have hh1 := elevens hP1; have b1 : Below w.heap.size w w1 := (by first | exact aA.drew.trans (hb1.mono (by simp)) | exact aA.trans (hb1.mono (by simp))))
      | (go_at_call 111; refine (hen _ (by first | exact b1 | exact b1.drew)).mono ?_; rintro e w2 ⟨v2, rfl, hO2, hb2⟩; have hP2 := (by first | exact PerBox.below hP1 hb2 | exact PerBox.below hP1.drew hb2 : PerBox w2 w.heap.size (.slice aoA nA capA) (.slice aoE ne capE) (.map (some m)) (.int .u64 (nHi t0)) (.int .u64 (nLo t0)) (.int .u64 (nHi t1)) (.int .u64 (nLo t1)) (.int .u64 (nHi t2)) (.int .u64 (nLo t2)) (.int .u64 (nHi t3)) (.int .u64 (nLo t3))); have hh2 := elevens hP2; have b2 : Below w.heap.size w w2 := (by first | exact b1.trans (hb2.mono b1.size) | exact b1.drew.trans (hb2.mono b1.size)))
      | (go_at_call_of 41 v4; refine (sumRoot_own (by first | exact hO4.out | exact hO4.out.below ((Below.refl _ _).drew)) hl2 hs2).mono ?_; rintro e w5 ⟨y5, rfl, hy5, hys5, hb5⟩; have q5 := cat (y1 ++ y3) y5 (by rw [cat_size]; omega); have hP5 := (by first | exact PerBox.below hP4 hb5 | exact PerBox.below hP4.drew hb5 : PerBox w5 w.heap.size (.slice aoA nA capA) (.slice aoE ne capE) (.map (some m)) (.int .u64 (nHi t0)) (.int .u64 (nLo t0)) (.int .u64 (nHi t1)) (.int .u64 (nLo t1)) (.int .u64 (nHi t2)) (.int .u64 (nLo t2)) (.int .u64 (nHi t3)) (.int .u64 (nLo t3))); have hh5 := elevens hP5; have b5 : Below w.heap.size w w5 := (by first | exact b4.trans (hb5.mono b4.size) | exact b4.drew.trans (hb5.mono b4.size)))
      | (go_at_call 41; refine (sumRoot_own (by first | exact hO2.out | exact hO2.out.below ((Below.refl _ _).drew)) hl1 hs1).mono ?_; rintro e w3 ⟨y3, rfl, hy3, hys3, hb3⟩; have q3 := cat y1 y3 (by omega); have hP3 := (by first | exact PerBox.below hP2 hb3 | exact PerBox.below hP2.drew hb3 : PerBox w3 w.heap.size (.slice aoA nA capA) (.slice aoE ne capE) (.map (some m)) (.int .u64 (nHi t0)) (.int .u64 (nLo t0)) (.int .u64 (nHi t1)) (.int .u64 (nLo t1)) (.int .u64 (nHi t2)) (.int .u64 (nLo t2)) (.int .u64 (nHi t3)) (.int .u64 (nLo t3))); have hh3 := elevens hP3; have b3 : Below w.heap.size w w3 := (by first | exact b2.trans (hb3.mono b2.size) | exact b2.drew.trans (hb3.mono b2.size)))
      | (go_at_call 113; refine (hle _ (by first | exact b3 | exact b3.drew)).mono ?_; rintro e w4 ⟨v4, rfl, hO4, hb4⟩; have hP4 := (by first | exact PerBox.below hP3 hb4 | exact PerBox.below hP3.drew hb4 : PerBox w4 w.heap.size (.slice aoA nA capA) (.slice aoE ne capE) (.map (some m)) (.int .u64 (nHi t0)) (.int .u64 (nLo t0)) (.int .u64 (nHi t1)) (.int .u64 (nLo t1)) (.int .u64 (nHi t2)) (.int .u64 (nLo t2)) (.int .u64 (nHi t3)) (.int .u64 (nLo t3))); have hh4 := elevens hP4; have b4 : Below w.heap.size w w4 := (by first | exact b3.trans (hb4.mono b3.size) | exact b3.drew.trans (hb4.mono b3.size)))
      | (go_at_call 93; refine (hbl _ (by first | exact b5 | exact b5.drew)).mono ?_; rintro e w6 ⟨y6, rfl, hy6, hys6, hb6⟩; have hP6 := (by first | exact PerBox.below hP5 hb6 | exact PerBox.below hP5.drew hb6 : PerBox w6 w.heap.size (.slice aoA nA capA) (.slice aoE ne capE) (.map (some m)) (.int .u64 (nHi t0)) (.int .u64 (nLo t0)) (.int .u64 (nHi t1)) (.int .u64 (nLo t1)) (.int .u64 (nHi t2)) (.int .u64 (nLo t2)) (.int .u64 (nHi t3)) (.int .u64 (nLo t3))); have hh6 := elevens hP6; have b6 : Below w.heap.size w w6 := (by first | exact b5.trans (hb6.mono b5.size) | exact b5.drew.trans (hb6.mono b5.size)))
      | (go_at_call 39; refine (sumOf_txt y6 _ (by unfold maxLen; omega)).mono ?_; rintro e w7 ⟨y7, rfl, hy7, hys7, hb7⟩; have q7 := cat (y1 ++ y3 ++ y5) y7 (by rw [cat_size, cat_size]; omega); have hP7 := (by first | exact PerBox.below hP6 hb7 | exact PerBox.below hP6.drew hb7 : PerBox w7 w.heap.size (.slice aoA nA capA) (.slice aoE ne capE) (.map (some m)) (.int .u64 (nHi t0)) (.int .u64 (nLo t0)) (.int .u64 (nHi t1)) (.int .u64 (nLo t1)) (.int .u64 (nHi t2)) (.int .u64 (nLo t2)) (.int .u64 (nHi t3)) (.int .u64 (nLo t3))); have hh7 := elevens hP7; have b7 : Below w.heap.size w w7 := (by first | exact b6.trans (hb7.mono b6.size) | exact b6.drew.trans (hb7.mono b6.size))))
  clear hh1 hh2 hh3 hh4 hh5 hh6 hh7 hP0 hP1 hP2 hP3 hP4 hP5 hP6 hP7 hma hen hle hbl
  go_wp2_with fail
  go_ret
  exact ⟨_, rfl, by show _ = _; rw [HE.out, hy1.out, hy3.out, hy5.out, hy7.out, hy6.out], by rw [cat_size, cat_size, cat_size]; omega, b7⟩
end Go.Proofs.Ytoadiibfmcjgaaa
