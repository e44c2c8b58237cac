import Derived.Test.YtpkkhkkkgjhkeabGreatPkText
import Derived.Test.YtpkkhkkkgjhkeabGreatLeaves
import Derived.Deep.CutRange
/-
  THE WALKS of Period.Line, Period.Leaves.
-/
namespace Go.Proofs.YtpkkhkkkgjhkeabGreat
open Go.RowKit Go.Maps
set_option maxRecDepth 100000
attribute [local go_sem ↓] Go.wp_at_zero Go.wp_at_succ

theorem PerBox.drew {w : World} {g : Nat} {a e m c3 c4 c5 c6 c7 c8 c9 c10 : Value} (h : PerBox w g a e m c3 c4 c5 c6 c7 c8 c9 c10) : PerBox w.drew g a e m c3 c4 c5 c6 c7 c8 c9 c10 := h
theorem elevens {W : World} {g1 : Nat} {c0 c1 c2 c3 c4 c5 c6 c7 c8 c9 c10 : Value} (h : PerBox W g1 c0 c1 c2 c3 c4 c5 c6 c7 c8 c9 c10) : W.cell? ⟨g1, 0, none⟩ = some c0 ∧ W.cell? ⟨g1, 1, none⟩ = some c1 ∧ W.cell? ⟨g1, 2, none⟩ = some c2 ∧ W.cell? ⟨g1, 3, none⟩ = some c3 ∧ W.cell? ⟨g1, 4, none⟩ = some c4 ∧ W.cell? ⟨g1, 5, none⟩ = some c5 ∧ W.cell? ⟨g1, 6, none⟩ = some c6 ∧ W.cell? ⟨g1, 7, none⟩ = some c7 ∧ W.cell? ⟨g1, 8, none⟩ = some c8 ∧ W.cell? ⟨g1, 9, none⟩ = some c9 ∧ W.cell? ⟨g1, 10, none⟩ = some c10 := by
  obtain ⟨a0, a1, a2, a3, a4, a5, a6, a7, a8, a9, a10, _⟩ := h.cells
  exact ⟨a0, a1, a2, a3, a4, a5, a6, a7, a8, a9, a10⟩
theorem Quad.free {w : World} {g : Nat} {x y z u : Value} {t : TypeId} (h : Quad w g x y z u t) : w.frozen? ⟨g, 0, none⟩ = false ∧ w.frozen? ⟨g, 1, none⟩ = false ∧ w.frozen? ⟨g, 2, none⟩ = false ∧ w.frozen? ⟨g, 3, none⟩ = false := by
  unfold Quad at h
  refine ⟨?_, ?_, ?_, ?_⟩ <;> simp [World.frozen?, h]
theorem perBox_tot {W : World} {g : Nat} {a e m : Value} {t0 t1 t2 t3 : Int} (h : PerBox W g a e m (.int .u64 (nHi t0)) (.int .u64 (nLo t0)) (.int .u64 (nHi t1)) (.int .u64 (nLo t1)) (.int .u64 (nHi t2)) (.int .u64 (nLo t2)) (.int .u64 (nHi t3)) (.int .u64 (nLo t3))) (r : Nat) (hr : r < 4) :
    W.cell? ⟨g, 3 + r * 2, none⟩ = some (.int .u64 (nHi ([t0, t1, t2, t3].getD r 0))) ∧ W.cell? ⟨g, 3 + r * 2 + 1, none⟩ = some (.int .u64 (nLo ([t0, t1, t2, t3].getD r 0))) := by
  obtain ⟨_, _, _, a3, a4, a5, a6, a7, a8, a9, a10⟩ := elevens h
  match r, hr with
  | 0, _ => exact ⟨a3, a4⟩
  | 1, _ => exact ⟨a5, a6⟩
  | 2, _ => exact ⟨a7, a8⟩
  | 3, _ => exact ⟨a9, a10⟩
theorem OwnDrls.in_ {w : World} {B n cap : Nat} {ao : Option Addr} {ds : List Sg.Drl} (h : OwnDrls w B (.slice ao n cap) ds) : DrlsIn w ao ds := by
  obtain ⟨ao', cap', e, hD⟩ := h.shape
  simp only [Value.slice.injEq] at e
  rw [e.1]; exact hD

set_option maxHeartbeats 6400000 in
/-- Period.Line. -/
theorem perLine_any (ac : List Sg.Acc) (es : List Sg.Ent) (r : Nat) (hr : r < 4) (t0 t1 t2 t3 : Int) (aoA aoE : Option Addr) (nA capA ne capE : Nat) (mV : Value) (w : World) (hA : AccsIn w aoA ac) (hnA : ac.length = nA) (hn8 : nA ≤ 8) (hE : EntsIn w aoE es) (hne : es.length = ne) (hper : perFine nA es) (hft : Sg.fits ([t0, t1, t2, t3].getD r 0) = true) :
    Calls Tryz.prog 40 #[.agg #[.slice aoA nA capA, .slice aoE ne capE, mV, .int .u64 (nHi t0), .int .u64 (nLo t0), .int .u64 (nHi t1), .int .u64 (nLo t1), .int .u64 (nHi t2), .int .u64 (nLo t2), .int .u64 (nHi t3), .int .u64 (nLo t3)], .int .i64 (r : Int)] w fun e w' => ∃ ao cap, e = .returned (.agg #[.int .i64 0, .int .i64 (r : Int), .int .i64 ([t0, t1, t2, t3].getD r 0), .slice ao (Sg.drillsOf ac es (r : Int)).length cap]) ∧ Hid (OwnDrls w' w.heap.size (.slice ao (Sg.drillsOf ac es (r : Int)).length cap) (Sg.drillsOf ac es (r : Int))) ∧ Below w.heap.size w w' := by
  have hdr := fun W (hb : Below w.heap.size w W) => perDrills_any ac es (r : Int) aoA aoE nA capA ne capE mV (.int .u64 (nHi t0)) (.int .u64 (nLo t0)) (.int .u64 (nHi t1)) (.int .u64 (nLo t1)) (.int .u64 (nHi t2)) (.int .u64 (nLo t2)) (.int .u64 (nHi t3)) (.int .u64 (nLo t3)) W (hA.below hb) hnA (hE.below hb) hne hn8 (by have := hper.1; omega) (fun e he => ⟨((hper.2 e he).2).1, ((hper.2 e he).2).2⟩)
  generalize Sg.drillsOf ac es (r : Int) = dd at *
  obtain ⟨dl, hdl⟩ : ∃ dl, dd.length = dl := ⟨_, rfl⟩
  rw [hdl]
  have HDL : Hid (dd.length = dl) := hdl
  clear hdl hper hE hA hnA hne
  have hbT : Below w.heap.size w ((w.alloc (.cells #[.slice aoA nA capA, .slice aoE ne capE, mV, .int .u64 (nHi t0), .int .u64 (nLo t0), .int .u64 (nHi t1), .int .u64 (nLo t1), .int .u64 (nHi t2), .int .u64 (nLo t2), .int .u64 (nHi t3), .int .u64 (nLo t3)] 87)).alloc (.cells #[.int .i64 0, .int .i64 0, .int .i64 0, .slice none 0 0] 37)) := ((Below.refl _ _).alloc (Nat.le_refl _) _).alloc (by simp) _
  have hP0 : PerBox ((w.alloc (.cells #[.slice aoA nA capA, .slice aoE ne capE, mV, .int .u64 (nHi t0), .int .u64 (nLo t0), .int .u64 (nHi t1), .int .u64 (nLo t1), .int .u64 (nHi t2), .int .u64 (nLo t2), .int .u64 (nHi t3), .int .u64 (nLo t3)] 87)).alloc (.cells #[.int .i64 0, .int .i64 0, .int .i64 0, .slice none 0 0] 37)) w.heap.size (.slice aoA nA capA) (.slice aoE ne capE) mV (.int .u64 (nHi t0)) (.int .u64 (nLo t0)) (.int .u64 (nHi t1)) (.int .u64 (nLo t1)) (.int .u64 (nHi t2)) (.int .u64 (nLo t2)) (.int .u64 (nHi t3)) (.int .u64 (nLo t3)) := (PerBox.new w _ _ _ _ _ _ _ _ _ _ _).below ((Below.refl _ _).alloc (Nat.le_refl _) _)
  have hQ0 : Quad ((w.alloc (.cells #[.slice aoA nA capA, .slice aoE ne capE, mV, .int .u64 (nHi t0), .int .u64 (nLo t0), .int .u64 (nHi t1), .int .u64 (nLo t1), .int .u64 (nHi t2), .int .u64 (nLo t2), .int .u64 (nHi t3), .int .u64 (nLo t3)] 87)).alloc (.cells #[.int .i64 0, .int .i64 0, .int .i64 0, .slice none 0 0] 37)) (w.heap.size + 1) (.int .i64 0) (.int .i64 0) (.int .i64 0) (.slice none 0 0) 37 := by
    have := Quad.new (w.alloc (.cells #[.slice aoA nA capA, .slice aoE ne capE, mV, .int .u64 (nHi t0), .int .u64 (nLo t0), .int .u64 (nHi t1), .int .u64 (nLo t1), .int .u64 (nHi t2), .int .u64 (nLo t2), .int .u64 (nHi t3), .int .u64 (nLo t3)] 87)) (.int .i64 0) (.int .i64 0) (.int .i64 0) (.slice none 0 0) 37
    rw [World.size_alloc] at this
    exact this
  have hix : ∀ W, PerBox W w.heap.size (.slice aoA nA capA) (.slice aoE ne capE) mV (.int .u64 (nHi t0)) (.int .u64 (nLo t0)) (.int .u64 (nHi t1)) (.int .u64 (nLo t1)) (.int .u64 (nHi t2)) (.int .u64 (nLo t2)) (.int .u64 (nHi t3)) (.int .u64 (nLo t3)) → W.cell? ⟨w.heap.size, 3 + r * 2, none⟩ = some (.int .u64 (nHi ([t0, t1, t2, t3].getD r 0))) ∧ W.cell? ⟨w.heap.size, 3 + r * 2 + 1, none⟩ = some (.int .u64 (nLo ([t0, t1, t2, t3].getD r 0))) := fun W h => perBox_tot h r hr
  generalize [t0, t1, t2, t3].getD r 0 = tr at *
  have i5 : (0 : Int) ≤ (r : Int) := by omega
  have i6 : (r : Int) < 4 := by omega
  go_enter Tryz.func40, Tryz.ntmps40
  go_upto_region 1 with fail
  generalize hW0 : (w.alloc (.cells #[.slice aoA nA capA, .slice aoE ne capE, mV, .int .u64 (nHi t0), .int .u64 (nLo t0), .int .u64 (nHi t1), .int .u64 (nLo t1), .int .u64 (nHi t2), .int .u64 (nLo t2), .int .u64 (nHi t3), .int .u64 (nLo t3)] 87)).alloc (.cells #[.int .i64 0, .int .i64 0, .int .i64 0, .slice none 0 0] 37) = W0 at *
  obtain ⟨a0, a1, a2, a3, a4, a5, a6, a7, a8, a9, a10⟩ := elevens hP0
  obtain ⟨d0, d1⟩ := hix _ hP0
  obtain ⟨q0, q1, q2, q3⟩ := hQ0.cells
  obtain ⟨z0, z1, z2, z3⟩ := hQ0.free
  have hwW : W0.heap.size = w.heap.size + 2 := by rw [← hW0]; simp
  clear hW0
  go_region_with (first
    | (go_at_call 75; refine (int64_any tr _ hft).mono ?_; rintro e w2 ⟨rfl, hb2'⟩; have hb2 : Below W0.heap.size W0 w2 := (by first | exact hb2' | exact ((Below.refl _ _).drew).trans hb2' | exact (below_drewN (Below.refl _ _) _).trans hb2'); have hP2 := hP0.below hb2; have hQ2 := hQ0.below hb2; obtain ⟨e0, e1, e2, e3, e4, e5, e6, e7, e8, e9, e10⟩ := elevens hP2; obtain ⟨p0, p1, p2, p3⟩ := hQ2.cells; obtain ⟨y0, y1, y2, y3⟩ := hQ2.free; have b2 := hbT.trans (hb2.mono (by omega)))
    | (go_at_call 76; refine (hdr _ (by first | exact b2 | exact b2.drew | exact below_drewN b2 _)).mono ?_; rintro e w3 ⟨v3, rfl, hO3, hb3'⟩; have hb3 : Below w2.heap.size w2 w3 := (by first | exact hb3' | exact ((Below.refl _ _).drew).trans hb3' | exact (below_drewN (Below.refl _ _) _).trans hb3'); have hQ3 := hQ2.below hb3; obtain ⟨o0, o1, o2, o3⟩ := hQ3.cells; obtain ⟨x0, x1, x2, x3⟩ := hQ3.free; have b3 := b2.trans (hb3.mono b2.size); obtain ⟨ao3, cap3, hv3, _⟩ := OwnDrls.shape hO3; rw [HDL.out] at hv3; subst hv3))
  all_goals
    have hs2 := hb2.size
    have HO : Hid (OwnDrls ((((w3.setCell ⟨w.heap.size + 1, 0, none⟩ (.int .i64 0)).setCell ⟨w.heap.size + 1, 1, none⟩ (.int .i64 (r : Int))).setCell ⟨w.heap.size + 1, 2, none⟩ (.int .i64 tr)).setCell ⟨w.heap.size + 1, 3, none⟩ (.slice ao3 dl cap3)) w.heap.size (.slice ao3 dl cap3) dd) := by
      refine ownsRow_base (base := w.heap.size + 2) ?_ (by omega)
      exact ownsRow_setCell_below (ownsRow_setCell_below (ownsRow_setCell_below (ownsRow_setCell_below (ownsRow_base hO3 (by simp; omega)) (by show w.heap.size + 1 < _; omega) _) (by show w.heap.size + 1 < _; omega) _) (by show w.heap.size + 1 < _; omega) _) (by show w.heap.size + 1 < _; omega) _
    have HB : Hid (Below w.heap.size w ((((w3.setCell ⟨w.heap.size + 1, 0, none⟩ (.int .i64 0)).setCell ⟨w.heap.size + 1, 1, none⟩ (.int .i64 (r : Int))).setCell ⟨w.heap.size + 1, 2, none⟩ (.int .i64 tr)).setCell ⟨w.heap.size + 1, 3, none⟩ (.slice ao3 dl cap3))) := (((b3.setCell (by simp) _).setCell (by simp) _).setCell (by simp) _).setCell (by simp) _
    clear hO3 hb2' hb3' hb2 hb3 b2 b3 hQ0 hQ2 hQ3 hP0 hP2 hbT hdr hix
    go_wp2_with fail
    exact bodyPost_ret (v := .agg #[.int .i64 0, .int .i64 (r : Int), .int .i64 tr, .slice ao3 dl cap3]) (by simp [results, Tryz.results40, go_sem, o0, o1, o2, o3]) rfl ⟨_, _, rfl, HO, HB.out⟩

set_option maxHeartbeats 6400000 in
/-- Period.Leaves. -/
theorem perLeaves_any (ac : List Sg.Acc) (es : List Sg.Ent) (t0 t1 t2 t3 : Int) (aoA aoE : Option Addr) (nA capA ne capE : Nat) (mV : Value) (w : World) (hA : AccsIn w aoA ac) (hnA : ac.length = nA) (hn8 : nA ≤ 8) (hE : EntsIn w aoE es) (hne : es.length = ne) (hper : perFine nA es) (ht : ∀ v ∈ [t0, t1, t2, t3], Sg.fits v = true) :
    Calls Tryz.prog 43 #[.agg #[.slice aoA nA capA, .slice aoE ne capE, mV, .int .u64 (nHi t0), .int .u64 (nLo t0), .int .u64 (nHi t1), .int .u64 (nLo t1), .int .u64 (nHi t2), .int .u64 (nLo t2), .int .u64 (nHi t3), .int .u64 (nLo t3)]] w fun e w' => ∃ v, e = .returned v ∧ Hid (OwnStrs w' (w.heap.size + 1) v (Sg.stmt ac es [t0, t1, t2, t3])) ∧ Below w.heap.size w w' := by
  obtain ⟨i0, hi, hz0, hz1, hz2⟩ := info_parts Tryz.infoStr
  have HTF : Hid (∀ r, r < 4 → Sg.fits ([t0, t1, t2, t3].getD r 0) = true) := fun r hr => ht _ (by rw [List.getD_eq_getElem?_getD, List.getElem?_eq_getElem (by simpa using hr)]; simp)
  have hln := fun W (hb : Below w.heap.size w W) (r : Nat) (hr : r < 4) => perLine_any ac es r hr t0 t1 t2 t3 aoA aoE nA capA ne capE mV W (hA.below hb) hnA hn8 (hE.below hb) hne hper (HTF.out r hr)
  have HFIT : Hid (∀ line, (∀ d ∈ Sg.drillsOf ac es line, drlFits d) ∧ (Sg.drillsOf ac es line).length ≤ 72) := fun line => perFine_drills hn8 hper ac line
  have HST : Hid (stmtTo ac es [t0, t1, t2, t3] 4 = Sg.stmt ac es [t0, t1, t2, t3]) := rfl
  clear ht hper hE hA hnA hne
  have HX0 : Hid (PerBox (w.alloc (.cells #[.slice aoA nA capA, .slice aoE ne capE, mV, .int .u64 (nHi t0), .int .u64 (nLo t0), .int .u64 (nHi t1), .int .u64 (nLo t1), .int .u64 (nHi t2), .int .u64 (nLo t2), .int .u64 (nHi t3), .int .u64 (nLo t3)] 87)) w.heap.size (.slice aoA nA capA) (.slice aoE ne capE) mV (.int .u64 (nHi t0)) (.int .u64 (nLo t0)) (.int .u64 (nHi t1)) (.int .u64 (nLo t1)) (.int .u64 (nHi t2)) (.int .u64 (nLo t2)) (.int .u64 (nHi t3)) (.int .u64 (nLo t3))) := PerBox.new w _ _ _ _ _ _ _ _ _ _ _
  go_enter Tryz.func43, Tryz.ntmps43
  go_wp2_with fail
  go_loopw [3, 5] (fun o i wr => ∃ r : Nat, r ≤ 4 ∧ i = .int .i64 (r : Int) ∧ ∃ v, v = o ∧ Hid (OwnStrs wr (w.heap.size + 1) v (stmtTo ac es [t0, t1, t2, t3] r)) ∧ Hid (PerBox wr w.heap.size (.slice aoA nA capA) (.slice aoE ne capE) mV (.int .u64 (nHi t0)) (.int .u64 (nLo t0)) (.int .u64 (nHi t1)) (.int .u64 (nLo t1)) (.int .u64 (nHi t2)) (.int .u64 (nLo t2)) (.int .u64 (nHi t3)) (.int .u64 (nLo t3))) ∧ Below w.heap.size w wr) (fun _ i _ => 4 - (intOf i).toNat)
  case atStart => exact ⟨0, by omega, rfl, _, rfl, World.ownsRow_nil _ _ _ _, HX0, (Below.refl _ _).alloc (Nat.le_refl _) _⟩
  case round =>
    obtain ⟨r, hr, rfl, v, ev, HO, HX, hbr⟩ := hrel
    subst ev
    obtain ⟨wz, ewz⟩ : ∃ z : World, z = wr := ⟨_, rfl⟩
    subst ewz
    have hsz := hbr.size
    have hxl : w.heap.size < wz.heap.size := lt_of_block HX.out
    clear HX0
    by_cases hlt : r < 4
    · have hft := HTF.out r hlt
      have HS : Hid (stmtTo ac es [t0, t1, t2, t3] (r + 1) = stmtTo ac es [t0, t1, t2, t3] r ++ [Sg.lineB (r : Int) ([t0, t1, t2, t3].getD r 0) (Sg.drillsOf ac es (r : Int))]) := stmtTo_succ ac es _ r
      have HLL : Hid ((stmtTo ac es [t0, t1, t2, t3] r).length = r) := by show _ = _; unfold stmtTo; simp
      obtain ⟨hds, hdl⟩ := HFIT.out (r : Int)
      have HDS : Hid (∀ d ∈ Sg.drillsOf ac es (r : Int), drlFits d) := hds
      have hln' := fun W hb => hln W hb r hlt
      have hll := HLL.out
      generalize Sg.drillsOf ac es (r : Int) = dd at *
      generalize [t0, t1, t2, t3].getD r 0 = tr at *
      generalize stmtTo ac es [t0, t1, t2, t3] r = ss at *
      have i1 : (r : Int) < 4 := by omega
      obtain ⟨a0, a1, a2, a3, a4, a5, a6, a7, a8, a9, a10⟩ := elevens HX.out
      have hrow := World.ownsRow.lt HO.out
      clear hds hln
      go_wp2_with fail
      refine (hln' _ hbr).mono ?_
      rintro e w2 ⟨ao2, cap2, rfl, HO2, hb2⟩
      obtain ⟨dl, hdle⟩ : ∃ dl, dd.length = dl := ⟨_, rfl⟩
      rw [hdle] at HO2 hdl ⊢
      have HDL : Hid (dd.length = dl) := hdle
      have hD2 := OwnDrls.in_ HO2.out
      clear hdle
      go_wp2_with fail
      refine (leafOf_any 0 (r : Int) tr dd ao2 dl cap2 _ HDL.out (by omega) HDS.out hD2 hft).mono ?_
      rintro e w4 ⟨tx, rfl, htx, hts, hb4⟩
      have b4 : Below wz.heap.size wz w4 := hb2.trans (hb4.mono hb2.size)
      have hP4 := HX.out.below b4
      have hown4 := HO.out.below b4
      unfold OwnStrs at hown4
      have hs4 := b4.size
      clear a0 a1 a2 a3 a4 a5 a6 a7 a8 a9 a10 hD2 HO2
      go_wp2_with (at_builtin; (refine wpList_append_lies _ rfl _ _ 71 rfl (w.heap.size + 1) 9 i0 (.string ByteArray.empty) 1 16 Tryz.underlying71 hi hz0 hz1 hz2 rfl (by decide) v ss.length (ss.map Value.string) rfl (hown4.alloc _) ⟨w4.heap.size, 0, none⟩ 1 1 [.string tx] rfl rfl (World.news_of_block (cs := #[.string tx]) (t := 9) (fr := (0, 0)) (heap_alloc_new w4 _)) (by simp [Value.oneCell']) (by omega) (by unfold maxLen; omega) (by omega) (by simp; omega) (w4.heap.size + 1) (by simp) ?_))
      intro g cap' w5 hown5 hgrow _ hlt5
      have hP5 : PerBox w5 w.heap.size (.slice aoA nA capA) (.slice aoE ne capE) mV (.int .u64 (nHi t0)) (.int .u64 (nLo t0)) (.int .u64 (nHi t1)) (.int .u64 (nLo t1)) (.int .u64 (nHi t2)) (.int .u64 (nLo t2)) (.int .u64 (nHi t3)) (.int .u64 (nLo t3)) := (hgrow.block _ (by simp; omega) (fun e => by have := (hrow _ e.symm).1; omega)).trans (hP4.below ((Below.refl _ _).alloc (Nat.le_refl _) _))
      have hb5 := below_push (B := w.heap.size + 1) (by omega) hown4 (b4.mono (by omega)) hgrow
      have HOn : Hid (OwnStrs w5 (w.heap.size + 1) (.slice (some ⟨g, 0, none⟩) (r + 1) cap') (stmtTo ac es [t0, t1, t2, t3] (r + 1))) := by
        show OwnStrs _ _ _ _
        rw [HS.out, ← htx.out]
        exact OwnStrs.push (by rw [hll]; exact hown5)
      have HXn : Hid (PerBox w5 w.heap.size (.slice aoA nA capA) (.slice aoE ne capE) mV (.int .u64 (nHi t0)) (.int .u64 (nLo t0)) (.int .u64 (nHi t1)) (.int .u64 (nLo t1)) (.int .u64 (nHi t2)) (.int .u64 (nLo t2)) (.int .u64 (nHi t3)) (.int .u64 (nLo t3))) := hP5
      have hbe : Below w.heap.size w w5 := hbr.trans (hb5.mono (by omega))
      clear hown5 hgrow hown4 b4 hb2 hb4 hb5 hP4 hP5 HO HX HS htx hln' hrow hll
      go_wp2_with fail
      go_roundw
      case rel => exact ⟨r + 1, by omega, by go_num, _, rfl, HOn, HXn, hbe⟩
      case measure => simp [intOf]; omega
    · have HOn : Hid (OwnStrs wz (w.heap.size + 1) v (Sg.stmt ac es [t0, t1, t2, t3])) := by
        have := HO.out
        rw [show r = 4 by omega, HST.out] at this
        exact this
      go_wp2_with fail
      go_ret
      exact ⟨_, rfl, HOn, hbr⟩

theorem stmt_small (ac : List Sg.Acc) (es : List Sg.Ent) (t : List Int) : (Sg.stmt ac es t).length = 4 ∧ ∀ x ∈ Sg.stmt ac es t, x.size ≤ 100 := by
  refine ⟨by unfold Sg.stmt; simp, fun x hx => ?_⟩
  unfold Sg.stmt at hx
  obtain ⟨k, _, rfl⟩ := List.mem_map.1 hx
  unfold Sg.lineB
  rw [cat_size, cat_size, cat_size, Sg.beB_size, Sg.beB_size, Sg.beB_size, Sg.root_size]; omega
end Go.Proofs.YtpkkhkkkgjhkeabGreat
