import Derived.Test.YtoadiibfmcjgaaaGreatHdrills
import Derived.Test.YtoadiibfmcjgaaaGreatPkText
import Derived.Test.YtoadiibfmcjgaaaGreatLeaves
import Derived.Test.YtoadiibfmcjgaaaGreatPackage
import Derived.Test.YtoadiibfmcjgaaaGreatHeaders
import Derived.Test.YtoadiibfmcjgaaaGreatRefSeal
/-
  THE WALKS of book.drillText, leafText.
-/
namespace Go.Proofs.YtoadiibfmcjgaaaGreat
open Go.RowKit Go.Maps
set_option maxRecDepth 100000
attribute [local go_sem ↓] Go.wp_at_zero Go.wp_at_succ

/-- A box of four cells. -/
def Quad (w : World) (g : Nat) (x y z u : Value) (t : TypeId) : Prop := w.heap[g]? = some (.cells #[x, y, z, u] t (0, 0))
theorem Quad.cells {w : World} {g : Nat} {x y z u : Value} {t : TypeId} (h : Quad w g x y z u t) : w.cell? ⟨g, 0, none⟩ = some x ∧ w.cell? ⟨g, 1, none⟩ = some y ∧ w.cell? ⟨g, 2, none⟩ = some z ∧ w.cell? ⟨g, 3, none⟩ = some u :=
  ⟨by rw [cell_of_row w g 0 _ _ _ h]; rfl, by rw [cell_of_row w g 1 _ _ _ h]; rfl, by rw [cell_of_row w g 2 _ _ _ h]; rfl, by rw [cell_of_row w g 3 _ _ _ h]; rfl⟩
theorem Quad.new (w : World) (x y z u : Value) (t : TypeId) : Quad (w.alloc (.cells #[x, y, z, u] t)) w.heap.size x y z u t := heap_alloc_new w _
theorem Quad.below {w w' : World} {g : Nat} {x y z u : Value} {t : TypeId} (h : Quad w g x y z u t) (hb : Below w.heap.size w w') : Quad w' g x y z u t := (hb.block g (lt_of_block h)).trans h
theorem Quad.drew {w : World} {g : Nat} {x y z u : Value} {t : TypeId} (h : Quad w g x y z u t) : Quad w.drew g x y z u t := h
theorem quad_drew {W : World} {g : Nat} {x y z u : Value} (h : W.cell? ⟨g, 0, none⟩ = some x ∧ W.cell? ⟨g, 1, none⟩ = some y ∧ W.cell? ⟨g, 2, none⟩ = some z ∧ W.cell? ⟨g, 3, none⟩ = some u) :
    W.drew.cell? ⟨g, 0, none⟩ = some x ∧ W.drew.cell? ⟨g, 1, none⟩ = some y ∧ W.drew.cell? ⟨g, 2, none⟩ = some z ∧ W.drew.cell? ⟨g, 3, none⟩ = some u := ⟨by simpa using h.1, by simpa using h.2.1, by simpa using h.2.2.1, by simpa using h.2.2.2⟩

set_option maxHeartbeats 3200000 in
/-- drillText. -/
theorem drillText_any (en pl a am : Int) (w : World) (hfm : -9223372036854775808 ≤ am ∧ am ≤ 9223372036854775807) :
    Calls Tryz.prog 102 #[.agg #[.int .i64 en, .int .i64 pl, .int .i64 a, .int .i64 am]] w fun e w' => ∃ y, e = .returned (.string y) ∧ Hid (y = Sg.beB en 1 ++ Sg.beB pl 1 ++ Sg.beB a 1 ++ Sg.beB am 8) ∧ y.size ≤ 32 ∧ Below w.heap.size w w' := by
  have aA : Below w.heap.size w (w.alloc (.cells #[.int .i64 en, .int .i64 pl, .int .i64 a, .int .i64 am] 142)) := (Below.refl _ _).alloc (Nat.le_refl _) _
  have hT0 : Quad (w.alloc (.cells #[.int .i64 en, .int .i64 pl, .int .i64 a, .int .i64 am] 142)) w.heap.size (.int .i64 en) (.int .i64 pl) (.int .i64 a) (.int .i64 am) 142 := Quad.new _ _ _ _ _ _
  go_enter Tryz.func102, Tryz.ntmps102
  go_wp2_with fail
  go_region_held3 (fun w' => w'.cell? ⟨w.heap.size, 0, none⟩ = some (.int .i64 en) ∧ w'.cell? ⟨w.heap.size, 1, none⟩ = some (.int .i64 pl) ∧ w'.cell? ⟨w.heap.size, 2, none⟩ = some (.int .i64 a) ∧ w'.cell? ⟨w.heap.size, 3, none⟩ = some (.int .i64 am)) (first | assumption | exact hT0.cells | exact quad_drew hT0.cells | exact quad_drew (x := .int .i64 en) (y := .int .i64 pl) (z := .int .i64 a) (u := .int .i64 am) (by assumption))
    (first
      | (go_at_call 83; refine (eight_txt am _ hfm).mono ?_; rintro e w4 ⟨y4, rfl, hy4, hys4, hb4⟩; have q4 := cat (y1 ++ y2 ++ y3) y4 (by rw [cat_size, cat_size]; omega); have hT4 : Quad w4 w.heap.size (.int .i64 en) (.int .i64 pl) (.int .i64 a) (.int .i64 am) 142 := (by first | exact hT3.below hb4 | exact hT3.drew.below hb4); have hh4 := hT4.cells; have b4 : Below w.heap.size w w4 := (by first | exact b3.trans (hb4.mono b3.size) | exact b3.drew.trans (hb4.mono b3.size)))
      | (go_at_call_of 41 (Value.int IntKind.i64 a); refine (one_txt a _).mono ?_; rintro e w3 ⟨y3, rfl, hy3, hys3, hb3⟩; have q3 := cat (y1 ++ y2) y3 (by rw [cat_size]; omega); have hT3 : Quad w3 w.heap.size (.int .i64 en) (.int .i64 pl) (.int .i64 a) (.int .i64 am) 142 := (by first | exact hT2.below hb3 | exact hT2.drew.below hb3); have hh3 := hT3.cells; have b3 : Below w.heap.size w w3 := (by first | exact b2.trans (hb3.mono b2.size) | exact b2.drew.trans (hb3.mono b2.size)))
      | (go_at_call_of 41 (Value.int IntKind.i64 pl); refine (one_txt pl _).mono ?_; rintro e w2 ⟨y2, rfl, hy2, hys2, hb2⟩; have q2 := cat y1 y2 (by omega); have hT2 : Quad w2 w.heap.size (.int .i64 en) (.int .i64 pl) (.int .i64 a) (.int .i64 am) 142 := (by first | exact hT1.below hb2 | exact hT1.drew.below hb2); have hh2 := hT2.cells; have b2 : Below w.heap.size w w2 := (by first | exact b1.trans (hb2.mono b1.size) | exact b1.drew.trans (hb2.mono b1.size)))
      | (go_at_call_of 41 (Value.int IntKind.i64 en); refine (one_txt en _).mono ?_; rintro e w1 ⟨y1, rfl, hy1, hys1, hb1⟩; have hT1 : Quad w1 w.heap.size (.int .i64 en) (.int .i64 pl) (.int .i64 a) (.int .i64 am) 142 := Quad.below (by first | exact hT0.drew | exact hT0) hb1; have hh1 := hT1.cells; have b1 : Below w.heap.size w w1 := (by first | exact aA.drew.trans (hb1.mono (by simp)) | exact aA.trans (hb1.mono (by simp)))))
  go_wp2_with fail
  go_ret
  exact ⟨_, rfl, by show _ = _; rw [hy1.out, hy2.out, hy3.out, hy4.out], by rw [cat_size, cat_size, cat_size]; omega, b4⟩

/-- sum.Root of a list that is the call's own. -/
theorem sumRoot_own {w : World} {base : Nat} {v : Value} {ts : List ByteArray} (h : OwnStrs w base v ts) (hn : ts.length ≤ 4096) (hs : ∀ t ∈ ts, t.size ≤ 100) :
    Calls Tryz.prog 84 #[v] w fun e w' => ∃ y, e = .returned (.string y) ∧ Hid (y = Sg.root ts) ∧ y.size ≤ 8 ∧ Below w.heap.size w w' := by
  have key : Calls Tryz.prog 84 #[v] w fun e w' => e = .returned (.string (Sg.root ts)) ∧ Below w.heap.size w w' := by
    obtain ⟨ao, cap, rfl, hle, hm, hin⟩ := own_strs_shape h
    by_cases h0 : ts.length = 0
    · rw [h0, Sg.root_none h0]
      exact sumRoot_none _ _ w
    · obtain ⟨g, rfl, hg, hat⟩ := hin (by omega)
      exact sumRoot_some ts ts.length g 0 cap w rfl (by omega) hle (by unfold maxLen at hm; omega) (fun s hs' => by have := hs s hs'; omega) hg hat
  refine key.mono ?_
  rintro e w' ⟨rfl, hb⟩
  exact ⟨_, rfl, rfl, by rw [Sg.root_size]; omega, hb⟩
theorem two_txt (n : Int) (w : World) :
    Calls Tryz.prog 103 #[.int .i64 n] w fun e w' => ∃ y : ByteArray, e = .returned (.string y) ∧ Hid (y = Sg.beB n 2) ∧ y.size ≤ 8 ∧ Below w.heap.size w w' := by
  refine (two_any n w).mono ?_
  rintro e w' ⟨rfl, hb⟩
  exact ⟨_, rfl, rfl, by rw [Sg.beB_size]; omega, hb⟩

set_option maxHeartbeats 3200000 in
/-- leafText. -/
theorem leafText_any (line total : Int) (ds : List Sg.Drl) (ao : Option Addr) (n cap : Nat) (w : World) (hn : ds.length = n) (hmax : n ≤ 100) (hok : ∀ d ∈ ds, drlFits d) (hl : DrlsIn w ao ds) (ht : Sg.fits total = true) :
    Calls Tryz.prog 96 #[.int .i64 line, .int .i64 total, .slice ao n cap] w fun e w' => ∃ y, e = .returned (.string y) ∧ Hid (y = Sg.lineB line total ds) ∧ y.size ≤ 32 ∧ Below w.heap.size w w' := by
  obtain ⟨i0, hi, hz0, hz1, hz2⟩ := info_parts Tryz.infoStr
  have HN : Hid (ds.length = n) := hn
  have HOK : Hid (∀ d ∈ ds, drlFits d) := hok
  have HL : Hid (DrlsIn w ao ds) := hl
  have hft : -9223372036854775808 ≤ total ∧ total ≤ 9223372036854775807 := of_decide_eq_true ht
  clear hn hok hl ht
  go_enter Tryz.func96, Tryz.ntmps96
  go_wp2_with fail
  go_loopw [7, 12] (fun o i wr => ∃ k : Nat, k ≤ n ∧ i = .int .i64 (k : Int) ∧ ∃ v, v = o ∧ Hid (OwnStrs wr w.heap.size v ((ds.take k).map Sg.drlB)) ∧ Below w.heap.size w wr) (fun _ i _ => n - (intOf i).toNat)
  case atStart => exact ⟨0, by omega, rfl, _, rfl, World.ownsRow_nil _ _ _ _, Below.refl _ _⟩
  case round =>
    obtain ⟨k, hk, rfl, v, ev, HO, hbr⟩ := hrel
    subst ev
    obtain ⟨wz, ewz⟩ : ∃ z : World, z = wr := ⟨_, rfl⟩
    subst ewz
    have hsz := hbr.size
    by_cases hlt : k < n
    · have hka : k < ds.length := by rw [HN.out]; exact hlt
      obtain ⟨b, off, hao, hbw, hd⟩ := (HL.out.below hbr).cell (k := k) hka
      subst hao
      obtain ⟨d0, d1, d2, d3⟩ := hd
      obtain ⟨_, _, _, o4⟩ := HOK.out ds[k] (List.getElem_mem _)
      have hfm : -9223372036854775808 ≤ ds[k].amt ∧ ds[k].amt ≤ 9223372036854775807 := of_decide_eq_true o4
      have HS : Hid ((ds.take (k + 1)).map Sg.drlB = (ds.take k).map Sg.drlB ++ [Sg.drlB ds[k]]) := by
        show _ = _
        rw [List.take_succ_eq_append_getElem hka, List.map_append]; rfl
      have HD : Hid (Sg.drlB ds[k] = Sg.beB (ds[k].ent : Int) 1 ++ Sg.beB (ds[k].place : Int) 1 ++ Sg.beB ds[k].acct 1 ++ Sg.beB ds[k].amt 8) := rfl
      have hlen : ((ds.take k).map Sg.drlB).length = k := by rw [List.length_map, List.length_take]; omega
      generalize Sg.drlB ds[k] = db at *
      generalize (ds[k].ent : Int) = en at *
      generalize (ds[k].place : Int) = pl at *
      generalize ds[k].acct = a at *
      generalize ds[k].amt = am at *
      generalize (ds.take k).map Sg.drlB = ts at *
      have i1 : (0 : Int) ≤ (k : Int) := by omega
      have i2 : (k : Int) < (n : Int) := by omega
      clear o4
      go_wp2_with fail
      refine (drillText_any en pl a am _ hfm).mono ?_
      rintro e w2 ⟨tx, rfl, htx, hts, hb2⟩
      have hb2' : Below wz.heap.size wz w2 := ((Below.refl _ _).alloc (Nat.le_refl _) _).trans (hb2.mono (by simp))
      have hown2 := HO.out.below hb2'
      have hs2 := hb2'.size
      have hbe2 : Below w.heap.size w w2 := hbr.trans (hb2'.mono hsz)
      unfold OwnStrs at hown2
      clear hb2
      go_wp2_with (at_builtin; refine wpList_append_own _ rfl _ _ 85 rfl w.heap.size 9 i0 (.string ByteArray.empty) 1 16 Tryz.underlying85 hi hz0 hz1 hz2 rfl (by decide) _ _ _ rfl (hown2.alloc _) ⟨w2.heap.size, 0, none⟩ 1 1 [.string tx] rfl rfl ?c1 ?c2 ?c3 ?c4 ?c5 ?_)
      case c1 =>
        intro j u hj
        match j, hj with
        | 0, hj => simp at hj; subst hj; simp [Addr.add]
      case c2 => intro u hu; simp at hu; subst hu; rfl
      case c3 => unfold maxLen; omega
      case c4 => omega
      case c5 => simp; omega
      intro v' w4 hown' hgrow _
      have hb' := below_push (by omega) hown2 hbe2 hgrow
      have HOn : Hid (OwnStrs w4 w.heap.size v' ((ds.take (k + 1)).map Sg.drlB)) := by
        show OwnStrs _ _ _ _
        rw [HS.out, HD.out, ← htx.out]
        exact OwnStrs.push (by rw [hlen]; exact hown')
      clear hgrow hown2 hown' HS HO
      go_wp2_with fail
      go_roundw
      case rel => exact ⟨k + 1, by omega, by go_num, _, rfl, HOn, hb'⟩
      case measure => simp [intOf]; omega
    · have HOn : Hid (OwnStrs wz w.heap.size v (ds.map Sg.drlB)) := by
        have := HO.out
        rw [List.take_of_length_le (by rw [HN.out]; omega)] at this
        exact this
      have hlt' : (ds.map Sg.drlB).length ≤ 4096 := by rw [List.length_map, HN.out]; omega
      have hts : ∀ t ∈ ds.map Sg.drlB, t.size ≤ 100 := fun t ht => by
        obtain ⟨d, _, rfl⟩ := List.mem_map.1 ht
        unfold Sg.drlB
        rw [cat_size, cat_size, cat_size, Sg.beB_size, Sg.beB_size, Sg.beB_size, Sg.beB_size]; omega
      have HE : Hid (Sg.lineB line total ds = Sg.beB line 1 ++ Sg.beB total 8 ++ Sg.beB (n : Int) 2 ++ Sg.root (ds.map Sg.drlB)) := by show _ = _; unfold Sg.lineB; rw [HN.out]
      generalize ds.map Sg.drlB = ts at *
      clear HO
      go_wp2_with fail
      refine (one_txt line _).mono ?_
      rintro e w1 ⟨y1, rfl, hy1, hys1, hb1⟩
      go_wp2_with fail
      refine (eight_txt total _ hft).mono ?_
      rintro e w2 ⟨y2, rfl, hy2, hys2, hb2⟩
      have q1 := cat y1 y2 (by omega)
      go_wp2_with fail
      refine (two_txt (n : Int) _).mono ?_
      rintro e w3 ⟨y3, rfl, hy3, hys3, hb3⟩
      have q2 := cat (y1 ++ y2) y3 (by rw [cat_size]; omega)
      have b3 : Below wz.heap.size wz w3 := (hb1.trans (hb2.mono hb1.size)).trans (hb3.mono (by have := hb1.size; have := hb2.size; omega))
      go_wp2_with fail
      refine (sumRoot_own (HOn.out.below b3) hlt' hts).mono ?_
      rintro e w4 ⟨y4, rfl, hy4, hys4, hb4⟩
      have q3 := cat (y1 ++ y2 ++ y3) y4 (by rw [cat_size, cat_size]; omega)
      go_wp2_with fail
      go_ret
      exact ⟨_, rfl, by show _ = _; rw [HE.out, hy1.out, hy2.out, hy3.out, hy4.out], by rw [cat_size, cat_size, cat_size]; omega, (hbr.trans (b3.mono hsz)).trans (hb4.mono (by have := b3.size; omega))⟩
end Go.Proofs.YtoadiibfmcjgaaaGreat

/-
  THE WALKS of Period.Leaves, Period.seals.
-/
namespace Go.Proofs.YtoadiibfmcjgaaaGreat
open Go.RowKit Go.Maps
set_option maxRecDepth 100000
attribute [local go_sem ↓] Go.wp_at_zero Go.wp_at_succ

theorem PerBox.drew {w : World} {g : Nat} {a e m c3 c4 c5 c6 c7 c8 c9 c10 : Value} (h : PerBox w g a e m c3 c4 c5 c6 c7 c8 c9 c10) : PerBox w.drew g a e m c3 c4 c5 c6 c7 c8 c9 c10 := h
theorem thirteen {W : World} {g1 g2 : Nat} {c0 c1 c2 c3 c4 c5 c6 c7 c8 c9 c10 d0 d1 : Value} {t : TypeId} (h : PerBox W g1 c0 c1 c2 c3 c4 c5 c6 c7 c8 c9 c10) (k : Two W g2 d0 d1 t) : W.cell? ⟨g1, 0, none⟩ = some c0 ∧ W.cell? ⟨g1, 1, none⟩ = some c1 ∧ W.cell? ⟨g1, 2, none⟩ = some c2 ∧ W.cell? ⟨g1, 3, none⟩ = some c3 ∧ W.cell? ⟨g1, 4, none⟩ = some c4 ∧ W.cell? ⟨g1, 5, none⟩ = some c5 ∧ W.cell? ⟨g1, 6, none⟩ = some c6 ∧ W.cell? ⟨g1, 7, none⟩ = some c7 ∧ W.cell? ⟨g1, 8, none⟩ = some c8 ∧ W.cell? ⟨g1, 9, none⟩ = some c9 ∧ W.cell? ⟨g1, 10, none⟩ = some c10 ∧ W.cell? ⟨g2, 0, none⟩ = some d0 ∧ W.cell? ⟨g2, 1, none⟩ = some d1 := by
  obtain ⟨a0, a1, a2, a3, a4, a5, a6, a7, a8, a9, a10, _⟩ := h.cells
  obtain ⟨b0, b1⟩ := k.cells
  exact ⟨a0, a1, a2, a3, a4, a5, a6, a7, a8, a9, a10, b0, b1⟩
theorem totIndexAt (t0 t1 t2 t3 : Int) (r : Nat) (hr : r < 4) (W : World) :
    (Instr.index 94 (.agg #[.int .u64 (nHi t0), .int .u64 (nLo t0), .int .u64 (nHi t1), .int .u64 (nLo t1), .int .u64 (nHi t2), .int .u64 (nLo t2), .int .u64 (nHi t3), .int .u64 (nLo t3)]) (.int .i64 (r : Int))).run Tryz.prog W = .ok (.agg #[.int .u64 (nHi ([t0, t1, t2, t3].getD r 0)), .int .u64 (nLo ([t0, t1, t2, t3].getD r 0))]) W := by
  obtain ⟨x0, x1, x2, x3⟩ := totIndex (.int .u64 (nHi t0)) (.int .u64 (nLo t0)) (.int .u64 (nHi t1)) (.int .u64 (nLo t1)) (.int .u64 (nHi t2)) (.int .u64 (nLo t2)) (.int .u64 (nHi t3)) (.int .u64 (nLo t3)) W
  match r, hr with
  | 0, _ => exact x0
  | 1, _ => exact x1
  | 2, _ => exact x2
  | 3, _ => exact x3

set_option maxHeartbeats 6400000 in
/-- Period.Leaves. -/
theorem perLeaves_any (ac : List Sg.Acc) (es : List Sg.Ent) (t0 t1 t2 t3 : Int) (aoA aoE : Option Addr) (nA capA ne capE : Nat) (mV : Value) (w : World) (hA : AccsIn w aoA ac) (hnA : ac.length = nA) (hn8 : nA ≤ 8) (hE : EntsIn w aoE es) (hne : es.length = ne) (hper : perFine nA es) (ht : ∀ v ∈ [t0, t1, t2, t3], Sg.fits v = true) :
    Calls Tryz.prog 85 #[.agg #[.slice aoA nA capA, .slice aoE ne capE, mV, .int .u64 (nHi t0), .int .u64 (nLo t0), .int .u64 (nHi t1), .int .u64 (nLo t1), .int .u64 (nHi t2), .int .u64 (nLo t2), .int .u64 (nHi t3), .int .u64 (nLo t3)]] w fun e w' => ∃ v, e = .returned v ∧ Hid (OwnStrs w' (w.heap.size + 1) v (Sg.stmt ac es [t0, t1, t2, t3])) ∧ Below w.heap.size w w' := by
  obtain ⟨i0, hi, hz0, hz1, hz2⟩ := info_parts Tryz.infoStr
  have hdr := fun W (hb : Below w.heap.size w W) (line : Int) => perDrills_any ac es line aoA aoE nA capA ne capE mV (.int .u64 (nHi t0)) (.int .u64 (nLo t0)) (.int .u64 (nHi t1)) (.int .u64 (nLo t1)) (.int .u64 (nHi t2)) (.int .u64 (nLo t2)) (.int .u64 (nHi t3)) (.int .u64 (nLo t3)) W (hA.below hb) hnA (hE.below hb) hne hn8 (by have := hper.1; omega) (fun e he => ⟨((hper.2 e he).2).1, ((hper.2 e he).2).2⟩)
  have HFIT : Hid (∀ line, (∀ d ∈ Sg.drillsOf ac es line, drlFits d) ∧ (Sg.drillsOf ac es line).length ≤ 72) := fun line => perFine_drills hn8 hper ac line
  have HTF : Hid (∀ v ∈ [t0, t1, t2, t3], Sg.fits v = true) := ht
  have HST : Hid (stmtTo ac es [t0, t1, t2, t3] 4 = Sg.stmt ac es [t0, t1, t2, t3]) := rfl
  clear ht hper hE hA hnA hne
  have HX0 : Hid (PerBox (w.alloc (.cells #[.slice aoA nA capA, .slice aoE ne capE, mV, .int .u64 (nHi t0), .int .u64 (nLo t0), .int .u64 (nHi t1), .int .u64 (nLo t1), .int .u64 (nHi t2), .int .u64 (nLo t2), .int .u64 (nHi t3), .int .u64 (nLo t3)] 96)) w.heap.size (.slice aoA nA capA) (.slice aoE ne capE) mV (.int .u64 (nHi t0)) (.int .u64 (nLo t0)) (.int .u64 (nHi t1)) (.int .u64 (nLo t1)) (.int .u64 (nHi t2)) (.int .u64 (nLo t2)) (.int .u64 (nHi t3)) (.int .u64 (nLo t3))) := PerBox.new w _ _ _ _ _ _ _ _ _ _ _
  go_enter Tryz.func85, Tryz.ntmps85
  go_wp2_with fail
  go_loopw [3, 8] (fun o i wr => ∃ r : Nat, r ≤ 4 ∧ i = .int .i64 (r : Int) ∧ ∃ v, v = o ∧ Hid (OwnStrs wr (w.heap.size + 1) v (stmtTo ac es [t0, t1, t2, t3] r)) ∧ Hid (PerBox wr w.heap.size (.slice aoA nA capA) (.slice aoE ne capE) mV (.int .u64 (nHi t0)) (.int .u64 (nLo t0)) (.int .u64 (nHi t1)) (.int .u64 (nLo t1)) (.int .u64 (nHi t2)) (.int .u64 (nLo t2)) (.int .u64 (nHi t3)) (.int .u64 (nLo t3))) ∧ Below w.heap.size w wr) (fun _ i _ => 4 - (intOf i).toNat)
  case atStart => exact ⟨0, by omega, rfl, _, rfl, World.ownsRow_nil _ _ _ _, HX0, (Below.refl _ _).alloc (Nat.le_refl _) _⟩
  case round =>
    obtain ⟨r, hr, rfl, v, ev, HO, HX, hbr⟩ := hrel
    subst ev
    obtain ⟨wz, ewz⟩ : ∃ z : World, z = wr := ⟨_, rfl⟩
    subst ewz
    have hsz := hbr.size
    have hxl : w.heap.size < wz.heap.size := lt_of_block HX.out
    clear HX0
    by_cases hlt : r < 4
    · have hix := totIndexAt t0 t1 t2 t3 r hlt wz
      have hft : Sg.fits ([t0, t1, t2, t3].getD r 0) = true := HTF.out _ (by rw [List.getD_eq_getElem?_getD, List.getElem?_eq_getElem (by simpa using hlt)]; simp)
      have HS : Hid (stmtTo ac es [t0, t1, t2, t3] (r + 1) = stmtTo ac es [t0, t1, t2, t3] r ++ [Sg.lineB (r : Int) ([t0, t1, t2, t3].getD r 0) (Sg.drillsOf ac es (r : Int))]) := stmtTo_succ ac es _ r
      have HLL : Hid ((stmtTo ac es [t0, t1, t2, t3] r).length = r) := by show _ = _; unfold stmtTo; simp
      obtain ⟨hds, hdl⟩ := HFIT.out (r : Int)
      have HDS : Hid (∀ d ∈ Sg.drillsOf ac es (r : Int), drlFits d) := hds
      have hdr' := fun W hb => hdr W hb (r : Int)
      have hll := HLL.out
      generalize Sg.drillsOf ac es (r : Int) = dd at *
      generalize [t0, t1, t2, t3].getD r 0 = tr at *
      generalize stmtTo ac es [t0, t1, t2, t3] r = ss at *
      have i1 : (r : Int) < 4 := by omega
      have i3 : (0 : Int) ≤ (r : Int) := by omega
      have aA : Below wz.heap.size wz (wz.alloc (.cells #[.int .u64 (nHi tr), .int .u64 (nLo tr)] 93)) := (Below.refl _ _).alloc (Nat.le_refl _) _
      have hN0 : Two (wz.alloc (.cells #[.int .u64 (nHi tr), .int .u64 (nLo tr)] 93)) wz.heap.size (.int .u64 (nHi tr)) (.int .u64 (nLo tr)) 93 := Two.new _ _ _ _
      have hP0 := HX.out.below aA
      have hrow := World.ownsRow.lt HO.out
      clear hds hdr
      go_wp2_with fail
      go_region_held3 (fun w' => w'.cell? ⟨w.heap.size, 0, none⟩ = some (.slice aoA nA capA) ∧ w'.cell? ⟨w.heap.size, 1, none⟩ = some (.slice aoE ne capE) ∧ w'.cell? ⟨w.heap.size, 2, none⟩ = some mV ∧ w'.cell? ⟨w.heap.size, 3, none⟩ = some (.int .u64 (nHi t0)) ∧ w'.cell? ⟨w.heap.size, 4, none⟩ = some (.int .u64 (nLo t0)) ∧ w'.cell? ⟨w.heap.size, 5, none⟩ = some (.int .u64 (nHi t1)) ∧ w'.cell? ⟨w.heap.size, 6, none⟩ = some (.int .u64 (nLo t1)) ∧ w'.cell? ⟨w.heap.size, 7, none⟩ = some (.int .u64 (nHi t2)) ∧ w'.cell? ⟨w.heap.size, 8, none⟩ = some (.int .u64 (nLo t2)) ∧ w'.cell? ⟨w.heap.size, 9, none⟩ = some (.int .u64 (nHi t3)) ∧ w'.cell? ⟨w.heap.size, 10, none⟩ = some (.int .u64 (nLo t3)) ∧ w'.cell? ⟨wz.heap.size, 0, none⟩ = some (.int .u64 (nHi tr)) ∧ w'.cell? ⟨wz.heap.size, 1, none⟩ = some (.int .u64 (nLo tr))) (first | assumption | exact thirteen hP0 hN0 | exact thirteen hP0.drew hN0.drew | exact thirteen hP4a hN4a | exact thirteen hP5 hN5)
        (first
          | (go_at_call 79; refine (int64_any tr _ hft).mono ?_; rintro e w2 ⟨rfl, hb2⟩; have hP2 := PerBox.below (by first | exact hP0.drew | exact hP0) hb2; have hN2 := Two.below (by first | exact hN0.drew | exact hN0) hb2; have hh2 := thirteen hP2 hN2; have b2 : Below wz.heap.size wz w2 := (by first | exact aA.drew.trans (hb2.mono (by simp)) | exact aA.trans (hb2.mono (by simp))))
          | (go_at_call 97; refine (hdr' _ (by first | exact hbr.trans (b2.mono hsz) | exact (hbr.trans (b2.mono hsz)).drew)).mono ?_; rintro e w3 ⟨v3, rfl, hO3, hb3⟩; obtain ⟨ao3, cap3, hv3, hD3⟩ := hO3.shape; subst hv3; have hP3 := (by first | exact PerBox.below hP2 hb3 | exact PerBox.below hP2.drew hb3 : PerBox w3 w.heap.size (.slice aoA nA capA) (.slice aoE ne capE) mV (.int .u64 (nHi t0)) (.int .u64 (nLo t0)) (.int .u64 (nHi t1)) (.int .u64 (nLo t1)) (.int .u64 (nHi t2)) (.int .u64 (nLo t2)) (.int .u64 (nHi t3)) (.int .u64 (nLo t3))); have hN3 := (by first | exact Two.below hN2 hb3 | exact Two.below hN2.drew hb3 : Two w3 wz.heap.size (.int .u64 (nHi tr)) (.int .u64 (nLo tr)) 93); have hh3 := thirteen hP3 hN3; have b3 : Below wz.heap.size wz w3 := (by first | exact b2.trans (hb3.mono b2.size) | exact b2.drew.trans (hb3.mono b2.size)))
          | (go_at_call 96; refine (leafText_any (r : Int) tr dd ao3 dd.length cap3 _ rfl (by omega) HDS.out (by first | exact hD3 | exact hD3.below ((Below.refl _ _).drew)) hft).mono ?_; rintro e w4 ⟨tx, rfl, htx, hts, hb4⟩; have hP4 := (by first | exact PerBox.below hP3 hb4 | exact PerBox.below hP3.drew hb4 : PerBox w4 w.heap.size (.slice aoA nA capA) (.slice aoE ne capE) mV (.int .u64 (nHi t0)) (.int .u64 (nLo t0)) (.int .u64 (nHi t1)) (.int .u64 (nLo t1)) (.int .u64 (nHi t2)) (.int .u64 (nLo t2)) (.int .u64 (nHi t3)) (.int .u64 (nLo t3))); have hN4 := (by first | exact Two.below hN3 hb4 | exact Two.below hN3.drew hb4 : Two w4 wz.heap.size (.int .u64 (nHi tr)) (.int .u64 (nLo tr)) 93); have hh4 := thirteen hP4 hN4; have b4 : Below wz.heap.size wz w4 := (by first | exact b3.trans (hb4.mono b3.size) | exact b3.drew.trans (hb4.mono b3.size)); have hown4 := HO.out.below b4; unfold OwnStrs at hown4; have hs4 := b4.size; have hP4a := PerBox.below hP4 ((Below.refl _ _).alloc (Nat.le_refl _) (.cells #[.string tx] 9)); have hN4a := Two.below hN4 ((Below.refl _ _).alloc (Nat.le_refl _) (.cells #[.string tx] 9)))
          | (refine step_append_lies _ (by rfl) _ _ _ (by rfl) (w.heap.size + 1) 9 i0 _ 1 16 Tryz.underlying85 hi hz0 hz1 hz2 rfl (by omega) _ ss.length (ss.map Value.string) (by rfl) (hown4.alloc _) ⟨w4.heap.size, 0, none⟩ 1 1 [.string tx] (by rfl) (by rfl) (World.news_of_block (cs := #[.string tx]) (t := 9) (fr := (0, 0)) (heap_alloc_new w4 _)) (by simp [Value.oneCell']) (by omega) (by unfold maxLen; omega) (by omega) (by simp; omega) (w4.heap.size + 1) (by simp) ?_; intro g cap' w5 hown5 hgrow hat5 hlt5; have hP5 : PerBox w5 w.heap.size (.slice aoA nA capA) (.slice aoE ne capE) mV (.int .u64 (nHi t0)) (.int .u64 (nLo t0)) (.int .u64 (nHi t1)) (.int .u64 (nLo t1)) (.int .u64 (nHi t2)) (.int .u64 (nLo t2)) (.int .u64 (nHi t3)) (.int .u64 (nLo t3)) := (hgrow.block _ (by simp; omega) (fun e => by have := (hrow _ e.symm).1; omega)).trans hP4a; have hN5 : Two w5 wz.heap.size (.int .u64 (nHi tr)) (.int .u64 (nLo tr)) 93 := (hgrow.block _ (by simp; omega) (fun e => by have := (hrow _ e.symm).2; omega)).trans hN4a))
      have hb5 := below_push (B := w.heap.size + 1) (by omega) hown4 (b4.mono (by omega)) hgrow
      have HOn : Hid (OwnStrs w5 (w.heap.size + 1) (.slice (some ⟨g, 0, none⟩) (r + 1) cap') (stmtTo ac es [t0, t1, t2, t3] (r + 1))) := by
        have h5 := OwnStrs.push hown5
        rw [hll] at h5
        show OwnStrs _ _ _ _
        rw [HS.out, ← htx.out]
        exact h5
      have HXn : Hid (PerBox w5 w.heap.size (.slice aoA nA capA) (.slice aoE ne capE) mV (.int .u64 (nHi t0)) (.int .u64 (nLo t0)) (.int .u64 (nHi t1)) (.int .u64 (nLo t1)) (.int .u64 (nHi t2)) (.int .u64 (nLo t2)) (.int .u64 (nHi t3)) (.int .u64 (nLo t3))) := hP5
      have hbe : Below w.heap.size w w5 := hbr.trans (hb5.mono (by omega))
      clear hown5 hgrow hown4 hh2 hh3 hh4 b2 b3 b4 hb2 hb3 hb4 hb5 hP0 hP2 hP3 hP4 hP4a hP5 hN0 hN2 hN3 hN4 hN4a hN5 HO HX HS htx aA hO3 hD3 hdr' hrow hll
      go_wp2_with fail
      go_roundw
      case rel => exact ⟨r + 1, by omega, by go_num, _, rfl, HOn, HXn, hbe⟩
      case measure => simp [intOf]; omega
    · have HOn : Hid (OwnStrs wz (w.heap.size + 1) v (Sg.stmt ac es [t0, t1, t2, t3])) := by
        have := HO.out
        rw [show r = 4 by omega, HST.out] at this
        exact this
      go_wp2_with fail
      go_ret
      exact ⟨_, rfl, HOn, hbr⟩

theorem elevens {W : World} {g1 : Nat} {c0 c1 c2 c3 c4 c5 c6 c7 c8 c9 c10 : Value} (h : PerBox W g1 c0 c1 c2 c3 c4 c5 c6 c7 c8 c9 c10) : W.cell? ⟨g1, 0, none⟩ = some c0 ∧ W.cell? ⟨g1, 1, none⟩ = some c1 ∧ W.cell? ⟨g1, 2, none⟩ = some c2 ∧ W.cell? ⟨g1, 3, none⟩ = some c3 ∧ W.cell? ⟨g1, 4, none⟩ = some c4 ∧ W.cell? ⟨g1, 5, none⟩ = some c5 ∧ W.cell? ⟨g1, 6, none⟩ = some c6 ∧ W.cell? ⟨g1, 7, none⟩ = some c7 ∧ W.cell? ⟨g1, 8, none⟩ = some c8 ∧ W.cell? ⟨g1, 9, none⟩ = some c9 ∧ W.cell? ⟨g1, 10, none⟩ = some c10 := by
  obtain ⟨a0, a1, a2, a3, a4, a5, a6, a7, a8, a9, a10, _⟩ := h.cells
  exact ⟨a0, a1, a2, a3, a4, a5, a6, a7, a8, a9, a10⟩
theorem sumOf_txt (s : ByteArray) (w : World) (hs : s.size ≤ maxLen) :
    Calls Tryz.prog 45 #[.string s] w fun e w' => ∃ y : ByteArray, e = .returned (.string y) ∧ Hid (y = Sg.sumB s) ∧ y.size ≤ 8 ∧ Below w.heap.size w w' := by
  refine (sumOf_any s w hs).mono ?_
  rintro e w' ⟨rfl, hb⟩
  exact ⟨_, rfl, rfl, by rw [Sg.sumB_size]; omega, hb⟩
/-- What a period brings to its header. -/
def Sg.sealsB (ac : List Sg.Acc) (es : List Sg.Ent) (now t : List Int) : ByteArray := Sg.beB es.length 1 ++ Sg.root (es.map Sg.entB) ++ Sg.root (Sg.stmt ac es t) ++ Sg.sumB (Sg.amountsB now)
theorem stmt_small (ac : List Sg.Acc) (es : List Sg.Ent) (t : List Int) : (Sg.stmt ac es t).length = 4 ∧ ∀ x ∈ Sg.stmt ac es t, x.size ≤ 100 := by
  refine ⟨by unfold Sg.stmt; simp, fun x hx => ?_⟩
  unfold Sg.stmt at hx
  obtain ⟨k, _, rfl⟩ := List.mem_map.1 hx
  unfold Sg.lineB
  rw [cat_size, cat_size, cat_size, Sg.beB_size, Sg.beB_size, Sg.beB_size, Sg.root_size]; omega

set_option maxHeartbeats 6400000 in
/-- Period.seals. -/
theorem seals_any (ac : List Sg.Acc) (es : List Sg.Ent) (now : List Int) (t0 t1 t2 t3 : Int) (aoA aoE : Option Addr) (nA capA ne capE m c : Nat) (w : World) (hA : AccsIn w aoA ac) (hnA : ac.length = nA) (hn8 : nA ≤ 8) (hE : EntsIn w aoE es) (hne : es.length = ne) (hper : perFine nA es) (hok : ∀ e ∈ es, e.memo.size ≤ 20 ∧ e.posts.length ≤ 6 ∧ ∀ p ∈ e.posts, Sg.fits p.acct = true ∧ Sg.fits p.amt = true)
    (hn : now.length = nA) (hf : ∀ v ∈ now, Sg.fits v = true) (hb : BalIn w m c now) (ht : ∀ v ∈ [t0, t1, t2, t3], Sg.fits v = true) :
    Calls Tryz.prog 64 #[.agg #[.slice aoA nA capA, .slice aoE ne capE, .map (some m), .int .u64 (nHi t0), .int .u64 (nLo t0), .int .u64 (nHi t1), .int .u64 (nLo t1), .int .u64 (nHi t2), .int .u64 (nLo t2), .int .u64 (nHi t3), .int .u64 (nLo t3)]] w fun e w' => ∃ y, e = .returned (.string y) ∧ Hid (y = Sg.sealsB ac es now [t0, t1, t2, t3]) ∧ y.size ≤ 32 ∧ Below w.heap.size w w' := by
  have hn12 : ne ≤ 12 := by have := hper.1; omega
  have hma := fun W (_ : Below w.heap.size w W) => many_any (.slice aoA nA capA) (.map (some m)) (.int .u64 (nHi t0)) (.int .u64 (nLo t0)) (.int .u64 (nHi t1)) (.int .u64 (nLo t1)) (.int .u64 (nHi t2)) (.int .u64 (nLo t2)) (.int .u64 (nHi t3)) (.int .u64 (nLo t3)) aoE ne capE W
  have hen := fun W (hb0 : Below w.heap.size w W) => entries_any es (.slice aoA nA capA) (.map (some m)) (.int .u64 (nHi t0)) (.int .u64 (nLo t0)) (.int .u64 (nHi t1)) (.int .u64 (nLo t1)) (.int .u64 (nHi t2)) (.int .u64 (nLo t2)) (.int .u64 (nHi t3)) (.int .u64 (nLo t3)) aoE ne capE W hne hn12 (hE.below hb0) hok
  have hle := fun W (hb0 : Below w.heap.size w W) => perLeaves_any ac es t0 t1 t2 t3 aoA aoE nA capA ne capE (.map (some m)) W (hA.below hb0) hnA hn8 (hE.below hb0) hne hper ht
  have hbl := fun W (hb0 : Below w.heap.size w W) => balances_any now (.slice aoE ne capE) (.int .u64 (nHi t0)) (.int .u64 (nLo t0)) (.int .u64 (nHi t1)) (.int .u64 (nLo t1)) (.int .u64 (nHi t2)) (.int .u64 (nLo t2)) (.int .u64 (nHi t3)) (.int .u64 (nLo t3)) aoA nA capA m c W hn hn8 hf (hb.below hb0)
  have hl1 : (es.map Sg.entB).length ≤ 4096 := by rw [List.length_map, hne]; omega
  have hs1 : ∀ x ∈ es.map Sg.entB, x.size ≤ 100 := fun x hx => by
    obtain ⟨e, he, rfl⟩ := List.mem_map.1 hx
    have h1 := (hok e he).1
    have h2 := (hok e he).2.1
    rw [Sg.entB_size]; omega
  obtain ⟨hl2', hs2⟩ := stmt_small ac es [t0, t1, t2, t3]
  have hl2 : (Sg.stmt ac es [t0, t1, t2, t3]).length ≤ 4096 := by omega
  have HE : Hid (Sg.sealsB ac es now [t0, t1, t2, t3] = Sg.beB ne 1 ++ Sg.root (es.map Sg.entB) ++ Sg.root (Sg.stmt ac es [t0, t1, t2, t3]) ++ Sg.sumB (Sg.amountsB now)) := by show _ = _; unfold Sg.sealsB; rw [hne]
  generalize es.map Sg.entB = ts at *
  generalize Sg.stmt ac es [t0, t1, t2, t3] = us at *
  generalize Sg.amountsB now = ab at *
  clear hok hE hA hne hper hf hb ht hn hnA hl2'
  have aA : Below w.heap.size w (w.alloc (.cells #[.slice aoA nA capA, .slice aoE ne capE, .map (some m), .int .u64 (nHi t0), .int .u64 (nLo t0), .int .u64 (nHi t1), .int .u64 (nLo t1), .int .u64 (nHi t2), .int .u64 (nLo t2), .int .u64 (nHi t3), .int .u64 (nLo t3)] 96)) := (Below.refl _ _).alloc (Nat.le_refl _) _
  have hP0 : PerBox (w.alloc (.cells #[.slice aoA nA capA, .slice aoE ne capE, .map (some m), .int .u64 (nHi t0), .int .u64 (nLo t0), .int .u64 (nHi t1), .int .u64 (nLo t1), .int .u64 (nHi t2), .int .u64 (nLo t2), .int .u64 (nHi t3), .int .u64 (nLo t3)] 96)) w.heap.size (.slice aoA nA capA) (.slice aoE ne capE) (.map (some m)) (.int .u64 (nHi t0)) (.int .u64 (nLo t0)) (.int .u64 (nHi t1)) (.int .u64 (nLo t1)) (.int .u64 (nHi t2)) (.int .u64 (nLo t2)) (.int .u64 (nHi t3)) (.int .u64 (nLo t3)) := PerBox.new w _ _ _ _ _ _ _ _ _ _ _
  go_enter Tryz.func64, Tryz.ntmps64
  go_wp2_with fail
  go_region_held3 (fun w' => w'.cell? ⟨w.heap.size, 0, none⟩ = some (.slice aoA nA capA) ∧ w'.cell? ⟨w.heap.size, 1, none⟩ = some (.slice aoE ne capE) ∧ w'.cell? ⟨w.heap.size, 2, none⟩ = some (.map (some m)) ∧ w'.cell? ⟨w.heap.size, 3, none⟩ = some (.int .u64 (nHi t0)) ∧ w'.cell? ⟨w.heap.size, 4, none⟩ = some (.int .u64 (nLo t0)) ∧ w'.cell? ⟨w.heap.size, 5, none⟩ = some (.int .u64 (nHi t1)) ∧ w'.cell? ⟨w.heap.size, 6, none⟩ = some (.int .u64 (nLo t1)) ∧ w'.cell? ⟨w.heap.size, 7, none⟩ = some (.int .u64 (nHi t2)) ∧ w'.cell? ⟨w.heap.size, 8, none⟩ = some (.int .u64 (nLo t2)) ∧ w'.cell? ⟨w.heap.size, 9, none⟩ = some (.int .u64 (nHi t3)) ∧ w'.cell? ⟨w.heap.size, 10, none⟩ = some (.int .u64 (nLo t3))) (first | assumption | exact elevens hP0 | exact elevens hP0.drew)
    (first
      | (go_at_call 60; refine (hma _ (by first | exact aA | exact aA.drew)).mono ?_; rintro e w1 ⟨y1, rfl, hy1, hys1, hb1⟩; have hP1 := PerBox.below (by first | exact hP0.drew | exact hP0) hb1; have hh1 := elevens hP1; have b1 : Below w.heap.size w w1 := (by first | exact aA.drew.trans (hb1.mono (by simp)) | exact aA.trans (hb1.mono (by simp))))
      | (go_at_call 82; refine (hen _ (by first | exact b1 | exact b1.drew)).mono ?_; rintro e w2 ⟨v2, rfl, hO2, hb2⟩; have hP2 := (by first | exact PerBox.below hP1 hb2 | exact PerBox.below hP1.drew hb2 : PerBox w2 w.heap.size (.slice aoA nA capA) (.slice aoE ne capE) (.map (some m)) (.int .u64 (nHi t0)) (.int .u64 (nLo t0)) (.int .u64 (nHi t1)) (.int .u64 (nLo t1)) (.int .u64 (nHi t2)) (.int .u64 (nLo t2)) (.int .u64 (nHi t3)) (.int .u64 (nLo t3))); have hh2 := elevens hP2; have b2 : Below w.heap.size w w2 := (by first | exact b1.trans (hb2.mono b1.size) | exact b1.drew.trans (hb2.mono b1.size)))
      | (go_at_call_of 84 v4; refine (sumRoot_own (by first | exact hO4.out | exact hO4.out.below ((Below.refl _ _).drew)) hl2 hs2).mono ?_; rintro e w5 ⟨y5, rfl, hy5, hys5, hb5⟩; have q5 := cat (y1 ++ y3) y5 (by rw [cat_size]; omega); have hP5 := (by first | exact PerBox.below hP4 hb5 | exact PerBox.below hP4.drew hb5 : PerBox w5 w.heap.size (.slice aoA nA capA) (.slice aoE ne capE) (.map (some m)) (.int .u64 (nHi t0)) (.int .u64 (nLo t0)) (.int .u64 (nHi t1)) (.int .u64 (nLo t1)) (.int .u64 (nHi t2)) (.int .u64 (nLo t2)) (.int .u64 (nHi t3)) (.int .u64 (nLo t3))); have hh5 := elevens hP5; have b5 : Below w.heap.size w w5 := (by first | exact b4.trans (hb5.mono b4.size) | exact b4.drew.trans (hb5.mono b4.size)))
      | (go_at_call 84; refine (sumRoot_own (by first | exact hO2.out | exact hO2.out.below ((Below.refl _ _).drew)) hl1 hs1).mono ?_; rintro e w3 ⟨y3, rfl, hy3, hys3, hb3⟩; have q3 := cat y1 y3 (by omega); have hP3 := (by first | exact PerBox.below hP2 hb3 | exact PerBox.below hP2.drew hb3 : PerBox w3 w.heap.size (.slice aoA nA capA) (.slice aoE ne capE) (.map (some m)) (.int .u64 (nHi t0)) (.int .u64 (nLo t0)) (.int .u64 (nHi t1)) (.int .u64 (nLo t1)) (.int .u64 (nHi t2)) (.int .u64 (nLo t2)) (.int .u64 (nHi t3)) (.int .u64 (nLo t3))); have hh3 := elevens hP3; have b3 : Below w.heap.size w w3 := (by first | exact b2.trans (hb3.mono b2.size) | exact b2.drew.trans (hb3.mono b2.size)))
      | (go_at_call 85; refine (hle _ (by first | exact b3 | exact b3.drew)).mono ?_; rintro e w4 ⟨v4, rfl, hO4, hb4⟩; have hP4 := (by first | exact PerBox.below hP3 hb4 | exact PerBox.below hP3.drew hb4 : PerBox w4 w.heap.size (.slice aoA nA capA) (.slice aoE ne capE) (.map (some m)) (.int .u64 (nHi t0)) (.int .u64 (nLo t0)) (.int .u64 (nHi t1)) (.int .u64 (nLo t1)) (.int .u64 (nHi t2)) (.int .u64 (nLo t2)) (.int .u64 (nHi t3)) (.int .u64 (nLo t3))); have hh4 := elevens hP4; have b4 : Below w.heap.size w w4 := (by first | exact b3.trans (hb4.mono b3.size) | exact b3.drew.trans (hb4.mono b3.size)))
      | (go_at_call 62; refine (hbl _ (by first | exact b5 | exact b5.drew)).mono ?_; rintro e w6 ⟨y6, rfl, hy6, hys6, hb6⟩; have hP6 := (by first | exact PerBox.below hP5 hb6 | exact PerBox.below hP5.drew hb6 : PerBox w6 w.heap.size (.slice aoA nA capA) (.slice aoE ne capE) (.map (some m)) (.int .u64 (nHi t0)) (.int .u64 (nLo t0)) (.int .u64 (nHi t1)) (.int .u64 (nLo t1)) (.int .u64 (nHi t2)) (.int .u64 (nLo t2)) (.int .u64 (nHi t3)) (.int .u64 (nLo t3))); have hh6 := elevens hP6; have b6 : Below w.heap.size w w6 := (by first | exact b5.trans (hb6.mono b5.size) | exact b5.drew.trans (hb6.mono b5.size)))
      | (go_at_call 45; refine (sumOf_txt y6 _ (by unfold maxLen; omega)).mono ?_; rintro e w7 ⟨y7, rfl, hy7, hys7, hb7⟩; have q7 := cat (y1 ++ y3 ++ y5) y7 (by rw [cat_size, cat_size]; omega); have hP7 := (by first | exact PerBox.below hP6 hb7 | exact PerBox.below hP6.drew hb7 : PerBox w7 w.heap.size (.slice aoA nA capA) (.slice aoE ne capE) (.map (some m)) (.int .u64 (nHi t0)) (.int .u64 (nLo t0)) (.int .u64 (nHi t1)) (.int .u64 (nLo t1)) (.int .u64 (nHi t2)) (.int .u64 (nLo t2)) (.int .u64 (nHi t3)) (.int .u64 (nLo t3))); have hh7 := elevens hP7; have b7 : Below w.heap.size w w7 := (by first | exact b6.trans (hb7.mono b6.size) | exact b6.drew.trans (hb7.mono b6.size))))
  clear hh1 hh2 hh3 hh4 hh5 hh6 hh7 hP0 hP1 hP2 hP3 hP4 hP5 hP6 hP7 hma hen hle hbl
  go_wp2_with fail
  go_ret
  exact ⟨_, rfl, by show _ = _; rw [HE.out, hy1.out, hy3.out, hy5.out, hy7.out, hy6.out], by rw [cat_size, cat_size, cat_size]; omega, b7⟩
end Go.Proofs.YtoadiibfmcjgaaaGreat

/-
  THE WALK of Book.Text.
-/
namespace Go.Proofs.YtoadiibfmcjgaaaGreat
open Go.RowKit Go.Maps
set_option maxRecDepth 100000
attribute [local go_sem ↓] Go.wp_at_zero Go.wp_at_succ

/-- What the walks ask of a history that was closed. -/
structure Closed (w : World) (aoA : Option Addr) (nA nP : Nat) (h : Sg.Hist) (A : Value) (ao : Option Addr) (rs : List Rec) (b : Nat) : Prop where
  accs : AccsIn w aoA h.accs
  lenA : h.accs.length = nA
  lenP : h.pers.length = nP
  inb : Sg.inBounds h = true
  sizQ : ∀ p ∈ h.pers, ∀ e ∈ p, ∀ t ∈ e.posts, Sg.fits t.acct = true ∧ Sg.fits t.amt = true
  bk : BkIn w A ao nP h rs b
theorem RecsOk.below {w w' : World} {ps : List (List Sg.Ent)} {bal tot : List (List Int)} {rs : List Rec} (h : RecsOk w w ps bal tot rs) (hb : Below w.heap.size w w') : RecsOk w' w' ps bal tot rs :=
  RecsOk.world (h.kept (fun _ _ _ g => g.below hb)) hb
theorem BkIn.below {w w' : World} {A : Value} {ao : Option Addr} {nP : Nat} {h : Sg.Hist} {rs : List Rec} {b : Nat} (k : BkIn w A ao nP h rs b) (hb : Below w.heap.size w w') : BkIn w' A ao nP h rs b :=
  ⟨k.at_, Nat.lt_of_lt_of_le k.lt hb.size, fun i hi j hj => (hb.cell (p := ⟨b, i * 11 + j, none⟩) k.lt).trans (k.cells i hi j hj), k.len, k.recs.below hb, k.fineB, k.fineT⟩
theorem Closed.below {w w' : World} {aoA : Option Addr} {nA nP : Nat} {h : Sg.Hist} {A : Value} {ao : Option Addr} {rs : List Rec} {b : Nat} (c : Closed w aoA nA nP h A ao rs b) (hb : Below w.heap.size w w') : Closed w' aoA nA nP h A ao rs b :=
  ⟨c.accs.below hb, c.lenA, c.lenP, c.inb, c.sizQ, c.bk.below hb⟩
/-- One period of it. -/
structure PerOf (w : World) (h : Sg.Hist) (k nA : Nat) (r : Rec) (es : List Sg.Ent) (aoE : Option Addr) (ne capE : Nat) : Prop where
  eV : r.eV = .slice aoE ne capE
  len : es.length = ne
  le12 : ne ≤ 12
  ents : EntsIn w aoE es
  ok : ∀ e ∈ es, e.memo.size ≤ 20 ∧ e.posts.length ≤ 6 ∧ ∀ p ∈ e.posts, Sg.fits p.acct = true ∧ Sg.fits p.amt = true
  lenN : r.now.length = nA
  fitN : ∀ v ∈ r.now, Sg.fits v = true
  bal : BalIn w r.m 600 r.now
  fitT : ∀ v ∈ [r.t0, r.t1, r.t2, r.t3], Sg.fits v = true
theorem Closed.per {w : World} {aoA : Option Addr} {nA nP : Nat} {h : Sg.Hist} {A : Value} {ao : Option Addr} {rs : List Rec} {b k : Nat} (c : Closed w aoA nA nP h A ao rs b) (hk : k < nP) :
    ∃ (h1 : k < h.pers.length) (h2 : k < (Sg.balances h).length) (h3 : k < (Sg.totals h).length) (h4 : k < rs.length) (aoE : Option Addr) (ne capE : Nat), (Sg.balances h)[k] = rs[k].now ∧ (Sg.totals h)[k] = [rs[k].t0, rs[k].t1, rs[k].t2, rs[k].t3] ∧ PerOf w h k nA rs[k] h.pers[k] aoE ne capE := by
  have hr : k < rs.length := by rw [c.bk.len]; exact hk
  obtain ⟨h1, h2, h3, g1, g2, g3, aoE, capE, g4, g5⟩ := c.bk.recs k hr
  obtain ⟨p1, p2⟩ := Sg.bnd_pers c.inb h.pers[k] (List.getElem_mem h1)
  have fb := c.bk.fineB _ (List.getElem_mem h2)
  have ft := c.bk.fineT _ (List.getElem_mem h3)
  rw [g2, c.lenA] at fb
  rw [g3] at ft
  exact ⟨h1, h2, h3, hr, aoE, h.pers[k].length, capE, g2, g3, ⟨g4, rfl, p1, g5, fun e he => ⟨(p2 e he).1, (p2 e he).2, fun p hp => c.sizQ _ (List.getElem_mem h1) e he p hp⟩, fb.1, fb.2, g1, ft⟩⟩
theorem Closed.nums {w : World} {aoA : Option Addr} {nA nP : Nat} {h : Sg.Hist} {A : Value} {ao : Option Addr} {rs : List Rec} {b : Nat} (c : Closed w aoA nA nP h A ao rs b) : nA ≤ 8 ∧ nP ≤ 6 ∧ 1 ≤ nP := by
  have := Sg.bnd_nums c.inb
  rw [c.lenA, c.lenP] at this
  omega
/-- The eleven cells of a period of it. -/
theorem BkIn.eleven {w : World} {A : Value} {ao : Option Addr} {nP : Nat} {h : Sg.Hist} {rs : List Rec} {b : Nat} (c : BkIn w A ao nP h rs b) {k : Nat} (hk : k < rs.length) :
    w.cell? ⟨b, k * 11, none⟩ = some A ∧ w.cell? ⟨b, k * 11 + 1, none⟩ = some rs[k].eV ∧ w.cell? ⟨b, k * 11 + 2, none⟩ = some (.map (some rs[k].m)) ∧ w.cell? ⟨b, k * 11 + 3, none⟩ = some (.int .u64 (nHi rs[k].t0)) ∧ w.cell? ⟨b, k * 11 + 4, none⟩ = some (.int .u64 (nLo rs[k].t0)) ∧
    w.cell? ⟨b, k * 11 + 5, none⟩ = some (.int .u64 (nHi rs[k].t1)) ∧ w.cell? ⟨b, k * 11 + 6, none⟩ = some (.int .u64 (nLo rs[k].t1)) ∧ w.cell? ⟨b, k * 11 + 7, none⟩ = some (.int .u64 (nHi rs[k].t2)) ∧ w.cell? ⟨b, k * 11 + 8, none⟩ = some (.int .u64 (nLo rs[k].t2)) ∧
    w.cell? ⟨b, k * 11 + 9, none⟩ = some (.int .u64 (nHi rs[k].t3)) ∧ w.cell? ⟨b, k * 11 + 10, none⟩ = some (.int .u64 (nLo rs[k].t3)) := by
  refine ⟨c.cells k hk 0 (by omega), c.cells k hk 1 (by omega), c.cells k hk 2 (by omega), c.cells k hk 3 (by omega), c.cells k hk 4 (by omega), c.cells k hk 5 (by omega), c.cells k hk 6 (by omega), c.cells k hk 7 (by omega), c.cells k hk 8 (by omega), c.cells k hk 9 (by omega), c.cells k hk 10 (by omega)⟩

set_option maxHeartbeats 6400000 in
/-- Book.Text. -/
theorem bText_any (h : Sg.Hist) (aoA ao : Option Addr) (nA nP capA cap b : Nat) (rs : List Rec) (w : World) (hC : Closed w aoA nA nP h (.slice aoA nA capA) ao rs b) :
    Calls Tryz.prog 22 #[.agg #[.slice aoA nA capA, .slice ao nP cap]] w fun e w' => ∃ y, e = .returned (.string y) ∧ Hid (y = Sg.pkTo h (Sg.balances h) (Sg.totals h) nP) ∧ Below w.heap.size w w' := by
  obtain ⟨hn8, hn6, hn1⟩ := hC.nums
  have HC : Hid (Closed w aoA nA nP h (.slice aoA nA capA) ao rs b) := hC
  have hao := hC.bk.at_
  subst hao
  have hch := fun W (hb : Below w.heap.size w W) => bChart_any h.accs aoA nA capA (.slice (some ⟨b, 0, none⟩) nP cap) W hC.lenA hn8 (hC.accs.below hb) (fun a ha => (Sg.bnd_accs hC.inb a ha).1)
  have aB : Below w.heap.size w ((w.alloc (.cells #[.slice aoA nA capA, .slice (some ⟨b, 0, none⟩) nP cap] 66)).alloc (.cells #[.pointer none, .slice none 0 0] 102)) := ((Below.refl _ _).alloc (Nat.le_refl _) _).alloc (by simp) _
  have hB0 : Two ((w.alloc (.cells #[.slice aoA nA capA, .slice (some ⟨b, 0, none⟩) nP cap] 66)).alloc (.cells #[.pointer none, .slice none 0 0] 102)) w.heap.size (.slice aoA nA capA) (.slice (some ⟨b, 0, none⟩) nP cap) 66 := (Two.new w _ _ _).below ((Below.refl _ _).alloc (Nat.le_refl _) _)
  have ht0 : TB ((w.alloc (.cells #[.slice aoA nA capA, .slice (some ⟨b, 0, none⟩) nP cap] 66)).alloc (.cells #[.pointer none, .slice none 0 0] 102)) (w.heap.size + 1) ByteArray.empty := by
    have := TB.new (w.alloc (.cells #[.slice aoA nA capA, .slice (some ⟨b, 0, none⟩) nP cap] 66))
    have e : (w.alloc (.cells #[.slice aoA nA capA, .slice (some ⟨b, 0, none⟩) nP cap] 66)).heap.size = w.heap.size + 1 := by simp
    rw [e] at this
    exact this
  have HLP : Hid (h.pers.length = nP) := hC.lenP
  clear hC
  have hsg : ({ data := #[83, 73, 71, 78] } : ByteArray).size = 4 := rfl
  have hse : ByteArray.empty.size = 0 := rfl
  go_enter Tryz.func22, Tryz.ntmps22
  go_wp2_with fail
  go_region_held3 (fun w' => w'.cell? ⟨w.heap.size, 0, none⟩ = some (.slice aoA nA capA) ∧ w'.cell? ⟨w.heap.size, 1, none⟩ = some (.slice (some ⟨b, 0, none⟩) nP cap)) (first | assumption | exact hB0.cells | exact two_drew hB0.cells | exact two_drew (x := .slice aoA nA capA) (y := .slice (some ⟨b, 0, none⟩) nP cap) (by assumption))
    (first
      | (go_at_call 41; refine (one_txt (nP : Int) _).mono ?_; rintro e w4 ⟨y2, rfl, hy2, hys2, hb4⟩; have q3 := cat (({ data := #[83, 73, 71, 78] } : ByteArray) ++ y1) y2 (by rw [cat_size, hsg]; omega); have hT4 : Two w4 w.heap.size (.slice aoA nA capA) (.slice (some ⟨b, 0, none⟩) nP cap) 66 := (by first | exact hT3.below hb4 | exact hT3.drew.below hb4); have tb4 : TB w4 (w.heap.size + 1) ByteArray.empty := (by first | exact tb3.below hb4 | exact tb3.drew.below hb4); have hh4 := hT4.cells; have b4 : Below w.heap.size w w4 := (by first | exact b3.trans (hb4.mono b3.size) | exact b3.drew.trans (hb4.mono b3.size)))
      | (go_at_call 40; refine (hch _ (by first | exact aB | exact aB.drew)).mono ?_; rintro e w3 ⟨y1, rfl, hy1, hys1, hb3⟩; have q2 := cat ({ data := #[83, 73, 71, 78] } : ByteArray) y1 (by rw [hsg]; omega); have hT3 : Two w3 w.heap.size (.slice aoA nA capA) (.slice (some ⟨b, 0, none⟩) nP cap) 66 := Two.below (by first | exact hB0.drew | exact hB0) hb3; have tb3 : TB w3 (w.heap.size + 1) ByteArray.empty := TB.below (by first | exact ht0.drew | exact ht0) hb3; have hh3 := hT3.cells; have b3 : Below w.heap.size w w3 := (by first | exact aB.drew.trans (hb3.mono (by simp; omega)) | exact aB.trans (hb3.mono (by simp; omega))))
      | (go_at_call 39; refine (write_any (w.heap.size + 1) ByteArray.empty (({ data := #[83, 73, 71, 78] } : ByteArray) ++ y1 ++ y2) _ tb4 (by rw [cat_size, cat_size, hsg, hse]; omega)).mono ?_; rintro e w5 ⟨rfl, tb5, hb5, hk5⟩; have hT5 := hT4.kept hk5 (by omega) (by decide); have hh5 := hT5.cells; have b5 : Below w.heap.size w w5 := b4.trans (hb5.mono (by omega))))
  have HT0 : Hid (TB w5 (w.heap.size + 1) (Sg.pkTo h (Sg.balances h) (Sg.totals h) 0)) := by
    have e : ByteArray.empty ++ (({ data := #[83, 73, 71, 78] } : ByteArray) ++ y1 ++ y2) = Sg.pkTo h (Sg.balances h) (Sg.totals h) 0 := by
      unfold Sg.pkTo
      simp only [List.take_zero]
      rw [hy1.out, hy2.out, HLP.out]
      simp [Sg.persText, Sg.signT]
    rw [← e]
    exact tb5
  have hsz0 : (Sg.pkTo h (Sg.balances h) (Sg.totals h) 0).size ≤ 200 := by
    have e : Sg.pkTo h (Sg.balances h) (Sg.totals h) 0 = ({ data := #[83, 73, 71, 78] } : ByteArray) ++ y1 ++ y2 := by
      unfold Sg.pkTo
      simp only [List.take_zero]
      rw [hy1.out, hy2.out, HLP.out]
      simp [Sg.persText, Sg.signT]
    rw [e, cat_size, cat_size, hsg]
    omega
  have HZ0 : Hid ((Sg.pkTo h (Sg.balances h) (Sg.totals h) 0).size ≤ 200 + 3840 * 0) := by show _ ≤ _; omega
  obtain ⟨_, c1⟩ := hT5.cells
  clear hh3 hh4 hh5 hb3 hb4 hb5 hk5 tb3 tb4 tb5 hT3 hT4 hT5 q2 q3 b3 b4 aB hB0 ht0 hch hsz0 hy1 hy2
  go_wp2_with fail
  clear c1
  go_loopw [18] (fun i wr => ∃ k : Nat, k ≤ nP ∧ i = .int .i64 (k : Int) ∧ Hid (TB wr (w.heap.size + 1) (Sg.pkTo h (Sg.balances h) (Sg.totals h) k)) ∧ Hid ((Sg.pkTo h (Sg.balances h) (Sg.totals h) k).size ≤ 200 + 3840 * k) ∧ Below w.heap.size w wr) (fun i _ => nP - (intOf i).toNat)
  case atStart => exact ⟨0, by omega, rfl, HT0, HZ0, b5⟩
  case round =>
    obtain ⟨k, hk, rfl, HT, HZ, hbr⟩ := hrel
    obtain ⟨wz, ewz⟩ : ∃ z : World, z = wr := ⟨_, rfl⟩
    subst ewz
    have hsz := hbr.size
    have htl := HT.out.lt
    clear HT0 HZ0 b5
    by_cases hlt : k < nP
    · obtain ⟨h1, h2, h3, h4, aoE, ne, capE, g1, g2, hper⟩ := (HC.out.below hbr).per hlt
      obtain ⟨x0, x1, x2, x3, x4, x5, x6, x7, x8, x9, x10⟩ := (HC.out.below hbr).bk.eleven h4
      have hbz := (HC.out.below hbr).bk.lt
      have HS : Hid (Sg.pkTo h (Sg.balances h) (Sg.totals h) (k + 1) = Sg.pkTo h (Sg.balances h) (Sg.totals h) k ++ Sg.perB h.pers[k] rs[k].now [rs[k].t0, rs[k].t1, rs[k].t2, rs[k].t3]) := by
        show _ = _
        rw [Sg.pkTo_succ _ _ _ k h1 h2 h3, Sg.perText_eq, g1, g2]
      have hcall := fun W (hb : Below wz.heap.size wz W) => perText_any h.pers[k] rs[k].now rs[k].t0 rs[k].t1 rs[k].t2 rs[k].t3 aoA aoE nA capA ne capE rs[k].m 600 W hper.len hper.le12 (hper.ents.below hb) hper.ok hper.lenN hn8 hper.fitN (hper.bal.below hb) hper.fitT
      rw [hper.eV] at x1
      have hos := HZ.out
      have HPs : Hid (∀ y : ByteArray, y = Sg.perB h.pers[k] rs[k].now [rs[k].t0, rs[k].t1, rs[k].t2, rs[k].t3] → y.size ≤ 3840 → (Sg.pkTo h (Sg.balances h) (Sg.totals h) (k + 1)).size ≤ 200 + 3840 * (k + 1)) := fun y hy hys => by
        rw [HS.out, ← hy, cat_size]
        have := HZ.out
        omega
      generalize Sg.pkTo h (Sg.balances h) (Sg.totals h) k = oo at *
      generalize rs[k].m = m at *
      generalize rs[k].now = now at *
      generalize rs[k].t0 = t0 at *
      generalize rs[k].t1 = t1 at *
      generalize rs[k].t2 = t2 at *
      generalize rs[k].t3 = t3 at *
      have i1 : (0 : Int) ≤ (k : Int) := by omega
      have i2 : (k : Int) < (nP : Int) := by omega
      clear hper g1 g2
      go_wp2_with fail
      refine (hcall _ ((Below.refl _ _).alloc (Nat.le_refl _) _)).mono ?_
      rintro e w4 ⟨y, rfl, hy, hys, hb4⟩
      have b4 : Below wz.heap.size wz w4 := ((Below.refl _ _).alloc (Nat.le_refl _) _).trans (hb4.mono (by simp))
      go_wp2_with fail
      refine (write_any (w.heap.size + 1) oo y _ (HT.out.below b4) (by omega)).mono ?_
      rintro e w5 ⟨rfl, tb5, hb5, hk5⟩
      have HTn : Hid (TB w5 (w.heap.size + 1) (Sg.pkTo h (Sg.balances h) (Sg.totals h) (k + 1))) := by
        show TB _ _ _
        rw [HS.out, ← hy.out]
        exact tb5
      have HZn : Hid ((Sg.pkTo h (Sg.balances h) (Sg.totals h) (k + 1)).size ≤ 200 + 3840 * (k + 1)) := HPs.out y hy.out hys
      have hs4 := b4.size
      have hbe : Below w.heap.size w w5 := (hbr.trans (b4.mono hsz)).trans (hb5.mono (by omega))
      clear tb5 hb5 hk5 hb4 b4 HS HT HZ hos HPs hcall x0 x1 x2 x3 x4 x5 x6 x7 x8 x9 x10
      go_wp2_with fail
      go_roundw
      case rel => exact ⟨k + 1, by omega, by go_num, HTn, HZn, hbe⟩
      case measure => simp [intOf]; omega
    · have HE : Hid (Sg.pkTo h (Sg.balances h) (Sg.totals h) k = Sg.pkTo h (Sg.balances h) (Sg.totals h) nP) := by show _ = _; rw [show k = nP by omega]
      generalize Sg.pkTo h (Sg.balances h) (Sg.totals h) k = oo at *
      go_wp2_with fail
      refine (string_any _ _ _ HT.out).mono ?_
      rintro e w3 ⟨rfl, hb3⟩
      go_wp2_with fail
      go_ret
      exact ⟨_, rfl, HE, hbr.trans (hb3.mono (by omega))⟩
end Go.Proofs.YtoadiibfmcjgaaaGreat

/-
  THE WALK of Book.Headers.
-/
namespace Go.Proofs.YtoadiibfmcjgaaaGreat
open Go.RowKit Go.Maps
set_option maxRecDepth 100000
attribute [local go_sem ↓] Go.wp_at_zero Go.wp_at_succ

theorem headerB_eq (ac : List Sg.Acc) (i : Nat) (last : ByteArray) (p : List Sg.Ent) (b t : List Int) : Sg.headerB ac i last p b t = ({ data := #[72, 69, 65, 68] } : ByteArray) ++ Sg.beB i 1 ++ last ++ Sg.sumB (Sg.chartB ac) ++ Sg.sealsB ac p b t := by
  unfold Sg.headerB Sg.sealsB Sg.headT
  simp [ByteArray.append_assoc]

set_option maxHeartbeats 1600000 in
/-- Book.Headers. -/
theorem bHeaders_any (h : Sg.Hist) (aoA ao : Option Addr) (nA nP capA cap b : Nat) (rs : List Rec) (w : World) (hC : Closed w aoA nA nP h (.slice aoA nA capA) ao rs b) (hfine : ∀ p ∈ h.pers, perFine nA p) :
    Calls Tryz.prog 44 #[.agg #[.slice aoA nA capA, .slice ao nP cap]] w fun e w' => ∃ v, e = .returned v ∧ Hid (OwnStrs w' (w.heap.size + 1) v (Sg.hdTo h (Sg.balances h) (Sg.totals h) nP).1) ∧ Below w.heap.size w w' := by
  obtain ⟨i0, hi, hz0, hz1, hz2⟩ := info_parts Tryz.infoStr
  obtain ⟨hn8, hn6, hn1⟩ := hC.nums
  have HC : Hid (Closed w aoA nA nP h (.slice aoA nA capA) ao rs b) := hC
  have HFN : Hid (∀ p ∈ h.pers, perFine nA p) := hfine
  have hao := hC.bk.at_
  subst hao
  have hch := fun W (hb : Below w.heap.size w W) => bChart_any h.accs aoA nA capA (.slice (some ⟨b, 0, none⟩) nP cap) W hC.lenA hn8 (hC.accs.below hb) (fun a ha => (Sg.bnd_accs hC.inb a ha).1)
  have hB0 : Two (w.alloc (.cells #[.slice aoA nA capA, .slice (some ⟨b, 0, none⟩) nP cap] 66)) w.heap.size (.slice aoA nA capA) (.slice (some ⟨b, 0, none⟩) nP cap) 66 := Two.new w _ _ _
  have aB : Below w.heap.size w (w.alloc (.cells #[.slice aoA nA capA, .slice (some ⟨b, 0, none⟩) nP cap] 66)) := (Below.refl _ _).alloc (Nat.le_refl _) _
  clear hC hfine
  go_enter Tryz.func44, Tryz.ntmps44
  go_wp2_with fail
  refine (hch _ aB).mono ?_
  rintro e w1 ⟨y0, rfl, hy0, hys0, hb1⟩
  go_wp2_with fail
  refine (sumOf_txt y0 _ (by unfold maxLen; omega)).mono ?_
  rintro e w2 ⟨ch, rfl, hch2, hcs, hb2⟩
  have hB2 := (hB0.below hb1).below hb2
  obtain ⟨c0, c1⟩ := hB2.cells
  have hb02 : Below w.heap.size w w2 := (aB.trans (hb1.mono (by simp))).trans (hb2.mono (by have := hb1.size; simp at this; omega))
  have hs2 : w.heap.size + 1 ≤ w2.heap.size := by have := hb1.size; have := hb2.size; simp at *; omega
  have HCh : Hid (ch = Sg.sumB (Sg.chartB h.accs)) := by show _ = _; rw [hch2.out, hy0.out]
  clear hB0 hB2 hb1 hb2 aB hch hch2 hy0 hys0
  go_wp2_with fail
  clear c0 c1
  go_loopw [3, 5, 15] (fun o la i wr => ∃ k : Nat, k ≤ nP ∧ i = .int .i64 (k : Int) ∧ (∃ v, v = o ∧ Hid (OwnStrs wr (w.heap.size + 1) v (Sg.hdTo h (Sg.balances h) (Sg.totals h) k).1)) ∧ (∃ ll, la = .string ll ∧ Hid (ll = (Sg.hdTo h (Sg.balances h) (Sg.totals h) k).2)) ∧ Below w.heap.size w wr ∧ w.heap.size + 1 ≤ wr.heap.size) (fun _ _ i _ => nP - (intOf i).toNat)
  case atStart => exact ⟨0, by omega, rfl, ⟨_, rfl, World.ownsRow_nil _ _ _ _⟩, ⟨_, rfl, rfl⟩, hb02, hs2⟩
  case round =>
    obtain ⟨k, hk, rfl, ⟨v, ev, HO⟩, ⟨ll, rfl, hll⟩, hbr, hs1⟩ := hrel
    subst ev
    obtain ⟨wz, ewz⟩ : ∃ z : World, z = wr := ⟨_, rfl⟩
    subst ewz
    have hsz := hbr.size
    by_cases hlt : k < nP
    · obtain ⟨h1, h2, h3, h4, aoE, ne, capE, g1, g2, hper⟩ := (HC.out.below hbr).per hlt
      obtain ⟨x0, x1, x2, x3, x4, x5, x6, x7, x8, x9, x10⟩ := (HC.out.below hbr).bk.eleven h4
      have hbz := (HC.out.below hbr).bk.lt
      have hl2 : ll.size = 2 := by rw [hll.out]; exact Sg.hdTo_last h _ _ k
      have HS : Hid ((Sg.hdTo h (Sg.balances h) (Sg.totals h) (k + 1)).1 = (Sg.hdTo h (Sg.balances h) (Sg.totals h) k).1 ++ [({ data := #[72, 69, 65, 68] } : ByteArray) ++ Sg.beB k 1 ++ ll ++ ch ++ Sg.sealsB h.accs h.pers[k] rs[k].now [rs[k].t0, rs[k].t1, rs[k].t2, rs[k].t3]] ∧
          (Sg.hdTo h (Sg.balances h) (Sg.totals h) (k + 1)).2 = Sg.sumB (({ data := #[72, 69, 65, 68] } : ByteArray) ++ Sg.beB k 1 ++ ll ++ ch ++ Sg.sealsB h.accs h.pers[k] rs[k].now [rs[k].t0, rs[k].t1, rs[k].t2, rs[k].t3])) := by
        have e1 : h.pers.getD k [] = h.pers[k] := by rw [List.getD_eq_getElem?_getD, List.getElem?_eq_getElem h1]; rfl
        have e2 : (Sg.balances h).getD k [] = rs[k].now := by rw [List.getD_eq_getElem?_getD, List.getElem?_eq_getElem h2]; exact g1
        have e3 : (Sg.totals h).getD k [] = [rs[k].t0, rs[k].t1, rs[k].t2, rs[k].t3] := by rw [List.getD_eq_getElem?_getD, List.getElem?_eq_getElem h3]; exact g2
        rw [HCh.out, ← headerB_eq]
        simp only [Sg.hdTo, e1, e2, e3, ← hll.out]
        exact ⟨trivial, trivial⟩
      have hlen : (Sg.hdTo h (Sg.balances h) (Sg.totals h) k).1.length = k := Sg.hdTo_len h _ _ k
      have hcall := fun W (hb : Below wz.heap.size wz W) => seals_any h.accs h.pers[k] rs[k].now rs[k].t0 rs[k].t1 rs[k].t2 rs[k].t3 aoA aoE nA capA ne capE rs[k].m 600 W ((HC.out.below hbr).accs.below hb) HC.out.lenA hn8 (hper.ents.below hb) hper.len (HFN.out _ (List.getElem_mem h1)) hper.ok hper.lenN hper.fitN (hper.bal.below hb) hper.fitT
      rw [hper.eV] at x1
      generalize (Sg.hdTo h (Sg.balances h) (Sg.totals h) k).1 = hs at *
      generalize rs[k].m = m at *
      generalize rs[k].now = now at *
      generalize rs[k].t0 = t0 at *
      generalize rs[k].t1 = t1 at *
      generalize rs[k].t2 = t2 at *
      generalize rs[k].t3 = t3 at *
      generalize Sg.sealsB h.accs h.pers[k] now [t0, t1, t2, t3] = sb at *
      have i1 : (0 : Int) ≤ (k : Int) := by omega
      have i2 : (k : Int) < (nP : Int) := by omega
      clear hper g1 g2
      have aA : Below wz.heap.size wz (wz.alloc (.cells #[.slice aoA nA capA, .slice aoE ne capE, .map (some m), .int .u64 (nHi t0), .int .u64 (nLo t0), .int .u64 (nHi t1), .int .u64 (nLo t1), .int .u64 (nHi t2), .int .u64 (nLo t2), .int .u64 (nHi t3), .int .u64 (nLo t3)] 96)) := (Below.refl _ _).alloc (Nat.le_refl _) _
      have hP0 := PerBox.new wz (.slice aoA nA capA) (.slice aoE ne capE) (.map (some m)) (.int .u64 (nHi t0)) (.int .u64 (nLo t0)) (.int .u64 (nHi t1)) (.int .u64 (nLo t1)) (.int .u64 (nHi t2)) (.int .u64 (nLo t2)) (.int .u64 (nHi t3)) (.int .u64 (nLo t3))
      have hsg : ({ data := #[72, 69, 65, 68] } : ByteArray).size = 4 := rfl
      go_wp2_with fail
      go_region_held3 (fun w' => w'.cell? ⟨wz.heap.size, 0, none⟩ = some (.slice aoA nA capA) ∧ w'.cell? ⟨wz.heap.size, 1, none⟩ = some (.slice aoE ne capE) ∧ w'.cell? ⟨wz.heap.size, 2, none⟩ = some (.map (some m)) ∧ w'.cell? ⟨wz.heap.size, 3, none⟩ = some (.int .u64 (nHi t0)) ∧ w'.cell? ⟨wz.heap.size, 4, none⟩ = some (.int .u64 (nLo t0)) ∧ w'.cell? ⟨wz.heap.size, 5, none⟩ = some (.int .u64 (nHi t1)) ∧ w'.cell? ⟨wz.heap.size, 6, none⟩ = some (.int .u64 (nLo t1)) ∧ w'.cell? ⟨wz.heap.size, 7, none⟩ = some (.int .u64 (nHi t2)) ∧ w'.cell? ⟨wz.heap.size, 8, none⟩ = some (.int .u64 (nLo t2)) ∧ w'.cell? ⟨wz.heap.size, 9, none⟩ = some (.int .u64 (nHi t3)) ∧ w'.cell? ⟨wz.heap.size, 10, none⟩ = some (.int .u64 (nLo t3))) (first | assumption | exact elevens hP0 | exact elevens hP0.drew)
        (first
          | (go_at_call 41; refine (one_txt (k : Int) _).mono ?_; rintro e w3 ⟨y1, rfl, hy1, hys1, hb3⟩; have q1 := cat ({ data := #[72, 69, 65, 68] } : ByteArray) y1 (by rw [hsg]; omega); have q2 := cat (({ data := #[72, 69, 65, 68] } : ByteArray) ++ y1) ll (by rw [cat_size, hsg]; omega); have q3 := cat (({ data := #[72, 69, 65, 68] } : ByteArray) ++ y1 ++ ll) ch (by rw [cat_size, cat_size, hsg]; omega); have hP3 := PerBox.below (by first | exact hP0.drew | exact hP0) hb3; have hh3 := elevens hP3; have b3 : Below wz.heap.size wz w3 := (by first | exact aA.drew.trans (hb3.mono (by simp)) | exact aA.trans (hb3.mono (by simp))))
          | (go_at_call 64; refine (hcall _ (by first | exact b3 | exact b3.drew)).mono ?_; rintro e w4 ⟨y2, rfl, hy2, hys2, hb4⟩; have q4 := cat (({ data := #[72, 69, 65, 68] } : ByteArray) ++ y1 ++ ll ++ ch) y2 (by rw [cat_size, cat_size, cat_size, hsg]; omega); have hP4 := (by first | exact PerBox.below hP3 hb4 | exact PerBox.below hP3.drew hb4 : PerBox w4 wz.heap.size (.slice aoA nA capA) (.slice aoE ne capE) (.map (some m)) (.int .u64 (nHi t0)) (.int .u64 (nLo t0)) (.int .u64 (nHi t1)) (.int .u64 (nLo t1)) (.int .u64 (nHi t2)) (.int .u64 (nLo t2)) (.int .u64 (nHi t3)) (.int .u64 (nLo t3))); have hh4 := elevens hP4; have b4 : Below wz.heap.size wz w4 := (by first | exact b3.trans (hb4.mono b3.size) | exact b3.drew.trans (hb4.mono b3.size))))
      have hds : (({ data := #[72, 69, 65, 68] } : ByteArray) ++ y1 ++ ll ++ ch ++ y2).size ≤ 100 := by rw [cat_size, cat_size, cat_size, cat_size, hsg]; omega
      have HS1 : Hid ((Sg.hdTo h (Sg.balances h) (Sg.totals h) (k + 1)).1 = hs ++ [(({ data := #[72, 69, 65, 68] } : ByteArray) ++ y1 ++ ll ++ ch ++ y2)]) := by show _ = _; rw [HS.out.1, hy1.out, hy2.out]
      have HS2 : Hid ((Sg.hdTo h (Sg.balances h) (Sg.totals h) (k + 1)).2 = Sg.sumB (({ data := #[72, 69, 65, 68] } : ByteArray) ++ y1 ++ ll ++ ch ++ y2)) := by show _ = _; rw [HS.out.2, hy1.out, hy2.out]
      have hown4 := HO.out.below b4
      unfold OwnStrs at hown4
      have hs4 := b4.size
      clear hh3 hh4 hP0 hP3 hP4 hb3 hb4 b3 q1 q2 q3 q4 HS hcall x0 x1 x2 x3 x4 x5 x6 x7 x8 x9 x10 aA HO hy1 hy2
      go_wp2_with (at_builtin; refine wpList_append_own _ rfl _ _ 85 rfl (w.heap.size + 1) 9 i0 (.string ByteArray.empty) 1 16 Tryz.underlying85 hi hz0 hz1 hz2 rfl (by decide) _ _ _ rfl (hown4.alloc _) ⟨w4.heap.size, 0, none⟩ 1 1 [.string (({ data := #[72, 69, 65, 68] } : ByteArray) ++ y1 ++ ll ++ ch ++ y2)] rfl rfl ?c1 ?c2 ?c3 ?c4 ?c5 ?_)
      case c1 =>
        intro j u hj
        match j, hj with
        | 0, hj => simp at hj; subst hj; simp [Addr.add]
      case c2 => intro u hu; simp at hu; subst hu; rfl
      case c3 => unfold maxLen; omega
      case c4 => omega
      case c5 => simp; omega
      intro v' w5 hown' hgrow _
      have hb5 := below_push (B := w.heap.size + 1) (by omega) hown4 (b4.mono (by omega)) hgrow
      have HO5 : Hid (OwnStrs w5 (w.heap.size + 1) v' (Sg.hdTo h (Sg.balances h) (Sg.totals h) (k + 1)).1) := by
        show OwnStrs _ _ _ _
        rw [HS1.out]
        exact OwnStrs.push (by rw [hlen]; exact hown')
      have hbe5 : Below w.heap.size w w5 := hbr.trans (hb5.mono (by omega))
      have hs5 := hb5.size
      clear hgrow hown4 hown' hb5 HS1
      go_wp2_with fail
      refine (sumOf_txt (({ data := #[72, 69, 65, 68] } : ByteArray) ++ y1 ++ ll ++ ch ++ y2) _ (by unfold maxLen; omega)).mono ?_
      rintro e w6 ⟨y6, rfl, hy6, hys6, hb6⟩
      have HO6 : Hid (OwnStrs w6 (w.heap.size + 1) v' (Sg.hdTo h (Sg.balances h) (Sg.totals h) (k + 1)).1) := HO5.out.below hb6
      have HL6 : Hid (y6 = (Sg.hdTo h (Sg.balances h) (Sg.totals h) (k + 1)).2) := by show _ = _; rw [HS2.out, hy6.out]
      have hbe6 : Below w.heap.size w w6 := hbe5.trans (hb6.mono (by omega))
      have hs6 := hb6.size
      clear hb6 HO5 hy6 HS2
      go_wp2_with fail
      go_roundw
      case rel => exact ⟨k + 1, by omega, by go_num, ⟨_, rfl, HO6⟩, ⟨_, rfl, HL6⟩, hbe6, by omega⟩
      case measure => simp [intOf]; omega
    · have HOn : Hid (OwnStrs wz (w.heap.size + 1) v (Sg.hdTo h (Sg.balances h) (Sg.totals h) nP).1) := by
        have := HO.out
        rw [show k = nP by omega] at this
        exact this
      go_wp2_with fail
      go_ret
      exact ⟨_, rfl, HOn, hbr⟩

end Go.Proofs.YtoadiibfmcjgaaaGreat

/-
  THE WALKS of Book.Head, seal.Seal.
-/
namespace Go.Proofs.YtoadiibfmcjgaaaGreat
open Go.RowKit Go.Maps
set_option maxRecDepth 100000
attribute [local go_sem ↓] Go.wp_at_zero Go.wp_at_succ

set_option maxHeartbeats 1600000 in
/-- Book.Head. -/
theorem bHead_any (h : Sg.Hist) (aoA ao : Option Addr) (nA nP capA cap b : Nat) (rs : List Rec) (w : World) (hC : Closed w aoA nA nP h (.slice aoA nA capA) ao rs b) (hfine : ∀ p ∈ h.pers, perFine nA p) :
    Calls Tryz.prog 23 #[.agg #[.slice aoA nA capA, .slice ao nP cap]] w fun e w' => ∃ y, e = .returned (.string y) ∧ Hid (y = (Sg.hdTo h (Sg.balances h) (Sg.totals h) nP).2) ∧ Below w.heap.size w w' := by
  obtain ⟨hn8, hn6, hn1⟩ := hC.nums
  obtain ⟨k, hk⟩ : ∃ k, nP = k + 1 := ⟨nP - 1, by omega⟩
  obtain ⟨hs, res, hd, hlen, hgd, e2, HRes, hcall⟩ : ∃ (hs : List ByteArray) (res hd : ByteArray), hs.length = nP ∧ hs.getD k ByteArray.empty = hd ∧ hd.size = 16 ∧ Hid (res = (Sg.hdTo h (Sg.balances h) (Sg.totals h) nP).2 ∧ res = Sg.sumB hd) ∧
      ∀ W, Below w.heap.size w W → Calls Tryz.prog 44 #[.agg #[.slice aoA nA capA, .slice ao nP cap]] W fun e w' => ∃ v, e = .returned v ∧ Hid (OwnStrs w' (W.heap.size + 1) v hs) ∧ Below W.heap.size W w' := by
    obtain ⟨e1, e2⟩ := Sg.hdTo_get h (Sg.balances h) (Sg.totals h) k
    refine ⟨(Sg.hdTo h (Sg.balances h) (Sg.totals h) nP).1, (Sg.hdTo h (Sg.balances h) (Sg.totals h) nP).2, (Sg.hdTo h (Sg.balances h) (Sg.totals h) (k + 1)).1.getD k ByteArray.empty, Sg.hdTo_len h _ _ nP, by subst hk; rfl, e2, ⟨rfl, by subst hk; exact e1⟩, fun W hb => bHeaders_any h aoA ao nA nP capA cap b rs W (hC.below hb) hfine⟩
  have hkn : k < nP := by omega
  have hwrp : IntKind.i64.wrap ((nP : Int) - 1) = (k : Int) := by rw [IntWalk.i64_in _ (by omega)]; omega
  clear hC hfine hk
  have aB : Below w.heap.size w (w.alloc (.cells #[.slice aoA nA capA, .slice ao nP cap] 66)) := (Below.refl _ _).alloc (Nat.le_refl _) _
  go_enter Tryz.func23, Tryz.ntmps23
  go_wp2_with fail
  refine (hcall _ aB).mono ?_
  rintro e w1 ⟨v, rfl, HO, hb1⟩
  have hb01 : Below w.heap.size w w1 := aB.trans (hb1.mono (by simp))
  rcases HO.out.some_or_none with ⟨_, h0⟩ | ⟨g, cap', hv, hg, hcc, hat⟩
  · rw [h0] at hlen; simp at hlen; omega
  · have hx := hat k (by omega)
    rw [hlen] at hv
    subst hv
    rw [Nat.zero_add, hgd] at hx
    have i1 : (0 : Int) ≤ (k : Int) := by omega
    have i2 : (k : Int) < (nP : Int) := by omega
    clear hlen hcall HO hat hgd
    go_wp2_with fail
    refine (sumOf_txt hd _ (by unfold maxLen; omega)).mono ?_
    rintro e w2 ⟨y, rfl, hy, hys, hb2⟩
    go_wp2_with fail
    go_ret
    exact ⟨_, rfl, by show _ = _; rw [hy.out, ← HRes.out.2, HRes.out.1], hb01.trans (hb2.mono hb01.size)⟩


set_option maxHeartbeats 3200000 in
/-- seal.Seal: of any history. -/
theorem seal_any (h : Sg.Hist) (aoA aoP : Option Addr) (nA nP capA capP : Nat) (w : World) (hH : HistIn w aoA aoP nA nP h) (hnc : nA ≤ capA) (hcap : capA ≤ 9223372036854775807) :
    Calls Tryz.prog 11 #[.agg #[.slice aoA nA capA, .slice aoP nP capP]] w fun e w' => e = .returned (.tuple #[.string (Sg.package h), .string (Sg.headOf h), .int .i64 (Sg.closeErr h)]) ∧ Below w.heap.size w w' := by
  have aB : Below w.heap.size w (w.alloc (.cells #[.slice aoA nA capA, .slice aoP nP capP] 36)) := (Below.refl _ _).alloc (Nat.le_refl _) _
  have HH : Hid (HistIn w aoA aoP nA nP h) := hH
  have hcall := bClose_any h aoA aoP nA nP capA capP _ (hH.below aB) hnc hcap
  clear hH
  go_enter Tryz.func11, Tryz.ntmps11
  go_wp2_with fail
  refine hcall.mono ?_
  rintro e w1 ⟨hb1, hcase⟩
  have hb01 : Below w.heap.size w w1 := aB.trans (hb1.mono (by simp))
  have hs1 := hb01.size
  clear hcall hb1
  rcases hcase with ⟨he, rfl⟩ | ⟨hib, he, ao, cap, rs, b, rfl, hcc, hBk, hEv⟩
  · have qz : (Sg.closeErr h != 0) = true := by rw [bne_iff_ne]; exact he
    have HP : Hid (Sg.package h = ByteArray.empty ∧ Sg.headOf h = ByteArray.empty) := by
      unfold Sg.package Sg.headOf; rw [if_neg he, if_neg he]; exact ⟨rfl, rfl⟩
    clear he
    generalize hee : Sg.closeErr h = ee at *
    have HEE : Hid (Sg.closeErr h = ee) := hee
    clear hee
    go_wp2_with fail
    refine bodyPost_ret (v := .tuple #[.string ByteArray.empty, .string ByteArray.empty, .int .i64 ee]) (by simp [results, Tryz.results11, go_sem]; rfl) rfl ⟨by rw [HP.out.1, HP.out.2, HEE.out], hb01.alloc hs1 _⟩
  · have HP : Hid (Sg.package h = Sg.pkTo h (Sg.balances h) (Sg.totals h) nP ∧ Sg.headOf h = (Sg.hdTo h (Sg.balances h) (Sg.totals h) nP).2 ∧ Sg.closeErr h = 0) := by
      unfold Sg.package Sg.headOf; rw [if_pos he, if_pos he, HH.out.lenP]; exact ⟨rfl, rfl, he⟩
    have hfine := fine_of HH.out hib he
    have hC : Closed w1 aoA nA nP h (.slice aoA nA capA) ao rs b := ⟨HH.out.accs.below hb01, HH.out.lenA, HH.out.lenP, hib, HH.out.sizQ, hBk⟩
    have htx := fun W (hb : Below w1.heap.size w1 W) => bText_any h aoA ao nA nP capA cap b rs W (hC.below hb)
    have hhd := fun W (hb : Below w1.heap.size w1 W) => bHead_any h aoA ao nA nP capA cap b rs W (hC.below hb) hfine
    clear he hib hBk hC hfine hEv
    generalize Sg.pkTo h (Sg.balances h) (Sg.totals h) nP = pk at *
    generalize (Sg.hdTo h (Sg.balances h) (Sg.totals h) nP).2 = hd at *
    have aA : Below w1.heap.size w1 (w1.alloc (.cells #[.slice aoA nA capA, .slice ao nP cap] 66)) := (Below.refl _ _).alloc (Nat.le_refl _) _
    have hT0 : Two (w1.alloc (.cells #[.slice aoA nA capA, .slice ao nP cap] 66)) w1.heap.size (.slice aoA nA capA) (.slice ao nP cap) 66 := Two.new _ _ _ _
    go_wp2_with fail
    go_region_held3 (fun w' => w'.cell? ⟨w1.heap.size, 0, none⟩ = some (.slice aoA nA capA) ∧ w'.cell? ⟨w1.heap.size, 1, none⟩ = some (.slice ao nP cap)) (first | assumption | exact hT0.cells | exact two_drew hT0.cells | exact two_drew (x := .slice aoA nA capA) (y := .slice ao nP cap) (by assumption))
      (first
        | (go_at_call 22; refine (htx _ (by first | exact aA | exact aA.drew)).mono ?_; rintro e w2 ⟨y1, rfl, hy1, hb2⟩; have hT2 := Two.below (by first | exact hT0.drew | exact hT0) hb2; have hh2 := hT2.cells; have b2 : Below w1.heap.size w1 w2 := (by first | exact aA.drew.trans (hb2.mono (by simp)) | exact aA.trans (hb2.mono (by simp))))
        | (go_at_call 23; refine (hhd _ (by first | exact b2 | exact b2.drew)).mono ?_; rintro e w3 ⟨y2, rfl, hy2, hb3⟩; have hT3 := (by first | exact Two.below hT2 hb3 | exact Two.below hT2.drew hb3 : Two w3 w1.heap.size (.slice aoA nA capA) (.slice ao nP cap) 66); have hh3 := hT3.cells; have b3 : Below w1.heap.size w1 w3 := (by first | exact b2.trans (hb3.mono b2.size) | exact b2.drew.trans (hb3.mono b2.size))))
    have hbe : Below w.heap.size w w3 := hb01.trans (b3.mono hs1)
    clear hh2 hh3 hT0 hT2 hT3 hb2 hb3 b2 b3 htx hhd
    go_wp2_with fail
    refine bodyPost_ret (v := .tuple #[.string y1, .string y2, .int .i64 0]) (by simp [results, Tryz.results11, go_sem]) rfl ⟨by rw [HP.out.1, HP.out.2.1, HP.out.2.2, hy1.out, hy2.out], hbe⟩
end Go.Proofs.YtoadiibfmcjgaaaGreat
