/-
  THE WALKS of book.drillText, leafText.
-/
import Derived.Test.YtoadiibfmcjgaaaHdrills
import Derived.Test.YtoadiibfmcjgaaaPkText
namespace Go.Proofs.Ytoadiibfmcjgaaa
open Go.RowKit Go.Maps
set_option maxRecDepth 100000
attribute [local go_sem ↓] Go.wp_at_zero Go.wp_at_succ

/-- A box of four cells. -/
def Quad (w : World) (g : Nat) (x y z u : Value) (t : TypeId) : Prop := w.heap[g]? = some (.cells #[x, y, z, u] t (0, 0))
theorem Quad.cells {w : World} {g : Nat} {x y z u : Value} {t : TypeId} (h : Quad w g x y z u t) : w.cell? ⟨g, 0, none⟩ = some x ∧ w.cell? ⟨g, 1, none⟩ = some y ∧ w.cell? ⟨g, 2, none⟩ = some z ∧ w.cell? ⟨g, 3, none⟩ = some u :=
  ⟨by rw [cell_of_row w g 0 _ _ _ h]; rfl, by rw [cell_of_row w g 1 _ _ _ h]; rfl, by rw [cell_of_row w g 2 _ _ _ h]; rfl, by rw [cell_of_row w g 3 _ _ _ h]; rfl⟩
theorem Quad.new (w : World) (x y z u : Value) (t : TypeId) : Quad (w.alloc (.cells #[x, y, z, u] t)) w.heap.size x y z u t := heap_alloc_new w _
theorem Quad.below {w w' : World} {g : Nat} {x y z u : Value} {t : TypeId} (h : Quad w g x y z u t) (hb : Below w.heap.size w w') : Quad w' g x y z u t := (hb.block g (lt_of_block h)).trans h
theorem Quad.drew {w : World} {g : Nat} {x y z u : Value} {t : TypeId} (h : Quad w g x y z u t) : Quad w.drew g x y z u t := h
theorem quad_drew {W : World} {g : Nat} {x y z u : Value} (h : W.cell? ⟨g, 0, none⟩ = some x ∧ W.cell? ⟨g, 1, none⟩ = some y ∧ W.cell? ⟨g, 2, none⟩ = some z ∧ W.cell? ⟨g, 3, none⟩ = some u) :
    W.drew.cell? ⟨g, 0, none⟩ = some x ∧ W.drew.cell? ⟨g, 1, none⟩ = some y ∧ W.drew.cell? ⟨g, 2, none⟩ = some z ∧ W.drew.cell? ⟨g, 3, none⟩ = some u := ⟨by simpa using h.1, by simpa using h.2.1, by simpa using h.2.2.1, by simpa using h.2.2.2⟩

set_option maxHeartbeats 3200000 in
/-- drillText. -/
theorem drillText_any (en pl a am : Int) (w : World) (hfm : -9223372036854775808 ≤ am ∧ am ≤ 9223372036854775807) :
    Calls Try.prog 133 #[.agg #[.int .i64 en, .int .i64 pl, .int .i64 a, .int .i64 am]] w fun e w' => ∃ y, e = .returned (.string y) ∧ Hid (y = Sg.beB en 1 ++ Sg.beB pl 1 ++ Sg.beB a 1 ++ Sg.beB am 8) ∧ y.size ≤ 32 ∧ Below w.heap.size w w' := by
  have aA : Below w.heap.size w (w.alloc (.cells #[.int .i64 en, .int .i64 pl, .int .i64 a, .int .i64 am] 179)) := (Below.refl _ _).alloc (Nat.le_refl _) _
  have hT0 : Quad (w.alloc (.cells #[.int .i64 en, .int .i64 pl, .int .i64 a, .int .i64 am] 179)) w.heap.size (.int .i64 en) (.int .i64 pl) (.int .i64 a) (.int .i64 am) 179 := Quad.new _ _ _ _ _ _
  go_enter Try.func133, Try.ntmps133
  go_wp2_with fail
  go_region_held3 (fun w' => w'.cell? ⟨w.heap.size, 0, none⟩ = some (.int .i64 en) ∧ w'.cell? ⟨w.heap.size, 1, none⟩ = some (.int .i64 pl) ∧ w'.cell? ⟨w.heap.size, 2, none⟩ = some (.int .i64 a) ∧ w'.cell? ⟨w.heap.size, 3, none⟩ = some (.int .i64 am)) (first | assumption | exact hT0.cells | exact quad_drew hT0.cells | exact quad_drew (x := .int .i64 en) (y := .int .i64 pl) (z := .int .i64 a) (u := .int .i64 am) (by assumption))
    (first
      | (go_at_call 112; refine (eight_txt am _ hfm).mono ?_; rintro e w4 ⟨y4, rfl, hy4, hys4, hb4⟩; have q4 := cat (y1 ++ y2 ++ y3) y4 (by rw [cat_size, cat_size]; omega); have hT4 : Quad w4 w.heap.size (.int .i64 en) (.int .i64 pl) (.int .i64 a) (.int .i64 am) 179 := (by first | exact hT3.below hb4 | exact hT3.drew.below hb4); have hh4 := hT4.cells; have b4 : Below w.heap.size w w4 := (by first | exact b3.trans (hb4.mono b3.size) | exact b3.drew.trans (hb4.mono b3.size)))
      | (go_at_call_of 70 (Value.int IntKind.i64 a); refine (one_txt a _).mono ?_; rintro e w3 ⟨y3, rfl, hy3, hys3, hb3⟩; have q3 := cat (y1 ++ y2) y3 (by rw [cat_size]; omega); have hT3 : Quad w3 w.heap.size (.int .i64 en) (.int .i64 pl) (.int .i64 a) (.int .i64 am) 179 := (by first | exact hT2.below hb3 | exact hT2.drew.below hb3); have hh3 := hT3.cells; have b3 : Below w.heap.size w w3 := (by first | exact b2.trans (hb3.mono b2.size) | exact b2.drew.trans (hb3.mono b2.size)))
      | (go_at_call_of 70 (Value.int IntKind.i64 pl); refine (one_txt pl _).mono ?_; rintro e w2 ⟨y2, rfl, hy2, hys2, hb2⟩; have q2 := cat y1 y2 (by omega); have hT2 : Quad w2 w.heap.size (.int .i64 en) (.int .i64 pl) (.int .i64 a) (.int .i64 am) 179 := (by first | exact hT1.below hb2 | exact hT1.drew.below hb2); have hh2 := hT2.cells; have b2 : Below w.heap.size w w2 := (by first | exact b1.trans (hb2.mono b1.size) | exact b1.drew.trans (hb2.mono b1.size)))
      | (go_at_call_of 70 (Value.int IntKind.i64 en); refine (one_txt en _).mono ?_; rintro e w1 ⟨y1, rfl, hy1, hys1, hb1⟩; have hT1 : Quad w1 w.heap.size (.int .i64 en) (.int .i64 pl) (.int .i64 a) (.int .i64 am) 179 := Quad.below (by first | exact hT0.drew | exact hT0) hb1; have hh1 := hT1.cells; have b1 : Below w.heap.size w w1 := (by first | exact aA.drew.trans (hb1.mono (by simp)) | exact aA.trans (hb1.mono (by simp)))))
  go_wp2_with fail
  go_ret
  exact ⟨_, rfl, by show _ = _; rw [hy1.out, hy2.out, hy3.out, hy4.out], by rw [cat_size, cat_size, cat_size]; omega, b4⟩

/-- sum.Root of a list that is the call's own. -/
theorem sumRoot_own {w : World} {base : Nat} {v : Value} {ts : List ByteArray} (h : OwnStrs w base v ts) (hn : ts.length ≤ 4096) (hs : ∀ t ∈ ts, t.size ≤ 100) :
    Calls Try.prog 41 #[v] w fun e w' => ∃ y, e = .returned (.string y) ∧ Hid (y = Sg.root ts) ∧ y.size ≤ 8 ∧ Below w.heap.size w w' := by
  have key : Calls Try.prog 41 #[v] w fun e w' => e = .returned (.string (Sg.root ts)) ∧ Below w.heap.size w w' := by
    obtain ⟨ao, cap, rfl, hle, hm, hin⟩ := own_strs_shape h
    by_cases h0 : ts.length = 0
    · rw [h0, Sg.root_none h0]
      exact sumRoot_none _ _ w
    · obtain ⟨g, rfl, hg, hat⟩ := hin (by omega)
      exact sumRoot_some ts ts.length g 0 cap w rfl (by omega) hle (by unfold maxLen at hm; omega) (fun s hs' => by have := hs s hs'; omega) hg hat
  refine key.mono ?_
  rintro e w' ⟨rfl, hb⟩
  exact ⟨_, rfl, rfl, by rw [Sg.root_size]; omega, hb⟩
theorem two_txt (n : Int) (w : World) :
    Calls Try.prog 134 #[.int .i64 n] w fun e w' => ∃ y : ByteArray, e = .returned (.string y) ∧ Hid (y = Sg.beB n 2) ∧ y.size ≤ 8 ∧ Below w.heap.size w w' := by
  refine (two_any n w).mono ?_
  rintro e w' ⟨rfl, hb⟩
  exact ⟨_, rfl, rfl, by rw [Sg.beB_size]; omega, hb⟩

set_option maxHeartbeats 3200000 in
/-- leafText. -/
theorem leafText_any (line total : Int) (ds : List Sg.Drl) (ao : Option Addr) (n cap : Nat) (w : World) (hn : ds.length = n) (hmax : n ≤ 100) (hok : ∀ d ∈ ds, drlFits d) (hl : DrlsIn w ao ds) (ht : Sg.fits total = true) :
    Calls Try.prog 125 #[.int .i64 line, .int .i64 total, .slice ao n cap] w fun e w' => ∃ y, e = .returned (.string y) ∧ Hid (y = Sg.lineB line total ds) ∧ y.size ≤ 32 ∧ Below w.heap.size w w' := by
  obtain ⟨i0, hi, hz0, hz1, hz2⟩ := info_parts Try.infoStr
  have HN : Hid (ds.length = n) := hn
  have HOK : Hid (∀ d ∈ ds, drlFits d) := hok
  have HL : Hid (DrlsIn w ao ds) := hl
  have hft : -9223372036854775808 ≤ total ∧ total ≤ 9223372036854775807 := of_decide_eq_true ht
  clear hn hok hl ht
  go_enter Try.func125, Try.ntmps125
  go_wp2_with fail
  go_loopw [7, 12] (fun o i wr => ∃ k : Nat, k ≤ n ∧ i = .int .i64 (k : Int) ∧ ∃ v, v = o ∧ Hid (OwnStrs wr w.heap.size v ((ds.take k).map Sg.drlB)) ∧ Below w.heap.size w wr) (fun _ i _ => n - (intOf i).toNat)
  case atStart => exact ⟨0, by omega, rfl, _, rfl, World.ownsRow_nil _ _ _ _, Below.refl _ _⟩
  case round =>
    obtain ⟨k, hk, rfl, v, ev, HO, hbr⟩ := hrel
    subst ev
    obtain ⟨wz, ewz⟩ : ∃ z : World, z = wr := ⟨_, rfl⟩
    subst ewz
    have hsz := hbr.size
    by_cases hlt : k < n
    · have hka : k < ds.length := by rw [HN.out]; exact hlt
      obtain ⟨b, off, hao, hbw, hd⟩ := (HL.out.below hbr).cell (k := k) hka
      subst hao
      obtain ⟨d0, d1, d2, d3⟩ := hd
      obtain ⟨_, _, _, o4⟩ := HOK.out ds[k] (List.getElem_mem _)
      have hfm : -9223372036854775808 ≤ ds[k].amt ∧ ds[k].amt ≤ 9223372036854775807 := of_decide_eq_true o4
      have HS : Hid ((ds.take (k + 1)).map Sg.drlB = (ds.take k).map Sg.drlB ++ [Sg.drlB ds[k]]) := by
        show _ = _
        rw [List.take_succ_eq_append_getElem hka, List.map_append]; rfl
      have HD : Hid (Sg.drlB ds[k] = Sg.beB (ds[k].ent : Int) 1 ++ Sg.beB (ds[k].place : Int) 1 ++ Sg.beB ds[k].acct 1 ++ Sg.beB ds[k].amt 8) := rfl
      have hlen : ((ds.take k).map Sg.drlB).length = k := by rw [List.length_map, List.length_take]; omega
      generalize Sg.drlB ds[k] = db at *
      generalize (ds[k].ent : Int) = en at *
      generalize (ds[k].place : Int) = pl at *
      generalize ds[k].acct = a at *
      generalize ds[k].amt = am at *
      generalize (ds.take k).map Sg.drlB = ts at *
      have i1 : (0 : Int) ≤ (k : Int) := by omega
      have i2 : (k : Int) < (n : Int) := by omega
      clear o4
      go_wp2_with fail
      refine (drillText_any en pl a am _ hfm).mono ?_
      rintro e w2 ⟨tx, rfl, htx, hts, hb2⟩
      have hb2' : Below wz.heap.size wz w2 := ((Below.refl _ _).alloc (Nat.le_refl _) _).trans (hb2.mono (by simp))
      have hown2 := HO.out.below hb2'
      have hs2 := hb2'.size
      have hbe2 : Below w.heap.size w w2 := hbr.trans (hb2'.mono hsz)
      unfold OwnStrs at hown2
      clear hb2
      go_wp2_with (at_builtin; refine wpList_append_own _ rfl _ _ 24 rfl w.heap.size 9 i0 (.string ByteArray.empty) 1 16 Try.underlying24 hi hz0 hz1 hz2 rfl (by decide) _ _ _ rfl (hown2.alloc _) ⟨w2.heap.size, 0, none⟩ 1 1 [.string tx] rfl rfl ?c1 ?c2 ?c3 ?c4 ?c5 ?_)
      case c1 =>
        intro j u hj
        match j, hj with
        | 0, hj => simp at hj; subst hj; simp [Addr.add]
      case c2 => intro u hu; simp at hu; subst hu; rfl
      case c3 => unfold maxLen; omega
      case c4 => omega
      case c5 => simp; omega
      intro v' w4 hown' hgrow _
      have hb' := below_push (by omega) hown2 hbe2 hgrow
      have HOn : Hid (OwnStrs w4 w.heap.size v' ((ds.take (k + 1)).map Sg.drlB)) := by
        show OwnStrs _ _ _ _
        rw [HS.out, HD.out, ← htx.out]
        exact OwnStrs.push (by rw [hlen]; exact hown')
      clear hgrow hown2 hown' HS HO
      go_wp2_with fail
      go_roundw
      case rel => exact ⟨k + 1, by omega, by go_num, _, rfl, HOn, hb'⟩
      case measure => simp [intOf]; omega
    · have HOn : Hid (OwnStrs wz w.heap.size v (ds.map Sg.drlB)) := by
        have := HO.out
        rw [List.take_of_length_le (by rw [HN.out]; omega)] at this
        exact this
      have hlt' : (ds.map Sg.drlB).length ≤ 4096 := by rw [List.length_map, HN.out]; omega
      have hts : ∀ t ∈ ds.map Sg.drlB, t.size ≤ 100 := fun t ht => by
        obtain ⟨d, _, rfl⟩ := List.mem_map.1 ht
        unfold Sg.drlB
        rw [cat_size, cat_size, cat_size, Sg.beB_size, Sg.beB_size, Sg.beB_size, Sg.beB_size]; omega
      have HE : Hid (Sg.lineB line total ds = Sg.beB line 1 ++ Sg.beB total 8 ++ Sg.beB (n : Int) 2 ++ Sg.root (ds.map Sg.drlB)) := by show _ = _; unfold Sg.lineB; rw [HN.out]
      generalize ds.map Sg.drlB = ts at *
      clear HO
      go_wp2_with fail
      refine (one_txt line _).mono ?_
      rintro e w1 ⟨y1, rfl, hy1, hys1, hb1⟩
      go_wp2_with fail
      refine (eight_txt total _ hft).mono ?_
      rintro e w2 ⟨y2, rfl, hy2, hys2, hb2⟩
      have q1 := cat y1 y2 (by omega)
      go_wp2_with fail
      refine (two_txt (n : Int) _).mono ?_
      rintro e w3 ⟨y3, rfl, hy3, hys3, hb3⟩
      have q2 := cat (y1 ++ y2) y3 (by rw [cat_size]; omega)
      have b3 : Below wz.heap.size wz w3 := (hb1.trans (hb2.mono hb1.size)).trans (hb3.mono (by have := hb1.size; have := hb2.size; omega))
      go_wp2_with fail
      refine (sumRoot_own (HOn.out.below b3) hlt' hts).mono ?_
      rintro e w4 ⟨y4, rfl, hy4, hys4, hb4⟩
      have q3 := cat (y1 ++ y2 ++ y3) y4 (by rw [cat_size, cat_size]; omega)
      go_wp2_with fail
      go_ret
      exact ⟨_, rfl, by show _ = _; rw [HE.out, hy1.out, hy2.out, hy3.out, hy4.out], by rw [cat_size, cat_size, cat_size]; omega, (hbr.trans (b3.mono hsz)).trans (hb4.mono (by have := b3.size; omega))⟩
end Go.Proofs.Ytoadiibfmcjgaaa
