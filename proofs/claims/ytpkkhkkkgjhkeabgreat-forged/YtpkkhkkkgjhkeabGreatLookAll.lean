import Derived.Test.YtpkkhkkkgjhkeabGreatReadHdr
import Derived.Test.YtpkkhkkkgjhkeabGreatEntersWalk
/-
  THE WALKS of Bundle.IsTrue (a list of method values), audit.lookInto, audit.Look (P10).
-/
namespace Go.Proofs.YtpkkhkkkgjhkeabGreat
open Go.RowKit
set_option maxRecDepth 100000
attribute [local go_sem ↓] Go.wp_at_zero Go.wp_at_succ

/-- The list of what is looked for. -/
def FunRow (W : World) (g : Nat) (x0 x1 x2 x3 x4 x5 x6 : Value) : Prop := W.heap[g]? = some (.cells #[.func (.func 86) #[(.agg #[x0, x1, x2, x3, x4, x5, x6])] #[], .func (.func 87) #[(.agg #[x0, x1, x2, x3, x4, x5, x6])] #[], .func (.func 88) #[(.agg #[x0, x1, x2, x3, x4, x5, x6])] #[], .func (.func 89) #[(.agg #[x0, x1, x2, x3, x4, x5, x6])] #[], .func (.func 90) #[(.agg #[x0, x1, x2, x3, x4, x5, x6])] #[]] 28 (0, 0))
theorem FunRow.below {w w' : World} {g : Nat} {x0 x1 x2 x3 x4 x5 x6 : Value} (k : FunRow w g x0 x1 x2 x3 x4 x5 x6) (hb : Below w.heap.size w w') : FunRow w' g x0 x1 x2 x3 x4 x5 x6 := (hb.block g (lt_of_block k)).trans k
theorem FunRow.cells {W : World} {g : Nat} {x0 x1 x2 x3 x4 x5 x6 : Value} (k : FunRow W g x0 x1 x2 x3 x4 x5 x6) : W.cell? ⟨g, 0, none⟩ = some (.func (.func 86) #[(.agg #[x0, x1, x2, x3, x4, x5, x6])] #[]) ∧ W.cell? ⟨g, 1, none⟩ = some (.func (.func 87) #[(.agg #[x0, x1, x2, x3, x4, x5, x6])] #[]) ∧ W.cell? ⟨g, 2, none⟩ = some (.func (.func 88) #[(.agg #[x0, x1, x2, x3, x4, x5, x6])] #[]) ∧ W.cell? ⟨g, 3, none⟩ = some (.func (.func 89) #[(.agg #[x0, x1, x2, x3, x4, x5, x6])] #[]) ∧ W.cell? ⟨g, 4, none⟩ = some (.func (.func 90) #[(.agg #[x0, x1, x2, x3, x4, x5, x6])] #[]) :=
  ⟨by rw [cell_of_row W g 0 _ _ _ k]; rfl, by rw [cell_of_row W g 1 _ _ _ k]; rfl, by rw [cell_of_row W g 2 _ _ _ k]; rfl, by rw [cell_of_row W g 3 _ _ _ k]; rfl, by rw [cell_of_row W g 4 _ _ _ k]; rfl⟩
/-- How far the list was gone through. -/
def okTo (c : List Bool) (k : Nat) : Prop := ∀ j, j < k → c.getD j false = true
theorem okTo_zero (c : List Bool) : okTo c 0 := fun j hj => absurd hj (by omega)
theorem okTo_succ {c : List Bool} {k : Nat} (h : okTo c k) (hk : c.getD k false = true) : okTo c (k + 1) := fun j hj => by
  by_cases e : j = k
  · rw [e]; exact hk
  · exact h j (by omega)

set_option maxHeartbeats 6400000 in
/-- Bundle.IsTrue. -/
theorem isTrue_any (x0 x1 x2 x3 x4 x5 x6 : Value) (c0 c1 c2 c3 c4 : Bool) (w : World)
    (g0 : ∀ W, Below w.heap.size w W → Calls Tryz.prog 86 #[.agg #[x0, x1, x2, x3, x4, x5, x6]] W fun e w' => e = .returned (.bool c0) ∧ Below W.heap.size W w')
    (g1 : ∀ W, Below w.heap.size w W → Calls Tryz.prog 87 #[.agg #[x0, x1, x2, x3, x4, x5, x6]] W fun e w' => e = .returned (.bool c1) ∧ Below W.heap.size W w')
    (g2 : ∀ W, Below w.heap.size w W → Calls Tryz.prog 88 #[.agg #[x0, x1, x2, x3, x4, x5, x6]] W fun e w' => e = .returned (.bool c2) ∧ Below W.heap.size W w')
    (g3 : ∀ W, Below w.heap.size w W → Calls Tryz.prog 89 #[.agg #[x0, x1, x2, x3, x4, x5, x6]] W fun e w' => e = .returned (.bool c3) ∧ Below W.heap.size W w')
    (g4 : ∀ W, Below w.heap.size w W → Calls Tryz.prog 90 #[.agg #[x0, x1, x2, x3, x4, x5, x6]] W fun e w' => e = .returned (.bool c4) ∧ Below W.heap.size W w')
    : Calls Tryz.prog 49 #[.agg #[x0, x1, x2, x3, x4, x5, x6]] w fun e w' => e = .returned (.bool (c0 && c1 && c2 && c3 && c4)) ∧ Below w.heap.size w w' := by
  obtain ⟨r, hr⟩ : ∃ r, (c0 && c1 && c2 && c3 && c4) = r := ⟨_, rfl⟩
  have HR : Hid ((c0 && c1 && c2 && c3 && c4) = r) := hr
  rw [hr]
  clear hr
  have aA : Below w.heap.size w (w.alloc (.cells #[x0, x1, x2, x3, x4, x5, x6] 73)) := (Below.refl _ _).alloc (Nat.le_refl _) _
  have hF0 : FunRow ((w.alloc (.cells #[x0, x1, x2, x3, x4, x5, x6] 73)).alloc (.cells #[.func (.func 86) #[(.agg #[x0, x1, x2, x3, x4, x5, x6])] #[], .func (.func 87) #[(.agg #[x0, x1, x2, x3, x4, x5, x6])] #[], .func (.func 88) #[(.agg #[x0, x1, x2, x3, x4, x5, x6])] #[], .func (.func 89) #[(.agg #[x0, x1, x2, x3, x4, x5, x6])] #[], .func (.func 90) #[(.agg #[x0, x1, x2, x3, x4, x5, x6])] #[]] 28)) (w.heap.size + 1) x0 x1 x2 x3 x4 x5 x6 := by
    have := heap_alloc_new (w.alloc (.cells #[x0, x1, x2, x3, x4, x5, x6] 73)) (.cells #[.func (.func 86) #[(.agg #[x0, x1, x2, x3, x4, x5, x6])] #[], .func (.func 87) #[(.agg #[x0, x1, x2, x3, x4, x5, x6])] #[], .func (.func 88) #[(.agg #[x0, x1, x2, x3, x4, x5, x6])] #[], .func (.func 89) #[(.agg #[x0, x1, x2, x3, x4, x5, x6])] #[], .func (.func 90) #[(.agg #[x0, x1, x2, x3, x4, x5, x6])] #[]] 28)
    rw [World.size_alloc] at this
    exact this
  have HI0 : Hid (okTo [c0, c1, c2, c3, c4] 0 ∧ FunRow ((w.alloc (.cells #[x0, x1, x2, x3, x4, x5, x6] 73)).alloc (.cells #[.func (.func 86) #[(.agg #[x0, x1, x2, x3, x4, x5, x6])] #[], .func (.func 87) #[(.agg #[x0, x1, x2, x3, x4, x5, x6])] #[], .func (.func 88) #[(.agg #[x0, x1, x2, x3, x4, x5, x6])] #[], .func (.func 89) #[(.agg #[x0, x1, x2, x3, x4, x5, x6])] #[], .func (.func 90) #[(.agg #[x0, x1, x2, x3, x4, x5, x6])] #[]] 28)) (w.heap.size + 1) x0 x1 x2 x3 x4 x5 x6 ∧ Below w.heap.size w ((w.alloc (.cells #[x0, x1, x2, x3, x4, x5, x6] 73)).alloc (.cells #[.func (.func 86) #[(.agg #[x0, x1, x2, x3, x4, x5, x6])] #[], .func (.func 87) #[(.agg #[x0, x1, x2, x3, x4, x5, x6])] #[], .func (.func 88) #[(.agg #[x0, x1, x2, x3, x4, x5, x6])] #[], .func (.func 89) #[(.agg #[x0, x1, x2, x3, x4, x5, x6])] #[], .func (.func 90) #[(.agg #[x0, x1, x2, x3, x4, x5, x6])] #[]] 28))) := ⟨okTo_zero _, hF0, aA.alloc (by simp) _⟩
  clear hF0 aA
  go_enter Tryz.func49, Tryz.ntmps49
  go_wp2_with fail
  go_loopw [17] (fun i wr => ∃ k : Nat, k ≤ 5 ∧ i = .int .i64 (k : Int) ∧ Hid (okTo [c0, c1, c2, c3, c4] k ∧ FunRow wr (w.heap.size + 1) x0 x1 x2 x3 x4 x5 x6 ∧ Below w.heap.size w wr)) (fun i _ => 5 - (intOf i).toNat)
  case atStart => exact ⟨0, by omega, rfl, HI0⟩
  case round =>
    obtain ⟨k, hk, rfl, HI⟩ := hrel
    obtain ⟨wz, ewz⟩ : ∃ z : World, z = wr := ⟨_, rfl⟩
    subst ewz
    clear HI0
    obtain ⟨hok, hF, hbr⟩ := HI.out
    have HOK : Hid (okTo [c0, c1, c2, c3, c4] k) := hok
    obtain ⟨d0, d1, d2, d3, d4⟩ := hF.cells
    clear hok HI
    match k, hk, HOK with
    | 0, _, HOK =>
      rw [show ((0 : Nat) : Int) = 0 from rfl]
      by_cases hc : c0 = true
      · rw [hc] at g0
        have HO2 : Hid (okTo [c0, c1, c2, c3, c4] 1) := okTo_succ HOK.out hc
        clear hc
        go_wp2_with fail
        refine (g0 _ hbr).mono ?_
        rintro e w2 ⟨rfl, hb2⟩
        have HI2 : Hid (okTo [c0, c1, c2, c3, c4] 1 ∧ FunRow w2 (w.heap.size + 1) x0 x1 x2 x3 x4 x5 x6 ∧ Below w.heap.size w w2) := ⟨HO2.out, hF.below hb2, hbr.trans (hb2.mono hbr.size)⟩
        clear hF d0 d1 d2 d3 d4 hb2 hbr
        go_wp2_with fail
        go_roundw
        case rel => exact ⟨1, by omega, rfl, HI2⟩
        case measure => simp [intOf]
      · have hcf : c0 = false := by simpa using hc
        rw [hcf] at g0
        have HX : Hid (r = false) := by show _ = _; rw [← HR.out, hcf]; simp
        clear hc hcf
        go_wp2_with fail
        refine (g0 _ hbr).mono ?_
        rintro e w2 ⟨rfl, hb2⟩
        clear hF d0 d1 d2 d3 d4
        go_wp2_with fail
        go_ret
        exact ⟨by simp [HX.out], hbr.trans (hb2.mono hbr.size)⟩
    | 1, _, HOK =>
      rw [show ((1 : Nat) : Int) = 1 from rfl]
      by_cases hc : c1 = true
      · rw [hc] at g1
        have HO2 : Hid (okTo [c0, c1, c2, c3, c4] 2) := okTo_succ HOK.out hc
        clear hc
        go_wp2_with fail
        refine (g1 _ hbr).mono ?_
        rintro e w2 ⟨rfl, hb2⟩
        have HI2 : Hid (okTo [c0, c1, c2, c3, c4] 2 ∧ FunRow w2 (w.heap.size + 1) x0 x1 x2 x3 x4 x5 x6 ∧ Below w.heap.size w w2) := ⟨HO2.out, hF.below hb2, hbr.trans (hb2.mono hbr.size)⟩
        clear hF d0 d1 d2 d3 d4 hb2 hbr
        go_wp2_with fail
        go_roundw
        case rel => exact ⟨2, by omega, rfl, HI2⟩
        case measure => simp [intOf]
      · have hcf : c1 = false := by simpa using hc
        rw [hcf] at g1
        have HX : Hid (r = false) := by show _ = _; rw [← HR.out, hcf]; simp
        clear hc hcf
        go_wp2_with fail
        refine (g1 _ hbr).mono ?_
        rintro e w2 ⟨rfl, hb2⟩
        clear hF d0 d1 d2 d3 d4
        go_wp2_with fail
        go_ret
        exact ⟨by simp [HX.out], hbr.trans (hb2.mono hbr.size)⟩
    | 2, _, HOK =>
      rw [show ((2 : Nat) : Int) = 2 from rfl]
      by_cases hc : c2 = true
      · rw [hc] at g2
        have HO2 : Hid (okTo [c0, c1, c2, c3, c4] 3) := okTo_succ HOK.out hc
        clear hc
        go_wp2_with fail
        refine (g2 _ hbr).mono ?_
        rintro e w2 ⟨rfl, hb2⟩
        have HI2 : Hid (okTo [c0, c1, c2, c3, c4] 3 ∧ FunRow w2 (w.heap.size + 1) x0 x1 x2 x3 x4 x5 x6 ∧ Below w.heap.size w w2) := ⟨HO2.out, hF.below hb2, hbr.trans (hb2.mono hbr.size)⟩
        clear hF d0 d1 d2 d3 d4 hb2 hbr
        go_wp2_with fail
        go_roundw
        case rel => exact ⟨3, by omega, rfl, HI2⟩
        case measure => simp [intOf]
      · have hcf : c2 = false := by simpa using hc
        rw [hcf] at g2
        have HX : Hid (r = false) := by show _ = _; rw [← HR.out, hcf]; simp
        clear hc hcf
        go_wp2_with fail
        refine (g2 _ hbr).mono ?_
        rintro e w2 ⟨rfl, hb2⟩
        clear hF d0 d1 d2 d3 d4
        go_wp2_with fail
        go_ret
        exact ⟨by simp [HX.out], hbr.trans (hb2.mono hbr.size)⟩
    | 3, _, HOK =>
      rw [show ((3 : Nat) : Int) = 3 from rfl]
      by_cases hc : c3 = true
      · rw [hc] at g3
        have HO2 : Hid (okTo [c0, c1, c2, c3, c4] 4) := okTo_succ HOK.out hc
        clear hc
        go_wp2_with fail
        refine (g3 _ hbr).mono ?_
        rintro e w2 ⟨rfl, hb2⟩
        have HI2 : Hid (okTo [c0, c1, c2, c3, c4] 4 ∧ FunRow w2 (w.heap.size + 1) x0 x1 x2 x3 x4 x5 x6 ∧ Below w.heap.size w w2) := ⟨HO2.out, hF.below hb2, hbr.trans (hb2.mono hbr.size)⟩
        clear hF d0 d1 d2 d3 d4 hb2 hbr
        go_wp2_with fail
        go_roundw
        case rel => exact ⟨4, by omega, rfl, HI2⟩
        case measure => simp [intOf]
      · have hcf : c3 = false := by simpa using hc
        rw [hcf] at g3
        have HX : Hid (r = false) := by show _ = _; rw [← HR.out, hcf]; simp
        clear hc hcf
        go_wp2_with fail
        refine (g3 _ hbr).mono ?_
        rintro e w2 ⟨rfl, hb2⟩
        clear hF d0 d1 d2 d3 d4
        go_wp2_with fail
        go_ret
        exact ⟨by simp [HX.out], hbr.trans (hb2.mono hbr.size)⟩
    | 4, _, HOK =>
      rw [show ((4 : Nat) : Int) = 4 from rfl]
      by_cases hc : c4 = true
      · rw [hc] at g4
        have HO2 : Hid (okTo [c0, c1, c2, c3, c4] 5) := okTo_succ HOK.out hc
        clear hc
        go_wp2_with fail
        refine (g4 _ hbr).mono ?_
        rintro e w2 ⟨rfl, hb2⟩
        have HI2 : Hid (okTo [c0, c1, c2, c3, c4] 5 ∧ FunRow w2 (w.heap.size + 1) x0 x1 x2 x3 x4 x5 x6 ∧ Below w.heap.size w w2) := ⟨HO2.out, hF.below hb2, hbr.trans (hb2.mono hbr.size)⟩
        clear hF d0 d1 d2 d3 d4 hb2 hbr
        go_wp2_with fail
        go_roundw
        case rel => exact ⟨5, by omega, rfl, HI2⟩
        case measure => simp [intOf]
      · have hcf : c4 = false := by simpa using hc
        rw [hcf] at g4
        have HX : Hid (r = false) := by show _ = _; rw [← HR.out, hcf]; simp
        clear hc hcf
        go_wp2_with fail
        refine (g4 _ hbr).mono ?_
        rintro e w2 ⟨rfl, hb2⟩
        clear hF d0 d1 d2 d3 d4
        go_wp2_with fail
        go_ret
        exact ⟨by simp [HX.out], hbr.trans (hb2.mono hbr.size)⟩
    | 5, _, HOK =>
      have HX : Hid (r = true) := by
        show _ = _
        rw [← HR.out]
        have a0 : c0 = true := HOK.out 0 (by omega)
        have a1 : c1 = true := HOK.out 1 (by omega)
        have a2 : c2 = true := HOK.out 2 (by omega)
        have a3 : c3 = true := HOK.out 3 (by omega)
        have a4 : c4 = true := HOK.out 4 (by omega)
        rw [a0, a1, a2, a3, a4]; rfl
      rw [show ((5 : Nat) : Int) = 5 from rfl]
      go_wp2_with fail
      go_ret
      exact ⟨by simp [HX.out], hbr⟩
    | _ + 6, hk, _ => omega

end Go.Proofs.YtpkkhkkkgjhkeabGreat
