/-
  THE WALKS of Period.many, Entries, journal, Balances, statement.
-/
import Derived.Test.YtoadiibfmcjgaaaTb
import Derived.Test.YtoadiibfmcjgaaaBclose
import Derived.Test.YtoadiibfmcjgaaaRpath
namespace Go.Proofs.Ytoadiibfmcjgaaa
open Go.RowKit Go.Maps
set_option maxRecDepth 100000
attribute [local go_sem ↓] Go.wp_at_zero Go.wp_at_succ

/-- A period's box: eleven cells. -/
def PerBox (w : World) (g : Nat) (a e m c3 c4 c5 c6 c7 c8 c9 c10 : Value) : Prop := w.heap[g]? = some (.cells #[a, e, m, c3, c4, c5, c6, c7, c8, c9, c10] 116 (0, 0))
theorem PerBox.new (w : World) (a e m c3 c4 c5 c6 c7 c8 c9 c10 : Value) : PerBox (w.alloc (.cells #[a, e, m, c3, c4, c5, c6, c7, c8, c9, c10] 116)) w.heap.size a e m c3 c4 c5 c6 c7 c8 c9 c10 := heap_alloc_new w _
theorem PerBox.below {w w' : World} {g : Nat} {a e m c3 c4 c5 c6 c7 c8 c9 c10 : Value} (h : PerBox w g a e m c3 c4 c5 c6 c7 c8 c9 c10) (hb : Below w.heap.size w w') : PerBox w' g a e m c3 c4 c5 c6 c7 c8 c9 c10 := (hb.block g (lt_of_block h)).trans h
theorem PerBox.kept {w w' : World} {b g : Nat} {a e m c3 c4 c5 c6 c7 c8 c9 c10 : Value} (h : PerBox w g a e m c3 c4 c5 c6 c7 c8 c9 c10) (hk : Kept b w w') (h1 : g ≠ b) : PerBox w' g a e m c3 c4 c5 c6 c7 c8 c9 c10 := hk g _ _ _ h h1 (by decide)
theorem PerBox.cells {w : World} {g : Nat} {a e m c3 c4 c5 c6 c7 c8 c9 c10 : Value} (h : PerBox w g a e m c3 c4 c5 c6 c7 c8 c9 c10) : Eleven w g a e m c3 c4 c5 c6 c7 c8 c9 c10 := eleven_of h

set_option maxHeartbeats 800000 in
theorem many_any (a m c3 c4 c5 c6 c7 c8 c9 c10 : Value) (ao : Option Addr) (ne cap : Nat) (w : World) :
    Calls Try.prog 91 #[.agg #[a, .slice ao ne cap, m, c3, c4, c5, c6, c7, c8, c9, c10]] w fun e w' => ∃ y, e = .returned (.string y) ∧ Hid (y = Sg.beB ne 1) ∧ y.size ≤ 8 ∧ Below w.heap.size w w' := by
  go_enter Try.func91, Try.ntmps91
  go_wp2_with fail
  refine (one_txt _ _).mono ?_
  rintro e w1 ⟨y, rfl, hy, hys, hb⟩
  go_wp2_with fail
  go_ret
  exact ⟨_, rfl, hy, hys, ((Below.refl _ _).alloc (Nat.le_refl _) _).trans (hb.mono (by simp))⟩

set_option maxHeartbeats 1600000 in
theorem balances_any (now : List Int) (eV c3 c4 c5 c6 c7 c8 c9 c10 : Value) (ao : Option Addr) (nA cap m c : Nat) (w : World) (hn : now.length = nA) (hn8 : nA ≤ 8) (hf : ∀ v ∈ now, Sg.fits v = true) (hb : BalIn w m c now) :
    Calls Try.prog 93 #[.agg #[.slice ao nA cap, eV, .map (some m), c3, c4, c5, c6, c7, c8, c9, c10]] w fun e w' => ∃ y, e = .returned (.string y) ∧ Hid (y = Sg.amountsB now) ∧ y.size ≤ 64 ∧ Below w.heap.size w w' := by
  have HN : Hid (now.length = nA) := hn
  have HB : Hid (BalIn w m c now) := hb
  have HF : Hid (∀ v ∈ now, Sg.fits v = true) := hf
  clear hn hb hf
  have aB : Below w.heap.size w ((w.alloc (.cells #[.slice ao nA cap, eV, .map (some m), c3, c4, c5, c6, c7, c8, c9, c10] 116)).alloc (.cells #[.pointer none, .slice none 0 0] 121)) := ((Below.refl _ _).alloc (Nat.le_refl _) _).alloc (by simp) _
  have hB0 : PerBox ((w.alloc (.cells #[.slice ao nA cap, eV, .map (some m), c3, c4, c5, c6, c7, c8, c9, c10] 116)).alloc (.cells #[.pointer none, .slice none 0 0] 121)) w.heap.size (.slice ao nA cap) eV (.map (some m)) c3 c4 c5 c6 c7 c8 c9 c10 := (PerBox.new w _ _ _ _ _ _ _ _ _ _ _).below ((Below.refl _ _).alloc (Nat.le_refl _) _)
  have ht0 : TB ((w.alloc (.cells #[.slice ao nA cap, eV, .map (some m), c3, c4, c5, c6, c7, c8, c9, c10] 116)).alloc (.cells #[.pointer none, .slice none 0 0] 121)) (w.heap.size + 1) ByteArray.empty := by
    have := TB.new (w.alloc (.cells #[.slice ao nA cap, eV, .map (some m), c3, c4, c5, c6, c7, c8, c9, c10] 116))
    have e : (w.alloc (.cells #[.slice ao nA cap, eV, .map (some m), c3, c4, c5, c6, c7, c8, c9, c10] 116)).heap.size = w.heap.size + 1 := by simp
    rw [e] at this
    exact this
  have HX0 : Hid (PerBox ((w.alloc (.cells #[.slice ao nA cap, eV, .map (some m), c3, c4, c5, c6, c7, c8, c9, c10] 116)).alloc (.cells #[.pointer none, .slice none 0 0] 121)) w.heap.size (.slice ao nA cap) eV (.map (some m)) c3 c4 c5 c6 c7 c8 c9 c10) := hB0
  have HT0 : Hid (TB ((w.alloc (.cells #[.slice ao nA cap, eV, .map (some m), c3, c4, c5, c6, c7, c8, c9, c10] 116)).alloc (.cells #[.pointer none, .slice none 0 0] 121)) (w.heap.size + 1) (Sg.amountsB (now.take 0))) := ht0
  clear hB0 ht0
  go_enter Try.func93, Try.ntmps93
  go_wp2_with fail
  go_loopw [8] (fun i wr => ∃ k : Nat, k ≤ nA ∧ i = .int .i64 (k : Int) ∧ Hid (TB wr (w.heap.size + 1) (Sg.amountsB (now.take k))) ∧ Hid (PerBox wr w.heap.size (.slice ao nA cap) eV (.map (some m)) c3 c4 c5 c6 c7 c8 c9 c10) ∧ Below w.heap.size w wr) (fun i _ => nA - (intOf i).toNat)
  case atStart => exact ⟨0, by omega, rfl, HT0, HX0, aB⟩
  case round =>
    obtain ⟨k, hk, rfl, HT, HX, hbr⟩ := hrel
    obtain ⟨wz, ewz⟩ : ∃ z : World, z = wr := ⟨_, rfl⟩
    subst ewz
    have hsz := hbr.size
    clear HT0 HX0 aB
    by_cases hlt : k < nA
    · have hka : k < now.length := by rw [HN.out]; exact hlt
      have q2 := HX.out.cells.a2
      have hfv := HF.out now[k] (List.getElem_mem _)
      have hfm : -9223372036854775808 ≤ now[k] ∧ now[k] ≤ 9223372036854775807 := of_decide_eq_true hfv
      have hlk := (HB.out.below hbr).look (i := k) hka (by rw [HN.out]; exact hn8)
      have HS : Hid (Sg.amountsB (now.take (k + 1)) = Sg.amountsB (now.take k) ++ Sg.beB now[k] 8) := by
        show _ = _
        rw [List.take_succ_eq_append_getElem hka, Sg.amountsB_snoc]
      have hos : (Sg.amountsB (now.take k)).size = 8 * k := by rw [Sg.amountsB_size, List.length_take]; omega
      generalize Sg.amountsB (now.take k) = oo at *
      generalize now[k] = v at *
      go_wp2_with fail
      refine (int64_any v _ hfv).mono ?_
      rintro e w3 ⟨rfl, hb3⟩
      go_wp2_with fail
      refine (eight_txt v _ hfm).mono ?_
      rintro e w4 ⟨y, rfl, hy, hys, hb4⟩
      go_wp2_with fail
      refine (write_any (w.heap.size + 1) oo y _ ((HT.out.below hb3).below hb4) (by omega)).mono ?_
      rintro e w5 ⟨rfl, tb5, hb5, hk5⟩
      have HXn : Hid (PerBox w5 w.heap.size (.slice ao nA cap) eV (.map (some m)) c3 c4 c5 c6 c7 c8 c9 c10) := ((HX.out.below hb3).below hb4).kept hk5 (by omega)
      have HTn : Hid (TB w5 (w.heap.size + 1) (Sg.amountsB (now.take (k + 1)))) := by
        show TB _ _ _
        rw [HS.out, ← hy.out]
        exact tb5
      have hs3 := hb3.size
      have hs4 := hb4.size
      have hbe : Below w.heap.size w w5 := ((hbr.trans (hb3.mono hsz)).trans (hb4.mono (by omega))).trans (hb5.mono (by omega))
      clear tb5 hb5 hk5 hb3 hb4 q2 hlk HS HX HT
      go_wp2_with fail
      go_roundw
      case rel => exact ⟨k + 1, by omega, by go_num, HTn, HXn, hbe⟩
      case measure => simp [intOf]; omega
    · have HE : Hid (Sg.amountsB (now.take k) = Sg.amountsB now) := by
        show _ = _
        rw [List.take_of_length_le (by rw [HN.out]; omega)]
      have hsize : (Sg.amountsB (now.take k)).size ≤ 64 := by rw [Sg.amountsB_size, List.length_take]; omega
      generalize Sg.amountsB (now.take k) = oo at *
      go_wp2_with fail
      refine (string_any _ _ _ HT.out).mono ?_
      rintro e w3 ⟨rfl, hb3⟩
      go_wp2_with fail
      go_ret
      exact ⟨_, rfl, HE, hsize, hbr.trans (hb3.mono (by omega))⟩

set_option maxHeartbeats 3200000 in
theorem statement_any (t0 t1 t2 t3 : Int) (aV eV mV : Value) (w : World) (f0 : Sg.fits t0 = true) (f1 : Sg.fits t1 = true) (f2 : Sg.fits t2 = true) (f3 : Sg.fits t3 = true) :
    Calls Try.prog 94 #[.agg #[aV, eV, mV, .int .u64 (nHi t0), .int .u64 (nLo t0), .int .u64 (nHi t1), .int .u64 (nLo t1), .int .u64 (nHi t2), .int .u64 (nLo t2), .int .u64 (nHi t3), .int .u64 (nLo t3)]] w fun e w' => ∃ y, e = .returned (.string y) ∧ Hid (y = Sg.amountsB [t0, t1, t2, t3]) ∧ y.size ≤ 64 ∧ Below w.heap.size w w' := by
  have aB : Below w.heap.size w ((w.alloc (.cells #[aV, eV, mV, .int .u64 (nHi t0), .int .u64 (nLo t0), .int .u64 (nHi t1), .int .u64 (nLo t1), .int .u64 (nHi t2), .int .u64 (nLo t2), .int .u64 (nHi t3), .int .u64 (nLo t3)] 116)).alloc (.cells #[.pointer none, .slice none 0 0] 121)) := ((Below.refl _ _).alloc (Nat.le_refl _) _).alloc (by simp) _
  have HT0 : Hid (TB ((w.alloc (.cells #[aV, eV, mV, .int .u64 (nHi t0), .int .u64 (nLo t0), .int .u64 (nHi t1), .int .u64 (nLo t1), .int .u64 (nHi t2), .int .u64 (nLo t2), .int .u64 (nHi t3), .int .u64 (nLo t3)] 116)).alloc (.cells #[.pointer none, .slice none 0 0] 121)) (w.heap.size + 1) (Sg.amountsB ([t0, t1, t2, t3].take 0))) := by
    have := TB.new (w.alloc (.cells #[aV, eV, mV, .int .u64 (nHi t0), .int .u64 (nLo t0), .int .u64 (nHi t1), .int .u64 (nLo t1), .int .u64 (nHi t2), .int .u64 (nLo t2), .int .u64 (nHi t3), .int .u64 (nLo t3)] 116))
    have e : (w.alloc (.cells #[aV, eV, mV, .int .u64 (nHi t0), .int .u64 (nLo t0), .int .u64 (nHi t1), .int .u64 (nLo t1), .int .u64 (nHi t2), .int .u64 (nLo t2), .int .u64 (nHi t3), .int .u64 (nLo t3)] 116)).heap.size = w.heap.size + 1 := by simp
    rw [e] at this
    exact this
  go_enter Try.func94, Try.ntmps94
  go_wp2_with fail
  go_loopw [8] (fun i wr => ∃ k : Nat, k ≤ 4 ∧ i = .int .i64 (k : Int) ∧ Hid (TB wr (w.heap.size + 1) (Sg.amountsB ([t0, t1, t2, t3].take k))) ∧ Below w.heap.size w wr) (fun i _ => 4 - (intOf i).toNat)
  case atStart => exact ⟨0, by omega, rfl, HT0, aB⟩
  case round =>
    obtain ⟨k, hk, rfl, HT, hbr⟩ := hrel
    obtain ⟨wz, ewz⟩ : ∃ z : World, z = wr := ⟨_, rfl⟩
    subst ewz
    have hsz := hbr.size
    clear HT0 aB
    obtain ⟨x0, x1, x2, x3⟩ := totIndex (.int .u64 (nHi t0)) (.int .u64 (nLo t0)) (.int .u64 (nHi t1)) (.int .u64 (nLo t1)) (.int .u64 (nHi t2)) (.int .u64 (nLo t2)) (.int .u64 (nHi t3)) (.int .u64 (nLo t3)) wz
    have hr5 : k = 0 ∨ k = 1 ∨ k = 2 ∨ k = 3 ∨ k = 4 := by omega
    rcases hr5 with rfl | rfl | rfl | rfl | rfl
    · -- line 0
      have hfm : -9223372036854775808 ≤ t0 ∧ t0 ≤ 9223372036854775807 := of_decide_eq_true f0
      have HS : Hid (Sg.amountsB ([t0, t1, t2, t3].take 1) = Sg.amountsB ([t0, t1, t2, t3].take 0) ++ Sg.beB t0 8) := Sg.amountsB_snoc [] t0
      have hos : (Sg.amountsB ([t0, t1, t2, t3].take 0)).size ≤ 32 := by rw [Sg.amountsB_size]; simp
      generalize Sg.amountsB ([t0, t1, t2, t3].take 0) = oo at *
      go_wp2_with fail
      refine (int64_any t0 _ f0).mono ?_
      rintro e w3 ⟨rfl, hb3⟩
      go_wp2_with fail
      refine (eight_txt t0 _ hfm).mono ?_
      rintro e w4 ⟨y, rfl, hy, hys, hb4⟩
      go_wp2_with fail
      refine (write_any (w.heap.size + 1) oo y _ (((HT.out.below ((Below.refl _ _).alloc (Nat.le_refl _) _)).below hb3).below hb4) (by omega)).mono ?_
      rintro e w5 ⟨rfl, tb5, hb5, hk5⟩
      have HTn : Hid (TB w5 (w.heap.size + 1) (Sg.amountsB ([t0, t1, t2, t3].take 1))) := by
        show TB _ _ _
        rw [HS.out, ← hy.out]
        exact tb5
      have hs3 := hb3.size
      have hs4 := hb4.size
      simp at hs3
      have hbe : Below w.heap.size w w5 := (((hbr.alloc hsz _).trans (hb3.mono (by simp; omega))).trans (hb4.mono (by omega))).trans (hb5.mono (by omega))
      clear tb5 hb5 hk5 hb3 hb4 HS HT
      go_wp2_with fail
      go_roundw
      case rel => exact ⟨1, by omega, by first | rfl | go_num, HTn, hbe⟩
      case measure => simp [intOf]
    · -- line 1
      have hfm : -9223372036854775808 ≤ t1 ∧ t1 ≤ 9223372036854775807 := of_decide_eq_true f1
      have HS : Hid (Sg.amountsB ([t0, t1, t2, t3].take 2) = Sg.amountsB ([t0, t1, t2, t3].take 1) ++ Sg.beB t1 8) := Sg.amountsB_snoc [t0] t1
      have hos : (Sg.amountsB ([t0, t1, t2, t3].take 1)).size ≤ 32 := by rw [Sg.amountsB_size]; simp
      generalize Sg.amountsB ([t0, t1, t2, t3].take 1) = oo at *
      go_wp2_with fail
      refine (int64_any t1 _ f1).mono ?_
      rintro e w3 ⟨rfl, hb3⟩
      go_wp2_with fail
      refine (eight_txt t1 _ hfm).mono ?_
      rintro e w4 ⟨y, rfl, hy, hys, hb4⟩
      go_wp2_with fail
      refine (write_any (w.heap.size + 1) oo y _ (((HT.out.below ((Below.refl _ _).alloc (Nat.le_refl _) _)).below hb3).below hb4) (by omega)).mono ?_
      rintro e w5 ⟨rfl, tb5, hb5, hk5⟩
      have HTn : Hid (TB w5 (w.heap.size + 1) (Sg.amountsB ([t0, t1, t2, t3].take 2))) := by
        show TB _ _ _
        rw [HS.out, ← hy.out]
        exact tb5
      have hs3 := hb3.size
      have hs4 := hb4.size
      simp at hs3
      have hbe : Below w.heap.size w w5 := (((hbr.alloc hsz _).trans (hb3.mono (by simp; omega))).trans (hb4.mono (by omega))).trans (hb5.mono (by omega))
      clear tb5 hb5 hk5 hb3 hb4 HS HT
      go_wp2_with fail
      go_roundw
      case rel => exact ⟨2, by omega, by first | rfl | go_num, HTn, hbe⟩
      case measure => simp [intOf]
    · -- line 2
      have hfm : -9223372036854775808 ≤ t2 ∧ t2 ≤ 9223372036854775807 := of_decide_eq_true f2
      have HS : Hid (Sg.amountsB ([t0, t1, t2, t3].take 3) = Sg.amountsB ([t0, t1, t2, t3].take 2) ++ Sg.beB t2 8) := Sg.amountsB_snoc [t0, t1] t2
      have hos : (Sg.amountsB ([t0, t1, t2, t3].take 2)).size ≤ 32 := by rw [Sg.amountsB_size]; simp
      generalize Sg.amountsB ([t0, t1, t2, t3].take 2) = oo at *
      go_wp2_with fail
      refine (int64_any t2 _ f2).mono ?_
      rintro e w3 ⟨rfl, hb3⟩
      go_wp2_with fail
      refine (eight_txt t2 _ hfm).mono ?_
      rintro e w4 ⟨y, rfl, hy, hys, hb4⟩
      go_wp2_with fail
      refine (write_any (w.heap.size + 1) oo y _ (((HT.out.below ((Below.refl _ _).alloc (Nat.le_refl _) _)).below hb3).below hb4) (by omega)).mono ?_
      rintro e w5 ⟨rfl, tb5, hb5, hk5⟩
      have HTn : Hid (TB w5 (w.heap.size + 1) (Sg.amountsB ([t0, t1, t2, t3].take 3))) := by
        show TB _ _ _
        rw [HS.out, ← hy.out]
        exact tb5
      have hs3 := hb3.size
      have hs4 := hb4.size
      simp at hs3
      have hbe : Below w.heap.size w w5 := (((hbr.alloc hsz _).trans (hb3.mono (by simp; omega))).trans (hb4.mono (by omega))).trans (hb5.mono (by omega))
      clear tb5 hb5 hk5 hb3 hb4 HS HT
      go_wp2_with fail
      go_roundw
      case rel => exact ⟨3, by omega, by first | rfl | go_num, HTn, hbe⟩
      case measure => simp [intOf]
    · -- line 3
      have hfm : -9223372036854775808 ≤ t3 ∧ t3 ≤ 9223372036854775807 := of_decide_eq_true f3
      have HS : Hid (Sg.amountsB ([t0, t1, t2, t3].take 4) = Sg.amountsB ([t0, t1, t2, t3].take 3) ++ Sg.beB t3 8) := Sg.amountsB_snoc [t0, t1, t2] t3
      have hos : (Sg.amountsB ([t0, t1, t2, t3].take 3)).size ≤ 32 := by rw [Sg.amountsB_size]; simp
      generalize Sg.amountsB ([t0, t1, t2, t3].take 3) = oo at *
      go_wp2_with fail
      refine (int64_any t3 _ f3).mono ?_
      rintro e w3 ⟨rfl, hb3⟩
      go_wp2_with fail
      refine (eight_txt t3 _ hfm).mono ?_
      rintro e w4 ⟨y, rfl, hy, hys, hb4⟩
      go_wp2_with fail
      refine (write_any (w.heap.size + 1) oo y _ (((HT.out.below ((Below.refl _ _).alloc (Nat.le_refl _) _)).below hb3).below hb4) (by omega)).mono ?_
      rintro e w5 ⟨rfl, tb5, hb5, hk5⟩
      have HTn : Hid (TB w5 (w.heap.size + 1) (Sg.amountsB ([t0, t1, t2, t3].take 4))) := by
        show TB _ _ _
        rw [HS.out, ← hy.out]
        exact tb5
      have hs3 := hb3.size
      have hs4 := hb4.size
      simp at hs3
      have hbe : Below w.heap.size w w5 := (((hbr.alloc hsz _).trans (hb3.mono (by simp; omega))).trans (hb4.mono (by omega))).trans (hb5.mono (by omega))
      clear tb5 hb5 hk5 hb3 hb4 HS HT
      go_wp2_with fail
      go_roundw
      case rel => exact ⟨4, by omega, by first | rfl | go_num, HTn, hbe⟩
      case measure => simp [intOf]
    · have HE : Hid (Sg.amountsB ([t0, t1, t2, t3].take 4) = Sg.amountsB [t0, t1, t2, t3]) := rfl
      have hsize : (Sg.amountsB ([t0, t1, t2, t3].take 4)).size ≤ 64 := by rw [Sg.amountsB_size]; simp
      generalize Sg.amountsB ([t0, t1, t2, t3].take 4) = oo at *
      go_wp2_with fail
      refine (string_any _ _ _ HT.out).mono ?_
      rintro e w3 ⟨rfl, hb3⟩
      go_wp2_with fail
      go_ret
      exact ⟨_, rfl, HE, hsize, hbr.trans (hb3.mono (by omega))⟩

set_option maxHeartbeats 3200000 in
/-- Period.Entries. -/
theorem entries_any (es : List Sg.Ent) (aV mV c3 c4 c5 c6 c7 c8 c9 c10 : Value) (ao : Option Addr) (n cap : Nat) (w : World) (hl : es.length = n) (hn12 : n ≤ 12) (hE : EntsIn w ao es) (hok : ∀ e ∈ es, e.memo.size ≤ 20 ∧ e.posts.length ≤ 6 ∧ ∀ p ∈ e.posts, Sg.fits p.acct = true ∧ Sg.fits p.amt = true) :
    Calls Try.prog 111 #[.agg #[aV, .slice ao n cap, mV, c3, c4, c5, c6, c7, c8, c9, c10]] w fun e w' => ∃ v, e = .returned v ∧ Hid (OwnStrs w' (w.heap.size + 1) v (es.map Sg.entB)) ∧ Below w.heap.size w w' := by
  obtain ⟨i0, hi, hz0, hz1, hz2⟩ := info_parts Try.infoStr
  have HN : Hid (es.length = n) := hl
  have HE : Hid (EntsIn w ao es) := hE
  have HOK : Hid (∀ e ∈ es, e.memo.size ≤ 20 ∧ e.posts.length ≤ 6 ∧ ∀ p ∈ e.posts, Sg.fits p.acct = true ∧ Sg.fits p.amt = true) := hok
  clear hl hE hok
  go_enter Try.func111, Try.ntmps111
  go_wp2_with fail
  go_loopw [3, 9] (fun o i wr => ∃ k : Nat, k ≤ n ∧ i = .int .i64 (k : Int) ∧ ∃ v, v = o ∧ Hid (OwnStrs wr (w.heap.size + 1) v ((es.take k).map Sg.entB)) ∧ Below w.heap.size w wr ∧ w.heap.size + 1 ≤ wr.heap.size) (fun _ i _ => n - (intOf i).toNat)
  case atStart => exact ⟨0, by omega, rfl, _, rfl, World.ownsRow_nil _ _ _ _, (Below.refl _ _).alloc (Nat.le_refl _) _, by simp⟩
  case round =>
    obtain ⟨k, hk, rfl, v, ev, HO, hbr, hs1⟩ := hrel
    subst ev
    obtain ⟨wz, ewz⟩ : ∃ z : World, z = wr := ⟨_, rfl⟩
    subst ewz
    have hsz := hbr.size
    by_cases hlt : k < n
    · have hka : k < es.length := by rw [HN.out]; exact hlt
      obtain ⟨b, off, hao, hbw, hc0, ao', cap', hc1, hps⟩ := (HE.out.below hbr).cell (k := k) hka
      subst hao
      obtain ⟨o1, o2, o3⟩ := HOK.out es[k] (List.getElem_mem _)
      have HS : Hid ((es.take (k + 1)).map Sg.entB = (es.take k).map Sg.entB ++ [Sg.entB es[k]]) := by
        show _ = _
        rw [List.take_succ_eq_append_getElem hka, List.map_append]; rfl
      have hlen : ((es.take k).map Sg.entB).length = k := by rw [List.length_map, List.length_take]; omega
      obtain ⟨x, ps, hxp⟩ : ∃ x ps, es[k] = ⟨x, ps⟩ := ⟨es[k].memo, es[k].posts, rfl⟩
      rw [hxp] at hc0 hc1 hps o1 o2 o3 HS
      simp only at hc0 hc1 hps o1 o2 o3
      obtain ⟨np, hnp⟩ : ∃ np, ps.length = np := ⟨_, rfl⟩
      rw [hnp] at hc1 o2
      have hcall := fun W (hb : Below wz.heap.size wz W) => entryText_any x ps ao' np cap' W hnp o2 (hps.below hb) o1 o3
      generalize (es.take k).map Sg.entB = ts at *
      have i1 : (0 : Int) ≤ (k : Int) := by omega
      have i2 : (k : Int) < (n : Int) := by omega
      clear hps hxp hnp o3
      go_wp2_with fail
      refine (hcall _ ((Below.refl _ _).alloc (Nat.le_refl _) _)).mono ?_
      rintro e w2 ⟨tx, rfl, htx, hts, hb2⟩
      have hb2' : Below wz.heap.size wz w2 := ((Below.refl _ _).alloc (Nat.le_refl _) _).trans (hb2.mono (by simp))
      have hown2 := HO.out.below hb2'
      have hs2 := hb2'.size
      have hbe2 : Below (w.heap.size + 1) wz w2 := hb2'.mono hs1
      unfold OwnStrs at hown2
      clear hb2 hcall
      go_wp2_with (at_builtin; refine wpList_append_own _ rfl _ _ 24 rfl (w.heap.size + 1) 9 i0 (.string ByteArray.empty) 1 16 Try.underlying24 hi hz0 hz1 hz2 rfl (by decide) _ _ _ rfl (hown2.alloc _) ⟨w2.heap.size, 0, none⟩ 1 1 [.string tx] rfl rfl ?c1 ?c2 ?c3 ?c4 ?c5 ?_)
      case c1 =>
        intro j u hj
        match j, hj with
        | 0, hj => simp at hj; subst hj; simp [Addr.add]
      case c2 => intro u hu; simp at hu; subst hu; rfl
      case c3 => unfold maxLen; omega
      case c4 => omega
      case c5 => simp; omega
      intro v' w4 hown' hgrow _
      have hb' := below_push (by omega) hown2 hbe2 hgrow
      have HOn : Hid (OwnStrs w4 (w.heap.size + 1) v' ((es.take (k + 1)).map Sg.entB)) := by
        show OwnStrs _ _ _ _
        rw [HS.out, ← htx.out]
        exact OwnStrs.push (by rw [hlen]; exact hown')
      have hbe : Below w.heap.size w w4 := hbr.trans (hb'.mono (by omega))
      have hs4 := hb'.size
      clear hgrow hown2 hown' hb' HS HO
      go_wp2_with fail
      go_roundw
      case rel => exact ⟨k + 1, by omega, by go_num, _, rfl, HOn, hbe, by omega⟩
      case measure => simp [intOf]; omega
    · have HOn : Hid (OwnStrs wz (w.heap.size + 1) v (es.map Sg.entB)) := by
        have := HO.out
        rw [List.take_of_length_le (by rw [HN.out]; omega)] at this
        exact this
      go_wp2_with fail
      go_ret
      exact ⟨_, rfl, HOn, hbr⟩
end Go.Proofs.Ytoadiibfmcjgaaa
