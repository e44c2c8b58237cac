/-
  THE WALK of signetref.Read (P10: the form).
-/
import Derived.Test.YtpkkhkkkgjhkeaaRefBun
namespace Go.Proofs.Ytpkkhkkkgjhkeaa
open Go.RowKit
set_option maxRecDepth 100000
attribute [local go_sem ↓] Go.wp_at_zero Go.wp_at_succ

/-- What the document's reader has read, if it has. -/
def RdRes (W : World) (B : Nat) (a b c : Int) (vD vH vP : Value) (l : List UInt8) : Prop :=
  ((∃ ao n cap, vD = .slice ao n cap) ∧ (∃ ao n cap, vH = .slice ao n cap) ∧ ∃ ao n cap, vP = .slice ao n cap ∧ cap ≤ 1000) ∧
  (Sg.formL l = true → a = ((Sg.bunL l).per : Int) ∧ b = ((Sg.bunL l).line : Int) ∧ c = (Sg.bunL l).total ∧ OwnDrls W B vD (Sg.bunL l).drls ∧ OwnStrs W B vH ((Sg.bunL l).hdrs.map Sg.hdrB) ∧ OwnStrs W B vP (Sg.bunL l).path)
theorem RdRes.no {W : World} {B : Nat} {a b c : Int} {l : List UInt8} (h : Sg.formL l = false) : RdRes W B a b c (.slice none 0 0) (.slice none 0 0) (.slice none 0 0) l :=
  ⟨⟨⟨_, _, _, rfl⟩, ⟨_, _, _, rfl⟩, ⟨_, _, _, rfl, by omega⟩⟩, fun k => by rw [h] at k; cases k⟩
theorem cuTwo_any (t : ByteArray) (p b : Nat) (w : World) (hC : CuAt w b t p) (ht : t.size ≤ 140737488355328) (hp : p ≤ 140737488355328) :
    Calls Try.prog 64 #[.pointer (some ⟨b, 0, none⟩), .int .i64 2] w fun e w' => ∃ k : Nat, e = .returned (.int .i64 (k : Int)) ∧ Hid (k = Sg.padL ((Sg.tx t).drop p) 2) ∧ k < 65536 ∧ Cud w w' b t (p + 2) := by
  refine (cuNumber_any t p 2 b w hC ht hp (by omega)).mono ?_
  rintro e w' ⟨rfl, h⟩
  have hl := Sg.padL_lt ((Sg.tx t).drop p) 2
  refine ⟨Sg.padL ((Sg.tx t).drop p) 2, ?_, rfl, by omega, h⟩
  rw [IntWalk.i64_in _ (by omega)]
theorem cuSix_any (t : ByteArray) (p b : Nat) (w : World) (hC : CuAt w b t p) (ht : t.size ≤ 140737488355328) (hp : p ≤ 140737488355328) :
    Calls Try.prog 63 #[.pointer (some ⟨b, 0, none⟩), .int .i64 16] w fun e w' => ∃ y, e = .returned (.string y) ∧ Hid (y = Sg.ofL (((Sg.tx t).drop p).take 16)) ∧ y.size ≤ 16 ∧ Cud w w' b t (p + 16) := cuText_any t p 16 b w hC ht hp (by omega)
theorem cuPair_any (t : ByteArray) (p b : Nat) (w : World) (hC : CuAt w b t p) (ht : t.size ≤ 140737488355328) (hp : p ≤ 140737488355328) :
    Calls Try.prog 63 #[.pointer (some ⟨b, 0, none⟩), .int .i64 2] w fun e w' => ∃ y, e = .returned (.string y) ∧ Hid (y = Sg.ofL (((Sg.tx t).drop p).take 2)) ∧ y.size ≤ 2 ∧ Cud w w' b t (p + 2) := cuText_any t p 2 b w hC ht hp (by omega)
theorem own_pair (W : World) (B : Nat) (y z : ByteArray) (hB : B ≤ W.heap.size) : OwnStrs (W.alloc (.cells #[.string y, .string z] 9)) B (.slice (some ⟨W.heap.size, 0, none⟩) 2 2) [y, z] :=
  ⟨rfl, Or.inr ⟨W.heap.size, 2, _, rfl, hB, heap_alloc_new W _, Nat.le_refl _, by unfold maxLen; omega, rfl, rfl⟩⟩

set_option maxHeartbeats 12800000 in
/-- signetref.Read. -/
theorem refRead_any (t : ByteArray) (w : World) (ht : t.size ≤ 140737488355328) :
    Calls Try.prog 66 #[.string t] w fun e w' => ∃ (a b c : Int) (vD vH vP : Value), e = .returned (.tuple #[.agg #[.int .i64 a, .int .i64 b, .int .i64 c, vD, vH, vP], .bool (Sg.formL (Sg.tx t))]) ∧ RdRes w' w.heap.size a b c vD vH vP (Sg.tx t) ∧ Below w.heap.size w w' := by
  obtain ⟨i0, hi, hz0, hz1, hz2⟩ := info_parts Try.infoStr
  obtain ⟨j0, ji, jz0, jz1, jz2⟩ := info_parts Try.infoDrl
  obtain ⟨l, hl⟩ : ∃ l, Sg.tx t = l := ⟨_, rfl⟩
  have HL : Hid (Sg.tx t = l) := hl
  have hlen : l.length = t.size := by rw [← hl]; exact Sg.tx_length t
  rw [hl]
  have one := fun p b W hC hp => cuOne_any t p b W hC ht hp
  have eight := fun p b W hC hp => cuEight_any t p b W hC ht hp
  have two := fun p b W hC hp => cuTwo_any t p b W hC ht hp
  have six := fun p b W hC hp => cuSix_any t p b W hC ht hp
  have pair := fun p b W hC hp => cuPair_any t p b W hC ht hp
  rw [hl] at one eight two six pair
  clear hl
  obtain ⟨r, hr⟩ : ∃ r, Sg.formL l = r := ⟨_, rfl⟩
  have HR : Hid (Sg.formL l = r) := hr
  rw [hr]
  clear hr
  have hI0 : RdI w t 0 (.int .i64 0) (.int .i64 0) (.int .i64 0) (.slice none 0 0) (.slice none 0 0) (.slice none 0 0) [] [] (((w.alloc (.cells #[.int .i64 0, .int .i64 0, .int .i64 0, .slice none 0 0, .slice none 0 0, .slice none 0 0] 120)).alloc (.cells #[.int .i64 0, .int .i64 0, .int .i64 0, .slice none 0 0, .slice none 0 0, .slice none 0 0] 120)).alloc (.cells #[.string t, .int .i64 0] 112)) := by
    have a1 : Below w.heap.size w (w.alloc (.cells #[.int .i64 0, .int .i64 0, .int .i64 0, .slice none 0 0, .slice none 0 0, .slice none 0 0] 120)) := (Below.refl _ _).alloc (Nat.le_refl _) _
    have a2 : Below (w.alloc (.cells #[.int .i64 0, .int .i64 0, .int .i64 0, .slice none 0 0, .slice none 0 0, .slice none 0 0] 120)).heap.size (w.alloc (.cells #[.int .i64 0, .int .i64 0, .int .i64 0, .slice none 0 0, .slice none 0 0, .slice none 0 0] 120)) ((w.alloc (.cells #[.int .i64 0, .int .i64 0, .int .i64 0, .slice none 0 0, .slice none 0 0, .slice none 0 0] 120)).alloc (.cells #[.int .i64 0, .int .i64 0, .int .i64 0, .slice none 0 0, .slice none 0 0, .slice none 0 0] 120)) := (Below.refl _ _).alloc (Nat.le_refl _) _
    have a3 : Below ((w.alloc (.cells #[.int .i64 0, .int .i64 0, .int .i64 0, .slice none 0 0, .slice none 0 0, .slice none 0 0] 120)).alloc (.cells #[.int .i64 0, .int .i64 0, .int .i64 0, .slice none 0 0, .slice none 0 0, .slice none 0 0] 120)).heap.size ((w.alloc (.cells #[.int .i64 0, .int .i64 0, .int .i64 0, .slice none 0 0, .slice none 0 0, .slice none 0 0] 120)).alloc (.cells #[.int .i64 0, .int .i64 0, .int .i64 0, .slice none 0 0, .slice none 0 0, .slice none 0 0] 120)) (((w.alloc (.cells #[.int .i64 0, .int .i64 0, .int .i64 0, .slice none 0 0, .slice none 0 0, .slice none 0 0] 120)).alloc (.cells #[.int .i64 0, .int .i64 0, .int .i64 0, .slice none 0 0, .slice none 0 0, .slice none 0 0] 120)).alloc (.cells #[.string t, .int .i64 0] 112)) := (Below.refl _ _).alloc (Nat.le_refl _) _
    have k1 := RBox.new w (.int .i64 0) (.int .i64 0) (.int .i64 0) (.slice none 0 0) (.slice none 0 0) (.slice none 0 0)
    have k2 := RBox.new (w.alloc (.cells #[.int .i64 0, .int .i64 0, .int .i64 0, .slice none 0 0, .slice none 0 0, .slice none 0 0] 120)) (.int .i64 0) (.int .i64 0) (.int .i64 0) (.slice none 0 0) (.slice none 0 0) (.slice none 0 0)
    have k3 : CuAt (((w.alloc (.cells #[.int .i64 0, .int .i64 0, .int .i64 0, .slice none 0 0, .slice none 0 0, .slice none 0 0] 120)).alloc (.cells #[.int .i64 0, .int .i64 0, .int .i64 0, .slice none 0 0, .slice none 0 0, .slice none 0 0] 120)).alloc (.cells #[.string t, .int .i64 0] 112)) ((w.alloc (.cells #[.int .i64 0, .int .i64 0, .int .i64 0, .slice none 0 0, .slice none 0 0, .slice none 0 0] 120)).alloc (.cells #[.int .i64 0, .int .i64 0, .int .i64 0, .slice none 0 0, .slice none 0 0, .slice none 0 0] 120)).heap.size t 0 := heap_alloc_new _ _
    have e1 : (w.alloc (.cells #[.int .i64 0, .int .i64 0, .int .i64 0, .slice none 0 0, .slice none 0 0, .slice none 0 0] 120)).heap.size = w.heap.size + 1 := by simp
    have e2 : ((w.alloc (.cells #[.int .i64 0, .int .i64 0, .int .i64 0, .slice none 0 0, .slice none 0 0, .slice none 0 0] 120)).alloc (.cells #[.int .i64 0, .int .i64 0, .int .i64 0, .slice none 0 0, .slice none 0 0, .slice none 0 0] 120)).heap.size = w.heap.size + 2 := by simp
    refine ⟨by rw [← e2]; exact k3, ?_, ?_, World.ownsRow_nil _ _ _ _, World.ownsRow_nil _ _ _ _, (a1.trans (a2.mono (by omega))).trans (a3.mono (by omega))⟩
    · rw [← e1]; exact (a3.block _ (by omega)).trans k2
    · exact (a3.block _ (by omega)).trans ((a2.block _ (by omega)).trans k1)
  go_enter Try.func66, Try.ntmps66
  go_wp2_with fail
  refine (one 0 (w.heap.size + 2) _ hI0.cu (by omega)).mono ?_
  rintro e w1 ⟨a1, rfl, ha1, hk1, hc1⟩
  have Ic := hI0.cud hc1
  have c := Ic.box.cells.1
  have f := Ic.box.free.1
  have I1 := Ic.put0 (.int .i64 (a1 : Int))
  clear hI0 hc1 Ic
  go_wp2_with fail
  clear c f
  refine (one (0 + 1) (w.heap.size + 2) _ I1.cu (by omega)).mono ?_
  rintro e w2 ⟨a2, rfl, ha2, hk2, hc2⟩
  have Ic := I1.cud hc2
  have c := Ic.box.cells.2.1
  have f := Ic.box.free.2.1
  have I2 := Ic.put1 (.int .i64 (a2 : Int))
  clear I1 hc2 Ic
  go_wp2_with fail
  clear c f
  refine (one (0 + 1 + 1) (w.heap.size + 2) _ I2.cu (by omega)).mono ?_
  rintro e w3 ⟨n, rfl, hn, hk3, hc3⟩
  have I3 := I2.cud hc3
  clear I2 hc3
  have HA : Hid (a1 = Sg.numL (l.take 1) ∧ a2 = Sg.numL ((l.drop 1).take 1) ∧ n = Sg.nH l) := ⟨ha1.out, ha2.out, hn.out⟩
  clear ha1 ha2 hn
  have c0 := I3.box.cells.1
  have c1 := I3.box.cells.2.1
  by_cases b1 : 5 < a1
  · have HF : Hid (r = false) := by
      show _ = _
      rw [← HR.out]; unfold Sg.formL; rw [decide_eq_false_iff_not]; intro k; have := HA.out; omega
    have HF' : Hid (Sg.formL l = false) := by show _ = _; rw [HR.out, HF.out]
    have k1 : (5 : Int) < (a1 : Int) := by omega
    have hQ := rstore_run I3.res (.int .i64 0) (.int .i64 0) (.int .i64 0) (.slice none 0 0) (.slice none 0 0) (.slice none 0 0)
    obtain ⟨u1, u2, u3, u4, u5, w10, ⟨m1, m2, m3⟩, ⟨m4, m5, m6⟩, ⟨m7, m8, m9⟩, ⟨n1, n2, n3⟩, ⟨n4, n5, n6⟩, ⟨n7, n8, n9⟩, hX, hBl, hoth⟩ := hQ
    have HB : Hid (Below w.heap.size w w10) := I3.bel.trans (hBl _ (Nat.le_refl _))
    obtain ⟨q0, q1, q2, q3, q4, q5⟩ := hX.cells
    clear hBl hoth hX
    go_wp2_with fail
    refine bodyPost_ret (v := .tuple #[.agg #[.int .i64 0, .int .i64 0, .int .i64 0, .slice none 0 0, .slice none 0 0, .slice none 0 0], .bool false]) (by simp [results, Try.results66, go_sem, q0, q1, q2, q3, q4, q5]) rfl ⟨0, 0, 0, _, _, _, by rw [HF.out], RdRes.no HF'.out, HB.out⟩
  by_cases b2 : 3 < a2
  · have HF : Hid (r = false) := by
      show _ = _
      rw [← HR.out]; unfold Sg.formL; rw [decide_eq_false_iff_not]; intro k; have := HA.out; omega
    have HF' : Hid (Sg.formL l = false) := by show _ = _; rw [HR.out, HF.out]
    have k1 : ¬ (5 : Int) < (a1 : Int) := by omega
    have k2 : (3 : Int) < (a2 : Int) := by omega
    have hQ := rstore_run I3.res (.int .i64 0) (.int .i64 0) (.int .i64 0) (.slice none 0 0) (.slice none 0 0) (.slice none 0 0)
    obtain ⟨u1, u2, u3, u4, u5, w10, ⟨m1, m2, m3⟩, ⟨m4, m5, m6⟩, ⟨m7, m8, m9⟩, ⟨n1, n2, n3⟩, ⟨n4, n5, n6⟩, ⟨n7, n8, n9⟩, hX, hBl, hoth⟩ := hQ
    have HB : Hid (Below w.heap.size w w10) := I3.bel.trans (hBl _ (Nat.le_refl _))
    obtain ⟨q0, q1, q2, q3, q4, q5⟩ := hX.cells
    clear hBl hoth hX
    go_wp2_with fail
    refine bodyPost_ret (v := .tuple #[.agg #[.int .i64 0, .int .i64 0, .int .i64 0, .slice none 0 0, .slice none 0 0, .slice none 0 0], .bool false]) (by simp [results, Try.results66, go_sem, q0, q1, q2, q3, q4, q5]) rfl ⟨0, 0, 0, _, _, _, by rw [HF.out], RdRes.no HF'.out, HB.out⟩
  by_cases b3 : n < 1
  · have HF : Hid (r = false) := by
      show _ = _
      rw [← HR.out]; unfold Sg.formL; rw [decide_eq_false_iff_not]; intro k; have := HA.out; omega
    have HF' : Hid (Sg.formL l = false) := by show _ = _; rw [HR.out, HF.out]
    have k1 : ¬ (5 : Int) < (a1 : Int) := by omega
    have k2 : ¬ (3 : Int) < (a2 : Int) := by omega
    have k3 : (n : Int) < 1 := by omega
    have hQ := rstore_run I3.res (.int .i64 0) (.int .i64 0) (.int .i64 0) (.slice none 0 0) (.slice none 0 0) (.slice none 0 0)
    obtain ⟨u1, u2, u3, u4, u5, w10, ⟨m1, m2, m3⟩, ⟨m4, m5, m6⟩, ⟨m7, m8, m9⟩, ⟨n1, n2, n3⟩, ⟨n4, n5, n6⟩, ⟨n7, n8, n9⟩, hX, hBl, hoth⟩ := hQ
    have HB : Hid (Below w.heap.size w w10) := I3.bel.trans (hBl _ (Nat.le_refl _))
    obtain ⟨q0, q1, q2, q3, q4, q5⟩ := hX.cells
    clear hBl hoth hX
    go_wp2_with fail
    refine bodyPost_ret (v := .tuple #[.agg #[.int .i64 0, .int .i64 0, .int .i64 0, .slice none 0 0, .slice none 0 0, .slice none 0 0], .bool false]) (by simp [results, Try.results66, go_sem, q0, q1, q2, q3, q4, q5]) rfl ⟨0, 0, 0, _, _, _, by rw [HF.out], RdRes.no HF'.out, HB.out⟩
  by_cases b4 : 6 < n
  · have HF : Hid (r = false) := by
      show _ = _
      rw [← HR.out]; unfold Sg.formL; rw [decide_eq_false_iff_not]; intro k; have := HA.out; omega
    have HF' : Hid (Sg.formL l = false) := by show _ = _; rw [HR.out, HF.out]
    have k1 : ¬ (5 : Int) < (a1 : Int) := by omega
    have k2 : ¬ (3 : Int) < (a2 : Int) := by omega
    have k3 : ¬ (n : Int) < 1 := by omega
    have k4 : (6 : Int) < (n : Int) := by omega
    have hQ := rstore_run I3.res (.int .i64 0) (.int .i64 0) (.int .i64 0) (.slice none 0 0) (.slice none 0 0) (.slice none 0 0)
    obtain ⟨u1, u2, u3, u4, u5, w10, ⟨m1, m2, m3⟩, ⟨m4, m5, m6⟩, ⟨m7, m8, m9⟩, ⟨n1, n2, n3⟩, ⟨n4, n5, n6⟩, ⟨n7, n8, n9⟩, hX, hBl, hoth⟩ := hQ
    have HB : Hid (Below w.heap.size w w10) := I3.bel.trans (hBl _ (Nat.le_refl _))
    obtain ⟨q0, q1, q2, q3, q4, q5⟩ := hX.cells
    clear hBl hoth hX
    go_wp2_with fail
    refine bodyPost_ret (v := .tuple #[.agg #[.int .i64 0, .int .i64 0, .int .i64 0, .slice none 0 0, .slice none 0 0, .slice none 0 0], .bool false]) (by simp [results, Try.results66, go_sem, q0, q1, q2, q3, q4, q5]) rfl ⟨0, 0, 0, _, _, _, by rw [HF.out], RdRes.no HF'.out, HB.out⟩
  have k1 : ¬ (5 : Int) < (a1 : Int) := by omega
  have k2 : ¬ (3 : Int) < (a2 : Int) := by omega
  have k3 : ¬ (n : Int) < 1 := by omega
  have k4 : ¬ (6 : Int) < (n : Int) := by omega
  have HI1 : Hid (RdI w t (3 + 16 * 0) (.int .i64 (a1 : Int)) (.int .i64 (a2 : Int)) (.int .i64 0) (.slice none 0 0) (.slice none 0 0) (.slice none 0 0) (Sg.rH l 0) [] w3) := I3
  clear I3
  go_wp2_with fail
  clear c0 c1 k1 k2 k3 k4
  go_loopw [7] (fun i wr => ∃ k : Nat, k ≤ n ∧ i = .int .i64 (k : Int) ∧ ∃ vH, Hid (RdI w t (3 + 16 * k) (.int .i64 (a1 : Int)) (.int .i64 (a2 : Int)) (.int .i64 0) (.slice none 0 0) vH (.slice none 0 0) (Sg.rH l k) [] wr)) (fun i _ => n - (intOf i).toNat)
  case atStart => exact ⟨0, by omega, rfl, _, HI1⟩
  case round =>
    obtain ⟨k, hk, rfl, vH, HI⟩ := hrel
    obtain ⟨wz, ewz⟩ : ∃ z : World, z = wr := ⟨_, rfl⟩
    subst ewz
    clear HI1
    by_cases hlt : k < n
    · have g1 : (k : Int) < (n : Int) := by omega
      go_wp2_with fail
      refine (six _ (w.heap.size + 2) _ HI.out.cu (by omega)).mono ?_
      rintro e w4 ⟨y, rfl, hy, hys, hc4⟩
      have I4 := HI.out.cud hc4
      have hlH := Sg.rH_len l k
      obtain ⟨aoH, capH, eH⟩ := I4.hrow.len_
      rw [hlH] at eH
      subst eH
      have aS : Below w4.heap.size w4 (w4.alloc (.cells #[.string y] 9)) := (Below.refl _ _).alloc (Nat.le_refl _) _
      have I5 := I4.below aS
      have hown := I5.hrow
      unfold OwnStrs at hown
      rw [hlH] at hown
      obtain ⟨_, _, _, _, c4, _⟩ := I4.box.cells
      have hB4 := lt_of_block I4.box
      have hs4 := I4.bel.size
      have hcl := lt_of_block I4.cu
      have HS : Hid (Sg.rH l (k + 1) = Sg.rH l k ++ [y]) := by show _ = _; rw [Sg.rH_succ, hy.out]
      clear hc4 HI hlH
      go_wp2_with (at_builtin; (refine wpList_append_lies _ rfl _ _ 24 rfl (w.heap.size + 3) 9 i0 (.string ByteArray.empty) 1 16 Try.underlying24 hi hz0 hz1 hz2 rfl (by decide) (.slice aoH k capH) k ((Sg.rH l k).map Value.string) rfl hown ⟨w4.heap.size, 0, none⟩ 1 1 [.string y] rfl rfl (World.news_of_block (cs := #[.string y]) (t := 9) (fr := (0, 0)) (heap_alloc_new w4 _)) (by simp [Value.oneCell']) (by omega) (by unfold maxLen; omega) (by omega) (by simp; omega) (w4.heap.size + 1) (by simp) ?_))
      intro g cap' w5 hown5 hgrow _ hlt5
      have ho : OwnStrs w5 (w.heap.size + 3) (.slice (some ⟨g, 0, none⟩) (k + 1) cap') (Sg.rH l k ++ [y]) := OwnStrs.push (by rw [Sg.rH_len]; exact hown5)
      have I6 := I5.pushH hgrow ho
      have hB5 : RBox w5 (w.heap.size + 1) (.int .i64 (a1 : Int)) (.int .i64 (a2 : Int)) (.int .i64 0) (.slice none 0 0) (.slice aoH k capH) (.slice none 0 0) := (hgrow.block _ (lt_of_block I5.box) (fun e => by have := (World.ownsRow.lt hown _ e.symm).1; omega)).trans I5.box
      obtain ⟨_, _, _, _, d4, _⟩ := hB5.cells
      obtain ⟨_, _, _, _, f4, _⟩ := hB5.free
      have HI6 : Hid (RdI w t (3 + 16 * (k + 1)) (.int .i64 (a1 : Int)) (.int .i64 (a2 : Int)) (.int .i64 0) (.slice none 0 0) (.slice (some ⟨g, 0, none⟩) (k + 1) cap') (.slice none 0 0) (Sg.rH l (k + 1)) [] (w5.setCell ⟨w.heap.size + 1, 4, none⟩ (.slice (some ⟨g, 0, none⟩) (k + 1) cap'))) := by
        have e3 : 3 + 16 * (k + 1) = 3 + 16 * k + 16 := by omega
        rw [e3, HS.out]
        exact I6
      clear I4 I5 I6 hown hown5 hgrow ho hB5 c4 aS HS
      go_wp2_with fail
      go_roundw
      case rel => exact ⟨k + 1, by omega, by go_num, _, HI6⟩
      case measure => simp [intOf]; omega
    · have g1 : ¬ (k : Int) < (n : Int) := by omega
      have hkn : k = n := by omega
      subst hkn
      go_wp2_with fail
      refine (eight _ (w.heap.size + 2) _ HI.out.cu (by omega)).mono ?_
      rintro e w4 ⟨tot, rfl, htot, hc4⟩
      have Ic := HI.out.cud hc4
      obtain ⟨_, _, c2, _, _, _⟩ := Ic.box.cells
      obtain ⟨_, _, f2, _, _, _⟩ := Ic.box.free
      have I4 := Ic.put2 (.int .i64 tot)
      have I4z := I4.bel.size
      clear hc4 Ic HI
      go_wp2_with fail
      clear c2 f2
      refine (two _ (w.heap.size + 2) _ I4.cu (by omega)).mono ?_
      rintro e w5 ⟨m, rfl, hm, hm6, hc5⟩
      have I5 := I4.cud hc5
      clear hc5 I4 I4z
      have HM : Hid (m = Sg.padL (l.drop (11 + 16 * Sg.nH l)) 2) := by
        have e3 : 3 + 16 * k + 8 = 11 + 16 * Sg.nH l := by rw [← HA.out.2.2]; omega
        show _ = _
        rw [hm.out, e3]
      have hform := Sg.ref_form (l := l) (m := m) (by rw [← HA.out.1]; omega) (by rw [← HA.out.2.1]; omega) (by rw [← HA.out.2.2]; omega) HM.out
      rw [← HA.out.2.2] at hform
      by_cases b5 : 72 < m
      · have HF : Hid (r = false) := by show _ = _; rw [← HR.out]; exact hform.1 b5
        have HF' : Hid (Sg.formL l = false) := by show _ = _; rw [HR.out, HF.out]
        have k5 : (72 : Int) < (m : Int) := by omega
        clear hform
        have hQ := rstore_run I5.res (.int .i64 0) (.int .i64 0) (.int .i64 0) (.slice none 0 0) (.slice none 0 0) (.slice none 0 0)
        obtain ⟨u1, u2, u3, u4, u5, w10, ⟨m1, m2, m3⟩, ⟨m4, m5, m6⟩, ⟨m7, m8, m9⟩, ⟨n1, n2, n3⟩, ⟨n4, n5, n6⟩, ⟨n7, n8, n9⟩, hX, hBl, hoth⟩ := hQ
        have HB : Hid (Below w.heap.size w w10) := I5.bel.trans (hBl _ (Nat.le_refl _))
        obtain ⟨q0, q1, q2, q3, q4, q5⟩ := hX.cells
        clear hBl hoth hX
        go_wp2_with fail
        refine bodyPost_ret (v := .tuple #[.agg #[.int .i64 0, .int .i64 0, .int .i64 0, .slice none 0 0, .slice none 0 0, .slice none 0 0], .bool false]) (by simp [results, Try.results66, go_sem, q0, q1, q2, q3, q4, q5]) rfl ⟨0, 0, 0, _, _, _, by rw [HF.out], RdRes.no HF'.out, HB.out⟩
      · have k5 : ¬ (72 : Int) < (m : Int) := by omega
        have HFO : Hid (Sg.formL l = decide (17 + 16 * k + 11 * m = l.length) ∧ (17 + 16 * k + 11 * m = l.length → Sg.nD l = m)) := ⟨hform.2.1 (by omega), hform.2.2 (by omega)⟩
        clear hform
        have HI1 : Hid (RdI w t (13 + 16 * k + 11 * 0) (.int .i64 (a1 : Int)) (.int .i64 (a2 : Int)) (.int .i64 tot) (.slice none 0 0) vH (.slice none 0 0) (Sg.rH l k) (Sg.rD l k 0) w5) := by
          have e3 : 13 + 16 * k + 11 * 0 = 3 + 16 * k + 8 + 2 := by omega
          rw [e3]
          exact I5
        obtain ⟨aoH, capH, eH⟩ := I5.hrow.len_
        subst eH
        clear I5
        go_wp2_with fail
        clear k5
        go_loopw [10] (fun i wr => ∃ q : Nat, q ≤ m ∧ i = .int .i64 (q : Int) ∧ ∃ vD, Hid (RdI w t (13 + 16 * k + 11 * q) (.int .i64 (a1 : Int)) (.int .i64 (a2 : Int)) (.int .i64 tot) vD (.slice aoH (Sg.rH l k).length capH) (.slice none 0 0) (Sg.rH l k) (Sg.rD l k q) wr)) (fun i _ => m - (intOf i).toNat)
        case atStart => exact ⟨0, by omega, rfl, _, HI1⟩
        case round =>
          obtain ⟨q, hq, rfl, vD, HI⟩ := hrel
          obtain ⟨wy, ewy⟩ : ∃ z : World, z = wr := ⟨_, rfl⟩
          subst ewy
          clear HI1
          by_cases hlq : q < m
          · have g2 : (q : Int) < (m : Int) := by omega
            have I0 := HI.out
            have hcl := lt_of_block I0.cu
            have hsz0 := I0.bel.size
            have k3 : ∀ x, vD.ownBlock = some x → x ≠ wy.heap.size := fun x hx => by have := (World.ownsRow.lt I0.drow x hx).2; omega
            have k4 : ∀ x, (Value.slice aoH (Sg.rH l k).length capH).ownBlock = some x → x ≠ wy.heap.size := fun x hx => by have := (World.ownsRow.lt I0.hrow x hx).2; omega
            have aD : Below wy.heap.size wy (wy.alloc (.cells #[.int .i64 0, .int .i64 0, .int .i64 0, .int .i64 0] 79)) := (Below.refl _ _).alloc (Nat.le_refl _) _
            have I1 := I0.below aD
            have D1 := DBox.new wy 0 0 0 0
            clear HI I0 aD
            go_wp2_with fail
            refine (one (13 + 16 * k + 11 * q) (w.heap.size + 2) _ I1.cu (by omega)).mono ?_
            rintro e w6 ⟨e1, rfl, he1, _, hc⟩
            have Ic := I1.cud hc
            have Dc : DBox w6 wy.heap.size 0 0 0 0 := (hc.block (lt_of_block D1) (by omega)).trans D1
            obtain ⟨c, _, _, _⟩ := Dc.cells
            obtain ⟨f, _, _, _⟩ := Dc.free
            have I2 := Ic.far (d := wy.heap.size) (j := 0) (by omega) k3 k4 (.int .i64 (e1 : Int))
            have D2 : DBox (w6.setCell ⟨wy.heap.size, 0, none⟩ (.int .i64 (e1 : Int))) wy.heap.size (e1 : Int) 0 0 0 := heap_setCell_same w6 wy.heap.size 0 _ _ (.int .i64 (e1 : Int)) Dc
            clear hc Ic Dc I1 D1
            go_wp2_with fail
            clear c f
            refine (one (13 + 16 * k + 11 * q + 1) (w.heap.size + 2) _ I2.cu (by omega)).mono ?_
            rintro e w7 ⟨e2, rfl, he2, _, hc⟩
            have Ic := I2.cud hc
            have Dc : DBox w7 wy.heap.size (e1 : Int) 0 0 0 := (hc.block (lt_of_block D2) (by omega)).trans D2
            obtain ⟨_, c, _, _⟩ := Dc.cells
            obtain ⟨_, f, _, _⟩ := Dc.free
            have I3 := Ic.far (d := wy.heap.size) (j := 1) (by omega) k3 k4 (.int .i64 (e2 : Int))
            have D3 : DBox (w7.setCell ⟨wy.heap.size, 1, none⟩ (.int .i64 (e2 : Int))) wy.heap.size (e1 : Int) (e2 : Int) 0 0 := heap_setCell_same w7 wy.heap.size 1 _ _ (.int .i64 (e2 : Int)) Dc
            clear hc Ic Dc I2 D2
            go_wp2_with fail
            clear c f
            refine (one (13 + 16 * k + 11 * q + 1 + 1) (w.heap.size + 2) _ I3.cu (by omega)).mono ?_
            rintro e w8 ⟨e3, rfl, he3, _, hc⟩
            have Ic := I3.cud hc
            have Dc : DBox w8 wy.heap.size (e1 : Int) (e2 : Int) 0 0 := (hc.block (lt_of_block D3) (by omega)).trans D3
            obtain ⟨_, _, c, _⟩ := Dc.cells
            obtain ⟨_, _, f, _⟩ := Dc.free
            have I4 := Ic.far (d := wy.heap.size) (j := 2) (by omega) k3 k4 (.int .i64 (e3 : Int))
            have D4 : DBox (w8.setCell ⟨wy.heap.size, 2, none⟩ (.int .i64 (e3 : Int))) wy.heap.size (e1 : Int) (e2 : Int) (e3 : Int) 0 := heap_setCell_same w8 wy.heap.size 2 _ _ (.int .i64 (e3 : Int)) Dc
            clear hc Ic Dc I3 D3
            go_wp2_with fail
            clear c f
            refine (eight (13 + 16 * k + 11 * q + 1 + 1 + 1) (w.heap.size + 2) _ I4.cu (by omega)).mono ?_
            rintro e w9 ⟨e4, rfl, he4, hc⟩
            have Ic := I4.cud hc
            have Dc : DBox w9 wy.heap.size (e1 : Int) (e2 : Int) (e3 : Int) 0 := (hc.block (lt_of_block D4) (by omega)).trans D4
            obtain ⟨_, _, _, c⟩ := Dc.cells
            obtain ⟨_, _, _, f⟩ := Dc.free
            have I5 := Ic.far (d := wy.heap.size) (j := 3) (by omega) k3 k4 (.int .i64 e4)
            have D5 : DBox (w9.setCell ⟨wy.heap.size, 3, none⟩ (.int .i64 e4)) wy.heap.size (e1 : Int) (e2 : Int) (e3 : Int) e4 := heap_setCell_same w9 wy.heap.size 3 _ _ (.int .i64 e4) Dc
            clear hc Ic Dc I4 D4
            go_upto_region 25 with fail
            clear c f
            generalize w9.setCell ⟨wy.heap.size, 3, none⟩ (.int .i64 e4) = w10 at *
            have hlD := Sg.rD_len l k q
            obtain ⟨aoD, capD, eD⟩ := I5.drow.len_
            rw [hlD] at eD
            subst eD
            have aN : Below w10.heap.size w10 (w10.alloc (.cells #[.int .i64 (e1 : Int), .int .i64 (e2 : Int), .int .i64 (e3 : Int), .int .i64 e4] 79)) := (Below.refl _ _).alloc (Nat.le_refl _) _
            have I6 := I5.below aN
            have hown := I6.drow
            unfold OwnDrls at hown
            rw [hlD] at hown
            obtain ⟨_, _, _, c3, _, _⟩ := I5.box.cells
            obtain ⟨d0, d1, d2, d3⟩ := D5.cells
            have hs5 := I5.bel.size
            have hcl5 := lt_of_block I5.cu
            have HS : Hid (Sg.rD l k (q + 1) = Sg.rD l k q ++ [⟨e1, e2, (e3 : Int), e4⟩]) := by
              show _ = _
              rw [Sg.rD_succ]
              unfold Sg.drlR
              rw [List.drop_drop, List.drop_drop, List.drop_drop, he1.out, he2.out, he3.out, he4.out]
            clear k3 k4 D5 he1 he2 he3 he4 hlD
            go_wp2_with (at_builtin; (refine wpList_append_lies _ rfl _ _ 72 rfl (w.heap.size + 3) 79 j0 _ 4 32 Try.underlying72 ji jz0 jz1 jz2 rfl (by decide) (.slice aoD q capD) q (drlCells (Sg.rD l k q)) rfl hown ⟨w10.heap.size, 0, none⟩ 1 1 [.int .i64 (e1 : Int), .int .i64 (e2 : Int), .int .i64 (e3 : Int), .int .i64 e4] rfl rfl (World.news_of_block (cs := #[.int .i64 (e1 : Int), .int .i64 (e2 : Int), .int .i64 (e3 : Int), .int .i64 e4]) (t := 79) (fr := (0, 0)) (heap_alloc_new w10 _)) (by simp [Value.oneCell']) (by omega) (by unfold maxLen; omega) (by omega) (by simp; omega) (w10.heap.size + 1) (by simp) ?_))
            intro g cap' w11 hown5 hgrow _ hlt5
            have ho : OwnDrls w11 (w.heap.size + 3) (.slice (some ⟨g, 0, none⟩) (q + 1) cap') (Sg.rD l k q ++ [⟨e1, e2, (e3 : Int), e4⟩]) := by
              unfold OwnDrls
              rw [drlCells_snoc, List.length_append, Sg.rD_len]
              exact hown5
            have I7 := I6.pushD hgrow ho
            have hB5 : RBox w11 (w.heap.size + 1) (.int .i64 (a1 : Int)) (.int .i64 (a2 : Int)) (.int .i64 tot) (.slice aoD q capD) (.slice aoH (Sg.rH l k).length capH) (.slice none 0 0) := (hgrow.block _ (lt_of_block I6.box) (fun e => by have := (World.ownsRow.lt hown _ e.symm).1; omega)).trans I6.box
            obtain ⟨_, _, _, d4, _, _⟩ := hB5.cells
            obtain ⟨_, _, _, f4, _, _⟩ := hB5.free
            have HI6 : Hid (RdI w t (13 + 16 * k + 11 * (q + 1)) (.int .i64 (a1 : Int)) (.int .i64 (a2 : Int)) (.int .i64 tot) (.slice (some ⟨g, 0, none⟩) (q + 1) cap') (.slice aoH (Sg.rH l k).length capH) (.slice none 0 0) (Sg.rH l k) (Sg.rD l k (q + 1)) (w11.setCell ⟨w.heap.size + 1, 3, none⟩ (.slice (some ⟨g, 0, none⟩) (q + 1) cap'))) := by
              have e3' : 13 + 16 * k + 11 * (q + 1) = 13 + 16 * k + 11 * q + 1 + 1 + 1 + 8 := by omega
              rw [e3', HS.out]
              exact I7
            clear I5 I6 I7 hown hown5 hgrow ho hB5 c3 aN HS d0 d1 d2 d3
            go_wp2_with fail
            go_roundw
            case rel => exact ⟨q + 1, by omega, by go_num, _, HI6⟩
            case measure => simp [intOf]; omega
          · have g2 : ¬ (q : Int) < (m : Int) := by omega
            have hqm : q = m := by omega
            subst hqm
            have I0 := HI.out
            clear HI
            go_wp2_with fail
            refine (pair _ (w.heap.size + 2) _ I0.cu (by omega)).mono ?_
            rintro e w6 ⟨y1, rfl, hy1, _, hc⟩
            have I1 := I0.cud hc
            clear hc I0
            go_wp2_with fail
            refine (pair _ (w.heap.size + 2) _ I1.cu (by omega)).mono ?_
            rintro e w7 ⟨y2, rfl, hy2, _, hc⟩
            have I2 := I1.cud hc
            clear hc I1
            obtain ⟨pp, hpp⟩ : ∃ pp, 13 + 16 * k + 11 * q + 2 + 2 = pp := ⟨_, rfl⟩
            rw [hpp] at I2
            obtain ⟨aoD, capD, eD⟩ := I2.drow.len_
            subst eD
            obtain ⟨_, _, _, _, _, c5⟩ := I2.box.cells
            obtain ⟨_, _, _, _, _, f5⟩ := I2.box.free
            have hcl2 := lt_of_block I2.cu
            have hB2 := lt_of_block I2.box
            have hs2 := I2.bel.size
            have I3a := I2.put5 (.slice (some ⟨w7.heap.size, 0, none⟩) 2 2)
            have e7 : (w7.setCell ⟨w.heap.size + 1, 5, none⟩ (.slice (some ⟨w7.heap.size, 0, none⟩) 2 2)).heap.size = w7.heap.size := by simp
            have hP := own_pair (w7.setCell ⟨w.heap.size + 1, 5, none⟩ (.slice (some ⟨w7.heap.size, 0, none⟩) 2 2)) (w.heap.size + 3) y1 y2 (by omega)
            have aP : Below (w7.setCell ⟨w.heap.size + 1, 5, none⟩ (.slice (some ⟨w7.heap.size, 0, none⟩) 2 2)).heap.size (w7.setCell ⟨w.heap.size + 1, 5, none⟩ (.slice (some ⟨w7.heap.size, 0, none⟩) 2 2)) ((w7.setCell ⟨w.heap.size + 1, 5, none⟩ (.slice (some ⟨w7.heap.size, 0, none⟩) 2 2)).alloc (.cells #[.string y1, .string y2] 9)) := (Below.refl _ _).alloc (Nat.le_refl _) _
            have I3 := I3a.below aP
            rw [e7] at hP
            clear I2 I3a aP e7
            go_upto_region 29 with fail
            clear c5 f5
            generalize ((w7.setCell ⟨w.heap.size + 1, 5, none⟩ (.slice (some ⟨w7.heap.size, 0, none⟩) 2 2)).alloc (.cells #[.string y1, .string y2] 9)) = w8 at *
            obtain ⟨o0, o1, o2, o3, o4, o5⟩ := I3.box.cells
            obtain ⟨_, cc1, _⟩ := I3.cu.cells
            have hQ := rstore_run (w := w8.drew) I3.res (.int .i64 (a1 : Int)) (.int .i64 (a2 : Int)) (.int .i64 tot) (.slice aoD (Sg.rD l k q).length capD) (.slice aoH (Sg.rH l k).length capH) (.slice (some ⟨w7.heap.size, 0, none⟩) 2 2)
            obtain ⟨u1, u2, u3, u4, u5, w12, ⟨m1, m2, m3⟩, ⟨m4, m5, m6⟩, ⟨m7, m8, m9⟩, ⟨n1, n2, n3⟩, ⟨n4, n5, n6⟩, ⟨n7, n8, n9⟩, hX, hBl, hoth⟩ := hQ
            have HB : Hid (Below w.heap.size w w12) := (I3.bel.drew).trans (hBl _ (Nat.le_refl _))
            have HRR : Hid (∀ a b c, a = (a1 : Int) → b = (a2 : Int) → c = tot → RdRes w12 w.heap.size a b c (.slice aoD (Sg.rD l k q).length capD) (.slice aoH (Sg.rH l k).length capH) (.slice (some ⟨w7.heap.size, 0, none⟩) 2 2) l) := by
              intro a b c ea eb ec
              subst ea eb ec
              refine ⟨⟨⟨_, _, _, rfl⟩, ⟨_, _, _, rfl⟩, ⟨_, _, _, rfl, by omega⟩⟩, fun hf => ?_⟩
              rw [HFO.out.1, decide_eq_true_eq] at hf
              have hnD := HFO.out.2 hf
              obtain ⟨r1, r2, r3⟩ := Sg.ref_lists (l := l) (n := k) (m := q) HA.out.2.2 hnD.symm hf
              refine ⟨by rw [HA.out.1]; rfl, by rw [HA.out.2.1]; rfl, by rw [htot.out, r3], ?_, ?_, ?_⟩
              · rw [← r2]; exact ownsRow_mono (ownsRow_offB I3.drow (by omega) hoth) (by omega)
              · rw [← r1]; exact ownsRow_mono (ownsRow_offB I3.hrow (by omega) hoth) (by omega)
              · have ep : (Sg.bunL l).path = [y1, y2] := by
                  unfold Sg.bunL
                  simp only
                  rw [← HA.out.2.2, hnD, hy1.out, hy2.out]
                  have e15 : 15 + 16 * k + 11 * q = 13 + 16 * k + 11 * q + 2 := by omega
                  rw [e15]
                rw [ep]; exact ownsRow_mono (ownsRow_offB hP (by omega) hoth) (by omega)
            obtain ⟨q0, q1, q2, q3, q4, q5⟩ := hX.cells
            have hS0 : w8.cell? ⟨w.heap.size + 1, 0, none⟩ = some (.int .i64 (a1 : Int)) ∧ w8.cell? ⟨w.heap.size + 1, 1, none⟩ = some (.int .i64 (a2 : Int)) ∧ w8.cell? ⟨w.heap.size + 1, 2, none⟩ = some (.int .i64 tot) ∧ w8.cell? ⟨w.heap.size + 1, 3, none⟩ = some (.slice aoD (Sg.rD l k q).length capD) ∧ w8.cell? ⟨w.heap.size + 1, 4, none⟩ = some (.slice aoH (Sg.rH l k).length capH) ∧ w8.cell? ⟨w.heap.size + 1, 5, none⟩ = some (.slice (some ⟨w7.heap.size, 0, none⟩) 2 2) ∧ w8.cell? ⟨w.heap.size + 2, 1, none⟩ = some (.int .i64 (pp : Int)) := ⟨o0, o1, o2, o3, o4, o5, cc1⟩
            have hS1 : w8.drew.cell? ⟨w.heap.size + 1, 0, none⟩ = some (.int .i64 (a1 : Int)) ∧ w8.drew.cell? ⟨w.heap.size + 1, 1, none⟩ = some (.int .i64 (a2 : Int)) ∧ w8.drew.cell? ⟨w.heap.size + 1, 2, none⟩ = some (.int .i64 tot) ∧ w8.drew.cell? ⟨w.heap.size + 1, 3, none⟩ = some (.slice aoD (Sg.rD l k q).length capD) ∧ w8.drew.cell? ⟨w.heap.size + 1, 4, none⟩ = some (.slice aoH (Sg.rH l k).length capH) ∧ w8.drew.cell? ⟨w.heap.size + 1, 5, none⟩ = some (.slice (some ⟨w7.heap.size, 0, none⟩) 2 2) ∧ w8.drew.cell? ⟨w.heap.size + 2, 1, none⟩ = some (.int .i64 (pp : Int)) := by simpa using hS0
            have hS2 : w12.cell? ⟨w.heap.size + 1, 0, none⟩ = some (.int .i64 (a1 : Int)) ∧ w12.cell? ⟨w.heap.size + 1, 1, none⟩ = some (.int .i64 (a2 : Int)) ∧ w12.cell? ⟨w.heap.size + 1, 2, none⟩ = some (.int .i64 tot) ∧ w12.cell? ⟨w.heap.size + 1, 3, none⟩ = some (.slice aoD (Sg.rD l k q).length capD) ∧ w12.cell? ⟨w.heap.size + 1, 4, none⟩ = some (.slice aoH (Sg.rH l k).length capH) ∧ w12.cell? ⟨w.heap.size + 1, 5, none⟩ = some (.slice (some ⟨w7.heap.size, 0, none⟩) 2 2) ∧ w12.cell? ⟨w.heap.size + 2, 1, none⟩ = some (.int .i64 (pp : Int)) := by
              have kk : ∀ b j, b ≠ w.heap.size → w12.cell? ⟨b, j, none⟩ = w8.cell? ⟨b, j, none⟩ := fun b j hb => World.cell?_of_block (w := w8) (hoth b hb)
              rw [kk _ _ (by omega), kk _ _ (by omega), kk _ _ (by omega), kk _ _ (by omega), kk _ _ (by omega), kk _ _ (by omega), kk _ _ (by omega)]
              exact hS0
            clear o0 o1 o2 o3 o4 o5 cc1
            by_cases heq : pp = t.size
            · have hcmp : ((pp : Int) == (t.size : Int)) = true := by simp [heq]
              have HF : Hid (r = true) := by show _ = _; rw [← HR.out, HFO.out.1, decide_eq_true_eq, hlen]; omega
              clear heq hpp I3 hP hoth hBl hX hS0
              go_region_held3 (fun w' => w'.cell? ⟨w.heap.size + 1, 0, none⟩ = some (.int .i64 (a1 : Int)) ∧ w'.cell? ⟨w.heap.size + 1, 1, none⟩ = some (.int .i64 (a2 : Int)) ∧ w'.cell? ⟨w.heap.size + 1, 2, none⟩ = some (.int .i64 tot) ∧ w'.cell? ⟨w.heap.size + 1, 3, none⟩ = some (.slice aoD (Sg.rD l k q).length capD) ∧ w'.cell? ⟨w.heap.size + 1, 4, none⟩ = some (.slice aoH (Sg.rH l k).length capH) ∧ w'.cell? ⟨w.heap.size + 1, 5, none⟩ = some (.slice (some ⟨w7.heap.size, 0, none⟩) 2 2) ∧ w'.cell? ⟨w.heap.size + 2, 1, none⟩ = some (.int .i64 (pp : Int))) (first | with_reducible assumption | exact hS1 | exact hS2)
                (fail)
              go_wp2_with fail
              refine bodyPost_ret (v := .tuple #[.agg #[.int .i64 (a1 : Int), .int .i64 (a2 : Int), .int .i64 tot, .slice aoD (Sg.rD l k q).length capD, .slice aoH (Sg.rH l k).length capH, .slice (some ⟨w7.heap.size, 0, none⟩) 2 2], .bool true]) (by simp [results, Try.results66, go_sem, q0, q1, q2, q3, q4, q5]) rfl ⟨(a1 : Int), (a2 : Int), tot, _, _, _, by rw [HF.out], HRR.out _ _ _ rfl rfl rfl, HB.out⟩
            · have hcmp : ((pp : Int) == (t.size : Int)) = false := by simp; omega
              have HF : Hid (r = false) := by show _ = _; rw [← HR.out, HFO.out.1, decide_eq_false_iff_not, hlen]; omega
              clear heq hpp I3 hP hoth hBl hX hS0
              go_region_held3 (fun w' => w'.cell? ⟨w.heap.size + 1, 0, none⟩ = some (.int .i64 (a1 : Int)) ∧ w'.cell? ⟨w.heap.size + 1, 1, none⟩ = some (.int .i64 (a2 : Int)) ∧ w'.cell? ⟨w.heap.size + 1, 2, none⟩ = some (.int .i64 tot) ∧ w'.cell? ⟨w.heap.size + 1, 3, none⟩ = some (.slice aoD (Sg.rD l k q).length capD) ∧ w'.cell? ⟨w.heap.size + 1, 4, none⟩ = some (.slice aoH (Sg.rH l k).length capH) ∧ w'.cell? ⟨w.heap.size + 1, 5, none⟩ = some (.slice (some ⟨w7.heap.size, 0, none⟩) 2 2) ∧ w'.cell? ⟨w.heap.size + 2, 1, none⟩ = some (.int .i64 (pp : Int))) (first | with_reducible assumption | exact hS1 | exact hS2)
                (fail)
              go_wp2_with fail
              refine bodyPost_ret (v := .tuple #[.agg #[.int .i64 (a1 : Int), .int .i64 (a2 : Int), .int .i64 tot, .slice aoD (Sg.rD l k q).length capD, .slice aoH (Sg.rH l k).length capH, .slice (some ⟨w7.heap.size, 0, none⟩) 2 2], .bool false]) (by simp [results, Try.results66, go_sem, q0, q1, q2, q3, q4, q5]) rfl ⟨(a1 : Int), (a2 : Int), tot, _, _, _, by rw [HF.out], HRR.out _ _ _ rfl rfl rfl, HB.out⟩
end Go.Proofs.Ytpkkhkkkgjhkeaa
