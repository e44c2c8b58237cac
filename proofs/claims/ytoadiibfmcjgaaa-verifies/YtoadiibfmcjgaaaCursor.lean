/-
  THE WALKS of signetref.cursor: a text is read, behind its end there are noughts.
-/
import Derived.Test.YtoadiibfmcjgaaaReadSpec
import Derived.Test.YtoadiibfmcjgaaaMadeRows
namespace Go.Proofs.Ytoadiibfmcjgaaa
open Go.RowKit
set_option maxRecDepth 100000
attribute [local go_sem ↓] Go.wp_at_zero Go.wp_at_succ

namespace Sg
theorem extract_mid (t : ByteArray) (p k : Nat) : t.extract (min p t.size) (min (p + k) t.size) = ofL (((tx t).drop p).take k) := by
  apply ByteArray.ext
  rw [ByteArray.data_extract]
  apply Array.toList_inj.1
  have e : t.size = (tx t).length := (tx_length t).symm
  show (t.data.extract _ _).toList = (((tx t).drop p).take k)
  rw [Array.toList_extract, List.extract_eq_take_drop]
  show ((tx t).drop _).take _ = _
  rw [e]
  generalize tx t = l
  by_cases h : p ≤ l.length
  · rw [Nat.min_eq_left h]
    by_cases h2 : p + k ≤ l.length
    · rw [Nat.min_eq_left h2]; congr 1; omega
    · rw [Nat.min_eq_right (by omega), List.take_of_length_le (by simp), List.take_of_length_le (by simp; omega)]
  · rw [Nat.min_eq_right (by omega), Nat.min_eq_right (by omega), List.drop_of_length_le (Nat.le_refl _), List.drop_of_length_le (by omega)]
    simp
/-- The number of the first bytes, noughts behind the end. -/
def padL (s : List UInt8) (i : Nat) : Nat := numL ((s ++ List.replicate 8 0).take i)
theorem padL_succ (s : List UInt8) (i : Nat) (h : i < 8) : padL s (i + 1) = padL s i * 256 + ((s[i]?).getD 0).toNat := by
  unfold padL
  have hl : i < (s ++ List.replicate 8 (0 : UInt8)).length := by simp; omega
  rw [List.take_succ_eq_append_getElem hl, numL_snoc]
  congr 2
  by_cases h2 : i < s.length
  · rw [List.getElem_append_left h2, List.getElem?_eq_getElem h2]; rfl
  · rw [List.getElem_append_right (by omega), List.getElem?_eq_none (by omega), List.getElem_replicate]; rfl
theorem padL_lt (s : List UInt8) (i : Nat) : padL s i < 256 ^ i := numL_lt _ i (by simp; omega)
theorem padL_one (s : List UInt8) : padL s 1 = numL (s.take 1) := by
  cases s with
  | nil => rfl
  | cons b s => unfold padL; simp
end Sg

theorem pad_step (x : Nat) (hx : x < 256 ^ 7) (t : ByteArray) (q : Nat) (h : q < t.size) : IntKind.u64.wrap ((x : Int) * 256 + IntKind.u64.wrap ((t[q].toNat : Nat) : Int)) = ((x * 256 + (((Sg.tx t)[q]?).getD 0).toNat : Nat) : Int) := by
  have e : (Sg.tx t)[q]? = some t[q] := by
    unfold Sg.tx
    rw [Array.getElem?_toList, Array.getElem?_eq_getElem (by exact h)]
    rfl
  rw [e, Option.getD_some]
  have hb : t[q].toNat < 256 := t[q].toNat_lt
  generalize t[q].toNat = y at *
  simp [IntKind.wrap, IntKind.bits, IntKind.signed]
  omega
/-- A cursor in memory. -/
def CuAt (w : World) (b : Nat) (t : ByteArray) (p : Nat) : Prop := w.heap[b]? = some (.cells #[.string t, .int .i64 (p : Int)] 102 (0, 0))
theorem CuAt.cells {w : World} {b p : Nat} {t : ByteArray} (h : CuAt w b t p) : w.cell? ⟨b, 0, none⟩ = some (.string t) ∧ w.cell? ⟨b, 1, none⟩ = some (.int .i64 (p : Int)) ∧ w.frozen? ⟨b, 1, none⟩ = false := by
  have h' := h
  unfold CuAt at h
  exact ⟨by rw [cell_of_row w _ 0 _ _ _ h]; rfl, by rw [cell_of_row w _ 1 _ _ _ h]; rfl, by simp [World.frozen?, h]⟩
theorem CuAt.lt {w : World} {b p : Nat} {t : ByteArray} (h : CuAt w b t p) : b < w.heap.size := lt_of_block h
/-- The cursor alone has turned. -/
structure Cud (w w' : World) (b : Nat) (t : ByteArray) (p : Nat) : Prop where
  at_ : CuAt w' b t p
  grown : w.grownBy w' (some b)
theorem Cud.here {w : World} {b p : Nat} {t : ByteArray} (h : CuAt w b t p) : Cud w w b t p := ⟨h, World.grownBy.refl _ _⟩
theorem Cud.trans {a w w' : World} {b p q : Nat} {t : ByteArray} (h : Cud a w b t p) (k : Cud w w' b t q) : Cud a w' b t q := ⟨k.at_, h.grown.trans k.grown⟩
theorem Cud.below {a w w' : World} {b p : Nat} {t : ByteArray} (h : Cud a w b t p) (k : Below w.heap.size w w') : Cud a w' b t p :=
  ⟨(k.block b (lt_of_block h.at_)).trans h.at_, h.grown.trans ⟨k.os, k.tape, k.output, k.size, fun i hi _ => k.block i hi⟩⟩
theorem Cud.drew {a w : World} {b p : Nat} {t : ByteArray} (h : Cud a w b t p) : Cud a w.drew b t p := ⟨h.at_, h.grown.trans ⟨rfl, rfl, rfl, Nat.le_refl _, fun _ _ _ => rfl⟩⟩
theorem Cud.move {a w : World} {b p : Nat} {t : ByteArray} (h : Cud a w b t p) (q : Nat) : Cud a (w.setCell ⟨b, 1, none⟩ (.int .i64 (q : Int))) b t q := by
  refine ⟨heap_setCell_same w b 1 _ _ _ h.at_, h.grown.trans ⟨rfl, rfl, rfl, by simp, fun k _ hk => heap_setCell_other w ⟨b, 1, none⟩ k _ (fun e => hk (by simp [e]))⟩⟩
theorem Cud.kept {w w' : World} {b p q : Nat} {t : ByteArray} (h : CuAt w b t p) (k : Cud w w' b t q) : KeptT 102 w w' := fun i cs ty fz hi ht => by
  refine (k.grown.block i (lt_of_block hi) (fun e => ?_)).trans hi
  simp only [Option.some.injEq] at e
  subst e
  unfold CuAt at h
  rw [hi] at h
  simp only [Option.some.injEq, Obj.cells.injEq] at h
  exact ht h.2.1
theorem Cud.size {a w : World} {b p : Nat} {t : ByteArray} (h : Cud a w b t p) : a.heap.size ≤ w.heap.size := h.grown.size
theorem Cud.block {w w' : World} {b p : Nat} {t : ByteArray} (k : Cud w w' b t p) {i : Nat} (hi : i < w.heap.size) (hne : i ≠ b) : w'.heap[i]? = w.heap[i]? :=
  k.grown.block i hi (fun e => hne (by simpa using e))

set_option maxHeartbeats 1600000 in
/-- cursor.text. -/
theorem cuText_any (t : ByteArray) (p k b : Nat) (w : World) (hC : CuAt w b t p) (ht : t.size ≤ 140737488355328) (hp : p ≤ 140737488355328) (hk : k ≤ 140737488355328) :
    Calls Try.prog 57 #[.pointer (some ⟨b, 0, none⟩), .int .i64 (k : Int)] w fun e w' => ∃ y, e = .returned (.string y) ∧ Hid (y = Sg.ofL (((Sg.tx t).drop p).take k)) ∧ y.size ≤ k ∧ Cud w w' b t (p + k) := by
  obtain ⟨c0, c1, f1⟩ := hC.cells
  obtain ⟨q0, hq0⟩ : ∃ q : Nat, q = min p t.size := ⟨_, rfl⟩
  obtain ⟨q1, hq1⟩ : ∃ q : Nat, q = min (p + k) t.size := ⟨_, rfl⟩
  have m0 : min (p : Int) (t.size : Int) = (q0 : Int) := by omega
  have hwr : IntKind.i64.wrap ((p : Int) + (k : Int)) = ((p + k : Nat) : Int) := by rw [IntWalk.i64_in _ (by omega)]; omega
  have m1 : min ((p + k : Nat) : Int) (t.size : Int) = (q1 : Int) := by omega
  have l0 : (q0 : Int) ≤ (q1 : Int) := by omega
  have l1 : (q1 : Int) ≤ (t.size : Int) := by omega
  have HE : Hid (t.extract q0 q1 = Sg.ofL (((Sg.tx t).drop p).take k)) := by show _ = _; rw [hq0, hq1]; exact Sg.extract_mid t p k
  have HC : Hid (CuAt w b t p) := hC
  generalize hpk : p + k = pk at *
  clear hC hq0 hq1
  go_enter Try.func57, Try.ntmps57
  go_wp2_with fail
  go_region
  go_wp2_with fail
  go_region
  go_wp2_with fail
  go_ret
  refine ⟨_, rfl, HE, ?_, ((Cud.here HC.out).drew.drew).move pk⟩
  show (t.extract q0 q1).size ≤ k
  rw [HE.out, Sg.ofL_size]
  simp
  omega

set_option maxHeartbeats 1600000 in
/-- cursor.number. -/
theorem cuNumber_any (t : ByteArray) (p k b : Nat) (w : World) (hC : CuAt w b t p) (_ht : t.size ≤ 140737488355328) (hp : p ≤ 140737488355328) (hk : k ≤ 8) :
    Calls Try.prog 58 #[.pointer (some ⟨b, 0, none⟩), .int .i64 (k : Int)] w fun e w' => e = .returned (.int .i64 (IntKind.i64.wrap (Sg.padL ((Sg.tx t).drop p) k : Int))) ∧ Cud w w' b t (p + k) := by
  have HC : Hid (Cud w w b t p) := Cud.here hC
  obtain ⟨s, hs⟩ : ∃ s, (Sg.tx t).drop p = s := ⟨_, rfl⟩
  have hget : ∀ i, s[i]? = (Sg.tx t)[p + i]? := fun i => by rw [← hs, List.getElem?_drop]
  rw [hs]
  obtain ⟨r, hr⟩ : ∃ r, IntKind.i64.wrap (Sg.padL s k : Int) = r := ⟨_, rfl⟩
  rw [hr]
  clear hs hC
  go_enter Try.func58, Try.ntmps58
  go_wp2_with fail
  go_loopw [5, 6] (fun o i wr => ∃ j : Nat, j ≤ k ∧ i = .int .i64 (j : Int) ∧ o = .int .u64 (Sg.padL s j : Int) ∧ Hid (Cud w wr b t (p + j))) (fun _ i _ => k - (intOf i).toNat)
  case atStart => exact ⟨0, by omega, rfl, rfl, HC⟩
  case round =>
    obtain ⟨j, hj, rfl, rfl, HR⟩ := hrel
    obtain ⟨wz, ewz⟩ : ∃ z : World, z = wr := ⟨_, rfl⟩
    subst ewz
    obtain ⟨c0, c1, f1⟩ := HR.out.at_.cells
    have hN := Sg.padL_lt s j
    by_cases hlt : j < k
    · have g1 : (j : Int) < (k : Int) := by omega
      have h7 : Sg.padL s j < 256 ^ 7 := Nat.lt_of_lt_of_le hN (Nat.pow_le_pow_right (by decide) (by omega))
      have hS := Sg.padL_succ s j (by omega)
      rw [hget] at hS
      have hmul : IntKind.u64.wrap ((Sg.padL s j : Int) * 256) = ((Sg.padL s j * 256 : Nat) : Int) := by simp [IntKind.wrap, IntKind.bits, IntKind.signed]; omega
      have hw1 : IntKind.i64.wrap (((p + j : Nat) : Int) + 1) = ((p + (j + 1) : Nat) : Int) := by rw [IntWalk.i64_in _ (by omega)]; omega
      obtain ⟨q, hq⟩ : ∃ q, p + j = q := ⟨_, rfl⟩
      obtain ⟨q', hq'⟩ : ∃ q', p + (j + 1) = q' := ⟨_, rfl⟩
      rw [hq] at c1 hS hw1
      rw [hq'] at hw1
      by_cases hin : q < t.size
      · have i1 : (q : Int) < (t.size : Int) := by omega
        have i0 : (0 : Int) ≤ (q : Int) := by omega
        have HQ : Hid (p + (j + 1) = q') := hq'
        have HS : Hid (IntKind.u64.wrap ((Sg.padL s j : Int) * 256 + IntKind.u64.wrap ((t[q].toNat : Nat) : Int)) = ((Sg.padL s (j + 1) : Nat) : Int)) := by show _ = _; rw [pad_step _ h7 t q hin, hS]
        generalize Sg.padL s j = x at *
        clear hS hq hq' hN h7 hget
        go_wp2_with fail
        go_region
        go_wp2_with fail
        go_region
        go_wp2_with fail
        go_roundw
        case rel => exact ⟨j + 1, by omega, by go_num, by rw [← HS.out], by rw [HQ.out]; exact (HR.out.drew.drew).move q'⟩
        case measure => simp [intOf]; omega
      · have i1 : ¬ (q : Int) < (t.size : Int) := by omega
        have e0 : (Sg.tx t)[q]? = none := List.getElem?_eq_none (by rw [Sg.tx_length]; omega)
        rw [e0] at hS
        have HX : Hid (Sg.padL s (j + 1) = Sg.padL s j * 256) := by show _ = _; rw [hS]; rfl
        have HQ : Hid (p + (j + 1) = q') := hq'
        generalize Sg.padL s j = x at *
        clear hS e0 hq hq' hN h7 hget
        go_wp2_with fail
        go_region
        go_wp2_with fail
        go_roundw
        case rel => exact ⟨j + 1, by omega, by go_num, by rw [HX.out]; push_cast; rfl, by rw [HQ.out]; exact (HR.out.drew).move q'⟩
        case measure => simp [intOf]; omega
    · have g1 : ¬ (j : Int) < (k : Int) := by omega
      have hjk : j = k := by omega
      subst hjk
      go_wp2_with fail
      go_ret
      exact ⟨rfl, HR.out⟩
/-- One byte, of a number that is read so. -/
theorem cuOne_any (t : ByteArray) (p b : Nat) (w : World) (hC : CuAt w b t p) (ht : t.size ≤ 140737488355328) (hp : p ≤ 140737488355328) :
    Calls Try.prog 58 #[.pointer (some ⟨b, 0, none⟩), .int .i64 1] w fun e w' => ∃ k : Nat, e = .returned (.int .i64 (k : Int)) ∧ Hid (k = Sg.numL (((Sg.tx t).drop p).take 1)) ∧ k < 256 ∧ Cud w w' b t (p + 1) := by
  refine (cuNumber_any t p 1 b w hC ht hp (by omega)).mono ?_
  rintro e w' ⟨rfl, h⟩
  have hl := Sg.one_lt ((Sg.tx t).drop p)
  refine ⟨Sg.numL (((Sg.tx t).drop p).take 1), ?_, rfl, hl, h⟩
  rw [Sg.padL_one, IntWalk.i64_in _ (by omega)]
/-- Eight bytes. -/
theorem cuEight_any (t : ByteArray) (p b : Nat) (w : World) (hC : CuAt w b t p) (ht : t.size ≤ 140737488355328) (hp : p ≤ 140737488355328) :
    Calls Try.prog 58 #[.pointer (some ⟨b, 0, none⟩), .int .i64 8] w fun e w' => ∃ k : Int, e = .returned (.int .i64 k) ∧ Hid (k = Sg.rdR.num ((Sg.tx t).drop p)) ∧ Cud w w' b t (p + 8) := by
  refine (cuNumber_any t p 8 b w hC ht hp (by omega)).mono ?_
  rintro e w' ⟨rfl, h⟩
  exact ⟨_, rfl, rfl, h⟩
end Go.Proofs.Ytoadiibfmcjgaaa
