import Derived.Test.YtpkkhkkkgjhkeaaGreatReadSpec
import Derived.Test.YtpkkhkkkgjhkeaaGreatMadeSpec
import Derived.Test.YtpkkhkkkgjhkeaaGreatMadeInv
import Derived.Test.YtpkkhkkkgjhkeaaGreatRefSeal
import Derived.Deep.CutRange
/-
  THE WALKS of signetref.cursor: a text is read, behind its end there are noughts.
-/
namespace Go.Proofs.YtpkkhkkkgjhkeaaGreat
open Go.RowKit
set_option maxRecDepth 100000
attribute [local go_sem ↓] Go.wp_at_zero Go.wp_at_succ

namespace Sg
theorem extract_mid (t : ByteArray) (p k : Nat) : t.extract (min p t.size) (min (p + k) t.size) = ofL (((tx t).drop p).take k) := by
  apply ByteArray.ext
  rw [ByteArray.data_extract]
  apply Array.toList_inj.1
  have e : t.size = (tx t).length := (tx_length t).symm
  show (t.data.extract _ _).toList = (((tx t).drop p).take k)
  rw [Array.toList_extract, List.extract_eq_take_drop]
  show ((tx t).drop _).take _ = _
  rw [e]
  generalize tx t = l
  by_cases h : p ≤ l.length
  · rw [Nat.min_eq_left h]
    by_cases h2 : p + k ≤ l.length
    · rw [Nat.min_eq_left h2]; congr 1; omega
    · rw [Nat.min_eq_right (by omega), List.take_of_length_le (by simp), List.take_of_length_le (by simp; omega)]
  · rw [Nat.min_eq_right (by omega), Nat.min_eq_right (by omega), List.drop_of_length_le (Nat.le_refl _), List.drop_of_length_le (by omega)]
    simp
/-- The number of the first bytes, noughts behind the end. -/
def padL (s : List UInt8) (i : Nat) : Nat := numL ((s ++ List.replicate 8 0).take i)
theorem padL_succ (s : List UInt8) (i : Nat) (h : i < 8) : padL s (i + 1) = padL s i * 256 + ((s[i]?).getD 0).toNat := by
  unfold padL
  have hl : i < (s ++ List.replicate 8 (0 : UInt8)).length := by simp; omega
  rw [List.take_succ_eq_append_getElem hl, numL_snoc]
  congr 2
  by_cases h2 : i < s.length
  · rw [List.getElem_append_left h2, List.getElem?_eq_getElem h2]; rfl
  · rw [List.getElem_append_right (by omega), List.getElem?_eq_none (by omega), List.getElem_replicate]; rfl
theorem padL_lt (s : List UInt8) (i : Nat) : padL s i < 256 ^ i := numL_lt _ i (by simp; omega)
theorem padL_one (s : List UInt8) : padL s 1 = numL (s.take 1) := by
  cases s with
  | nil => rfl
  | cons b s => unfold padL; simp
end Sg

theorem pad_step (x : Nat) (hx : x < 256 ^ 7) (t : ByteArray) (q : Nat) (h : q < t.size) : IntKind.u64.wrap ((x : Int) * 256 + IntKind.u64.wrap ((t[q].toNat : Nat) : Int)) = ((x * 256 + (((Sg.tx t)[q]?).getD 0).toNat : Nat) : Int) := by
  have e : (Sg.tx t)[q]? = some t[q] := by
    unfold Sg.tx
    rw [Array.getElem?_toList, Array.getElem?_eq_getElem (by exact h)]
    rfl
  rw [e, Option.getD_some]
  have hb : t[q].toNat < 256 := t[q].toNat_lt
  generalize t[q].toNat = y at *
  simp [IntKind.wrap, IntKind.bits, IntKind.signed]
  omega
/-- A cursor in memory. -/
def CuAt (w : World) (b : Nat) (t : ByteArray) (p : Nat) : Prop := w.heap[b]? = some (.cells #[.string t, .int .i64 (p : Int)] 62 (0, 0))
theorem CuAt.cells {w : World} {b p : Nat} {t : ByteArray} (h : CuAt w b t p) : w.cell? ⟨b, 0, none⟩ = some (.string t) ∧ w.cell? ⟨b, 1, none⟩ = some (.int .i64 (p : Int)) ∧ w.frozen? ⟨b, 1, none⟩ = false := by
  have h' := h
  unfold CuAt at h
  exact ⟨by rw [cell_of_row w _ 0 _ _ _ h]; rfl, by rw [cell_of_row w _ 1 _ _ _ h]; rfl, by simp [World.frozen?, h]⟩
theorem CuAt.lt {w : World} {b p : Nat} {t : ByteArray} (h : CuAt w b t p) : b < w.heap.size := lt_of_block h
/-- The cursor alone has turned. -/
structure Cud (w w' : World) (b : Nat) (t : ByteArray) (p : Nat) : Prop where
  at_ : CuAt w' b t p
  grown : w.grownBy w' (some b)
theorem Cud.here {w : World} {b p : Nat} {t : ByteArray} (h : CuAt w b t p) : Cud w w b t p := ⟨h, World.grownBy.refl _ _⟩
theorem Cud.trans {a w w' : World} {b p q : Nat} {t : ByteArray} (h : Cud a w b t p) (k : Cud w w' b t q) : Cud a w' b t q := ⟨k.at_, h.grown.trans k.grown⟩
theorem Cud.below {a w w' : World} {b p : Nat} {t : ByteArray} (h : Cud a w b t p) (k : Below w.heap.size w w') : Cud a w' b t p :=
  ⟨(k.block b (lt_of_block h.at_)).trans h.at_, h.grown.trans ⟨k.os, k.tape, k.output, k.size, fun i hi _ => k.block i hi⟩⟩
theorem Cud.drew {a w : World} {b p : Nat} {t : ByteArray} (h : Cud a w b t p) : Cud a w.drew b t p := ⟨h.at_, h.grown.trans ⟨rfl, rfl, rfl, Nat.le_refl _, fun _ _ _ => rfl⟩⟩
theorem Cud.move {a w : World} {b p : Nat} {t : ByteArray} (h : Cud a w b t p) (q : Nat) : Cud a (w.setCell ⟨b, 1, none⟩ (.int .i64 (q : Int))) b t q := by
  refine ⟨heap_setCell_same w b 1 _ _ _ h.at_, h.grown.trans ⟨rfl, rfl, rfl, by simp, fun k _ hk => heap_setCell_other w ⟨b, 1, none⟩ k _ (fun e => hk (by simp [e]))⟩⟩
theorem Cud.kept {w w' : World} {b p q : Nat} {t : ByteArray} (h : CuAt w b t p) (k : Cud w w' b t q) : KeptT 62 w w' := fun i cs ty fz hi ht => by
  refine (k.grown.block i (lt_of_block hi) (fun e => ?_)).trans hi
  simp only [Option.some.injEq] at e
  subst e
  unfold CuAt at h
  rw [hi] at h
  simp only [Option.some.injEq, Obj.cells.injEq] at h
  exact ht h.2.1
theorem Cud.size {a w : World} {b p : Nat} {t : ByteArray} (h : Cud a w b t p) : a.heap.size ≤ w.heap.size := h.grown.size
theorem Cud.block {w w' : World} {b p : Nat} {t : ByteArray} (k : Cud w w' b t p) {i : Nat} (hi : i < w.heap.size) (hne : i ≠ b) : w'.heap[i]? = w.heap[i]? :=
  k.grown.block i hi (fun e => hne (by simpa using e))

set_option maxHeartbeats 1600000 in
/-- cursor.text. -/
theorem cuText_any (t : ByteArray) (p k b : Nat) (w : World) (hC : CuAt w b t p) (ht : t.size ≤ 140737488355328) (hp : p ≤ 140737488355328) (hk : k ≤ 140737488355328) :
    Calls Tryz.prog 19 #[.pointer (some ⟨b, 0, none⟩), .int .i64 (k : Int)] w fun e w' => ∃ y, e = .returned (.string y) ∧ Hid (y = Sg.ofL (((Sg.tx t).drop p).take k)) ∧ y.size ≤ k ∧ Cud w w' b t (p + k) := by
  obtain ⟨c0, c1, f1⟩ := hC.cells
  obtain ⟨q0, hq0⟩ : ∃ q : Nat, q = min p t.size := ⟨_, rfl⟩
  obtain ⟨q1, hq1⟩ : ∃ q : Nat, q = min (p + k) t.size := ⟨_, rfl⟩
  have m0 : min (p : Int) (t.size : Int) = (q0 : Int) := by omega
  have hwr : IntKind.i64.wrap ((p : Int) + (k : Int)) = ((p + k : Nat) : Int) := by rw [IntWalk.i64_in _ (by omega)]; omega
  have m1 : min ((p + k : Nat) : Int) (t.size : Int) = (q1 : Int) := by omega
  have l0 : (q0 : Int) ≤ (q1 : Int) := by omega
  have l1 : (q1 : Int) ≤ (t.size : Int) := by omega
  have HE : Hid (t.extract q0 q1 = Sg.ofL (((Sg.tx t).drop p).take k)) := by show _ = _; rw [hq0, hq1]; exact Sg.extract_mid t p k
  have HC : Hid (CuAt w b t p) := hC
  generalize hpk : p + k = pk at *
  clear hC hq0 hq1
  go_enter Tryz.func19, Tryz.ntmps19
  go_wp2_with fail
  go_region
  go_wp2_with fail
  go_region
  go_wp2_with fail
  go_ret
  refine ⟨_, rfl, HE, ?_, ((Cud.here HC.out).drew.drew).move pk⟩
  show (t.extract q0 q1).size ≤ k
  rw [HE.out, Sg.ofL_size]
  simp
  omega

set_option maxHeartbeats 1600000 in
/-- cursor.number. -/
theorem cuNumber_any (t : ByteArray) (p k b : Nat) (w : World) (hC : CuAt w b t p) (_ht : t.size ≤ 140737488355328) (hp : p ≤ 140737488355328) (hk : k ≤ 8) :
    Calls Tryz.prog 20 #[.pointer (some ⟨b, 0, none⟩), .int .i64 (k : Int)] w fun e w' => e = .returned (.int .i64 (IntKind.i64.wrap (Sg.padL ((Sg.tx t).drop p) k : Int))) ∧ Cud w w' b t (p + k) := by
  have HC : Hid (Cud w w b t p) := Cud.here hC
  obtain ⟨s, hs⟩ : ∃ s, (Sg.tx t).drop p = s := ⟨_, rfl⟩
  have hget : ∀ i, s[i]? = (Sg.tx t)[p + i]? := fun i => by rw [← hs, List.getElem?_drop]
  rw [hs]
  obtain ⟨r, hr⟩ : ∃ r, IntKind.i64.wrap (Sg.padL s k : Int) = r := ⟨_, rfl⟩
  rw [hr]
  clear hs hC
  go_enter Tryz.func20, Tryz.ntmps20
  go_wp2_with fail
  go_loopw [5, 6] (fun o i wr => ∃ j : Nat, j ≤ k ∧ i = .int .i64 (j : Int) ∧ o = .int .u64 (Sg.padL s j : Int) ∧ Hid (Cud w wr b t (p + j))) (fun _ i _ => k - (intOf i).toNat)
  case atStart => exact ⟨0, by omega, rfl, rfl, HC⟩
  case round =>
    obtain ⟨j, hj, rfl, rfl, HR⟩ := hrel
    obtain ⟨wz, ewz⟩ : ∃ z : World, z = wr := ⟨_, rfl⟩
    subst ewz
    obtain ⟨c0, c1, f1⟩ := HR.out.at_.cells
    have hN := Sg.padL_lt s j
    by_cases hlt : j < k
    · have g1 : (j : Int) < (k : Int) := by omega
      have h7 : Sg.padL s j < 256 ^ 7 := Nat.lt_of_lt_of_le hN (Nat.pow_le_pow_right (by decide) (by omega))
      have hS := Sg.padL_succ s j (by omega)
      rw [hget] at hS
      have hmul : IntKind.u64.wrap ((Sg.padL s j : Int) * 256) = ((Sg.padL s j * 256 : Nat) : Int) := by simp [IntKind.wrap, IntKind.bits, IntKind.signed]; omega
      have hw1 : IntKind.i64.wrap (((p + j : Nat) : Int) + 1) = ((p + (j + 1) : Nat) : Int) := by rw [IntWalk.i64_in _ (by omega)]; omega
      obtain ⟨q, hq⟩ : ∃ q, p + j = q := ⟨_, rfl⟩
      obtain ⟨q', hq'⟩ : ∃ q', p + (j + 1) = q' := ⟨_, rfl⟩
      rw [hq] at c1 hS hw1
      rw [hq'] at hw1
      by_cases hin : q < t.size
      · have i1 : (q : Int) < (t.size : Int) := by omega
        have i0 : (0 : Int) ≤ (q : Int) := by omega
        have HQ : Hid (p + (j + 1) = q') := hq'
        have HS : Hid (IntKind.u64.wrap ((Sg.padL s j : Int) * 256 + IntKind.u64.wrap ((t[q].toNat : Nat) : Int)) = ((Sg.padL s (j + 1) : Nat) : Int)) := by show _ = _; rw [pad_step _ h7 t q hin, hS]
        generalize Sg.padL s j = x at *
        clear hS hq hq' hN h7 hget
        go_wp2_with fail
        go_region
        go_wp2_with fail
        go_region
        go_wp2_with fail
        go_roundw
        case rel => exact ⟨j + 1, by omega, by go_num, by rw [← HS.out], by rw [HQ.out]; exact (HR.out.drew.drew).move q'⟩
        case measure => simp [intOf]; omega
      · have i1 : ¬ (q : Int) < (t.size : Int) := by omega
        have e0 : (Sg.tx t)[q]? = none := List.getElem?_eq_none (by rw [Sg.tx_length]; omega)
        rw [e0] at hS
        have HX : Hid (Sg.padL s (j + 1) = Sg.padL s j * 256) := by show _ = _; rw [hS]; rfl
        have HQ : Hid (p + (j + 1) = q') := hq'
        generalize Sg.padL s j = x at *
        clear hS e0 hq hq' hN h7 hget
        go_wp2_with fail
        go_region
        go_wp2_with fail
        go_roundw
        case rel => exact ⟨j + 1, by omega, by go_num, by rw [HX.out]; push_cast; rfl, by rw [HQ.out]; exact (HR.out.drew).move q'⟩
        case measure => simp [intOf]; omega
    · have g1 : ¬ (j : Int) < (k : Int) := by omega
      have hjk : j = k := by omega
      subst hjk
      go_wp2_with fail
      go_ret
      exact ⟨rfl, HR.out⟩
/-- One byte, of a number that is read so. -/
theorem cuOne_any (t : ByteArray) (p b : Nat) (w : World) (hC : CuAt w b t p) (ht : t.size ≤ 140737488355328) (hp : p ≤ 140737488355328) :
    Calls Tryz.prog 20 #[.pointer (some ⟨b, 0, none⟩), .int .i64 1] w fun e w' => ∃ k : Nat, e = .returned (.int .i64 (k : Int)) ∧ Hid (k = Sg.numL (((Sg.tx t).drop p).take 1)) ∧ k < 256 ∧ Cud w w' b t (p + 1) := by
  refine (cuNumber_any t p 1 b w hC ht hp (by omega)).mono ?_
  rintro e w' ⟨rfl, h⟩
  have hl := Sg.one_lt ((Sg.tx t).drop p)
  refine ⟨Sg.numL (((Sg.tx t).drop p).take 1), ?_, rfl, hl, h⟩
  rw [Sg.padL_one, IntWalk.i64_in _ (by omega)]
/-- Eight bytes. -/
theorem cuEight_any (t : ByteArray) (p b : Nat) (w : World) (hC : CuAt w b t p) (ht : t.size ≤ 140737488355328) (hp : p ≤ 140737488355328) :
    Calls Tryz.prog 20 #[.pointer (some ⟨b, 0, none⟩), .int .i64 8] w fun e w' => ∃ k : Int, e = .returned (.int .i64 k) ∧ Hid (k = Sg.rdR.num ((Sg.tx t).drop p)) ∧ Cud w w' b t (p + 8) := by
  refine (cuNumber_any t p 8 b w hC ht hp (by omega)).mono ?_
  rintro e w' ⟨rfl, h⟩
  exact ⟨_, rfl, rfl, h⟩
end Go.Proofs.YtpkkhkkkgjhkeaaGreat

/-
  WHAT STANDS at the heads of signetref.Open's loops.
-/
namespace Go.Proofs.YtpkkhkkkgjhkeaaGreat
open Go.RowKit
set_option maxRecDepth 100000

namespace Sg
/-- Postings so far, read from p0 on, up to p. -/
def QTo (l : List UInt8) (p0 k : Nat) (qs : List Pst) (p : Nat) : Prop := qs = (rdMany (rdPst rdR) k (l.drop p0)).1 ∧ l.drop p = (rdMany (rdPst rdR) k (l.drop p0)).2 ∧ p ≤ p0 + 9 * k
theorem QTo.zero (l : List UInt8) (p : Nat) : QTo l p 0 [] p := ⟨rfl, rfl, by omega⟩
theorem QTo.succ {l : List UInt8} {p0 k p : Nat} {qs : List Pst} (h : QTo l p0 k qs p) {a : Nat} {n : Int} (ha : a = numL ((l.drop p).take 1)) (hn : n = rdR.num (l.drop (p + 1))) : QTo l p0 (k + 1) (qs ++ [⟨(a : Int), n⟩]) (p + 1 + 8) := by
  obtain ⟨h1, h2, h3⟩ := h
  have e1 : (l.drop p).drop 1 = l.drop (p + 1) := by rw [List.drop_drop]
  have e2 : (l.drop (p + 1)).drop 8 = l.drop (p + 1 + 8) := by rw [List.drop_drop]
  refine ⟨?_, ?_, by omega⟩
  · simp only [rdMany]
    rw [← h2, h1]
    unfold rdPst
    rw [e1, ha, hn]
  · simp only [rdMany]
    rw [← h2]
    unfold rdPst
    rw [e1, e2]
/-- Entries so far. -/
def ETo (l : List UInt8) (p0 k : Nat) (es : List Ent) (p : Nat) : Prop := es = (rdMany (rdEnt rdR) k (l.drop p0)).1 ∧ l.drop p = (rdMany (rdEnt rdR) k (l.drop p0)).2 ∧ p ≤ p0 + 400 * k
theorem ETo.zero (l : List UInt8) (p : Nat) : ETo l p 0 [] p := ⟨rfl, rfl, by omega⟩
theorem ETo.succ {l : List UInt8} {p0 k p p4 : Nat} {es : List Ent} (h : ETo l p0 k es p) {n q x : Nat} {mm : ByteArray} {qs : List Pst} (hn : n = numL ((l.drop p).take 1)) (hm : mm = ofL ((l.drop (p + 1)).take n)) (hq : q = numL ((l.drop (p + 1 + n)).take 1)) (hx : x = min q 7) (hQ : QTo l (p + 1 + n + 1) x qs p4) : ETo l p0 (k + 1) (es ++ [⟨mm, qs⟩]) p4 := by
  obtain ⟨h1, h2, h3⟩ := h
  obtain ⟨g1, g2, g3⟩ := hQ
  have hn8 : n < 256 := by rw [hn]; exact one_lt _
  have e1 : (l.drop p).drop 1 = l.drop (p + 1) := by rw [List.drop_drop]
  have e2 : (l.drop (p + 1)).drop n = l.drop (p + 1 + n) := by rw [List.drop_drop]
  have e3 : (l.drop (p + 1 + n)).drop 1 = l.drop (p + 1 + n + 1) := by rw [List.drop_drop]
  have ent : rdEnt rdR (l.drop p) = (⟨mm, qs⟩, l.drop p4) := by
    unfold rdEnt
    simp only [← hn, e1, e2, ← hq, e3]
    show ((⟨_, (rdMany (rdPst rdR) (min q 7) _).1⟩ : Ent), (rdMany (rdPst rdR) (min q 7) _).2) = _
    rw [← hx, ← g1, ← g2, ← hm]
  refine ⟨?_, ?_, by omega⟩
  · simp only [rdMany]
    rw [← h2, h1, ent]
  · simp only [rdMany]
    rw [← h2, ent]
/-- Periods so far. -/
def PTo (l : List UInt8) (n p0 k : Nat) (ps : List (List Ent)) (p : Nat) : Prop := ps = (rdMany (rdPer rdR n) k (l.drop p0)).1 ∧ l.drop p = (rdMany (rdPer rdR n) k (l.drop p0)).2 ∧ p ≤ p0 + 6000 * k
theorem PTo.zero (l : List UInt8) (n p : Nat) : PTo l n p 0 [] p := ⟨rfl, rfl, by omega⟩
theorem PTo.succ {l : List UInt8} {n p0 k p p2 : Nat} {ps : List (List Ent)} (h : PTo l n p0 k ps p) (h9 : n ≤ 9) {q x : Nat} {es : List Ent} (hq : q = numL ((l.drop p).take 1)) (hx : x = min q 13) (hE : ETo l (p + 1) x es p2) : PTo l n p0 (k + 1) (ps ++ [es]) (p2 + 8 * (n + 4)) := by
  obtain ⟨h1, h2, h3⟩ := h
  obtain ⟨g1, g2, g3⟩ := hE
  have e1 : (l.drop p).drop 1 = l.drop (p + 1) := by rw [List.drop_drop]
  have per : rdPer rdR n (l.drop p) = (es, l.drop (p2 + 8 * (n + 4))) := by
    unfold rdPer
    simp only [← hq, e1]
    show ((rdMany (rdEnt rdR) (min q 13) _).1, ((rdMany (rdEnt rdR) (min q 13) _).2).drop _) = _
    rw [← hx, ← g1, ← g2, List.drop_drop]
  refine ⟨?_, ?_, by omega⟩
  · simp only [rdMany]
    rw [← h2, h1, per]
  · simp only [rdMany]
    rw [← h2, per]
/-- Accounts so far. -/
def ATo (l : List UInt8) (k : Nat) (ac : List Acc) (p : Nat) : Prop := ac = (rdMany rdAcc k (l.drop 5)).1 ∧ l.drop p = (rdMany rdAcc k (l.drop 5)).2 ∧ p ≤ 5 + 300 * k
theorem ATo.zero (l : List UInt8) : ATo l 0 [] 5 := ⟨rfl, rfl, by omega⟩
theorem ATo.succ {l : List UInt8} {k p : Nat} {ac : List Acc} (h : ATo l k ac p) {n q : Nat} {mm : ByteArray} (hn : n = numL ((l.drop p).take 1)) (hm : mm = ofL ((l.drop (p + 1)).take n)) (hq : q = numL ((l.drop (p + 1 + n)).take 1)) : ATo l (k + 1) (ac ++ [⟨mm, (q : Int)⟩]) (p + 1 + n + 1) := by
  obtain ⟨h1, h2, h3⟩ := h
  have hn8 : n < 256 := by rw [hn]; exact one_lt _
  have e1 : (l.drop p).drop 1 = l.drop (p + 1) := by rw [List.drop_drop]
  have e2 : (l.drop (p + 1)).drop n = l.drop (p + 1 + n) := by rw [List.drop_drop]
  have e3 : (l.drop (p + 1 + n)).drop 1 = l.drop (p + 1 + n + 1) := by rw [List.drop_drop]
  have acc : rdAcc (l.drop p) = (⟨mm, (q : Int)⟩, l.drop (p + 1 + n + 1)) := by
    unfold rdAcc
    simp only [← hn, e1, e2, e3, ← hq, ← hm]
  refine ⟨?_, ?_, by omega⟩
  · simp only [rdMany]
    rw [← h2, h1, acc]
  · simp only [rdMany]
    rw [← h2, acc]
/-- The history that is read. -/
theorem rdHist_to {l : List UInt8} {n m x y p p' : Nat} {ac : List Acc} {ps : List (List Ent)} (hn : n = numL ((l.drop 4).take 1)) (hx : x = min n 9) (hA : ATo l x ac p) (hm : m = numL ((l.drop p).take 1)) (hy : y = min m 7) (hP : PTo l ac.length (p + 1) y ps p') : rdHist rdR l = ⟨ac, ps⟩ := by
  have e4 : (l.drop 4).drop 1 = l.drop 5 := by rw [List.drop_drop]
  have e1 : (l.drop p).drop 1 = l.drop (p + 1) := by rw [List.drop_drop]
  have eA : rdAccs rdR l = (ac, l.drop p) := by
    unfold rdAccs
    rw [← hn, e4]
    show rdMany rdAcc (min n 9) _ = _
    rw [← hx, hA.1, hA.2.1]
  have eP : (rdPers rdR ac.length (l.drop p)).1 = ps := by
    unfold rdPers
    rw [← hm, e1]
    show (rdMany (rdPer rdR ac.length) (min m 7) _).1 = _
    rw [← hy, ← hP.1]
  unfold rdHist
  rw [eA]
  simp only
  rw [eP]
end Sg

theorem Cud.grownRow {a w w' : World} {b p : Nat} {t : ByteArray} {row : Option Nat} (h : Cud a w b t p) (hb : b < a.heap.size) (hg : w.grownBy w' row) (hr : ∀ k, row = some k → a.heap.size ≤ k) : Cud a w' b t p := by
  have hs := h.grown.size
  refine ⟨(hg.block b (by omega) (fun e => by have := hr b e.symm; omega)).trans h.at_, ?_⟩
  refine ⟨hg.os.trans h.grown.os, hg.tape.trans h.grown.tape, hg.output.trans h.grown.output, Nat.le_trans h.grown.size hg.size, fun k hk hne => ?_⟩
  exact (hg.block k (by omega) (fun e => by have := hr k e.symm; omega)).trans (h.grown.block k hk hne)
theorem Cud.setCell {a w : World} {b g j p : Nat} {t : ByteArray} (h : Cud a w b t p) (hb : b < a.heap.size) (hg : a.heap.size ≤ g) (u : Value) : Cud a (w.setCell ⟨g, j, none⟩ u) b t p :=
  h.grownRow hb (row := some g) ⟨rfl, rfl, rfl, by simp, fun k _ hk => heap_setCell_other w ⟨g, j, none⟩ k u (fun e => hk (by simp [e]))⟩ (fun k hk => by simp at hk; omega)

/-- The outermost loops: the result's box, the cursor, h's box and its lists. -/
structure OpInv (w wr : World) (cb hb : Nat) (t : ByteArray) (p : Nat) (vA vP : Value) (ac : List Sg.Acc) (ps : List (List Sg.Ent)) : Prop where
  bel : Below w.heap.size w wr
  res : wr.heap[w.heap.size]? = some (.cells #[.slice none 0 0, .slice none 0 0, .slice none 0 0, .slice none 0 0] 39 (0, 0))
  cur : CuAt wr cb t p
  box : Two wr hb vA vP 36
  accs : OwnA wr (w.heap.size + 1) vA ac
  pers : OwnPs wr (w.heap.size + 1) vP ps
  ord : w.heap.size < cb ∧ w.heap.size < hb
theorem OpInv.cud {w wr w' : World} {cb hb p q : Nat} {t : ByteArray} {vA vP : Value} {ac : List Sg.Acc} {ps : List (List Sg.Ent)} (m : OpInv w wr cb hb t p vA vP ac ps) (k : Cud wr w' cb t q) : OpInv w w' cb hb t q vA vP ac ps := by
  have hk := Cud.kept m.cur k
  exact ⟨m.bel.grown k.grown m.bel.size (fun j hj => by simp at hj; have := m.ord.1; omega), hk _ _ _ _ m.res (by decide), k.at_, hk _ _ _ _ m.box (by decide), m.accs.keptT hk (by decide), m.pers.keptT hk (by decide) (by decide) (by decide), m.ord⟩
theorem OpInv.below {w wr w' : World} {cb hb p : Nat} {t : ByteArray} {vA vP : Value} {ac : List Sg.Acc} {ps : List (List Sg.Ent)} (m : OpInv w wr cb hb t p vA vP ac ps) (h : Below wr.heap.size wr w') : OpInv w w' cb hb t p vA vP ac ps :=
  ⟨m.bel.trans (h.mono m.bel.size), (h.block _ (lt_of_block m.res)).trans m.res, (h.block _ (lt_of_block m.cur)).trans m.cur, m.box.below h, m.accs.below h, m.pers.below h, m.ord⟩
/-- An account more. -/
theorem OpInv.pushA {w W w5 : World} {cb hb p g cap' : Nat} {t : ByteArray} {vA vP : Value} {ac : List Sg.Acc} {ps : List (List Sg.Ent)} {a : Sg.Acc} (m : OpInv w W cb hb t p vA vP ac ps) (hg : W.grownBy w5 vA.ownBlock)
    (hown : w5.ownsRow (w.heap.size + 1) 66 2 (.slice (some ⟨g, 0, none⟩) (ac.length + 1) cap') (ac.length + 1) (aCells ac ++ [.string a.name, .int .i64 a.line])) :
    Two w5 hb vA vP 36 ∧ OpInv w (w5.setCell ⟨hb, 0, none⟩ (.slice (some ⟨g, 0, none⟩) (ac.length + 1) cap')) cb hb t p (.slice (some ⟨g, 0, none⟩) (ac.length + 1) cap') vP (ac ++ [a]) ps := by
  have hk := keptT_append m.accs hg
  have box5 : Two w5 hb vA vP 36 := hk _ _ _ _ m.box (by decide)
  have hk6 : KeptT 36 w5 (w5.setCell ⟨hb, 0, none⟩ (.slice (some ⟨g, 0, none⟩) (ac.length + 1) cap')) := keptT_setCell box5
  have hkk := hk
  refine ⟨box5, ⟨?_, ?_, ?_, ?_, ?_, ?_, m.ord⟩⟩
  · exact (m.bel.grown hg m.bel.size (fun q hq => by have := (World.ownsRow.lt m.accs q hq).1; omega)).setCell (by show _ ≤ hb; have := m.ord.2; omega) _
  · exact hk6 _ _ _ _ (hk _ _ _ _ m.res (by decide)) (by decide)
  · exact hk6 _ _ _ _ (hk _ _ _ _ m.cur (by decide)) (by decide)
  · have := heap_setCell_same w5 hb 0 _ _ (.slice (some ⟨g, 0, none⟩) (ac.length + 1) cap') box5
    exact this
  · refine ownsRow_keptT (e := 66) ?_ hk6 (by decide)
    rw [aCells_snoc, List.length_append]
    exact hown
  · exact (m.pers.keptT hk (by decide) (by decide) (by decide)).keptT hk6 (by decide) (by decide) (by decide)
/-- A period more. -/
theorem OpInv.pushP {w W w5 : World} {cb hb p g cap' : Nat} {t : ByteArray} {vA vP u : Value} {ac : List Sg.Acc} {ps : List (List Sg.Ent)} {es : List Sg.Ent} {us : List Value} (m : OpInv w W cb hb t p vA vP ac ps) (hlen : us.length = ps.length) (hrow : W.ownsRow (w.heap.size + 1) 24 1 vP ps.length us) (hes : ∀ i (h : i < ps.length) (h2 : i < us.length), OwnE W (w.heap.size + 1) us[i] ps[i]) (hu : OwnE W (w.heap.size + 1) u es)
    (hg : W.grownBy w5 vP.ownBlock) (hown : w5.ownsRow (w.heap.size + 1) 24 1 (.slice (some ⟨g, 0, none⟩) (ps.length + 1) cap') (ps.length + 1) (us ++ [u])) :
    Two w5 hb vA vP 36 ∧ OpInv w (w5.setCell ⟨hb, 1, none⟩ (.slice (some ⟨g, 0, none⟩) (ps.length + 1) cap')) cb hb t p vA (.slice (some ⟨g, 0, none⟩) (ps.length + 1) cap') ac (ps ++ [es]) := by
  have hk := keptT_append hrow hg
  have box5 : Two w5 hb vA vP 36 := hk _ _ _ _ m.box (by decide)
  have hk6 : KeptT 36 w5 (w5.setCell ⟨hb, 1, none⟩ (.slice (some ⟨g, 0, none⟩) (ps.length + 1) cap')) := keptT_setCell box5
  have hp := OwnPs.push hlen hrow hes hu hg hown
  refine ⟨box5, ⟨?_, ?_, ?_, ?_, ?_, ?_, m.ord⟩⟩
  · exact (m.bel.grown hg m.bel.size (fun q hq => by have := (World.ownsRow.lt hrow q hq).1; omega)).setCell (by show _ ≤ hb; have := m.ord.2; omega) _
  · exact hk6 _ _ _ _ (hk _ _ _ _ m.res (by decide)) (by decide)
  · exact hk6 _ _ _ _ (hk _ _ _ _ m.cur (by decide)) (by decide)
  · have := heap_setCell_same w5 hb 1 _ _ (.slice (some ⟨g, 0, none⟩) (ps.length + 1) cap') box5
    exact this
  · exact (m.accs.keptT hk (by decide)).keptT hk6 (by decide)
  · exact hp.keptT hk6 (by decide) (by decide) (by decide)

/-- The loop over a period's entries: p's box, its entries. -/
structure OeInv (wz wr : World) (cb : Nat) (t : ByteArray) (p : Nat) (vE : Value) (es : List Sg.Ent) : Prop where
  cud : Cud wz wr cb t p
  box : wr.heap[wz.heap.size]? = some (.cells #[vE] 24 (0, 0))
  ents : OwnE wr (wz.heap.size + 1) vE es
theorem OeInv.start {wz : World} {cb p : Nat} {t : ByteArray} (h : CuAt wz cb t p) : OeInv wz (wz.alloc (.cells #[.slice none 0 0] 24)) cb t p (.slice none 0 0) [] :=
  ⟨(Cud.here h).below ((Below.refl _ _).alloc (Nat.le_refl _) _), heap_alloc_new wz _, OwnE.nil _ _⟩
theorem OeInv.step {wz wr w' : World} {cb p q : Nat} {t : ByteArray} {vE : Value} {es : List Sg.Ent} (m : OeInv wz wr cb t p vE es) (k : Cud wr w' cb t q) : OeInv wz w' cb t q vE es := by
  have hk := Cud.kept m.cud.at_ k
  exact ⟨m.cud.trans k, hk _ _ _ _ m.box (by decide), m.ents.keptT hk (by decide) (by decide)⟩
theorem OeInv.below {wz wr w' : World} {cb p : Nat} {t : ByteArray} {vE : Value} {es : List Sg.Ent} (m : OeInv wz wr cb t p vE es) (h : Below wr.heap.size wr w') : OeInv wz w' cb t p vE es :=
  ⟨m.cud.below h, (h.block _ (lt_of_block m.box)).trans m.box, m.ents.below h⟩
theorem OeInv.push {wz W w5 : World} {cb p g cap' : Nat} {t : ByteArray} {vE pv : Value} {es : List Sg.Ent} {e : Sg.Ent} {us : List Value} (m : OeInv wz W cb t p vE es) (hcb : cb < wz.heap.size) (hlen : us.length = es.length) (hrow : W.ownsRow (wz.heap.size + 1) 55 2 vE es.length (eCells es us)) (hps : ∀ i (h : i < es.length) (h2 : i < us.length), OwnP W (wz.heap.size + 1) us[i] es[i].posts) (hu : OwnP W (wz.heap.size + 1) pv e.posts)
    (hg : W.grownBy w5 vE.ownBlock) (hown : w5.ownsRow (wz.heap.size + 1) 55 2 (.slice (some ⟨g, 0, none⟩) (es.length + 1) cap') (es.length + 1) (eCells es us ++ [.string e.memo, pv])) :
    w5.heap[wz.heap.size]? = some (.cells #[vE] 24 (0, 0)) ∧ OeInv wz (w5.setCell ⟨wz.heap.size, 0, none⟩ (.slice (some ⟨g, 0, none⟩) (es.length + 1) cap')) cb t p (.slice (some ⟨g, 0, none⟩) (es.length + 1) cap') (es ++ [e]) := by
  have hk := keptT_append hrow hg
  have box5 := hk _ _ _ _ m.box (by decide)
  have hk6 : KeptT 24 w5 (w5.setCell ⟨wz.heap.size, 0, none⟩ (.slice (some ⟨g, 0, none⟩) (es.length + 1) cap')) := keptT_setCell box5
  refine ⟨box5, ⟨?_, ?_, ?_⟩⟩
  · exact (m.cud.grownRow hcb hg (fun q hq => by have := (World.ownsRow.lt hrow q hq).1; omega)).setCell hcb (Nat.le_refl _) _
  · have := heap_setCell_same w5 wz.heap.size 0 _ _ (.slice (some ⟨g, 0, none⟩) (es.length + 1) cap') box5
    exact this
  · exact (OwnE.push hlen hrow hps hu hg hown).keptT hk6 (by decide) (by decide)

/-- The loop over an entry's postings: e's box, its postings. -/
structure OqInv (wy wr : World) (cb : Nat) (t : ByteArray) (p : Nat) (mm : ByteArray) (vQ : Value) (qs : List Sg.Pst) : Prop where
  cud : Cud wy wr cb t p
  box : Two wr wy.heap.size (.string mm) vQ 55
  posts : OwnP wr (wy.heap.size + 1) vQ qs
theorem OqInv.start {wy : World} {cb p : Nat} {t : ByteArray} (h : CuAt wy cb t p) : OqInv wy (wy.alloc (.cells #[.string { data := #[] }, .slice none 0 0] 55)) cb t p { data := #[] } (.slice none 0 0) [] :=
  ⟨(Cud.here h).below ((Below.refl _ _).alloc (Nat.le_refl _) _), Two.new _ _ _ _, World.ownsRow_nil _ _ _ _⟩
theorem OqInv.step {wy wr w' : World} {cb p q : Nat} {t mm : ByteArray} {vQ : Value} {qs : List Sg.Pst} (m : OqInv wy wr cb t p mm vQ qs) (k : Cud wr w' cb t q) : OqInv wy w' cb t q mm vQ qs := by
  have hk := Cud.kept m.cud.at_ k
  exact ⟨m.cud.trans k, hk _ _ _ _ m.box (by decide), ownsRow_keptT m.posts hk (by decide)⟩
theorem OqInv.below {wy wr w' : World} {cb p : Nat} {t mm : ByteArray} {vQ : Value} {qs : List Sg.Pst} (m : OqInv wy wr cb t p mm vQ qs) (h : Below wr.heap.size wr w') : OqInv wy w' cb t p mm vQ qs :=
  ⟨m.cud.below h, m.box.below h, ownsRow_below m.posts h⟩
theorem OqInv.memo {wy wr : World} {cb p : Nat} {t mm : ByteArray} {vQ : Value} {qs : List Sg.Pst} (m : OqInv wy wr cb t p mm vQ qs) (hcb : cb < wy.heap.size) (y : ByteArray) : OqInv wy (wr.setCell ⟨wy.heap.size, 0, none⟩ (.string y)) cb t p y vQ qs := by
  refine ⟨m.cud.setCell hcb (Nat.le_refl _) _, ?_, ownsRow_keptT (t := 55) m.posts (keptT_setCell m.box) (by decide)⟩
  have := heap_setCell_same wr wy.heap.size 0 _ _ (.string y) m.box
  exact this
theorem OqInv.push {wy W w5 : World} {cb p g cap' : Nat} {t mm : ByteArray} {vQ : Value} {qs : List Sg.Pst} {q : Sg.Pst} (m : OqInv wy W cb t p mm vQ qs) (hcb : cb < wy.heap.size)
    (hg : W.grownBy w5 vQ.ownBlock) (hown : w5.ownsRow (wy.heap.size + 1) 57 2 (.slice (some ⟨g, 0, none⟩) (qs.length + 1) cap') (qs.length + 1) (pCells qs ++ [.int .i64 q.acct, .int .i64 q.amt])) :
    Two w5 wy.heap.size (.string mm) vQ 55 ∧ OqInv wy (w5.setCell ⟨wy.heap.size, 1, none⟩ (.slice (some ⟨g, 0, none⟩) (qs.length + 1) cap')) cb t p mm (.slice (some ⟨g, 0, none⟩) (qs.length + 1) cap') (qs ++ [q]) := by
  have hk := keptT_append m.posts hg
  have box5 : Two w5 wy.heap.size (.string mm) vQ 55 := hk _ _ _ _ m.box (by decide)
  refine ⟨box5, ⟨?_, ?_, ?_⟩⟩
  · exact (m.cud.grownRow hcb hg (fun j hj => by have := (World.ownsRow.lt m.posts j hj).1; omega)).setCell hcb (Nat.le_refl _) _
  · have := heap_setCell_same w5 wy.heap.size 1 _ _ (.slice (some ⟨g, 0, none⟩) (qs.length + 1) cap') box5
    exact this
  · refine ownsRow_keptT (e := 57) (t := 55) ?_ (keptT_setCell box5) (by decide)
    rw [pCells_append, List.length_append]
    exact hown
end Go.Proofs.YtpkkhkkkgjhkeaaGreat

/-
  WHAT signetref.Open's END LEANS ON: closed books outlive the stores into the result's box; the history that was read fits.
-/
namespace Go.Proofs.YtpkkhkkkgjhkeaaGreat
open Go.RowKit
set_option maxRecDepth 100000

/-- A block of nils. -/
def NilBox (w : World) (g : Nat) : Prop := ∃ cs t, w.heap[g]? = some (.cells cs t (0, 0)) ∧ ∀ (i : Nat) (v : Value), cs[i]? = some v → v = .slice none 0 0
theorem NilBox.ne {w : World} {g b o : Nat} {v : Value} (h : NilBox w g) (hc : w.cell? ⟨b, o, none⟩ = some v) (hv : v ≠ .slice none 0 0) : b ≠ g := by
  intro e
  subst e
  obtain ⟨cs, t, hh, hall⟩ := h
  rw [cell_of_row w _ o _ _ _ hh] at hc
  exact hv (hall o v hc)
/-- One block has turned, no other. -/
structure OffBy (g : Nat) (w w' : World) : Prop where
  size : w'.heap.size = w.heap.size
  block : ∀ i, i ≠ g → w'.heap[i]? = w.heap[i]?
theorem OffBy.refl (g : Nat) (w : World) : OffBy g w w := ⟨rfl, fun _ _ => rfl⟩
theorem OffBy.set {g j : Nat} {w w' : World} (h : OffBy g w w') (u : Value) : OffBy g w (w'.setCell ⟨g, j, none⟩ u) :=
  ⟨by simpa using h.size, fun i hi => (heap_setCell_other w' ⟨g, j, none⟩ i u hi).trans (h.block i hi)⟩
theorem OffBy.cell {g : Nat} {w w' : World} (h : OffBy g w w') {p : Addr} (hne : p.block ≠ g) : w'.cell? p = w.cell? p := World.cell?_of_block (h.block p.block hne)
theorem AccsIn.offBy {w w' : World} {g : Nat} {ao : Option Addr} {ac : List Sg.Acc} (h : AccsIn w ao ac) (hB : NilBox w g) (ho : OffBy g w w') : AccsIn w' ao ac := by
  rcases h with h0 | ⟨b, off, e, hb, hat⟩
  · exact Or.inl h0
  · by_cases h0 : ac.length = 0
    · exact Or.inl h0
    · have hne := hB.ne (hat 0 (by omega)).1 (by simp)
      refine Or.inr ⟨b, off, e, by rw [ho.size]; exact hb, fun i hi => ?_⟩
      rw [ho.cell (by exact hne), ho.cell (by exact hne)]
      exact hat i hi
theorem IntsIn.offBy {w w' : World} {g : Nat} {ao : Option Addr} {l : List Int} (h : IntsIn w ao l) (hB : NilBox w g) (ho : OffBy g w w') : IntsIn w' ao l := by
  rcases h with h0 | ⟨b, off, e, hb, hat⟩
  · exact Or.inl h0
  · by_cases h0 : l.length = 0
    · exact Or.inl h0
    · have hne := hB.ne (hat 0 (by omega)) (by simp)
      refine Or.inr ⟨b, off, e, by rw [ho.size]; exact hb, fun i hi => ?_⟩
      rw [ho.cell (by exact hne)]
      exact hat i hi
theorem IntssIn.offBy {w w' : World} {g : Nat} {ao : Option Addr} {ll : List (List Int)} (h : IntssIn w ao ll) (hpos : ∀ l ∈ ll, 1 ≤ l.length) (hB : NilBox w g) (ho : OffBy g w w') : IntssIn w' ao ll := by
  rcases h with h0 | ⟨b, off, e, hb, hat⟩
  · exact Or.inl h0
  · by_cases h0 : ll.length = 0
    · exact Or.inl h0
    · obtain ⟨ao0, cap0, hc0, _⟩ := hat 0 (by omega)
      have hne := hB.ne hc0 (by
        have := hpos _ (List.getElem_mem (l := ll) (n := 0) (by omega))
        intro e
        simp only [Value.slice.injEq] at e
        omega)
      refine Or.inr ⟨b, off, e, by rw [ho.size]; exact hb, fun i hi => ?_⟩
      obtain ⟨ao', cap', hc, hi'⟩ := hat i hi
      rw [ho.cell (by exact hne)]
      exact ⟨ao', cap', hc, hi'.offBy hB ho⟩
theorem BksAt.offBy {w w' : World} {g : Nat} {aoA aoP aoB aoT : Option Addr} {nA nP : Nat} {h : Sg.Hist} {bal tot : List (List Int)} (b : BksAt w aoA aoP aoB aoT nA nP h bal tot) (h1 : 1 ≤ nA) (hB : NilBox w g) (ho : OffBy g w w') (hP : PersIn w' aoP h.pers) : BksAt w' aoA aoP aoB aoT nA nP h bal tot :=
  ⟨b.accs.offBy hB ho, hP, b.bals.offBy (fun l hl => by rw [(b.balFine l hl).1]; exact h1) hB ho, b.tots.offBy (fun l hl => by rw [(b.totFine l hl).1]; omega) hB ho, b.lenA, b.lenP, b.lenB, b.lenT, b.few, b.accFine, b.allFine, b.balFine, b.totFine⟩

namespace Sg
theorem rdAcc_smallR (s : List UInt8) : (rdAcc s).1.name.size ≤ 255 ∧ fits (rdAcc s).1.line = true := by
  unfold rdAcc
  refine ⟨?_, fits_nat (one_lt _)⟩
  show (ofL _).size ≤ 255
  rw [ofL_size]
  have := one_lt s
  simp
  omega
theorem rdEnt_smallR (s : List UInt8) : (rdEnt rdR s).1.memo.size ≤ 255 ∧ (rdEnt rdR s).1.posts.length ≤ 255 := by
  unfold rdEnt
  refine ⟨?_, ?_⟩
  · show (ofL _).size ≤ 255
    rw [ofL_size]
    have := one_lt s
    simp
    omega
  · show (rdMany _ _ _).1.length ≤ 255
    rw [rdMany_len]
    exact Nat.le_trans (Nat.min_le_right _ _) (by decide)
theorem rdPer_smallR (n : Nat) (s : List UInt8) : (rdPer rdR n s).1.length ≤ 255 ∧ ∀ e ∈ (rdPer rdR n s).1, e.memo.size ≤ 255 ∧ e.posts.length ≤ 255 := by
  unfold rdPer
  refine ⟨?_, ?_⟩
  · show (rdMany _ _ _).1.length ≤ 255
    rw [rdMany_len]
    exact Nat.le_trans (Nat.min_le_right _ _) (by decide)
  · exact rdMany_all (rdEnt rdR) (fun e => e.memo.size ≤ 255 ∧ e.posts.length ≤ 255) rdEnt_smallR _ _
end Sg
/-- A history that was read, as Close asks for it. -/
theorem rdHistR_in {W : World} {B : Nat} {vA vP : Value} {s : List UInt8} {h : Sg.Hist} (hh : Sg.rdHist Sg.rdR s = h) (hA : OwnA W B vA h.accs) (hP : OwnPs W B vP h.pers) :
    ∃ aoA capA aoP capP, vA = .slice aoA h.accs.length capA ∧ vP = .slice aoP h.pers.length capP ∧ HistIn W aoA aoP h.accs.length h.pers.length h := by
  obtain ⟨aoA, capA, e1, _, _, iA⟩ := hA.in_
  obtain ⟨aoP, capP, e2, _, iP⟩ := hP.in_
  subst hh
  have kA : ∀ a ∈ (Sg.rdHist Sg.rdR s).accs, a.name.size ≤ 255 ∧ Sg.fits a.line = true := Sg.rdMany_all Sg.rdAcc (fun a => a.name.size ≤ 255 ∧ Sg.fits a.line = true) Sg.rdAcc_smallR _ _
  have kP : ∀ p ∈ (Sg.rdHist Sg.rdR s).pers, p.length ≤ 255 ∧ ∀ e ∈ p, e.memo.size ≤ 255 ∧ e.posts.length ≤ 255 := Sg.rdMany_all (Sg.rdPer Sg.rdR _) (fun p => p.length ≤ 255 ∧ ∀ e ∈ p, e.memo.size ≤ 255 ∧ e.posts.length ≤ 255) (Sg.rdPer_smallR _) _ _
  refine ⟨aoA, capA, aoP, capP, e1, e2, iA, iP, rfl, rfl, fun a ha => ⟨by have := (kA a ha).1; omega, (kA a ha).2⟩, fun p hp => ⟨by have := (kP p hp).1; omega, fun e he => ?_⟩, Sg.rdHist_fits (fun s => Sg.fits_wrap _) s⟩
  have := (kP p hp).2 e he
  omega
theorem nilBox_four {w : World} {g : Nat} {t : TypeId} (h : w.heap[g]? = some (.cells #[.slice none 0 0, .slice none 0 0, .slice none 0 0, .slice none 0 0] t (0, 0))) : NilBox w g := by
  refine ⟨_, _, h, fun i v hv => ?_⟩
  match i, hv with
  | 0, hv => simp at hv; exact hv.symm
  | 1, hv => simp at hv; exact hv.symm
  | 2, hv => simp at hv; exact hv.symm
  | 3, hv => simp at hv; exact hv.symm
  | i + 4, hv => simp at hv
theorem four_cells {w : World} {g : Nat} {t : TypeId} {x0 x1 x2 x3 : Value} (h : w.heap[g]? = some (.cells #[x0, x1, x2, x3] t (0, 0))) : (w.cell? ⟨g, 0, none⟩ = some x0 ∧ w.cell? ⟨g, 1, none⟩ = some x1 ∧ w.cell? ⟨g, 2, none⟩ = some x2 ∧ w.cell? ⟨g, 3, none⟩ = some x3) ∧ w.frozen? ⟨g, 0, none⟩ = false ∧ w.frozen? ⟨g, 1, none⟩ = false ∧ w.frozen? ⟨g, 2, none⟩ = false ∧ w.frozen? ⟨g, 3, none⟩ = false := by
  refine ⟨⟨?_, ?_, ?_, ?_⟩, ?_, ?_, ?_, ?_⟩
  · rw [cell_of_row w _ 0 _ _ _ h]; rfl
  · rw [cell_of_row w _ 1 _ _ _ h]; rfl
  · rw [cell_of_row w _ 2 _ _ _ h]; rfl
  · rw [cell_of_row w _ 3 _ _ _ h]; rfl
  all_goals simp [World.frozen?, h]
end Go.Proofs.YtpkkhkkkgjhkeaaGreat

/-
  THE WALK of signetref.Open.
-/
namespace Go.Proofs.YtpkkhkkkgjhkeaaGreat
open Go.RowKit
set_option maxRecDepth 100000
attribute [local go_sem ↓] Go.wp_at_zero Go.wp_at_succ

set_option maxHeartbeats 6400000 in
theorem open_any (t : ByteArray) (w : World) (ht : t.size ≤ 140737488355328) :
    Calls Tryz.prog 8 #[.string t] w fun e w' => Below w.heap.size w w' ∧
      ((¬ Sg.isPk (Sg.rdHist Sg.rdR (Sg.tx t)) t ∧ e = .returned (.tuple #[.agg #[nilV, nilV, nilV, nilV], .int .i64 5])) ∨
       (Sg.isPk (Sg.rdHist Sg.rdR (Sg.tx t)) t ∧ ∃ aoA aoP aoB aoT nA nP capA capP capB capT, e = .returned (.tuple #[.agg #[.slice aoA nA capA, .slice aoP nP capP, .slice aoB nP capB, .slice aoT nP capT], .int .i64 0]) ∧ 1 ≤ nP ∧ BksAt w' aoA aoP aoB aoT nA nP (Sg.rdHist Sg.rdR (Sg.tx t)) (Sg.balances (Sg.rdHist Sg.rdR (Sg.tx t))) (Sg.totals (Sg.rdHist Sg.rdR (Sg.tx t))) ∧ OwnA w' w.heap.size (.slice aoA nA capA) (Sg.rdHist Sg.rdR (Sg.tx t)).accs ∧ OwnPs w' w.heap.size (.slice aoP nP capP) (Sg.rdHist Sg.rdR (Sg.tx t)).pers)) := by
  obtain ⟨p0, pi, pz0, pz1, pz2⟩ := info_parts Tryz.infoPer1
  obtain ⟨q0, qi, qz0, qz1, qz2⟩ := info_parts Tryz.infoEnt2
  obtain ⟨a0, ai, az0, az1, az2⟩ := info_parts Tryz.infoAcc2
  obtain ⟨s0, si, sz0, sz1, sz2⟩ := info_parts Tryz.infoPst2
  obtain ⟨h, hh⟩ : ∃ h, Sg.rdHist Sg.rdR (Sg.tx t) = h := ⟨_, rfl⟩
  rw [hh]
  obtain ⟨l, hl⟩ : ∃ l, Sg.tx t = l := ⟨_, rfl⟩
  rw [hl] at hh
  have HHH : Hid (Sg.rdHist Sg.rdR l = h) := hh
  have HL : Hid (Sg.tx t = l) := hl
  clear hh hl
  have hC0 : CuAt ((w.alloc (.cells #[nilV, nilV, nilV, nilV] 39)).alloc (.cells #[.string t, .int .i64 0] 62)) (w.heap.size + 1) t 0 := by
    have := heap_alloc_new (w.alloc (.cells #[nilV, nilV, nilV, nilV] 39)) (.cells #[.string t, .int .i64 0] 62)
    simpa [CuAt] using this
  have hB0 : Below w.heap.size w ((w.alloc (.cells #[nilV, nilV, nilV, nilV] 39)).alloc (.cells #[.string t, .int .i64 0] 62)) := ((Below.refl _ _).alloc (Nat.le_refl _) _).alloc (by simp) _
  have hR0 : ((w.alloc (.cells #[nilV, nilV, nilV, nilV] 39)).alloc (.cells #[.string t, .int .i64 0] 62)).heap[w.heap.size]? = some (.cells #[nilV, nilV, nilV, nilV] 39 (0, 0)) := by
    rw [Below.heap_alloc _ _ _ (by simp)]; exact heap_alloc_new w _
  go_enter Tryz.func8, Tryz.ntmps8
  go_wp2_with fail
  generalize (w.alloc (.cells #[nilV, nilV, nilV, nilV] 39)).alloc (.cells #[.string t, .int .i64 0] 62) = W0 at *
  refine (cuText_any t 0 4 (w.heap.size + 1) _ hC0 ht (by omega) (by omega)).mono ?_
  rintro e w1 ⟨y, rfl, _, _, hc1⟩
  have hz : w.heap.size < w1.heap.size := by have := lt_of_block hR0; have := hc1.size; omega
  have HI0 : Hid (OpInv w (w1.alloc (.cells #[nilV, nilV] 36)) (w.heap.size + 1) w1.heap.size t 4 nilV nilV [] []) := by
    have aB : Below w1.heap.size w1 (w1.alloc (.cells #[nilV, nilV] 36)) := (Below.refl _ _).alloc (Nat.le_refl _) _
    have hk := Cud.kept hC0 hc1
    have b1 : Below w.heap.size w w1 := hB0.grown hc1.grown hB0.size (fun k hk => by simp at hk; omega)
    exact ⟨b1.trans (aB.mono b1.size), (aB.block _ hz).trans (hk _ _ _ _ hR0 (by decide)), (aB.block _ hc1.at_.lt).trans hc1.at_, Two.new _ _ _ _, World.ownsRow_nil _ _ _ _, OwnPs.nil _ _, by omega, hz⟩
  clear hC0 hB0 hR0 hc1
  go_wp2_with fail
  refine (cuOne_any t 4 (w.heap.size + 1) _ HI0.out.cur ht (by omega)).mono ?_
  rintro e w2 ⟨n, rfl, hn, hn8, hc2⟩
  rw [HL.out] at hn
  obtain ⟨N, hN⟩ : ∃ N, N = min n 9 := ⟨_, rfl⟩
  have HI2 : Hid (OpInv w w2 (w.heap.size + 1) w1.heap.size t 5 nilV nilV [] []) := HI0.out.cud hc2
  have HA0 : Hid (Sg.ATo l 0 [] 5) := Sg.ATo.zero l
  clear HI0 hc2
  go_wp2_with fail
  go_loopw [7] (fun i wr => ∃ k : Nat, k ≤ N ∧ i = .int .i64 (k : Int) ∧ ∃ p vA ac, Hid (OpInv w wr (w.heap.size + 1) w1.heap.size t p vA nilV ac []) ∧ Hid (Sg.ATo l k ac p)) (fun i _ => N - (intOf i).toNat)
  case atStart => exact ⟨0, by omega, rfl, _, _, _, HI2, HA0⟩
  case round =>
    obtain ⟨k, hk, rfl, p, vA, ac, HI, HA⟩ := hrel
    obtain ⟨wz, ewz⟩ : ∃ z : World, z = wr := ⟨_, rfl⟩
    subst ewz
    clear HI2 HA0
    have hlen : ac.length = k := by rw [HA.out.1]; exact Sg.rdMany_len _ _ k
    obtain ⟨aoA, capA, hvA, _, _, _⟩ := HI.out.accs.in_
    rw [hlen] at hvA
    subst hvA
    have HLEN : Hid (ac.length = k) := hlen
    have hp := HA.out.2.2
    clear hlen
    go_upto_region 6 with fail
    go_cut [37] from 31 to 54 (fun c wx => c = .bool (decide (k < N)) ∧ wx = wz)
    case first =>
      by_cases h1 : (k : Int) < (n : Int)
      · by_cases h2 : (k : Int) < 9
        · have hd : decide (k < N) = true := by simp; omega
          go_wp2_with fail
          go_meet
          exact ⟨by simp [hd], rfl⟩
        · have hd : decide (k < N) = false := by simp; omega
          go_wp2_with fail
          go_meet
          exact ⟨by simp [hd], rfl⟩
      · have hd : decide (k < N) = false := by simp; omega
        go_wp2_with fail
        go_meet
        exact ⟨by simp [hd], rfl⟩
    case rest =>
      obtain ⟨ec, ew⟩ := hcut
      subst ec
      have ew2 := ew.symm
      subst ew2
      clear ew
      by_cases hgo : k < N
      · have hd : decide (k < N) = true := by simp [hgo]
        rw [hd]
        go_wp2_with fail
        refine (cuOne_any t p (w.heap.size + 1) _ HI.out.cur ht (by omega)).mono ?_
        rintro e v1 ⟨kk, rfl, hkk, hkk8, hc1⟩
        rw [HL.out] at hkk
        go_wp2_with fail
        refine (cuText_any t (p + 1) kk (w.heap.size + 1) _ hc1.at_ ht (by omega) (by omega)).mono ?_
        rintro e v2 ⟨mm, rfl, hmm, _, hc2⟩
        rw [HL.out] at hmm
        go_wp2_with fail
        refine (cuOne_any t (p + 1 + kk) (w.heap.size + 1) _ hc2.at_ ht (by omega)).mono ?_
        rintro e v3 ⟨q, rfl, hq, _, hc3⟩
        rw [HL.out] at hq
        have HI3 : Hid (OpInv w v3 (w.heap.size + 1) w1.heap.size t (p + 1 + kk + 1) (.slice aoA k capA) nilV ac []) := HI.out.cud ((hc1.trans hc2).trans hc3)
        have HA3 : Hid (Sg.ATo l (k + 1) (ac ++ [⟨mm, (q : Int)⟩]) (p + 1 + kk + 1)) := HA.out.succ hkk.out hmm.out hq.out
        clear hc1 hc2 hc3 HI HA hkk hmm hq hd
        obtain ⟨bx0, bx1⟩ := HI3.out.box.cells
        have hsz3 : w.heap.size < v3.heap.size := lt_of_block HI3.out.res
        have hown : v3.ownsRow (w.heap.size + 1) 66 2 (.slice aoA k capA) k (aCells ac) := by have := HI3.out.accs; unfold OwnA at this; rw [HLEN.out] at this; exact this
        go_wp2_with (at_builtin; (refine wpList_append_lies _ rfl _ _ 33 rfl (w.heap.size + 1) 66 a0 _ 2 24 Tryz.underlying33 ai az0 az1 az2 rfl (by decide) (.slice aoA k capA) k (aCells ac) rfl (hown.alloc _) ⟨v3.heap.size, 0, none⟩ 1 1 [.string mm, .int .i64 (q : Int)] rfl rfl (World.news_of_block (cs := #[.string mm, .int .i64 (q : Int)]) (t := 66) (fr := (0, 0)) (heap_alloc_new v3 _)) (by intro u hu; simp at hu; rcases hu with rfl | rfl <;> rfl) (by omega) (by unfold maxLen; omega) (by omega) (by simp; omega) (v3.heap.size + 1) (by simp) ?_))
        intro g cap' w5 hown5 hgrow _ hlt5
        have aY : Below v3.heap.size v3 (v3.alloc (.cells #[.string mm, .int .i64 (q : Int)] 66)) := (Below.refl _ _).alloc (Nat.le_refl _) _
        obtain ⟨box5, M6⟩ := (HI3.out.below aY).pushA (g := g) (cap' := cap') (a := ⟨mm, (q : Int)⟩) hgrow (by rw [HLEN.out]; exact hown5)
        rw [HLEN.out] at M6
        obtain ⟨by0, by1⟩ := box5.cells
        have bf0 : w5.frozen? ⟨w1.heap.size, 0, none⟩ = false := by have := box5; unfold Two at this; simp [World.frozen?, this]
        have HM6 : Hid (OpInv w (w5.setCell ⟨w1.heap.size, 0, none⟩ (.slice (some ⟨g, 0, none⟩) (k + 1) cap')) (w.heap.size + 1) w1.heap.size t (p + 1 + kk + 1) (.slice (some ⟨g, 0, none⟩) (k + 1) cap') nilV (ac ++ [⟨mm, (q : Int)⟩]) []) := M6
        clear M6 hgrow hown5 aY box5 hown bx0 bx1
        go_wp2_with fail
        go_roundw
        case rel => exact ⟨k + 1, by omega, by go_num, _, _, _, HM6, HA3⟩
        case measure => simp [intOf]; omega
      · have hd : decide (k < N) = false := by simp [hgo]
        rw [hd]
        have hkN : k = N := by omega
        have hk9 : k ≤ 9 := by omega
        have HKN : Hid (k = min n 9) := by show _ = _; rw [hkN, hN]
        go_wp2_with fail
        refine (cuOne_any t p (w.heap.size + 1) _ HI.out.cur ht (by omega)).mono ?_
        rintro e w3 ⟨m, rfl, hm, hm8, hc3⟩
        rw [HL.out] at hm
        have HI3 : Hid (OpInv w w3 (w.heap.size + 1) w1.heap.size t (p + 1) (.slice aoA k capA) nilV ac []) := HI.out.cud hc3
        have HP0 : Hid (Sg.PTo l k (p + 1) 0 [] (p + 1)) := Sg.PTo.zero l k (p + 1)
        obtain ⟨M, hM⟩ : ∃ M, M = min m 7 := ⟨_, rfl⟩
        have hp9 : p ≤ 3000 := by omega
        clear HI hc3 hd hgo hkN hN hk hp
        go_wp2_with fail
        go_loopw [12] (fun i wr => ∃ r : Nat, r ≤ M ∧ i = .int .i64 (r : Int) ∧ ∃ p2 vP ps, Hid (OpInv w wr (w.heap.size + 1) w1.heap.size t p2 (.slice aoA k capA) vP ac ps) ∧ Hid (Sg.PTo l k (p + 1) r ps p2)) (fun i _ => M - (intOf i).toNat)
        case atStart => exact ⟨0, by omega, rfl, _, _, _, HI3, HP0⟩
        case round =>
          obtain ⟨r, hr, rfl, p2, vP, ps, HI, HP⟩ := hrel
          obtain ⟨wz, ewz⟩ : ∃ z : World, z = wr := ⟨_, rfl⟩
          subst ewz
          clear HI3 HP0
          have hlenP : ps.length = r := by rw [HP.out.1]; exact Sg.rdMany_len _ _ r
          obtain ⟨aoP, capP, hvP, _, _⟩ := HI.out.pers.in_
          rw [hlenP] at hvP
          subst hvP
          have HLENP : Hid (ps.length = r) := hlenP
          have hp2 : p2 ≤ 50000 := by have := HP.out.2.2; omega
          have hcbz : w.heap.size + 1 < wz.heap.size := HI.out.cur.lt
          clear hlenP
          go_upto_region 14 with fail
          go_cut [63] from 57 to 124 (fun c wx => c = .bool (decide (r < M)) ∧ wx = wz)
          case first =>
            by_cases h1 : (r : Int) < (m : Int)
            · by_cases h2 : (r : Int) < 7
              · have hd : decide (r < M) = true := by simp; omega
                go_wp2_with fail
                go_meet
                exact ⟨by simp [hd], rfl⟩
              · have hd : decide (r < M) = false := by simp; omega
                go_wp2_with fail
                go_meet
                exact ⟨by simp [hd], rfl⟩
            · have hd : decide (r < M) = false := by simp; omega
              go_wp2_with fail
              go_meet
              exact ⟨by simp [hd], rfl⟩
          case rest =>
            obtain ⟨ec, ew⟩ := hcut
            subst ec
            have ew2 := ew.symm
            subst ew2
            clear ew
            by_cases hgo : r < M
            · have hd : decide (r < M) = true := by simp [hgo]
              rw [hd]
              have HP0 : Hid (OeInv wz (wz.alloc (.cells #[.slice none 0 0] 24)) (w.heap.size + 1) t p2 (.slice none 0 0) []) := OeInv.start HI.out.cur
              go_wp2_with fail
              refine (cuOne_any t p2 (w.heap.size + 1) _ HP0.out.cud.at_ ht (by omega)).mono ?_
              rintro e v1 ⟨kk, rfl, hkk, hkk8, hc1⟩
              rw [HL.out] at hkk
              have HP1 : Hid (OeInv wz v1 (w.heap.size + 1) t (p2 + 1) (.slice none 0 0) []) := HP0.out.step hc1
              have HE0 : Hid (Sg.ETo l (p2 + 1) 0 [] (p2 + 1)) := Sg.ETo.zero l (p2 + 1)
              obtain ⟨X, hX⟩ : ∃ X, X = min kk 13 := ⟨_, rfl⟩
              clear HP0 hc1 hd
              go_wp2_with fail
              go_loopw [15] (fun i wr => ∃ x : Nat, x ≤ X ∧ i = .int .i64 (x : Int) ∧ ∃ p3 vE es, Hid (OeInv wz wr (w.heap.size + 1) t p3 vE es) ∧ Hid (Sg.ETo l (p2 + 1) x es p3)) (fun i _ => X - (intOf i).toNat)
              case atStart => exact ⟨0, by omega, rfl, _, _, _, HP1, HE0⟩
              case round =>
                obtain ⟨x, hx, rfl, p3, vE, es, HPe, HE⟩ := hrel
                obtain ⟨wy, ewy⟩ : ∃ z : World, z = wr := ⟨_, rfl⟩
                subst ewy
                clear HP1 HE0
                have hlenE : es.length = x := by rw [HE.out.1]; exact Sg.rdMany_len _ _ x
                obtain ⟨aoE, capE, hvE, _, _, _⟩ := HPe.out.ents.in_
                rw [hlenE] at hvE
                subst hvE
                have HLENE : Hid (es.length = x) := hlenE
                have hp3 : p3 ≤ 60000 := by have := HE.out.2.2; omega
                have hcby : w.heap.size + 1 < wy.heap.size := HPe.out.cud.at_.lt
                have hzy : wz.heap.size < wy.heap.size := lt_of_block HPe.out.box
                clear hlenE
                go_upto_region 19 with fail
                go_cut [74] from 68 to 111 (fun c wx => c = .bool (decide (x < X)) ∧ wx = wy)
                case first =>
                  by_cases h1 : (x : Int) < (kk : Int)
                  · by_cases h2 : (x : Int) < 13
                    · have hd : decide (x < X) = true := by simp; omega
                      go_wp2_with fail
                      go_meet
                      exact ⟨by simp [hd], rfl⟩
                    · have hd : decide (x < X) = false := by simp; omega
                      go_wp2_with fail
                      go_meet
                      exact ⟨by simp [hd], rfl⟩
                  · have hd : decide (x < X) = false := by simp; omega
                    go_wp2_with fail
                    go_meet
                    exact ⟨by simp [hd], rfl⟩
                case rest =>
                  obtain ⟨ec, ew⟩ := hcut
                  subst ec
                  have ew2 := ew.symm
                  subst ew2
                  clear ew
                  by_cases hgo : x < X
                  · have hd : decide (x < X) = true := by simp [hgo]
                    rw [hd]
                    have HQ0 : Hid (OqInv wy (wy.alloc (.cells #[.string { data := #[] }, .slice none 0 0] 55)) (w.heap.size + 1) t p3 { data := #[] } (.slice none 0 0) []) := OqInv.start HPe.out.cud.at_
                    go_wp2_with fail
                    refine (cuOne_any t p3 (w.heap.size + 1) _ HQ0.out.cud.at_ ht (by omega)).mono ?_
                    rintro e u1 ⟨ln, rfl, hln, hln8, hc1⟩
                    rw [HL.out] at hln
                    have HQ1 : Hid (OqInv wy u1 (w.heap.size + 1) t (p3 + 1) { data := #[] } (.slice none 0 0) []) := HQ0.out.step hc1
                    clear HQ0 hc1 hd
                    go_wp2_with fail
                    refine (cuText_any t (p3 + 1) ln (w.heap.size + 1) _ HQ1.out.cud.at_ ht (by omega) (by omega)).mono ?_
                    rintro e u2 ⟨mm, rfl, hmm, _, hc2⟩
                    rw [HL.out] at hmm
                    have HQ2 : Hid (OqInv wy u2 (w.heap.size + 1) t (p3 + 1 + ln) { data := #[] } (.slice none 0 0) []) := HQ1.out.step hc2
                    obtain ⟨bx0, bx1⟩ := HQ2.out.box.cells
                    have bf0 : u2.frozen? ⟨wy.heap.size, 0, none⟩ = false := by have := HQ2.out.box; unfold Two at this; simp [World.frozen?, this]
                    have HQ3 : Hid (OqInv wy (u2.setCell ⟨wy.heap.size, 0, none⟩ (.string mm)) (w.heap.size + 1) t (p3 + 1 + ln) mm (.slice none 0 0) []) := HQ2.out.memo hcby mm
                    clear HQ1 hc2 HQ2
                    go_wp2_with fail
                    refine (cuOne_any t (p3 + 1 + ln) (w.heap.size + 1) _ HQ3.out.cud.at_ ht (by omega)).mono ?_
                    rintro e u4 ⟨q, rfl, hq, hq8, hc4⟩
                    rw [HL.out] at hq
                    have HQ4 : Hid (OqInv wy u4 (w.heap.size + 1) t (p3 + 1 + ln + 1) mm (.slice none 0 0) []) := HQ3.out.step hc4
                    have HT0 : Hid (Sg.QTo l (p3 + 1 + ln + 1) 0 [] (p3 + 1 + ln + 1)) := Sg.QTo.zero l _
                    obtain ⟨Y, hY⟩ : ∃ Y, Y = min q 7 := ⟨_, rfl⟩
                    clear HQ3 hc4 bx0 bx1 bf0
                    go_wp2_with fail
                    go_loopw [19] (fun i wr => ∃ z : Nat, z ≤ Y ∧ i = .int .i64 (z : Int) ∧ ∃ p4 vQ qs, Hid (OqInv wy wr (w.heap.size + 1) t p4 mm vQ qs) ∧ Hid (Sg.QTo l (p3 + 1 + ln + 1) z qs p4)) (fun i _ => Y - (intOf i).toNat)
                    case atStart => exact ⟨0, by omega, rfl, _, _, _, HQ4, HT0⟩
                    case round =>
                      obtain ⟨z, hz', rfl, p4, vQ, qs, HQ, HT⟩ := hrel
                      obtain ⟨wx0, ewx⟩ : ∃ z : World, z = wr := ⟨_, rfl⟩
                      subst ewx
                      clear HQ4 HT0
                      have hlenQ : qs.length = z := by rw [HT.out.1]; exact Sg.rdMany_len _ _ z
                      obtain ⟨aoQ, nQ, capQ, hvQ⟩ : ∃ ao n c, vQ = .slice ao n c := OwnP.shape HQ.out.posts
                      subst hvQ
                      have HLENQ : Hid (qs.length = z) := hlenQ
                      have hp4 : p4 ≤ 70000 := by have := HT.out.2.2; omega
                      obtain ⟨bx0, bx1⟩ := HQ.out.box.cells
                      have hyx : wy.heap.size < wx0.heap.size := lt_of_block HQ.out.box
                      clear hlenQ
                      go_upto_region 26 with fail
                      go_cut [91] from 85 to 105 (fun c wx => c = .bool (decide (z < Y)) ∧ wx = wx0)
                      case first =>
                        by_cases h1 : (z : Int) < (q : Int)
                        · by_cases h2 : (z : Int) < 7
                          · have hd : decide (z < Y) = true := by simp; omega
                            go_wp2_with fail
                            go_meet
                            exact ⟨by simp [hd], rfl⟩
                          · have hd : decide (z < Y) = false := by simp; omega
                            go_wp2_with fail
                            go_meet
                            exact ⟨by simp [hd], rfl⟩
                        · have hd : decide (z < Y) = false := by simp; omega
                          go_wp2_with fail
                          go_meet
                          exact ⟨by simp [hd], rfl⟩
                      case rest =>
                        obtain ⟨ec, ew⟩ := hcut
                        subst ec
                        have ew2 := ew.symm
                        subst ew2
                        clear ew
                        by_cases hgo : z < Y
                        · have hd : decide (z < Y) = true := by simp [hgo]
                          rw [hd]
                          go_wp2_with fail
                          refine (cuOne_any t p4 (w.heap.size + 1) _ HQ.out.cud.at_ ht (by omega)).mono ?_
                          rintro e x1 ⟨pa, rfl, hpa, _, hc1⟩
                          rw [HL.out] at hpa
                          go_wp2_with fail
                          refine (cuEight_any t (p4 + 1) (w.heap.size + 1) _ hc1.at_ ht (by omega)).mono ?_
                          rintro e x2 ⟨pn, rfl, hpn, hc2⟩
                          rw [HL.out] at hpn
                          have HQ2 : Hid (OqInv wy x2 (w.heap.size + 1) t (p4 + 1 + 8) mm (.slice aoQ nQ capQ) qs) := HQ.out.step (hc1.trans hc2)
                          have HT2 : Hid (Sg.QTo l (p3 + 1 + ln + 1) (z + 1) (qs ++ [⟨(pa : Int), pn⟩]) (p4 + 1 + 8)) := HT.out.succ hpa.out hpn.out
                          clear hc1 hc2 HQ HT hpa hpn hd bx0 bx1
                          obtain ⟨bx0, bx1⟩ := HQ2.out.box.cells
                          have hyx2 : wy.heap.size < x2.heap.size := lt_of_block HQ2.out.box
                          have hown : x2.ownsRow (wy.heap.size + 1) 57 2 (.slice aoQ nQ capQ) z (pCells qs) := by have := HQ2.out.posts; unfold OwnP at this; rw [HLENQ.out] at this; exact this
                          go_wp2_with (at_builtin; (refine wpList_append_lies _ rfl _ _ 53 rfl (wy.heap.size + 1) 57 s0 (.agg #[.int .i64 0, .int .i64 0]) 2 16 Tryz.underlying53 si sz0 sz1 sz2 rfl (by decide) (.slice aoQ nQ capQ) z (pCells qs) rfl (hown.alloc _) ⟨x2.heap.size, 0, none⟩ 1 1 [.int .i64 (pa : Int), .int .i64 pn] rfl rfl (World.news_of_block (cs := #[.int .i64 (pa : Int), .int .i64 pn]) (t := 57) (fr := (0, 0)) (heap_alloc_new x2 _)) (by intro u hu; simp at hu; rcases hu with rfl | rfl <;> rfl) (by omega) (by unfold maxLen; omega) (by omega) (by simp; omega) (x2.heap.size + 1) (by simp) ?_))
                          intro g cap' w5 hown5 hgrow _ hlt5
                          have aY : Below x2.heap.size x2 (x2.alloc (.cells #[.int .i64 (pa : Int), .int .i64 pn] 57)) := (Below.refl _ _).alloc (Nat.le_refl _) _
                          obtain ⟨box5, M6⟩ := (HQ2.out.below aY).push (g := g) (cap' := cap') (q := ⟨(pa : Int), pn⟩) hcby hgrow (by rw [HLENQ.out]; exact hown5)
                          rw [HLENQ.out] at M6
                          obtain ⟨by0, by1⟩ := box5.cells
                          have bf1 : w5.frozen? ⟨wy.heap.size, 1, none⟩ = false := by have := box5; unfold Two at this; simp [World.frozen?, this]
                          have HM6 : Hid (OqInv wy (w5.setCell ⟨wy.heap.size, 1, none⟩ (.slice (some ⟨g, 0, none⟩) (z + 1) cap')) (w.heap.size + 1) t (p4 + 1 + 8) mm (.slice (some ⟨g, 0, none⟩) (z + 1) cap') (qs ++ [⟨(pa : Int), pn⟩])) := M6
                          clear M6 hgrow hown5 aY box5 hown bx0 bx1
                          go_wp2_with fail
                          go_roundw
                          case rel => exact ⟨z + 1, by omega, by go_num, _, _, _, HM6, HT2⟩
                          case measure => simp [intOf]; omega
                        · have hd : decide (z < Y) = false := by simp [hgo]
                          rw [hd]
                          have hzY : z = Y := by omega
                          have HTe : Hid (Sg.ETo l (p2 + 1) (x + 1) (es ++ [⟨mm, qs⟩]) p4) := HE.out.succ hln.out hmm.out hq.out (by rw [hzY, hY]) HT.out
                          have HPx : Hid (OeInv wz wx0 (w.heap.size + 1) t p4 (.slice aoE x capE) es) := HPe.out.step HQ.out.cud
                          have px0 : wx0.cell? ⟨wz.heap.size, 0, none⟩ = some (.slice aoE x capE) := by rw [cell_of_row wx0 _ 0 _ _ _ HPx.out.box]; rfl
                          obtain ⟨us, hul, hrow, hus⟩ := HPx.out.ents
                          have hrowW : wx0.ownsRow (wz.heap.size + 1) 55 2 (.slice aoE x capE) x (eCells es us) := by rw [HLENE.out] at hrow; exact hrow
                          have HOp : Hid (OwnP wx0 (wz.heap.size + 1) (.slice aoQ nQ capQ) qs) := ownsRow_mono HQ.out.posts (by omega)
                          clear hd hgo hzY HT HQ HE
                          go_wp2_with (at_builtin; (refine wpList_append_lies _ rfl _ _ 22 rfl (wz.heap.size + 1) 55 q0 (.agg #[.string ByteArray.empty, .slice none 0 0]) 2 40 Tryz.underlying22 qi qz0 qz1 qz2 rfl (by decide) (.slice aoE x capE) x (eCells es us) rfl (hrowW.alloc _) ⟨wx0.heap.size, 0, none⟩ 1 1 [.string mm, .slice aoQ nQ capQ] rfl rfl (World.news_of_block (cs := #[.string mm, .slice aoQ nQ capQ]) (t := 55) (fr := (0, 0)) (heap_alloc_new wx0 _)) (by intro u hu; simp at hu; rcases hu with rfl | rfl <;> rfl) (by omega) (by unfold maxLen; omega) (by omega) (by simp; omega) (wx0.heap.size + 1) (by simp) ?_))
                          intro g cap' w5 hown5 hgrow _ hlt5
                          have aY : Below wx0.heap.size wx0 (wx0.alloc (.cells #[.string mm, .slice aoQ nQ capQ] 55)) := (Below.refl _ _).alloc (Nat.le_refl _) _
                          obtain ⟨box5, M6⟩ := (HPx.out.below aY).push (g := g) (cap' := cap') (e := ⟨mm, qs⟩) hcbz hul (hrow.alloc _) (fun i h h2 => ownsRow_below (hus i h h2) aY) (ownsRow_below HOp.out aY) hgrow (by rw [HLENE.out]; exact hown5)
                          rw [HLENE.out] at M6
                          have by0 : w5.cell? ⟨wz.heap.size, 0, none⟩ = some (.slice aoE x capE) := by rw [cell_of_row w5 _ 0 _ _ _ box5]; rfl
                          have bf0 : w5.frozen? ⟨wz.heap.size, 0, none⟩ = false := by simp [World.frozen?, box5]
                          have HM6 : Hid (OeInv wz (w5.setCell ⟨wz.heap.size, 0, none⟩ (.slice (some ⟨g, 0, none⟩) (x + 1) cap')) (w.heap.size + 1) t p4 (.slice (some ⟨g, 0, none⟩) (x + 1) cap') (es ++ [⟨mm, qs⟩])) := M6
                          clear M6 hgrow hown5 aY box5 hrow hrowW hus bx0 bx1 px0 HPx
                          go_wp2_with fail
                          go_roundw
                          case rel => exact ⟨x + 1, by omega, by go_num, _, _, _, HM6, HTe⟩
                          case measure => simp [intOf]; omega
                  · have hd : decide (x < X) = false := by simp [hgo]
                    rw [hd]
                    have hxX : x = X := by omega
                    have HIy : Hid (OpInv w wy (w.heap.size + 1) w1.heap.size t p3 (.slice aoA k capA) (.slice aoP r capP) ac ps) := HI.out.cud HPe.out.cud
                    obtain ⟨bx0, bx1⟩ := HIy.out.box.cells
                    have hw4 : IntKind.i64.wrap ((k : Int) + 4) = ((k + 4 : Nat) : Int) := by rw [IntWalk.i64_in _ (by omega)]; omega
                    have hw8 : IntKind.i64.wrap (8 * ((k + 4 : Nat) : Int)) = ((8 * (k + 4) : Nat) : Int) := by rw [IntWalk.i64_in _ (by omega)]; omega
                    obtain ⟨k4, hk4⟩ : ∃ z, k + 4 = z := ⟨_, rfl⟩
                    obtain ⟨k8, hk8⟩ : ∃ z, 8 * (k + 4) = z := ⟨_, rfl⟩
                    rw [hk4] at hw4
                    rw [hk8, hk4] at hw8
                    have HPt : Hid (Sg.PTo l k (p + 1) (r + 1) (ps ++ [es]) (p3 + k8)) := by
                      have := HP.out.succ hk9 hkk.out (by rw [hxX, hX]) HE.out
                      rw [hk8] at this
                      exact this
                    have hk8b : k8 ≤ 104 := by omega
                    clear hk4 hk8 hd hgo hxX
                    go_wp2_with fail
                    refine (cuText_any t p3 k8 (w.heap.size + 1) _ HIy.out.cur ht (by omega) (by omega)).mono ?_
                    rintro e u1 ⟨yy, rfl, _, _, hc1⟩
                    have HI1 : Hid (OpInv w u1 (w.heap.size + 1) w1.heap.size t (p3 + k8) (.slice aoA k capA) (.slice aoP r capP) ac ps) := HIy.out.cud hc1
                    have HPe1 : Hid (OeInv wz u1 (w.heap.size + 1) t (p3 + k8) (.slice aoE x capE) es) := HPe.out.step hc1
                    have px0 : u1.cell? ⟨wz.heap.size, 0, none⟩ = some (.slice aoE x capE) := by rw [cell_of_row u1 _ 0 _ _ _ HPe1.out.box]; rfl
                    clear bx0 bx1 HIy hc1
                    obtain ⟨bx0, bx1⟩ := HI1.out.box.cells
                    obtain ⟨us, hul, hrow, hus⟩ := HI1.out.pers
                    have hrowW : u1.ownsRow (w.heap.size + 1) 24 1 (.slice aoP r capP) r us := by rw [HLENP.out] at hrow; exact hrow
                    have hsu : w.heap.size + 1 < u1.heap.size := HI1.out.cur.lt
                    have HOe : Hid (OwnE u1 (w.heap.size + 1) (.slice aoE x capE) es) := HPe1.out.ents.mono (by omega)
                    go_wp2_with (at_builtin; (refine wpList_append_lies _ rfl _ _ 34 rfl (w.heap.size + 1) 24 p0 (.agg #[.slice none 0 0]) 1 24 Tryz.underlying34 pi pz0 pz1 pz2 rfl (by decide) (.slice aoP r capP) r us rfl (hrowW.alloc _) ⟨u1.heap.size, 0, none⟩ 1 1 [.slice aoE x capE] rfl rfl (World.news_of_block (cs := #[.slice aoE x capE]) (t := 24) (fr := (0, 0)) (heap_alloc_new u1 _)) (by intro u hu; simp at hu; subst hu; rfl) (by omega) (by unfold maxLen; omega) (by omega) (by simp; omega) (u1.heap.size + 1) (by simp) ?_))
                    intro g cap' w5 hown5 hgrow _ hlt5
                    have aY : Below u1.heap.size u1 (u1.alloc (.cells #[.slice aoE x capE] 24)) := (Below.refl _ _).alloc (Nat.le_refl _) _
                    obtain ⟨box5, M6⟩ := (HI1.out.below aY).pushP (g := g) (cap' := cap') hul (hrow.alloc _) (fun i h h2 => (hus i h h2).below aY) (HOe.out.below aY) hgrow (by rw [HLENP.out]; exact hown5)
                    rw [HLENP.out] at M6
                    obtain ⟨by0, by1⟩ := box5.cells
                    have bf1 : w5.frozen? ⟨w1.heap.size, 1, none⟩ = false := by have := box5; unfold Two at this; simp [World.frozen?, this]
                    have HM6 : Hid (OpInv w (w5.setCell ⟨w1.heap.size, 1, none⟩ (.slice (some ⟨g, 0, none⟩) (r + 1) cap')) (w.heap.size + 1) w1.heap.size t (p3 + k8) (.slice aoA k capA) (.slice (some ⟨g, 0, none⟩) (r + 1) cap') ac (ps ++ [es])) := M6
                    clear M6 hgrow hown5 aY box5 hrow hrowW hus bx0 bx1 px0 HPe1 HPe HE
                    go_wp2_with fail
                    go_roundw
                    case rel => exact ⟨r + 1, by omega, by go_num, _, _, _, HM6, HPt⟩
                    case measure => simp [intOf]; omega
            · have hd : decide (r < M) = false := by simp [hgo]
              rw [hd]
              have hrM : r = M := by omega
              have hh : (⟨ac, ps⟩ : Sg.Hist) = h := by
                have hP' := HP.out
                rw [← HLEN.out] at hP'
                rw [← HHH.out]
                exact (Sg.rdHist_to hn.out HKN.out HA.out hm.out (by rw [hrM, hM]) hP').symm
              obtain ⟨aoA', capA', aoP', capP', e1, e2, hH⟩ := rdHistR_in (h := ⟨ac, ps⟩) (HHH.out.trans hh.symm) HI.out.accs HI.out.pers
              simp only [Value.slice.injEq] at e1 e2
              obtain ⟨rfl, hx1, rfl⟩ := e1
              obtain ⟨rfl, hx2, rfl⟩ := e2
              clear hx1 hx2
              have hH' : HistIn wz aoA aoP k r ⟨ac, ps⟩ := by
                have := hH
                simp only [HLEN.out, HLENP.out] at this
                exact this
              have hPs : OwnPs wz (w.heap.size + 1) (.slice aoP r capP) (⟨ac, ps⟩ : Sg.Hist).pers := HI.out.pers
              have hAs : OwnA wz (w.heap.size + 1) (.slice aoA k capA) (⟨ac, ps⟩ : Sg.Hist).accs := HI.out.accs
              rw [hh] at hH' hPs hAs
              have HAs : Hid (OwnA wz (w.heap.size + 1) (.slice aoA k capA) h.accs) := hAs
              have HPs : Hid (OwnPs wz (w.heap.size + 1) (.slice aoP r capP) h.pers) := hPs
              have hcall := close_any h aoA aoP k r capA capP wz hH'
              obtain ⟨bx0, bx1⟩ := HI.out.box.cells
              have HRes : Hid (wz.heap[w.heap.size]? = some (.cells #[nilV, nilV, nilV, nilV] 39 (0, 0))) := HI.out.res
              have HBel : Hid (Below w.heap.size w wz) := HI.out.bel
              have HLA : Hid (h.accs.length = k) := hH'.lenA
              clear hH hH' hPs hAs hh hrM hd hgo HI HP HHH HA HLEN HLENP hM hm hn HKN
              go_wp2_with fail
              refine hcall.mono ?_
              clear hcall
              rintro e w4 (⟨he, rfl, hb4⟩ | ⟨he, h1, aoB, aoT, capB, capT, rfl, hBk, hb4⟩)
              · have qz : (Sg.closeErr h != 0) = true := by rw [bne_iff_ne]; exact he
                have HN : Hid (¬ Sg.isPk h t) := fun hp => he hp.1
                have aB : Below w4.heap.size w4 (w4.alloc (.cells #[nilV, nilV, nilV, nilV] 39)) := (Below.refl _ _).alloc (Nat.le_refl _) _
                have hb5 := hb4.trans (aB.mono hb4.size)
                have b05 := HBel.out.trans (hb5.mono HBel.out.size)
                have hR5 := (hb5.block _ (lt_of_block HRes.out)).trans HRes.out
                clear he aB hb4 hb5 bx0 bx1
                generalize Sg.closeErr h = ee at *
                go_upto_region 35 with fail
                generalize w4.alloc (.cells #[nilV, nilV, nilV, nilV] 39) = w5 at *
                obtain ⟨⟨c0, c1, c2, c3⟩, f0, f1, f2, f3⟩ := four_cells hR5
                have HB : Hid (Below w.heap.size w ((((w5.setCell ⟨w.heap.size, 0, none⟩ nilV).setCell ⟨w.heap.size, 1, none⟩ nilV).setCell ⟨w.heap.size, 2, none⟩ nilV).setCell ⟨w.heap.size, 3, none⟩ nilV)) := (((b05.setCell (Nat.le_refl _) _).setCell (Nat.le_refl _) _).setCell (Nat.le_refl _) _).setCell (Nat.le_refl _) _
                go_wp2_with fail
                refine bodyPost_ret (v := .tuple #[.agg #[nilV, nilV, nilV, nilV], .int .i64 5]) (by simp [results, Tryz.results8, go_sem, c0, c1, c2, c3]) rfl ⟨HB.out, Or.inl ⟨HN.out, rfl⟩⟩
              · have HPk : Hid (Sg.package h = Sg.pkTo h (Sg.balances h) (Sg.totals h) r ∧ Sg.closeErr h = 0) := by
                  unfold Sg.package; rw [if_pos he, hBk.lenP]; exact ⟨rfl, he⟩
                have hA1 : 1 ≤ k := by
                  have hi : Sg.inBounds h = true := by
                    cases hb : Sg.inBounds h with
                    | true => rfl
                    | false => unfold Sg.closeErr at he; rw [hb] at he; simp at he
                  unfold Sg.inBounds at hi
                  simp only [Bool.and_eq_true, decide_eq_true_eq] at hi
                  have := HLA.out
                  omega
                have aB : Below w4.heap.size w4 (w4.alloc (.cells #[.slice aoA k capA, .slice aoP r capP, .slice aoB r capB, .slice aoT r capT] 39)) := (Below.refl _ _).alloc (Nat.le_refl _) _
                have hb5 := hb4.trans (aB.mono hb4.size)
                have b05 := HBel.out.trans (hb5.mono HBel.out.size)
                have hR5 := (hb5.block _ (lt_of_block HRes.out)).trans HRes.out
                have hP5 := HPs.out.below hb5
                have hA5 := HAs.out.below hb5
                have hBk5 := hBk.below aB
                have hbb : (w4.alloc (.cells #[.slice aoA k capA, .slice aoP r capP, .slice aoB r capB, .slice aoT r capT] 39)).heap[w4.heap.size]? = some (.cells #[.slice aoA k capA, .slice aoP r capP, .slice aoB r capB, .slice aoT r capT] 39 (0, 0)) := heap_alloc_new w4 _
                have hcall := package_any h (Sg.balances h) (Sg.totals h) aoA aoP aoB aoT k r capA capP capB capT _ hBk5
                have HBk5 : Hid (BksAt (w4.alloc (.cells #[.slice aoA k capA, .slice aoP r capP, .slice aoB r capB, .slice aoT r capT] 39)) aoA aoP aoB aoT k r h (Sg.balances h) (Sg.totals h)) := hBk5
                clear he aB hb4 hb5 bx0 bx1 hBk hBk5
                generalize Sg.pkTo h (Sg.balances h) (Sg.totals h) r = y at *
                go_wp2_with fail
                refine hcall.mono ?_
                clear hcall
                rintro e w6 ⟨rfl, hb6⟩
                have b06 := b05.trans (hb6.mono b05.size)
                have hR6 := (hb6.block _ (lt_of_block hR5)).trans hR5
                have hbb6 := (hb6.block _ (lt_of_block hbb)).trans hbb
                have HP6 : Hid (OwnPs w6 (w.heap.size + 1) (.slice aoP r capP) h.pers) := hP5.below hb6
                have HA6 : Hid (OwnA w6 (w.heap.size + 1) (.slice aoA k capA) h.accs) := hA5.below hb6
                have HBk6 : Hid (BksAt w6 aoA aoP aoB aoT k r h (Sg.balances h) (Sg.totals h)) := HBk5.out.below hb6
                obtain ⟨⟨c0, c1, c2, c3⟩, f0, f1, f2, f3⟩ := four_cells hR6
                obtain ⟨⟨d0, d1, d2, d3⟩, _, _, _, _⟩ := four_cells hbb6
                clear b05 hR5 hP5 hA5 HBk5 hbb hb6
                by_cases e : y.toList = t.toList
                · have eyt : y = t := by
                    rw [ByteArray.toList_eq, ByteArray.toList_eq] at e
                    exact Go.WideShapes.bytes_inj e
                  have HY : Hid (Sg.isPk h t) := ⟨HPk.out.2, by rw [HPk.out.1, eyt]⟩
                  subst eyt
                  have HB : Hid (Below w.heap.size w ((((w6.setCell ⟨w.heap.size, 0, none⟩ (.slice aoA k capA)).setCell ⟨w.heap.size, 1, none⟩ (.slice aoP r capP)).setCell ⟨w.heap.size, 2, none⟩ (.slice aoB r capB)).setCell ⟨w.heap.size, 3, none⟩ (.slice aoT r capT))) := (((b06.setCell (Nat.le_refl _) _).setCell (Nat.le_refl _) _).setCell (Nat.le_refl _) _).setCell (Nat.le_refl _) _
                  have HOw : Hid (OwnA ((((w6.setCell ⟨w.heap.size, 0, none⟩ (.slice aoA k capA)).setCell ⟨w.heap.size, 1, none⟩ (.slice aoP r capP)).setCell ⟨w.heap.size, 2, none⟩ (.slice aoB r capB)).setCell ⟨w.heap.size, 3, none⟩ (.slice aoT r capT)) w.heap.size (.slice aoA k capA) h.accs ∧ OwnPs ((((w6.setCell ⟨w.heap.size, 0, none⟩ (.slice aoA k capA)).setCell ⟨w.heap.size, 1, none⟩ (.slice aoP r capP)).setCell ⟨w.heap.size, 2, none⟩ (.slice aoB r capB)).setCell ⟨w.heap.size, 3, none⟩ (.slice aoT r capT)) w.heap.size (.slice aoP r capP) h.pers) := by
                    have k0 := keptT_setCell (j := 0) (u := .slice aoA k capA) hR6
                    have h0 := heap_setCell_same w6 w.heap.size 0 _ _ (.slice aoA k capA) hR6
                    have k1 := keptT_setCell (j := 1) (u := .slice aoP r capP) h0
                    have h1' := heap_setCell_same _ w.heap.size 1 _ _ (.slice aoP r capP) h0
                    have k2 := keptT_setCell (j := 2) (u := .slice aoB r capB) h1'
                    have h2' := heap_setCell_same _ w.heap.size 2 _ _ (.slice aoB r capB) h1'
                    have k3 := keptT_setCell (j := 3) (u := .slice aoT r capT) h2'
                    have hk := ((k0.trans k1).trans k2).trans k3
                    refine ⟨ownsRow_mono (HA6.out.keptT hk (by decide)) (Nat.le_succ _), ?_⟩
                    obtain ⟨us, e1, e2, e3⟩ := HP6.out.keptT hk (by decide) (by decide) (by decide)
                    exact ⟨us, e1, ownsRow_mono e2 (Nat.le_succ _), fun i a b => (e3 i a b).mono (Nat.le_succ _)⟩
                  have HBk9 : Hid (BksAt ((((w6.setCell ⟨w.heap.size, 0, none⟩ (.slice aoA k capA)).setCell ⟨w.heap.size, 1, none⟩ (.slice aoP r capP)).setCell ⟨w.heap.size, 2, none⟩ (.slice aoB r capB)).setCell ⟨w.heap.size, 3, none⟩ (.slice aoT r capT)) aoA aoP aoB aoT k r h (Sg.balances h) (Sg.totals h)) := by
                    have k0 := keptT_setCell (j := 0) (u := .slice aoA k capA) hR6
                    have h0 := heap_setCell_same w6 w.heap.size 0 _ _ (.slice aoA k capA) hR6
                    have k1 := keptT_setCell (j := 1) (u := .slice aoP r capP) h0
                    have h1' := heap_setCell_same _ w.heap.size 1 _ _ (.slice aoP r capP) h0
                    have k2 := keptT_setCell (j := 2) (u := .slice aoB r capB) h1'
                    have h2' := heap_setCell_same _ w.heap.size 2 _ _ (.slice aoB r capB) h1'
                    have k3 := keptT_setCell (j := 3) (u := .slice aoT r capT) h2'
                    have hk := ((k0.trans k1).trans k2).trans k3
                    obtain ⟨ao', cap', e', _, hin⟩ := (HP6.out.keptT hk (by decide) (by decide) (by decide)).in_
                    simp only [Value.slice.injEq] at e'
                    obtain ⟨rfl, _, _⟩ := e'
                    exact HBk6.out.offBy hA1 (nilBox_four hR6) ((((OffBy.refl _ _).set _).set _).set _ |>.set _) hin
                  go_wp2_with fail
                  refine bodyPost_ret (v := .tuple #[.agg #[.slice aoA k capA, .slice aoP r capP, .slice aoB r capB, .slice aoT r capT], .int .i64 0]) (by simp [results, Tryz.results8, go_sem, c0, c1, c2, c3]) rfl ⟨HB.out, Or.inr ⟨HY.out, _, _, _, _, _, _, _, _, _, _, rfl, h1, HBk9.out, HOw.out.1, HOw.out.2⟩⟩
                · have eb : (y.toList == t.toList) = false := by simp [e]
                  have HN : Hid (¬ Sg.isPk h t) := fun hp => e (by rw [← HPk.out.1, hp.2])
                  have HB : Hid (Below w.heap.size w ((((w6.setCell ⟨w.heap.size, 0, none⟩ nilV).setCell ⟨w.heap.size, 1, none⟩ nilV).setCell ⟨w.heap.size, 2, none⟩ nilV).setCell ⟨w.heap.size, 3, none⟩ nilV)) := (((b06.setCell (Nat.le_refl _) _).setCell (Nat.le_refl _) _).setCell (Nat.le_refl _) _).setCell (Nat.le_refl _) _
                  go_wp2_with fail
                  refine bodyPost_ret (v := .tuple #[.agg #[nilV, nilV, nilV, nilV], .int .i64 5]) (by simp [results, Tryz.results8, go_sem, c0, c1, c2, c3]) rfl ⟨HB.out, Or.inl ⟨HN.out, rfl⟩⟩
end Go.Proofs.YtpkkhkkkgjhkeaaGreat
