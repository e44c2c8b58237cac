import Derived.Test.YtpkkhkkkgjhkeabGreatReadSpec
import Derived.Test.YtpkkhkkkgjhkeabGreatMadeSpec
import Derived.Lib.Strings
import Derived.Lib.BufferWrite
import Derived.Lib.UnsafeStr
import Derived.Laws.MakeOwn
import Derived.Laws.IdiomStrings
import Derived.Laws.Bits64b
import Derived.Test.YtpkkhkkkgjhkeabGreatMadeInv
/-
  THE WALKS of lay.Reader: a text is read again.
-/
namespace Go.Proofs.YtpkkhkkkgjhkeabGreat
open Go.RowKit
set_option maxRecDepth 100000
attribute [local go_sem ↓] Go.wp_at_zero Go.wp_at_succ

namespace Sg
theorem ofL_take (s : List UInt8) (m : Nat) : (ofL s).extract 0 m = ofL (s.take m) := by
  apply ByteArray.ext
  rw [ByteArray.data_extract]
  simp [ofL]
theorem ofL_drop (s : List UInt8) (m : Nat) : (ofL s).extract m s.length = ofL (s.drop m) := by
  apply ByteArray.ext
  rw [ByteArray.data_extract]
  simp only [ofL, List.extract_toArray, List.extract_eq_take_drop]
  rw [List.take_of_length_le (by simp)]
end Sg

/-- A reader in memory: what is left of the text, and whether more was asked for than there was. -/
def RdAt (w : World) (b : Nat) (s : Sg.Rs) : Prop := w.heap[b]? = some (.cells #[.string (Sg.ofL s.1), .bool s.2] 135 (0, 0))
theorem RdAt.cell {w : World} {b : Nat} {s : Sg.Rs} (h : RdAt w b s) : w.cell? ⟨b, 0, none⟩ = some (.string (Sg.ofL s.1)) := by rw [cell_of_row w _ 0 _ _ _ h]; rfl
theorem RdAt.flag {w : World} {b : Nat} {s : Sg.Rs} (h : RdAt w b s) : w.cell? ⟨b, 1, none⟩ = some (.bool s.2) := by rw [cell_of_row w _ 1 _ _ _ h]; rfl
theorem RdAt.frozen {w : World} {b : Nat} {s : Sg.Rs} (h : RdAt w b s) : w.frozen? ⟨b, 0, none⟩ = false ∧ w.frozen? ⟨b, 1, none⟩ = false := by unfold RdAt at h; simp [World.frozen?, h]
/-- Something was read: the reader alone has turned. -/
structure Rdd (w w' : World) (b : Nat) (s' : Sg.Rs) : Prop where
  at_ : RdAt w' b s'
  grown : w.grownBy w' (some b)
theorem Rdd.trans {a w w' : World} {b : Nat} {s s' : Sg.Rs} (h : Rdd a w b s) (k : Rdd w w' b s') : Rdd a w' b s' := ⟨k.at_, h.grown.trans k.grown⟩
theorem Rdd.here {w : World} {b : Nat} {s : Sg.Rs} (h : RdAt w b s) : Rdd w w b s := ⟨h, World.grownBy.refl _ _⟩
theorem Rdd.below {a w w' : World} {b : Nat} {s : Sg.Rs} (h : Rdd a w b s) (k : Below w.heap.size w w') : Rdd a w' b s :=
  ⟨(k.block b (lt_of_block h.at_)).trans h.at_, h.grown.trans ⟨k.os, k.tape, k.output, k.size, fun i hi _ => k.block i hi⟩⟩
theorem Rdd.kept {w w' : World} {b : Nat} {s s' : Sg.Rs} (h : RdAt w b s) (k : Rdd w w' b s') : KeptT 135 w w' := fun i cs t fz hi ht => by
  refine (k.grown.block i (lt_of_block hi) (fun e => ?_)).trans hi
  simp only [Option.some.injEq] at e
  subst e
  unfold RdAt at h
  rw [hi] at h
  simp only [Option.some.injEq, Obj.cells.injEq] at h
  exact ht h.2.1
/-- A cell of another block stays. -/
theorem Rdd.cell {w w' : World} {b : Nat} {s' : Sg.Rs} (k : Rdd w w' b s') {p : Addr} (hp : p.block < w.heap.size) (hne : p.block ≠ b) : w'.cell? p = w.cell? p := by
  have := k.grown.block p.block hp (fun e => hne (by simpa using e))
  unfold World.cell?
  rw [this]
theorem Rdd.block {w w' : World} {b : Nat} {s' : Sg.Rs} (k : Rdd w w' b s') {i : Nat} (hi : i < w.heap.size) (hne : i ≠ b) : w'.heap[i]? = w.heap[i]? :=
  k.grown.block i hi (fun e => hne (by simpa using e))

set_option maxHeartbeats 1600000 in
/-- Reader.take. -/
theorem rd_take_any (s : Sg.Rs) (m b : Nat) (w : World) (hR : RdAt w b s) :
    Calls Tryz.prog 103 #[.pointer (some ⟨b, 0, none⟩), .int .i64 (m : Int)] w fun e w' => e = .returned (.string (Sg.ofL (s.1.take m))) ∧ Rdd w w' b (Sg.dr m s) := by
  obtain ⟨t, lk⟩ := s
  have hc := hR.cell
  have hl := hR.flag
  obtain ⟨hf, hf1⟩ := hR.frozen
  have hz : (Sg.ofL t).size = t.length := Sg.ofL_size t
  simp only at hc hl
  by_cases hm : m ≤ t.length
  · have hlt : ¬ (t.length : Int) < (m : Int) := by omega
    have hql : (m : Int) ≤ (t.length : Int) := by omega
    have HT : Hid ((Sg.ofL t).extract 0 m = Sg.ofL (t.take m)) := Sg.ofL_take t m
    have HD : Hid (RdAt (w.setCell ⟨b, 0, none⟩ (.string ((Sg.ofL t).extract m t.length))) b (Sg.dr m (t, lk))) := by
      have := heap_setCell_same w b 0 _ _ (.string ((Sg.ofL t).extract m t.length)) hR
      show RdAt _ _ _
      unfold RdAt Sg.dr
      rw [this, Sg.ofL_drop]
      simp only
      rw [decide_eq_false (by omega), Bool.or_false]
      rfl
    have HG : Hid (w.grownBy (w.setCell ⟨b, 0, none⟩ (.string ((Sg.ofL t).extract m t.length))) (some b)) := ⟨rfl, rfl, rfl, by simp, fun k _ hk => heap_setCell_other w ⟨b, 0, none⟩ k _ (fun e => hk (by simp [e]))⟩
    clear hR hm
    generalize Sg.ofL t = S at *
    generalize t.length = l at *
    go_enter Tryz.func103, Tryz.ntmps103
    go_wp2_with fail
    go_ret
    exact ⟨ret_str2 HT.out, HD.out, HG.out⟩
  · have hlt : (t.length : Int) < (m : Int) := by omega
    have HT : Hid ((Sg.ofL t).extract 0 t.length = Sg.ofL (t.take m)) := by
      show _ = _
      rw [Sg.ofL_take, List.take_of_length_le (Nat.le_refl _), List.take_of_length_le (by omega)]
    have HD : Hid (RdAt ((w.setCell ⟨b, 1, none⟩ (.bool true)).setCell ⟨b, 0, none⟩ (.string ByteArray.empty)) b (Sg.dr m (t, lk))) := by
      have h1 := heap_setCell_same w b 1 _ _ (.bool true) hR
      have := heap_setCell_same _ b 0 _ _ (.string ByteArray.empty) h1
      show RdAt _ _ _
      unfold RdAt Sg.dr
      rw [this]
      simp only
      rw [decide_eq_true (by omega), Bool.or_true, List.drop_of_length_le (by omega)]
      rfl
    have HG : Hid (w.grownBy ((w.setCell ⟨b, 1, none⟩ (.bool true)).setCell ⟨b, 0, none⟩ (.string ByteArray.empty)) (some b)) := by
      have g1 : w.grownBy (w.setCell ⟨b, 1, none⟩ (.bool true)) (some b) := ⟨rfl, rfl, rfl, by simp, fun k _ hk => heap_setCell_other w ⟨b, 1, none⟩ k _ (fun e => hk (by simp [e]))⟩
      exact g1.trans ⟨rfl, rfl, rfl, by simp, fun k _ hk => heap_setCell_other _ ⟨b, 0, none⟩ k _ (fun e => hk (by simp [e]))⟩
    clear hR hm
    generalize Sg.ofL t = S at *
    generalize t.length = l at *
    go_enter Tryz.func103, Tryz.ntmps103
    go_wp2_with fail
    go_ret
    exact ⟨ret_str2 HT.out, HD.out, HG.out⟩

theorem numL_or (x : Nat) (b : UInt8) : (x * 256) ||| b.toNat = x * 256 + b.toNat := by
  have h : 2 ^ 8 * x + b.toNat = 2 ^ 8 * x ||| b.toNat := Nat.two_pow_add_eq_or_of_lt b.toNat_lt x
  rw [show (2 : Nat) ^ 8 = 256 from rfl, Nat.mul_comm 256 x] at h
  exact h.symm
theorem or_step (x : Nat) (b : UInt8) (hx : x < 256 ^ 7) : bits .or .u64 ((x : Int) * 256) (IntKind.u64.wrap (b.toNat : Int)) = ((x * 256 + b.toNat : Nat) : Int) := by
  have hb : b.toNat < 256 := b.toNat_lt
  have e1 : IntKind.u64.wrap (b.toNat : Int) = (b.toNat : Int) := by simp [IntKind.wrap, IntKind.bits, IntKind.signed]; omega
  have e2 : (x : Int) * 256 = ((x * 256 : Nat) : Int) := by simp
  rw [e1, e2, bits_or_u64_nat _ _ (by omega) (by omega), numL_or]
theorem bytes_row_cell (w1 : World) (l : List UInt8) (cap : Nat) (t : TypeId) (fz : Nat × Nat) (i : Nat) (h : i < l.length) : (w1.drew.alloc (.cells (bytesRow (Sg.ofL l) cap) t fz)).cell? ⟨w1.heap.size, i, none⟩ = some (.int .u8 (l[i].toNat : Int)) := by
  have hh : (w1.drew.alloc (.cells (bytesRow (Sg.ofL l) cap) t fz)).heap[w1.heap.size]? = some (.cells (bytesRow (Sg.ofL l) cap) t fz) := heap_alloc_new w1.drew _
  rw [cell_of_row _ _ i _ _ _ hh]
  unfold bytesRow Sg.ofL
  rw [Array.getElem?_append_left (by simpa using h)]
  simp [h]

set_option maxHeartbeats 1600000 in
/-- Reader.number. -/
theorem rd_number_any (s : Sg.Rs) (k b : Nat) (w : World) (hR : RdAt w b s) (hk : k ≤ 8) :
    Calls Tryz.prog 104 #[.pointer (some ⟨b, 0, none⟩), .int .i64 (k : Int)] w fun e w' => e = .returned (.int .u64 (Sg.numL (s.1.take k) : Int)) ∧ Rdd w w' b (Sg.dr k s) := by
  have hcall := rd_take_any s k b w hR
  clear hR
  go_enter Tryz.func104, Tryz.ntmps104
  go_wp2_with fail
  refine hcall.mono ?_
  rintro e w1 ⟨rfl, hr1⟩
  clear hcall
  obtain ⟨l, hl⟩ : ∃ l, s.1.take k = l := ⟨_, rfl⟩
  rw [hl]
  have hlen : l.length ≤ 8 := by rw [← hl]; simp; omega
  have HL : Hid (s.1.take k = l) := hl
  clear hl
  have hcv := run_bytes_of_string (P := Tryz.prog) w1 9 54 5 (Sg.ofL l) Tryz.underlying9 Tryz.underlying54 Tryz.underlying5
  rw [Sg.ofL_size] at hcv
  obtain ⟨W2, hW2⟩ : ∃ W2, W2 = (w1.drew.alloc (.cells (bytesRow (Sg.ofL l) (grownCap w1 l.length 0 5)) 5 ((bytesRow (Sg.ofL l) (grownCap w1 l.length 0 5)).size, (bytesRow (Sg.ofL l) (grownCap w1 l.length 0 5)).size + 1))) := ⟨_, rfl⟩
  have hb2 : Below w1.heap.size w1 W2 := by rw [hW2]; exact ((Below.refl _ _).drew).alloc (by simp) _
  have hcell : ∀ i (h : i < l.length), W2.cell? ⟨w1.heap.size, i, none⟩ = some (.int .u8 (l[i].toNat : Int)) := by
    intro i hi
    rw [hW2]
    exact bytes_row_cell w1 l _ _ _ i hi
  rw [← hW2] at hcv
  clear hW2
  generalize grownCap w1 l.length 0 5 = gc at *
  have HR2 : Hid (Rdd w W2 b (Sg.dr k s)) := hr1.below hb2
  clear hr1 hb2
  go_wp2_with fail
  go_loopw [5, 13] (fun o i wr => ∃ j : Nat, j ≤ l.length ∧ i = .int .i64 (j : Int) ∧ o = .int .u64 (Sg.numL (l.take j) : Int) ∧ wr = W2) (fun _ i _ => l.length - (intOf i).toNat)
  case atStart => exact ⟨0, by omega, rfl, rfl, rfl⟩
  case round =>
    obtain ⟨j, hj, rfl, rfl, hw⟩ := hrel
    subst hw
    by_cases hlt : j < l.length
    · have hc := hcell j hlt
      have HS : Hid (Sg.numL (l.take (j + 1)) = Sg.numL (l.take j) * 256 + l[j].toNat) := by
        show _ = _
        rw [List.take_succ_eq_append_getElem hlt, Sg.numL_snoc]
      have hN : Sg.numL (l.take j) < 256 ^ 7 := Sg.numL_lt _ _ (by simp; omega)
      have HO := or_step _ l[j] hN
      rw [← HS.out] at HO
      generalize l[j].toNat = y at *
      generalize Sg.numL (l.take j) = x at *
      have HX : Hid (bits .or .u64 ((x : Int) * 256) (IntKind.u64.wrap (y : Int)) = ((Sg.numL (l.take (j + 1)) : Nat) : Int)) := HO
      have i1 : (j : Int) < (l.length : Int) := by omega
      clear HO HS hcell
      go_wp2_with fail
      go_roundw
      case rel => exact ⟨j + 1, by omega, by go_num, by rw [HX.out], trivial⟩
      case measure => simp [intOf]; omega
    · have i1 : ¬ (j : Int) < (l.length : Int) := by omega
      go_wp2_with fail
      go_ret
      refine ⟨?_, HR2.out⟩
      show Ending.returned (.int .u64 (Sg.numL (l.take j) : Int)) = _
      rw [List.take_of_length_le (by omega), HL.out]

theorem Tryz.infoU8b : (Tryz.prog.info? 5).map (fun i => (i.zero, i.size, i.bytes)) = some (some (.int .u8 0), 1, 1) := by kernel_rfl

set_option maxHeartbeats 4000000 in
/-- internal/stringslite.Clone: the same bytes, in new memory. -/
theorem slClone_any (s : ByteArray) (w : World) (hlim : s.size ≤ 281474976710656) :
    Calls Tryz.prog 120 #[.string s] w fun e w' => e = .returned (.string s) ∧ Below w.heap.size w w' := by
  by_cases h0 : s.size = 0
  · have hs : s = ⟨#[]⟩ := by
      apply ByteArray.ext
      exact Array.eq_empty_of_size_eq_zero h0
    subst hs
    go_enter Tryz.func120, Tryz.ntmps120
    go_wp2
    go_ret
    exact ⟨rfl, Below.refl _ _⟩
  · obtain ⟨i0, hi, hz0, hz1, hz2⟩ := info_parts Tryz.infoU8b
    have hinfo : (Tryz.prog.info? 5).map (·.size) = some 1 := by rw [hi]; simp [hz1]
    have hco : Tryz.prog.cellsOf 5 = 1 := by simp [Program.cellsOf, hi, hz1]
    obtain ⟨M, hM⟩ : ∃ M, M = madeCells (Value.int .u8 0).cells (((s.size : Nat) : Int).toNat * i0.size) := ⟨_, rfl⟩
    have hMs : M.size = s.size := by rw [hM, size_madeCells, hz1]; simp
    have hmk : ∀ W : World, (Instr.makeSlice 54 (.int .i64 (s.size : Int)) (.int .i64 (s.size : Int))).run Tryz.prog W = .ok (.slice (some ⟨W.heap.size, 0, none⟩) s.size s.size) (W.alloc (.cells M 5)) := fun W => by
      have h := run_make (P := Tryz.prog) W 54 5 i0 (.int .u8 0) Tryz.underlying54 hi hz0 .i64 .i64 (s.size : Int) (s.size : Int) (by omega) (by omega) (by rw [hz2]; omega) (by omega)
      rw [← hM] at h
      simpa using h
    clear hM
    have hcp := Lib.run_copy_row_string (P := Tryz.prog) (w.alloc (.cells M 5)) 54 9 3 5 w.heap.size 0 s.size s.size s M 5 Tryz.underlying54 hinfo (heap_alloc_new w _) (Nat.le_refl _) (by omega)
    obtain ⟨Y, hY⟩ : ∃ Y, Y = (M.toList.take 0 ++ Lib.byteCells s.data.toList ++ M.toList.drop (0 + s.size)).toArray := ⟨_, rfl⟩
    rw [← hY] at hcp
    have hYl : Y.toList = Lib.byteCells s.data.toList := by
      rw [hY, List.toList_toArray, List.take_zero, List.nil_append, List.drop_of_length_le (by rw [Array.length_toList]; omega), List.append_nil]
    have hYs : Y.size = s.size := by rw [← Array.length_toList, hYl, Lib.byteCells_length, ← Lib.size_eq]
    have hgY : ((w.alloc (.cells M 5)).setRow w.heap.size Y).heap[w.heap.size]? = some (.cells Y 5 (0, 0)) := setRow_heap _ _ M _ 5 (0, 0) (heap_alloc_new w _)
    have hne : s.data.toList ≠ [] := fun e => h0 (by rw [Lib.size_eq, e]; rfl)
    have hUS := Lib.run_unsafeString_row (P := Tryz.prog) ((w.alloc (.cells M 5)).setRow w.heap.size Y) 126 3 9 5 Tryz.underlying126 hco w.heap.size Y.size (by unfold World.shape?; rw [hgY]) s.data.toList hne (by rw [← Lib.size_eq]; omega) (by rw [← Lib.size_eq]; omega)
      (fun j x hx => Lib.cells_of_row hgY Y.size j _ (by rw [List.take_of_length_le (by rw [Array.length_toList]; exact Nat.le_refl _), hYl]; simp [Lib.byteCells, hx]))
    rw [← Lib.size_eq] at hUS
    clear hY
    go_enter Tryz.func120, Tryz.ntmps120
    go_wp2
    go_ret
    have hb1 : Below w.heap.size w (w.alloc (.cells M 5)) := (Below.refl _ w).alloc (Nat.le_refl _) _
    have hb2 : Below w.heap.size (w.alloc (.cells M 5)) ((w.alloc (.cells M 5)).setRow w.heap.size Y) := ⟨rfl, rfl, rfl, by simp, fun k hk => setRow_other _ _ _ _ (by omega)⟩
    exact ⟨rfl, Lib.below_freeze (hb1.trans hb2) (p := ⟨w.heap.size, 0, none⟩) (Nat.le_refl _) _⟩
/-- strings.Clone. -/
theorem rd_clone_any (s : ByteArray) (w : World) (hlim : s.size ≤ 281474976710656) :
    Calls Tryz.prog 102 #[.string s] w fun e w' => e = .returned (.string s) ∧ Below w.heap.size w w' := by
  go_enter Tryz.func102, Tryz.ntmps102
  go_wp2_with fail
  refine (slClone_any s w hlim).mono ?_
  rintro e w1 ⟨rfl, hb⟩
  go_wp2_with fail
  go_ret
  exact ⟨rfl, hb⟩
/-- Reader.Text. -/
theorem rd_text_any (s : Sg.Rs) (m b : Nat) (w : World) (hR : RdAt w b s) (hm : m ≤ 140737488355328) :
    Calls Tryz.prog 68 #[.pointer (some ⟨b, 0, none⟩), .int .i64 (m : Int)] w fun e w' => ∃ y, e = .returned (.string y) ∧ Hid (y = Sg.ofL (s.1.take m)) ∧ y.size ≤ m ∧ Rdd w w' b (Sg.dr m s) := by
  have hcall := rd_take_any s m b w hR
  clear hR
  go_enter Tryz.func68, Tryz.ntmps68
  go_wp2_with fail
  refine hcall.mono ?_
  rintro e w1 ⟨rfl, hr1⟩
  clear hcall
  have hsz : (Sg.ofL (s.1.take m)).size ≤ m := by rw [Sg.ofL_size]; simp; omega
  obtain ⟨y, hy⟩ : ∃ y, y = Sg.ofL (s.1.take m) := ⟨_, rfl⟩
  rw [← hy] at hsz ⊢
  have HY : Hid (y = Sg.ofL (s.1.take m)) := hy
  clear hy
  go_wp2_with fail
  refine (rd_clone_any y _ (by omega)).mono ?_
  rintro e w2 ⟨rfl, hb2⟩
  go_wp2_with fail
  go_ret
  exact ⟨_, rfl, HY, hsz, hr1.below hb2⟩
/-- Reader.One. -/
theorem rd_one_any (s : Sg.Rs) (b : Nat) (w : World) (hR : RdAt w b s) :
    Calls Tryz.prog 70 #[.pointer (some ⟨b, 0, none⟩)] w fun e w' => ∃ k : Nat, e = .returned (.int .i64 (k : Int)) ∧ Hid (k = Sg.pdOne s) ∧ k < 256 ∧ Rdd w w' b (Sg.dr 1 s) := by
  have hcall := rd_number_any s 1 b w hR (by omega)
  have hlt := Sg.one_lt s.1
  clear hR
  obtain ⟨k, hk⟩ : ∃ k, k = Sg.numL (s.1.take 1) := ⟨_, rfl⟩
  rw [← hk] at hlt hcall
  have HK : Hid (k = Sg.pdOne s) := hk
  clear hk
  have hw : IntKind.i64.wrap (k : Int) = (k : Int) := IntWalk.i64_in _ (by omega)
  go_enter Tryz.func70, Tryz.ntmps70
  go_wp2_with fail
  refine hcall.mono ?_
  rintro e w1 ⟨rfl, hr1⟩
  clear hcall
  go_wp2_with fail
  go_ret
  exact ⟨k, rfl, HK, hlt, hr1⟩
/-- Reader.Eight. -/
theorem rd_eight_any (s : Sg.Rs) (b : Nat) (w : World) (hR : RdAt w b s) :
    Calls Tryz.prog 107 #[.pointer (some ⟨b, 0, none⟩)] w fun e w' => ∃ k : Int, e = .returned (.int .i64 k) ∧ Hid (k = Sg.pdNum s) ∧ Rdd w w' b (Sg.dr 8 s) := by
  have hcall := rd_number_any s 8 b w hR (by omega)
  clear hR
  obtain ⟨k, hk⟩ : ∃ k, k = Sg.numL (s.1.take 8) := ⟨_, rfl⟩
  rw [← hk] at hcall
  have HK : Hid (IntKind.i64.wrap (k : Int) = Sg.pdNum s) := by show _ = _; rw [hk]; rfl
  clear hk
  obtain ⟨q, hq⟩ : ∃ q, IntKind.i64.wrap (k : Int) = q := ⟨_, rfl⟩
  rw [hq] at HK
  go_enter Tryz.func107, Tryz.ntmps107
  go_wp2_with fail
  refine hcall.mono ?_
  rintro e w1 ⟨rfl, hr1⟩
  clear hcall
  go_wp2_with fail
  go_ret
  exact ⟨q, rfl, HK, hr1⟩
/-- Reader.Two. -/
theorem rd_two_any (s : Sg.Rs) (b : Nat) (w : World) (hR : RdAt w b s) :
    Calls Tryz.prog 114 #[.pointer (some ⟨b, 0, none⟩)] w fun e w' => ∃ k : Nat, e = .returned (.int .i64 (k : Int)) ∧ Hid (k = Sg.numL (s.1.take 2)) ∧ k < 65536 ∧ Rdd w w' b (Sg.dr 2 s) := by
  have hcall := rd_number_any s 2 b w hR (by omega)
  have hlt : Sg.numL (s.1.take 2) < 256 ^ 2 := Sg.numL_lt _ 2 (by simp; omega)
  clear hR
  obtain ⟨k, hk⟩ : ∃ k, k = Sg.numL (s.1.take 2) := ⟨_, rfl⟩
  rw [← hk] at hlt hcall
  have HK : Hid (k = Sg.numL (s.1.take 2)) := hk
  clear hk
  have hw : IntKind.i64.wrap (k : Int) = (k : Int) := IntWalk.i64_in _ (by omega)
  go_enter Tryz.func114, Tryz.ntmps114
  go_wp2_with fail
  refine hcall.mono ?_
  rintro e w1 ⟨rfl, hr1⟩
  clear hcall
  go_wp2_with fail
  go_ret
  exact ⟨k, rfl, HK, by omega, hr1⟩
end Go.Proofs.YtpkkhkkkgjhkeabGreat

/-
  THE WALKS of book.readPosting, readEntry, and the lists of them.
-/
namespace Go.Proofs.YtpkkhkkkgjhkeabGreat
open Go.RowKit
set_option maxRecDepth 100000
attribute [local go_sem ↓] Go.wp_at_zero Go.wp_at_succ

theorem Rdd.alloc {a w : World} {b : Nat} {s : Sg.Rs} (h : Rdd a w b s) (o : Obj) : Rdd a (w.alloc o) b s := h.below ((Below.refl _ _).alloc (Nat.le_refl _) o)
theorem Rdd.size {a w : World} {b : Nat} {s : Sg.Rs} (h : Rdd a w b s) : a.heap.size ≤ w.heap.size := h.grown.size
theorem Rdd.grownRow {a w w' : World} {b : Nat} {s : Sg.Rs} {row : Option Nat} (h : Rdd a w b s) (hb : b < a.heap.size) (hg : w.grownBy w' row) (hr : ∀ k, row = some k → a.heap.size ≤ k) : Rdd a w' b s := by
  have hs := h.grown.size
  refine ⟨(hg.block b (by omega) (fun e => by have := hr b e.symm; omega)).trans h.at_, ?_⟩
  refine ⟨hg.os.trans h.grown.os, hg.tape.trans h.grown.tape, hg.output.trans h.grown.output, Nat.le_trans h.grown.size hg.size, fun k hk hne => ?_⟩
  exact (hg.block k (by omega) (fun e => by have := hr k e.symm; omega)).trans (h.grown.block k hk hne)
theorem Rdd.setCell {a w : World} {b g j : Nat} {s : Sg.Rs} (h : Rdd a w b s) (hb : b < a.heap.size) (hg : a.heap.size ≤ g) (u : Value) : Rdd a (w.setCell ⟨g, j, none⟩ u) b s :=
  h.grownRow hb (row := some g) ⟨rfl, rfl, rfl, by simp, fun k _ hk => heap_setCell_other w ⟨g, j, none⟩ k u (fun e => hk (by simp [e]))⟩ (fun k hk => by simp at hk; omega)
theorem RdAt.lt {w : World} {b : Nat} {s : Sg.Rs} (h : RdAt w b s) : b < w.heap.size := lt_of_block h
/-- A box of two that was made behind w stands while is read. -/
theorem Two.rdd {a w w' : World} {b g : Nat} {s : Sg.Rs} {x y : Value} {t : TypeId} (h : Two w g x y t) (k : Rdd w w' b s) (hg : b < a.heap.size) (hga : a.heap.size ≤ g) : Two w' g x y t :=
  (k.block (lt_of_block h) (by omega)).trans h
theorem two_frozen {w : World} {g : Nat} {x y : Value} {t : TypeId} (h : Two w g x y t) : w.frozen? ⟨g, 0, none⟩ = false ∧ w.frozen? ⟨g, 1, none⟩ = false := by
  unfold Two at h
  exact ⟨by simp [World.frozen?, h], by simp [World.frozen?, h]⟩

set_option maxHeartbeats 1600000 in
/-- readPosting. -/
theorem readPosting_any (s : Sg.Rs) (b : Nat) (w : World) (hR : RdAt w b s) :
    Calls Tryz.prog 122 #[.pointer (some ⟨b, 0, none⟩)] w fun e w' => ∃ p : Sg.Pst, e = .returned (.agg #[.int .i64 p.acct, .int .i64 p.amt]) ∧ Hid (p = (Sg.pdPst s).1) ∧ Rdd w w' b (Sg.pdPst s).2 := by
  have hlt := hR.lt
  have r0 := (Rdd.here hR).alloc (.cells #[.int .i64 0, .int .i64 0] 49)
  have hT := Two.new w (.int .i64 0) (.int .i64 0) 49
  clear hR
  go_enter Tryz.func122, Tryz.ntmps122
  go_wp2_with fail
  refine (rd_one_any s b _ r0.at_).mono ?_
  rintro e w1 ⟨k, rfl, hk, _, hr1⟩
  have hT1 := hT.rdd hr1 hlt (Nat.le_refl _)
  have r1 := r0.trans hr1
  clear r0 hT hr1
  go_wp2_with fail
  refine (rd_eight_any (Sg.dr 1 s) b _ r1.at_).mono ?_
  rintro e w2 ⟨q, rfl, hq, hr2⟩
  have hT2 := hT1.rdd hr2 hlt (Nat.le_refl _)
  have r2 := r1.trans hr2
  obtain ⟨c0, c1⟩ := hT2.cells
  obtain ⟨f0, f1⟩ := two_frozen hT2
  have HR : Hid (Rdd w ((w2.setCell ⟨w.heap.size, 0, none⟩ (.int .i64 (k : Int))).setCell ⟨w.heap.size, 1, none⟩ (.int .i64 q)) b (Sg.dr 8 (Sg.dr 1 s))) := (r2.setCell hlt (Nat.le_refl _) _).setCell hlt (Nat.le_refl _) _
  clear r1 hr2 hT1
  go_wp2_with fail
  refine bodyPost_ret (v := .agg #[.int .i64 (k : Int), .int .i64 q]) (by simp [results, Tryz.results122, go_sem, c0, c1]) rfl ⟨⟨(k : Int), q⟩, rfl, ?_, HR.out⟩
  show _ = _
  unfold Sg.pdPst
  rw [← hk.out, ← hq.out]

abbrev fPst : Value := .func (.func 122) #[] #[]
theorem pCells_len (ps : List Sg.Pst) : (pCells ps).length = ps.length * 2 := by
  unfold pCells
  induction ps with
  | nil => rfl
  | cons p ps ih => simp only [List.flatMap_cons, List.length_append, List.length_cons, List.length_nil]; rw [ih]; omega
/-- How long a list is. -/
def lenOf : Value → Nat
  | .slice _ n _ => n
  | _ => 0
theorem ownsRow_len {w : World} {B c n : Nat} {e : TypeId} {v : Value} {xs : List Value} (h : w.ownsRow B e c v n xs) : ∃ ao cap, v = .slice ao n cap := by
  rcases h.2 with ⟨e1, rfl, _⟩ | ⟨g, cap, cur, e1, _⟩
  · exact ⟨_, _, e1⟩
  · exact ⟨_, _, e1⟩
theorem OwnP.len_ {w : World} {B : Nat} {v : Value} {ps : List Sg.Pst} (h : OwnP w B v ps) : ∃ ao cap, v = .slice ao ps.length cap := ownsRow_len h
theorem OwnP.nil (w : World) (B : Nat) : OwnP w B (.slice none 0 0) [] := World.ownsRow_nil _ _ _ _
theorem OwnE.len_ {w : World} {B : Nat} {v : Value} {es : List Sg.Ent} (h : OwnE w B v es) : ∃ ao cap, v = .slice ao es.length cap := by
  obtain ⟨us, a, b, c⟩ := h
  exact ownsRow_len b
theorem OwnA.len_ {w : World} {B : Nat} {v : Value} {ac : List Sg.Acc} (h : OwnA w B v ac) : ∃ ao cap, v = .slice ao ac.length cap := ownsRow_len h
theorem OwnA.nil (w : World) (B : Nat) : OwnA w B (.slice none 0 0) [] := World.ownsRow_nil _ _ _ _

set_option maxHeartbeats 3200000 in
/-- List of postings. -/
theorem readPosts_any (s : Sg.Rs) (n b : Nat) (w : World) (hR : RdAt w b s) (hn8 : n < 65536) :
    Calls Tryz.prog 121 #[.pointer (some ⟨b, 0, none⟩), .int .i64 (n : Int), fPst] w fun e w' => ∃ v ps, e = .returned v ∧ Hid (OwnP w' w.heap.size v ps) ∧ Hid (ps = (Sg.pdMany Sg.pdPst n s).1) ∧ Rdd w w' b (Sg.pdMany Sg.pdPst n s).2 := by
  obtain ⟨p0, pi, pz0, pz1, pz2⟩ := info_parts Tryz.infoPst2
  have hlt := hR.lt
  have HR1 : Hid (Rdd w w b s) := Rdd.here hR
  clear hR
  go_enter Tryz.func121, Tryz.ntmps121
  go_wp2_with fail
  go_loopw [7] (fun o wr => ∃ k : Nat, k ≤ n ∧ lenOf o = k ∧ ∃ v ps, v = o ∧ Hid (OwnP wr w.heap.size v ps) ∧ Hid (ps = (Sg.pdMany Sg.pdPst k s).1 ∧ ps.length = k) ∧ Hid (Rdd w wr b (Sg.pdMany Sg.pdPst k s).2)) (fun o _ => n - lenOf o)
  case atStart => exact ⟨0, by omega, rfl, _, [], rfl, OwnP.nil _ _, ⟨rfl, rfl⟩, HR1⟩
  case round =>
    obtain ⟨k, hk, hlo, v, ps, ev, HO, HP, HR⟩ := hrel
    subst ev
    obtain ⟨wz, ewz⟩ : ∃ z : World, z = wr := ⟨_, rfl⟩
    subst ewz
    obtain ⟨aoV, capV, hV⟩ : ∃ ao cap, v = .slice ao k cap := by
      obtain ⟨ao, cap, h⟩ := HO.out.len_
      rw [HP.out.2] at h
      exact ⟨ao, cap, h⟩
    subst hV
    have hfl := HR.out.at_.flag
    have hk8 : k < 65536 := by omega
    by_cases hgo : k < n
    · have g1 : (k : Int) < (n : Int) := by omega
      cases hlk : (Sg.pdMany Sg.pdPst k s).2.2 with
      | true =>
        rw [hlk] at hfl
        have HE : Hid (Sg.pdMany Sg.pdPst n s = Sg.pdMany Sg.pdPst k s) := Sg.pdMany_stop _ k s hlk n hk
        clear hlk
        go_wp2_with fail
        go_ret
        refine ⟨_, ps, rfl, HO, ?_, ?_⟩
        · rw [HE.out]; exact HP.out.1
        · rw [HE.out]; exact HR.out
      | false =>
        rw [hlk] at hfl
        have HS : Hid (Sg.pdMany Sg.pdPst (k + 1) s = ((Sg.pdMany Sg.pdPst k s).1 ++ [(Sg.pdPst (Sg.pdMany Sg.pdPst k s).2).1], (Sg.pdPst (Sg.pdMany Sg.pdPst k s).2).2)) := Sg.pdMany_step _ k s hlk
        clear hlk
        go_wp2_with fail
        refine (readPosting_any _ b wz HR.out.at_).mono ?_
        rintro e w2 ⟨p, rfl, hp, hr2⟩
        have hown : w2.ownsRow w.heap.size 49 2 (.slice aoV k capV) k (pCells ps) := by
          have := ownsRow_keptT HO.out (Rdd.kept HR.out.at_ hr2) (by decide)
          rw [HP.out.2] at this; exact this
        have HR2 : Hid (Rdd w w2 b (Sg.pdMany Sg.pdPst (k + 1) s).2) := by
          rw [HS.out]; exact HR.out.trans hr2
        have HP2 : Hid (ps ++ [p] = (Sg.pdMany Sg.pdPst (k + 1) s).1 ∧ (ps ++ [p]).length = k + 1) := by
          refine ⟨?_, by rw [List.length_append, HP.out.2]; rfl⟩
          rw [HS.out, hp.out, ← HP.out.1]
        have hsz := HR2.out.size
        have HLEN : Hid (ps.length = k) := HP.out.2
        clear HR HO HP hr2 hp HS hfl
        obtain ⟨pa, pn⟩ := p
        go_wp2_with (at_builtin; (refine wpList_append_lies _ rfl _ _ 43 rfl w.heap.size 49 p0 (.agg #[.int .i64 0, .int .i64 0]) 2 16 Tryz.underlying43 pi pz0 pz1 pz2 rfl (by decide) (.slice aoV k capV) k (pCells ps) rfl (hown.alloc _) ⟨w2.heap.size, 0, none⟩ 1 1 [.int .i64 pa, .int .i64 pn] rfl rfl (World.news_of_block (cs := #[.int .i64 pa, .int .i64 pn]) (t := 49) (fr := (0, 0)) (heap_alloc_new w2 _)) (by intro u hu; simp at hu; rcases hu with rfl | rfl <;> rfl) (by omega) (by unfold maxLen; omega) (by omega) (by simp; omega) (w2.heap.size + 1) (by simp) ?_))
        intro g cap' w5 hown5 hgrow _ hlt5
        have HR5 : Hid (Rdd w w5 b (Sg.pdMany Sg.pdPst (k + 1) s).2) := (HR2.out.alloc _).grownRow hlt hgrow (fun q hq => (World.ownsRow.lt hown q hq).1)
        have HO5 : Hid (OwnP w5 w.heap.size (.slice (some ⟨g, 0, none⟩) (k + 1) cap') (ps ++ [⟨pa, pn⟩])) := by
          show OwnP _ _ _ _
          unfold OwnP
          rw [pCells_append, List.length_append, HLEN.out]
          exact hown5
        clear hown5 hgrow hown HR2 hlt5
        go_wp2_with fail
        go_roundw
        case rel => exact ⟨k + 1, by omega, rfl, _, _, rfl, HO5, HP2, HR5⟩
        case measure => simp [lenOf]; omega
    · have hkn : k = n := by omega
      have g1 : ¬ (k : Int) < (n : Int) := by omega
      subst hkn
      go_wp2_with fail
      go_ret
      first | exact ⟨_, ps, rfl, HO, HP.out.1, HR.out⟩ | exact ⟨_, rfl, ps, HO, HP.out.1, HR.out⟩
end Go.Proofs.YtpkkhkkkgjhkeabGreat

/-
  THE WALKS of book.readEntry and the list of entries.
-/
namespace Go.Proofs.YtpkkhkkkgjhkeabGreat
open Go.RowKit
set_option maxRecDepth 100000
attribute [local go_sem ↓] Go.wp_at_zero Go.wp_at_succ

/-- An entry that was read. -/
def RdEntRes (w w' : World) (b : Nat) (s : Sg.Rs) (mm : ByteArray) (pv : Value) : Prop := ∃ pp, OwnP w' w.heap.size pv pp ∧ (⟨mm, pp⟩ : Sg.Ent) = (Sg.pdEnt s).1 ∧ Rdd w w' b (Sg.pdEnt s).2
theorem min_255 {k : Nat} (h : k < 256) : min k 255 = k := by omega

set_option maxHeartbeats 1600000 in
/-- readEntry. -/
theorem readEntry_any (s : Sg.Rs) (b : Nat) (w : World) (hR : RdAt w b s) :
    Calls Tryz.prog 106 #[.pointer (some ⟨b, 0, none⟩)] w fun e w' => ∃ mm pv, e = .returned (.agg #[.string mm, pv]) ∧ RdEntRes w w' b s mm pv := by
  have hlt := hR.lt
  have r0 := (Rdd.here hR).alloc (.cells #[.string { data := #[] }, .slice none 0 0] 45)
  have hT := Two.new w (.string { data := #[] }) (.slice none 0 0) 45
  clear hR
  go_enter Tryz.func106, Tryz.ntmps106
  go_wp2_with fail
  refine (rd_one_any s b _ r0.at_).mono ?_
  rintro e w1 ⟨k, rfl, hk, hk8, hr1⟩
  have hT1 := hT.rdd hr1 hlt (Nat.le_refl _)
  have r1 := r0.trans hr1
  clear r0 hT hr1
  go_wp2_with fail
  refine (rd_text_any (Sg.dr 1 s) k b _ r1.at_ (by omega)).mono ?_
  rintro e w2 ⟨mm, rfl, hm, _, hr2⟩
  have hT2 := hT1.rdd hr2 hlt (Nat.le_refl _)
  have r2 := r1.trans hr2
  clear r1 hT1 hr2
  go_wp2_with fail
  refine (rd_one_any (Sg.dr k (Sg.dr 1 s)) b _ r2.at_).mono ?_
  rintro e w2b ⟨kq, rfl, hkq, hkq8, hr2b⟩
  have hT2b := hT2.rdd hr2b hlt (Nat.le_refl _)
  have r2b := r2.trans hr2b
  clear hT2 r2 hr2b
  go_wp2_with fail
  refine (readPosts_any (Sg.dr 1 (Sg.dr k (Sg.dr 1 s))) kq b _ r2b.at_ (by omega)).mono ?_
  rintro e w3 ⟨pv, pp, rfl, HO, hpp, hr3⟩
  have hT3 := hT2b.rdd hr3 hlt (Nat.le_refl _)
  have r3 := r2b.trans hr3
  obtain ⟨aoX, nX, capX, hX⟩ := OwnP.shape HO.out
  subst hX
  have hsz : w.heap.size < w2b.heap.size := lt_of_block hT2b
  have hO : OwnP w3 (w.heap.size + 1) (.slice aoX nX capX) pp := ownsRow_mono HO.out (by omega)
  obtain ⟨c0, c1⟩ := hT3.cells
  obtain ⟨f0, f1⟩ := two_frozen hT3
  have HE : Hid ((⟨mm, pp⟩ : Sg.Ent) = (Sg.pdEnt s).1 ∧ (Sg.pdMany Sg.pdPst kq (Sg.dr 1 (Sg.dr k (Sg.dr 1 s)))).2 = (Sg.pdEnt s).2) := by
    show _ ∧ _
    unfold Sg.pdEnt
    simp only [← hk.out, ← hkq.out]
    rw [hm.out, hpp.out]
    exact ⟨rfl, trivial⟩
  have HR : Hid (RdEntRes w ((w3.setCell ⟨w.heap.size, 0, none⟩ (.string mm)).setCell ⟨w.heap.size, 1, none⟩ (.slice aoX nX capX)) b s mm (.slice aoX nX capX)) := by
    refine ⟨pp, ?_, HE.out.1, ?_⟩
    · exact ownsRow_mono (ownsRow_setCell_below (ownsRow_setCell_below hO (by show w.heap.size < _; omega) _) (by show w.heap.size < _; omega) _) (Nat.le_succ _)
    · rw [← HE.out.2]
      exact (r3.setCell hlt (Nat.le_refl _) _).setCell hlt (Nat.le_refl _) _
  clear hT2b hT3 r2b hr3 HO hO hpp hm hk hkq HE
  go_wp2_with fail
  refine bodyPost_ret (v := .agg #[.string mm, .slice aoX nX capX]) (by simp [results, Tryz.results106, go_sem, c0, c1]) rfl ⟨mm, _, rfl, HR.out⟩

abbrev fEnt : Value := .func (.func 106) #[] #[]

set_option maxHeartbeats 3200000 in
/-- List of entries. -/
theorem readEnts_any (s : Sg.Rs) (n b : Nat) (w : World) (hR : RdAt w b s) (hn8 : n < 65536) :
    Calls Tryz.prog 105 #[.pointer (some ⟨b, 0, none⟩), .int .i64 (n : Int), fEnt] w fun e w' => ∃ v ps, e = .returned v ∧ Hid (OwnE w' w.heap.size v ps) ∧ Hid (ps = (Sg.pdMany Sg.pdEnt n s).1) ∧ Rdd w w' b (Sg.pdMany Sg.pdEnt n s).2 := by
  obtain ⟨p0, pi, pz0, pz1, pz2⟩ := info_parts Tryz.infoEnt2
  have hlt := hR.lt
  have HR1 : Hid (Rdd w w b s) := Rdd.here hR
  clear hR
  go_enter Tryz.func105, Tryz.ntmps105
  go_wp2_with fail
  go_loopw [7] (fun o wr => ∃ k : Nat, k ≤ n ∧ lenOf o = k ∧ ∃ v ps, v = o ∧ Hid (OwnE wr w.heap.size v ps) ∧ Hid (ps = (Sg.pdMany Sg.pdEnt k s).1 ∧ ps.length = k) ∧ Hid (Rdd w wr b (Sg.pdMany Sg.pdEnt k s).2)) (fun o _ => n - lenOf o)
  case atStart => exact ⟨0, by omega, rfl, _, [], rfl, OwnE.nil _ _, ⟨rfl, rfl⟩, HR1⟩
  case round =>
    obtain ⟨k, hk, hlo, v, ps, ev, HO, HP, HR⟩ := hrel
    subst ev
    obtain ⟨wz, ewz⟩ : ∃ z : World, z = wr := ⟨_, rfl⟩
    subst ewz
    obtain ⟨aoV, capV, hV⟩ : ∃ ao cap, v = .slice ao k cap := by
      obtain ⟨ao, cap, h⟩ := HO.out.len_
      rw [HP.out.2] at h
      exact ⟨ao, cap, h⟩
    subst hV
    have hfl := HR.out.at_.flag
    have hk8 : k < 65536 := by omega
    by_cases hgo : k < n
    · have g1 : (k : Int) < (n : Int) := by omega
      cases hlk : (Sg.pdMany Sg.pdEnt k s).2.2 with
      | true =>
        rw [hlk] at hfl
        have HE : Hid (Sg.pdMany Sg.pdEnt n s = Sg.pdMany Sg.pdEnt k s) := Sg.pdMany_stop _ k s hlk n hk
        clear hlk
        go_wp2_with fail
        go_ret
        refine ⟨_, ps, rfl, HO, ?_, ?_⟩
        · rw [HE.out]; exact HP.out.1
        · rw [HE.out]; exact HR.out
      | false =>
        rw [hlk] at hfl
        have HS : Hid (Sg.pdMany Sg.pdEnt (k + 1) s = ((Sg.pdMany Sg.pdEnt k s).1 ++ [(Sg.pdEnt (Sg.pdMany Sg.pdEnt k s).2).1], (Sg.pdEnt (Sg.pdMany Sg.pdEnt k s).2).2)) := Sg.pdMany_step _ k s hlk
        clear hlk
        go_wp2_with fail
        refine (readEntry_any _ b wz HR.out.at_).mono ?_
        rintro e w2 ⟨mm, pv, rfl, pp, hOp, hp, hr2⟩
        obtain ⟨aoX, nX, capX, hX⟩ := OwnP.shape hOp
        subst hX
        obtain ⟨us, hul, hrow, hus⟩ := HO.out.keptT (Rdd.kept HR.out.at_ hr2) (by decide) (by decide)
        have HR2 : Hid (Rdd w w2 b (Sg.pdMany Sg.pdEnt (k + 1) s).2) := by
          rw [HS.out]; exact HR.out.trans hr2
        have HP2 : Hid (ps ++ [⟨mm, pp⟩] = (Sg.pdMany Sg.pdEnt (k + 1) s).1 ∧ (ps ++ [(⟨mm, pp⟩ : Sg.Ent)]).length = k + 1) := by
          refine ⟨?_, by rw [List.length_append, HP.out.2]; rfl⟩
          rw [HS.out, hp, ← HP.out.1]
        have hwz := HR.out.size
        have HOp : Hid (OwnP w2 w.heap.size (.slice aoX nX capX) pp) := ownsRow_mono hOp hwz
        have hsz := HR2.out.size
        have hrowK : w2.ownsRow w.heap.size 45 2 (.slice aoV k capV) k (eCells ps us) := by rw [HP.out.2] at hrow; exact hrow
        have HLEN : Hid (ps.length = k) := HP.out.2
        clear HR HO HP hr2 hp hOp HS hfl
        go_wp2_with (at_builtin; (refine wpList_append_lies _ rfl _ _ 40 rfl w.heap.size 45 p0 (.agg #[.string ByteArray.empty, .slice none 0 0]) 2 40 Tryz.underlying40 pi pz0 pz1 pz2 rfl (by decide) (.slice aoV k capV) k (eCells ps us) rfl (hrowK.alloc _) ⟨w2.heap.size, 0, none⟩ 1 1 [.string mm, .slice aoX nX capX] rfl rfl (World.news_of_block (cs := #[.string mm, .slice aoX nX capX]) (t := 45) (fr := (0, 0)) (heap_alloc_new w2 _)) (by intro u hu; simp at hu; rcases hu with rfl | rfl <;> rfl) (by omega) (by unfold maxLen; omega) (by omega) (by simp; omega) (w2.heap.size + 1) (by simp) ?_))
        intro g cap' w5 hown5 hgrow _ hlt5
        have HR5 : Hid (Rdd w w5 b (Sg.pdMany Sg.pdEnt (k + 1) s).2) := (HR2.out.alloc _).grownRow hlt hgrow (fun q hq => (World.ownsRow.lt hrowK q hq).1)
        have aY : Below w2.heap.size w2 (w2.alloc (.cells #[.string mm, .slice aoX nX capX] 45)) := (Below.refl _ _).alloc (Nat.le_refl _) _
        have HO5 : Hid (OwnE w5 w.heap.size (.slice (some ⟨g, 0, none⟩) (k + 1) cap') (ps ++ [⟨mm, pp⟩])) :=
          OwnE.push (W := w2.alloc (.cells #[.string mm, .slice aoX nX capX] 45)) (e := ⟨mm, pp⟩) hul (hrow.alloc _) (fun i h h2 => ownsRow_below (hus i h h2) aY) (ownsRow_below HOp.out aY) hgrow (by rw [HLEN.out]; exact hown5)
        clear hown5 hgrow hrow hrowK hus HR2 hlt5 aY
        go_wp2_with fail
        go_roundw
        case rel => exact ⟨k + 1, by omega, rfl, _, _, rfl, HO5, HP2, HR5⟩
        case measure => simp [lenOf]; omega
    · have hkn : k = n := by omega
      have g1 : ¬ (k : Int) < (n : Int) := by omega
      subst hkn
      go_wp2_with fail
      go_ret
      first | exact ⟨_, ps, rfl, HO, HP.out.1, HR.out⟩ | exact ⟨_, rfl, ps, HO, HP.out.1, HR.out⟩
end Go.Proofs.YtpkkhkkkgjhkeabGreat

/-
  THE WALKS of book.readPeriod, of the closure that calls it, and of the list of periods.
-/
namespace Go.Proofs.YtpkkhkkkgjhkeabGreat
open Go.RowKit
set_option maxRecDepth 100000
attribute [local go_sem ↓] Go.wp_at_zero Go.wp_at_succ

/-- A period that was read. -/
def RdPerRes (w w' : World) (b n : Nat) (s : Sg.Rs) (v : Value) : Prop := ∃ es, OwnE w' w.heap.size v es ∧ es = (Sg.pdPer n s).1 ∧ Rdd w w' b (Sg.pdPer n s).2
theorem OwnE.shape' {w : World} {B : Nat} {v : Value} {es : List Sg.Ent} (h : OwnE w B v es) : ∃ ao n cap, v = .slice ao n cap := by
  obtain ⟨us, a, b, c⟩ := h
  rcases b.2 with ⟨e, h0⟩ | ⟨g, cap, cur, e, _⟩
  · exact ⟨_, _, _, e⟩
  · exact ⟨_, _, _, e⟩
theorem OwnE.setCell_below {w : World} {B g j : Nat} {v : Value} {es : List Sg.Ent} (h : OwnE w B v es) (hg : g < B) (u : Value) : OwnE (w.setCell ⟨g, j, none⟩ u) B v es := by
  obtain ⟨us, a, b, c⟩ := h
  exact ⟨us, a, ownsRow_setCell_below b hg _, fun i hi hi2 => ownsRow_setCell_below (c i hi hi2) hg _⟩

set_option maxHeartbeats 1600000 in
/-- readPeriod. -/
theorem readPeriod_any (s : Sg.Rs) (b n : Nat) (w : World) (hR : RdAt w b s) (hn : n ≤ 255) :
    Calls Tryz.prog 74 #[.pointer (some ⟨b, 0, none⟩), .int .i64 (n : Int)] w fun e w' => ∃ v, e = .returned (.agg #[v]) ∧ RdPerRes w w' b n s v := by
  have hlt := hR.lt
  have r0 := (Rdd.here hR).alloc (.cells #[.slice none 0 0] 42)
  have hT : (w.alloc (.cells #[.slice none 0 0] 42)).heap[w.heap.size]? = some (.cells #[.slice none 0 0] 42 (0, 0)) := heap_alloc_new w _
  clear hR
  go_enter Tryz.func74, Tryz.ntmps74
  go_wp2_with fail
  refine (rd_one_any s b _ r0.at_).mono ?_
  rintro e w0 ⟨kq, rfl, hkq, hkq8, hr0⟩
  have hT0 : w0.heap[w.heap.size]? = some (.cells #[.slice none 0 0] 42 (0, 0)) := (hr0.block (lt_of_block hT) (by omega)).trans hT
  have r0b := r0.trans hr0
  have hsz0 : w.heap.size < w0.heap.size := lt_of_block hT0
  clear hT hr0 r0
  go_wp2_with fail
  refine (readEnts_any (Sg.dr 1 s) kq b _ r0b.at_ (by omega)).mono ?_
  rintro e w1 ⟨v, es, rfl, HO0, hes, hr1⟩
  have HO : Hid (OwnE w1 (w.heap.size + 1) v es) := HO0.out.mono (by omega)
  have hT1 : w1.heap[w.heap.size]? = some (.cells #[.slice none 0 0] 42 (0, 0)) := (hr1.block (lt_of_block hT0) (by omega)).trans hT0
  obtain ⟨aoX, nX, capX, hX⟩ := HO.out.shape'
  subst hX
  have hwn : IntKind.i64.wrap ((n : Int) + 4) = ((n + 4 : Nat) : Int) := by rw [IntWalk.i64_in _ (by omega)]; omega
  obtain ⟨s1, hs1⟩ : ∃ s1, (Sg.pdMany Sg.pdEnt kq (Sg.dr 1 s)).2 = s1 := ⟨_, rfl⟩
  rw [hs1] at hr1
  have HI0 : Hid (Rdd w w1 b s1 ∧ OwnE w1 (w.heap.size + 1) (.slice aoX nX capX) es ∧ w1.heap[w.heap.size]? = some (.cells #[.slice none 0 0] 42 (0, 0))) := ⟨r0b.trans hr1, HO.out, hT1⟩
  have HE : Hid (es = (Sg.pdPer n s).1 ∧ Sg.drs (n + 4) s1 = (Sg.pdPer n s).2) := by
    show _ ∧ _
    unfold Sg.pdPer
    simp only [← hkq.out]
    rw [hes.out, hs1]
    exact ⟨rfl, rfl⟩
  clear r0b hT0 hr1 hT1 hes HO HO0 hs1 hkq
  obtain ⟨m, hm⟩ : ∃ m, n + 4 = m := ⟨_, rfl⟩
  rw [hm] at hwn HE
  have hm2 : m ≤ 259 := by omega
  clear hm
  go_wp2_with fail
  go_loopw [12] (fun i wr => ∃ k : Nat, k ≤ m ∧ i = .int .i64 (k : Int) ∧ Hid (Rdd w wr b (Sg.drs k s1) ∧ OwnE wr (w.heap.size + 1) (.slice aoX nX capX) es ∧ wr.heap[w.heap.size]? = some (.cells #[.slice none 0 0] 42 (0, 0)))) (fun i _ => m - (intOf i).toNat)
  case atStart => exact ⟨0, by omega, rfl, HI0⟩
  case round =>
    obtain ⟨k, hk, rfl, HI⟩ := hrel
    obtain ⟨wz, ewz⟩ : ∃ z : World, z = wr := ⟨_, rfl⟩
    subst ewz
    clear HI0
    obtain ⟨hr, hO, hB⟩ := HI.out
    by_cases hgo : k < m
    · have g1 : (k : Int) < (m : Int) := by omega
      go_wp2_with fail
      refine (rd_eight_any _ b wz hr.at_).mono ?_
      rintro e w2 ⟨q, rfl, _, hr2⟩
      have HI2 : Hid (Rdd w w2 b (Sg.drs (k + 1) s1) ∧ OwnE w2 (w.heap.size + 1) (.slice aoX nX capX) es ∧ w2.heap[w.heap.size]? = some (.cells #[.slice none 0 0] 42 (0, 0))) := by
        refine ⟨?_, hO.keptT (Rdd.kept hr.at_ hr2) (by decide) (by decide), (hr2.block (lt_of_block hB) (by omega)).trans hB⟩
        exact hr.trans hr2
      clear hr hO hB HI hr2
      go_wp2_with fail
      go_roundw
      case rel => exact ⟨k + 1, by omega, by go_num, HI2⟩
      case measure => simp [intOf]; omega
    · have g1 : ¬ (k : Int) < (m : Int) := by omega
      have hkm : k = m := by omega
      rw [hkm, HE.out.2] at hr
      have c0 : wz.cell? ⟨w.heap.size, 0, none⟩ = some (.slice none 0 0) := by rw [cell_of_row wz _ 0 _ _ _ hB]; rfl
      have f0 : wz.frozen? ⟨w.heap.size, 0, none⟩ = false := by simp [World.frozen?, hB]
      have HR : Hid (RdPerRes w (wz.setCell ⟨w.heap.size, 0, none⟩ (.slice aoX nX capX)) b n s (.slice aoX nX capX)) := by
        refine ⟨es, ?_, HE.out.1, hr.setCell hlt (Nat.le_refl _) _⟩
        exact (hO.setCell_below (by omega) _).mono (Nat.le_succ _)
      clear hr hO hB HI HE hkm
      go_wp2_with fail
      refine bodyPost_ret (v := .agg #[.slice aoX nX capX]) (by simp [results, Tryz.results74, go_sem, c0]) rfl ⟨_, rfl, HR.out⟩

/-- The closure: it knows where the accounts lie. -/
abbrev fPer (ab : Nat) : Value := .func (.func 73) #[] #[.pointer (some ⟨ab, 0, none⟩)]
def AccBox (w : World) (ab n : Nat) : Prop := ∃ ao cap, w.heap[ab]? = some (.cells #[.slice ao n cap] 23 (0, 0))
theorem AccBox.rdd {w w' : World} {b ab n : Nat} {s s' : Sg.Rs} (h : AccBox w ab n) (hR : RdAt w b s) (k : Rdd w w' b s') : AccBox w' ab n := by
  obtain ⟨ao, cap, h⟩ := h
  exact ⟨ao, cap, (Rdd.kept hR k) _ _ _ _ h (by decide)⟩

set_option maxHeartbeats 1600000 in
theorem readPer_any (s : Sg.Rs) (b ab n : Nat) (w : World) (hR : RdAt w b s) (hn : n ≤ 255) (hA : AccBox w ab n) :
    Calls Tryz.prog 73 #[.pointer (some ⟨b, 0, none⟩), .pointer (some ⟨ab, 0, none⟩)] w fun e w' => ∃ v, e = .returned (.agg #[v]) ∧ RdPerRes w w' b n s v := by
  have hlt := hR.lt
  obtain ⟨ao, cap, hA⟩ := hA
  have r0 := (Rdd.here hR).alloc (.cells #[.slice none 0 0] 42)
  have hT : (w.alloc (.cells #[.slice none 0 0] 42)).heap[w.heap.size]? = some (.cells #[.slice none 0 0] 42 (0, 0)) := heap_alloc_new w _
  have hc : w.cell? ⟨ab, 0, none⟩ = some (.slice ao n cap) := by rw [cell_of_row w _ 0 _ _ _ hA]; rfl
  have hab := lt_of_block hA
  clear hR hA
  go_enter Tryz.func73, Tryz.ntmps73
  go_wp2_with fail
  refine (readPeriod_any s b n _ r0.at_ hn).mono ?_
  rintro e w1 ⟨v, rfl, es, hO, hes, hr1⟩
  obtain ⟨aoX, nX, capX, hX⟩ := hO.shape'
  subst hX
  have hB : w1.heap[w.heap.size]? = some (.cells #[.slice none 0 0] 42 (0, 0)) := (hr1.block (lt_of_block hT) (by omega)).trans hT
  have c0 : w1.cell? ⟨w.heap.size, 0, none⟩ = some (.slice none 0 0) := by rw [cell_of_row w1 _ 0 _ _ _ hB]; rfl
  have f0 : w1.frozen? ⟨w.heap.size, 0, none⟩ = false := by simp [World.frozen?, hB]
  have e0 : (w.alloc (.cells #[.slice none 0 0] 42)).heap.size = w.heap.size + 1 := by simp
  rw [e0] at hO
  have HR : Hid (RdPerRes w (w1.setCell ⟨w.heap.size, 0, none⟩ (.slice aoX nX capX)) b n s (.slice aoX nX capX)) := by
    refine ⟨es, ?_, hes, (r0.trans hr1).setCell hlt (Nat.le_refl _) _⟩
    exact (hO.setCell_below (by omega) _).mono (Nat.le_succ _)
  clear hO hes hr1 hT r0 e0 hc
  go_wp2_with fail
  refine bodyPost_ret (v := .agg #[.slice aoX nX capX]) (by simp [results, Tryz.results73, go_sem, c0]) rfl ⟨_, rfl, HR.out⟩

/-- No two of these lie in one block. -/
def Apart (us : List Value) : Prop := ∀ (i j : Nat) (u v : Value) (g : Nat), i < j → us[i]? = some u → us[j]? = some v → u.ownBlock = some g → v.ownBlock ≠ some g
theorem Apart.snoc {us : List Value} {u : Value} {m : Nat} (h : Apart us) (h1 : ∀ x ∈ us, ∀ g, x.ownBlock = some g → g < m) (h2 : ∀ g, u.ownBlock = some g → m ≤ g) : Apart (us ++ [u]) := by
  intro i j x y g hij hx hy hg hc
  by_cases hj : j < us.length
  · rw [List.getElem?_append_left hj] at hy
    rw [List.getElem?_append_left (by omega)] at hx
    exact h i j x y g hij hx hy hg hc
  · have hjl : j < (us ++ [u]).length := (List.getElem?_eq_some_iff.1 hy).1
    rw [List.length_append, List.length_cons, List.length_nil] at hjl
    have ej : j = us.length := by omega
    subst ej
    rw [List.getElem?_append_right (Nat.le_refl _)] at hy
    simp at hy
    subst hy
    rw [List.getElem?_append_left (by omega)] at hx
    have k1 := h1 x (List.mem_of_getElem? hx) g hg
    have k2 := h2 g hc
    omega
/-- A list of periods of the call's own, the lists of entries apart. -/
def OwnPsA (w : World) (B : Nat) (v : Value) (ps : List (List Sg.Ent)) : Prop :=
  ∃ us : List Value, us.length = ps.length ∧ w.ownsRow B 42 1 v ps.length us ∧ (∀ i (h : i < ps.length) (h2 : i < us.length), OwnE w B us[i] ps[i]) ∧ Apart us
theorem OwnPsA.own {w : World} {B : Nat} {v : Value} {ps : List (List Sg.Ent)} (h : OwnPsA w B v ps) : OwnPs w B v ps := by
  obtain ⟨us, a, b, c, _⟩ := h
  exact ⟨us, a, b, c⟩
theorem OwnPsA.nil (w : World) (B : Nat) : OwnPsA w B (.slice none 0 0) [] := ⟨[], rfl, World.ownsRow_nil _ _ _ _, fun i h => absurd h (by simp), fun i j u v g _ hx => by simp at hx⟩
theorem OwnPsA.mono {w : World} {B B' : Nat} {v : Value} {ps : List (List Sg.Ent)} (h : OwnPsA w B v ps) (hB : B' ≤ B) : OwnPsA w B' v ps := by
  obtain ⟨us, a, b, c, d⟩ := h
  exact ⟨us, a, ownsRow_mono b hB, fun i hi hi2 => (c i hi hi2).mono hB, d⟩
theorem OwnPsA.below {w w' : World} {B : Nat} {v : Value} {ps : List (List Sg.Ent)} (h : OwnPsA w B v ps) (hb : Below w.heap.size w w') : OwnPsA w' B v ps := by
  obtain ⟨us, a, b, c, d⟩ := h
  exact ⟨us, a, ownsRow_below b hb, fun i hi hi2 => (c i hi hi2).below hb, d⟩
theorem OwnPsA.setCell_below {w : World} {B g j : Nat} {v : Value} {ps : List (List Sg.Ent)} (h : OwnPsA w B v ps) (hg : g < B) (u : Value) : OwnPsA (w.setCell ⟨g, j, none⟩ u) B v ps := by
  obtain ⟨us, a, b, c, d⟩ := h
  exact ⟨us, a, ownsRow_setCell_below b hg _, fun i hi hi2 => (c i hi hi2).setCell_below hg _, d⟩
theorem OwnE.lt {w : World} {B g : Nat} {v : Value} {es : List Sg.Ent} (h : OwnE w B v es) (hg : v.ownBlock = some g) : B ≤ g ∧ g < w.heap.size := by
  obtain ⟨us, a, b, c⟩ := h
  exact World.ownsRow.lt b g hg
/-- A period more. -/
theorem OwnPsA.push {W w' : World} {B : Nat} {v v' u : Value} {ps : List (List Sg.Ent)} {us : List Value} {p : List Sg.Ent} (hlen : us.length = ps.length) (hrow : W.ownsRow B 42 1 v ps.length us) (hes : ∀ i (h : i < ps.length) (h2 : i < us.length), OwnE W B us[i] ps[i]) (hu : OwnE W B u p) (hap : Apart (us ++ [u]))
    (hg : W.grownBy w' v.ownBlock) (hown : w'.ownsRow B 42 1 v' (ps.length + 1) (us ++ [u])) : OwnPsA w' B v' (ps ++ [p]) := by
  have hk := keptT_append hrow hg
  refine ⟨us ++ [u], by simp [hlen], ?_, fun i hi hi2 => ?_, hap⟩
  · rw [List.length_append]
    exact hown
  · rw [List.length_append, List.length_cons, List.length_nil] at hi
    by_cases e1 : i = ps.length
    · subst e1
      rw [List.getElem_append_right (by omega), List.getElem_append_right (by omega)]
      simp only [hlen, Nat.sub_self, List.getElem_cons_zero]
      exact hu.keptT hk (by decide) (by decide)
    · rw [List.getElem_append_left (by omega), List.getElem_append_left (by omega)]
      exact (hes i (by omega) (by omega)).keptT hk (by decide) (by decide)
theorem OwnPsA.len_ {w : World} {B : Nat} {v : Value} {ps : List (List Sg.Ent)} (h : OwnPsA w B v ps) : ∃ ao cap, v = .slice ao ps.length cap := by
  obtain ⟨us, a, b, c⟩ := h
  exact ownsRow_len b

set_option maxHeartbeats 3200000 in
/-- List of periods. -/
theorem readPers_any (s : Sg.Rs) (n b : Nat) (w : World) (hR : RdAt w b s) (hn8 : n < 65536) (ab n0 : Nat) (hn0 : n0 ≤ 255) (hA : AccBox w ab n0) :
    Calls Tryz.prog 72 #[.pointer (some ⟨b, 0, none⟩), .int .i64 (n : Int), fPer ab] w fun e w' => ∃ v ps, e = .returned v ∧ Hid (OwnPsA w' w.heap.size v ps) ∧ Hid (ps = (Sg.pdMany (Sg.pdPer n0) n s).1) ∧ Rdd w w' b (Sg.pdMany (Sg.pdPer n0) n s).2 := by
  obtain ⟨p0, pi, pz0, pz1, pz2⟩ := info_parts Tryz.infoPer1
  have hlt := hR.lt
  have HR1 : Hid (Rdd w w b s) := Rdd.here hR
  have HA : Hid (∀ w' s', Rdd w w' b s' → AccBox w' ab n0) := fun w' s' h => hA.rdd hR h
  clear hR hA
  go_enter Tryz.func72, Tryz.ntmps72
  go_wp2_with fail
  go_loopw [7] (fun o wr => ∃ k : Nat, k ≤ n ∧ lenOf o = k ∧ ∃ v ps, v = o ∧ Hid (OwnPsA wr w.heap.size v ps) ∧ Hid (ps = (Sg.pdMany (Sg.pdPer n0) k s).1 ∧ ps.length = k) ∧ Hid (Rdd w wr b (Sg.pdMany (Sg.pdPer n0) k s).2)) (fun o _ => n - lenOf o)
  case atStart => exact ⟨0, by omega, rfl, _, [], rfl, OwnPsA.nil _ _, ⟨rfl, rfl⟩, HR1⟩
  case round =>
    obtain ⟨k, hk, hlo, v, ps, ev, HO, HP, HR⟩ := hrel
    subst ev
    obtain ⟨wz, ewz⟩ : ∃ z : World, z = wr := ⟨_, rfl⟩
    subst ewz
    obtain ⟨aoV, capV, hV⟩ : ∃ ao cap, v = .slice ao k cap := by
      obtain ⟨ao, cap, h⟩ := HO.out.len_
      rw [HP.out.2] at h
      exact ⟨ao, cap, h⟩
    subst hV
    have hfl := HR.out.at_.flag
    have hk8 : k < 65536 := by omega
    by_cases hgo : k < n
    · have g1 : (k : Int) < (n : Int) := by omega
      cases hlk : (Sg.pdMany (Sg.pdPer n0) k s).2.2 with
      | true =>
        rw [hlk] at hfl
        have HE : Hid (Sg.pdMany (Sg.pdPer n0) n s = Sg.pdMany (Sg.pdPer n0) k s) := Sg.pdMany_stop _ k s hlk n hk
        clear hlk
        go_wp2_with fail
        go_ret
        refine ⟨_, ps, rfl, HO, ?_, ?_⟩
        · rw [HE.out]; exact HP.out.1
        · rw [HE.out]; exact HR.out
      | false =>
        rw [hlk] at hfl
        have HS : Hid (Sg.pdMany (Sg.pdPer n0) (k + 1) s = ((Sg.pdMany (Sg.pdPer n0) k s).1 ++ [((Sg.pdPer n0) (Sg.pdMany (Sg.pdPer n0) k s).2).1], ((Sg.pdPer n0) (Sg.pdMany (Sg.pdPer n0) k s).2).2)) := Sg.pdMany_step _ k s hlk
        clear hlk
        have hbox := HA.out wz _ HR.out
        go_wp2_with fail
        refine (readPer_any _ b ab n0 wz HR.out.at_ hn0 hbox).mono ?_
        rintro e w2 ⟨u, rfl, es, hOp, hp, hr2⟩
        obtain ⟨aoX, nX, capX, hX⟩ := hOp.shape'
        subst hX
        obtain ⟨us, hul, hrow0, hus0, hap0⟩ := HO.out
        have hkR := Rdd.kept HR.out.at_ hr2
        have hrow := ownsRow_keptT hrow0 hkR (by decide)
        have hus : ∀ i (h : i < ps.length) (h2 : i < us.length), OwnE w2 w.heap.size us[i] ps[i] := fun i h h2 => (hus0 i h h2).keptT hkR (by decide) (by decide)
        have HAp : Hid (Apart (us ++ [.slice aoX nX capX])) := hap0.snoc (m := wz.heap.size) (fun x hx g hg => by
          obtain ⟨i, hi, rfl⟩ := List.getElem_of_mem hx
          exact ((hus0 i (by omega) hi).lt hg).2) (fun g hg => (hOp.lt hg).1)
        have HR2 : Hid (Rdd w w2 b (Sg.pdMany (Sg.pdPer n0) (k + 1) s).2) := by
          rw [HS.out]; exact HR.out.trans hr2
        have HP2 : Hid (ps ++ [es] = (Sg.pdMany (Sg.pdPer n0) (k + 1) s).1 ∧ (ps ++ [es]).length = k + 1) := by
          refine ⟨?_, by rw [List.length_append, HP.out.2]; rfl⟩
          rw [HS.out, hp, ← HP.out.1]
        have hwz := HR.out.size
        have HOp : Hid (OwnE w2 w.heap.size (.slice aoX nX capX) es) := hOp.mono hwz
        have hsz := HR2.out.size
        have hrowK : w2.ownsRow w.heap.size 42 1 (.slice aoV k capV) k us := by rw [HP.out.2] at hrow; exact hrow
        have HLEN : Hid (ps.length = k) := HP.out.2
        clear HR HO HP hr2 hp hOp hbox hrow0 hus0 hap0 hkR HS hfl
        go_wp2_with (at_builtin; (refine wpList_append_lies _ rfl _ _ 24 rfl w.heap.size 42 p0 (.agg #[.slice none 0 0]) 1 24 Tryz.underlying24 pi pz0 pz1 pz2 rfl (by decide) (.slice aoV k capV) k us rfl (hrowK.alloc _) ⟨w2.heap.size, 0, none⟩ 1 1 [.slice aoX nX capX] rfl rfl (World.news_of_block (cs := #[.slice aoX nX capX]) (t := 42) (fr := (0, 0)) (heap_alloc_new w2 _)) (by intro u hu; simp at hu; subst hu; rfl) (by omega) (by unfold maxLen; omega) (by omega) (by simp; omega) (w2.heap.size + 1) (by simp) ?_))
        intro g cap' w5 hown5 hgrow _ hlt5
        have HR5 : Hid (Rdd w w5 b (Sg.pdMany (Sg.pdPer n0) (k + 1) s).2) := (HR2.out.alloc _).grownRow hlt hgrow (fun q hq => (World.ownsRow.lt hrowK q hq).1)
        have aY : Below w2.heap.size w2 (w2.alloc (.cells #[.slice aoX nX capX] 42)) := (Below.refl _ _).alloc (Nat.le_refl _) _
        have HO5 : Hid (OwnPsA w5 w.heap.size (.slice (some ⟨g, 0, none⟩) (k + 1) cap') (ps ++ [es])) :=
          OwnPsA.push (W := w2.alloc (.cells #[.slice aoX nX capX] 42)) hul (hrow.alloc _) (fun i h h2 => (hus i h h2).below aY) (HOp.out.below aY) HAp.out hgrow (by rw [HLEN.out]; exact hown5)
        clear hown5 hgrow hrow hrowK hus HR2 hlt5 aY
        go_wp2_with fail
        go_roundw
        case rel => exact ⟨k + 1, by omega, rfl, _, _, rfl, HO5, HP2, HR5⟩
        case measure => simp [lenOf]; omega
    · have hkn : k = n := by omega
      have g1 : ¬ (k : Int) < (n : Int) := by omega
      subst hkn
      go_wp2_with fail
      go_ret
      first | exact ⟨_, ps, rfl, HO, HP.out.1, HR.out⟩ | exact ⟨_, rfl, ps, HO, HP.out.1, HR.out⟩
end Go.Proofs.YtpkkhkkkgjhkeabGreat

/-
  THE WALKS of book.readAccount, of the list of accounts, of book.readHistory, lay.Read.
-/
namespace Go.Proofs.YtpkkhkkkgjhkeabGreat
open Go.RowKit
set_option maxRecDepth 100000
attribute [local go_sem ↓] Go.wp_at_zero Go.wp_at_succ

set_option maxHeartbeats 1600000 in
/-- readAccount. -/
theorem readAccount_any (s : Sg.Rs) (b : Nat) (w : World) (hR : RdAt w b s) :
    Calls Tryz.prog 71 #[.pointer (some ⟨b, 0, none⟩)] w fun e w' => ∃ a : Sg.Acc, e = .returned (.agg #[.string a.name, .int .i64 a.line]) ∧ Hid (a = (Sg.pdAcc s).1) ∧ Rdd w w' b (Sg.pdAcc s).2 := by
  have hlt := hR.lt
  have r0 := (Rdd.here hR).alloc (.cells #[.string { data := #[] }, .int .i64 0] 47)
  have hT := Two.new w (.string { data := #[] }) (.int .i64 0) 47
  clear hR
  go_enter Tryz.func71, Tryz.ntmps71
  go_wp2_with fail
  refine (rd_one_any s b _ r0.at_).mono ?_
  rintro e w1 ⟨k, rfl, hk, hk8, hr1⟩
  have hT1 := hT.rdd hr1 hlt (Nat.le_refl _)
  have r1 := r0.trans hr1
  clear r0 hT hr1
  go_wp2_with fail
  refine (rd_text_any (Sg.dr 1 s) k b _ r1.at_ (by omega)).mono ?_
  rintro e w2 ⟨mm, rfl, hm, _, hr2⟩
  have hT2 := hT1.rdd hr2 hlt (Nat.le_refl _)
  have r2 := r1.trans hr2
  clear r1 hT1 hr2
  go_wp2_with fail
  refine (rd_one_any (Sg.dr k (Sg.dr 1 s)) b _ r2.at_).mono ?_
  rintro e w3 ⟨q, rfl, hq, _, hr3⟩
  have hT3 := hT2.rdd hr3 hlt (Nat.le_refl _)
  have r3 := r2.trans hr3
  obtain ⟨c0, c1⟩ := hT3.cells
  obtain ⟨f0, f1⟩ := two_frozen hT3
  have HE : Hid ((⟨mm, (q : Int)⟩ : Sg.Acc) = (Sg.pdAcc s).1 ∧ Sg.dr 1 (Sg.dr k (Sg.dr 1 s)) = (Sg.pdAcc s).2) := by
    show _ ∧ _
    unfold Sg.pdAcc
    simp only [← hk.out]
    rw [hm.out, hq.out]
    exact ⟨rfl, trivial⟩
  have HR : Hid (Rdd w ((w3.setCell ⟨w.heap.size, 0, none⟩ (.string mm)).setCell ⟨w.heap.size, 1, none⟩ (.int .i64 (q : Int))) b (Sg.pdAcc s).2) := by
    rw [← HE.out.2]
    exact (r3.setCell hlt (Nat.le_refl _) _).setCell hlt (Nat.le_refl _) _
  clear hT2 hT3 r2 hr3 hm hk hq
  go_wp2_with fail
  refine bodyPost_ret (v := .agg #[.string mm, .int .i64 (q : Int)]) (by simp [results, Tryz.results71, go_sem, c0, c1]) rfl ⟨⟨mm, (q : Int)⟩, rfl, HE.out.1, HR.out⟩

abbrev fAcc : Value := .func (.func 71) #[] #[]

set_option maxHeartbeats 3200000 in
/-- List of accounts. -/
theorem readAccs_any (s : Sg.Rs) (n b : Nat) (w : World) (hR : RdAt w b s) (hn8 : n < 65536) :
    Calls Tryz.prog 69 #[.pointer (some ⟨b, 0, none⟩), .int .i64 (n : Int), fAcc] w fun e w' => ∃ v ps, e = .returned v ∧ Hid (OwnA w' w.heap.size v ps) ∧ Hid (ps = (Sg.pdMany Sg.pdAcc n s).1) ∧ Rdd w w' b (Sg.pdMany Sg.pdAcc n s).2 := by
  obtain ⟨p0, pi, pz0, pz1, pz2⟩ := info_parts Tryz.infoAcc2
  have hlt := hR.lt
  have HR1 : Hid (Rdd w w b s) := Rdd.here hR
  clear hR
  go_enter Tryz.func69, Tryz.ntmps69
  go_wp2_with fail
  go_loopw [7] (fun o wr => ∃ k : Nat, k ≤ n ∧ lenOf o = k ∧ ∃ v ps, v = o ∧ Hid (OwnA wr w.heap.size v ps) ∧ Hid (ps = (Sg.pdMany Sg.pdAcc k s).1 ∧ ps.length = k) ∧ Hid (Rdd w wr b (Sg.pdMany Sg.pdAcc k s).2)) (fun o _ => n - lenOf o)
  case atStart => exact ⟨0, by omega, rfl, _, [], rfl, OwnA.nil _ _, ⟨rfl, rfl⟩, HR1⟩
  case round =>
    obtain ⟨k, hk, hlo, v, ps, ev, HO, HP, HR⟩ := hrel
    subst ev
    obtain ⟨wz, ewz⟩ : ∃ z : World, z = wr := ⟨_, rfl⟩
    subst ewz
    obtain ⟨aoV, capV, hV⟩ : ∃ ao cap, v = .slice ao k cap := by
      obtain ⟨ao, cap, h⟩ := HO.out.len_
      rw [HP.out.2] at h
      exact ⟨ao, cap, h⟩
    subst hV
    have hfl := HR.out.at_.flag
    have hk8 : k < 65536 := by omega
    by_cases hgo : k < n
    · have g1 : (k : Int) < (n : Int) := by omega
      cases hlk : (Sg.pdMany Sg.pdAcc k s).2.2 with
      | true =>
        rw [hlk] at hfl
        have HE : Hid (Sg.pdMany Sg.pdAcc n s = Sg.pdMany Sg.pdAcc k s) := Sg.pdMany_stop _ k s hlk n hk
        clear hlk
        go_wp2_with fail
        go_ret
        refine ⟨_, ps, rfl, HO, ?_, ?_⟩
        · rw [HE.out]; exact HP.out.1
        · rw [HE.out]; exact HR.out
      | false =>
        rw [hlk] at hfl
        have HS : Hid (Sg.pdMany Sg.pdAcc (k + 1) s = ((Sg.pdMany Sg.pdAcc k s).1 ++ [(Sg.pdAcc (Sg.pdMany Sg.pdAcc k s).2).1], (Sg.pdAcc (Sg.pdMany Sg.pdAcc k s).2).2)) := Sg.pdMany_step _ k s hlk
        clear hlk
        go_wp2_with fail
        refine (readAccount_any _ b wz HR.out.at_).mono ?_
        rintro e w2 ⟨p, rfl, hp, hr2⟩
        have hown : w2.ownsRow w.heap.size 47 2 (.slice aoV k capV) k (aCells ps) := by
          have := ownsRow_keptT HO.out (Rdd.kept HR.out.at_ hr2) (by decide)
          rw [HP.out.2] at this; exact this
        have HR2 : Hid (Rdd w w2 b (Sg.pdMany Sg.pdAcc (k + 1) s).2) := by
          rw [HS.out]; exact HR.out.trans hr2
        have HP2 : Hid (ps ++ [p] = (Sg.pdMany Sg.pdAcc (k + 1) s).1 ∧ (ps ++ [p]).length = k + 1) := by
          refine ⟨?_, by rw [List.length_append, HP.out.2]; rfl⟩
          rw [HS.out, hp.out, ← HP.out.1]
        have hsz := HR2.out.size
        have HLEN : Hid (ps.length = k) := HP.out.2
        clear HR HO HP hr2 hp HS hfl
        obtain ⟨pa, pn⟩ := p
        go_wp2_with (at_builtin; (refine wpList_append_lies _ rfl _ _ 23 rfl w.heap.size 47 p0 _ 2 24 Tryz.underlying23 pi pz0 pz1 pz2 rfl (by decide) (.slice aoV k capV) k (aCells ps) rfl (hown.alloc _) ⟨w2.heap.size, 0, none⟩ 1 1 [.string pa, .int .i64 pn] rfl rfl (World.news_of_block (cs := #[.string pa, .int .i64 pn]) (t := 47) (fr := (0, 0)) (heap_alloc_new w2 _)) (by intro u hu; simp at hu; rcases hu with rfl | rfl <;> rfl) (by omega) (by unfold maxLen; omega) (by omega) (by simp; omega) (w2.heap.size + 1) (by simp) ?_))
        intro g cap' w5 hown5 hgrow _ hlt5
        have HR5 : Hid (Rdd w w5 b (Sg.pdMany Sg.pdAcc (k + 1) s).2) := (HR2.out.alloc _).grownRow hlt hgrow (fun q hq => (World.ownsRow.lt hown q hq).1)
        have HO5 : Hid (OwnA w5 w.heap.size (.slice (some ⟨g, 0, none⟩) (k + 1) cap') (ps ++ [⟨pa, pn⟩])) := by
          show OwnA _ _ _ _
          unfold OwnA
          rw [aCells_snoc, List.length_append, HLEN.out]
          exact hown5
        clear hown5 hgrow hown HR2 hlt5
        go_wp2_with fail
        go_roundw
        case rel => exact ⟨k + 1, by omega, rfl, _, _, rfl, HO5, HP2, HR5⟩
        case measure => simp [lenOf]; omega
    · have hkn : k = n := by omega
      have g1 : ¬ (k : Int) < (n : Int) := by omega
      subst hkn
      go_wp2_with fail
      go_ret
      first | exact ⟨_, ps, rfl, HO, HP.out.1, HR.out⟩ | exact ⟨_, rfl, ps, HO, HP.out.1, HR.out⟩

/-- A history that was read. -/
def RdHistRes (w w' : World) (b : Nat) (s : Sg.Rs) (vA vP : Value) : Prop := OwnA w' w.heap.size vA (Sg.pdHistS s).accs ∧ OwnPsA w' w.heap.size vP (Sg.pdHistS s).pers ∧ ∃ s', Rdd w w' b s'
theorem OwnPs.setCell_below {w : World} {B g j : Nat} {v : Value} {ps : List (List Sg.Ent)} (h : OwnPs w B v ps) (hg : g < B) (u : Value) : OwnPs (w.setCell ⟨g, j, none⟩ u) B v ps := by
  obtain ⟨us, a, b, c⟩ := h
  exact ⟨us, a, ownsRow_setCell_below b hg _, fun i hi hi2 => (c i hi hi2).setCell_below hg _⟩
theorem OwnPs.mono {w : World} {B B' : Nat} {v : Value} {ps : List (List Sg.Ent)} (h : OwnPs w B v ps) (hB : B' ≤ B) : OwnPs w B' v ps := by
  obtain ⟨us, a, b, c⟩ := h
  exact ⟨us, a, ownsRow_mono b hB, fun i hi hi2 => (c i hi hi2).mono hB⟩

set_option maxHeartbeats 3200000 in
/-- readHistory. -/
theorem readHistory_any (s : Sg.Rs) (b : Nat) (w : World) (hR : RdAt w b s) :
    Calls Tryz.prog 38 #[.pointer (some ⟨b, 0, none⟩)] w fun e w' => ∃ vA vP, e = .returned (.agg #[vA, vP]) ∧ RdHistRes w w' b s vA vP := by
  have hlt := hR.lt
  have r0 := (Rdd.here hR).alloc (.cells #[.slice none 0 0, .slice none 0 0] 26)
  have hT := Two.new w (.slice none 0 0) (.slice none 0 0) 26
  clear hR
  go_enter Tryz.func38, Tryz.ntmps38
  go_wp2_with fail
  refine (rd_text_any s 4 b _ r0.at_ (by omega)).mono ?_
  rintro e w1 ⟨mm, rfl, _, _, hr1⟩
  have hT1 := hT.rdd hr1 hlt (Nat.le_refl _)
  have r1 := r0.trans hr1
  clear r0 hT hr1
  go_wp2_with fail
  refine (rd_one_any (Sg.dr 4 s) b _ r1.at_).mono ?_
  rintro e w1b ⟨ka, rfl, hka, hka8, hr1b⟩
  have hT1b := hT1.rdd hr1b hlt (Nat.le_refl _)
  have r1b := r1.trans hr1b
  clear hT1 r1 hr1b
  go_wp2_with fail
  refine (readAccs_any (Sg.dr 1 (Sg.dr 4 s)) ka b _ r1b.at_ (by omega)).mono ?_
  rintro e w2 ⟨vA, ac, rfl, HA, hac, hr2⟩
  have hl8 : ac.length < 256 := by
    have h1 := Sg.pdMany_len Sg.pdAcc (Sg.dr 1 (Sg.dr 4 s)) ka
    rw [← hac.out] at h1
    omega
  have hT2 := hT1b.rdd hr2 hlt (Nat.le_refl _)
  have r2 := r1b.trans hr2
  have hs1 : w.heap.size < w1b.heap.size := lt_of_block hT1b
  obtain ⟨aoA, capA, hvA, _, _, _⟩ := HA.out.in_
  obtain ⟨nA, hnA⟩ : ∃ k, ac.length = k := ⟨_, rfl⟩
  rw [hnA] at hvA hl8
  subst hvA
  have aB : Below w2.heap.size w2 (w2.alloc (.cells #[.slice aoA nA capA] 23)) := (Below.refl _ _).alloc (Nat.le_refl _) _
  have hbox : AccBox (w2.alloc (.cells #[.slice aoA nA capA] 23)) w2.heap.size nA := ⟨aoA, capA, heap_alloc_new w2 _⟩
  have r2' := r2.below aB
  have hT2' := hT2.below aB
  have HA2 : Hid (OwnA (w2.alloc (.cells #[.slice aoA nA capA] 23)) (w.heap.size + 1) (.slice aoA nA capA) ac) := ownsRow_below (ownsRow_mono HA.out (by omega)) aB
  have hs2 : w.heap.size < w2.heap.size := lt_of_block hT2
  clear hT1b r1b hr2 hT2 HA r2 aB
  go_wp2_with fail
  refine (rd_one_any _ b _ r2'.at_).mono ?_
  rintro e w2b ⟨kp, rfl, hkp, hkp8, hr2b⟩
  have hbox2 := hbox.rdd r2'.at_ hr2b
  have hbx2 : w2b.heap[w2.heap.size]? = some (.cells #[.slice aoA nA capA] 23 (0, 0)) := (Rdd.kept r2'.at_ hr2b) _ _ _ _ (heap_alloc_new w2 _) (by decide)
  have HA2b : Hid (OwnA w2b (w.heap.size + 1) (.slice aoA nA capA) ac) := ownsRow_keptT HA2.out (Rdd.kept r2'.at_ hr2b) (by decide)
  have hT2b := hT2'.rdd hr2b hlt (Nat.le_refl _)
  have r2b := r2'.trans hr2b
  have hs2b : w.heap.size < w2b.heap.size := lt_of_block hT2b
  clear hbox HA2 hT2' r2' hr2b
  go_wp2_with fail
  refine (readPers_any _ kp b _ r2b.at_ (by omega) w2.heap.size nA (by omega) hbox2).mono ?_
  rintro e w3 ⟨vP, ps, rfl, HP, hps, hr3⟩
  have r3 := r2b.trans hr3
  have hT3 := hT2b.rdd hr3 hlt (Nat.le_refl _)
  have hA3 : OwnA w3 (w.heap.size + 1) (.slice aoA nA capA) ac := ownsRow_keptT HA2b.out (Rdd.kept r2b.at_ hr3) (by decide)
  have hP3 : OwnPsA w3 (w.heap.size + 1) vP ps := HP.out.mono (by omega)
  obtain ⟨aoP, capP, hvP, _, _⟩ := hP3.own.in_
  subst hvP
  have hbx3 : w3.heap[w2.heap.size]? = some (.cells #[.slice aoA nA capA] 23 (0, 0)) := (Rdd.kept r2b.at_ hr3) _ _ _ _ hbx2 (by decide)
  have cb : w3.cell? ⟨w2.heap.size, 0, none⟩ = some (.slice aoA nA capA) := by rw [cell_of_row w3 _ 0 _ _ _ hbx3]; rfl
  have HH : Hid (ac = (Sg.pdHistS s).accs ∧ ps = (Sg.pdHistS s).pers) := by
    have eA : ac = (Sg.pdAccs s).1 := by unfold Sg.pdAccs; rw [← hka.out]; exact hac.out
    have eA2 : (Sg.pdMany Sg.pdAcc ka (Sg.dr 1 (Sg.dr 4 s))).2 = (Sg.pdAccs s).2 := by unfold Sg.pdAccs; rw [← hka.out]
    refine ⟨eA, ?_⟩
    show ps = (Sg.pdPers (Sg.pdAccs s).1.length (Sg.pdAccs s).2).1
    rw [← eA, hnA, ← eA2]
    unfold Sg.pdPers
    rw [← hkp.out]
    exact hps.out
  obtain ⟨c0, c1⟩ := hT3.cells
  obtain ⟨f0, f1⟩ := two_frozen hT3
  have HR : Hid (RdHistRes w ((w3.setCell ⟨w.heap.size, 0, none⟩ (.slice aoA nA capA)).setCell ⟨w.heap.size, 1, none⟩ (.slice aoP ps.length capP)) b s (.slice aoA nA capA) (.slice aoP ps.length capP)) := by
    refine ⟨?_, ?_, ?_⟩
    · rw [← HH.out.1]
      exact ownsRow_mono (ownsRow_setCell_below (ownsRow_setCell_below hA3 (by show w.heap.size < _; omega) _) (by show w.heap.size < _; omega) _) (Nat.le_succ _)
    · rw [← HH.out.2]
      exact ((hP3.setCell_below (by omega) _).setCell_below (by omega) _).mono (Nat.le_succ _)
    · exact ⟨_, (r3.setCell hlt (Nat.le_refl _) _).setCell hlt (Nat.le_refl _) _⟩
  obtain ⟨nP, hnP⟩ : ∃ k, ps.length = k := ⟨_, rfl⟩
  rw [hnP] at HR ⊢
  clear HP hps hr3 r3 hT3 hA3 hP3 hbx2 hbx3 hbox2 HH HA2b r2b hT2b hac hnA hnP hka hkp
  go_wp2_with fail
  refine bodyPost_ret (v := .agg #[.slice aoA nA capA, .slice aoP nP capP]) (by simp [results, Tryz.results38, go_sem, c0, c1]) rfl ⟨_, _, rfl, HR.out⟩

/-- lay.Read. -/
theorem layRead_any (t : ByteArray) (w : World) :
    Calls Tryz.prog 39 #[.string t] w fun e w' => e = .returned (.pointer (some ⟨w.heap.size, 0, none⟩)) ∧ RdAt w' w.heap.size (Sg.tx t, false) ∧ Below w.heap.size w w' ∧ w'.heap.size = w.heap.size + 1 := by
  go_enter Tryz.func39, Tryz.ntmps39
  go_wp2_with fail
  go_ret
  refine ⟨rfl, ?_, (Below.refl _ _).alloc (Nat.le_refl _) _, by simp⟩
  unfold RdAt
  simp only
  rw [Sg.ofL_tx]
  exact heap_alloc_new w _
end Go.Proofs.YtpkkhkkkgjhkeabGreat
