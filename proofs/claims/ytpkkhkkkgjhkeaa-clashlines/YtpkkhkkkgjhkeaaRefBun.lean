/-
  THE WALK of signetref.Read (P10: the form).
-/
import Derived.Test.YtpkkhkkkgjhkeaaBunSpec
import Derived.Test.YtpkkhkkkgjhkeaaCursor
import Derived.Test.YtpkkhkkkgjhkeaaReadHdr
namespace Go.Proofs.Ytpkkhkkkgjhkeaa
open Go.RowKit
set_option maxRecDepth 100000
attribute [local go_sem ↓] Go.wp_at_zero Go.wp_at_succ

namespace Sg
theorem pad_full {s : List UInt8} {k : Nat} (h : k ≤ s.length) : padL s k = numL (s.take k) := by
  unfold padL
  rw [List.take_append_of_le_length h]
theorem num_full {s : List UInt8} (h : 8 ≤ s.length) : rdR.num s = IntKind.i64.wrap (numL (s.take 8) : Int) := by
  show IntKind.i64.wrap (numL ((s ++ List.replicate 8 0).take 8) : Int) = _
  rw [List.take_append_of_le_length h]
/-- A drill as the document's answer reads it. -/
def drlR (s : List UInt8) : Drl := ⟨numL (s.take 1), numL ((s.drop 1).take 1), (numL ((s.drop 2).take 1) : Int), rdR.num (s.drop 3)⟩
theorem drlR_full {s : List UInt8} (h : 11 ≤ s.length) : drlR s = drlAtL s := by
  unfold drlR drlAtL
  rw [num_full (by rw [List.length_drop]; omega)]
def rH (l : List UInt8) (k : Nat) : List Txt := (List.range k).map (fun i => ofL ((l.drop (3 + 16 * i)).take 16))
def rD (l : List UInt8) (n k : Nat) : List Drl := (List.range k).map (fun i => drlR (l.drop (13 + 16 * n + 11 * i)))
theorem rH_succ (l : List UInt8) (k : Nat) : rH l (k + 1) = rH l k ++ [ofL ((l.drop (3 + 16 * k)).take 16)] := by unfold rH; rw [List.range_succ, List.map_append]; rfl
theorem rD_succ (l : List UInt8) (n k : Nat) : rD l n (k + 1) = rD l n k ++ [drlR (l.drop (13 + 16 * n + 11 * k))] := by unfold rD; rw [List.range_succ, List.map_append]; rfl
theorem rH_len (l : List UInt8) (k : Nat) : (rH l k).length = k := by unfold rH; simp
theorem rD_len (l : List UInt8) (n k : Nat) : (rD l n k).length = k := by unfold rD; simp
/-- Sixteen bytes are a header's text. -/
theorem hdrB_at {s : List UInt8} (h : 16 ≤ s.length) : hdrB (hdrAtL s) = ofL (s.take 16) := by
  have e1 : ∀ (q : List UInt8), 1 ≤ q.length → beL (numL (q.take 1) : Int) 1 = q.take 1 := fun q hq => by
    match q, hq with
    | b :: q, _ =>
      have hb : b.toNat < 256 := b.toNat_lt
      simp only [List.take_succ_cons, List.take_zero, numL, List.foldl_cons, List.foldl_nil, beL]
      have : ((((0 * 256 + b.toNat : Nat) : Int) % 18446744073709551616).toNat / 256 ^ 0 % 256) = b.toNat := by simp; omega
      rw [this]
      simp
  apply tx_inj
  rw [tx_hdrB, tx_ofL]
  unfold hdrAtL
  simp only [tx_ofL]
  rw [e1 (s.drop 4) (by rw [List.length_drop]; omega), e1 (s.drop 9) (by rw [List.length_drop]; omega)]
  have k : ∀ (a b c : Nat), b = a + c → ∀ r, (s.drop a).take c ++ (s.drop b).take r = (s.drop a).take (c + r) := fun a b c e r => by
    rw [e, List.take_add, List.drop_drop]
  have t : s.take 4 = (s.drop 0).take 4 := rfl
  rw [t, k 12 14 2 rfl, k 10 12 2 rfl, k 9 10 1 rfl, k 7 9 2 rfl, k 5 7 2 rfl, k 4 5 1 rfl, k 0 4 4 rfl]
  rfl
theorem ref_form {l : List UInt8} {m : Nat} (h1 : numL (l.take 1) ≤ 5) (h2 : numL ((l.drop 1).take 1) ≤ 3) (h3 : 1 ≤ nH l ∧ nH l ≤ 6) (hm : m = padL (l.drop (11 + 16 * nH l)) 2) : (72 < m → formL l = false) ∧ (m ≤ 72 → formL l = decide (17 + 16 * nH l + 11 * m = l.length)) ∧ (m ≤ 72 → 17 + 16 * nH l + 11 * m = l.length → nD l = m) := by
  have key : 13 + 16 * nH l ≤ l.length → nD l = m := fun h => by
    rw [hm, pad_full (by rw [List.length_drop]; omega)]
    rfl
  refine ⟨fun h => ?_, fun h => ?_, fun _ h => key (by omega)⟩
  · unfold formL
    rw [decide_eq_false_iff_not]
    intro k
    have := key (by omega)
    omega
  · unfold formL
    rw [Bool.eq_iff_iff, decide_eq_true_eq, decide_eq_true_eq]
    constructor
    · intro k
      have := key (by omega)
      omega
    · intro k
      have := key (by omega)
      omega
theorem ref_lists {l : List UInt8} {n m : Nat} (hn : n = nH l) (hm : m = nD l) (h : 17 + 16 * n + 11 * m = l.length) : rH l n = (bunL l).hdrs.map hdrB ∧ rD l n m = (bunL l).drls ∧ rdR.num (l.drop (3 + 16 * n)) = (bunL l).total := by
  subst hn hm
  refine ⟨?_, ?_, ?_⟩
  · unfold rH bunL
    rw [List.map_map]
    apply List.map_congr_left
    intro i hi
    have := List.mem_range.1 hi
    show _ = hdrB (hdrAtL _)
    rw [hdrB_at (by rw [List.length_drop]; omega)]
  · unfold rD bunL
    apply List.map_congr_left
    intro i hi
    have := List.mem_range.1 hi
    exact drlR_full (by rw [List.length_drop]; omega)
  · unfold bunL
    rw [num_full (by rw [List.length_drop]; omega)]
end Sg

/-- The document's bundle: six cells in a box of their own. -/
def RBox (W : World) (g : Nat) (x0 x1 x2 x3 x4 x5 : Value) : Prop := W.heap[g]? = some (.cells #[x0, x1, x2, x3, x4, x5] 120 (0, 0))
theorem RBox.new (w : World) (x0 x1 x2 x3 x4 x5 : Value) : RBox (w.alloc (.cells #[x0, x1, x2, x3, x4, x5] 120)) w.heap.size x0 x1 x2 x3 x4 x5 := heap_alloc_new w _
theorem RBox.lt {W : World} {g : Nat} {x0 x1 x2 x3 x4 x5 : Value} (k : RBox W g x0 x1 x2 x3 x4 x5) : g < W.heap.size := lt_of_block k
theorem RBox.cells {W : World} {g : Nat} {x0 x1 x2 x3 x4 x5 : Value} (k : RBox W g x0 x1 x2 x3 x4 x5) : W.cell? ⟨g, 0, none⟩ = some x0 ∧ W.cell? ⟨g, 1, none⟩ = some x1 ∧ W.cell? ⟨g, 2, none⟩ = some x2 ∧ W.cell? ⟨g, 3, none⟩ = some x3 ∧ W.cell? ⟨g, 4, none⟩ = some x4 ∧ W.cell? ⟨g, 5, none⟩ = some x5 :=
  ⟨by rw [cell_of_row W g 0 _ _ _ k]; rfl, by rw [cell_of_row W g 1 _ _ _ k]; rfl, by rw [cell_of_row W g 2 _ _ _ k]; rfl, by rw [cell_of_row W g 3 _ _ _ k]; rfl, by rw [cell_of_row W g 4 _ _ _ k]; rfl, by rw [cell_of_row W g 5 _ _ _ k]; rfl⟩
theorem RBox.free {W : World} {g : Nat} {x0 x1 x2 x3 x4 x5 : Value} (k : RBox W g x0 x1 x2 x3 x4 x5) : W.frozen? ⟨g, 0, none⟩ = false ∧ W.frozen? ⟨g, 1, none⟩ = false ∧ W.frozen? ⟨g, 2, none⟩ = false ∧ W.frozen? ⟨g, 3, none⟩ = false ∧ W.frozen? ⟨g, 4, none⟩ = false ∧ W.frozen? ⟨g, 5, none⟩ = false := by
  unfold RBox at k
  refine ⟨?_, ?_, ?_, ?_, ?_, ?_⟩ <;> simp [World.frozen?, k]
/-- It is stored whole into a box: cell by cell. -/
theorem rstore_run {w : World} {b : Nat} {x0 x1 x2 x3 x4 x5 : Value} (hX : RBox w b x0 x1 x2 x3 x4 x5) (y0 y1 y2 y3 y4 y5 : Value) :
    ∃ u1 u2 u3 u4 u5 u6 : World, (w.cell? ⟨b, 0, none⟩ = some x0 ∧ w.frozen? ⟨b, 0, none⟩ = false ∧ w.setCell ⟨b, 0, none⟩ y0 = u1) ∧
      (u1.cell? ⟨b, 1, none⟩ = some x1 ∧ u1.frozen? ⟨b, 1, none⟩ = false ∧ u1.setCell ⟨b, 1, none⟩ y1 = u2) ∧
      (u2.cell? ⟨b, 2, none⟩ = some x2 ∧ u2.frozen? ⟨b, 2, none⟩ = false ∧ u2.setCell ⟨b, 2, none⟩ y2 = u3) ∧
      (u3.cell? ⟨b, 3, none⟩ = some x3 ∧ u3.frozen? ⟨b, 3, none⟩ = false ∧ u3.setCell ⟨b, 3, none⟩ y3 = u4) ∧
      (u4.cell? ⟨b, 4, none⟩ = some x4 ∧ u4.frozen? ⟨b, 4, none⟩ = false ∧ u4.setCell ⟨b, 4, none⟩ y4 = u5) ∧
      (u5.cell? ⟨b, 5, none⟩ = some x5 ∧ u5.frozen? ⟨b, 5, none⟩ = false ∧ u5.setCell ⟨b, 5, none⟩ y5 = u6) ∧
      RBox u6 b y0 y1 y2 y3 y4 y5 ∧ (∀ B, B ≤ b → Below B w u6) ∧ (∀ i, i ≠ b → u6.heap[i]? = w.heap[i]?) := by
  have k0 : w.heap[b]? = some (.cells #[x0, x1, x2, x3, x4, x5] 120 (0, 0)) := hX
  obtain ⟨u1, e1⟩ : ∃ u : World, w.setCell ⟨b, 0, none⟩ y0 = u := ⟨_, rfl⟩
  have k1 : u1.heap[b]? = some (.cells #[y0, x1, x2, x3, x4, x5] 120 (0, 0)) := by rw [← e1]; exact heap_setCell_same _ b 0 _ _ y0 k0
  obtain ⟨u2, e2⟩ : ∃ u : World, u1.setCell ⟨b, 1, none⟩ y1 = u := ⟨_, rfl⟩
  have k2 : u2.heap[b]? = some (.cells #[y0, y1, x2, x3, x4, x5] 120 (0, 0)) := by rw [← e2]; exact heap_setCell_same _ b 1 _ _ y1 k1
  obtain ⟨u3, e3⟩ : ∃ u : World, u2.setCell ⟨b, 2, none⟩ y2 = u := ⟨_, rfl⟩
  have k3 : u3.heap[b]? = some (.cells #[y0, y1, y2, x3, x4, x5] 120 (0, 0)) := by rw [← e3]; exact heap_setCell_same _ b 2 _ _ y2 k2
  obtain ⟨u4, e4⟩ : ∃ u : World, u3.setCell ⟨b, 3, none⟩ y3 = u := ⟨_, rfl⟩
  have k4 : u4.heap[b]? = some (.cells #[y0, y1, y2, y3, x4, x5] 120 (0, 0)) := by rw [← e4]; exact heap_setCell_same _ b 3 _ _ y3 k3
  obtain ⟨u5, e5⟩ : ∃ u : World, u4.setCell ⟨b, 4, none⟩ y4 = u := ⟨_, rfl⟩
  have k5 : u5.heap[b]? = some (.cells #[y0, y1, y2, y3, y4, x5] 120 (0, 0)) := by rw [← e5]; exact heap_setCell_same _ b 4 _ _ y4 k4
  obtain ⟨u6, e6⟩ : ∃ u : World, u5.setCell ⟨b, 5, none⟩ y5 = u := ⟨_, rfl⟩
  have k6 : u6.heap[b]? = some (.cells #[y0, y1, y2, y3, y4, y5] 120 (0, 0)) := by rw [← e6]; exact heap_setCell_same _ b 5 _ _ y5 k5
  refine ⟨u1, u2, u3, u4, u5, u6, ⟨by rw [cell_of_row _ b 0 _ _ _ k0]; rfl, by simp [World.frozen?, k0], e1⟩, ⟨by rw [cell_of_row _ b 1 _ _ _ k1]; rfl, by simp [World.frozen?, k1], e2⟩, ⟨by rw [cell_of_row _ b 2 _ _ _ k2]; rfl, by simp [World.frozen?, k2], e3⟩, ⟨by rw [cell_of_row _ b 3 _ _ _ k3]; rfl, by simp [World.frozen?, k3], e4⟩, ⟨by rw [cell_of_row _ b 4 _ _ _ k4]; rfl, by simp [World.frozen?, k4], e5⟩, ⟨by rw [cell_of_row _ b 5 _ _ _ k5]; rfl, by simp [World.frozen?, k5], e6⟩, k6, fun B hB => ?_, fun i hi => ?_⟩
  · rw [← e6]
    rw [← e5]
    rw [← e4]
    rw [← e3]
    rw [← e2]
    rw [← e1]
    exact (((((((Below.refl B w).setCell (show B ≤ b from hB) _).setCell (show B ≤ b from hB) _).setCell (show B ≤ b from hB) _).setCell (show B ≤ b from hB) _).setCell (show B ≤ b from hB) _).setCell (show B ≤ b from hB) _)
  · have k := fun (W : World) (j : Nat) (v : Value) => heap_setCell_other W ⟨b, j, none⟩ i v hi
    rw [← e6, k, ← e5, k, ← e4, k, ← e3, k, ← e2, k, ← e1, k]
theorem ownsRow_far {w : World} {B d j : Nat} {e : TypeId} {sz n : Nat} {v : Value} {ys : List Value} (h : w.ownsRow B e sz v n ys) (hd : ∀ q, v.ownBlock = some q → q ≠ d) (u : Value) : (w.setCell ⟨d, j, none⟩ u).ownsRow B e sz v n ys := by
  obtain ⟨h1, h2⟩ := h
  refine ⟨h1, ?_⟩
  rcases h2 with h2 | ⟨q, cap, cur, hv, hq, hh, r⟩
  · exact Or.inl h2
  · exact Or.inr ⟨q, cap, cur, hv, hq, (heap_setCell_other w ⟨d, j, none⟩ q u (hd q (by rw [hv]; rfl))).trans hh, r⟩
/-- How far the document's reader has come. -/
structure RdI (w : World) (t : ByteArray) (p : Nat) (x0 x1 x2 x3 x4 x5 : Value) (hs : List ByteArray) (ds : List Sg.Drl) (W : World) : Prop where
  cu : CuAt W (w.heap.size + 2) t p
  box : RBox W (w.heap.size + 1) x0 x1 x2 x3 x4 x5
  res : RBox W w.heap.size (.int .i64 0) (.int .i64 0) (.int .i64 0) (.slice none 0 0) (.slice none 0 0) (.slice none 0 0)
  hrow : OwnStrs W (w.heap.size + 3) x4 hs
  drow : OwnDrls W (w.heap.size + 3) x3 ds
  bel : Below w.heap.size w W
theorem RdI.below {w W W' : World} {t : ByteArray} {p : Nat} {x0 x1 x2 x3 x4 x5 : Value} {hs : List ByteArray} {ds : List Sg.Drl} (h : RdI w t p x0 x1 x2 x3 x4 x5 hs ds W) (hb : Below W.heap.size W W') : RdI w t p x0 x1 x2 x3 x4 x5 hs ds W' :=
  ⟨(hb.block _ (lt_of_block h.cu)).trans h.cu, (hb.block _ (lt_of_block h.box)).trans h.box, (hb.block _ (lt_of_block h.res)).trans h.res, ownsRow_below h.hrow hb, ownsRow_below h.drow hb, h.bel.trans (hb.mono h.bel.size)⟩
theorem RdI.cud {w W W' : World} {t : ByteArray} {p q : Nat} {x0 x1 x2 x3 x4 x5 : Value} {hs : List ByteArray} {ds : List Sg.Drl} (h : RdI w t p x0 x1 x2 x3 x4 x5 hs ds W) (k : Cud W W' (w.heap.size + 2) t q) : RdI w t q x0 x1 x2 x3 x4 x5 hs ds W' :=
  ⟨k.at_, (k.block (lt_of_block h.box) (by omega)).trans h.box, (k.block (lt_of_block h.res) (by omega)).trans h.res, ownsRow_keptT h.hrow (Cud.kept h.cu k) (by decide), ownsRow_keptT h.drow (Cud.kept h.cu k) (by decide), h.bel.grown k.grown h.bel.size (fun i hi => by simp at hi; omega)⟩
theorem RdI.far {w W : World} {t : ByteArray} {p d j : Nat} {x0 x1 x2 x3 x4 x5 : Value} {hs : List ByteArray} {ds : List Sg.Drl} (h : RdI w t p x0 x1 x2 x3 x4 x5 hs ds W) (hd : w.heap.size + 3 ≤ d) (k3 : ∀ q, x3.ownBlock = some q → q ≠ d) (k4 : ∀ q, x4.ownBlock = some q → q ≠ d) (u : Value) : RdI w t p x0 x1 x2 x3 x4 x5 hs ds (W.setCell ⟨d, j, none⟩ u) :=
  ⟨(heap_setCell_other W ⟨d, j, none⟩ _ u (by show w.heap.size + 2 ≠ d; omega)).trans h.cu, (heap_setCell_other W ⟨d, j, none⟩ _ u (by show w.heap.size + 1 ≠ d; omega)).trans h.box, (heap_setCell_other W ⟨d, j, none⟩ _ u (by show w.heap.size ≠ d; omega)).trans h.res, ownsRow_far h.hrow k4 u, ownsRow_far h.drow k3 u, h.bel.setCell (show w.heap.size ≤ d by omega) u⟩
theorem RdI.put0 {w W : World} {t : ByteArray} {p : Nat} {x0 x1 x2 x3 x4 x5 : Value} {hs : List ByteArray} {ds : List Sg.Drl} (h : RdI w t p x0 x1 x2 x3 x4 x5 hs ds W) (v : Value) : RdI w t p v x1 x2 x3 x4 x5 hs ds (W.setCell ⟨w.heap.size + 1, 0, none⟩ v) :=
  ⟨(heap_setCell_other W ⟨w.heap.size + 1, 0, none⟩ _ v (by show w.heap.size + 2 ≠ w.heap.size + 1; omega)).trans h.cu, heap_setCell_same W (w.heap.size + 1) 0 _ _ v h.box, (heap_setCell_other W ⟨w.heap.size + 1, 0, none⟩ _ v (by show w.heap.size ≠ w.heap.size + 1; omega)).trans h.res, ownsRow_setCell_below h.hrow (by show w.heap.size + 1 < _; omega) v, ownsRow_setCell_below h.drow (by show w.heap.size + 1 < _; omega) v, h.bel.setCell (show w.heap.size ≤ w.heap.size + 1 by omega) v⟩
theorem RdI.put1 {w W : World} {t : ByteArray} {p : Nat} {x0 x1 x2 x3 x4 x5 : Value} {hs : List ByteArray} {ds : List Sg.Drl} (h : RdI w t p x0 x1 x2 x3 x4 x5 hs ds W) (v : Value) : RdI w t p x0 v x2 x3 x4 x5 hs ds (W.setCell ⟨w.heap.size + 1, 1, none⟩ v) :=
  ⟨(heap_setCell_other W ⟨w.heap.size + 1, 1, none⟩ _ v (by show w.heap.size + 2 ≠ w.heap.size + 1; omega)).trans h.cu, heap_setCell_same W (w.heap.size + 1) 1 _ _ v h.box, (heap_setCell_other W ⟨w.heap.size + 1, 1, none⟩ _ v (by show w.heap.size ≠ w.heap.size + 1; omega)).trans h.res, ownsRow_setCell_below h.hrow (by show w.heap.size + 1 < _; omega) v, ownsRow_setCell_below h.drow (by show w.heap.size + 1 < _; omega) v, h.bel.setCell (show w.heap.size ≤ w.heap.size + 1 by omega) v⟩
theorem RdI.put2 {w W : World} {t : ByteArray} {p : Nat} {x0 x1 x2 x3 x4 x5 : Value} {hs : List ByteArray} {ds : List Sg.Drl} (h : RdI w t p x0 x1 x2 x3 x4 x5 hs ds W) (v : Value) : RdI w t p x0 x1 v x3 x4 x5 hs ds (W.setCell ⟨w.heap.size + 1, 2, none⟩ v) :=
  ⟨(heap_setCell_other W ⟨w.heap.size + 1, 2, none⟩ _ v (by show w.heap.size + 2 ≠ w.heap.size + 1; omega)).trans h.cu, heap_setCell_same W (w.heap.size + 1) 2 _ _ v h.box, (heap_setCell_other W ⟨w.heap.size + 1, 2, none⟩ _ v (by show w.heap.size ≠ w.heap.size + 1; omega)).trans h.res, ownsRow_setCell_below h.hrow (by show w.heap.size + 1 < _; omega) v, ownsRow_setCell_below h.drow (by show w.heap.size + 1 < _; omega) v, h.bel.setCell (show w.heap.size ≤ w.heap.size + 1 by omega) v⟩
theorem RdI.put5 {w W : World} {t : ByteArray} {p : Nat} {x0 x1 x2 x3 x4 x5 : Value} {hs : List ByteArray} {ds : List Sg.Drl} (h : RdI w t p x0 x1 x2 x3 x4 x5 hs ds W) (v : Value) : RdI w t p x0 x1 x2 x3 x4 v hs ds (W.setCell ⟨w.heap.size + 1, 5, none⟩ v) :=
  ⟨(heap_setCell_other W ⟨w.heap.size + 1, 5, none⟩ _ v (by show w.heap.size + 2 ≠ w.heap.size + 1; omega)).trans h.cu, heap_setCell_same W (w.heap.size + 1) 5 _ _ v h.box, (heap_setCell_other W ⟨w.heap.size + 1, 5, none⟩ _ v (by show w.heap.size ≠ w.heap.size + 1; omega)).trans h.res, ownsRow_setCell_below h.hrow (by show w.heap.size + 1 < _; omega) v, ownsRow_setCell_below h.drow (by show w.heap.size + 1 < _; omega) v, h.bel.setCell (show w.heap.size ≤ w.heap.size + 1 by omega) v⟩
theorem RdI.pushH {w W w5 : World} {t y : ByteArray} {p : Nat} {x0 x1 x2 x3 x4 x5 : Value} {hs : List ByteArray} {ds : List Sg.Drl} {v : Value} (h : RdI w t p x0 x1 x2 x3 x4 x5 hs ds W) (hg : W.grownBy w5 x4.ownBlock) (ho : OwnStrs w5 (w.heap.size + 3) v (hs ++ [y])) : RdI w t p x0 x1 x2 x3 v x5 (hs ++ [y]) ds (w5.setCell ⟨w.heap.size + 1, 4, none⟩ v) := by
  have hlt := fun j hj => (World.ownsRow.lt h.hrow j hj).1
  have hne : ∀ i, i < w.heap.size + 3 → i < W.heap.size → w5.heap[i]? = W.heap[i]? := fun i h1 h2 => hg.block i h2 (fun e => by have := hlt i e.symm; omega)
  have hk := keptT_append h.hrow hg
  refine ⟨?_, ?_, ?_, ownsRow_setCell_below ho (by show w.heap.size + 1 < _; omega) v, ownsRow_setCell_below (ownsRow_keptT h.drow hk (by decide)) (by show w.heap.size + 1 < _; omega) v, ?_⟩
  · exact (heap_setCell_other w5 ⟨w.heap.size + 1, 4, none⟩ _ v (by show w.heap.size + 2 ≠ w.heap.size + 1; omega)).trans ((hne _ (by omega) (lt_of_block h.cu)).trans h.cu)
  · exact heap_setCell_same w5 (w.heap.size + 1) 4 _ _ v ((hne _ (by omega) (lt_of_block h.box)).trans h.box)
  · exact (heap_setCell_other w5 ⟨w.heap.size + 1, 4, none⟩ _ v (by show w.heap.size ≠ w.heap.size + 1; omega)).trans ((hne _ (by omega) (lt_of_block h.res)).trans h.res)
  · exact (h.bel.grown hg h.bel.size (fun k hk => by have := hlt k hk; omega)).setCell (show w.heap.size ≤ w.heap.size + 1 by omega) v
theorem RdI.pushD {w W w5 : World} {t : ByteArray} {d : Sg.Drl} {p : Nat} {x0 x1 x2 x3 x4 x5 : Value} {hs : List ByteArray} {ds : List Sg.Drl} {v : Value} (h : RdI w t p x0 x1 x2 x3 x4 x5 hs ds W) (hg : W.grownBy w5 x3.ownBlock) (ho : OwnDrls w5 (w.heap.size + 3) v (ds ++ [d])) : RdI w t p x0 x1 x2 v x4 x5 hs (ds ++ [d]) (w5.setCell ⟨w.heap.size + 1, 3, none⟩ v) := by
  have hlt := fun j hj => (World.ownsRow.lt h.drow j hj).1
  have hne : ∀ i, i < w.heap.size + 3 → i < W.heap.size → w5.heap[i]? = W.heap[i]? := fun i h1 h2 => hg.block i h2 (fun e => by have := hlt i e.symm; omega)
  have hk := keptT_append h.drow hg
  refine ⟨?_, ?_, ?_, ownsRow_setCell_below (ownsRow_keptT h.hrow hk (by decide)) (by show w.heap.size + 1 < _; omega) v, ownsRow_setCell_below ho (by show w.heap.size + 1 < _; omega) v, ?_⟩
  · exact (heap_setCell_other w5 ⟨w.heap.size + 1, 3, none⟩ _ v (by show w.heap.size + 2 ≠ w.heap.size + 1; omega)).trans ((hne _ (by omega) (lt_of_block h.cu)).trans h.cu)
  · exact heap_setCell_same w5 (w.heap.size + 1) 3 _ _ v ((hne _ (by omega) (lt_of_block h.box)).trans h.box)
  · exact (heap_setCell_other w5 ⟨w.heap.size + 1, 3, none⟩ _ v (by show w.heap.size ≠ w.heap.size + 1; omega)).trans ((hne _ (by omega) (lt_of_block h.res)).trans h.res)
  · exact (h.bel.grown hg h.bel.size (fun k hk => by have := hlt k hk; omega)).setCell (show w.heap.size ≤ w.heap.size + 1 by omega) v
end Go.Proofs.Ytpkkhkkkgjhkeaa
