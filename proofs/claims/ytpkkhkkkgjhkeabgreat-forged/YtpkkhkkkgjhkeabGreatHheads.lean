import Derived.Test.YtpkkhkkkgjhkeabGreatHleaves
import Derived.Test.YtpkkhkkkgjhkeabGreatPkText
import Derived.Test.YtpkkhkkkgjhkeabGreatLeaves
import Derived.Deep.CutRange
import Derived.Deep.MidRow
/-
  THE WALK of Book.Headers.
-/
namespace Go.Proofs.YtpkkhkkkgjhkeabGreat
open Go.RowKit Go.Maps
set_option maxRecDepth 100000
attribute [local go_sem ↓] Go.wp_at_zero Go.wp_at_succ

namespace Sg
/-- The header of a period. -/
def hdrOf (h : Hist) (k : Nat) : Hdr := ⟨({ data := #[72, 69, 65, 68] } : ByteArray), (k : Int), (hdTo h (balances h) (totals h) k).2, sumB (chartB h.accs), ((h.pers.getD k []).length : Int), root ((h.pers.getD k []).map entB), root (stmt h.accs (h.pers.getD k []) ((totals h).getD k [])), sumB (amountsB ((balances h).getD k []))⟩
def hdrsTo (h : Hist) (k : Nat) : List Hdr := (List.range k).map (hdrOf h)
theorem hdrsTo_succ (h : Hist) (k : Nat) : hdrsTo h (k + 1) = hdrsTo h k ++ [hdrOf h k] := by unfold hdrsTo; rw [List.range_succ, List.map_append]; rfl
theorem hdrsTo_len (h : Hist) (k : Nat) : (hdrsTo h k).length = k := by unfold hdrsTo; simp
theorem hdrsTo_get (h : Hist) {k i : Nat} (hi : i < k) : (hdrsTo h k)[i]? = some (hdrOf h i) := by unfold hdrsTo; simp [hi]
theorem hdrB_of (h : Hist) (k : Nat) : hdrB (hdrOf h k) = headerB h.accs k (hdTo h (balances h) (totals h) k).2 (h.pers.getD k []) ((balances h).getD k []) ((totals h).getD k []) := rfl
theorem hdrsTo_texts (h : Hist) : ∀ k, (hdrsTo h k).map hdrB = (hdTo h (balances h) (totals h) k).1
  | 0 => rfl
  | k + 1 => by
    rw [hdrsTo_succ, List.map_append, hdrsTo_texts h k]
    simp only [List.map_cons, List.map_nil, hdrB_of, hdTo]
theorem hdrSum_of (h : Hist) (k : Nat) : sumB (hdrB (hdrOf h k)) = (hdTo h (balances h) (totals h) (k + 1)).2 := by rw [hdrB_of]; rfl
theorem hdrOf_small (h : Hist) (k : Nat) : (hdrOf h k).small := by
  unfold Hdr.small hdrOf
  simp only
  rw [hdTo_last, sumB_size, sumB_size, root_size, root_size]
  exact ⟨by decide, by decide, by decide, by decide, by decide, by decide⟩
theorem hdrsTo_small (h : Hist) (k : Nat) : ∀ x ∈ hdrsTo h k, x.small := by
  intro x hx
  unfold hdrsTo at hx
  obtain ⟨i, _, rfl⟩ := List.mem_map.1 hx
  exact hdrOf_small h i
end Sg

/-- A period's box that was made behind wz, and all that was there. -/
structure HdS (wz : World) (c0 c1 c2 c3 c4 c5 c6 c7 c8 c9 c10 : Value) (W : World) : Prop where
  box : PerBox W wz.heap.size c0 c1 c2 c3 c4 c5 c6 c7 c8 c9 c10
  bel : Below wz.heap.size wz W
theorem HdS.all {wz W : World} {c0 c1 c2 c3 c4 c5 c6 c7 c8 c9 c10 : Value} (h : HdS wz c0 c1 c2 c3 c4 c5 c6 c7 c8 c9 c10 W) : W.cell? ⟨wz.heap.size, 0, none⟩ = some c0 ∧ W.cell? ⟨wz.heap.size, 1, none⟩ = some c1 ∧ W.cell? ⟨wz.heap.size, 2, none⟩ = some c2 ∧ W.cell? ⟨wz.heap.size, 3, none⟩ = some c3 ∧ W.cell? ⟨wz.heap.size, 4, none⟩ = some c4 ∧ W.cell? ⟨wz.heap.size, 5, none⟩ = some c5 ∧ W.cell? ⟨wz.heap.size, 6, none⟩ = some c6 ∧ W.cell? ⟨wz.heap.size, 7, none⟩ = some c7 ∧ W.cell? ⟨wz.heap.size, 8, none⟩ = some c8 ∧ W.cell? ⟨wz.heap.size, 9, none⟩ = some c9 ∧ W.cell? ⟨wz.heap.size, 10, none⟩ = some c10 ∧ HdS wz c0 c1 c2 c3 c4 c5 c6 c7 c8 c9 c10 W := by
  obtain ⟨a0, a1, a2, a3, a4, a5, a6, a7, a8, a9, a10⟩ := elevens h.box
  exact ⟨a0, a1, a2, a3, a4, a5, a6, a7, a8, a9, a10, h⟩
theorem HdS.of {wz W : World} {c0 c1 c2 c3 c4 c5 c6 c7 c8 c9 c10 : Value} (h : W.cell? ⟨wz.heap.size, 0, none⟩ = some c0 ∧ W.cell? ⟨wz.heap.size, 1, none⟩ = some c1 ∧ W.cell? ⟨wz.heap.size, 2, none⟩ = some c2 ∧ W.cell? ⟨wz.heap.size, 3, none⟩ = some c3 ∧ W.cell? ⟨wz.heap.size, 4, none⟩ = some c4 ∧ W.cell? ⟨wz.heap.size, 5, none⟩ = some c5 ∧ W.cell? ⟨wz.heap.size, 6, none⟩ = some c6 ∧ W.cell? ⟨wz.heap.size, 7, none⟩ = some c7 ∧ W.cell? ⟨wz.heap.size, 8, none⟩ = some c8 ∧ W.cell? ⟨wz.heap.size, 9, none⟩ = some c9 ∧ W.cell? ⟨wz.heap.size, 10, none⟩ = some c10 ∧ HdS wz c0 c1 c2 c3 c4 c5 c6 c7 c8 c9 c10 W) : HdS wz c0 c1 c2 c3 c4 c5 c6 c7 c8 c9 c10 W := h.2.2.2.2.2.2.2.2.2.2.2
theorem HdS.alloc {wz W : World} {c0 c1 c2 c3 c4 c5 c6 c7 c8 c9 c10 : Value} (h : HdS wz c0 c1 c2 c3 c4 c5 c6 c7 c8 c9 c10 W) (o : Obj) : HdS wz c0 c1 c2 c3 c4 c5 c6 c7 c8 c9 c10 (W.alloc o) := ⟨h.box.below ((Below.refl _ _).alloc (Nat.le_refl _) o), h.bel.alloc h.bel.size o⟩
theorem HdS.drew {wz W : World} {c0 c1 c2 c3 c4 c5 c6 c7 c8 c9 c10 : Value} (h : HdS wz c0 c1 c2 c3 c4 c5 c6 c7 c8 c9 c10 W) : HdS wz c0 c1 c2 c3 c4 c5 c6 c7 c8 c9 c10 W.drew := ⟨h.box, h.bel.drew⟩
theorem HdS.call {wz W w' : World} {c0 c1 c2 c3 c4 c5 c6 c7 c8 c9 c10 : Value} (h : HdS wz c0 c1 c2 c3 c4 c5 c6 c7 c8 c9 c10 W) (hb : Below W.heap.size W w') : HdS wz c0 c1 c2 c3 c4 c5 c6 c7 c8 c9 c10 w' := ⟨h.box.below hb, h.bel.trans (hb.mono h.bel.size)⟩
theorem HdS.set {wz W : World} {c0 c1 c2 c3 c4 c5 c6 c7 c8 c9 c10 : Value} (h : HdS wz c0 c1 c2 c3 c4 c5 c6 c7 c8 c9 c10 W) {p j : Nat} (hp : wz.heap.size < p) (v : Value) : HdS wz c0 c1 c2 c3 c4 c5 c6 c7 c8 c9 c10 (W.setCell ⟨p, j, none⟩ v) :=
  ⟨(heap_setCell_other _ ⟨p, j, none⟩ wz.heap.size _ (by show wz.heap.size ≠ p; omega)).trans h.box, h.bel.setCell (by show wz.heap.size ≤ p; omega) _⟩
theorem HdS.set8 {wz W : World} {c0 c1 c2 c3 c4 c5 c6 c7 c8 c9 c10 : Value} (h : HdS wz c0 c1 c2 c3 c4 c5 c6 c7 c8 c9 c10 W) {p : Nat} (hp : wz.heap.size < p) (v0 v1 v2 v3 v4 v5 v6 v7 : Value) : HdS wz c0 c1 c2 c3 c4 c5 c6 c7 c8 c9 c10 ((((((((W.setCell ⟨p, 0, none⟩ v0).setCell ⟨p, 1, none⟩ v1).setCell ⟨p, 2, none⟩ v2).setCell ⟨p, 3, none⟩ v3).setCell ⟨p, 4, none⟩ v4).setCell ⟨p, 5, none⟩ v5).setCell ⟨p, 6, none⟩ v6).setCell ⟨p, 7, none⟩ v7) :=
  (((((((h.set hp v0).set hp v1).set hp v2).set hp v3).set hp v4).set hp v5).set hp v6).set hp v7
theorem HdS.lt {wz W : World} {c0 c1 c2 c3 c4 c5 c6 c7 c8 c9 c10 : Value} (h : HdS wz c0 c1 c2 c3 c4 c5 c6 c7 c8 c9 c10 W) : wz.heap.size < W.heap.size := lt_of_block h.box

theorem HdS.stored {wz W w' : World} {c0 c1 c2 c3 c4 c5 c6 c7 c8 c9 c10 : Value} (h : HdS wz c0 c1 c2 c3 c4 c5 c6 c7 c8 c9 c10 W) {p : Nat} (hp : wz.heap.size < p) (hB : ∀ B, B ≤ p → Below B W w') (ho : ∀ i, i ≠ p → w'.heap[i]? = W.heap[i]?) : HdS wz c0 c1 c2 c3 c4 c5 c6 c7 c8 c9 c10 w' :=
  ⟨(ho _ (by omega)).trans h.box, h.bel.trans (hB _ (by omega))⟩
/-- A header is stored whole into a box: cell by cell. -/
theorem hstore_run {w : World} {b : Nat} {z : Sg.Hdr} (hX : HBox w b z) (h : Sg.Hdr) :
    ∃ u1 u2 u3 u4 u5 u6 u7 u8 : World, (w.cell? ⟨b, 0, none⟩ = some (.string z.mark) ∧ w.frozen? ⟨b, 0, none⟩ = false ∧ w.setCell ⟨b, 0, none⟩ (.string h.mark) = u1) ∧
      (u1.cell? ⟨b, 1, none⟩ = some (.int .i64 z.num) ∧ u1.frozen? ⟨b, 1, none⟩ = false ∧ u1.setCell ⟨b, 1, none⟩ (.int .i64 h.num) = u2) ∧
      (u2.cell? ⟨b, 2, none⟩ = some (.string z.ahead) ∧ u2.frozen? ⟨b, 2, none⟩ = false ∧ u2.setCell ⟨b, 2, none⟩ (.string h.ahead) = u3) ∧
      (u3.cell? ⟨b, 3, none⟩ = some (.string z.chart) ∧ u3.frozen? ⟨b, 3, none⟩ = false ∧ u3.setCell ⟨b, 3, none⟩ (.string h.chart) = u4) ∧
      (u4.cell? ⟨b, 4, none⟩ = some (.int .i64 z.ents) ∧ u4.frozen? ⟨b, 4, none⟩ = false ∧ u4.setCell ⟨b, 4, none⟩ (.int .i64 h.ents) = u5) ∧
      (u5.cell? ⟨b, 5, none⟩ = some (.string z.jour) ∧ u5.frozen? ⟨b, 5, none⟩ = false ∧ u5.setCell ⟨b, 5, none⟩ (.string h.jour) = u6) ∧
      (u6.cell? ⟨b, 6, none⟩ = some (.string z.stat) ∧ u6.frozen? ⟨b, 6, none⟩ = false ∧ u6.setCell ⟨b, 6, none⟩ (.string h.stat) = u7) ∧
      (u7.cell? ⟨b, 7, none⟩ = some (.string z.bals) ∧ u7.frozen? ⟨b, 7, none⟩ = false ∧ u7.setCell ⟨b, 7, none⟩ (.string h.bals) = u8) ∧
      HBox u8 b h ∧ (∀ B, B ≤ b → Below B w u8) ∧ (∀ i, i ≠ b → u8.heap[i]? = w.heap[i]?) := by
  have k0 : w.heap[b]? = some (.cells #[.string z.mark, .int .i64 z.num, .string z.ahead, .string z.chart, .int .i64 z.ents, .string z.jour, .string z.stat, .string z.bals] 100 (0, 0)) := hX
  obtain ⟨u1, e1⟩ : ∃ u : World, w.setCell ⟨b, 0, none⟩ (.string h.mark) = u := ⟨_, rfl⟩
  have k1 : u1.heap[b]? = some (.cells #[.string h.mark, .int .i64 z.num, .string z.ahead, .string z.chart, .int .i64 z.ents, .string z.jour, .string z.stat, .string z.bals] 100 (0, 0)) := by rw [← e1]; exact heap_setCell_same _ b 0 _ _ (.string h.mark) k0
  obtain ⟨u2, e2⟩ : ∃ u : World, u1.setCell ⟨b, 1, none⟩ (.int .i64 h.num) = u := ⟨_, rfl⟩
  have k2 : u2.heap[b]? = some (.cells #[.string h.mark, .int .i64 h.num, .string z.ahead, .string z.chart, .int .i64 z.ents, .string z.jour, .string z.stat, .string z.bals] 100 (0, 0)) := by rw [← e2]; exact heap_setCell_same _ b 1 _ _ (.int .i64 h.num) k1
  obtain ⟨u3, e3⟩ : ∃ u : World, u2.setCell ⟨b, 2, none⟩ (.string h.ahead) = u := ⟨_, rfl⟩
  have k3 : u3.heap[b]? = some (.cells #[.string h.mark, .int .i64 h.num, .string h.ahead, .string z.chart, .int .i64 z.ents, .string z.jour, .string z.stat, .string z.bals] 100 (0, 0)) := by rw [← e3]; exact heap_setCell_same _ b 2 _ _ (.string h.ahead) k2
  obtain ⟨u4, e4⟩ : ∃ u : World, u3.setCell ⟨b, 3, none⟩ (.string h.chart) = u := ⟨_, rfl⟩
  have k4 : u4.heap[b]? = some (.cells #[.string h.mark, .int .i64 h.num, .string h.ahead, .string h.chart, .int .i64 z.ents, .string z.jour, .string z.stat, .string z.bals] 100 (0, 0)) := by rw [← e4]; exact heap_setCell_same _ b 3 _ _ (.string h.chart) k3
  obtain ⟨u5, e5⟩ : ∃ u : World, u4.setCell ⟨b, 4, none⟩ (.int .i64 h.ents) = u := ⟨_, rfl⟩
  have k5 : u5.heap[b]? = some (.cells #[.string h.mark, .int .i64 h.num, .string h.ahead, .string h.chart, .int .i64 h.ents, .string z.jour, .string z.stat, .string z.bals] 100 (0, 0)) := by rw [← e5]; exact heap_setCell_same _ b 4 _ _ (.int .i64 h.ents) k4
  obtain ⟨u6, e6⟩ : ∃ u : World, u5.setCell ⟨b, 5, none⟩ (.string h.jour) = u := ⟨_, rfl⟩
  have k6 : u6.heap[b]? = some (.cells #[.string h.mark, .int .i64 h.num, .string h.ahead, .string h.chart, .int .i64 h.ents, .string h.jour, .string z.stat, .string z.bals] 100 (0, 0)) := by rw [← e6]; exact heap_setCell_same _ b 5 _ _ (.string h.jour) k5
  obtain ⟨u7, e7⟩ : ∃ u : World, u6.setCell ⟨b, 6, none⟩ (.string h.stat) = u := ⟨_, rfl⟩
  have k7 : u7.heap[b]? = some (.cells #[.string h.mark, .int .i64 h.num, .string h.ahead, .string h.chart, .int .i64 h.ents, .string h.jour, .string h.stat, .string z.bals] 100 (0, 0)) := by rw [← e7]; exact heap_setCell_same _ b 6 _ _ (.string h.stat) k6
  obtain ⟨u8, e8⟩ : ∃ u : World, u7.setCell ⟨b, 7, none⟩ (.string h.bals) = u := ⟨_, rfl⟩
  have k8 : u8.heap[b]? = some (.cells #[.string h.mark, .int .i64 h.num, .string h.ahead, .string h.chart, .int .i64 h.ents, .string h.jour, .string h.stat, .string h.bals] 100 (0, 0)) := by rw [← e8]; exact heap_setCell_same _ b 7 _ _ (.string h.bals) k7
  refine ⟨u1, u2, u3, u4, u5, u6, u7, u8, ⟨by rw [cell_of_row _ b 0 _ _ _ k0]; rfl, by simp [World.frozen?, k0], e1⟩, ⟨by rw [cell_of_row _ b 1 _ _ _ k1]; rfl, by simp [World.frozen?, k1], e2⟩, ⟨by rw [cell_of_row _ b 2 _ _ _ k2]; rfl, by simp [World.frozen?, k2], e3⟩, ⟨by rw [cell_of_row _ b 3 _ _ _ k3]; rfl, by simp [World.frozen?, k3], e4⟩, ⟨by rw [cell_of_row _ b 4 _ _ _ k4]; rfl, by simp [World.frozen?, k4], e5⟩, ⟨by rw [cell_of_row _ b 5 _ _ _ k5]; rfl, by simp [World.frozen?, k5], e6⟩, ⟨by rw [cell_of_row _ b 6 _ _ _ k6]; rfl, by simp [World.frozen?, k6], e7⟩, ⟨by rw [cell_of_row _ b 7 _ _ _ k7]; rfl, by simp [World.frozen?, k7], e8⟩, k8, fun B hB => ?_, fun i hi => ?_⟩
  · rw [← e8]
    rw [← e7]
    rw [← e6]
    rw [← e5]
    rw [← e4]
    rw [← e3]
    rw [← e2]
    rw [← e1]
    exact (((((((((Below.refl B w).setCell (show B ≤ b from hB) _).setCell (show B ≤ b from hB) _).setCell (show B ≤ b from hB) _).setCell (show B ≤ b from hB) _).setCell (show B ≤ b from hB) _).setCell (show B ≤ b from hB) _).setCell (show B ≤ b from hB) _).setCell (show B ≤ b from hB) _)
  · have k := fun (W : World) (j : Nat) (v : Value) => heap_setCell_other W ⟨b, j, none⟩ i v hi
    rw [← e8, k, ← e7, k, ← e6, k, ← e5, k, ← e4, k, ← e3, k, ← e2, k, ← e1, k]

set_option maxHeartbeats 25600000 in
/-- Book.Headers. -/
theorem bHeaders_any (h : Sg.Hist) (aoA ao : Option Addr) (nA nP capA cap b : Nat) (rs : List Rec) (w : World) (hC : Closed w aoA nA nP h (.slice aoA nA capA) ao rs b) (hfine : ∀ p ∈ h.pers, perFine nA p) :
    Calls Tryz.prog 36 #[.agg #[.slice aoA nA capA, .slice ao nP cap]] w fun e w' => ∃ v, e = .returned v ∧ Hid (OwnH w' (w.heap.size + 1) v (Sg.hdrsTo h nP)) ∧ Below w.heap.size w w' := by
  obtain ⟨i0, hi, hz0, hz1, hz2⟩ := info_parts Tryz.infoHdr
  obtain ⟨hn8, hn6, hn1⟩ := hC.nums
  have HC : Hid (Closed w aoA nA nP h (.slice aoA nA capA) ao rs b) := hC
  have HFN : Hid (∀ p ∈ h.pers, perFine nA p) := hfine
  have hao := hC.bk.at_
  subst hao
  have hch := fun W (hb : Below w.heap.size w W) => bChart_any h.accs aoA nA capA (.slice (some ⟨b, 0, none⟩) nP cap) W hC.lenA hn8 (hC.accs.below hb) (fun a ha => (Sg.bnd_accs hC.inb a ha).1)
  have hB0 : Two (w.alloc (.cells #[.slice aoA nA capA, .slice (some ⟨b, 0, none⟩) nP cap] 65)) w.heap.size (.slice aoA nA capA) (.slice (some ⟨b, 0, none⟩) nP cap) 65 := Two.new w _ _ _
  have aB : Below w.heap.size w (w.alloc (.cells #[.slice aoA nA capA, .slice (some ⟨b, 0, none⟩) nP cap] 65)) := (Below.refl _ _).alloc (Nat.le_refl _) _
  clear hC hfine
  go_enter Tryz.func36, Tryz.ntmps36
  go_wp2_with fail
  refine (hch _ aB).mono ?_
  rintro e w1 ⟨y0, rfl, hy0, hys0, hb1⟩
  go_wp2_with fail
  refine (sumOf_txt y0 _ (by unfold maxLen; omega)).mono ?_
  rintro e w2 ⟨ch, rfl, hch2, hcs, hb2⟩
  have hB2 := (hB0.below hb1).below hb2
  obtain ⟨c0, c1⟩ := hB2.cells
  have hb02 : Below w.heap.size w w2 := (aB.trans (hb1.mono (by simp))).trans (hb2.mono (by have := hb1.size; simp at this; omega))
  have hs2 : w.heap.size + 1 ≤ w2.heap.size := by have := hb1.size; have := hb2.size; simp at *; omega
  have HCh : Hid (ch = Sg.sumB (Sg.chartB h.accs)) := by show _ = _; rw [hch2.out, hy0.out]
  clear hB0 hB2 hb1 hb2 aB hch hch2 hy0 hys0
  go_wp2_with fail
  clear c0 c1
  go_loopw [3, 5, 15] (fun o la i wr => ∃ k : Nat, k ≤ nP ∧ i = .int .i64 (k : Int) ∧ (∃ v, v = o ∧ Hid (OwnH wr (w.heap.size + 1) v (Sg.hdrsTo h k))) ∧ (∃ ll, la = .string ll ∧ Hid (ll = (Sg.hdTo h (Sg.balances h) (Sg.totals h) k).2)) ∧ Below w.heap.size w wr ∧ w.heap.size + 1 ≤ wr.heap.size) (fun _ _ i _ => nP - (intOf i).toNat)
  case atStart => exact ⟨0, by omega, rfl, ⟨_, rfl, OwnH.nil _ _⟩, ⟨_, rfl, rfl⟩, hb02, hs2⟩
  case round =>
    obtain ⟨k, hk, rfl, ⟨v, ev, HO⟩, ⟨ll, rfl, hll⟩, hbr, hs1x⟩ := hrel
    subst ev
    obtain ⟨wz, ewz⟩ : ∃ z : World, z = wr := ⟨_, rfl⟩
    subst ewz
    have hsz := hbr.size
    by_cases hlt : k < nP
    · obtain ⟨h1, h2, h3, h4, aoE, ne, capE, g1, g2, hper⟩ := (HC.out.below hbr).per hlt
      obtain ⟨x0, x1, x2, x3, x4, x5, x6, x7, x8, x9, x10⟩ := (HC.out.below hbr).bk.eleven h4
      have hbz := (HC.out.below hbr).bk.lt
      have HS : Hid (Sg.hdrOf h k = ⟨({ data := #[72, 69, 65, 68] } : ByteArray), (k : Int), ll, ch, (ne : Int), Sg.root (h.pers[k].map Sg.entB), Sg.root (Sg.stmt h.accs h.pers[k] [rs[k].t0, rs[k].t1, rs[k].t2, rs[k].t3]), Sg.sumB (Sg.amountsB rs[k].now)⟩) := by
        have e1 : h.pers.getD k [] = h.pers[k] := by rw [List.getD_eq_getElem?_getD, List.getElem?_eq_getElem h1]; rfl
        have e2 : (Sg.balances h).getD k [] = rs[k].now := by rw [List.getD_eq_getElem?_getD, List.getElem?_eq_getElem h2]; exact g1
        have e3 : (Sg.totals h).getD k [] = [rs[k].t0, rs[k].t1, rs[k].t2, rs[k].t3] := by rw [List.getD_eq_getElem?_getD, List.getElem?_eq_getElem h3]; exact g2
        show _ = _
        unfold Sg.hdrOf
        rw [e1, e2, e3, ← hll.out, ← HCh.out, hper.len]
      have HSM : Hid ((Sg.hdrOf h k).small) := Sg.hdrOf_small h k
      have HSS : Hid (Sg.sumB (Sg.hdrB (Sg.hdrOf h k)) = (Sg.hdTo h (Sg.balances h) (Sg.totals h) (k + 1)).2) := Sg.hdrSum_of h k
      have HSC : Hid (Sg.hdrsTo h (k + 1) = Sg.hdrsTo h k ++ [Sg.hdrOf h k]) := Sg.hdrsTo_succ h k
      have hlen : (Sg.hdrsTo h k).length = k := Sg.hdrsTo_len h k
      have hn12 : ne ≤ 12 := by have := (HFN.out _ (List.getElem_mem h1)).1; have := hper.len; omega
      have hen := fun W (hb0 : Below wz.heap.size wz W) => entries_any h.pers[k] (.slice aoA nA capA) (.map (some rs[k].m)) (.int .u64 (nHi rs[k].t0)) (.int .u64 (nLo rs[k].t0)) (.int .u64 (nHi rs[k].t1)) (.int .u64 (nLo rs[k].t1)) (.int .u64 (nHi rs[k].t2)) (.int .u64 (nLo rs[k].t2)) (.int .u64 (nHi rs[k].t3)) (.int .u64 (nLo rs[k].t3)) aoE ne capE W hper.len hn12 (hper.ents.below hb0) hper.ok
      have hle := fun W (hb0 : Below wz.heap.size wz W) => perLeaves_any h.accs h.pers[k] rs[k].t0 rs[k].t1 rs[k].t2 rs[k].t3 aoA aoE nA capA ne capE (.map (some rs[k].m)) W ((HC.out.below hbr).accs.below hb0) HC.out.lenA hn8 (hper.ents.below hb0) hper.len (HFN.out _ (List.getElem_mem h1)) hper.fitT
      have hbl := fun W (hb0 : Below wz.heap.size wz W) => balances_any rs[k].now (.slice aoE ne capE) (.int .u64 (nHi rs[k].t0)) (.int .u64 (nLo rs[k].t0)) (.int .u64 (nHi rs[k].t1)) (.int .u64 (nLo rs[k].t1)) (.int .u64 (nHi rs[k].t2)) (.int .u64 (nLo rs[k].t2)) (.int .u64 (nHi rs[k].t3)) (.int .u64 (nLo rs[k].t3)) aoA nA capA rs[k].m 600 W hper.lenN hn8 hper.fitN (hper.bal.below hb0)
      have hl1 : (h.pers[k].map Sg.entB).length ≤ 4096 := by rw [List.length_map, hper.len]; omega
      have hs1 : ∀ x ∈ h.pers[k].map Sg.entB, x.size ≤ 100 := fun x hx => by
        obtain ⟨e, he, rfl⟩ := List.mem_map.1 hx
        have k1 := (hper.ok e he).1
        have k2 := (hper.ok e he).2.1
        rw [Sg.entB_size]; omega
      obtain ⟨hl2', hs2'⟩ := stmt_small h.accs h.pers[k] [rs[k].t0, rs[k].t1, rs[k].t2, rs[k].t3]
      have hl2 : (Sg.stmt h.accs h.pers[k] [rs[k].t0, rs[k].t1, rs[k].t2, rs[k].t3]).length ≤ 4096 := by omega
      have hs2 := hs2'
      rw [hper.eV] at x1
      generalize h.pers[k].map Sg.entB = tsE at *
      generalize rs[k].m = m at *
      generalize rs[k].now = now at *
      generalize rs[k].t0 = t0 at *
      generalize rs[k].t1 = t1 at *
      generalize rs[k].t2 = t2 at *
      generalize rs[k].t3 = t3 at *
      generalize Sg.stmt h.accs h.pers[k] [t0, t1, t2, t3] = us at *
      generalize Sg.amountsB now = ab at *
      generalize Sg.hdrsTo h k = hs at *
      generalize Sg.hdrOf h k = hk0 at *
      have i1 : (0 : Int) ≤ (k : Int) := by omega
      have i2 : (k : Int) < (nP : Int) := by omega
      have hrow := World.ownsRow.lt HO.out
      clear hper g1 g2 hl2' hs2'
      have hS0 : HdS wz (.slice aoA nA capA) (.slice aoE ne capE) (.map (some m)) (.int .u64 (nHi t0)) (.int .u64 (nLo t0)) (.int .u64 (nHi t1)) (.int .u64 (nLo t1)) (.int .u64 (nHi t2)) (.int .u64 (nLo t2)) (.int .u64 (nHi t3)) (.int .u64 (nLo t3)) (wz.alloc (.cells #[.slice aoA nA capA, .slice aoE ne capE, .map (some m), .int .u64 (nHi t0), .int .u64 (nLo t0), .int .u64 (nHi t1), .int .u64 (nLo t1), .int .u64 (nHi t2), .int .u64 (nLo t2), .int .u64 (nHi t3), .int .u64 (nLo t3)] 87)) := ⟨PerBox.new wz (.slice aoA nA capA) (.slice aoE ne capE) (.map (some m)) (.int .u64 (nHi t0)) (.int .u64 (nLo t0)) (.int .u64 (nHi t1)) (.int .u64 (nLo t1)) (.int .u64 (nHi t2)) (.int .u64 (nLo t2)) (.int .u64 (nHi t3)) (.int .u64 (nLo t3)), (Below.refl _ _).alloc (Nat.le_refl _) _⟩
      go_upto_region 6 with fail
      generalize (wz.alloc (.cells #[.slice aoA nA capA, .slice aoE ne capE, .map (some m), .int .u64 (nHi t0), .int .u64 (nLo t0), .int .u64 (nHi t1), .int .u64 (nLo t1), .int .u64 (nHi t2), .int .u64 (nLo t2), .int .u64 (nHi t3), .int .u64 (nLo t3)] 87)) = W0 at *
      have hS0c := hS0.all
      have hl0z := hS0.lt
      go_cut [8, 15] from 15 to 42 (fun p i wx => i = .int .i64 (k : Int) ∧ ∃ g, p = .pointer (some ⟨g, 0, none⟩) ∧ Hid (HBox wx g hk0 ∧ wz.heap.size ≤ g ∧ Below wz.heap.size wz wx))
      case first =>
        go_region_held3 (fun w' => w'.cell? ⟨wz.heap.size, 0, none⟩ = some (.slice aoA nA capA) ∧ w'.cell? ⟨wz.heap.size, 1, none⟩ = some (.slice aoE ne capE) ∧ w'.cell? ⟨wz.heap.size, 2, none⟩ = some (.map (some m)) ∧ w'.cell? ⟨wz.heap.size, 3, none⟩ = some (.int .u64 (nHi t0)) ∧ w'.cell? ⟨wz.heap.size, 4, none⟩ = some (.int .u64 (nLo t0)) ∧ w'.cell? ⟨wz.heap.size, 5, none⟩ = some (.int .u64 (nHi t1)) ∧ w'.cell? ⟨wz.heap.size, 6, none⟩ = some (.int .u64 (nLo t1)) ∧ w'.cell? ⟨wz.heap.size, 7, none⟩ = some (.int .u64 (nHi t2)) ∧ w'.cell? ⟨wz.heap.size, 8, none⟩ = some (.int .u64 (nLo t2)) ∧ w'.cell? ⟨wz.heap.size, 9, none⟩ = some (.int .u64 (nHi t3)) ∧ w'.cell? ⟨wz.heap.size, 10, none⟩ = some (.int .u64 (nLo t3)) ∧ HdS wz (.slice aoA nA capA) (.slice aoE ne capE) (.map (some m)) (.int .u64 (nHi t0)) (.int .u64 (nLo t0)) (.int .u64 (nHi t1)) (.int .u64 (nLo t1)) (.int .u64 (nHi t2)) (.int .u64 (nLo t2)) (.int .u64 (nHi t3)) (.int .u64 (nLo t3)) w') (first | with_reducible assumption | with_reducible exact HdS.all (HdS.drew hS0) | with_reducible exact HdS.all (HdS.alloc (HdS.of (by with_reducible assumption)) _) | with_reducible exact HdS.all (HdS.set8 (HdS.of (by with_reducible assumption)) (by with_reducible assumption) _ _ _ _ _ _ _ _) | fail)
          (first
            | (go_at_call 66; have hS3p : HdS wz (.slice aoA nA capA) (.slice aoE ne capE) (.map (some m)) (.int .u64 (nHi t0)) (.int .u64 (nLo t0)) (.int .u64 (nHi t1)) (.int .u64 (nLo t1)) (.int .u64 (nHi t2)) (.int .u64 (nLo t2)) (.int .u64 (nHi t3)) (.int .u64 (nLo t3)) _ := HdS.of (by assumption); refine (hen _ hS3p.bel).mono ?_; rintro e w3 ⟨v3, rfl, hO3, hb3⟩; have hS3 := hS3p.call hb3; have hh3 := hS3.all; have hl3z := hS3.lt; (first | (have hX3 : HBox w3 W0.heap.size ⟨{ data := #[] }, 0, { data := #[] }, { data := #[] }, 0, { data := #[] }, { data := #[] }, { data := #[] }⟩ := HBox.below (HBox.new W0 ⟨{ data := #[] }, 0, { data := #[] }, { data := #[] }, 0, { data := #[] }, { data := #[] }, { data := #[] }⟩) hb3) | (have hX3 : HBox w3 W0.heap.size ⟨{ data := #[] }, 0, { data := #[] }, { data := #[] }, 0, { data := #[] }, { data := #[] }, { data := #[] }⟩ := HBox.below (HBox.new W0.drew ⟨{ data := #[] }, 0, { data := #[] }, { data := #[] }, 0, { data := #[] }, { data := #[] }, { data := #[] }⟩) hb3) | skip))
            | (go_at_call_of 65 v5; have hS6p : HdS wz (.slice aoA nA capA) (.slice aoE ne capE) (.map (some m)) (.int .u64 (nHi t0)) (.int .u64 (nLo t0)) (.int .u64 (nHi t1)) (.int .u64 (nLo t1)) (.int .u64 (nHi t2)) (.int .u64 (nLo t2)) (.int .u64 (nHi t3)) (.int .u64 (nLo t3)) _ := HdS.of (by assumption); refine (sumRoot_own (by first | exact hO5.out | exact hO5.out.below ((Below.refl _ _).alloc (Nat.le_refl _) _)) hl2 hs2).mono ?_; rintro e w6 ⟨y6, rfl, hy6, hys6, hb6⟩; have hS6 := hS6p.call hb6; have hh6 := hS6.all; have hl6z := hS6.lt; (first | (have hX6 : HBox w6 w5.heap.size ⟨{ data := #[] }, 0, { data := #[] }, { data := #[] }, 0, { data := #[] }, { data := #[] }, { data := #[] }⟩ := HBox.below (HBox.new w5 ⟨{ data := #[] }, 0, { data := #[] }, { data := #[] }, 0, { data := #[] }, { data := #[] }, { data := #[] }⟩) hb6) | (have hX6 := HBox.below hX5 hb6) | skip))
            | (go_at_call 65; have hS4p : HdS wz (.slice aoA nA capA) (.slice aoE ne capE) (.map (some m)) (.int .u64 (nHi t0)) (.int .u64 (nLo t0)) (.int .u64 (nHi t1)) (.int .u64 (nLo t1)) (.int .u64 (nHi t2)) (.int .u64 (nLo t2)) (.int .u64 (nHi t3)) (.int .u64 (nLo t3)) _ := HdS.of (by assumption); refine (sumRoot_own (by first | exact hO3.out | exact hO3.out.below ((Below.refl _ _).alloc (Nat.le_refl _) _)) hl1 hs1).mono ?_; rintro e w4 ⟨y4, rfl, hy4, hys4, hb4⟩; have hS4 := hS4p.call hb4; have hh4 := hS4.all; have hl4z := hS4.lt; (first | (have hX4 : HBox w4 w3.heap.size ⟨{ data := #[] }, 0, { data := #[] }, { data := #[] }, 0, { data := #[] }, { data := #[] }, { data := #[] }⟩ := HBox.below (HBox.new w3 ⟨{ data := #[] }, 0, { data := #[] }, { data := #[] }, 0, { data := #[] }, { data := #[] }, { data := #[] }⟩) hb4) | (have hX4 := HBox.below hX3 hb4) | skip))
            | (go_at_call 43; have hS5p : HdS wz (.slice aoA nA capA) (.slice aoE ne capE) (.map (some m)) (.int .u64 (nHi t0)) (.int .u64 (nLo t0)) (.int .u64 (nHi t1)) (.int .u64 (nLo t1)) (.int .u64 (nHi t2)) (.int .u64 (nLo t2)) (.int .u64 (nHi t3)) (.int .u64 (nLo t3)) _ := HdS.of (by assumption); refine (hle _ hS5p.bel).mono ?_; rintro e w5 ⟨v5, rfl, hO5, hb5⟩; have hS5 := hS5p.call hb5; have hh5 := hS5.all; have hl5z := hS5.lt; (first | (have hX5 : HBox w5 w4.heap.size ⟨{ data := #[] }, 0, { data := #[] }, { data := #[] }, 0, { data := #[] }, { data := #[] }, { data := #[] }⟩ := HBox.below (HBox.new w4 ⟨{ data := #[] }, 0, { data := #[] }, { data := #[] }, 0, { data := #[] }, { data := #[] }, { data := #[] }⟩) hb5) | (have hX5 := HBox.below hX4 hb5) | skip))
            | (go_at_call 63; have hS7p : HdS wz (.slice aoA nA capA) (.slice aoE ne capE) (.map (some m)) (.int .u64 (nHi t0)) (.int .u64 (nLo t0)) (.int .u64 (nHi t1)) (.int .u64 (nLo t1)) (.int .u64 (nHi t2)) (.int .u64 (nLo t2)) (.int .u64 (nHi t3)) (.int .u64 (nLo t3)) _ := HdS.of (by assumption); refine (hbl _ hS7p.bel).mono ?_; rintro e w7 ⟨y7, rfl, hy7, hys7, hb7⟩; have hS7 := hS7p.call hb7; have hh7 := hS7.all; have hl7z := hS7.lt; (first | (have hX7 : HBox w7 w6.heap.size ⟨{ data := #[] }, 0, { data := #[] }, { data := #[] }, 0, { data := #[] }, { data := #[] }, { data := #[] }⟩ := HBox.below (HBox.new w6 ⟨{ data := #[] }, 0, { data := #[] }, { data := #[] }, 0, { data := #[] }, { data := #[] }, { data := #[] }⟩) hb7) | (have hX7 := HBox.below hX6 hb7) | skip))
            | (go_at_call 28; have hS8p : HdS wz (.slice aoA nA capA) (.slice aoE ne capE) (.map (some m)) (.int .u64 (nHi t0)) (.int .u64 (nLo t0)) (.int .u64 (nHi t1)) (.int .u64 (nLo t1)) (.int .u64 (nHi t2)) (.int .u64 (nLo t2)) (.int .u64 (nHi t3)) (.int .u64 (nLo t3)) _ := HdS.of (by assumption); refine (sumOf_txt y7 _ (by unfold maxLen; omega)).mono ?_; rintro e w8 ⟨y8, rfl, hy8, hys8, hb8⟩; have hS8 := hS8p.call hb8; have hh8 := hS8.all; have hl8z := hS8.lt; (first | (have hX8 : HBox w8 w7.heap.size ⟨{ data := #[] }, 0, { data := #[] }, { data := #[] }, 0, { data := #[] }, { data := #[] }, { data := #[] }⟩ := HBox.below (HBox.new w7 ⟨{ data := #[] }, 0, { data := #[] }, { data := #[] }, 0, { data := #[] }, { data := #[] }, { data := #[] }⟩) hb8) | (have hX8 := HBox.below hX7 hb8) | skip); (first | (have hQ9 := hstore_run hX8 ⟨({ data := #[72, 69, 65, 68] } : ByteArray), (k : Int), ll, ch, (ne : Int), y4, y6, y8⟩; obtain ⟨u1, u2, u3, u4, u5, u6, u7, w9, ⟨m1, m2, m3⟩, ⟨m4, m5, m6⟩, ⟨m7, m8, m9⟩, ⟨n1, n2, n3⟩, ⟨n4, n5, n6⟩, ⟨n7, n8, n9⟩, ⟨r1, r2, r3⟩, ⟨r4, r5, r6⟩, hX9, hB9, ho9⟩ := hQ9; simp only at m1 m3 m4 m6 m7 m9 n1 n3 n4 n6 n7 n9 r1 r3 r4 r6; have hS9 := hS8.stored (by with_reducible assumption) hB9 ho9; have hh9 := hS9.all) | skip)))
        all_goals
          have HH : Hid (hk0 = ⟨({ data := #[72, 69, 65, 68] } : ByteArray), (k : Int), ll, ch, (ne : Int), y4, y6, y8⟩) := by show _ = _; rw [HS.out, hy4.out, hy6.out, hy8.out, hy7.out]
          go_wp2_with fail
          go_meet
          case rel =>
            refine ⟨rfl, _, rfl, ?_⟩
            rw [HH.out]
            first
              | exact ⟨hX9, by omega, hS9.bel⟩
              | exact ⟨HBox.new w8 ⟨({ data := #[72, 69, 65, 68] } : ByteArray), (k : Int), ll, ch, (ne : Int), y4, y6, y8⟩, by omega, (hS8.alloc _).bel⟩
      case rest =>
        obtain ⟨rfl, g, rfl, HGX⟩ := hcut
        obtain ⟨hX, hgz, hbx⟩ := HGX.out
        have hownX := HO.out.below hbx
        have hsx := hbx.size
        have hgl := lt_of_block hX
        have hsum := fun W => hdrSum_any hk0 W HSM.out
        have hbwx := hbr.trans (hbx.mono hsz)
        have hX' := hX
        obtain ⟨mark, num, ahead, chart, ents, jour, stat, bals⟩ := hk0
        obtain ⟨o0, o1, o2, o3, o4, o5, o6, o7⟩ := hX.cells
        simp only at o0 o1 o2 o3 o4 o5 o6 o7 hsum
        unfold OwnH at hownX
        have hlenH : Hid (hs.length = k) := hlen
        clear hlen hX HS HFN hen hle hbl hl1 hs1 hl2 hs2 hS0 hS0c hl0z HGX
        go_wp2_with (at_builtin; (refine wpList_append_lies _ rfl _ _ 70 rfl (w.heap.size + 1) 100 i0 _ 8 112 Tryz.underlying70 hi hz0 hz1 hz2 rfl (by decide) v hs.length (hdrCells hs) rfl (hownX.alloc _) ⟨wc.heap.size, 0, none⟩ 1 1 [.string mark, .int .i64 num, .string ahead, .string chart, .int .i64 ents, .string jour, .string stat, .string bals] rfl rfl (World.news_of_block (cs := #[.string mark, .int .i64 num, .string ahead, .string chart, .int .i64 ents, .string jour, .string stat, .string bals]) (t := 100) (fr := (0, 0)) (heap_alloc_new wc _)) (by simp [Value.oneCell']) (by omega) (by rw [hlenH.out]; unfold maxLen; omega) (by rw [hlenH.out]; omega) (by simp; omega) (wc.heap.size + 1) (by simp) ?_))
        intro g2 cap' w5 hown5 hgrow _ hlt5
        have hX5 : HBox w5 g ⟨mark, num, ahead, chart, ents, jour, stat, bals⟩ := (hgrow.block g (by simp; omega) (fun e => by have := hrow g e.symm; omega)).trans ((Below.heap_alloc _ _ _ hgl).trans hX')
        have hb5 : Below w.heap.size w w5 := (hbwx.alloc (by omega) _).grown hgrow (by simp; omega) (fun j hj => by have := (hownX.lt j hj).1; omega)
        have HO5 : Hid (OwnH w5 (w.heap.size + 1) (.slice (some ⟨g2, 0, none⟩) (k + 1) cap') (Sg.hdrsTo h (k + 1))) := by
          show OwnH _ _ _ _
          rw [HSC.out]
          unfold OwnH
          rw [hdrCells_snoc, List.length_append]
          rw [hlenH.out] at hown5 ⊢
          exact hown5
        have hs5 : w.heap.size + 1 ≤ w5.heap.size := by have := hgrow.size; simp at this; omega
        obtain ⟨p0, p1, p2, p3, p4, p5, p6, p7⟩ := hX5.cells
        simp only at p0 p1 p2 p3 p4 p5 p6 p7
        clear o0 o1 o2 o3 o4 o5 o6 o7 hown5 hgrow hownX hX5 hX' HO HSC hbx
        rw [hlenH.out]
        go_wp2_with fail
        refine (hsum _).mono ?_
        rintro e w6 ⟨y9, rfl, hy9, hys9, hb6⟩
        have hbe : Below w.heap.size w w6 := hb5.trans (hb6.mono hb5.size)
        have HOe : Hid (OwnH w6 (w.heap.size + 1) (.slice (some ⟨g2, 0, none⟩) (k + 1) cap') (Sg.hdrsTo h (k + 1))) := HO5.out.below hb6
        have hs6 := hb6.size
        have HY : Hid (y9 = (Sg.hdTo h (Sg.balances h) (Sg.totals h) (k + 1)).2) := by show _ = _; rw [hy9.out, HSS.out]
        clear hsum p0 p1 p2 p3 p4 p5 p6 p7 hys9
        go_wp2_with fail
        go_roundw
        case rel => exact ⟨k + 1, by omega, by go_num, ⟨_, rfl, HOe⟩, ⟨_, rfl, HY⟩, hbe, by omega⟩
        case measure => simp [intOf]; omega
    · have HOn : Hid (OwnH wz (w.heap.size + 1) v (Sg.hdrsTo h nP)) := by
        have := HO.out
        rw [show k = nP by omega] at this
        exact this
      go_wp2_with fail
      go_ret
      exact ⟨_, rfl, HOn, hbr⟩

end Go.Proofs.YtpkkhkkkgjhkeabGreat
