import Derived.Test.YtpkkhkkkgjhkeaaGreatBunSpec
import Derived.Test.YtpkkhkkkgjhkeaaGreatReader
import Derived.Test.YtpkkhkkkgjhkeaaGreatHheads
import Derived.Test.YtpkkhkkkgjhkeaaGreatEntersWalk
import Derived.Test.YtpkkhkkkgjhkeaaGreatBclimb
/-
  THE WALKS of book.ReadHeader, ReadDrill, the lists of them, of bundle.readBundle: a bundle is read again (P10).
-/
namespace Go.Proofs.YtpkkhkkkgjhkeaaGreat
open Go.RowKit
set_option maxRecDepth 100000
attribute [local go_sem ↓] Go.wp_at_zero Go.wp_at_succ

theorem HBox.rdd {w w' : World} {b g : Nat} {s : Sg.Rs} {h : Sg.Hdr} (k : HBox w g h) (hr : Rdd w w' b s) (hne : g ≠ b) : HBox w' g h := (hr.block (lt_of_block k) hne).trans k
theorem HBox.set_other {w : World} {g p j : Nat} {h : Sg.Hdr} (k : HBox w g h) (hne : g ≠ p) (u : Value) : HBox (w.setCell ⟨p, j, none⟩ u) g h := (heap_setCell_other w ⟨p, j, none⟩ g u hne).trans k

theorem OwnH.len_ {w : World} {B : Nat} {v : Value} {hs : List Sg.Hdr} (h : OwnH w B v hs) : ∃ ao cap, v = .slice ao hs.length cap := ownsRow_len h
end Go.Proofs.YtpkkhkkkgjhkeaaGreat

/-
  THE WALKS of book.ReadDrill, and the lists of drills and of sums.
-/
namespace Go.Proofs.YtpkkhkkkgjhkeaaGreat
open Go.RowKit
set_option maxRecDepth 100000
attribute [local go_sem ↓] Go.wp_at_zero Go.wp_at_succ

/-- Four numbers in a box of their own. -/
def DBox (W : World) (g : Nat) (a b c d : Int) : Prop := W.heap[g]? = some (.cells #[.int .i64 a, .int .i64 b, .int .i64 c, .int .i64 d] 134 (0, 0))
theorem DBox.new (w : World) (a b c d : Int) : DBox (w.alloc (.cells #[.int .i64 a, .int .i64 b, .int .i64 c, .int .i64 d] 134)) w.heap.size a b c d := heap_alloc_new w _
theorem DBox.below {w w' : World} {g : Nat} {a b c d : Int} (k : DBox w g a b c d) (hb : Below w.heap.size w w') : DBox w' g a b c d := (hb.block g (lt_of_block k)).trans k
theorem DBox.rdd {w w' : World} {r g : Nat} {s : Sg.Rs} {a b c d : Int} (k : DBox w g a b c d) (hr : Rdd w w' r s) (hne : g ≠ r) : DBox w' g a b c d := (hr.block (lt_of_block k) hne).trans k
theorem DBox.set_other {w : World} {g p j : Nat} {a b c d : Int} (k : DBox w g a b c d) (hne : g ≠ p) (u : Value) : DBox (w.setCell ⟨p, j, none⟩ u) g a b c d := (heap_setCell_other w ⟨p, j, none⟩ g u hne).trans k
theorem DBox.cells {W : World} {g : Nat} {a b c d : Int} (k : DBox W g a b c d) : W.cell? ⟨g, 0, none⟩ = some (.int .i64 a) ∧ W.cell? ⟨g, 1, none⟩ = some (.int .i64 b) ∧ W.cell? ⟨g, 2, none⟩ = some (.int .i64 c) ∧ W.cell? ⟨g, 3, none⟩ = some (.int .i64 d) :=
  ⟨by rw [cell_of_row W g 0 _ _ _ k]; rfl, by rw [cell_of_row W g 1 _ _ _ k]; rfl, by rw [cell_of_row W g 2 _ _ _ k]; rfl, by rw [cell_of_row W g 3 _ _ _ k]; rfl⟩
theorem DBox.free {W : World} {g : Nat} {a b c d : Int} (k : DBox W g a b c d) : W.frozen? ⟨g, 0, none⟩ = false ∧ W.frozen? ⟨g, 1, none⟩ = false ∧ W.frozen? ⟨g, 2, none⟩ = false ∧ W.frozen? ⟨g, 3, none⟩ = false := by
  unfold DBox at k
  refine ⟨?_, ?_, ?_, ?_⟩ <;> simp [World.frozen?, k]
theorem DBox.lt {W : World} {g : Nat} {a b c d : Int} (k : DBox W g a b c d) : g < W.heap.size := lt_of_block k

theorem OwnDrls.len_ {w : World} {B : Nat} {v : Value} {hs : List Sg.Drl} (h : OwnDrls w B v hs) : ∃ ao cap, v = .slice ao hs.length cap := ownsRow_len h
theorem OwnDrls.nil (w : World) (B : Nat) : OwnDrls w B (.slice none 0 0) [] := World.ownsRow_nil _ _ _ _
theorem OwnStrs.len_ {w : World} {B : Nat} {v : Value} {hs : List ByteArray} (h : OwnStrs w B v hs) : ∃ ao cap, v = .slice ao hs.length cap := ownsRow_len h
theorem OwnStrs.nil (w : World) (B : Nat) : OwnStrs w B (.slice none 0 0) [] := World.ownsRow_nil _ _ _ _
end Go.Proofs.YtpkkhkkkgjhkeaaGreat

/-
  THE WALKS of bundle.readBundle, isInBounds, Reader.IsThrough, bundle.Read (P10).
-/
namespace Go.Proofs.YtpkkhkkkgjhkeaaGreat
open Go.RowKit
set_option maxRecDepth 100000
attribute [local go_sem ↓] Go.wp_at_zero Go.wp_at_succ

/-- A bundle's seven cells in a box of their own. -/
def BBox (W : World) (g : Nat) (x0 x1 x2 x3 x4 x5 x6 : Value) : Prop := W.heap[g]? = some (.cells #[x0, x1, x2, x3, x4, x5, x6] 81 (0, 0))
theorem BBox.new (w : World) (x0 x1 x2 x3 x4 x5 x6 : Value) : BBox (w.alloc (.cells #[x0, x1, x2, x3, x4, x5, x6] 81)) w.heap.size x0 x1 x2 x3 x4 x5 x6 := heap_alloc_new w _
theorem BBox.below {w w' : World} {g : Nat} {x0 x1 x2 x3 x4 x5 x6 : Value} (k : BBox w g x0 x1 x2 x3 x4 x5 x6) (hb : Below w.heap.size w w') : BBox w' g x0 x1 x2 x3 x4 x5 x6 := (hb.block g (lt_of_block k)).trans k
theorem BBox.rdd {w w' : World} {r g : Nat} {s : Sg.Rs} {x0 x1 x2 x3 x4 x5 x6 : Value} (k : BBox w g x0 x1 x2 x3 x4 x5 x6) (hr : Rdd w w' r s) (hne : g ≠ r) : BBox w' g x0 x1 x2 x3 x4 x5 x6 := (hr.block (lt_of_block k) hne).trans k
theorem BBox.set_other {w : World} {g p j : Nat} {x0 x1 x2 x3 x4 x5 x6 : Value} (k : BBox w g x0 x1 x2 x3 x4 x5 x6) (hne : g ≠ p) (u : Value) : BBox (w.setCell ⟨p, j, none⟩ u) g x0 x1 x2 x3 x4 x5 x6 := (heap_setCell_other w ⟨p, j, none⟩ g u hne).trans k
theorem BBox.lt {W : World} {g : Nat} {x0 x1 x2 x3 x4 x5 x6 : Value} (k : BBox W g x0 x1 x2 x3 x4 x5 x6) : g < W.heap.size := lt_of_block k
theorem BBox.cells {W : World} {g : Nat} {x0 x1 x2 x3 x4 x5 x6 : Value} (k : BBox W g x0 x1 x2 x3 x4 x5 x6) : W.cell? ⟨g, 0, none⟩ = some x0 ∧ W.cell? ⟨g, 1, none⟩ = some x1 ∧ W.cell? ⟨g, 2, none⟩ = some x2 ∧ W.cell? ⟨g, 3, none⟩ = some x3 ∧ W.cell? ⟨g, 4, none⟩ = some x4 ∧ W.cell? ⟨g, 5, none⟩ = some x5 ∧ W.cell? ⟨g, 6, none⟩ = some x6 :=
  ⟨by rw [cell_of_row W g 0 _ _ _ k]; rfl, by rw [cell_of_row W g 1 _ _ _ k]; rfl, by rw [cell_of_row W g 2 _ _ _ k]; rfl, by rw [cell_of_row W g 3 _ _ _ k]; rfl, by rw [cell_of_row W g 4 _ _ _ k]; rfl, by rw [cell_of_row W g 5 _ _ _ k]; rfl, by rw [cell_of_row W g 6 _ _ _ k]; rfl⟩
theorem BBox.free {W : World} {g : Nat} {x0 x1 x2 x3 x4 x5 x6 : Value} (k : BBox W g x0 x1 x2 x3 x4 x5 x6) : W.frozen? ⟨g, 0, none⟩ = false ∧ W.frozen? ⟨g, 1, none⟩ = false ∧ W.frozen? ⟨g, 2, none⟩ = false ∧ W.frozen? ⟨g, 3, none⟩ = false ∧ W.frozen? ⟨g, 4, none⟩ = false ∧ W.frozen? ⟨g, 5, none⟩ = false ∧ W.frozen? ⟨g, 6, none⟩ = false := by
  unfold BBox at k
  refine ⟨?_, ?_, ?_, ?_, ?_, ?_, ?_⟩ <;> simp [World.frozen?, k]
/-- A bundle is stored whole into a box: cell by cell. -/
theorem bstore_run {w : World} {b : Nat} {x0 x1 x2 x3 x4 x5 x6 : Value} (hX : BBox w b x0 x1 x2 x3 x4 x5 x6) (y0 y1 y2 y3 y4 y5 y6 : Value) :
    ∃ u1 u2 u3 u4 u5 u6 u7 : World, (w.cell? ⟨b, 0, none⟩ = some x0 ∧ w.frozen? ⟨b, 0, none⟩ = false ∧ w.setCell ⟨b, 0, none⟩ y0 = u1) ∧
      (u1.cell? ⟨b, 1, none⟩ = some x1 ∧ u1.frozen? ⟨b, 1, none⟩ = false ∧ u1.setCell ⟨b, 1, none⟩ y1 = u2) ∧
      (u2.cell? ⟨b, 2, none⟩ = some x2 ∧ u2.frozen? ⟨b, 2, none⟩ = false ∧ u2.setCell ⟨b, 2, none⟩ y2 = u3) ∧
      (u3.cell? ⟨b, 3, none⟩ = some x3 ∧ u3.frozen? ⟨b, 3, none⟩ = false ∧ u3.setCell ⟨b, 3, none⟩ y3 = u4) ∧
      (u4.cell? ⟨b, 4, none⟩ = some x4 ∧ u4.frozen? ⟨b, 4, none⟩ = false ∧ u4.setCell ⟨b, 4, none⟩ y4 = u5) ∧
      (u5.cell? ⟨b, 5, none⟩ = some x5 ∧ u5.frozen? ⟨b, 5, none⟩ = false ∧ u5.setCell ⟨b, 5, none⟩ y5 = u6) ∧
      (u6.cell? ⟨b, 6, none⟩ = some x6 ∧ u6.frozen? ⟨b, 6, none⟩ = false ∧ u6.setCell ⟨b, 6, none⟩ y6 = u7) ∧
      BBox u7 b y0 y1 y2 y3 y4 y5 y6 ∧ (∀ B, B ≤ b → Below B w u7) ∧ (∀ i, i ≠ b → u7.heap[i]? = w.heap[i]?) := by
  have k0 : w.heap[b]? = some (.cells #[x0, x1, x2, x3, x4, x5, x6] 81 (0, 0)) := hX
  obtain ⟨u1, e1⟩ : ∃ u : World, w.setCell ⟨b, 0, none⟩ y0 = u := ⟨_, rfl⟩
  have k1 : u1.heap[b]? = some (.cells #[y0, x1, x2, x3, x4, x5, x6] 81 (0, 0)) := by rw [← e1]; exact heap_setCell_same _ b 0 _ _ y0 k0
  obtain ⟨u2, e2⟩ : ∃ u : World, u1.setCell ⟨b, 1, none⟩ y1 = u := ⟨_, rfl⟩
  have k2 : u2.heap[b]? = some (.cells #[y0, y1, x2, x3, x4, x5, x6] 81 (0, 0)) := by rw [← e2]; exact heap_setCell_same _ b 1 _ _ y1 k1
  obtain ⟨u3, e3⟩ : ∃ u : World, u2.setCell ⟨b, 2, none⟩ y2 = u := ⟨_, rfl⟩
  have k3 : u3.heap[b]? = some (.cells #[y0, y1, y2, x3, x4, x5, x6] 81 (0, 0)) := by rw [← e3]; exact heap_setCell_same _ b 2 _ _ y2 k2
  obtain ⟨u4, e4⟩ : ∃ u : World, u3.setCell ⟨b, 3, none⟩ y3 = u := ⟨_, rfl⟩
  have k4 : u4.heap[b]? = some (.cells #[y0, y1, y2, y3, x4, x5, x6] 81 (0, 0)) := by rw [← e4]; exact heap_setCell_same _ b 3 _ _ y3 k3
  obtain ⟨u5, e5⟩ : ∃ u : World, u4.setCell ⟨b, 4, none⟩ y4 = u := ⟨_, rfl⟩
  have k5 : u5.heap[b]? = some (.cells #[y0, y1, y2, y3, y4, x5, x6] 81 (0, 0)) := by rw [← e5]; exact heap_setCell_same _ b 4 _ _ y4 k4
  obtain ⟨u6, e6⟩ : ∃ u : World, u5.setCell ⟨b, 5, none⟩ y5 = u := ⟨_, rfl⟩
  have k6 : u6.heap[b]? = some (.cells #[y0, y1, y2, y3, y4, y5, x6] 81 (0, 0)) := by rw [← e6]; exact heap_setCell_same _ b 5 _ _ y5 k5
  obtain ⟨u7, e7⟩ : ∃ u : World, u6.setCell ⟨b, 6, none⟩ y6 = u := ⟨_, rfl⟩
  have k7 : u7.heap[b]? = some (.cells #[y0, y1, y2, y3, y4, y5, y6] 81 (0, 0)) := by rw [← e7]; exact heap_setCell_same _ b 6 _ _ y6 k6
  refine ⟨u1, u2, u3, u4, u5, u6, u7, ⟨by rw [cell_of_row _ b 0 _ _ _ k0]; rfl, by simp [World.frozen?, k0], e1⟩, ⟨by rw [cell_of_row _ b 1 _ _ _ k1]; rfl, by simp [World.frozen?, k1], e2⟩, ⟨by rw [cell_of_row _ b 2 _ _ _ k2]; rfl, by simp [World.frozen?, k2], e3⟩, ⟨by rw [cell_of_row _ b 3 _ _ _ k3]; rfl, by simp [World.frozen?, k3], e4⟩, ⟨by rw [cell_of_row _ b 4 _ _ _ k4]; rfl, by simp [World.frozen?, k4], e5⟩, ⟨by rw [cell_of_row _ b 5 _ _ _ k5]; rfl, by simp [World.frozen?, k5], e6⟩, ⟨by rw [cell_of_row _ b 6 _ _ _ k6]; rfl, by simp [World.frozen?, k6], e7⟩, k7, fun B hB => ?_, fun i hi => ?_⟩
  · rw [← e7]
    rw [← e6]
    rw [← e5]
    rw [← e4]
    rw [← e3]
    rw [← e2]
    rw [← e1]
    exact ((((((((Below.refl B w).setCell (show B ≤ b from hB) _).setCell (show B ≤ b from hB) _).setCell (show B ≤ b from hB) _).setCell (show B ≤ b from hB) _).setCell (show B ≤ b from hB) _).setCell (show B ≤ b from hB) _).setCell (show B ≤ b from hB) _)
  · have k := fun (W : World) (j : Nat) (v : Value) => heap_setCell_other W ⟨b, j, none⟩ i v hi
    rw [← e7, k, ← e6, k, ← e5, k, ← e4, k, ← e3, k, ← e2, k, ← e1, k]

/-- A bundle's lists are the call's own. -/
structure BunOwn (w : World) (B : Nat) (vD vH vP : Value) (b : Sg.Bun) : Prop where
  drls : OwnDrls w B vD b.drls
  hdrs : OwnH w B vH b.hdrs
  path : OwnStrs w B vP b.path
theorem BunOwn.below {w w' : World} {B : Nat} {vD vH vP : Value} {b : Sg.Bun} (h : BunOwn w B vD vH vP b) (hb : Below w.heap.size w w') : BunOwn w' B vD vH vP b := ⟨ownsRow_below h.drls hb, ownsRow_below h.hdrs hb, ownsRow_below h.path hb⟩
theorem BunOwn.mono {w : World} {B B' : Nat} {vD vH vP : Value} {b : Sg.Bun} (h : BunOwn w B vD vH vP b) (hB : B' ≤ B) : BunOwn w B' vD vH vP b := ⟨ownsRow_mono h.drls hB, ownsRow_mono h.hdrs hB, ownsRow_mono h.path hB⟩
theorem ownsRow_offB {w w' : World} {B g : Nat} {e : TypeId} {sz n : Nat} {v : Value} {xs : List Value} (h : w.ownsRow B e sz v n xs) (hg : g < B) (ho : ∀ i, i ≠ g → w'.heap[i]? = w.heap[i]?) : w'.ownsRow B e sz v n xs := by
  obtain ⟨h1, h2⟩ := h
  refine ⟨h1, ?_⟩
  rcases h2 with h2 | ⟨q, cap, cur, hv, hq, hh, r⟩
  · exact Or.inl h2
  · exact Or.inr ⟨q, cap, cur, hv, hq, (ho q (by omega)).trans hh, r⟩

end Go.Proofs.YtpkkhkkkgjhkeaaGreat

/-
  THE WALK of bundle.Read (P10: the form).
-/
namespace Go.Proofs.YtpkkhkkkgjhkeaaGreat
open Go.RowKit
set_option maxRecDepth 100000
attribute [local go_sem ↓] Go.wp_at_zero Go.wp_at_succ

abbrev zBun : Value := .agg #[.int .i64 0, .int .i64 0, .int .i64 0, .slice none 0 0, .slice none 0 0, .slice none 0 0, .string { data := #[] }]
/-- A bundle as it is handed on. -/
abbrev bunV (n : Sg.Bun) (vD vH vP : Value) (hd : ByteArray) : Value := .agg #[.int .i64 (n.per : Int), .int .i64 (n.line : Int), .int .i64 n.total, vD, vH, vP, .string hd]
theorem Sg.pdBun_small (s : Sg.Rs) : (Sg.pdBun s).1.per < 256 ∧ (Sg.pdBun s).1.line < 256 ∧ (Sg.pdBun s).1.hdrs.length < 65536 ∧ (Sg.pdBun s).1.drls.length < 65536 := by
  unfold Sg.pdBun
  refine ⟨Sg.pdOne_lt _, Sg.pdOne_lt _, ?_, ?_⟩
  · show (Sg.pdHs _).1.length < _
    unfold Sg.pdHs
    have h1 := Sg.pdMany_len Sg.pdHdr (Sg.dr 1 (Sg.dr 1 (Sg.dr 1 s))) (Sg.pdOne (Sg.dr 1 (Sg.dr 1 s)))
    have h2 := Sg.pdOne_lt (Sg.dr 1 (Sg.dr 1 s))
    omega
  · show (Sg.pdDs _).1.length < _
    unfold Sg.pdDs
    generalize Sg.dr 8 _ = q
    have h1 := Sg.pdMany_len Sg.pdDrl (Sg.dr 2 q) (Sg.pdTwo q)
    have h2 : Sg.pdTwo q < 256 ^ 2 := Sg.numL_lt _ 2 (by simp; omega)
    omega

end Go.Proofs.YtpkkhkkkgjhkeaaGreat

/-
  THE WALKS of Bundle.isNumbered, isChained, leadsToHead (P10).
-/
namespace Go.Proofs.YtpkkhkkkgjhkeaaGreat
open Go.RowKit
set_option maxRecDepth 100000
attribute [local go_sem ↓] Go.wp_at_zero Go.wp_at_succ

theorem Sg.hG_get {n : Sg.Bun} {k : Nat} (h : k < n.hdrs.length) : Sg.hG n k = n.hdrs[k] := by unfold Sg.hG; rw [List.getD_eq_getElem?_getD, List.getElem?_eq_getElem h]; rfl
theorem same_bytes {x y : ByteArray} (h : x.toList = y.toList) : x = y := by
  rw [ByteArray.toList_eq, ByteArray.toList_eq] at h
  exact Go.WideShapes.bytes_inj h
theorem ne_list {x y : ByteArray} (h : ¬ x = y) : (x.toList == y.toList) = false := by
  have : ¬ x.toList = y.toList := fun e => h (same_bytes e)
  simp [this]

theorem eq_list {x y : ByteArray} (h : x = y) : (x.toList == y.toList) = true := by rw [h]; simp
/-- What a look at two headers finds in memory. -/
theorem ten_drew {W : World} {g q b o : Nat} {x0 x1 x2 x3 x4 x5 x6 x7 x8 x9 : Value} (h : W.cell? ⟨g, 2, none⟩ = some x0 ∧ W.cell? ⟨q, 4, none⟩ = some x1 ∧ W.cell? ⟨b, o, none⟩ = some x2 ∧ W.cell? ⟨b, o + 1, none⟩ = some x3 ∧ W.cell? ⟨b, o + 2, none⟩ = some x4 ∧ W.cell? ⟨b, o + 3, none⟩ = some x5 ∧ W.cell? ⟨b, o + 4, none⟩ = some x6 ∧ W.cell? ⟨b, o + 5, none⟩ = some x7 ∧ W.cell? ⟨b, o + 6, none⟩ = some x8 ∧ W.cell? ⟨b, o + 7, none⟩ = some x9) :
    W.drew.cell? ⟨g, 2, none⟩ = some x0 ∧ W.drew.cell? ⟨q, 4, none⟩ = some x1 ∧ W.drew.cell? ⟨b, o, none⟩ = some x2 ∧ W.drew.cell? ⟨b, o + 1, none⟩ = some x3 ∧ W.drew.cell? ⟨b, o + 2, none⟩ = some x4 ∧ W.drew.cell? ⟨b, o + 3, none⟩ = some x5 ∧ W.drew.cell? ⟨b, o + 4, none⟩ = some x6 ∧ W.drew.cell? ⟨b, o + 5, none⟩ = some x7 ∧ W.drew.cell? ⟨b, o + 6, none⟩ = some x8 ∧ W.drew.cell? ⟨b, o + 7, none⟩ = some x9 := by
  simpa using h
theorem ten_call {W w' : World} {g q b o : Nat} {x0 x1 x2 x3 x4 x5 x6 x7 x8 x9 : Value} (h : W.cell? ⟨g, 2, none⟩ = some x0 ∧ W.cell? ⟨q, 4, none⟩ = some x1 ∧ W.cell? ⟨b, o, none⟩ = some x2 ∧ W.cell? ⟨b, o + 1, none⟩ = some x3 ∧ W.cell? ⟨b, o + 2, none⟩ = some x4 ∧ W.cell? ⟨b, o + 3, none⟩ = some x5 ∧ W.cell? ⟨b, o + 4, none⟩ = some x6 ∧ W.cell? ⟨b, o + 5, none⟩ = some x7 ∧ W.cell? ⟨b, o + 6, none⟩ = some x8 ∧ W.cell? ⟨b, o + 7, none⟩ = some x9)
    (hb : Below W.heap.size W w') (k1 : g < W.heap.size) (k2 : q < W.heap.size) (k3 : b < W.heap.size) :
    w'.cell? ⟨g, 2, none⟩ = some x0 ∧ w'.cell? ⟨q, 4, none⟩ = some x1 ∧ w'.cell? ⟨b, o, none⟩ = some x2 ∧ w'.cell? ⟨b, o + 1, none⟩ = some x3 ∧ w'.cell? ⟨b, o + 2, none⟩ = some x4 ∧ w'.cell? ⟨b, o + 3, none⟩ = some x5 ∧ w'.cell? ⟨b, o + 4, none⟩ = some x6 ∧ w'.cell? ⟨b, o + 5, none⟩ = some x7 ∧ w'.cell? ⟨b, o + 6, none⟩ = some x8 ∧ w'.cell? ⟨b, o + 7, none⟩ = some x9 := by
  rw [hb.cell (p := ⟨g, 2, none⟩) k1, hb.cell (p := ⟨q, 4, none⟩) k2, hb.cell (p := ⟨b, o, none⟩) k3, hb.cell (p := ⟨b, o + 1, none⟩) k3, hb.cell (p := ⟨b, o + 2, none⟩) k3, hb.cell (p := ⟨b, o + 3, none⟩) k3, hb.cell (p := ⟨b, o + 4, none⟩) k3, hb.cell (p := ⟨b, o + 5, none⟩) k3, hb.cell (p := ⟨b, o + 6, none⟩) k3, hb.cell (p := ⟨b, o + 7, none⟩) k3]
  exact h

end Go.Proofs.YtpkkhkkkgjhkeaaGreat

/-
  THE WALKS of Bundle.leadsToHead, leadsToStatement, isTheTotal (P10).
-/
namespace Go.Proofs.YtpkkhkkkgjhkeaaGreat
open Go.RowKit
set_option maxRecDepth 100000
attribute [local go_sem ↓] Go.wp_at_zero Go.wp_at_succ

theorem strsIn_below {w w' : World} {ao : Option Addr} {ss : List ByteArray} (h : StrsIn w ao ss) (hb : Below w.heap.size w w') : StrsIn w' ao ss := by
  rcases h with h0 | ⟨b, off, e, hbw, hat⟩
  · exact Or.inl h0
  · exact Or.inr ⟨b, off, e, Nat.lt_of_lt_of_le hbw hb.size, hat.below hb hbw⟩
theorem tin_drew {W : World} {q b o : Nat} {x0 x1 x2 x3 x4 x5 x6 x7 x8 x9 : Value} (h : W.cell? ⟨q, 4, none⟩ = some x0 ∧ W.cell? ⟨q, 6, none⟩ = some x1 ∧ W.cell? ⟨b, o, none⟩ = some x2 ∧ W.cell? ⟨b, o + 1, none⟩ = some x3 ∧ W.cell? ⟨b, o + 2, none⟩ = some x4 ∧ W.cell? ⟨b, o + 3, none⟩ = some x5 ∧ W.cell? ⟨b, o + 4, none⟩ = some x6 ∧ W.cell? ⟨b, o + 5, none⟩ = some x7 ∧ W.cell? ⟨b, o + 6, none⟩ = some x8 ∧ W.cell? ⟨b, o + 7, none⟩ = some x9) : W.drew.cell? ⟨q, 4, none⟩ = some x0 ∧ W.drew.cell? ⟨q, 6, none⟩ = some x1 ∧ W.drew.cell? ⟨b, o, none⟩ = some x2 ∧ W.drew.cell? ⟨b, o + 1, none⟩ = some x3 ∧ W.drew.cell? ⟨b, o + 2, none⟩ = some x4 ∧ W.drew.cell? ⟨b, o + 3, none⟩ = some x5 ∧ W.drew.cell? ⟨b, o + 4, none⟩ = some x6 ∧ W.drew.cell? ⟨b, o + 5, none⟩ = some x7 ∧ W.drew.cell? ⟨b, o + 6, none⟩ = some x8 ∧ W.drew.cell? ⟨b, o + 7, none⟩ = some x9 := by
  simpa using h
theorem tin_call {W w' : World} {q b o : Nat} {x0 x1 x2 x3 x4 x5 x6 x7 x8 x9 : Value} (h : W.cell? ⟨q, 4, none⟩ = some x0 ∧ W.cell? ⟨q, 6, none⟩ = some x1 ∧ W.cell? ⟨b, o, none⟩ = some x2 ∧ W.cell? ⟨b, o + 1, none⟩ = some x3 ∧ W.cell? ⟨b, o + 2, none⟩ = some x4 ∧ W.cell? ⟨b, o + 3, none⟩ = some x5 ∧ W.cell? ⟨b, o + 4, none⟩ = some x6 ∧ W.cell? ⟨b, o + 5, none⟩ = some x7 ∧ W.cell? ⟨b, o + 6, none⟩ = some x8 ∧ W.cell? ⟨b, o + 7, none⟩ = some x9) (hb : Below W.heap.size W w') (k2 : q < W.heap.size) (k3 : b < W.heap.size) : w'.cell? ⟨q, 4, none⟩ = some x0 ∧ w'.cell? ⟨q, 6, none⟩ = some x1 ∧ w'.cell? ⟨b, o, none⟩ = some x2 ∧ w'.cell? ⟨b, o + 1, none⟩ = some x3 ∧ w'.cell? ⟨b, o + 2, none⟩ = some x4 ∧ w'.cell? ⟨b, o + 3, none⟩ = some x5 ∧ w'.cell? ⟨b, o + 4, none⟩ = some x6 ∧ w'.cell? ⟨b, o + 5, none⟩ = some x7 ∧ w'.cell? ⟨b, o + 6, none⟩ = some x8 ∧ w'.cell? ⟨b, o + 7, none⟩ = some x9 := by
  rw [hb.cell (p := ⟨q, 4, none⟩) k2, hb.cell (p := ⟨q, 6, none⟩) k2, hb.cell (p := ⟨b, o, none⟩) k3, hb.cell (p := ⟨b, o + 1, none⟩) k3, hb.cell (p := ⟨b, o + 2, none⟩) k3, hb.cell (p := ⟨b, o + 3, none⟩) k3, hb.cell (p := ⟨b, o + 4, none⟩) k3, hb.cell (p := ⟨b, o + 5, none⟩) k3, hb.cell (p := ⟨b, o + 6, none⟩) k3, hb.cell (p := ⟨b, o + 7, none⟩) k3]
  exact h

theorem six_drew {W : World} {q : Nat} {x0 x1 x2 x3 x4 x5 : Value} (h : W.cell? ⟨q, 0, none⟩ = some x0 ∧ W.cell? ⟨q, 1, none⟩ = some x1 ∧ W.cell? ⟨q, 2, none⟩ = some x2 ∧ W.cell? ⟨q, 3, none⟩ = some x3 ∧ W.cell? ⟨q, 4, none⟩ = some x4 ∧ W.cell? ⟨q, 5, none⟩ = some x5) : W.drew.cell? ⟨q, 0, none⟩ = some x0 ∧ W.drew.cell? ⟨q, 1, none⟩ = some x1 ∧ W.drew.cell? ⟨q, 2, none⟩ = some x2 ∧ W.drew.cell? ⟨q, 3, none⟩ = some x3 ∧ W.drew.cell? ⟨q, 4, none⟩ = some x4 ∧ W.drew.cell? ⟨q, 5, none⟩ = some x5 := by
  simpa using h
theorem six_call {W w' : World} {q : Nat} {x0 x1 x2 x3 x4 x5 : Value} (h : W.cell? ⟨q, 0, none⟩ = some x0 ∧ W.cell? ⟨q, 1, none⟩ = some x1 ∧ W.cell? ⟨q, 2, none⟩ = some x2 ∧ W.cell? ⟨q, 3, none⟩ = some x3 ∧ W.cell? ⟨q, 4, none⟩ = some x4 ∧ W.cell? ⟨q, 5, none⟩ = some x5) (hb : Below W.heap.size W w') (k2 : q < W.heap.size) : w'.cell? ⟨q, 0, none⟩ = some x0 ∧ w'.cell? ⟨q, 1, none⟩ = some x1 ∧ w'.cell? ⟨q, 2, none⟩ = some x2 ∧ w'.cell? ⟨q, 3, none⟩ = some x3 ∧ w'.cell? ⟨q, 4, none⟩ = some x4 ∧ w'.cell? ⟨q, 5, none⟩ = some x5 := by
  rw [hb.cell (p := ⟨q, 0, none⟩) k2, hb.cell (p := ⟨q, 1, none⟩) k2, hb.cell (p := ⟨q, 2, none⟩) k2, hb.cell (p := ⟨q, 3, none⟩) k2, hb.cell (p := ⟨q, 4, none⟩) k2, hb.cell (p := ⟨q, 5, none⟩) k2]
  exact h
theorem Sg.amtsD_snoc (l : List Sg.Drl) (d : Sg.Drl) : Sg.amtsD (l ++ [d]) = Sg.amtsD l + d.amt := by unfold Sg.amtsD; rw [List.foldl_append]; rfl
theorem Sg.amtsD_from : ∀ (l : List Sg.Drl) (s : Int), (∀ d ∈ l, Sg.fits d.amt = true) → s - 9223372036854775808 * (l.length : Int) ≤ l.foldl (fun s d => s + d.amt) s ∧ l.foldl (fun s d => s + d.amt) s ≤ s + 9223372036854775807 * (l.length : Int)
  | [], s, _ => by simp
  | d :: l, s, h => by
    have i := Sg.amtsD_from l (s + d.amt) (fun x hx => h x (by simp [hx]))
    have f : -9223372036854775808 ≤ d.amt ∧ d.amt ≤ 9223372036854775807 := of_decide_eq_true (h d (by simp))
    simp only [List.foldl_cons, List.length_cons]
    omega
theorem Sg.amtsD_bound (l : List Sg.Drl) (h : ∀ d ∈ l, Sg.fits d.amt = true) : -9223372036854775808 * (l.length : Int) ≤ Sg.amtsD l ∧ Sg.amtsD l ≤ 9223372036854775807 * (l.length : Int) := by
  have := Sg.amtsD_from l 0 h
  unfold Sg.amtsD
  omega
theorem num_eq {v t : Int} (hv : -700000000000000000000 ≤ v ∧ v ≤ 700000000000000000000) (ht : -9223372036854775808 ≤ t ∧ t ≤ 9223372036854775807) : ((nHi v == nHi (0 + t)) && (nLo v == nLo (0 + t))) = decide (v = t) := by
  rw [Bool.eq_iff_iff]
  simp only [Bool.and_eq_true, beq_iff_eq, decide_eq_true_eq]
  unfold nHi nLo
  omega

end Go.Proofs.YtpkkhkkkgjhkeaaGreat
