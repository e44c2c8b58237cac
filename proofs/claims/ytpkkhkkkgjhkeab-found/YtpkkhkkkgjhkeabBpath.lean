import Derived.Test.YtpkkhkkkgjhkeabTree
import Derived.Deep.AppendLies
import Derived.Test.YtpkkhkkkgjhkeabBclimb
import Derived.Test.YtpkkhkkkgjhkeabPick
/-
  THE WALKS of Builder.Path, seal.Path, signetref.Path (P4).
-/
namespace Go.Proofs.Ytpkkhkkkgjhkeab
open Go.RowKit
set_option maxRecDepth 100000
attribute [local go_sem ↓] Go.wp_at_zero Go.wp_at_succ

/-- What a world that came behind w still has: the leaves; what sums a text; all that was there. -/
def Still (w : World) (b off g : Nat) (ss : List ByteArray) (w' : World) : Prop := StrsAt w' b off ss ∧ w.heap.size < w'.heap.size ∧ Below w.heap.size w w' ∧ OfAt w' g
theorem Still.below {w w' : World} {b off g : Nat} {ss : List ByteArray} (h : Still w b off g ss w') : Below w.heap.size w w' := h.2.2.1
theorem Still.drew {w w' : World} {b off g : Nat} {ss : List ByteArray} (h : Still w b off g ss w') : Still w b off g ss w'.drew :=
  ⟨fun i hi => by simpa using h.1 i hi, by simpa using h.2.1, h.2.2.1.drew, h.2.2.2⟩
theorem Still.alloc {w : World} {b off g : Nat} {ss : List ByteArray} (hbw : b < w.heap.size) (hat : StrsAt w b off ss) (hg : OfAt w g) (o : Obj) : Still w b off g ss (w.alloc o) :=
  ⟨hat.below ((Below.refl _ _).alloc (Nat.le_refl _) o) hbw, by simp, (Below.refl _ _).alloc (Nat.le_refl _) o, hg.below hg.lt ((Below.refl _ _).alloc (Nat.le_refl _) o)⟩
theorem Still.call {w W w' : World} {b off g : Nat} {ss : List ByteArray} (h : Still w b off g ss W) (hbw : b < w.heap.size) (hb : Below W.heap.size W w') : Still w b off g ss w' :=
  ⟨h.1.below hb (by have := h.2.1; omega), by have := h.2.1; have := hb.size; omega, h.2.2.1.trans (hb.mono (by have := h.2.1; omega)), h.2.2.2.below h.2.2.2.lt hb⟩
/-- The builder's box, and the rest. -/
theorem box_call {w W w' : World} {b off g : Nat} {ss : List ByteArray} {x y : Value} (h : W.cell? ⟨w.heap.size, 0, none⟩ = some x ∧ W.cell? ⟨w.heap.size, 1, none⟩ = some y ∧ Still w b off g ss W) (hbw : b < w.heap.size) (hb : Below W.heap.size W w') :
    w'.cell? ⟨w.heap.size, 0, none⟩ = some x ∧ w'.cell? ⟨w.heap.size, 1, none⟩ = some y ∧ Still w b off g ss w' :=
  ⟨(hb.cell (p := ⟨w.heap.size, 0, none⟩) h.2.2.2.1).trans h.1, (hb.cell (p := ⟨w.heap.size, 1, none⟩) h.2.2.2.1).trans h.2.1, h.2.2.call hbw hb⟩
theorem box_lt {w W : World} {b off g : Nat} {ss : List ByteArray} {x y : Value} (h : W.cell? ⟨w.heap.size, 0, none⟩ = some x ∧ W.cell? ⟨w.heap.size, 1, none⟩ = some y ∧ Still w b off g ss W) (hbw : b < w.heap.size) : b < W.heap.size := Nat.lt_trans hbw h.2.2.2.1
theorem box_at {w W : World} {b off g : Nat} {ss : List ByteArray} {x y : Value} (h : W.cell? ⟨w.heap.size, 0, none⟩ = some x ∧ W.cell? ⟨w.heap.size, 1, none⟩ = some y ∧ Still w b off g ss W) : StrsAt W b off ss := h.2.2.1
theorem box_of {w W : World} {b off g : Nat} {ss : List ByteArray} {x y : Value} (h : W.cell? ⟨w.heap.size, 0, none⟩ = some x ∧ W.cell? ⟨w.heap.size, 1, none⟩ = some y ∧ Still w b off g ss W) : OfAt W g := h.2.2.2.2.2
theorem box_drew {w W : World} {b off g : Nat} {ss : List ByteArray} {x y : Value} (h : W.cell? ⟨w.heap.size, 0, none⟩ = some x ∧ W.cell? ⟨w.heap.size, 1, none⟩ = some y ∧ Still w b off g ss W) :
    W.drew.cell? ⟨w.heap.size, 0, none⟩ = some x ∧ W.drew.cell? ⟨w.heap.size, 1, none⟩ = some y ∧ Still w b off g ss W.drew :=
  ⟨by simpa using h.1, by simpa using h.2.1, h.2.2.drew⟩
theorem box_new {w : World} {b off g : Nat} {ss : List ByteArray} {x y : Value} {t : TypeId} (hbw : b < w.heap.size) (hat : StrsAt w b off ss) (hg : OfAt w g) :
    (w.alloc (.cells #[x, y] t)).cell? ⟨w.heap.size, 0, none⟩ = some x ∧ (w.alloc (.cells #[x, y] t)).cell? ⟨w.heap.size, 1, none⟩ = some y ∧ Still w b off g ss (w.alloc (.cells #[x, y] t)) :=
  ⟨by simp, by simp, Still.alloc hbw hat hg _⟩
theorem box_alloc {w W : World} {b off g : Nat} {ss : List ByteArray} {x y : Value} (h : W.cell? ⟨w.heap.size, 0, none⟩ = some x ∧ W.cell? ⟨w.heap.size, 1, none⟩ = some y ∧ Still w b off g ss W) (hbw : b < w.heap.size) (o : Obj) :
    (W.alloc o).cell? ⟨w.heap.size, 0, none⟩ = some x ∧ (W.alloc o).cell? ⟨w.heap.size, 1, none⟩ = some y ∧ Still w b off g ss (W.alloc o) :=
  box_call h hbw ((Below.refl _ _).alloc (Nat.le_refl _) o)
theorem box_push {w W w1 : World} {b off g : Nat} {ss : List ByteArray} {x y : Value} {e : TypeId} {v : Value} {n : Nat} {xs : List Value} {o : Obj} (hgw : g < w.heap.size) (h : W.cell? ⟨w.heap.size, 0, none⟩ = some x ∧ W.cell? ⟨w.heap.size, 1, none⟩ = some y ∧ Still w b off g ss W) (hbw : b < w.heap.size)
    (hown : W.ownsRow (w.heap.size + 1) e 1 v n xs) (hgrow : (W.alloc o).grownBy w1 v.ownBlock) :
    w1.cell? ⟨w.heap.size, 0, none⟩ = some x ∧ w1.cell? ⟨w.heap.size, 1, none⟩ = some y ∧ Still w b off g ss w1 := by
  have hsz := h.2.2.2.1
  have hb := below_push (w := W) (B := w.heap.size + 1) (by omega) hown (Below.refl _ _) hgrow
  exact ⟨(hb.cell (p := ⟨w.heap.size, 0, none⟩) (by simp)).trans h.1, (hb.cell (p := ⟨w.heap.size, 1, none⟩) (by simp)).trans h.2.1,
    h.2.2.1.below hb (by omega), by have := hb.size; omega, h.2.2.2.2.1.trans (hb.mono (by omega)), h.2.2.2.2.2.below (by omega) hb⟩

end Go.Proofs.Ytpkkhkkkgjhkeab

/-
  THE WALK of signetkeep.Climbed (P4).
-/
namespace Go.Proofs.Ytpkkhkkkgjhkeab
open Go.RowKit
set_option maxRecDepth 100000

theorem StrsIn.below {w w' : World} {ao : Option Addr} {ss : List ByteArray} (h : StrsIn w ao ss) (hb : Below w.heap.size w w') : StrsIn w' ao ss := by
  rcases h with h0 | ⟨b, off, e, hbw, hat⟩
  · exact Or.inl h0
  · exact Or.inr ⟨b, off, e, Nat.lt_of_lt_of_le hbw hb.size, hat.below hb hbw⟩

/-- A list that is the call's own, as a slice that is read. -/
theorem OwnStrs.shape {w : World} {base : Nat} {v : Value} {ss : List ByteArray} (h : OwnStrs w base v ss) : ∃ ao cap, v = .slice ao ss.length cap ∧ ss.length ≤ cap ∧ cap ≤ maxLen ∧ StrsIn w ao ss := by
  have hk := h
  rcases h.2 with ⟨rfl, h0⟩ | ⟨g, cap, cur, rfl, _, hh, hle, hm, _, _⟩
  · exact ⟨none, 0, by rw [h0], by omega, by decide, Or.inl h0⟩
  · refine ⟨_, cap, rfl, hle, hm, Or.inr ⟨g, 0, rfl, lt_of_block hh, fun i hi => ?_⟩⟩
    have := World.ownsRow.cellAt hk i (by omega)
    rw [Nat.zero_add, this]
    simp [List.getD, hi]

theorem path_ok {ss : List ByteArray} {l i : Nat} (hl : ss.length = l) : okPath i l (Sg.path ss i) = true := by
  unfold okPath
  rw [Sg.path_length l ss i (by omega), hl]
  simp only [decide_true, Bool.true_and]
  unfold twos
  rw [List.all_eq_true]
  intro s hs
  simpa using Sg.path_sizes l ss i (by omega) s hs

theorem txt_inj {x y : ByteArray} (h : x.toList = y.toList) : x = y := by
  rw [ByteArray.toList_eq, ByteArray.toList_eq] at h
  exact Go.WideShapes.bytes_inj h

end Go.Proofs.Ytpkkhkkkgjhkeab
