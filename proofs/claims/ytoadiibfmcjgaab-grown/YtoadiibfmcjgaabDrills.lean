/-
  THE WALKS of signetref.drills, leaf.
-/
import Derived.Test.YtoadiibfmcjgaabBounds
import Derived.Test.YtoadiibfmcjgaabRpath
import Derived.Deep.AppendLies
namespace Go.Proofs.Ytoadiibfmcjgaab
open Go.RowKit
set_option maxRecDepth 100000
attribute [local go_sem ↓] Go.wp_at_zero Go.wp_at_succ

/-- The cells of a slice of drills. -/
def DrlAt (w : World) (b o : Nat) (d : Sg.Drl) : Prop := w.cell? ⟨b, o, none⟩ = some (.int .i64 (d.ent : Int)) ∧ w.cell? ⟨b, o + 1, none⟩ = some (.int .i64 (d.place : Int)) ∧ w.cell? ⟨b, o + 2, none⟩ = some (.int .i64 d.acct) ∧ w.cell? ⟨b, o + 3, none⟩ = some (.int .i64 d.amt)
theorem DrlAt.below {w w' : World} {B b o : Nat} {d : Sg.Drl} (h : DrlAt w b o d) (hb : Below B w w') (hlt : b < B) : DrlAt w' b o d := by
  unfold DrlAt
  rw [hb.cell (p := ⟨b, o, none⟩) hlt, hb.cell (p := ⟨b, o + 1, none⟩) hlt, hb.cell (p := ⟨b, o + 2, none⟩) hlt, hb.cell (p := ⟨b, o + 3, none⟩) hlt]
  exact h
def DrlsIn (w : World) (ao : Option Addr) (ds : List Sg.Drl) : Prop := ds.length = 0 ∨ ∃ b off, ao = some ⟨b, off, none⟩ ∧ b < w.heap.size ∧ ∀ i (h : i < ds.length), DrlAt w b (off + i * 4) ds[i]
theorem DrlsIn.below {w w' : World} {ao : Option Addr} {ds : List Sg.Drl} (h : DrlsIn w ao ds) (hb : Below w.heap.size w w') : DrlsIn w' ao ds := by
  rcases h with h0 | ⟨b, off, e, hbw, hat⟩
  · exact Or.inl h0
  · exact Or.inr ⟨b, off, e, Nat.lt_of_lt_of_le hbw hb.size, fun i hi => (hat i hi).below hb hbw⟩
theorem DrlsIn.cell {w : World} {ao : Option Addr} {ds : List Sg.Drl} (h : DrlsIn w ao ds) {k : Nat} (hk : k < ds.length) : ∃ b off, ao = some ⟨b, off, none⟩ ∧ b < w.heap.size ∧ DrlAt w b (off + k * 4) ds[k] := by
  rcases h with h0 | ⟨b, off, e, hbw, hat⟩
  · omega
  · exact ⟨b, off, e, hbw, hat k hk⟩

/-- A drill as it can come up. -/
def drlFits (d : Sg.Drl) : Prop := d.ent ≤ 255 ∧ d.place ≤ 255 ∧ Sg.fits d.acct = true ∧ Sg.fits d.amt = true
namespace Sg
theorem drlB_size (d : Drl) : (drlB d).size = 11 := by
  unfold drlB; rw [ByteArray.size_append, ByteArray.size_append, ByteArray.size_append, beB_size, beB_size, beB_size, beB_size]
end Sg

theorem drl_keep {W w' : World} {b o : Nat} {e p a m : Value} (hbw : b < W.heap.size) (h : W.cell? ⟨b, o, none⟩ = some e ∧ W.cell? ⟨b, o + 1, none⟩ = some p ∧ W.cell? ⟨b, o + 2, none⟩ = some a ∧ W.cell? ⟨b, o + 3, none⟩ = some m) (hb : Below W.heap.size W w') :
    w'.cell? ⟨b, o, none⟩ = some e ∧ w'.cell? ⟨b, o + 1, none⟩ = some p ∧ w'.cell? ⟨b, o + 2, none⟩ = some a ∧ w'.cell? ⟨b, o + 3, none⟩ = some m ∧ Below W.heap.size W w' := by
  refine ⟨?_, ?_, ?_, ?_, hb⟩
  · exact (hb.cell (p := ⟨b, o, none⟩) hbw).trans h.1
  · exact (hb.cell (p := ⟨b, o + 1, none⟩) hbw).trans h.2.1
  · exact (hb.cell (p := ⟨b, o + 2, none⟩) hbw).trans h.2.2.1
  · exact (hb.cell (p := ⟨b, o + 3, none⟩) hbw).trans h.2.2.2

end Go.Proofs.Ytoadiibfmcjgaab
