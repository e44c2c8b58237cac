/-
  THE WALKS of signetref.path, signetref.Path (P4).
-/
import Derived.Test.YtoadiibfmcjgaaaGreatHalf
namespace Go.Proofs.YtoadiibfmcjgaaaGreat
open Go.RowKit
set_option maxRecDepth 100000

theorem Tryz.infoStr : (Tryz.prog.info? 9).map (fun i => (i.zero, i.size, i.bytes)) = some (some (.string ByteArray.empty), 1, 16) := by kernel_rfl

theorem ownsRow_below {w w' : World} {base : Nat} {e : TypeId} {size : Nat} {v : Value} {n : Nat} {xs : List Value} (h : w.ownsRow base e size v n xs) (hb : Below w.heap.size w w') : w'.ownsRow base e size v n xs := by
  obtain ⟨h1, h2⟩ := h
  refine ⟨h1, ?_⟩
  rcases h2 with h2 | ⟨g, cap, cur, hv, hg, hh, r⟩
  · exact Or.inl h2
  · exact Or.inr ⟨g, cap, cur, hv, hg, by rw [hb.block g (lt_of_block hh)]; exact hh, r⟩
theorem ownsRow_base {w : World} {base base' : Nat} {e : TypeId} {size : Nat} {v : Value} {n : Nat} {xs : List Value} (h : w.ownsRow base e size v n xs) (hb : base' ≤ base) : w.ownsRow base' e size v n xs := by
  obtain ⟨h1, h2⟩ := h
  refine ⟨h1, ?_⟩
  rcases h2 with h2 | ⟨g, cap, cur, hv, hg, r⟩
  · exact Or.inl h2
  · exact Or.inr ⟨g, cap, cur, hv, Nat.le_trans hb hg, r⟩

/-- A list of texts that is the call's own. -/
def OwnStrs (w : World) (base : Nat) (v : Value) (ss : List ByteArray) : Prop := w.ownsRow base 9 1 v ss.length (ss.map Value.string)
theorem OwnStrs.below {w w' : World} {base : Nat} {v : Value} {ss : List ByteArray} (h : OwnStrs w base v ss) (hb : Below w.heap.size w w') : OwnStrs w' base v ss := ownsRow_below h hb
theorem OwnStrs.base {w : World} {base base' : Nat} {v : Value} {ss : List ByteArray} (h : OwnStrs w base v ss) (hb : base' ≤ base) : OwnStrs w base' v ss := ownsRow_base h hb
theorem OwnStrs.push {w : World} {base : Nat} {v : Value} {ss : List ByteArray} {x : ByteArray} (h : w.ownsRow base 9 1 v (ss.length + 1) (ss.map Value.string ++ [.string x])) : OwnStrs w base v (ss ++ [x]) := by
  unfold OwnStrs
  simpa using h

end Go.Proofs.YtoadiibfmcjgaaaGreat
