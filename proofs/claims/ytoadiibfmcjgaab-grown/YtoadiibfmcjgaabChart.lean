/-
  THE WALKS of signetref.chart, entry: and how a history lies in memory.
-/
import Derived.Test.YtoadiibfmcjgaabAmounts
import Derived.Deep.RegionHeld3
import Derived.Deep.DrawnRows
import Derived.Laws.Pointers
namespace Go.Proofs.Ytoadiibfmcjgaab
open Go.RowKit
set_option maxRecDepth 100000
attribute [local go_sem ↓] Go.wp_at_zero Go.wp_at_succ

/-- Two texts behind each other. -/
theorem cat (a b : ByteArray) (h : a.size + b.size ≤ 4611686018427387904) : ∀ W : World, (Op.stringOp .add a b).run Try.prog W = .ok (.string (a ++ b)) W := fun W => run_string_add_sum W a b (by omega)
theorem cat_size (a b : ByteArray) : (a ++ b).size = a.size + b.size := ByteArray.size_append

/-- What came behind w, one block and more later. -/
def Past (w W : World) : Prop := w.heap.size < W.heap.size ∧ Below w.heap.size w W
theorem Past.below {w W : World} (h : Past w W) : Below w.heap.size w W := h.2
theorem past_new {w : World} {x y : Value} {t : TypeId} : (w.alloc (.cells #[x, y] t)).cell? ⟨w.heap.size, 0, none⟩ = some x ∧ (w.alloc (.cells #[x, y] t)).cell? ⟨w.heap.size, 1, none⟩ = some y ∧ Past w (w.alloc (.cells #[x, y] t)) :=
  ⟨by simp, by simp, by simp, (Below.refl _ _).alloc (Nat.le_refl _) _⟩
theorem past_drew {w W : World} {x y : Value} (h : W.cell? ⟨w.heap.size, 0, none⟩ = some x ∧ W.cell? ⟨w.heap.size, 1, none⟩ = some y ∧ Past w W) :
    W.drew.cell? ⟨w.heap.size, 0, none⟩ = some x ∧ W.drew.cell? ⟨w.heap.size, 1, none⟩ = some y ∧ Past w W.drew :=
  ⟨by simpa using h.1, by simpa using h.2.1, by simpa using h.2.2.1, h.2.2.2.drew⟩
theorem past_call {w W w' : World} {x y : Value} (h : W.cell? ⟨w.heap.size, 0, none⟩ = some x ∧ W.cell? ⟨w.heap.size, 1, none⟩ = some y ∧ Past w W) (hb : Below W.heap.size W w') :
    w'.cell? ⟨w.heap.size, 0, none⟩ = some x ∧ w'.cell? ⟨w.heap.size, 1, none⟩ = some y ∧ Past w w' :=
  ⟨(hb.cell (p := ⟨w.heap.size, 0, none⟩) h.2.2.1).trans h.1, (hb.cell (p := ⟨w.heap.size, 1, none⟩) h.2.2.1).trans h.2.1, by have := h.2.2.1; have := hb.size; omega, h.2.2.2.trans (hb.mono (by have := h.2.2.1; omega))⟩

/-- The cells of a slice of accounts. -/
def AccsAt (w : World) (b off : Nat) (ac : List Sg.Acc) : Prop := ∀ i (h : i < ac.length), w.cell? ⟨b, off + i * 2, none⟩ = some (.string ac[i].name) ∧ w.cell? ⟨b, off + i * 2 + 1, none⟩ = some (.int .i64 ac[i].line)
def AccsIn (w : World) (ao : Option Addr) (ac : List Sg.Acc) : Prop := ac.length = 0 ∨ ∃ b off, ao = some ⟨b, off, none⟩ ∧ b < w.heap.size ∧ AccsAt w b off ac
theorem AccsIn.below {w w' : World} {ao : Option Addr} {ac : List Sg.Acc} (h : AccsIn w ao ac) (hb : Below w.heap.size w w') : AccsIn w' ao ac := by
  rcases h with h0 | ⟨b, off, e, hbw, hat⟩
  · exact Or.inl h0
  · refine Or.inr ⟨b, off, e, Nat.lt_of_lt_of_le hbw hb.size, fun i hi => ?_⟩
    rw [hb.cell (p := ⟨b, off + i * 2, none⟩) hbw, hb.cell (p := ⟨b, off + i * 2 + 1, none⟩) hbw]
    exact hat i hi
theorem AccsIn.cell {w : World} {ao : Option Addr} {ac : List Sg.Acc} (h : AccsIn w ao ac) {k : Nat} (hk : k < ac.length) : ∃ b off, ao = some ⟨b, off, none⟩ ∧ b < w.heap.size ∧ w.cell? ⟨b, off + k * 2, none⟩ = some (.string ac[k].name) ∧ w.cell? ⟨b, off + k * 2 + 1, none⟩ = some (.int .i64 ac[k].line) := by
  rcases h with h0 | ⟨b, off, e, hbw, hat⟩
  · omega
  · exact ⟨b, off, e, hbw, (hat k hk).1, (hat k hk).2⟩

namespace Sg
theorem accText_size (o : ByteArray) (a : Acc) : (accText o a).size = o.size + a.name.size + 2 := by
  unfold accText; rw [ByteArray.size_append, ByteArray.size_append, ByteArray.size_append, beB_size, beB_size]; omega
/-- The chart's text so far. -/
def chartTo (ac : List Acc) (k : Nat) : ByteArray := (ac.take k).foldl accText (beB ac.length 1)
theorem chartTo_succ (ac : List Acc) (k : Nat) (h : k < ac.length) : chartTo ac (k + 1) = accText (chartTo ac k) ac[k] := by
  unfold chartTo; rw [List.take_succ_eq_append_getElem h, List.foldl_append]; rfl
theorem chartTo_size (ac : List Acc) (hok : ∀ a ∈ ac, a.name.size ≤ 12) : ∀ k, k ≤ ac.length → (chartTo ac k).size ≤ 1 + 14 * k
  | 0, _ => by unfold chartTo; simp [beB_size]
  | k + 1, h => by
    rw [chartTo_succ ac k (by omega), accText_size]
    have := chartTo_size ac hok k (by omega)
    have := hok ac[k] (List.getElem_mem _)
    omega
theorem chartTo_all (ac : List Acc) : chartTo ac ac.length = chartB ac := by unfold chartTo chartB; rw [List.take_length]
theorem chartB_size (ac : List Acc) (hok : ∀ a ∈ ac, a.name.size ≤ 12) : (chartB ac).size ≤ 1 + 14 * ac.length := by
  rw [← chartTo_all]; exact chartTo_size ac hok _ (Nat.le_refl _)
end Sg

/-- The cells of a slice of postings. -/
def PstsAt (w : World) (b off : Nat) (ps : List Sg.Pst) : Prop := ∀ i (h : i < ps.length), w.cell? ⟨b, off + i * 2, none⟩ = some (.int .i64 ps[i].acct) ∧ w.cell? ⟨b, off + i * 2 + 1, none⟩ = some (.int .i64 ps[i].amt)
def PstsIn (w : World) (ao : Option Addr) (ps : List Sg.Pst) : Prop := ps.length = 0 ∨ ∃ b off, ao = some ⟨b, off, none⟩ ∧ b < w.heap.size ∧ PstsAt w b off ps
theorem PstsIn.below {w w' : World} {ao : Option Addr} {ps : List Sg.Pst} (h : PstsIn w ao ps) (hb : Below w.heap.size w w') : PstsIn w' ao ps := by
  rcases h with h0 | ⟨b, off, e, hbw, hat⟩
  · exact Or.inl h0
  · refine Or.inr ⟨b, off, e, Nat.lt_of_lt_of_le hbw hb.size, fun i hi => ?_⟩
    rw [hb.cell (p := ⟨b, off + i * 2, none⟩) hbw, hb.cell (p := ⟨b, off + i * 2 + 1, none⟩) hbw]
    exact hat i hi
theorem PstsIn.cell {w : World} {ao : Option Addr} {ps : List Sg.Pst} (h : PstsIn w ao ps) {k : Nat} (hk : k < ps.length) : ∃ b off, ao = some ⟨b, off, none⟩ ∧ b < w.heap.size ∧ w.cell? ⟨b, off + k * 2, none⟩ = some (.int .i64 ps[k].acct) ∧ w.cell? ⟨b, off + k * 2 + 1, none⟩ = some (.int .i64 ps[k].amt) := by
  rcases h with h0 | ⟨b, off, e, hbw, hat⟩
  · omega
  · exact ⟨b, off, e, hbw, (hat k hk).1, (hat k hk).2⟩

namespace Sg
theorem pstText_size (o : ByteArray) (p : Pst) : (pstText o p).size = o.size + 9 := by
  unfold pstText; rw [ByteArray.size_append, ByteArray.size_append, beB_size, beB_size]
/-- An entry's text so far. -/
def entTo (e : Ent) (k : Nat) : ByteArray := (e.posts.take k).foldl pstText (beB e.memo.size 1 ++ e.memo ++ beB e.posts.length 1)
theorem entTo_succ (e : Ent) (k : Nat) (h : k < e.posts.length) : entTo e (k + 1) = pstText (entTo e k) e.posts[k] := by
  unfold entTo; rw [List.take_succ_eq_append_getElem h, List.foldl_append]; rfl
theorem entTo_size (e : Ent) : ∀ k, k ≤ e.posts.length → (entTo e k).size = 2 + e.memo.size + 9 * k
  | 0, _ => by unfold entTo; simp only [List.take_zero, List.foldl_nil]; rw [ByteArray.size_append, ByteArray.size_append, beB_size, beB_size]; omega
  | k + 1, h => by rw [entTo_succ e k (by omega), pstText_size, entTo_size e k (by omega)]; omega
theorem entTo_all (e : Ent) : entTo e e.posts.length = entB e := by unfold entTo entB; rw [List.take_length]
theorem entB_size (e : Ent) : (entB e).size = 2 + e.memo.size + 9 * e.posts.length := by rw [← entTo_all, entTo_size e _ (Nat.le_refl _)]
end Sg

theorem still2 {w W w' : World} {b o1 o2 : Nat} {x y v1 v2 : Value} (h : W.cell? ⟨w.heap.size, 0, none⟩ = some x ∧ W.cell? ⟨w.heap.size, 1, none⟩ = some y ∧ Past w W) (hbw : b < W.heap.size) (h1 : W.cell? ⟨b, o1, none⟩ = some v1) (h2 : W.cell? ⟨b, o2, none⟩ = some v2) (hb : Below W.heap.size W w') :
    w'.cell? ⟨w.heap.size, 1, none⟩ = some y ∧ w'.cell? ⟨b, o1, none⟩ = some v1 ∧ w'.cell? ⟨b, o2, none⟩ = some v2 ∧ Below W.heap.size W w' :=
  ⟨(past_call h hb).2.1, (hb.cell (p := ⟨b, o1, none⟩) hbw).trans h1, (hb.cell (p := ⟨b, o2, none⟩) hbw).trans h2, hb⟩

end Go.Proofs.Ytoadiibfmcjgaab
