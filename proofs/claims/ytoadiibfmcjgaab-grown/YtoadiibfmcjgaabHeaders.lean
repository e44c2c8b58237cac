/-
  THE WALK of signetref.Books.Headers, Head.
-/
import Derived.Test.YtoadiibfmcjgaabPackageWalk
namespace Go.Proofs.Ytoadiibfmcjgaab
open Go.RowKit
set_option maxRecDepth 100000
attribute [local go_sem ↓] Go.wp_at_zero Go.wp_at_succ

namespace Sg
/-- The headers so far, and the sum of the last. -/
def hdTo (h : Hist) (bal tot : List (List Int)) : Nat → List ByteArray × ByteArray
  | 0 => ([], { data := #[0, 0] })
  | k + 1 => ((hdTo h bal tot k).1 ++ [headerB h.accs k (hdTo h bal tot k).2 (h.pers.getD k []) (bal.getD k []) (tot.getD k [])], sumB (headerB h.accs k (hdTo h bal tot k).2 (h.pers.getD k []) (bal.getD k []) (tot.getD k [])))
theorem hdTo_len (h : Hist) (bal tot : List (List Int)) : ∀ k, (hdTo h bal tot k).1.length = k
  | 0 => rfl
  | k + 1 => by simp [hdTo, hdTo_len h bal tot k]
theorem hdTo_last (h : Hist) (bal tot : List (List Int)) : ∀ k, (hdTo h bal tot k).2.size = 2
  | 0 => rfl
  | _ + 1 => rfl
theorem headerB_size (ac : List Acc) (i : Nat) (last : ByteArray) (p : List Ent) (b t : List Int) (hl : last.size = 2) : (headerB ac i last p b t).size = 16 := by
  unfold headerB
  rw [ByteArray.size_append, ByteArray.size_append, ByteArray.size_append, ByteArray.size_append, ByteArray.size_append, ByteArray.size_append, ByteArray.size_append, beB_size, beB_size, sumB_size, sumB_size, root_size, root_size, hl]
  rfl
theorem hdTo_get (h : Hist) (bal tot : List (List Int)) (k : Nat) : (hdTo h bal tot (k + 1)).2 = sumB ((hdTo h bal tot (k + 1)).1.getD k ByteArray.empty) ∧ ((hdTo h bal tot (k + 1)).1.getD k ByteArray.empty).size = 16 := by
  have e : (hdTo h bal tot (k + 1)).1.getD k ByteArray.empty = headerB h.accs k (hdTo h bal tot k).2 (h.pers.getD k []) (bal.getD k []) (tot.getD k []) := by
    have hl := hdTo_len h bal tot k
    simp only [hdTo]
    rw [List.getD_eq_getElem?_getD, List.getElem?_append_right (by omega)]
    simp [hl]
  rw [e]
  exact ⟨rfl, headerB_size _ _ _ _ _ _ (hdTo_last h bal tot k)⟩
end Sg

theorem five_keep {W w' : World} {n bT oT : Nat} {a b c d x : Value} (hbT : bT < W.heap.size) (hn : n < W.heap.size)
    (h : W.cell? ⟨n, 0, none⟩ = some a ∧ W.cell? ⟨n, 1, none⟩ = some b ∧ W.cell? ⟨n, 2, none⟩ = some c ∧ W.cell? ⟨n, 3, none⟩ = some d ∧ W.cell? ⟨bT, oT, none⟩ = some x) (hb : Below W.heap.size W w') :
    w'.cell? ⟨n, 0, none⟩ = some a ∧ w'.cell? ⟨n, 1, none⟩ = some b ∧ w'.cell? ⟨n, 2, none⟩ = some c ∧ w'.cell? ⟨n, 3, none⟩ = some d ∧ w'.cell? ⟨bT, oT, none⟩ = some x ∧ Below W.heap.size W w' :=
  ⟨(hb.cell (p := ⟨n, 0, none⟩) hn).trans h.1, (hb.cell (p := ⟨n, 1, none⟩) hn).trans h.2.1, (hb.cell (p := ⟨n, 2, none⟩) hn).trans h.2.2.1, (hb.cell (p := ⟨n, 3, none⟩) hn).trans h.2.2.2.1, (hb.cell (p := ⟨bT, oT, none⟩) hbT).trans h.2.2.2.2, hb⟩

theorem stmt_sizes (ac : List Sg.Acc) (p : List Sg.Ent) (t : List Int) : (Sg.stmt ac p t).length = 4 ∧ ∀ s ∈ Sg.stmt ac p t, s.size ≤ 140737488355328 := by
  refine ⟨by simp [Sg.stmt], fun s hs => ?_⟩
  unfold Sg.stmt at hs
  obtain ⟨k, _, rfl⟩ := List.mem_map.1 hs
  unfold Sg.lineB
  rw [ByteArray.size_append, ByteArray.size_append, ByteArray.size_append, Sg.beB_size, Sg.beB_size, Sg.beB_size, Sg.root_size]
  decide

end Go.Proofs.Ytoadiibfmcjgaab
