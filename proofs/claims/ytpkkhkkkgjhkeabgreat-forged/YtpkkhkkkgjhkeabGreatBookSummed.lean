/-
  THE WALK of Book.Summed (P11): the texts that are summed for a book, from the head down.
-/
import Derived.Test.YtpkkhkkkgjhkeabGreatFirstOther
import Derived.Test.YtpkkhkkkgjhkeabGreatClashMath
import Derived.Test.YtpkkhkkkgjhkeabGreatHhead
import Derived.Test.YtpkkhkkkgjhkeabGreatOff
import Derived.Deep.AppendLies
namespace Go.Proofs.YtpkkhkkkgjhkeabGreat
namespace Sg
theorem bnd_of {h : Hist} (hc : closeErr h = 0) : inBounds h = true := by
  unfold closeErr at hc
  by_cases e : inBounds h = true
  · exact e
  · rw [if_neg e] at hc
    exact absurd hc (by decide)
theorem entsT_short {h : Hist} (hi : inBounds h = true) : ∀ p ∈ h.pers, p.length ≤ 12 ∧ ∀ s ∈ p.map entB, s.size ≤ 100 := fun p hp => by
  obtain ⟨h1, h2⟩ := bnd_pers hi p hp
  refine ⟨h1, fun s hs => ?_⟩
  obtain ⟨e, he, rfl⟩ := List.mem_map.1 hs
  have := h2 e he
  rw [entB_size]; omega
theorem summedB_short {h : Hist} (hi : inBounds h = true) (h8 : h.accs.length ≤ 8) : ∀ t ∈ summedB h, t.size ≤ 140737488355328 := by
  intro t ht
  unfold summedB at ht
  simp only [List.mem_append, List.mem_reverse, List.mem_map, List.mem_singleton, List.mem_flatMap] at ht
  rcases ht with (⟨x, hx, rfl⟩ | rfl) | ⟨p, hp, ht⟩
  · have k := hdrsTo_small h _ x hx
    unfold Hdr.small at k
    unfold hdrB
    simp only [ByteArray.size_append, beB_size]
    omega
  · have := chartB_size h.accs (fun a ha => (bnd_accs hi a ha).1)
    omega
  · have := ofRoot_short (K := 100) (by omega) ((entsT_short hi p hp).2) t ht
    omega
/-- The texts of a book's periods so far. -/
def sumTo (h : Hist) (k : Nat) : List Txt := ((hdrsTo h h.pers.length).map hdrB).reverse ++ [chartB h.accs] ++ (h.pers.take k).flatMap (fun p => ofRoot (p.map entB))
theorem sumTo_zero (h : Hist) : sumTo h 0 = ((hdrsTo h h.pers.length).map hdrB).reverse ++ [chartB h.accs] := by unfold sumTo; simp
theorem sumTo_succ (h : Hist) {k : Nat} (hk : k < h.pers.length) : sumTo h (k + 1) = sumTo h k ++ ofRoot (h.pers[k].map entB) := by
  unfold sumTo
  rw [List.take_succ_eq_append_getElem hk, List.flatMap_append, ← List.append_assoc]
  simp
theorem sumTo_pos (h : Hist) (k : Nat) : 1 ≤ (sumTo h k).length := by unfold sumTo; simp; omega
theorem sumTo_all (h : Hist) : sumTo h h.pers.length = summedB h := by unfold sumTo summedB; rw [List.take_length]
theorem sumTo_len (h : Hist) (hp : h.pers.length ≤ 6) : ∀ k, k ≤ h.pers.length → (∀ p ∈ h.pers, p.length ≤ 4096) → (sumTo h k).length ≤ 7 + 8192 * k
  | 0, _, _ => by rw [sumTo_zero]; simp [hdrsTo_len]; omega
  | k + 1, hk, hq => by
    have ih := sumTo_len h hp k (by omega) hq
    rw [sumTo_succ h (by omega), List.length_append]
    have := (ofRoot_len (h.pers[k].map entB) (by rw [List.length_map]; exact hq _ (List.getElem_mem _))).2
    omega
end Sg
open Go.RowKit
set_option maxRecDepth 100000
attribute [local go_sem ↓] Go.wp_at_zero Go.wp_at_succ

end Go.Proofs.YtpkkhkkkgjhkeabGreat
