/-
  THE WALK of signetref.Books.leaves.
-/
import Derived.Test.YtoadiibfmcjgaabBdrills
namespace Go.Proofs.Ytoadiibfmcjgaab
open Go.RowKit
set_option maxRecDepth 100000
attribute [local go_sem ↓] Go.wp_at_zero Go.wp_at_succ

/-- A slice of slices of numbers. -/
def IntssIn (w : World) (ao : Option Addr) (ll : List (List Int)) : Prop := ll.length = 0 ∨ ∃ b off, ao = some ⟨b, off, none⟩ ∧ b < w.heap.size ∧ ∀ i (h : i < ll.length), ∃ ao' cap', w.cell? ⟨b, off + i, none⟩ = some (.slice ao' ll[i].length cap') ∧ IntsIn w ao' ll[i]
theorem IntssIn.below {w w' : World} {ao : Option Addr} {ll : List (List Int)} (h : IntssIn w ao ll) (hb : Below w.heap.size w w') : IntssIn w' ao ll := by
  rcases h with h0 | ⟨b, off, e, hbw, hat⟩
  · exact Or.inl h0
  · refine Or.inr ⟨b, off, e, Nat.lt_of_lt_of_le hbw hb.size, fun i hi => ?_⟩
    rw [hb.cell (p := ⟨b, off + i, none⟩) hbw]
    obtain ⟨ao', cap', h2, h3⟩ := hat i hi
    exact ⟨ao', cap', h2, h3.below hb⟩
theorem IntssIn.cell {w : World} {ao : Option Addr} {ll : List (List Int)} (h : IntssIn w ao ll) {k : Nat} (hk : k < ll.length) : ∃ b off, ao = some ⟨b, off, none⟩ ∧ b < w.heap.size ∧ ∃ ao' cap', w.cell? ⟨b, off + k, none⟩ = some (.slice ao' ll[k].length cap') ∧ IntsIn w ao' ll[k] := by
  rcases h with h0 | ⟨b, off, e, hbw, hat⟩
  · omega
  · exact ⟨b, off, e, hbw, hat k hk⟩
theorem IntsIn.cell' {w : World} {ao : Option Addr} {l : List Int} (h : IntsIn w ao l) {k : Nat} (hk : k < l.length) : ∃ b off, ao = some ⟨b, off, none⟩ ∧ b < w.heap.size ∧ w.cell? ⟨b, off + k, none⟩ = some (.int .i64 (l.getD k 0)) := by
  rcases h with h0 | ⟨b, off, e, hbw, hat⟩
  · omega
  · exact ⟨b, off, e, hbw, hat k hk⟩

/-- What the walks ask of a period of closed books. -/
def perFine (nA : Nat) (p : List Sg.Ent) : Prop := p.length ≤ 12 ∧ ∀ e ∈ p, e.memo.size ≤ 20 ∧ e.posts.length ≤ 6 ∧ ∀ t ∈ e.posts, 0 ≤ t.acct ∧ t.acct < (nA : Int) ∧ Sg.fits t.amt = true
namespace Sg
theorem drillsIn_fits (ac : List Acc) (line : Int) (i : Nat) (hi : i ≤ 255) : ∀ (ps : List Pst) (j : Nat), j + ps.length ≤ 255 → (∀ t ∈ ps, fits t.acct = true ∧ fits t.amt = true) → ∀ d ∈ drillsIn ac line i j ps, d.ent ≤ 255 ∧ d.place ≤ 255 ∧ fits d.acct = true ∧ fits d.amt = true
  | [], _, _, _ => by simp [drillsIn]
  | p :: ps, j, hj, h => by
    have ih := drillsIn_fits ac line i hi ps (j + 1) (by simp at hj; omega) (fun t ht => h t (by simp [ht]))
    have hp := h p (by simp)
    intro d hd
    simp only [drillsIn] at hd
    split at hd
    · rcases List.mem_cons.1 hd with rfl | hd
      · exact ⟨hi, by simp at hj; show j ≤ 255; omega, hp.1, hp.2⟩
      · exact ih d hd
    · exact ih d hd
theorem drillsFrom_fits (ac : List Acc) (line : Int) : ∀ (es : List Ent) (i : Nat), i + es.length ≤ 255 → (∀ e ∈ es, e.posts.length ≤ 6 ∧ ∀ t ∈ e.posts, fits t.acct = true ∧ fits t.amt = true) → ∀ d ∈ drillsFrom ac line i es, d.ent ≤ 255 ∧ d.place ≤ 255 ∧ fits d.acct = true ∧ fits d.amt = true
  | [], _, _, _ => by simp [drillsFrom]
  | e :: es, i, hi, h => by
    intro d hd
    simp only [drillsFrom, List.mem_append] at hd
    have he := h e (by simp)
    rcases hd with hd | hd
    · exact drillsIn_fits ac line i (by simp at hi; omega) e.posts 0 (by omega) he.2 d hd
    · exact drillsFrom_fits ac line es (i + 1) (by simp at hi; omega) (fun x hx => h x (by simp [hx])) d hd
end Sg
theorem perFine_drills {nA : Nat} {p : List Sg.Ent} (hA : nA ≤ 8) (h : perFine nA p) (ac : List Sg.Acc) (line : Int) : (∀ d ∈ Sg.drillsOf ac p line, drlFits d) ∧ (Sg.drillsOf ac p line).length ≤ 72 := by
  refine ⟨fun d hd => ?_, ?_⟩
  · refine Sg.drillsFrom_fits ac line p 0 (by have := h.1; omega) (fun e he => ⟨(h.2 e he).2.1, fun t ht => ⟨?_, ((h.2 e he).2.2 t ht).2.2⟩⟩) d hd
    have := (h.2 e he).2.2 t ht
    exact decide_eq_true (by omega)
  · have := Sg.drillsFrom_len ac line p 0 (fun e he => (h.2 e he).2.1)
    have := h.1
    unfold Sg.drillsOf
    omega

/-- The leaves of a statement so far. -/
def stmtTo (ac : List Sg.Acc) (p : List Sg.Ent) (t : List Int) (k : Nat) : List ByteArray := (List.range k).map fun (i : Nat) => Sg.lineB (i : Int) (t.getD i 0) (Sg.drillsOf ac p (i : Int))
theorem stmtTo_succ (ac : List Sg.Acc) (p : List Sg.Ent) (t : List Int) (k : Nat) : stmtTo ac p t (k + 1) = stmtTo ac p t k ++ [Sg.lineB (k : Int) (t.getD k 0) (Sg.drillsOf ac p (k : Int))] := by
  unfold stmtTo; rw [List.range_succ, List.map_append]; rfl

theorem six_keep {W w' : World} {n bT oT bI oI : Nat} {a b c d x y : Value} (hbT : bT < W.heap.size) (hbI : bI < W.heap.size) (hn : n < W.heap.size)
    (h : W.cell? ⟨n, 0, none⟩ = some a ∧ W.cell? ⟨n, 1, none⟩ = some b ∧ W.cell? ⟨n, 2, none⟩ = some c ∧ W.cell? ⟨n, 3, none⟩ = some d ∧ W.cell? ⟨bT, oT, none⟩ = some x ∧ W.cell? ⟨bI, oI, none⟩ = some y) (hb : Below W.heap.size W w') :
    w'.cell? ⟨n, 0, none⟩ = some a ∧ w'.cell? ⟨n, 1, none⟩ = some b ∧ w'.cell? ⟨n, 2, none⟩ = some c ∧ w'.cell? ⟨n, 3, none⟩ = some d ∧ w'.cell? ⟨bT, oT, none⟩ = some x ∧ w'.cell? ⟨bI, oI, none⟩ = some y ∧ Below W.heap.size W w' :=
  ⟨(hb.cell (p := ⟨n, 0, none⟩) hn).trans h.1, (hb.cell (p := ⟨n, 1, none⟩) hn).trans h.2.1, (hb.cell (p := ⟨n, 2, none⟩) hn).trans h.2.2.1, (hb.cell (p := ⟨n, 3, none⟩) hn).trans h.2.2.2.1, (hb.cell (p := ⟨bT, oT, none⟩) hbT).trans h.2.2.2.2.1, (hb.cell (p := ⟨bI, oI, none⟩) hbI).trans h.2.2.2.2.2, hb⟩

end Go.Proofs.Ytoadiibfmcjgaab
