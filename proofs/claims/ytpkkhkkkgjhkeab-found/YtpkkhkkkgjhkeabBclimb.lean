import Derived.Test.YtpkkhkkkgjhkeabPick
/-
  THE WALKS of Builder.Climb, seal.Climb (P4).
-/
namespace Go.Proofs.Ytpkkhkkkgjhkeab
open Go.RowKit
set_option maxRecDepth 100000
attribute [local go_sem ↓] Go.wp_at_zero Go.wp_at_succ

theorem still_last {w' : World} {b off q : Nat} {qs : List ByteArray} {x : ByteArray} (hq : qs.length = q) (h : StrsAt w' b off (qs ++ [x])) : w'.cell? ⟨b, off + q, none⟩ = some (.string x) := by
  have := h q (by simp; omega)
  rw [this]
  subst hq
  simp [List.getD]
theorem StrsAt.front {w : World} {b off : Nat} {qs : List ByteArray} {x : ByteArray} (h : StrsAt w b off (qs ++ [x])) : StrsAt w b off qs := by
  have := h.take qs.length
  simpa using this
theorem cell3_drew {W : World} {p : Nat} {q : Addr} {x y z : Value} (h : W.cell? q = some z ∧ W.cell? ⟨p, 0, none⟩ = some x ∧ W.cell? ⟨p, 1, none⟩ = some y) : W.drew.cell? q = some z ∧ W.drew.cell? ⟨p, 0, none⟩ = some x ∧ W.drew.cell? ⟨p, 1, none⟩ = some y := ⟨by simpa using h.1, by simpa using h.2.1, by simpa using h.2.2⟩

theorem twos_mem {ss : List ByteArray} (h : twos ss = true) : ∀ s ∈ ss, s.size = 2 := by
  intro s hs
  have := List.all_eq_true.1 h s hs
  simpa using this

end Go.Proofs.Ytpkkhkkkgjhkeab
