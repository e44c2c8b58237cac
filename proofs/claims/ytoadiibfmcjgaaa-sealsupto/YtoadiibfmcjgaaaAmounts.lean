/-
  THE WALK of signetref.amounts.
-/
import Derived.Test.YtoadiibfmcjgaaaWide
namespace Go.Proofs.Ytoadiibfmcjgaaa
open Go.RowKit
set_option maxRecDepth 100000

/-- The cells of a slice of numbers. -/
def IntsAt (w : World) (b off : Nat) (l : List Int) : Prop := ∀ i, i < l.length → w.cell? ⟨b, off + i, none⟩ = some (.int .i64 (l.getD i 0))
def IntsIn (w : World) (ao : Option Addr) (l : List Int) : Prop := l.length = 0 ∨ ∃ b off, ao = some ⟨b, off, none⟩ ∧ b < w.heap.size ∧ IntsAt w b off l
theorem IntsAt.below {w w' : World} {B b off : Nat} {l : List Int} (h : IntsAt w b off l) (hb : Below B w w') (hlt : b < B) : IntsAt w' b off l := fun i hi => by
  rw [hb.cell (p := ⟨b, off + i, none⟩) hlt]; exact h i hi
theorem IntsIn.below {w w' : World} {ao : Option Addr} {l : List Int} (h : IntsIn w ao l) (hb : Below w.heap.size w w') : IntsIn w' ao l := by
  rcases h with h0 | ⟨b, off, e, hbw, hat⟩
  · exact Or.inl h0
  · exact Or.inr ⟨b, off, e, Nat.lt_of_lt_of_le hbw hb.size, hat.below hb hbw⟩
theorem IntsIn.cell {w : World} {ao : Option Addr} {l : List Int} (h : IntsIn w ao l) {k : Nat} (hk : k < l.length) : ∃ b off, ao = some ⟨b, off, none⟩ ∧ w.cell? ⟨b, off + k, none⟩ = some (.int .i64 (l.getD k 0)) := by
  rcases h with h0 | ⟨b, off, e, _, hat⟩
  · omega
  · exact ⟨b, off, e, hat k hk⟩

namespace Sg
theorem amountsB_snoc (l : List Int) (x : Int) : amountsB (l ++ [x]) = amountsB l ++ beB x 8 := by
  unfold amountsB; rw [List.foldl_append]; rfl
theorem amountsB_size (l : List Int) : (amountsB l).size = 8 * l.length := by
  suffices h : ∀ (o : ByteArray), (l.foldl (fun out x => out ++ beB x 8) o).size = o.size + 8 * l.length by
    have := h ByteArray.empty; simpa [amountsB] using this
  induction l with
  | nil => intro o; rfl
  | cons x l ih => intro o; simp only [List.foldl_cons, List.length_cons]; rw [ih, ByteArray.size_append, beB_size]; omega
theorem take_snoc {α : Type} (l : List α) (k : Nat) (d : α) (h : k < l.length) : l.take (k + 1) = l.take k ++ [l.getD k d] := by
  rw [List.take_succ_eq_append_getElem h]
  simp [List.getD, h]
end Sg

theorem ret_str2 {a b : ByteArray} (h : a = b) : Ending.returned (.string a) = .returned (.string b) := by rw [h]

set_option maxHeartbeats 800000 in
/-- signetref.amounts. -/
theorem amounts_any (l : List Int) (ao : Option Addr) (n cap : Nat) (w : World) (hn : l.length = n) (hmax : n ≤ 4096) (hl : IntsIn w ao l) (hf : ∀ x ∈ l, Sg.fits x = true) :
    Calls Try.prog 81 #[.slice ao n cap] w fun e w' => e = .returned (.string (Sg.amountsB l)) ∧ Below w.heap.size w w' := by
  have HN : Hid (l.length = n) := hn
  clear hn
  go_enter Try.func81, Try.ntmps81
  go_wp2_with fail
  go_loopw [3, 4] (fun o i wr => ∃ k : Nat, k ≤ n ∧ i = .int .i64 (k : Int) ∧ o = .string (Sg.amountsB (l.take k)) ∧ Below w.heap.size w wr) (fun _ i _ => n - (intOf i).toNat)
  case atStart => exact ⟨0, by omega, rfl, rfl, Below.refl _ _⟩
  case round =>
    obtain ⟨k, hk, rfl, rfl, hbel⟩ := hrel
    by_cases hlt : k < n
    · obtain ⟨b, off, rfl, hc⟩ := (hl.below hbel).cell (k := k) (by rw [HN.out]; exact hlt)
      have hx : Sg.fits (l.getD k 0) = true := hf _ (by rw [List.getD_eq_getElem?_getD, List.getElem?_eq_getElem (by rw [HN.out]; exact hlt)]; simp)
      have HS : Hid (Sg.amountsB (l.take (k + 1)) = Sg.amountsB (l.take k) ++ Sg.beB (l.getD k 0) 8) := by
        show _ = _
        rw [Sg.take_snoc l k 0 (by rw [HN.out]; exact hlt), Sg.amountsB_snoc]
      have hsz : (Sg.amountsB (l.take k)).size ≤ 8 * n := by rw [Sg.amountsB_size]; simp; omega
      have hfx : -9223372036854775808 ≤ l.getD k 0 ∧ l.getD k 0 ≤ 9223372036854775807 := of_decide_eq_true hx
      generalize l.getD k 0 = x at *
      generalize Sg.amountsB (l.take k) = o at *
      clear hl hf hx
      go_wp2_with fail
      refine (refBytes_any x 8 _ hfx (by decide) (by decide)).mono ?_
      rintro e w1 ⟨rfl, hb1⟩
      have hb2 := hbel.trans (hb1.mono hbel.size)
      have hbs : (Sg.beB x 8).size ≤ 8 := by rw [Sg.beB_size]; exact Nat.le_refl _
      have HB : Hid (Sg.beB x 8 = { data := (Sg.beL x 8).toArray }) := rfl
      rw [← HB.out]
      generalize Sg.beB x 8 = y at *
      go_wp2_with fail
      go_roundw
      case rel => exact ⟨k + 1, by omega, by go_num, by rw [HS.out], hb2⟩
      case measure => simp [intOf]; omega
    · go_wp2_with fail
      go_ret
      exact ⟨ret_str2 (by rw [List.take_of_length_le (by rw [HN.out]; omega)]), hbel⟩
end Go.Proofs.Ytoadiibfmcjgaaa
