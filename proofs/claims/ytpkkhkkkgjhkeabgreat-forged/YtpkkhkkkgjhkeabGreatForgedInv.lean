/-
  A TEXT'S BYTES in a row that may be written (P10, P12, P13): '[]byte(s)', a byte stored, 'string(b)'.
-/
import Derived.Test.YtpkkhkkkgjhkeabGreatForgedSpec
import Derived.Test.YtpkkhkkkgjhkeabGreatShownInv
import Derived.Test.YtpkkhkkkgjhkeabGreatMadeX
import Derived.Test.YtpkkhkkkgjhkeabGreatClashTwo
import Derived.Laws.IdiomStrings
namespace Go.Proofs.YtpkkhkkkgjhkeabGreat
open Go.RowKit
set_option maxRecDepth 100000
attribute [local go_sem ↓] Go.wp_at_zero Go.wp_at_succ

/-- How many periods come out of so many entries: one number alone. -/
theorem many_same {n nr k j : Nat} (hk : 1 ≤ k) (hk6 : k ≤ 6) (h1 : k = 6 ∨ nr ≤ k * n) (h2 : ∀ k', 1 ≤ k' → k' < k → k' * n < nr) (hj : 1 ≤ j) (hj6 : j ≤ 6) (g1 : j = 6 ∨ nr ≤ j * n) (g2 : ∀ k', 1 ≤ k' → k' < j → k' * n < nr) : k = j := by
  by_cases a : k < j
  · have := g2 k hk a
    rcases h1 with h | h <;> omega
  · by_cases b : j < k
    · have := h2 j hj b
      rcases g1 with h | h <;> omega
    · omega
structure BRow (w : World) (g : Nat) (l : List UInt8) : Prop where
  cell : ∀ j (hj : j < l.length), w.cell? ⟨g, j, none⟩ = some (.int .u8 (l[j].toNat : Int))
  free : ∀ j, j < l.length → w.frozen? ⟨g, j, none⟩ = false
  lt : g < w.heap.size
theorem BRow.below {w w' : World} {g : Nat} {l : List UInt8} (h : BRow w g l) (hb : Below w.heap.size w w') : BRow w' g l :=
  ⟨fun j hj => (hb.cell (p := ⟨g, j, none⟩) h.lt).trans (h.cell j hj), fun j hj => (hb.frozen (p := ⟨g, j, none⟩) h.lt).trans (h.free j hj), Nat.lt_of_lt_of_le h.lt hb.size⟩
theorem BRow.drewN {w : World} {g : Nat} {l : List UInt8} (h : BRow w g l) (m : Nat) : BRow (w.drewN m) g l := ⟨h.cell, h.free, h.lt⟩
theorem BRow.put {w : World} {g : Nat} {l : List UInt8} (h : BRow w g l) {i : Nat} (hi : i < l.length) (b : UInt8) : BRow (w.setCell ⟨g, i, none⟩ (.int .u8 (b.toNat : Int))) g (l.set i b) := by
  refine ⟨fun j hj => ?_, fun j hj => ?_, by have := h.lt; simpa using this⟩
  · have hj' : j < l.length := by rw [List.length_set] at hj; exact hj
    by_cases e : j = i
    · subst e
      rw [List.getElem_set_self]
      exact World.cell?_setCell_same _ _ _ (h.cell j hj')
    · rw [List.getElem_set_ne (fun c => e c.symm), World.cell?_setCell_other _ _ _ _ (fun c => e (by have := congrArg Addr.off c; exact this.symm))]
      exact h.cell j hj'
  · rw [List.length_set] at hj
    rw [World.frozen?_setCell]
    exact h.free j hj
/-- '[]byte(s)'. -/
theorem bytes_new (s : ByteArray) (w : World) : ∃ cap w', (convert 9 54 (.string s)).run Tryz.prog w = .ok (.slice (some ⟨w.heap.size, 0, none⟩) s.size cap) w' ∧ BRow w' w.heap.size (Sg.tx s) ∧ Below w.heap.size w w' := by
  refine ⟨_, _, run_bytes_of_string (P := Tryz.prog) w 9 54 5 s Tryz.underlying9 Tryz.underlying54 Tryz.underlying5, ?_, ((Below.refl _ _).drew).alloc (Nat.le_refl _) _⟩
  generalize grownCap w s.size 0 5 = cp
  have hsz : s.data.size ≤ (bytesRow s cp).size := by unfold bytesRow; simp
  have htx : (Sg.tx s).length = s.data.size := by unfold Sg.tx; rw [Array.length_toList]
  refine ⟨fun j hj => ?_, fun j hj => ?_, by show w.heap.size < (w.heap.push _).size; simp⟩
  · have e := World.cell?_alloc_mark w.drew (bytesRow s cp) 5 ((bytesRow s cp).size, (bytesRow s cp).size + 1) j
    have e2 := bytesRow_at s cp j (by omega)
    exact (e.trans e2).trans rfl
  · have e := World.frozen?_alloc_mark w.drew (bytesRow s cp) 5 (bytesRow s cp).size ((bytesRow s cp).size + 1) j
    refine e.trans ?_
    rw [decide_eq_false (by omega)]
    rfl
/-- 'string(b)'. -/
theorem BRow.back {w : World} {g n cap : Nat} {l : List UInt8} (h : BRow w g l) (hn : l.length = n) : (convert 54 9 (.slice (some ⟨g, 0, none⟩) n cap)).run Tryz.prog w = .ok (.string (Sg.ofL l)) w := by
  subst hn
  have := run_convert_bytes_back (P := Tryz.prog) w 54 9 5 ⟨g, 0, none⟩ cap l Tryz.underlying54 Tryz.underlying5 Tryz.underlying9 (fun j hj => by
    have ea : Addr.add ⟨g, 0, none⟩ j = ⟨g, j, none⟩ := by cases j <;> simp [Addr.add]
    rw [ea]
    exact h.cell j hj)
  exact this
def xorB (x y : Int) : UInt8 := UInt8.ofNat (bits .xor .u8 x y).toNat
theorem xorB_is (x y : Int) : bits .xor .u8 x y = ((xorB x y).toNat : Int) := by
  have h : 0 ≤ bits .xor .u8 x y ∧ bits .xor .u8 x y < 256 := by
    unfold bits
    simp [IntKind.wrap, IntKind.bits, IntKind.signed]
    omega
  unfold xorB
  simp
  omega
set_option maxHeartbeats 1600000 in
/-- one, of two texts that have one sum. -/
theorem one_yes (x y : ByteArray) (w : World) (hne : x ≠ y) (hs : Sg.sumB x = Sg.sumB y) (hx : x.size ≤ 140737488355328) (hy : y.size ≤ 140737488355328) :
    Calls Tryz.prog 13 #[.string x, .string y] w fun e w' => e = .returned (.bool true) ∧ Below w.heap.size w w' := by
  have h1 := fun W => sealSum_any x W (by unfold maxLen; omega)
  have h2 := fun W => sealSum_any y W (by unfold maxLen; omega)
  have c1 := ne_list' hne
  have c2 := eq_list' hs
  clear hne hs hx hy
  go_enter Tryz.func13, Tryz.ntmps13
  go_wp2_with fail
  refine (h1 _).mono ?_
  rintro e w1 ⟨rfl, b1⟩
  clear h1
  go_wp2_with fail
  refine (h2 _).mono ?_
  rintro e w2 ⟨rfl, b2⟩
  clear h2
  go_wp2_with fail
  go_ret
  exact ⟨rfl, b1.trans (b2.mono b1.size)⟩
end Go.Proofs.YtpkkhkkkgjhkeabGreat
