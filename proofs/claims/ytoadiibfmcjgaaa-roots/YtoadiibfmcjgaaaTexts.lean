/-
  THE WALKS of what signetlaw hands in: texts, bare, sameTexts, intact.
-/
import Derived.Test.YtoadiibfmcjgaaaClimbed
import Derived.Laws.CopyOwn
import Derived.BigQuiet
import Derived.Deep.QuietTactic
namespace Go.Proofs.Ytoadiibfmcjgaaa
open Go.RowKit
set_option maxRecDepth 100000

abbrev beyondB : ByteArray := { data := #[98, 101, 121, 111, 110, 100] }

/-- The cells of a row that is owned whole. -/
theorem whole_row {w : World} {base : Nat} {e : TypeId} {g n : Nat} {xs : List Value} (h : w.ownsRow base e 1 (.slice (some ⟨g, 0, none⟩) n n) n xs) : w.heap[g]? = some (.cells xs.toArray e (0, 0)) ∧ base ≤ g := by
  rcases h.2 with ⟨h', _⟩ | ⟨g', cap', cur, h', hb, hg, _, _, hcs, htake⟩
  · simp at h'
  · simp only [Value.slice.injEq, Option.some.injEq, Addr.mk.injEq, and_true, true_and] at h'
    obtain ⟨rfl, rfl⟩ := h'
    have : cur.toList = xs := by rw [← htake, List.take_of_length_le (by simp; omega)]
    subst this
    exact ⟨by simpa using hg, hb⟩
theorem own_row {w : World} {base : Nat} {e : TypeId} {g n : Nat} {xs : List Value} (hg : w.heap[g]? = some (.cells xs.toArray e (0, 0))) (hb : base ≤ g) (hn : xs.length = n) (hm : n ≤ maxLen) : w.ownsRow base e 1 (.slice (some ⟨g, 0, none⟩) n n) n xs :=
  ⟨by omega, Or.inr ⟨g, n, xs.toArray, rfl, hb, hg, Nat.le_refl _, hm, by simp; omega, List.take_of_length_le (by simp; omega)⟩⟩

theorem Try.sizeStr : (Try.prog.info? 9).map (·.size) = some 1 := by kernel_rfl

theorem made_len (z : Value) (n : Nat) : ((madeCells #[z] n).toList).length = n := by rw [toList_madeCells_one]; simp

theorem texts_row (Z : List Value) (ss : List ByteArray) (n : Nat) (hn : ss.length = n) (hZ : Z.length = n + 2) :
    ((splice Z 0 (ss.map Value.string)).set n (.string beyondB)).set (n + 1) (.string beyondB) = (ss ++ [beyondB, beyondB]).map Value.string := by
  obtain ⟨a, b, hab⟩ : ∃ a b, Z.drop n = [a, b] := by
    have : (Z.drop n).length = 2 := by simp; omega
    match hd : Z.drop n, this with
    | [a, b], _ => exact ⟨a, b, rfl⟩
  have e : splice Z 0 (ss.map Value.string) = ss.map Value.string ++ [a, b] := by
    simp [splice, hn, hab]
  rw [e, List.set_append_right _ _ (by simp; omega)]
  simp [hn]

/-- A copy of the texts of a slice into a row of the call's own, which has more room. -/
theorem copy_run (ss : List ByteArray) (ao : Option Addr) (n cap g : Nat) (Z : List Value) (B : Nat) (w0 w : World) (hn : ss.length = n) (hss : StrsIn w ao ss) (hg : w.heap[g]? = some (.cells Z.toArray 9 (0, 0))) (hZ : Z.length = n + 2) (hb : Below B w0 w) (hB : B ≤ g) :
    ∃ w2, (Builtin.copy_ #[24, 24] 3 #[.slice (some ⟨g, 0, none⟩) (n + 2) (n + 2), .slice ao n cap]).run Try.prog w = .ok (.int .i64 (n : Int)) w2 ∧
      w2.heap[g]? = some (.cells (splice Z 0 (ss.map Value.string)).toArray 9 (0, 0)) ∧ Below B w0 w2 := by
  by_cases h0 : n = 0
  · subst h0
    have e : ss = [] := List.eq_nil_of_length_eq_zero hn
    subst e
    refine ⟨w, run_copy_none (P := Try.prog) w _ _ _ 9 _ _ _ _ _ _ Try.underlying24 Try.sizeStr (by simp), ?_, hb⟩
    simpa [splice] using hg
  · rcases hss with h | ⟨b, off, rfl, _, hat⟩
    · omega
    · have hl : (ss.map Value.string).length = n := by simpa using hn
      have hrun := run_copy_row (P := Try.prog) w 24 24 3 9 g 0 (n + 2) (n + 2) ⟨b, off, none⟩ n cap Z.toArray 9 (ss.map Value.string) Try.underlying24 Try.sizeStr hg (by rw [hl]; exact (Nat.min_eq_left (by omega)).symm) (fun j v hj => by
        rw [List.getElem?_map] at hj
        have hj' : j < ss.length := by
          by_cases h : j < ss.length
          · exact h
          · rw [List.getElem?_eq_none (by omega)] at hj; simp at hj
        have ea : Addr.add ⟨b, off, none⟩ j = ⟨b, off + j, none⟩ := by cases j <;> simp [Addr.add]
        rw [ea, hat j hj']
        rw [List.getElem?_eq_getElem hj'] at hj
        simp at hj
        rw [← hj]
        simp [List.getD, hj']) (by rw [hl]; simp; omega) (fun v hv => by
        obtain ⟨s, _, rfl⟩ := List.mem_map.1 hv
        rfl)
      rw [hl] at hrun
      refine ⟨_, hrun, ?_, below_setRow hb hB _⟩
      rw [setRow_heap w g _ _ _ _ hg]
      simp [splice, hl]

set_option maxHeartbeats 1600000 in
/-- signetlaw.texts. -/
theorem texts_any (ss : List ByteArray) (ao : Option Addr) (n cap : Nat) (w : World) (hn : ss.length = n) (hcap : n ≤ 8796093022000) (hss : StrsIn w ao ss) :
    Calls Try.prog 12 #[.slice ao n cap] w fun e w' => ∃ g, e = .returned (.slice (some ⟨g, 0, none⟩) n (n + 2)) ∧ w'.ownsRow w.heap.size 9 1 (.slice (some ⟨g, 0, none⟩) (n + 2) (n + 2)) (n + 2) ((ss ++ [beyondB, beyondB]).map Value.string) ∧ Below w.heap.size w w' := by
  obtain ⟨i0, hi, hz0, hz1, hz2⟩ := info_parts Try.infoStr
  have HN : Hid (ss.length = n) := hn
  clear hn
  go_enter Try.func12, Try.ntmps12
  go_wp2_with (first | (refine wpList_make_full _ rfl _ _ 24 rfl w.heap.size 9 i0 (.string ByteArray.empty) 1 Try.underlying24 hi hz0 hz1 .i64 .i64 _ _ (n + 2) rfl rfl ?a1 ?a2 ?a3 ?a4 ?a5 ?_))
  case a1 => omega
  case a2 => omega
  case a3 => rw [hz2]; omega
  case a4 => unfold maxLen; omega
  case a5 => omega
  intro w1 hown hgrow
  have hb1 : Below w.heap.size w w1 := (Below.refl _ _).grown hgrow (Nat.le_refl _) (by simp)
  obtain ⟨Z, hZ⟩ : ∃ Z, Z = (madeCells #[Value.string ByteArray.empty] (n + 2)).toList := ⟨_, rfl⟩
  have hZl : Z.length = n + 2 := by rw [hZ, made_len]
  rw [← hZ] at hown
  clear hZ
  obtain ⟨w2, hrun, hrow2, hb2⟩ := copy_run ss ao n cap w.heap.size Z w.heap.size w w1 HN.out (hss.below hb1) (whole_row hown).1 hZl hb1 (Nat.le_refl _)
  have hsl : (splice Z 0 (ss.map Value.string)).length = n + 2 := by rw [length_splice _ _ _ (by rw [hZl]; simp [HN.out])]; exact hZl
  have hown2 := own_row (base := w.heap.size) hrow2 (Nat.le_refl _) hsl (by unfold maxLen; omega)
  obtain ⟨u1, hu1⟩ : ∃ u, w2.cell? ⟨w.heap.size, n, none⟩ = some u := by
    rw [hown2.cellAt n (by omega)]; exact ⟨_, List.getElem?_eq_getElem (by omega)⟩
  obtain ⟨u2, hu2⟩ : ∃ u, w2.cell? ⟨w.heap.size, n + 1, none⟩ = some u := by
    rw [hown2.cellAt (n + 1) (by omega)]; exact ⟨_, List.getElem?_eq_getElem (by omega)⟩
  have hf1 := hown2.frozenAt n
  have hf2 := hown2.frozenAt (n + 1)
  have hown3 := (hown2.stored n (.string beyondB)).1
  have hown4 := (hown3.stored (n + 1) (.string beyondB)).1
  rw [texts_row Z ss n HN.out hZl] at hown4
  have HO4 : Hid (((w2.setCell ⟨w.heap.size, n, none⟩ (.string beyondB)).setCell ⟨w.heap.size, n + 1, none⟩ (.string beyondB)).ownsRow w.heap.size 9 1 (.slice (some ⟨w.heap.size, 0, none⟩) (n + 2) (n + 2)) (n + 2) ((ss ++ [beyondB, beyondB]).map Value.string)) := hown4
  have hb4 := (hb2.setCell (p := ⟨w.heap.size, n, none⟩) (Nat.le_refl _) (.string beyondB)).setCell (p := ⟨w.heap.size, n + 1, none⟩) (Nat.le_refl _) (.string beyondB)
  clear hown hown2 hown3 hown4 hsl hss hrow2 hgrow hb1 hb2 hZl
  go_wp2_with fail
  go_ret
  exact ⟨_, rfl, HO4.out, hb4⟩

set_option maxHeartbeats 400000 in
/-- signetlaw.bare of nil. -/
theorem bare_nil (v : Value) (w : World) : Calls Try.prog 13 #[v, .slice none 0 0] w fun e w' => e = .returned (.slice none 0 0) ∧ w' = w := by
  have hq := fun (w : World) (a : Option Addr) (n c : Nat) => Lib.run_eql_slice_nil (P := Try.prog) w 24 9 a n c 0 0 Try.underlying24
  go_enter Try.func13, Try.ntmps13
  go_wp2_with fail
  go_ret
  exact ⟨rfl, rfl⟩
set_option maxHeartbeats 400000 in
/-- signetlaw.bare of what is not nil. -/
theorem bare_some (v : Value) (a : Addr) (n c : Nat) (w : World) : Calls Try.prog 13 #[v, .slice (some a) n c] w fun e w' => e = .returned v ∧ w' = w := by
  have hq := fun (w : World) (a : Option Addr) (n c : Nat) => Lib.run_eql_slice_nil (P := Try.prog) w 24 9 a n c 0 0 Try.underlying24
  go_enter Try.func13, Try.ntmps13
  go_wp2_with fail
  go_ret
  exact ⟨rfl, rfl⟩

theorem StrsIn.cell {w : World} {ao : Option Addr} {ss : List ByteArray} (h : StrsIn w ao ss) {k : Nat} (hk : k < ss.length) : ∃ b off, ao = some ⟨b, off, none⟩ ∧ w.cell? ⟨b, off + k, none⟩ = some (.string (ss.getD k ByteArray.empty)) := by
  rcases h with h0 | ⟨b, off, e, _, hat⟩
  · omega
  · exact ⟨b, off, e, hat k hk⟩

set_option maxHeartbeats 1600000 in
/-- signetlaw.sameTexts of two lists that are the same. -/
theorem same_any (ss : List ByteArray) (ao1 ao2 : Option Addr) (n cap1 cap2 : Nat) (w : World) (hn : ss.length = n) (hmax : n ≤ 1152921504606846976) (h1 : StrsIn w ao1 ss) (h2 : StrsIn w ao2 ss) :
    Calls Try.prog 18 #[.slice ao1 n cap1, .slice ao2 n cap2] w fun e w' => e = .returned (.bool true) ∧ Below w.heap.size w w' := by
  have HN : Hid (ss.length = n) := hn
  clear hn
  go_enter Try.func18, Try.ntmps18
  go_wp2_with fail
  go_loopw [5] (fun i wr => ∃ k : Nat, k ≤ n ∧ i = .int .i64 (k : Int) ∧ Below w.heap.size w wr) (fun i _ => n - (intOf i).toNat)
  case atStart => exact ⟨0, by omega, rfl, Below.refl _ _⟩
  case round =>
    obtain ⟨k, hk, rfl, hbel⟩ := hrel
    by_cases hlt : k < n
    · obtain ⟨b1, off1, rfl, hc1⟩ := (h1.below hbel).cell (k := k) (by rw [HN.out]; exact hlt)
      obtain ⟨b2, off2, rfl, hc2⟩ := (h2.below hbel).cell (k := k) (by rw [HN.out]; exact hlt)
      generalize ss.getD k ByteArray.empty = x at *
      have i1 : (0 : Int) ≤ (k : Int) := by omega
      have i2 : (k : Int) < (n : Int) := by omega
      clear h1 h2
      go_wp2_with fail
      go_quiet (fail)
      go_wp2_with fail
      go_roundw
      case rel => exact ⟨k + 1, by omega, by go_num, below_drewN hbel _⟩
      case measure => simp [intOf]; omega
    · go_wp2_with fail
      go_ret
      exact ⟨rfl, hbel⟩

/-- A row that texts made, as the slice that is handed in. -/
theorem row_in {w : World} {base g n : Nat} {ss : List ByteArray} (hn : ss.length = n) (h : w.ownsRow base 9 1 (.slice (some ⟨g, 0, none⟩) (n + 2) (n + 2)) (n + 2) ((ss ++ [beyondB, beyondB]).map Value.string)) :
    g < w.heap.size ∧ StrsAt w g 0 ss ∧ w.cell? ⟨g, n, none⟩ = some (.string beyondB) ∧ w.cell? ⟨g, n + 1, none⟩ = some (.string beyondB) := by
  subst hn
  refine ⟨(h.lt g rfl).2, fun i hi => ?_, ?_, ?_⟩
  · rw [Nat.zero_add, h.cellAt i (by omega)]
    rw [List.map_append, List.getElem?_append_left (by simpa using hi)]
    simp [List.getD, hi]
  · rw [h.cellAt _ (by omega)]; simp
  · rw [h.cellAt _ (by omega)]; simp

set_option maxHeartbeats 1600000 in
/-- signetlaw.intact of a row that texts made, and of what it was made of. -/
theorem intact_any (ss : List ByteArray) (ao : Option Addr) (n cap g base : Nat) (w : World) (hn : ss.length = n) (hmax : n ≤ 8796093022000) (hss : StrsIn w ao ss) (hrow : w.ownsRow base 9 1 (.slice (some ⟨g, 0, none⟩) (n + 2) (n + 2)) (n + 2) ((ss ++ [beyondB, beyondB]).map Value.string)) :
    Calls Try.prog 23 #[.slice (some ⟨g, 0, none⟩) n (n + 2), .slice ao n cap] w fun e w' => e = .returned (.bool true) ∧ Below w.heap.size w w' := by
  obtain ⟨hg, hat, hc1, hc2⟩ := row_in hn hrow
  clear hrow
  have hin : StrsIn w (some ⟨g, 0, none⟩) ss := Or.inr ⟨g, 0, rfl, hg, hat⟩
  have HN : Hid (ss.length = n) := hn
  clear hn hat
  go_enter Try.func23, Try.ntmps23
  go_wp2_with fail
  refine (same_any ss _ ao n _ cap _ HN.out (by omega) hin hss).mono ?_
  rintro e w1 ⟨rfl, hb1⟩
  have hc1' := (hb1.cell (p := ⟨g, n, none⟩) hg).trans hc1
  have hc2' := (hb1.cell (p := ⟨g, n + 1, none⟩) hg).trans hc2
  clear hc1 hc2 hin hss
  go_wp2_with fail
  go_ret
  exact ⟨rfl, hb1⟩
end Go.Proofs.Ytoadiibfmcjgaaa
