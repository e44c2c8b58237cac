import Derived.Test.YtpkkhkkkgjhkeaaBpath
import Derived.Laws.CopyOwn
import Derived.BigQuiet
import Derived.Deep.QuietTactic
import Derived.ArgAppend
import Derived.Test.YtpkkhkkkgjhkeaaPick
/-
  THE WALKS of what signetlaw hands in: texts, bare, sameTexts, intact.
-/
namespace Go.Proofs.Ytpkkhkkkgjhkeaa
open Go.RowKit
set_option maxRecDepth 100000

abbrev beyondB : ByteArray := { data := #[98, 101, 121, 111, 110, 100] }

/-- The cells of a row that is owned whole. -/
theorem whole_row {w : World} {base : Nat} {e : TypeId} {g n : Nat} {xs : List Value} (h : w.ownsRow base e 1 (.slice (some ⟨g, 0, none⟩) n n) n xs) : w.heap[g]? = some (.cells xs.toArray e (0, 0)) ∧ base ≤ g := by
  rcases h.2 with ⟨h', _⟩ | ⟨g', cap', cur, h', hb, hg, _, _, hcs, htake⟩
  · simp at h'
  · simp only [Value.slice.injEq, Option.some.injEq, Addr.mk.injEq, and_true, true_and] at h'
    obtain ⟨rfl, rfl⟩ := h'
    have : cur.toList = xs := by rw [← htake, List.take_of_length_le (by simp; omega)]
    subst this
    exact ⟨by simpa using hg, hb⟩
theorem own_row {w : World} {base : Nat} {e : TypeId} {g n : Nat} {xs : List Value} (hg : w.heap[g]? = some (.cells xs.toArray e (0, 0))) (hb : base ≤ g) (hn : xs.length = n) (hm : n ≤ maxLen) : w.ownsRow base e 1 (.slice (some ⟨g, 0, none⟩) n n) n xs :=
  ⟨by omega, Or.inr ⟨g, n, xs.toArray, rfl, hb, hg, Nat.le_refl _, hm, by simp; omega, List.take_of_length_le (by simp; omega)⟩⟩

theorem Try.sizeStr : (Try.prog.info? 9).map (·.size) = some 1 := by kernel_rfl

theorem made_len (z : Value) (n : Nat) : ((madeCells #[z] n).toList).length = n := by rw [toList_madeCells_one]; simp

theorem texts_row (Z : List Value) (ss : List ByteArray) (n : Nat) (hn : ss.length = n) (hZ : Z.length = n + 2) :
    ((splice Z 0 (ss.map Value.string)).set n (.string beyondB)).set (n + 1) (.string beyondB) = (ss ++ [beyondB, beyondB]).map Value.string := by
  obtain ⟨a, b, hab⟩ : ∃ a b, Z.drop n = [a, b] := by
    have : (Z.drop n).length = 2 := by simp; omega
    match hd : Z.drop n, this with
    | [a, b], _ => exact ⟨a, b, rfl⟩
  have e : splice Z 0 (ss.map Value.string) = ss.map Value.string ++ [a, b] := by
    simp [splice, hn, hab]
  rw [e, List.set_append_right _ _ (by simp; omega)]
  simp [hn]

/-- A copy of the texts of a slice into a row of the call's own, which has more room. -/
theorem copy_run (ss : List ByteArray) (ao : Option Addr) (n cap g : Nat) (Z : List Value) (B : Nat) (w0 w : World) (hn : ss.length = n) (hss : StrsIn w ao ss) (hg : w.heap[g]? = some (.cells Z.toArray 9 (0, 0))) (hZ : Z.length = n + 2) (hb : Below B w0 w) (hB : B ≤ g) :
    ∃ w2, (Builtin.copy_ #[24, 24] 3 #[.slice (some ⟨g, 0, none⟩) (n + 2) (n + 2), .slice ao n cap]).run Try.prog w = .ok (.int .i64 (n : Int)) w2 ∧
      w2.heap[g]? = some (.cells (splice Z 0 (ss.map Value.string)).toArray 9 (0, 0)) ∧ Below B w0 w2 := by
  by_cases h0 : n = 0
  · subst h0
    have e : ss = [] := List.eq_nil_of_length_eq_zero hn
    subst e
    refine ⟨w, run_copy_none (P := Try.prog) w _ _ _ 9 _ _ _ _ _ _ Try.underlying24 Try.sizeStr (by simp), ?_, hb⟩
    simpa [splice] using hg
  · rcases hss with h | ⟨b, off, rfl, _, hat⟩
    · omega
    · have hl : (ss.map Value.string).length = n := by simpa using hn
      have hrun := run_copy_row (P := Try.prog) w 24 24 3 9 g 0 (n + 2) (n + 2) ⟨b, off, none⟩ n cap Z.toArray 9 (ss.map Value.string) Try.underlying24 Try.sizeStr hg (by rw [hl]; exact (Nat.min_eq_left (by omega)).symm) (fun j v hj => by
        rw [List.getElem?_map] at hj
        have hj' : j < ss.length := by
          by_cases h : j < ss.length
          · exact h
          · rw [List.getElem?_eq_none (by omega)] at hj; simp at hj
        have ea : Addr.add ⟨b, off, none⟩ j = ⟨b, off + j, none⟩ := by cases j <;> simp [Addr.add]
        rw [ea, hat j hj']
        rw [List.getElem?_eq_getElem hj'] at hj
        simp at hj
        rw [← hj]
        simp [List.getD, hj']) (by rw [hl]; simp; omega) (fun v hv => by
        obtain ⟨s, _, rfl⟩ := List.mem_map.1 hv
        rfl)
      rw [hl] at hrun
      refine ⟨_, hrun, ?_, below_setRow hb hB _⟩
      rw [setRow_heap w g _ _ _ _ hg]
      simp [splice, hl]

set_option maxHeartbeats 1600000 in
/-- signetlaw.texts. -/
theorem texts_any (ss : List ByteArray) (ao : Option Addr) (n cap : Nat) (w : World) (hn : ss.length = n) (hcap : n ≤ 8796093022000) (hss : StrsIn w ao ss) :
    Calls Try.prog 14 #[.slice ao n cap] w fun e w' => ∃ g, e = .returned (.slice (some ⟨g, 0, none⟩) n (n + 2)) ∧ w'.ownsRow w.heap.size 9 1 (.slice (some ⟨g, 0, none⟩) (n + 2) (n + 2)) (n + 2) ((ss ++ [beyondB, beyondB]).map Value.string) ∧ Below w.heap.size w w' := by
  obtain ⟨i0, hi, hz0, hz1, hz2⟩ := info_parts Try.infoStr
  have HN : Hid (ss.length = n) := hn
  clear hn
  go_enter Try.func14, Try.ntmps14
  go_wp2_with (first | (refine wpList_make_full _ rfl _ _ 24 rfl w.heap.size 9 i0 (.string ByteArray.empty) 1 Try.underlying24 hi hz0 hz1 .i64 .i64 _ _ (n + 2) rfl rfl ?a1 ?a2 ?a3 ?a4 ?a5 ?_))
  case a1 => omega
  case a2 => omega
  case a3 => rw [hz2]; omega
  case a4 => unfold maxLen; omega
  case a5 => omega
  intro w1 hown hgrow
  have hb1 : Below w.heap.size w w1 := (Below.refl _ _).grown hgrow (Nat.le_refl _) (by simp)
  obtain ⟨Z, hZ⟩ : ∃ Z, Z = (madeCells #[Value.string ByteArray.empty] (n + 2)).toList := ⟨_, rfl⟩
  have hZl : Z.length = n + 2 := by rw [hZ, made_len]
  rw [← hZ] at hown
  clear hZ
  obtain ⟨w2, hrun, hrow2, hb2⟩ := copy_run ss ao n cap w.heap.size Z w.heap.size w w1 HN.out (hss.below hb1) (whole_row hown).1 hZl hb1 (Nat.le_refl _)
  have hsl : (splice Z 0 (ss.map Value.string)).length = n + 2 := by rw [length_splice _ _ _ (by rw [hZl]; simp [HN.out])]; exact hZl
  have hown2 := own_row (base := w.heap.size) hrow2 (Nat.le_refl _) hsl (by unfold maxLen; omega)
  obtain ⟨u1, hu1⟩ : ∃ u, w2.cell? ⟨w.heap.size, n, none⟩ = some u := by
    rw [hown2.cellAt n (by omega)]; exact ⟨_, List.getElem?_eq_getElem (by omega)⟩
  obtain ⟨u2, hu2⟩ : ∃ u, w2.cell? ⟨w.heap.size, n + 1, none⟩ = some u := by
    rw [hown2.cellAt (n + 1) (by omega)]; exact ⟨_, List.getElem?_eq_getElem (by omega)⟩
  have hf1 := hown2.frozenAt n
  have hf2 := hown2.frozenAt (n + 1)
  have hown3 := (hown2.stored n (.string beyondB)).1
  have hown4 := (hown3.stored (n + 1) (.string beyondB)).1
  rw [texts_row Z ss n HN.out hZl] at hown4
  have HO4 : Hid (((w2.setCell ⟨w.heap.size, n, none⟩ (.string beyondB)).setCell ⟨w.heap.size, n + 1, none⟩ (.string beyondB)).ownsRow w.heap.size 9 1 (.slice (some ⟨w.heap.size, 0, none⟩) (n + 2) (n + 2)) (n + 2) ((ss ++ [beyondB, beyondB]).map Value.string)) := hown4
  have hb4 := (hb2.setCell (p := ⟨w.heap.size, n, none⟩) (Nat.le_refl _) (.string beyondB)).setCell (p := ⟨w.heap.size, n + 1, none⟩) (Nat.le_refl _) (.string beyondB)
  clear hown hown2 hown3 hown4 hsl hss hrow2 hgrow hb1 hb2 hZl
  go_wp2_with fail
  go_ret
  exact ⟨_, rfl, HO4.out, hb4⟩

set_option maxHeartbeats 400000 in
/-- signetlaw.bare of nil. -/
theorem bare_nil (v : Value) (w : World) : Calls Try.prog 15 #[v, .slice none 0 0] w fun e w' => e = .returned (.slice none 0 0) ∧ w' = w := by
  have hq := fun (w : World) (a : Option Addr) (n c : Nat) => Lib.run_eql_slice_nil (P := Try.prog) w 24 9 a n c 0 0 Try.underlying24
  go_enter Try.func15, Try.ntmps15
  go_wp2_with fail
  go_ret
  exact ⟨rfl, rfl⟩
set_option maxHeartbeats 400000 in
/-- signetlaw.bare of what is not nil. -/
theorem bare_some (v : Value) (a : Addr) (n c : Nat) (w : World) : Calls Try.prog 15 #[v, .slice (some a) n c] w fun e w' => e = .returned v ∧ w' = w := by
  have hq := fun (w : World) (a : Option Addr) (n c : Nat) => Lib.run_eql_slice_nil (P := Try.prog) w 24 9 a n c 0 0 Try.underlying24
  go_enter Try.func15, Try.ntmps15
  go_wp2_with fail
  go_ret
  exact ⟨rfl, rfl⟩

theorem StrsIn.cell {w : World} {ao : Option Addr} {ss : List ByteArray} (h : StrsIn w ao ss) {k : Nat} (hk : k < ss.length) : ∃ b off, ao = some ⟨b, off, none⟩ ∧ w.cell? ⟨b, off + k, none⟩ = some (.string (ss.getD k ByteArray.empty)) := by
  rcases h with h0 | ⟨b, off, e, _, hat⟩
  · omega
  · exact ⟨b, off, e, hat k hk⟩

set_option maxHeartbeats 1600000 in
/-- signetlaw.sameTexts of two lists that are the same. -/
theorem same_any (ss : List ByteArray) (ao1 ao2 : Option Addr) (n cap1 cap2 : Nat) (w : World) (hn : ss.length = n) (hmax : n ≤ 1152921504606846976) (h1 : StrsIn w ao1 ss) (h2 : StrsIn w ao2 ss) :
    Calls Try.prog 20 #[.slice ao1 n cap1, .slice ao2 n cap2] w fun e w' => e = .returned (.bool true) ∧ Below w.heap.size w w' := by
  have HN : Hid (ss.length = n) := hn
  clear hn
  go_enter Try.func20, Try.ntmps20
  go_wp2_with fail
  go_loopw [5] (fun i wr => ∃ k : Nat, k ≤ n ∧ i = .int .i64 (k : Int) ∧ Below w.heap.size w wr) (fun i _ => n - (intOf i).toNat)
  case atStart => exact ⟨0, by omega, rfl, Below.refl _ _⟩
  case round =>
    obtain ⟨k, hk, rfl, hbel⟩ := hrel
    by_cases hlt : k < n
    · obtain ⟨b1, off1, rfl, hc1⟩ := (h1.below hbel).cell (k := k) (by rw [HN.out]; exact hlt)
      obtain ⟨b2, off2, rfl, hc2⟩ := (h2.below hbel).cell (k := k) (by rw [HN.out]; exact hlt)
      generalize ss.getD k ByteArray.empty = x at *
      have i1 : (0 : Int) ≤ (k : Int) := by omega
      have i2 : (k : Int) < (n : Int) := by omega
      clear h1 h2
      go_wp2_with fail
      go_quiet (fail)
      go_wp2_with fail
      go_roundw
      case rel => exact ⟨k + 1, by omega, by go_num, below_drewN hbel _⟩
      case measure => simp [intOf]; omega
    · go_wp2_with fail
      go_ret
      exact ⟨rfl, hbel⟩

/-- A row that texts made, as the slice that is handed in. -/
theorem row_in {w : World} {base g n : Nat} {ss : List ByteArray} (hn : ss.length = n) (h : w.ownsRow base 9 1 (.slice (some ⟨g, 0, none⟩) (n + 2) (n + 2)) (n + 2) ((ss ++ [beyondB, beyondB]).map Value.string)) :
    g < w.heap.size ∧ StrsAt w g 0 ss ∧ w.cell? ⟨g, n, none⟩ = some (.string beyondB) ∧ w.cell? ⟨g, n + 1, none⟩ = some (.string beyondB) := by
  subst hn
  refine ⟨(h.lt g rfl).2, fun i hi => ?_, ?_, ?_⟩
  · rw [Nat.zero_add, h.cellAt i (by omega)]
    rw [List.map_append, List.getElem?_append_left (by simpa using hi)]
    simp [List.getD, hi]
  · rw [h.cellAt _ (by omega)]; simp
  · rw [h.cellAt _ (by omega)]; simp

set_option maxHeartbeats 1600000 in
/-- signetlaw.intact of a row that texts made, and of what it was made of. -/
theorem intact_any (ss : List ByteArray) (ao : Option Addr) (n cap g base : Nat) (w : World) (hn : ss.length = n) (hmax : n ≤ 8796093022000) (hss : StrsIn w ao ss) (hrow : w.ownsRow base 9 1 (.slice (some ⟨g, 0, none⟩) (n + 2) (n + 2)) (n + 2) ((ss ++ [beyondB, beyondB]).map Value.string)) :
    Calls Try.prog 25 #[.slice (some ⟨g, 0, none⟩) n (n + 2), .slice ao n cap] w fun e w' => e = .returned (.bool true) ∧ Below w.heap.size w w' := by
  obtain ⟨hg, hat, hc1, hc2⟩ := row_in hn hrow
  clear hrow
  have hin : StrsIn w (some ⟨g, 0, none⟩) ss := Or.inr ⟨g, 0, rfl, hg, hat⟩
  have HN : Hid (ss.length = n) := hn
  clear hn hat
  go_enter Try.func25, Try.ntmps25
  go_wp2_with fail
  refine (same_any ss _ ao n _ cap _ HN.out (by omega) hin hss).mono ?_
  rintro e w1 ⟨rfl, hb1⟩
  have hc1' := (hb1.cell (p := ⟨g, n, none⟩) hg).trans hc1
  have hc2' := (hb1.cell (p := ⟨g, n + 1, none⟩) hg).trans hc2
  clear hc1 hc2 hin hss
  go_wp2_with fail
  go_ret
  exact ⟨rfl, hb1⟩
end Go.Proofs.Ytpkkhkkkgjhkeaa

/-
  THE WALKS of signetlaw.fill, filled: whoever owns a list writes into it, and behind it.
-/
namespace Go.Proofs.Ytpkkhkkkgjhkeaa
open Go.RowKit
set_option maxRecDepth 100000

theorem Try.infoStrs : (Try.prog.info? 24).map (fun i => (i.zero, i.size, i.bytes)) = some (some (.slice none 0 0), 1, 24) := by kernel_rfl

/-- So many marks. -/
def marks (mark : ByteArray) (n : Nat) : List Value := List.replicate n (.string mark)
theorem marks_length (mark : ByteArray) (n : Nat) : (marks mark n).length = n := by simp [marks]
theorem marks_succ (mark : ByteArray) (n : Nat) : marks mark n ++ [.string mark] = marks mark (n + 1) := by
  unfold marks; rw [List.replicate_succ']

/-- A list that reads as so many marks. -/
def Marked (w : World) (mark : ByteArray) (v : Value) (n : Nat) : Prop := w.ownsRow 0 9 1 v n (marks mark n)

theorem grown_trans {w w1 w2 : World} {row row' : Option Nat} (h : w.grownBy w1 row) (k : w1.grownBy w2 row') (hr : row' = row ∨ ∀ g, row' = some g → w.heap.size ≤ g) : w.grownBy w2 row := by
  refine ⟨k.os.trans h.os, k.tape.trans h.tape, k.output.trans h.output, Nat.le_trans h.size k.size, fun i hi hne => ?_⟩
  have hi1 : i < w1.heap.size := Nat.lt_of_lt_of_le hi h.size
  have hne' : some i ≠ row' := by
    intro e
    rcases hr with rfl | hr
    · exact hne e
    · have := hr i e.symm; omega
  exact (k.block i hi1 hne').trans (h.block i hi hne)

/-- Marked lists stay so while another block is written. -/
theorem Marked.kept {w w' : World} {mark : ByteArray} {v : Value} {n : Nat} {row : Option Nat} (h : Marked w mark v n) (hg : w.grownBy w' row) (hne : v.ownBlock = none ∨ v.ownBlock ≠ row) : Marked w' mark v n := World.ownsRow.kept h hg hne
theorem Marked.below {w w' : World} {mark : ByteArray} {v : Value} {n : Nat} (h : Marked w mark v n) (hb : Below w.heap.size w w') : Marked w' mark v n := ownsRow_below h hb

/-- Marked lists stay so while one more mark is laid behind another list that has room. -/
theorem Marked.room {w w' : World} {mark : ByteArray} {v : Value} {n m g cap base : Nat} (h : Marked w mark v n) (hnm : n ≤ m) (hold : w.ownsRow base 9 1 (.slice (some ⟨g, 0, none⟩) m cap) m (marks mark m))
    (hown : w'.ownsRow base 9 1 (.slice (some ⟨g, 0, none⟩) (m + 1) cap) (m + 1) (marks mark (m + 1))) (hg : w.grownBy w' (some g)) : Marked w' mark v n := by
  rcases h.2 with ⟨rfl, h0⟩ | ⟨g1, c1, cur1, rfl, _, hh1, hn1, hm1, hs1, _⟩
  · subst h0; exact World.ownsRow_nil _ _ _ _
  · by_cases e : g1 = g
    · subst e
      rcases hold.2 with ⟨h', _⟩ | ⟨g2, c2, cur2, h', _, hh2, _, _, hs2, _⟩
      · simp at h'
      · simp only [Value.slice.injEq, Option.some.injEq, Addr.mk.injEq, and_true, true_and] at h'
        obtain ⟨rfl, rfl⟩ := h'
        rw [hh1] at hh2
        simp only [Option.some.injEq, Obj.cells.injEq, and_true] at hh2
        subst hh2
        rcases hown.2 with ⟨h', _⟩ | ⟨g3, c3, cur3, h', _, hh3, _, _, hs3, ht3⟩
        · simp at h'
        · simp only [Value.slice.injEq, Option.some.injEq, Addr.mk.injEq, and_true, true_and] at h'
          obtain ⟨rfl, rfl⟩ := h'
          have ec : c1 = cap := by omega
          subst ec
          refine ⟨by simp [marks], Or.inr ⟨g1, c1, cur3, rfl, Nat.zero_le _, hh3, hn1, hm1, hs3, ?_⟩⟩
          have : cur3.toList.take (n * 1) = (cur3.toList.take ((m + 1) * 1)).take (n * 1) := by rw [List.take_take, Nat.min_eq_left (by omega)]
          rw [this, ht3]
          simp [marks, List.take_replicate]; omega
    · exact Marked.kept h hg (Or.inr (by simp [Value.ownBlock]; exact e))

/-- Lists of texts and lists of such lists lie in different blocks. -/
theorem apart_types {w : World} {mark : ByteArray} {v u : Value} {n m base : Nat} {xs : List Value} (h : Marked w mark v n) (k : w.ownsRow base 24 1 u m xs) : v.ownBlock = none ∨ v.ownBlock ≠ u.ownBlock := by
  rcases h.2 with ⟨rfl, _⟩ | ⟨g1, c1, cur1, rfl, _, hh1, _⟩
  · exact Or.inl rfl
  · right
    rcases k.2 with ⟨rfl, _⟩ | ⟨g2, c2, cur2, rfl, _, hh2, _⟩
    · simp [Value.ownBlock]
    · simp only [Value.ownBlock, ne_eq, Option.some.injEq]
      rintro rfl
      rw [hh1] at hh2
      simp at hh2

/-- A round of the first loop. -/
theorem fill_marks (xs : List Value) (mark : ByteArray) (j n : Nat) (hx : xs.length = n) (hj : j < n) : (marks mark j ++ xs.drop j).set j (.string mark) = marks mark (j + 1) ++ xs.drop (j + 1) := by
  rw [List.set_append_right _ _ (by simp [marks])]
  rw [marks_length, Nat.sub_self, List.drop_eq_getElem_cons (by omega), List.set_cons_zero, ← marks_succ, List.append_assoc]
  rfl

/-- What fill holds at the head of its second loop: the lists so far, and the last of them. -/
def FillInv (w wr : World) (mark : ByteArray) (n : Nat) (row : Option Nat) (outv gv : Value) (i : Nat) (Gs : List Value) : Prop :=
  Gs.length = i + 1 ∧ (∀ j u, Gs[j]? = some u → Marked wr mark u (n + j)) ∧ Gs[i]? = some gv ∧ wr.ownsRow w.heap.size 24 1 outv (i + 1) Gs ∧ w.grownBy wr row ∧ (gv.ownBlock = row ∨ ∀ g, gv.ownBlock = some g → w.heap.size ≤ g)
/-- And behind its first append. -/
def FillMid (w w1 : World) (mark : ByteArray) (n : Nat) (row : Option Nat) (outv gv : Value) (i : Nat) (Gs : List Value) : Prop :=
  Gs.length = i + 1 ∧ (∀ j u, Gs[j]? = some u → Marked w1 mark u (n + j)) ∧ w1.ownsRow w.heap.size 24 1 outv (i + 1) Gs ∧ w.grownBy w1 row ∧ Marked w1 mark gv (n + (i + 1)) ∧ (gv.ownBlock = row ∨ ∀ g, gv.ownBlock = some g → w.heap.size ≤ g)

theorem FillInv.last {w wr : World} {mark : ByteArray} {n : Nat} {row : Option Nat} {outv gv : Value} {i : Nat} {Gs : List Value} (h : FillInv w wr mark n row outv gv i Gs) : Marked wr mark gv (n + i) := h.2.1 i gv h.2.2.1
theorem FillInv.alloc {w wr : World} {mark : ByteArray} {n : Nat} {row : Option Nat} {outv gv : Value} {i : Nat} {Gs : List Value} (h : FillInv w wr mark n row outv gv i Gs) (o : Obj) : FillInv w (wr.alloc o) mark n row outv gv i Gs :=
  ⟨h.1, fun j u hj => World.ownsRow.alloc (h.2.1 j u hj) o, h.2.2.1, h.2.2.2.1.alloc o, grown_trans h.2.2.2.2.1 (World.grownBy_alloc wr o row) (Or.inl rfl), h.2.2.2.2.2⟩

theorem own_not {a b : Option Nat} (h : a = none ∨ a ≠ b) (c : Nat) (hc : a = some c) : b = none ∨ b ≠ some c := by
  right
  intro e
  rcases h with h | h
  · rw [h] at hc; simp at hc
  · exact h (by rw [hc, e])

theorem fill_room {w wr w1 : World} {mark : ByteArray} {n : Nat} {row : Option Nat} {outv : Value} {i g cap : Nat} {Gs : List Value} {o : Obj} (h : FillInv w wr mark n row outv (.slice (some ⟨g, 0, none⟩) (n + i) cap) i Gs)
    (hown : w1.ownsRow 0 9 1 (.slice (some ⟨g, 0, none⟩) (n + i + 1) cap) (n + i + 1) (marks mark (n + i) ++ [.string mark])) (hg : (wr.alloc o).grownBy w1 (some g)) :
    FillMid w w1 mark n row outv (.slice (some ⟨g, 0, none⟩) (n + i + 1) cap) i Gs := by
  have hl := h.last
  have ha := h.alloc o
  obtain ⟨h1, h2, h3, h4, h5, h6⟩ := ha
  rw [marks_succ] at hown
  refine ⟨h1, fun j u hj => ?_, ?_, ?_, ?_, h6⟩
  · have hj' : j < i + 1 := by rw [← h1]; exact (List.getElem?_eq_some_iff.1 hj).1
    exact (h2 j u hj).room (by omega) (World.ownsRow.alloc hl o) hown hg
  · exact h4.kept hg (own_not (apart_types hl h.2.2.2.1) g rfl)
  · refine grown_trans h5 hg ?_
    rcases h6 with h6 | h6
    · left; rw [← h6]; rfl
    · right; exact h6
  · have e : n + (i + 1) = n + i + 1 := by omega
    unfold Marked
    rw [e]; exact hown

theorem fill_grow {w wr w1 : World} {mark : ByteArray} {n : Nat} {row : Option Nat} {outv gv v' : Value} {i base : Nat} {Gs : List Value} {o : Obj} (h : FillInv w wr mark n row outv gv i Gs)
    (hown : w1.ownsRow base 9 1 v' (n + i + 1) (marks mark (n + i) ++ [.string mark])) (hb : wr.heap.size ≤ base) (hg : (wr.alloc o).grownBy w1 none) :
    FillMid w w1 mark n row outv v' i Gs := by
  have ha := h.alloc o
  obtain ⟨h1, h2, h3, h4, h5, h6⟩ := ha
  rw [marks_succ] at hown
  refine ⟨h1, fun j u hj => (h2 j u hj).kept hg ?_, h4.kept hg ?_, grown_trans h5 hg (Or.inr (by simp)), ?_, Or.inr fun g' hg' => ?_⟩
  · cases u.ownBlock <;> simp
  · cases outv.ownBlock <;> simp
  · have e : n + (i + 1) = n + i + 1 := by omega
    unfold Marked
    rw [e]; exact ownsRow_base hown (Nat.zero_le _)
  · have := (hown.lt g' hg').1
    have := h.2.2.2.2.1.size
    omega

theorem fill_out {w w1 w2 : World} {mark : ByteArray} {n : Nat} {row : Option Nat} {outv gv v' : Value} {i : Nat} {Gs : List Value} {o : Obj} (h : FillMid w w1 mark n row outv gv i Gs)
    (hown : w2.ownsRow w.heap.size 24 1 v' (i + 1 + 1) (Gs ++ [gv])) (hg : (w1.alloc o).grownBy w2 outv.ownBlock) : FillInv w w2 mark n row v' gv (i + 1) (Gs ++ [gv]) := by
  obtain ⟨h1, h2, h4, h5, h7, h6⟩ := h
  have m1 : ∀ u m, Marked w1 mark u m → Marked w2 mark u m := fun u m hu => Marked.kept (World.ownsRow.alloc hu o) hg (apart_types hu h4)
  refine ⟨by simp [h1], fun j u hj => ?_, ?_, hown, grown_trans (grown_trans h5 (World.grownBy_alloc w1 o row) (Or.inl rfl)) hg (Or.inr fun g hg' => (h4.lt g hg').1), h6⟩
  · by_cases hj' : j < Gs.length
    · rw [List.getElem?_append_left hj'] at hj
      exact m1 _ _ (h2 j u hj)
    · have hjl := (List.getElem?_eq_some_iff.1 hj).1
      have e : j = i + 1 := by simp at hjl; omega
      subst e
      rw [← h1, List.getElem?_concat_length] at hj
      simp at hj
      subst hj
      exact m1 _ _ h7
  · rw [← h1, List.getElem?_concat_length]

/-- The lists that fill hands back: four, each as many marks. -/
def Filled (w : World) (mark : ByteArray) (n : Nat) (v : Value) : Prop := ∃ base Gs, Gs.length = 4 ∧ w.ownsRow base 24 1 v 4 Gs ∧ ∀ j u, Gs[j]? = some u → Marked w mark u (n + j)
theorem Filled.below {w w' : World} {mark : ByteArray} {n : Nat} {v : Value} (h : Filled w mark n v) (hb : Below w.heap.size w w') : Filled w' mark n v := by
  obtain ⟨base, Gs, h1, h2, h3⟩ := h
  exact ⟨base, Gs, h1, ownsRow_below h2 hb, fun j u hj => (h3 j u hj).below hb⟩

theorem fill_start {w wr : World} {mark : ByteArray} {v : Value} {n base : Nat} (hown : wr.ownsRow base 9 1 v n (marks mark n)) (hg : w.grownBy wr v.ownBlock) :
    FillInv w (wr.alloc (.cells #[v] 24)) mark n v.ownBlock (.slice (some ⟨wr.heap.size, 0, none⟩) 1 1) v 0 [v] := by
  refine ⟨rfl, fun j u hj => ?_, rfl, World.ownsRow_lit wr #[v] 1 hg.size (by decide) rfl, grown_trans hg (World.grownBy_alloc wr _ v.ownBlock) (Or.inl rfl), Or.inl rfl⟩
  match j, hj with
  | 0, hj =>
    simp at hj
    subst hj
    exact ownsRow_base (hown.alloc _) (Nat.zero_le _)

theorem one_new (w : World) (v : Value) (t : TypeId) : ∀ j u, [v][j]? = some u → (w.alloc (.cells #[v] t)).cell? ((⟨w.heap.size, 0, none⟩ : Addr).add j) = some u := by
  intro j u hj
  match j, hj with
  | 0, hj => simp at hj; subst hj; simp [Addr.add]

/-- A marked list either has room for one more or is full. -/
theorem marked_shape {wr : World} {mark : ByteArray} {v : Value} {m : Nat} (h : Marked wr mark v m) :
    (∃ ao c, v = .slice ao m c ∧ c < m + 1 ∧ (ao = none → m = 0 ∧ c = 0) ∧ ∀ b, ao = some b → ∀ j u, (marks mark m)[j]? = some u → ∀ o, (wr.alloc o).cell? (b.add j) = some u) ∨
    ∃ g c, v = .slice (some ⟨g, 0, none⟩) m c ∧ m + 1 ≤ c := by
  have hk := h
  rcases h.2 with ⟨rfl, h0⟩ | ⟨g, c, cur, rfl, _, hh, hle, _, _, _⟩
  · left; subst h0; exact ⟨none, 0, rfl, by omega, fun _ => ⟨rfl, rfl⟩, fun b hb => by simp at hb⟩
  · by_cases hr : m + 1 ≤ c
    · right; exact ⟨g, c, rfl, hr⟩
    · left
      refine ⟨_, c, rfl, by omega, fun h => by simp at h, fun b hb j u hj o => ?_⟩
      simp only [Option.some.injEq] at hb
      subst hb
      have hj' : j < m := by have := (List.getElem?_eq_some_iff.1 hj).1; simpa [marks] using this
      have ea : Addr.add ⟨g, 0, none⟩ j = ⟨g, j, none⟩ := by cases j <;> simp [Addr.add]
      rw [ea, World.ownsRow.cellAt (World.ownsRow.alloc hk o) j (by omega)]
      exact hj

theorem own_shape {w : World} {base : Nat} {e : TypeId} {v : Value} {n : Nat} {xs : List Value} (h : w.ownsRow base e 1 v (n + 1) xs) : ∃ g c, v = .slice (some ⟨g, 0, none⟩) (n + 1) c := by
  rcases h.2 with ⟨_, h0⟩ | ⟨g, c, cur, h', _⟩
  · omega
  · exact ⟨g, c, h'⟩

set_option maxHeartbeats 3200000 in
/-- signetlaw.fill. -/
theorem fill_any (ao : Option Addr) (n cap base : Nat) (xs : List Value) (mark : ByteArray) (w : World) (hmax : n ≤ 8796093022200) (hown : w.ownsRow base 9 1 (.slice ao n cap) n xs) :
    Calls Try.prog 21 #[.slice ao n cap, .string mark] w fun e w' => ∃ v, e = .returned v ∧ Filled w' mark n v ∧ w.grownBy w' (Value.slice ao n cap).ownBlock := by
  obtain ⟨i0, hi, hz0, hz1, hz2⟩ := info_parts Try.infoStr
  obtain ⟨j0, ji, jz0, jz1, jz2⟩ := info_parts Try.infoStrs
  have HX : Hid (xs.length = n) := by have := hown.1; show _ = _; omega
  go_enter Try.func21, Try.ntmps21
  go_wp2_with fail
  go_loopw [5] (fun c wr => ∃ k : Nat, k ≤ n ∧ c = .int .i64 (k : Int) ∧ wr.ownsRow base 9 1 (.slice ao n cap) n (marks mark k ++ xs.drop k) ∧ w.grownBy wr (Value.slice ao n cap).ownBlock) (fun c _ => n - (intOf c).toNat)
  case atStart => exact ⟨0, by omega, rfl, by simpa [marks] using hown, World.grownBy.refl _ _⟩
  case round =>
    obtain ⟨k, hk, rfl, hownr, hgr⟩ := hrel
    clear hown
    by_cases hlt : k < n
    · obtain ⟨g, hao⟩ : ∃ g, ao = some ⟨g, 0, none⟩ := by
        rcases hownr.2 with ⟨h', h0⟩ | ⟨g, c, cur, h', _⟩
        · omega
        · simp only [Value.slice.injEq] at h'; exact ⟨g, h'.1⟩
      subst hao
      have hc : ∃ u, wr.cell? ⟨g, k, none⟩ = some u := by
        rw [hownr.cellAt k (by omega)]
        exact ⟨_, List.getElem?_eq_getElem (by simp [marks]; have := HX.out; omega)⟩
      obtain ⟨u, hu⟩ := hc
      have hf := hownr.frozenAt k
      have hst := hownr.stored k (.string mark)
      rw [fill_marks xs mark k n HX.out hlt] at hst
      have HS : Hid ((wr.setCell ⟨g, k, none⟩ (.string mark)).ownsRow base 9 1 (.slice (some ⟨g, 0, none⟩) n cap) n (marks mark (k + 1) ++ xs.drop (k + 1)) ∧ wr.grownBy (wr.setCell ⟨g, k, none⟩ (.string mark)) (some g)) := hst
      have HG : Hid (w.grownBy wr (Value.slice (some ⟨g, 0, none⟩) n cap).ownBlock) := hgr
      clear hst hownr hgr
      go_wp2_with fail
      go_roundw
      case rel => exact ⟨k + 1, by omega, by go_num, HS.out.1, grown_trans HG.out HS.out.2 (Or.inl rfl)⟩
      case measure => simp [intOf]; omega
    · have hkn : k = n := by omega
      subst hkn
      rw [List.drop_eq_nil_of_le (by rw [HX.out]; exact Nat.le_refl _), List.append_nil] at hownr
      have hstart := fill_start hownr hgr
      have HST : Hid (FillInv w (wr.alloc (.cells #[.slice ao k cap] 24)) mark k (Value.slice ao k cap).ownBlock (.slice (some ⟨wr.heap.size, 0, none⟩) 1 1) (.slice ao k cap) 0 [.slice ao k cap]) := hstart
      clear hstart hownr hgr hk HX
      go_wp2_with fail
      go_loopw [6, 7, 8] (fun outv gv c w' => ∃ (i : Nat) (Gs : List Value), i ≤ 3 ∧ c = .int .i64 (i : Int) ∧ FillInv w w' mark k (Value.slice ao k cap).ownBlock outv gv i Gs) (fun _ _ c _ => 3 - (intOf c).toNat)
      case atStart => exact ⟨0, _, by omega, rfl, HST.out⟩
      case round =>
        obtain ⟨i, Gs, hi3, rfl, hinv⟩ := hrel
        clear HST
        by_cases hlt3 : i < 3
        · rcases marked_shape hinv.last with ⟨ao', c, rfl, hfull, hnone, holds⟩ | ⟨g, c, rfl, hroom⟩
          · have HH : Hid (∀ b, ao' = some b → ∀ j u, (marks mark (k + i))[j]? = some u → ∀ o, (wr.alloc o).cell? (b.add j) = some u) := holds
            have HNo : Hid (ao' = none → k + i = 0 ∧ c = 0) := hnone
            clear holds hnone
            go_wp2_with (at_builtin; refine wpList_append_grows _ rfl _ _ 24 rfl 9 i0 (.string ByteArray.empty) 1 16 Try.underlying24 hi hz0 hz1 hz2 rfl (by decide) ao' (k + i) c (marks mark (k + i)) rfl HNo.out ?d1 ?d2 ⟨wr.heap.size, 0, none⟩ 1 1 [.string mark] rfl rfl ?d3 ?d4 hfull ?d5 ?d6 ?_)
            case d1 => simp [marks]
            case d2 => exact fun b hb j u hj => HH.out b hb j u hj _
            case d3 => exact one_new _ _ _
            case d4 => intro u hu; simp at hu; subst hu; rfl
            case d5 => unfold maxLen; omega
            case d6 => omega
            intro v' w1 hown1 hgrow1
            have mid := fill_grow hinv hown1 (by simp) hgrow1
            obtain ⟨g', c', hv⟩ := own_shape hown1
            clear hown1 hgrow1 HH HNo hinv
            rw [hv] at mid
            rw [hv]
            clear hv
            have hbase : w.heap.size ≤ w1.heap.size := mid.2.2.2.1.size
            have hout := mid.2.2.1
            go_wp2_with (at_builtin; refine wpList_append_own _ rfl _ _ 32 rfl w.heap.size 24 j0 (.slice none 0 0) 1 24 Try.underlying32 ji jz0 jz1 jz2 rfl (by decide) _ _ _ rfl (hout.alloc _) ⟨w1.heap.size, 0, none⟩ 1 1 [.slice (some ⟨g', 0, none⟩) (k + i + 1) c'] rfl rfl ?e1 ?e2 ?e3 ?e4 ?e5 ?_)
            case e1 => exact one_new _ _ _
            case e2 => intro u hu; simp at hu; subst hu; rfl
            case e3 => unfold maxLen; omega
            case e4 => omega
            case e5 => simp; omega
            intro v2 w2 hown2 hgrow2 _
            have R := fill_out mid hown2 hgrow2
            clear mid hout hown2 hgrow2
            go_wp2_with fail
            go_roundw
            case rel => exact ⟨i + 1, _, by omega, by go_num, R⟩
            case measure => simp [intOf]; omega
          · have hl := hinv.last
            go_wp2_with (at_builtin; refine wpList_append_fits _ rfl _ _ 24 rfl 0 9 i0 1 Try.underlying24 hi hz1 g (k + i) c (marks mark (k + i)) rfl (World.ownsRow.alloc hl _) ⟨wr.heap.size, 0, none⟩ 1 1 [.string mark] rfl rfl ?d1 ?d2 hroom ?_)
            case d1 => exact one_new _ _ _
            case d2 => intro u hu; simp at hu; subst hu; rfl
            intro w1 hown1 hgrow1
            have mid := fill_room hinv hown1 hgrow1
            clear hown1 hgrow1 hinv hl
            have hbase : w.heap.size ≤ w1.heap.size := mid.2.2.2.1.size
            have hout := mid.2.2.1
            go_wp2_with (at_builtin; refine wpList_append_own _ rfl _ _ 32 rfl w.heap.size 24 j0 (.slice none 0 0) 1 24 Try.underlying32 ji jz0 jz1 jz2 rfl (by decide) _ _ _ rfl (hout.alloc _) ⟨w1.heap.size, 0, none⟩ 1 1 [.slice (some ⟨g, 0, none⟩) (k + i + 1) c] rfl rfl ?e1 ?e2 ?e3 ?e4 ?e5 ?_)
            case e1 => exact one_new _ _ _
            case e2 => intro u hu; simp at hu; subst hu; rfl
            case e3 => unfold maxLen; omega
            case e4 => omega
            case e5 => simp; omega
            intro v2 w2 hown2 hgrow2 _
            have R := fill_out mid hown2 hgrow2
            clear mid hout hown2 hgrow2
            go_wp2_with fail
            go_roundw
            case rel => exact ⟨i + 1, _, by omega, by go_num, R⟩
            case measure => simp [intOf]; omega
        · have hi3' : i = 3 := by omega
          subst hi3'
          have HF : Hid (Filled wr mark k u6 ∧ w.grownBy wr (Value.slice ao k cap).ownBlock) := ⟨⟨w.heap.size, Gs, hinv.1, hinv.2.2.2.1, hinv.2.1⟩, hinv.2.2.2.2.1⟩
          clear hinv
          go_wp2_with fail
          go_ret
          exact ⟨_, rfl, HF.out.1, HF.out.2⟩
end Go.Proofs.Ytpkkhkkkgjhkeaa

/-
  THE WALK of signetlaw.filled.
-/
namespace Go.Proofs.Ytpkkhkkkgjhkeaa
open Go.RowKit
set_option maxRecDepth 100000

/-- A marked list, as it is read. -/
theorem marked_read {w : World} {mark : ByteArray} {v : Value} {m : Nat} (h : Marked w mark v m) : ∃ ao c, v = .slice ao m c ∧ m ≤ maxLen ∧ ∀ k, k < m → ∃ g, ao = some ⟨g, 0, none⟩ ∧ w.cell? ⟨g, k, none⟩ = some (.string mark) := by
  have hk := h
  rcases h.2 with ⟨rfl, h0⟩ | ⟨g, c, cur, rfl, _, hh, hle, hm, _, _⟩
  · subst h0; exact ⟨none, 0, rfl, by decide, fun k hk => by omega⟩
  · refine ⟨_, c, rfl, by omega, fun k hk' => ⟨g, rfl, ?_⟩⟩
    rw [World.ownsRow.cellAt hk k (by omega)]
    simp [marks, hk']

set_option maxHeartbeats 1600000 in
/-- signetlaw.filled. -/
theorem filled_any (v : Value) (n : Nat) (mark : ByteArray) (w : World) (h : Filled w mark n v) :
    Calls Try.prog 24 #[v, .string mark] w fun e w' => e = .returned (.bool true) ∧ w' = w := by
  obtain ⟨base, Gs, h4, hown, hall⟩ := h
  obtain ⟨g, c, rfl⟩ := own_shape hown
  have hcell : ∀ i, i < 4 → ∃ u, w.cell? ⟨g, i, none⟩ = some u ∧ Marked w mark u (n + i) := fun i hi => by
    have e : Gs[i]? = some Gs[i] := List.getElem?_eq_getElem (by omega)
    exact ⟨Gs[i], by rw [hown.cellAt i (by omega)]; exact e, hall i _ e⟩
  have HC : Hid (∀ i, i < 4 → ∃ u, w.cell? ⟨g, i, none⟩ = some u ∧ Marked w mark u (n + i)) := hcell
  clear hcell hown hall h4
  go_enter Try.func24, Try.ntmps24
  go_wp2_with fail
  go_loop [5, 6] (fun x _ => ∃ i : Nat, i ≤ 4 ∧ x = .int .i64 (i : Int)) (fun x _ => 4 - (intOf x).toNat)
  case atStart => exact ⟨0, by omega, rfl⟩
  case round =>
    obtain ⟨i, hi, rfl⟩ := hrel
    by_cases hlt : i < 4
    · obtain ⟨u, hu, hm⟩ := HC.out i hlt
      obtain ⟨ao, c', rfl, hmax, hread⟩ := marked_read hm
      have HR : Hid (∀ k, k < n + i → ∃ g, ao = some ⟨g, 0, none⟩ ∧ w.cell? ⟨g, k, none⟩ = some (.string mark)) := hread
      clear hm hread
      have i1 : (i : Int) < 4 := by omega
      have i2 : (0 : Int) ≤ (i : Int) := by omega
      unfold maxLen at hmax
      go_wp2_with fail
      go_loop [6] (fun y => ∃ k : Nat, k ≤ n + i ∧ y = .int .i64 (k : Int)) (fun y => n + i - (intOf y).toNat)
      case atStart => exact ⟨0, by omega, rfl⟩
      case round =>
        obtain ⟨k, hk, rfl⟩ := hrel
        by_cases hkl : k < n + i
        · obtain ⟨g', rfl, hc⟩ := HR.out k hkl
          have hkl' : (k : Int) < (n : Int) + (i : Int) := by omega
          go_wp2_with fail
          go_round
          case rel => exact ⟨k + 1, by omega, by go_num⟩
          case measure => simp [intOf]; omega
        · have hkl' : ¬ (k : Int) < (n : Int) + (i : Int) := by omega
          go_wp2_with fail
          go_round
          case rel => exact ⟨i + 1, by omega, by go_num⟩
          case measure => simp [intOf]; omega
    · have i1 : ¬ (i : Int) < 4 := by omega
      go_wp2_with fail
      go_ret
      exact ⟨rfl, rfl⟩
end Go.Proofs.Ytpkkhkkkgjhkeaa

/-
  THE WALKS of signetref.climb, signetref.Climb (P4).
-/
namespace Go.Proofs.Ytpkkhkkkgjhkeaa
open Go.RowKit
set_option maxRecDepth 100000

/-- Has a path as many texts as it should? -/
def okLen (l i n : Nat) : Bool := decide (l = Sg.depth i n)
theorem ret_pair {r : ByteArray} {a b : Bool} (h : a = b) : Ending.returned (.tuple #[.string r, .bool a]) = .returned (.tuple #[.string r, .bool b]) := by rw [h]

/-- signetref.climb in a tree of up to m leaves. -/
def RefClimbUpto (leaf : ByteArray) (m : Nat) : Prop := ∀ (ss : List ByteArray) (ao : Option Addr) (l i n cap : Nat) (w : World), ss.length = l → n ≤ m → i < n → n ≤ 4096 → l ≤ cap → cap ≤ 1152921504606846976 → (∀ s ∈ ss, s.size = 2) → StrsIn w ao ss →
    Calls Try.prog 54 #[.string leaf, .int .i64 (i : Int), .int .i64 (n : Int), .slice ao l cap] w fun e w' => ∃ r : ByteArray, e = .returned (.tuple #[.string r, .bool (okLen l i n)]) ∧ r.size ≤ 2 ∧ (okLen l i n = true → r = Sg.climb leaf i n ss) ∧ Below w.heap.size w w'

set_option maxHeartbeats 400000 in
theorem refClimb_one (leaf : ByteArray) (ss : List ByteArray) (ao : Option Addr) (l i cap : Nat) (w : World) (hs : leaf.size ≤ 140737488355328) :
    Calls Try.prog 54 #[.string leaf, .int .i64 (i : Int), .int .i64 1, .slice ao l cap] w fun e w' => ∃ r : ByteArray, e = .returned (.tuple #[.string r, .bool (okLen l i 1)]) ∧ r.size ≤ 2 ∧ (okLen l i 1 = true → r = Sg.climb leaf i 1 ss) ∧ Below w.heap.size w w' := by
  have HR : Hid (Sg.climb leaf i 1 ss = Sg.leafB leaf) := Sg.climb_one leaf (Nat.le_refl _) ss
  have HO : Hid (okLen l i 1 = decide (l = 0)) := by show _ = _; unfold okLen; rw [Sg.depth_one (Nat.le_refl _)]
  by_cases h0 : l = 0
  · subst h0
    go_enter Try.func54, Try.ntmps54
    go_wp2_with fail
    refine (refSum_any (Sg.leafT leaf) _ (by rw [leafT_size]; unfold maxLen; omega)).mono ?_
    rintro e w1 ⟨rfl, hb1⟩
    go_wp2_with fail
    go_ret2
    exact ⟨_, ret_pair (by rw [HO.out]; simp), Nat.le_refl _, fun _ => by rw [HR.out]; rfl, hb1⟩
  · have h0' : ((l : Int) == 0) = false := by simp; omega
    go_enter Try.func54, Try.ntmps54
    go_wp2_with fail
    refine (refSum_any (Sg.leafT leaf) _ (by rw [leafT_size]; unfold maxLen; omega)).mono ?_
    rintro e w1 ⟨rfl, hb1⟩
    go_wp2_with fail
    go_ret2
    exact ⟨_, ret_pair (by rw [HO.out]; simp [h0]), Nat.le_refl _, fun _ => by rw [HR.out]; rfl, hb1⟩

set_option maxHeartbeats 400000 in
theorem refClimb_none (leaf : ByteArray) (ss : List ByteArray) (ao : Option Addr) (i n cap : Nat) (w : World) (hn : 2 ≤ n) :
    Calls Try.prog 54 #[.string leaf, .int .i64 (i : Int), .int .i64 (n : Int), .slice ao 0 cap] w fun e w' => ∃ r : ByteArray, e = .returned (.tuple #[.string r, .bool (okLen 0 i n)]) ∧ r.size ≤ 2 ∧ (okLen 0 i n = true → r = Sg.climb leaf i n ss) ∧ Below w.heap.size w w' := by
  have HO : okLen 0 i n = false := by
    unfold okLen; rw [Sg.depth_unfold hn]; split <;> simp
  rw [HO]
  have h1 : ((n : Int) == 1) = false := by simp; omega
  clear HO
  go_enter Try.func54, Try.ntmps54
  go_wp2_with fail
  go_ret2
  exact ⟨_, rfl, by decide, fun h => by simp at h, Below.refl _ _⟩

theorem rc_last {w : World} {b off q : Nat} {qs : List ByteArray} {x : ByteArray} (hq : qs.length = q) (h : StrsAt w b off (qs ++ [x])) : w.cell? ⟨b, off + q, none⟩ = some (.string x) := by
  have := h q (by simp; omega)
  rw [this]
  subst hq
  simp [List.getD]

set_option maxHeartbeats 800000 in
theorem refClimb_left {leaf : ByteArray} {m : Nat} (ih : RefClimbUpto leaf m) (qs : List ByteArray) (x : ByteArray) (q i n b off cap : Nat) (w : World) (hq : qs.length = q) (hnm : n ≤ m + 1) (hn2 : 2 ≤ n) (hik : i < Sg.halfN n) (hn : n ≤ 4096) (hqc : q + 1 ≤ cap) (hcap : cap ≤ 1152921504606846976)
    (hx : x.size = 2) (h2 : ∀ s ∈ qs, s.size = 2) (hbw : b < w.heap.size) (hat : StrsAt w b off (qs ++ [x])) :
    Calls Try.prog 54 #[.string leaf, .int .i64 (i : Int), .int .i64 (n : Int), .slice (some ⟨b, off, none⟩) (q + 1) cap] w fun e w' => ∃ r : ByteArray, e = .returned (.tuple #[.string r, .bool (okLen (q + 1) i n)]) ∧ r.size ≤ 2 ∧ (okLen (q + 1) i n = true → r = Sg.climb leaf i n (qs ++ [x])) ∧ Below w.heap.size w w' := by
  have HR : Hid (Sg.climb leaf i n (qs ++ [x]) = Sg.nodeB (Sg.climb leaf i (Sg.halfN n) qs) x) := Sg.climb_left leaf hn2 hik qs x
  have hlt := Sg.halfN_lt hn2
  have hpos := Sg.halfN_pos n
  have HO : okLen (q + 1) i n = okLen q i (Sg.halfN n) := by unfold okLen; rw [Sg.depth_left hn2 hik]; simp
  rw [HO]
  clear HO
  obtain ⟨k, hk⟩ : ∃ k, k = Sg.halfN n := ⟨_, rfl⟩
  rw [← hk] at HR hlt hpos hik ⊢
  have HK : Hid (k = Sg.halfN n) := hk
  clear hk
  have hc := rc_last hq hat
  have hin : StrsIn w (some ⟨b, off, none⟩) qs := Or.inr ⟨b, off, rfl, hbw, by have := hat.take qs.length; simpa using this⟩
  have HQ : Hid (qs.length = q) := hq
  clear hq hat
  have h1 : ((n : Int) == 1) = false := by simp; omega
  have h0 : ((q : Int) + 1 == 0) = false := by simp; omega
  have i1 : (i : Int) < (k : Int) := by omega
  have hx' : x.size ≤ 2 := by omega
  clear hx
  go_enter Try.func54, Try.ntmps54
  go_wp2_with fail
  refine (half_any (n : Int) _ (by omega) (by omega)).mono ?_
  rintro e w1 ⟨rfl, rfl⟩
  rw [Int.toNat_natCast, ← HK.out]
  go_wp2_with fail
  refine (ih qs _ q i k cap _ HQ.out (by omega) hik (by omega) (by omega) hcap h2 hin).mono ?_
  rintro e w2 ⟨r, rfl, hr, hrr, hb2⟩
  have HRR : Hid (okLen q i k = true → r = Sg.climb leaf i k qs) := hrr
  clear hrr hin h2
  go_wp2_with fail
  refine (refSum_any (Sg.nodeT r x) _ (by rw [nodeT_size]; unfold maxLen; omega)).mono ?_
  rintro e w3 ⟨rfl, hb3⟩
  go_wp2_with fail
  go_ret2
  exact ⟨_, rfl, Nat.le_refl _, fun h => by rw [HR.out, ← HRR.out h]; rfl, hb2.trans (hb3.mono hb2.size)⟩

set_option maxHeartbeats 800000 in
theorem refClimb_right {leaf : ByteArray} {m : Nat} (ih : RefClimbUpto leaf m) (qs : List ByteArray) (x : ByteArray) (q i n b off cap : Nat) (w : World) (hq : qs.length = q) (hnm : n ≤ m + 1) (hn2 : 2 ≤ n) (hik : ¬ i < Sg.halfN n) (hin' : i < n) (hn : n ≤ 4096) (hqc : q + 1 ≤ cap) (hcap : cap ≤ 1152921504606846976)
    (hx : x.size = 2) (h2 : ∀ s ∈ qs, s.size = 2) (hbw : b < w.heap.size) (hat : StrsAt w b off (qs ++ [x])) :
    Calls Try.prog 54 #[.string leaf, .int .i64 (i : Int), .int .i64 (n : Int), .slice (some ⟨b, off, none⟩) (q + 1) cap] w fun e w' => ∃ r : ByteArray, e = .returned (.tuple #[.string r, .bool (okLen (q + 1) i n)]) ∧ r.size ≤ 2 ∧ (okLen (q + 1) i n = true → r = Sg.climb leaf i n (qs ++ [x])) ∧ Below w.heap.size w w' := by
  have HR : Hid (Sg.climb leaf i n (qs ++ [x]) = Sg.nodeB x (Sg.climb leaf (i - Sg.halfN n) (n - Sg.halfN n) qs)) := Sg.climb_right leaf hn2 hik qs x
  have hlt := Sg.halfN_lt hn2
  have hpos := Sg.halfN_pos n
  have HO : okLen (q + 1) i n = okLen q (i - Sg.halfN n) (n - Sg.halfN n) := by unfold okLen; rw [Sg.depth_right hn2 hik]; simp
  rw [HO]
  clear HO
  obtain ⟨k, hk⟩ : ∃ k, k = Sg.halfN n := ⟨_, rfl⟩
  rw [← hk] at HR hlt hpos hik ⊢
  have HK : Hid (k = Sg.halfN n) := hk
  clear hk
  have hc := rc_last hq hat
  have hin : StrsIn w (some ⟨b, off, none⟩) qs := Or.inr ⟨b, off, rfl, hbw, by have := hat.take qs.length; simpa using this⟩
  have HQ : Hid (qs.length = q) := hq
  clear hq hat
  have h1 : ((n : Int) == 1) = false := by simp; omega
  have h0 : ((q : Int) + 1 == 0) = false := by simp; omega
  have i1 : ¬ (i : Int) < (k : Int) := by omega
  have HE : Hid (((i : Int) - (k : Int)) = ((i - k : Nat) : Int)) := by show _ = _; omega
  have HE2 : Hid (((n : Int) - (k : Int)) = ((n - k : Nat) : Int)) := by show _ = _; omega
  have hx' : x.size ≤ 2 := by omega
  clear hx
  go_enter Try.func54, Try.ntmps54
  go_wp2_with fail
  refine (half_any (n : Int) _ (by omega) (by omega)).mono ?_
  rintro e w1 ⟨rfl, rfl⟩
  rw [Int.toNat_natCast, ← HK.out]
  go_wp2_with fail
  rw [HE.out, HE2.out]
  refine (ih qs _ q (i - k) (n - k) cap _ HQ.out (by omega) (by omega) (by omega) (by omega) hcap h2 hin).mono ?_
  rintro e w2 ⟨r, rfl, hr, hrr, hb2⟩
  have HRR : Hid (okLen q (i - k) (n - k) = true → r = Sg.climb leaf (i - k) (n - k) qs) := hrr
  clear hrr hin h2
  go_wp2_with fail
  refine (refSum_any (Sg.nodeT x r) _ (by rw [nodeT_size]; unfold maxLen; omega)).mono ?_
  rintro e w3 ⟨rfl, hb3⟩
  go_wp2_with fail
  go_ret2
  exact ⟨_, rfl, Nat.le_refl _, fun h => by rw [HR.out, ← HRR.out h]; rfl, hb2.trans (hb3.mono hb2.size)⟩

theorem refClimb_upto {leaf : ByteArray} (hs : leaf.size ≤ 140737488355328) : ∀ m, RefClimbUpto leaf m := by
  intro m
  induction m with
  | zero => intro ss ao l i n cap w _ hm h1; omega
  | succ m ih =>
    intro ss ao l i n cap w hl hnm hin hn hlc hcap h2 hss
    by_cases h1 : n = 1
    · subst h1
      exact refClimb_one leaf ss ao l i cap w hs
    by_cases h0 : l = 0
    · subst h0
      exact refClimb_none leaf ss ao i n cap w (by omega)
    obtain ⟨b, off, rfl, hbw, hat⟩ : ∃ b off, ao = some ⟨b, off, none⟩ ∧ b < w.heap.size ∧ StrsAt w b off ss := by
      rcases hss with h | h
      · omega
      · exact h
    obtain ⟨ps, x, rfl⟩ : ∃ ps x, ss = ps ++ [x] := by
      have hne : ss ≠ [] := by intro h; subst h; simp at hl; omega
      exact ⟨ss.dropLast, ss.getLast hne, (List.dropLast_concat_getLast hne).symm⟩
    obtain ⟨p, rfl⟩ : ∃ p, l = p + 1 := ⟨l - 1, by omega⟩
    by_cases hik : i < Sg.halfN n
    · exact refClimb_left ih ps x p i n b off cap w (by simpa using hl) hnm (by omega) hik hn hlc hcap (h2 x (by simp)) (fun s hs' => h2 s (by simp [hs'])) hbw hat
    · exact refClimb_right ih ps x p i n b off cap w (by simpa using hl) hnm (by omega) hik hin hn hlc hcap (h2 x (by simp)) (fun s hs' => h2 s (by simp [hs'])) hbw hat

set_option maxHeartbeats 800000 in
/-- signetref.Climb where the numbers are no leaf's. -/
theorem refClimb_no (leaf : ByteArray) (i n : Int) (ao : Option Addr) (l cap : Nat) (w : World) (h : n < 1 ∨ 4096 < n ∨ i < 0 ∨ n ≤ i) :
    Calls Try.prog 23 #[.string leaf, .int .i64 i, .int .i64 n, .slice ao l cap] w fun e w' => e = .returned (.tuple #[.string ByteArray.empty, .int .i64 1]) ∧ w' = w := by
  by_cases g1 : n < 1
  · clear h
    go_enter Try.func23, Try.ntmps23
    go_wp2_with fail
    go_ret2
    exact ⟨rfl, rfl⟩
  by_cases g2 : 4096 < n
  · clear h
    go_enter Try.func23, Try.ntmps23
    go_wp2_with fail
    go_ret2
    exact ⟨rfl, rfl⟩
  by_cases g3 : i < 0
  · clear h
    go_enter Try.func23, Try.ntmps23
    go_wp2_with fail
    go_ret2
    exact ⟨rfl, rfl⟩
  have g4 : n ≤ i := by omega
  clear h
  go_enter Try.func23, Try.ntmps23
  go_wp2_with fail
  go_ret2
  exact ⟨rfl, rfl⟩

theorem twos_mem' {ss : List ByteArray} (h : twos ss = true) : ∀ s ∈ ss, s.size = 2 := by
  intro s hs
  have := List.all_eq_true.1 h s hs
  simpa using this

/-- What signetref.Climb answers where the numbers are a leaf's. -/
def climbAns (leaf : ByteArray) (i n : Nat) (ss : List ByteArray) : Value := if okPath i n ss then .tuple #[.string (Sg.climb leaf i n ss), .int .i64 0] else .tuple #[.string ByteArray.empty, .int .i64 1]
theorem climbAns_yes {leaf : ByteArray} {i n : Nat} {ss : List ByteArray} (h : okPath i n ss = true) : climbAns leaf i n ss = .tuple #[.string (Sg.climb leaf i n ss), .int .i64 0] := by unfold climbAns; rw [if_pos h]
theorem climbAns_no {leaf : ByteArray} {i n : Nat} {ss : List ByteArray} (h : okPath i n ss = false) : climbAns leaf i n ss = .tuple #[.string ByteArray.empty, .int .i64 1] := by unfold climbAns; rw [h]; rfl

set_option maxHeartbeats 1600000 in
/-- signetref.Climb where they are. -/
theorem refClimb_yes (leaf : ByteArray) (i n : Nat) (ss : List ByteArray) (ao : Option Addr) (l cap : Nat) (w : World) (hs : leaf.size ≤ 140737488355328) (hl : ss.length = l) (hin : i < n) (hn : n ≤ 4096) (hlc : l ≤ cap) (hcap : cap ≤ 1152921504606846976) (hss : StrsIn w ao ss) (hszs : ∀ s ∈ ss, s.size ≤ 140737488355328) :
    Calls Try.prog 23 #[.string leaf, .int .i64 (i : Int), .int .i64 (n : Int), .slice ao l cap] w fun e w' => e = .returned (climbAns leaf i n ss) ∧ Below w.heap.size w w' := by
  have HN : Hid (ss.length = l) := hl
  clear hl
  have g1 : ¬ (n : Int) < 1 := by omega
  have g2 : ¬ (4096 : Int) < (n : Int) := by omega
  have g3 : ¬ (i : Int) < 0 := by omega
  have g4 : ¬ (n : Int) ≤ (i : Int) := by omega
  go_enter Try.func23, Try.ntmps23
  go_wp2_with fail
  go_loop [10] (fun c => ∃ j : Nat, j ≤ l ∧ c = .int .i64 (j : Int) ∧ Hid (twos (ss.take j) = true)) (fun c => l - (intOf c).toNat)
  case atStart => exact ⟨0, by omega, rfl, by show _ = _; simp [twos]⟩
  case round =>
    obtain ⟨j, hj, rfl, HT⟩ := hrel
    by_cases hlt : j < l
    · obtain ⟨b, off, rfl, hbw, hat⟩ : ∃ b off, ao = some ⟨b, off, none⟩ ∧ b < w.heap.size ∧ StrsAt w b off ss := by
        rcases hss with h0 | h
        · have := HN.out; omega
        · exact h
      have hc := hat j (by rw [HN.out]; exact hlt)
      have hz : (ss.getD j ByteArray.empty).size ≤ 140737488355328 := hszs _ (by
        rw [List.getD_eq_getElem?_getD, List.getElem?_eq_getElem (by rw [HN.out]; exact hlt)]; simp)
      have H1 : Hid (twos (ss.take (j + 1)) = (twos (ss.take j) && (ss.getD j ByteArray.empty).size == 2)) := twos_snoc (by rw [HN.out]; exact hlt)
      have H2 : ((ss.getD j ByteArray.empty).size == 2) = false → Hid (twos ss = false) := fun h => twos_stop (by rw [HN.out]; exact hlt) h
      generalize ss.getD j ByteArray.empty = x at *
      clear hss hat hszs
      by_cases h2 : x.size = 2
      · have h2' : ((x.size : Int) != 2) = false := by simp [h2]
        have H3 : Hid (twos (ss.take (j + 1)) = true) := by show _ = _; rw [H1.out, HT.out]; simp [h2]
        clear H1 H2 h2
        go_wp2_with fail
        go_round
        case rel => exact ⟨j + 1, by omega, by go_num, H3⟩
        case measure => simp [intOf]; omega
      · have h2' : ((x.size : Int) != 2) = true := by simp; omega
        have H3 := H2 (by simpa using h2)
        clear H1 H2 h2
        go_wp2_with fail
        go_ret2
        exact ⟨by rw [climbAns_no (by unfold okPath; rw [H3.out]; simp)]; rfl, Below.refl _ _⟩
    · have HW : Hid (twos ss = true) := by
        have h := HT.out
        rw [List.take_of_length_le (by rw [HN.out]; omega)] at h
        exact h
      clear HT
      cases hok : okLen l i n with
      | false =>
        have HO : Hid (okLen l i n = false) := hok
        clear hok
        go_wp2_with fail
        refine (refClimb_upto hs n ss ao l i n cap _ HN.out (Nat.le_refl _) hin hn hlc hcap (twos_mem' HW.out) hss).mono ?_
        rintro e w2 ⟨r, rfl, hr, hrr, hb2⟩
        clear hrr
        rw [HO.out]
        go_wp2_with fail
        go_ret2
        refine ⟨?_, hb2⟩
        have hno : okPath i n ss = false := by
          have h := HO.out
          unfold okLen at h
          unfold okPath
          rw [HN.out, h]; rfl
        rw [climbAns_no hno]; rfl
      | true =>
        have HO : Hid (okLen l i n = true) := hok
        clear hok
        go_wp2_with fail
        refine (refClimb_upto hs n ss ao l i n cap _ HN.out (Nat.le_refl _) hin hn hlc hcap (twos_mem' HW.out) hss).mono ?_
        rintro e w2 ⟨r, rfl, hr, hrr, hb2⟩
        have HRR : Hid (r = Sg.climb leaf i n ss) := hrr HO.out
        clear hrr
        rw [HO.out]
        go_wp2_with fail
        go_ret2
        refine ⟨?_, hb2⟩
        have hyes : okPath i n ss = true := by
          have h := HO.out
          unfold okLen at h
          unfold okPath
          rw [HN.out, h, HW.out]; rfl
        rw [climbAns_yes hyes, HRR.out]; rfl
end Go.Proofs.Ytpkkhkkkgjhkeaa

/-
  Root, Path, Climb of anything, both of each (P4): one contract a call.
-/
namespace Go.Proofs.Ytpkkhkkkgjhkeaa
open Go.RowKit
set_option maxRecDepth 100000

/-- A slice of texts that is handed in, with what the walks ask of its size. -/
structure Lst (w : World) (ao : Option Addr) (n cap : Nat) (ss : List ByteArray) : Prop where
  len : ss.length = n
  fits : n ≤ cap
  small : cap ≤ 8796093022100
  sizes : ∀ s ∈ ss, s.size ≤ 140737488351232
  at_ : StrsIn w ao ss
theorem Lst.below {w w' : World} {ao : Option Addr} {n cap : Nat} {ss : List ByteArray} (h : Lst w ao n cap ss) (hb : Below w.heap.size w w') : Lst w' ao n cap ss := ⟨h.len, h.fits, h.small, h.sizes, h.at_.below hb⟩
theorem Lst.sizes' {w : World} {ao : Option Addr} {n cap : Nat} {ss : List ByteArray} (h : Lst w ao n cap ss) : ∀ s ∈ ss, s.size ≤ 140737488355328 := fun s hs => by have := h.sizes s hs; omega
theorem Lst.some_ {w : World} {ao : Option Addr} {n cap : Nat} {ss : List ByteArray} (h : Lst w ao n cap ss) (hn : 1 ≤ n) : ∃ b off, ao = some ⟨b, off, none⟩ ∧ b < w.heap.size ∧ StrsAt w b off ss := by
  rcases h.at_ with h0 | h1
  · have := h.len; omega
  · exact h1

theorem sealRoot_any {w : World} {ao : Option Addr} {n cap : Nat} {ss : List ByteArray} (h : Lst w ao n cap ss) :
    Calls Try.prog 16 #[.slice ao n cap] w fun e w' => e = .returned (.string (Sg.root ss)) ∧ Below w.heap.size w w' := by
  by_cases h0 : n = 0
  · subst h0
    rw [Sg.root_none h.len]
    exact sealRoot_none ao cap w
  · obtain ⟨b, off, rfl, hbw, hat⟩ := h.some_ (by omega)
    exact sealRoot_some ss n b off cap w h.len (by omega) h.fits (by have := h.small; have := h.fits; omega) h.sizes' hbw hat
theorem refRoot_any {w : World} {ao : Option Addr} {n cap : Nat} {ss : List ByteArray} (h : Lst w ao n cap ss) :
    Calls Try.prog 17 #[.slice ao n cap] w fun e w' => e = .returned (.string (Sg.root ss)) ∧ Below w.heap.size w w' := by
  by_cases h0 : n = 0
  · subst h0
    rw [Sg.root_none h.len]
    exact refRoot_none ao cap w
  · obtain ⟨b, off, rfl, hbw, hat⟩ := h.some_ (by omega)
    exact refRoot_upto n ss n b off cap w h.len (Nat.le_refl _) (by omega) h.fits (by have := h.small; have := h.fits; omega) h.sizes' hbw hat

/-- What Path answers. -/
def pathErr (n : Nat) (c : Int) : Int := if 0 ≤ c ∧ c < (n : Int) then 0 else 1
def pathList (ss : List ByteArray) (n : Nat) (c : Int) : List ByteArray := if 0 ≤ c ∧ c < (n : Int) then Sg.path ss c.toNat else []
theorem pathList_length {ss : List ByteArray} {n : Nat} {c : Int} (hn : ss.length = n) : (pathList ss n c).length ≤ n := by
  unfold pathList
  split
  · rename_i h
    rw [Sg.path_length n ss _ (by omega), hn]
    have := Sg.depth_lt n c.toNat n (Nat.le_refl _) (by omega)
    omega
  · simp
theorem sealPath_any {w : World} {ao : Option Addr} {n cap : Nat} {ss : List ByteArray} (h : Lst w ao n cap ss) (c : Int) :
    Calls Try.prog 18 #[.slice ao n cap, .int .i64 c] w fun e w' => ∃ v, e = .returned (.tuple #[v, .int .i64 (pathErr n c)]) ∧ OwnStrs w' w.heap.size v (pathList ss n c) ∧ Below w.heap.size w w' := by
  by_cases hc : 0 ≤ c ∧ c < (n : Int)
  · obtain ⟨i, rfl⟩ := Int.eq_ofNat_of_zero_le hc.1
    obtain ⟨b, off, rfl, hbw, hat⟩ := h.some_ (by omega)
    have e1 : pathErr n (i : Int) = 0 := by unfold pathErr; rw [if_pos hc]
    have e2 : pathList ss n (i : Int) = Sg.path ss i := by unfold pathList; rw [if_pos hc, Int.toNat_natCast]
    rw [e1, e2]
    exact sealPath_yes ss n i b off cap w h.len (by omega) h.fits (by have := h.small; have := h.fits; omega) (by have := h.small; omega) h.sizes' hbw hat
  · have e1 : pathErr n c = 1 := by unfold pathErr; rw [if_neg hc]
    have e2 : pathList ss n c = [] := by unfold pathList; rw [if_neg hc]
    rw [e1, e2]
    refine (sealPath_no ao n cap c w (by omega)).mono ?_
    rintro e w' ⟨rfl, rfl⟩
    exact ⟨_, rfl, World.ownsRow_nil _ _ _ _, Below.refl _ _⟩
theorem refPath_any {w : World} {ao : Option Addr} {n cap : Nat} {ss : List ByteArray} (h : Lst w ao n cap ss) (c : Int) :
    Calls Try.prog 19 #[.slice ao n cap, .int .i64 c] w fun e w' => ∃ v, e = .returned (.tuple #[v, .int .i64 (pathErr n c)]) ∧ OwnStrs w' w.heap.size v (pathList ss n c) ∧ Below w.heap.size w w' := by
  by_cases hc : 0 ≤ c ∧ c < (n : Int)
  · obtain ⟨i, rfl⟩ := Int.eq_ofNat_of_zero_le hc.1
    obtain ⟨b, off, rfl, hbw, hat⟩ := h.some_ (by omega)
    have e1 : pathErr n (i : Int) = 0 := by unfold pathErr; rw [if_pos hc]
    have e2 : pathList ss n (i : Int) = Sg.path ss i := by unfold pathList; rw [if_pos hc, Int.toNat_natCast]
    rw [e1, e2]
    exact refPath_yes ss n i b off cap w h.len (by omega) h.fits (by have := h.small; have := h.fits; omega) (by have := h.small; omega) h.sizes' hbw hat
  · have e1 : pathErr n c = 1 := by unfold pathErr; rw [if_neg hc]
    have e2 : pathList ss n c = [] := by unfold pathList; rw [if_neg hc]
    rw [e1, e2]
    refine (refPath_no ao n cap c w (by omega)).mono ?_
    rintro e w' ⟨rfl, rfl⟩
    exact ⟨_, rfl, World.ownsRow_nil _ _ _ _, Below.refl _ _⟩

/-- What Climb answers. -/
def climbOk (c m : Int) (ss : List ByteArray) : Bool := decide (1 ≤ m ∧ m ≤ 4096 ∧ 0 ≤ c ∧ c < m) && okPath c.toNat m.toNat ss
def climbErr (c m : Int) (ss : List ByteArray) : Int := if climbOk c m ss then 0 else 1
def climbStr (leaf : ByteArray) (c m : Int) (ss : List ByteArray) : ByteArray := if climbOk c m ss then Sg.climb leaf c.toNat m.toNat ss else ByteArray.empty
theorem climb_no {leaf : ByteArray} {c m : Int} {ss : List ByteArray} (h : climbOk c m ss = false) : climbErr c m ss = 1 ∧ climbStr leaf c m ss = ByteArray.empty := by
  unfold climbErr climbStr; rw [h]; exact ⟨rfl, rfl⟩
theorem climb_yes {leaf : ByteArray} {c m : Int} {ss : List ByteArray} (h : climbOk c m ss = true) : climbErr c m ss = 0 ∧ climbStr leaf c m ss = Sg.climb leaf c.toNat m.toNat ss := by
  unfold climbErr climbStr; rw [h]; exact ⟨rfl, rfl⟩

theorem sealClimb_any {w : World} {ao : Option Addr} {n cap : Nat} {ss : List ByteArray} (h : Lst w ao n cap ss) (leaf : ByteArray) (hs : leaf.size ≤ 140737488351232) (c m : Int) :
    Calls Try.prog 22 #[.string leaf, .int .i64 c, .int .i64 m, .slice ao n cap] w fun e w' => e = .returned (.tuple #[.string (climbStr leaf c m ss), .int .i64 (climbErr c m ss)]) ∧ Below w.heap.size w w' := by
  by_cases hc : 1 ≤ m ∧ m ≤ 4096 ∧ 0 ≤ c ∧ c < m
  · obtain ⟨i, rfl⟩ := Int.eq_ofNat_of_zero_le hc.2.2.1
    obtain ⟨k, rfl⟩ := Int.eq_ofNat_of_zero_le (a := m) (by omega)
    have e0 : climbOk (i : Int) (k : Int) ss = okPath i k ss := by unfold climbOk; rw [decide_eq_true hc]; simp
    cases hok : okPath i k ss with
    | false =>
      obtain ⟨e1, e2⟩ := climb_no (leaf := leaf) (e0.trans hok)
      rw [e1, e2]
      refine (sealClimb_bad leaf i k ss ao n cap w h.len (by omega) (by omega) (by have := h.small; have := h.fits; omega) h.at_ h.sizes' hok).mono ?_
      rintro e w' ⟨rfl, rfl⟩
      exact ⟨rfl, Below.refl _ _⟩
    | true =>
      obtain ⟨e1, e2⟩ := climb_yes (leaf := leaf) (e0.trans hok)
      rw [e1, e2]
      exact sealClimb_yes leaf i k ss ao n cap w (by omega) h.len (by omega) (by omega) h.fits (by have := h.small; omega) h.at_ h.sizes' hok
  · obtain ⟨e1, e2⟩ := climb_no (leaf := leaf) (c := c) (m := m) (ss := ss) (by unfold climbOk; rw [decide_eq_false hc]; rfl)
    rw [e1, e2]
    refine (sealClimb_no leaf c m ao n cap w (by omega)).mono ?_
    rintro e w' ⟨rfl, rfl⟩
    exact ⟨rfl, Below.refl _ _⟩
theorem refClimb_any {w : World} {ao : Option Addr} {n cap : Nat} {ss : List ByteArray} (h : Lst w ao n cap ss) (leaf : ByteArray) (hs : leaf.size ≤ 140737488351232) (c m : Int) :
    Calls Try.prog 23 #[.string leaf, .int .i64 c, .int .i64 m, .slice ao n cap] w fun e w' => e = .returned (.tuple #[.string (climbStr leaf c m ss), .int .i64 (climbErr c m ss)]) ∧ Below w.heap.size w w' := by
  by_cases hc : 1 ≤ m ∧ m ≤ 4096 ∧ 0 ≤ c ∧ c < m
  · obtain ⟨i, rfl⟩ := Int.eq_ofNat_of_zero_le hc.2.2.1
    obtain ⟨k, rfl⟩ := Int.eq_ofNat_of_zero_le (a := m) (by omega)
    have e0 : climbOk (i : Int) (k : Int) ss = okPath i k ss := by unfold climbOk; rw [decide_eq_true hc]; simp
    have hy := refClimb_yes leaf i k ss ao n cap w (by omega) h.len (by omega) (by omega) h.fits (by have := h.small; omega) h.at_ h.sizes'
    cases hok : okPath i k ss with
    | false =>
      obtain ⟨e1, e2⟩ := climb_no (leaf := leaf) (e0.trans hok)
      rw [e1, e2]
      rw [climbAns_no hok] at hy
      exact hy
    | true =>
      obtain ⟨e1, e2⟩ := climb_yes (leaf := leaf) (e0.trans hok)
      rw [e1, e2]
      rw [climbAns_yes hok] at hy
      exact hy
  · obtain ⟨e1, e2⟩ := climb_no (leaf := leaf) (c := c) (m := m) (ss := ss) (by unfold climbOk; rw [decide_eq_false hc]; rfl)
    rw [e1, e2]
    refine (refClimb_no leaf c m ao n cap w (by omega)).mono ?_
    rintro e w' ⟨rfl, rfl⟩
    exact ⟨rfl, Below.refl _ _⟩

/-- signetlaw.bare. -/
theorem bare_any (g n cap : Nat) (ao : Option Addr) (w : World) (hnil : ao = none → n = 0 ∧ cap = 0) :
    Calls Try.prog 15 #[.slice (some ⟨g, 0, none⟩) n (n + 2), .slice ao n cap] w fun e w' => ∃ aoA capA, e = .returned (.slice aoA n capA) ∧ ((aoA = none ∧ n = 0 ∧ capA = 0) ∨ (aoA = some ⟨g, 0, none⟩ ∧ capA = n + 2)) ∧ w' = w := by
  cases ao with
  | none =>
    obtain ⟨rfl, rfl⟩ := hnil rfl
    refine (bare_nil _ w).mono ?_
    rintro e w' ⟨rfl, rfl⟩
    exact ⟨none, 0, rfl, Or.inl ⟨rfl, rfl, rfl⟩, rfl⟩
  | some a =>
    refine (bare_some _ a n cap w).mono ?_
    rintro e w' ⟨rfl, rfl⟩
    exact ⟨_, _, rfl, Or.inr ⟨rfl, rfl⟩, rfl⟩

/-- A row that texts made. -/
def Row (w : World) (base g n : Nat) (ss : List ByteArray) : Prop := w.ownsRow base 9 1 (.slice (some ⟨g, 0, none⟩) (n + 2) (n + 2)) (n + 2) ((ss ++ [beyondB, beyondB]).map Value.string)
theorem Row.below {w w' : World} {base g n : Nat} {ss : List ByteArray} (h : Row w base g n ss) (hb : Below w.heap.size w w') : Row w' base g n ss := ownsRow_below h hb
/-- What bare hands on is a list that can be handed in. -/
theorem Row.lst {w w' : World} {base g n cap : Nat} {ao aoA : Option Addr} {capA : Nat} {ss : List ByteArray} (h : Row w base g n ss) (hl : Lst w' ao n cap ss) (hs : n ≤ 8796093022000) (hA : (aoA = none ∧ n = 0 ∧ capA = 0) ∨ (aoA = some ⟨g, 0, none⟩ ∧ capA = n + 2)) : Lst w aoA n capA ss := by
  obtain ⟨hg, hat, _, _⟩ := row_in hl.len h
  rcases hA with ⟨rfl, rfl, rfl⟩ | ⟨rfl, rfl⟩
  · exact ⟨hl.len, Nat.le_refl _, by omega, hl.sizes, Or.inl hl.len⟩
  · exact ⟨hl.len, by omega, by omega, hl.sizes, Or.inr ⟨g, 0, rfl, hg, hat⟩⟩

/-- sameTexts of two lists of the calls' own. -/
theorem same_own {w : World} {b1 b2 : Nat} {v1 v2 : Value} {ss : List ByteArray} (h1 : OwnStrs w b1 v1 ss) (h2 : OwnStrs w b2 v2 ss) (hmax : ss.length ≤ 1152921504606846976) :
    Calls Try.prog 20 #[v1, v2] w fun e w' => e = .returned (.bool true) ∧ Below w.heap.size w w' := by
  obtain ⟨ao1, c1, rfl, _, _, hin1⟩ := h1.shape
  obtain ⟨ao2, c2, rfl, _, _, hin2⟩ := h2.shape
  exact same_any ss ao1 ao2 ss.length c1 c2 w rfl hmax hin1 hin2
/-- fill of a list of the call's own. -/
theorem fill_own {w : World} {b : Nat} {v : Value} {ss : List ByteArray} (h : OwnStrs w b v ss) (hmax : ss.length ≤ 8796093022200) (mark : ByteArray) :
    Calls Try.prog 21 #[v, .string mark] w fun e w' => ∃ u, e = .returned u ∧ Filled w' mark ss.length u ∧ w.grownBy w' v.ownBlock := by
  obtain ⟨ao, c, rfl, _, _, _⟩ := h.shape
  exact fill_any ao ss.length c b _ mark w hmax h
theorem OwnStrs.far {w w' w0 : World} {b1 b2 : Nat} {v1 v2 : Value} {ss1 ss2 : List ByteArray} (h1 : OwnStrs w b1 v1 ss1) (h0 : OwnStrs w0 b2 v2 ss2) (hlt : w0.heap.size ≤ b1) (hg : w.grownBy w' v2.ownBlock) : OwnStrs w' b1 v1 ss1 := by
  refine World.ownsRow.kept h1 hg ?_
  cases e : v1.ownBlock with
  | none => exact Or.inl rfl
  | some k =>
    right
    intro e2
    have a := (World.ownsRow.lt h1 k e).1
    have b := (World.ownsRow.lt h0 k e2.symm).2
    omega
end Go.Proofs.Ytpkkhkkkgjhkeaa

/-
  THE WALK of signetlaw.Roots (P4).
-/
namespace Go.Proofs.Ytpkkhkkkgjhkeaa
open Go.RowKit
set_option maxRecDepth 100000

theorem below_of_grown {B : Nat} {w w' : World} {row : Option Nat} (hg : w.grownBy w' row) (hB : B ≤ w.heap.size) (hr : ∀ k, row = some k → B ≤ k) : Below B w w' := (Below.refl _ _).grown hg hB hr

set_option maxRecDepth 100000 in
set_option maxHeartbeats 3200000 in
theorem roots_walk (ao1 ao2 : Option Addr) (n1 cap1 n2 cap2 : Nat) (ss1 ss2 : List ByteArray) (c m : Int) (leaf : ByteArray) (w : World) (h1 : Lst w ao1 n1 cap1 ss1) (h2 : Lst w ao2 n2 cap2 ss2) (hn1 : n1 ≤ 8796093022000) (hn2 : n2 ≤ 8796093022000)
    (hnil1 : ao1 = none → n1 = 0 ∧ cap1 = 0) (hnil2 : ao2 = none → n2 = 0 ∧ cap2 = 0) (hs : leaf.size ≤ 140737488351232) :
    Calls Try.prog 4 #[.slice ao1 n1 cap1, .int .i64 c, .string leaf, .int .i64 m, .slice ao2 n2 cap2] w fun e w' => e = .returned (.bool true) ∧ Below w.heap.size w w' := by
  have N1 : Hid (ao1 = none → n1 = 0 ∧ cap1 = 0) := hnil1
  have N2 : Hid (ao2 = none → n2 = 0 ∧ cap2 = 0) := hnil2
  have hpl := pathList_length (c := c) h1.len
  clear hnil1 hnil2
  go_enter Try.func4, Try.ntmps4
  go_wp2_with fail
  refine (texts_any ss1 ao1 n1 cap1 _ h1.len hn1 h1.at_).mono ?_
  rintro e w1 ⟨g1, rfl, row1', b01⟩
  have row1 : Row w1 w.heap.size g1 n1 ss1 := row1'
  clear row1'
  have l1 := h1.below b01
  have l2 := h2.below b01
  go_wp2_with fail
  refine (bare_any g1 n1 cap1 ao1 _ N1.out).mono ?_
  rintro e w1' ⟨aoA, capA, rfl, hA, rfl⟩
  have lA := row1.lst l1 hn1 hA
  have HA : Hid ((aoA = none ∧ n1 = 0 ∧ capA = 0) ∨ (aoA = some ⟨g1, 0, none⟩ ∧ capA = n1 + 2)) := hA
  clear hA
  go_wp2_with fail
  refine (sealRoot_any lA).mono ?_
  rintro e w2 ⟨rfl, b12⟩
  go_wp2_with fail
  refine (refRoot_any (l1.below b12)).mono ?_
  rintro e w3 ⟨rfl, b23⟩
  have b13 := b12.trans (b23.mono b12.size)
  clear b12 b23
  go_wp2_with fail
  refine (sealPath_any (lA.below b13) c).mono ?_
  rintro e w4 ⟨p, rfl, op4, b34⟩
  have b14 := b13.trans (b34.mono b13.size)
  go_wp2_with fail
  refine (refPath_any (l1.below b14) c).mono ?_
  rintro e w5 ⟨q, rfl, oq5, b45⟩
  have b15 := b14.trans (b45.mono b14.size)
  have op5 := op4.below b45
  go_wp2_with fail
  refine (same_own op5 oq5 (by omega)).mono ?_
  rintro e w6 ⟨rfl, b56⟩
  have b16 := b15.trans (b56.mono b15.size)
  have op6 := op5.below b56
  have oq6 := oq5.below b56
  go_wp2_with fail
  refine (fill_own op6 (by omega) _).mono ?_
  rintro e w7 ⟨u, rfl, f7, gr7⟩
  have oq7 := oq6.far op4 (Nat.le_refl _) gr7
  have b17 : Below w1'.heap.size w1' w7 := b16.trans (below_of_grown gr7 b16.size (fun k hk => Nat.le_trans b13.size (World.ownsRow.lt op6 k hk).1))
  clear op4 op5 op6 oq5 oq6 gr7 b56 b45 b34 b16 b15 b14 b13
  go_wp2_with fail
  refine (sealPath_any (lA.below b17) c).mono ?_
  rintro e w8 ⟨r, rfl, or8, b78⟩
  have oq8 := oq7.below b78
  go_wp2_with fail
  refine (same_own or8 oq8 (by omega)).mono ?_
  rintro e w9 ⟨rfl, b89⟩
  have or9 := or8.below b89
  have b79 := b78.trans (b89.mono b78.size)
  go_wp2_with fail
  refine (fill_own or9 (by omega) _).mono ?_
  rintro e w10 ⟨v, rfl, f10, gr10⟩
  have b7a : Below w7.heap.size w7 w10 := b79.trans (below_of_grown gr10 b79.size (fun k hk => (World.ownsRow.lt or9 k hk).1))
  have b1a := b17.trans (b7a.mono b17.size)
  have f10' := f7.below b7a
  clear or8 or9 oq7 oq8 gr10 b78 b89 b79 b7a f7 b17
  go_wp2_with fail
  refine (texts_any ss2 ao2 n2 cap2 _ (l2.below b1a).len hn2 (l2.below b1a).at_).mono ?_
  rintro e w11 ⟨g2, rfl, row2', bab⟩
  have row2 : Row w11 w10.heap.size g2 n2 ss2 := row2'
  clear row2'
  have b1b := b1a.trans (bab.mono b1a.size)
  go_wp2_with fail
  refine (bare_any g2 n2 cap2 ao2 _ N2.out).mono ?_
  rintro e w11' ⟨aoB, capB, rfl, hB, rfl⟩
  have lB := row2.lst (l2.below b1b) hn2 hB
  have HB : Hid ((aoB = none ∧ n2 = 0 ∧ capB = 0) ∨ (aoB = some ⟨g2, 0, none⟩ ∧ capB = n2 + 2)) := hB
  clear hB
  go_wp2_with fail
  refine (sealClimb_any lB leaf hs c m).mono ?_
  rintro e w12 ⟨rfl, bbc⟩
  have b1c := b1b.trans (bbc.mono b1b.size)
  go_wp2_with fail
  refine (refClimb_any (l2.below b1c) leaf hs c m).mono ?_
  rintro e w13 ⟨rfl, bcd⟩
  have b1d := b1c.trans (bcd.mono b1c.size)
  have bbd := bbc.trans (bcd.mono bbc.size)
  have bad := bab.trans (bbd.mono bab.size)
  have f13 := f10.below bad
  have f13' := f10'.below bad
  have row13 := row1.below b1d
  have row13' := row2.below bbd
  clear bbc bcd bab bbd bad f10 f10' row1 row2 lA lB b1a b1b b1c
  go_wp2_with fail
  refine (filled_any _ _ _ _ f13').mono ?_
  rintro e w13' ⟨rfl, rfl⟩
  go_wp2_with fail
  refine (filled_any _ _ _ _ f13).mono ?_
  rintro e w13'' ⟨rfl, rfl⟩
  go_wp2_with fail
  refine (intact_any ss1 ao1 n1 cap1 g1 _ _ (l1.below b1d).len hn1 (l1.below b1d).at_ row13).mono ?_
  rintro e w14 ⟨rfl, bde⟩
  have b1e := b1d.trans (bde.mono b1d.size)
  go_wp2_with fail
  refine (intact_any ss2 ao2 n2 cap2 g2 _ _ (l2.below b1e).len hn2 (l2.below b1e).at_ (row13'.below bde)).mono ?_
  rintro e w15 ⟨rfl, bef⟩
  have b1f := b1e.trans (bef.mono b1e.size)
  have b0f := b01.trans (b1f.mono b01.size)
  clear bde bef b1d b1e b1f row13 row13' f13 f13' l1 l2 h1 h2 HA HB N1 N2
  go_wp2_with fail
  go_ret
  exact ⟨rfl, b0f⟩
end Go.Proofs.Ytpkkhkkkgjhkeaa
