/-
  THE WALKS of signetlaw.fill, filled: whoever owns a list writes into it, and behind it.
-/
import Derived.Test.YtoadiibfmcjgaaaTexts
import Derived.ArgAppend
namespace Go.Proofs.Ytoadiibfmcjgaaa
open Go.RowKit
set_option maxRecDepth 100000

theorem Try.infoStrs : (Try.prog.info? 24).map (fun i => (i.zero, i.size, i.bytes)) = some (some (.slice none 0 0), 1, 24) := by kernel_rfl

/-- So many marks. -/
def marks (mark : ByteArray) (n : Nat) : List Value := List.replicate n (.string mark)
theorem marks_length (mark : ByteArray) (n : Nat) : (marks mark n).length = n := by simp [marks]
theorem marks_succ (mark : ByteArray) (n : Nat) : marks mark n ++ [.string mark] = marks mark (n + 1) := by
  unfold marks; rw [List.replicate_succ']

/-- A list that reads as so many marks. -/
def Marked (w : World) (mark : ByteArray) (v : Value) (n : Nat) : Prop := w.ownsRow 0 9 1 v n (marks mark n)

theorem grown_trans {w w1 w2 : World} {row row' : Option Nat} (h : w.grownBy w1 row) (k : w1.grownBy w2 row') (hr : row' = row ∨ ∀ g, row' = some g → w.heap.size ≤ g) : w.grownBy w2 row := by
  refine ⟨k.os.trans h.os, k.tape.trans h.tape, k.output.trans h.output, Nat.le_trans h.size k.size, fun i hi hne => ?_⟩
  have hi1 : i < w1.heap.size := Nat.lt_of_lt_of_le hi h.size
  have hne' : some i ≠ row' := by
    intro e
    rcases hr with rfl | hr
    · exact hne e
    · have := hr i e.symm; omega
  exact (k.block i hi1 hne').trans (h.block i hi hne)

/-- Marked lists stay so while another block is written. -/
theorem Marked.kept {w w' : World} {mark : ByteArray} {v : Value} {n : Nat} {row : Option Nat} (h : Marked w mark v n) (hg : w.grownBy w' row) (hne : v.ownBlock = none ∨ v.ownBlock ≠ row) : Marked w' mark v n := World.ownsRow.kept h hg hne
theorem Marked.below {w w' : World} {mark : ByteArray} {v : Value} {n : Nat} (h : Marked w mark v n) (hb : Below w.heap.size w w') : Marked w' mark v n := ownsRow_below h hb

/-- Marked lists stay so while one more mark is laid behind another list that has room. -/
theorem Marked.room {w w' : World} {mark : ByteArray} {v : Value} {n m g cap base : Nat} (h : Marked w mark v n) (hnm : n ≤ m) (hold : w.ownsRow base 9 1 (.slice (some ⟨g, 0, none⟩) m cap) m (marks mark m))
    (hown : w'.ownsRow base 9 1 (.slice (some ⟨g, 0, none⟩) (m + 1) cap) (m + 1) (marks mark (m + 1))) (hg : w.grownBy w' (some g)) : Marked w' mark v n := by
  rcases h.2 with ⟨rfl, h0⟩ | ⟨g1, c1, cur1, rfl, _, hh1, hn1, hm1, hs1, _⟩
  · subst h0; exact World.ownsRow_nil _ _ _ _
  · by_cases e : g1 = g
    · subst e
      rcases hold.2 with ⟨h', _⟩ | ⟨g2, c2, cur2, h', _, hh2, _, _, hs2, _⟩
      · simp at h'
      · simp only [Value.slice.injEq, Option.some.injEq, Addr.mk.injEq, and_true, true_and] at h'
        obtain ⟨rfl, rfl⟩ := h'
        rw [hh1] at hh2
        simp only [Option.some.injEq, Obj.cells.injEq, and_true] at hh2
        subst hh2
        rcases hown.2 with ⟨h', _⟩ | ⟨g3, c3, cur3, h', _, hh3, _, _, hs3, ht3⟩
        · simp at h'
        · simp only [Value.slice.injEq, Option.some.injEq, Addr.mk.injEq, and_true, true_and] at h'
          obtain ⟨rfl, rfl⟩ := h'
          have ec : c1 = cap := by omega
          subst ec
          refine ⟨by simp [marks], Or.inr ⟨g1, c1, cur3, rfl, Nat.zero_le _, hh3, hn1, hm1, hs3, ?_⟩⟩
          have : cur3.toList.take (n * 1) = (cur3.toList.take ((m + 1) * 1)).take (n * 1) := by rw [List.take_take, Nat.min_eq_left (by omega)]
          rw [this, ht3]
          simp [marks, List.take_replicate]; omega
    · exact Marked.kept h hg (Or.inr (by simp [Value.ownBlock]; exact e))

/-- Lists of texts and lists of such lists lie in different blocks. -/
theorem apart_types {w : World} {mark : ByteArray} {v u : Value} {n m base : Nat} {xs : List Value} (h : Marked w mark v n) (k : w.ownsRow base 24 1 u m xs) : v.ownBlock = none ∨ v.ownBlock ≠ u.ownBlock := by
  rcases h.2 with ⟨rfl, _⟩ | ⟨g1, c1, cur1, rfl, _, hh1, _⟩
  · exact Or.inl rfl
  · right
    rcases k.2 with ⟨rfl, _⟩ | ⟨g2, c2, cur2, rfl, _, hh2, _⟩
    · simp [Value.ownBlock]
    · simp only [Value.ownBlock, ne_eq, Option.some.injEq]
      rintro rfl
      rw [hh1] at hh2
      simp at hh2

/-- A round of the first loop. -/
theorem fill_marks (xs : List Value) (mark : ByteArray) (j n : Nat) (hx : xs.length = n) (hj : j < n) : (marks mark j ++ xs.drop j).set j (.string mark) = marks mark (j + 1) ++ xs.drop (j + 1) := by
  rw [List.set_append_right _ _ (by simp [marks])]
  rw [marks_length, Nat.sub_self, List.drop_eq_getElem_cons (by omega), List.set_cons_zero, ← marks_succ, List.append_assoc]
  rfl

/-- What fill holds at the head of its second loop: the lists so far, and the last of them. -/
def FillInv (w wr : World) (mark : ByteArray) (n : Nat) (row : Option Nat) (outv gv : Value) (i : Nat) (Gs : List Value) : Prop :=
  Gs.length = i + 1 ∧ (∀ j u, Gs[j]? = some u → Marked wr mark u (n + j)) ∧ Gs[i]? = some gv ∧ wr.ownsRow w.heap.size 24 1 outv (i + 1) Gs ∧ w.grownBy wr row ∧ (gv.ownBlock = row ∨ ∀ g, gv.ownBlock = some g → w.heap.size ≤ g)
/-- And behind its first append. -/
def FillMid (w w1 : World) (mark : ByteArray) (n : Nat) (row : Option Nat) (outv gv : Value) (i : Nat) (Gs : List Value) : Prop :=
  Gs.length = i + 1 ∧ (∀ j u, Gs[j]? = some u → Marked w1 mark u (n + j)) ∧ w1.ownsRow w.heap.size 24 1 outv (i + 1) Gs ∧ w.grownBy w1 row ∧ Marked w1 mark gv (n + (i + 1)) ∧ (gv.ownBlock = row ∨ ∀ g, gv.ownBlock = some g → w.heap.size ≤ g)

theorem FillInv.last {w wr : World} {mark : ByteArray} {n : Nat} {row : Option Nat} {outv gv : Value} {i : Nat} {Gs : List Value} (h : FillInv w wr mark n row outv gv i Gs) : Marked wr mark gv (n + i) := h.2.1 i gv h.2.2.1
theorem FillInv.alloc {w wr : World} {mark : ByteArray} {n : Nat} {row : Option Nat} {outv gv : Value} {i : Nat} {Gs : List Value} (h : FillInv w wr mark n row outv gv i Gs) (o : Obj) : FillInv w (wr.alloc o) mark n row outv gv i Gs :=
  ⟨h.1, fun j u hj => World.ownsRow.alloc (h.2.1 j u hj) o, h.2.2.1, h.2.2.2.1.alloc o, grown_trans h.2.2.2.2.1 (World.grownBy_alloc wr o row) (Or.inl rfl), h.2.2.2.2.2⟩

theorem own_not {a b : Option Nat} (h : a = none ∨ a ≠ b) (c : Nat) (hc : a = some c) : b = none ∨ b ≠ some c := by
  right
  intro e
  rcases h with h | h
  · rw [h] at hc; simp at hc
  · exact h (by rw [hc, e])

theorem fill_room {w wr w1 : World} {mark : ByteArray} {n : Nat} {row : Option Nat} {outv : Value} {i g cap : Nat} {Gs : List Value} {o : Obj} (h : FillInv w wr mark n row outv (.slice (some ⟨g, 0, none⟩) (n + i) cap) i Gs)
    (hown : w1.ownsRow 0 9 1 (.slice (some ⟨g, 0, none⟩) (n + i + 1) cap) (n + i + 1) (marks mark (n + i) ++ [.string mark])) (hg : (wr.alloc o).grownBy w1 (some g)) :
    FillMid w w1 mark n row outv (.slice (some ⟨g, 0, none⟩) (n + i + 1) cap) i Gs := by
  have hl := h.last
  have ha := h.alloc o
  obtain ⟨h1, h2, h3, h4, h5, h6⟩ := ha
  rw [marks_succ] at hown
  refine ⟨h1, fun j u hj => ?_, ?_, ?_, ?_, h6⟩
  · have hj' : j < i + 1 := by rw [← h1]; exact (List.getElem?_eq_some_iff.1 hj).1
    exact (h2 j u hj).room (by omega) (World.ownsRow.alloc hl o) hown hg
  · exact h4.kept hg (own_not (apart_types hl h.2.2.2.1) g rfl)
  · refine grown_trans h5 hg ?_
    rcases h6 with h6 | h6
    · left; rw [← h6]; rfl
    · right; exact h6
  · have e : n + (i + 1) = n + i + 1 := by omega
    unfold Marked
    rw [e]; exact hown

theorem fill_grow {w wr w1 : World} {mark : ByteArray} {n : Nat} {row : Option Nat} {outv gv v' : Value} {i base : Nat} {Gs : List Value} {o : Obj} (h : FillInv w wr mark n row outv gv i Gs)
    (hown : w1.ownsRow base 9 1 v' (n + i + 1) (marks mark (n + i) ++ [.string mark])) (hb : wr.heap.size ≤ base) (hg : (wr.alloc o).grownBy w1 none) :
    FillMid w w1 mark n row outv v' i Gs := by
  have ha := h.alloc o
  obtain ⟨h1, h2, h3, h4, h5, h6⟩ := ha
  rw [marks_succ] at hown
  refine ⟨h1, fun j u hj => (h2 j u hj).kept hg ?_, h4.kept hg ?_, grown_trans h5 hg (Or.inr (by simp)), ?_, Or.inr fun g' hg' => ?_⟩
  · cases u.ownBlock <;> simp
  · cases outv.ownBlock <;> simp
  · have e : n + (i + 1) = n + i + 1 := by omega
    unfold Marked
    rw [e]; exact ownsRow_base hown (Nat.zero_le _)
  · have := (hown.lt g' hg').1
    have := h.2.2.2.2.1.size
    omega

theorem fill_out {w w1 w2 : World} {mark : ByteArray} {n : Nat} {row : Option Nat} {outv gv v' : Value} {i : Nat} {Gs : List Value} {o : Obj} (h : FillMid w w1 mark n row outv gv i Gs)
    (hown : w2.ownsRow w.heap.size 24 1 v' (i + 1 + 1) (Gs ++ [gv])) (hg : (w1.alloc o).grownBy w2 outv.ownBlock) : FillInv w w2 mark n row v' gv (i + 1) (Gs ++ [gv]) := by
  obtain ⟨h1, h2, h4, h5, h7, h6⟩ := h
  have m1 : ∀ u m, Marked w1 mark u m → Marked w2 mark u m := fun u m hu => Marked.kept (World.ownsRow.alloc hu o) hg (apart_types hu h4)
  refine ⟨by simp [h1], fun j u hj => ?_, ?_, hown, grown_trans (grown_trans h5 (World.grownBy_alloc w1 o row) (Or.inl rfl)) hg (Or.inr fun g hg' => (h4.lt g hg').1), h6⟩
  · by_cases hj' : j < Gs.length
    · rw [List.getElem?_append_left hj'] at hj
      exact m1 _ _ (h2 j u hj)
    · have hjl := (List.getElem?_eq_some_iff.1 hj).1
      have e : j = i + 1 := by simp at hjl; omega
      subst e
      rw [← h1, List.getElem?_concat_length] at hj
      simp at hj
      subst hj
      exact m1 _ _ h7
  · rw [← h1, List.getElem?_concat_length]

/-- The lists that fill hands back: four, each as many marks. -/
def Filled (w : World) (mark : ByteArray) (n : Nat) (v : Value) : Prop := ∃ base Gs, Gs.length = 4 ∧ w.ownsRow base 24 1 v 4 Gs ∧ ∀ j u, Gs[j]? = some u → Marked w mark u (n + j)
theorem Filled.below {w w' : World} {mark : ByteArray} {n : Nat} {v : Value} (h : Filled w mark n v) (hb : Below w.heap.size w w') : Filled w' mark n v := by
  obtain ⟨base, Gs, h1, h2, h3⟩ := h
  exact ⟨base, Gs, h1, ownsRow_below h2 hb, fun j u hj => (h3 j u hj).below hb⟩

theorem fill_start {w wr : World} {mark : ByteArray} {v : Value} {n base : Nat} (hown : wr.ownsRow base 9 1 v n (marks mark n)) (hg : w.grownBy wr v.ownBlock) :
    FillInv w (wr.alloc (.cells #[v] 24)) mark n v.ownBlock (.slice (some ⟨wr.heap.size, 0, none⟩) 1 1) v 0 [v] := by
  refine ⟨rfl, fun j u hj => ?_, rfl, World.ownsRow_lit wr #[v] 1 hg.size (by decide) rfl, grown_trans hg (World.grownBy_alloc wr _ v.ownBlock) (Or.inl rfl), Or.inl rfl⟩
  match j, hj with
  | 0, hj =>
    simp at hj
    subst hj
    exact ownsRow_base (hown.alloc _) (Nat.zero_le _)

theorem one_new (w : World) (v : Value) (t : TypeId) : ∀ j u, [v][j]? = some u → (w.alloc (.cells #[v] t)).cell? ((⟨w.heap.size, 0, none⟩ : Addr).add j) = some u := by
  intro j u hj
  match j, hj with
  | 0, hj => simp at hj; subst hj; simp [Addr.add]

/-- A marked list either has room for one more or is full. -/
theorem marked_shape {wr : World} {mark : ByteArray} {v : Value} {m : Nat} (h : Marked wr mark v m) :
    (∃ ao c, v = .slice ao m c ∧ c < m + 1 ∧ (ao = none → m = 0 ∧ c = 0) ∧ ∀ b, ao = some b → ∀ j u, (marks mark m)[j]? = some u → ∀ o, (wr.alloc o).cell? (b.add j) = some u) ∨
    ∃ g c, v = .slice (some ⟨g, 0, none⟩) m c ∧ m + 1 ≤ c := by
  have hk := h
  rcases h.2 with ⟨rfl, h0⟩ | ⟨g, c, cur, rfl, _, hh, hle, _, _, _⟩
  · left; subst h0; exact ⟨none, 0, rfl, by omega, fun _ => ⟨rfl, rfl⟩, fun b hb => by simp at hb⟩
  · by_cases hr : m + 1 ≤ c
    · right; exact ⟨g, c, rfl, hr⟩
    · left
      refine ⟨_, c, rfl, by omega, fun h => by simp at h, fun b hb j u hj o => ?_⟩
      simp only [Option.some.injEq] at hb
      subst hb
      have hj' : j < m := by have := (List.getElem?_eq_some_iff.1 hj).1; simpa [marks] using this
      have ea : Addr.add ⟨g, 0, none⟩ j = ⟨g, j, none⟩ := by cases j <;> simp [Addr.add]
      rw [ea, World.ownsRow.cellAt (World.ownsRow.alloc hk o) j (by omega)]
      exact hj

theorem own_shape {w : World} {base : Nat} {e : TypeId} {v : Value} {n : Nat} {xs : List Value} (h : w.ownsRow base e 1 v (n + 1) xs) : ∃ g c, v = .slice (some ⟨g, 0, none⟩) (n + 1) c := by
  rcases h.2 with ⟨_, h0⟩ | ⟨g, c, cur, h', _⟩
  · omega
  · exact ⟨g, c, h'⟩

set_option maxHeartbeats 3200000 in
/-- signetlaw.fill. -/
theorem fill_any (ao : Option Addr) (n cap base : Nat) (xs : List Value) (mark : ByteArray) (w : World) (hmax : n ≤ 8796093022200) (hown : w.ownsRow base 9 1 (.slice ao n cap) n xs) :
    Calls Try.prog 19 #[.slice ao n cap, .string mark] w fun e w' => ∃ v, e = .returned v ∧ Filled w' mark n v ∧ w.grownBy w' (Value.slice ao n cap).ownBlock := by
  obtain ⟨i0, hi, hz0, hz1, hz2⟩ := info_parts Try.infoStr
  obtain ⟨j0, ji, jz0, jz1, jz2⟩ := info_parts Try.infoStrs
  have HX : Hid (xs.length = n) := by have := hown.1; show _ = _; omega
  go_enter Try.func19, Try.ntmps19
  go_wp2_with fail
  go_loopw [5] (fun c wr => ∃ k : Nat, k ≤ n ∧ c = .int .i64 (k : Int) ∧ wr.ownsRow base 9 1 (.slice ao n cap) n (marks mark k ++ xs.drop k) ∧ w.grownBy wr (Value.slice ao n cap).ownBlock) (fun c _ => n - (intOf c).toNat)
  case atStart => exact ⟨0, by omega, rfl, by simpa [marks] using hown, World.grownBy.refl _ _⟩
  case round =>
    obtain ⟨k, hk, rfl, hownr, hgr⟩ := hrel
    clear hown
    by_cases hlt : k < n
    · obtain ⟨g, hao⟩ : ∃ g, ao = some ⟨g, 0, none⟩ := by
        rcases hownr.2 with ⟨h', h0⟩ | ⟨g, c, cur, h', _⟩
        · omega
        · simp only [Value.slice.injEq] at h'; exact ⟨g, h'.1⟩
      subst hao
      have hc : ∃ u, wr.cell? ⟨g, k, none⟩ = some u := by
        rw [hownr.cellAt k (by omega)]
        exact ⟨_, List.getElem?_eq_getElem (by simp [marks]; have := HX.out; omega)⟩
      obtain ⟨u, hu⟩ := hc
      have hf := hownr.frozenAt k
      have hst := hownr.stored k (.string mark)
      rw [fill_marks xs mark k n HX.out hlt] at hst
      have HS : Hid ((wr.setCell ⟨g, k, none⟩ (.string mark)).ownsRow base 9 1 (.slice (some ⟨g, 0, none⟩) n cap) n (marks mark (k + 1) ++ xs.drop (k + 1)) ∧ wr.grownBy (wr.setCell ⟨g, k, none⟩ (.string mark)) (some g)) := hst
      have HG : Hid (w.grownBy wr (Value.slice (some ⟨g, 0, none⟩) n cap).ownBlock) := hgr
      clear hst hownr hgr
      go_wp2_with fail
      go_roundw
      case rel => exact ⟨k + 1, by omega, by go_num, HS.out.1, grown_trans HG.out HS.out.2 (Or.inl rfl)⟩
      case measure => simp [intOf]; omega
    · have hkn : k = n := by omega
      subst hkn
      rw [List.drop_eq_nil_of_le (by rw [HX.out]; exact Nat.le_refl _), List.append_nil] at hownr
      have hstart := fill_start hownr hgr
      have HST : Hid (FillInv w (wr.alloc (.cells #[.slice ao k cap] 24)) mark k (Value.slice ao k cap).ownBlock (.slice (some ⟨wr.heap.size, 0, none⟩) 1 1) (.slice ao k cap) 0 [.slice ao k cap]) := hstart
      clear hstart hownr hgr hk HX
      go_wp2_with fail
      go_loopw [6, 7, 8] (fun outv gv c w' => ∃ (i : Nat) (Gs : List Value), i ≤ 3 ∧ c = .int .i64 (i : Int) ∧ FillInv w w' mark k (Value.slice ao k cap).ownBlock outv gv i Gs) (fun _ _ c _ => 3 - (intOf c).toNat)
      case atStart => exact ⟨0, _, by omega, rfl, HST.out⟩
      case round =>
        obtain ⟨i, Gs, hi3, rfl, hinv⟩ := hrel
        clear HST
        by_cases hlt3 : i < 3
        · rcases marked_shape hinv.last with ⟨ao', c, rfl, hfull, hnone, holds⟩ | ⟨g, c, rfl, hroom⟩
          · have HH : Hid (∀ b, ao' = some b → ∀ j u, (marks mark (k + i))[j]? = some u → ∀ o, (wr.alloc o).cell? (b.add j) = some u) := holds
            have HNo : Hid (ao' = none → k + i = 0 ∧ c = 0) := hnone
            clear holds hnone
            go_wp2_with (at_builtin; refine wpList_append_grows _ rfl _ _ 24 rfl 9 i0 (.string ByteArray.empty) 1 16 Try.underlying24 hi hz0 hz1 hz2 rfl (by decide) ao' (k + i) c (marks mark (k + i)) rfl HNo.out ?d1 ?d2 ⟨wr.heap.size, 0, none⟩ 1 1 [.string mark] rfl rfl ?d3 ?d4 hfull ?d5 ?d6 ?_)
            case d1 => simp [marks]
            case d2 => exact fun b hb j u hj => HH.out b hb j u hj _
            case d3 => exact one_new _ _ _
            case d4 => intro u hu; simp at hu; subst hu; rfl
            case d5 => unfold maxLen; omega
            case d6 => omega
            intro v' w1 hown1 hgrow1
            have mid := fill_grow hinv hown1 (by simp) hgrow1
            obtain ⟨g', c', hv⟩ := own_shape hown1
            clear hown1 hgrow1 HH HNo hinv
            rw [hv] at mid
            rw [hv]
            clear hv
            have hbase : w.heap.size ≤ w1.heap.size := mid.2.2.2.1.size
            have hout := mid.2.2.1
            go_wp2_with (at_builtin; refine wpList_append_own _ rfl _ _ 32 rfl w.heap.size 24 j0 (.slice none 0 0) 1 24 Try.underlying32 ji jz0 jz1 jz2 rfl (by decide) _ _ _ rfl (hout.alloc _) ⟨w1.heap.size, 0, none⟩ 1 1 [.slice (some ⟨g', 0, none⟩) (k + i + 1) c'] rfl rfl ?e1 ?e2 ?e3 ?e4 ?e5 ?_)
            case e1 => exact one_new _ _ _
            case e2 => intro u hu; simp at hu; subst hu; rfl
            case e3 => unfold maxLen; omega
            case e4 => omega
            case e5 => simp; omega
            intro v2 w2 hown2 hgrow2 _
            have R := fill_out mid hown2 hgrow2
            clear mid hout hown2 hgrow2
            go_wp2_with fail
            go_roundw
            case rel => exact ⟨i + 1, _, by omega, by go_num, R⟩
            case measure => simp [intOf]; omega
          · have hl := hinv.last
            go_wp2_with (at_builtin; refine wpList_append_fits _ rfl _ _ 24 rfl 0 9 i0 1 Try.underlying24 hi hz1 g (k + i) c (marks mark (k + i)) rfl (World.ownsRow.alloc hl _) ⟨wr.heap.size, 0, none⟩ 1 1 [.string mark] rfl rfl ?d1 ?d2 hroom ?_)
            case d1 => exact one_new _ _ _
            case d2 => intro u hu; simp at hu; subst hu; rfl
            intro w1 hown1 hgrow1
            have mid := fill_room hinv hown1 hgrow1
            clear hown1 hgrow1 hinv hl
            have hbase : w.heap.size ≤ w1.heap.size := mid.2.2.2.1.size
            have hout := mid.2.2.1
            go_wp2_with (at_builtin; refine wpList_append_own _ rfl _ _ 32 rfl w.heap.size 24 j0 (.slice none 0 0) 1 24 Try.underlying32 ji jz0 jz1 jz2 rfl (by decide) _ _ _ rfl (hout.alloc _) ⟨w1.heap.size, 0, none⟩ 1 1 [.slice (some ⟨g, 0, none⟩) (k + i + 1) c] rfl rfl ?e1 ?e2 ?e3 ?e4 ?e5 ?_)
            case e1 => exact one_new _ _ _
            case e2 => intro u hu; simp at hu; subst hu; rfl
            case e3 => unfold maxLen; omega
            case e4 => omega
            case e5 => simp; omega
            intro v2 w2 hown2 hgrow2 _
            have R := fill_out mid hown2 hgrow2
            clear mid hout hown2 hgrow2
            go_wp2_with fail
            go_roundw
            case rel => exact ⟨i + 1, _, by omega, by go_num, R⟩
            case measure => simp [intOf]; omega
        · have hi3' : i = 3 := by omega
          subst hi3'
          have HF : Hid (Filled wr mark k u6 ∧ w.grownBy wr (Value.slice ao k cap).ownBlock) := ⟨⟨w.heap.size, Gs, hinv.1, hinv.2.2.2.1, hinv.2.1⟩, hinv.2.2.2.2.1⟩
          clear hinv
          go_wp2_with fail
          go_ret
          exact ⟨_, rfl, HF.out.1, HF.out.2⟩
end Go.Proofs.Ytoadiibfmcjgaaa
