/-
  A strings.Builder; and the walks of book.Chart, entryText.
-/
import Derived.Test.YtoadiibfmcjgaaaShelf
import Derived.Test.YtoadiibfmcjgaaaLay
namespace Go.Proofs.Ytoadiibfmcjgaaa
open Go.RowKit
set_option maxRecDepth 100000
attribute [local go_sem ↓] Go.wp_at_zero Go.wp_at_succ

/-- A builder in block b that holds a text; its bytes lie behind b. -/
def TB (w : World) (b : Nat) (s : ByteArray) : Prop := Lib.IsBuilderF 121 5 b b (Lib.strCells s) w
theorem TB.new (w : World) : TB (w.alloc (.cells #[.pointer none, .slice none 0 0] 121)) w.heap.size ByteArray.empty :=
  Or.inl ⟨Nat.le_refl _, .slice none 0 0, heap_alloc_new w _, World.ownsRowF_nil _ _ _ _, by simp [Value.ownBlock]⟩
theorem TB.below {w w' : World} {b : Nat} {s : ByteArray} (h : TB w b s) (hb : Below w.heap.size w w') : TB w' b s := by
  have key : ∀ p, Lib.BuilderAtF 121 5 b b p (Lib.strCells s) w → Lib.BuilderAtF 121 5 b b p (Lib.strCells s) w' := by
    rintro p ⟨h1, v, h2, h3, h4⟩
    have hlt : b < w.heap.size := lt_of_block h2
    refine ⟨h1, v, (hb.block b hlt).trans h2, h3.kept (row := some w.heap.size) ⟨hb.os, hb.tape, hb.output, hb.size, fun k hk _ => hb.block k hk⟩ ?_, h4⟩
    by_cases e : v.ownBlock = none
    · exact Or.inl e
    · refine Or.inr (fun e' => ?_)
      have := (h3.lt _ e').2
      omega
  exact h.elim (fun x => .inl (key _ x)) (fun x => .inr (key _ x))
theorem TB.drew {w : World} {b : Nat} {s : ByteArray} (h : TB w b s) : TB w.drew b s := h
theorem TB.lt {w : World} {b : Nat} {s : ByteArray} (h : TB w b s) : b < w.heap.size := h.elim (fun x => x.lt) (fun x => x.lt)
/-- What a write keeps. -/
def Kept (b : Nat) (w w' : World) : Prop := ∀ k cs t fz, w.heap[k]? = some (.cells cs t fz) → k ≠ b → t ≠ 5 → w'.heap[k]? = some (.cells cs t fz)
theorem Kept.cells {b : Nat} {w w' : World} (h : Kept b w w') {k : Nat} {cs : Array Value} {t : TypeId} {fz : Nat × Nat} (hk : w.heap[k]? = some (.cells cs t fz)) (h1 : k ≠ b) (h2 : t ≠ 5) (j : Nat) {v : Value} (hv : cs[j]? = some v) : w'.cell? ⟨k, j, none⟩ = some v := by
  rw [cell_of_row w' k j _ _ _ (h k cs t fz hk h1 h2)]; exact hv
theorem write_any (b : Nat) (s x : ByteArray) (w : World) (h : TB w b s) (hlen : s.size + x.size ≤ 140737488355328) :
    Calls Try.prog 68 #[.pointer (some ⟨b, 0, none⟩), .string x] w fun e w' => e = .returned (.tuple #[.int .i64 x.size, .nilIface]) ∧ TB w' b (s ++ x) ∧ Below b w w' ∧ Kept b w w' := by
  refine (Any.Builder_WriteString_k { Try.lays156 with } Try.Builder_Extra_156 b b (Lib.strCells s) x w h (by rw [Lib.strCells_length]; exact hlen) (Nat.le_of_lt h.lt)).mono ?_
  rintro e w' ⟨rfl, h1, h2, h3⟩
  refine ⟨rfl, Or.inr ?_, h2, fun k cs t fz hk hb ht => h3 k _ hk (by simpa using hb) (fun c fz' e => ?_)⟩
  · have e : Lib.strCells (s ++ x) = Lib.strCells s ++ Lib.strCells x := by
      unfold Lib.strCells
      rw [← List.map_append]
      congr 1
    rw [e]
    exact h1
  · simp only [Obj.cells.injEq] at e
    exact ht e.2.1
theorem string_any (b : Nat) (s : ByteArray) (w : World) (h : TB w b s) :
    Calls Try.prog 72 #[.pointer (some ⟨b, 0, none⟩)] w fun e w' => e = .returned (.string s) ∧ Below b w w' := by
  refine (Any.Builder_String_any_f { Try.lays156 with } Try.Builder_Extra_156 b b s.data.toList w h (Nat.le_of_lt h.lt)).mono ?_
  rintro e w' ⟨rfl, _, h2⟩
  exact ⟨by simp, h2⟩

/-- lay.One, the text under a name of its own. -/
theorem one_txt (n : Int) (w : World) :
    Calls Try.prog 70 #[.int .i64 n] w fun e w' => ∃ y : ByteArray, e = .returned (.string y) ∧ Hid (y = Sg.beB n 1) ∧ y.size ≤ 8 ∧ Below w.heap.size w w' := by
  refine (one_any n w).mono ?_
  rintro e w' ⟨rfl, hb⟩
  exact ⟨_, rfl, rfl, by rw [Sg.beB_size]; omega, hb⟩
theorem eight_txt (n : Int) (w : World) (hn : -9223372036854775808 ≤ n ∧ n ≤ 9223372036854775807) :
    Calls Try.prog 112 #[.int .i64 n] w fun e w' => ∃ y : ByteArray, e = .returned (.string y) ∧ Hid (y = Sg.beB n 8) ∧ y.size ≤ 8 ∧ Below w.heap.size w w' := by
  refine (eight_any n w hn).mono ?_
  rintro e w' ⟨rfl, hb⟩
  exact ⟨_, rfl, rfl, by rw [Sg.beB_size]; omega, hb⟩

/-- A box of two cells. -/
def Two (w : World) (g : Nat) (x y : Value) (t : TypeId) : Prop := w.heap[g]? = some (.cells #[x, y] t (0, 0))
theorem Two.cells {w : World} {g : Nat} {x y : Value} {t : TypeId} (h : Two w g x y t) : w.cell? ⟨g, 0, none⟩ = some x ∧ w.cell? ⟨g, 1, none⟩ = some y := ⟨by rw [cell_of_row w g 0 _ _ _ h]; rfl, by rw [cell_of_row w g 1 _ _ _ h]; rfl⟩
theorem Two.new (w : World) (x y : Value) (t : TypeId) : Two (w.alloc (.cells #[x, y] t)) w.heap.size x y t := heap_alloc_new w _
theorem Two.below {w w' : World} {g : Nat} {x y : Value} {t : TypeId} (h : Two w g x y t) (hb : Below w.heap.size w w') : Two w' g x y t := (hb.block g (lt_of_block h)).trans h
theorem Two.kept {w w' : World} {b g : Nat} {x y : Value} {t : TypeId} (h : Two w g x y t) (hk : Kept b w w') (h1 : g ≠ b) (h2 : t ≠ 5) : Two w' g x y t := hk g _ t _ h h1 h2
theorem Two.drew {w : World} {g : Nat} {x y : Value} {t : TypeId} (h : Two w g x y t) : Two w.drew g x y t := h
/-- .. as the drawn regions ask it. -/
theorem two_drew {W : World} {g : Nat} {x y : Value} (h : W.cell? ⟨g, 0, none⟩ = some x ∧ W.cell? ⟨g, 1, none⟩ = some y) : W.drew.cell? ⟨g, 0, none⟩ = some x ∧ W.drew.cell? ⟨g, 1, none⟩ = some y := ⟨by simpa using h.1, by simpa using h.2⟩

set_option maxHeartbeats 3200000 in
/-- Book.Chart. -/
theorem bChart_any (ac : List Sg.Acc) (ao : Option Addr) (n cap : Nat) (vP : Value) (w : World) (hl : ac.length = n) (hn8 : n ≤ 8) (hA : AccsIn w ao ac) (hok : ∀ a ∈ ac, a.name.size ≤ 12) :
    Calls Try.prog 69 #[.agg #[.slice ao n cap, vP]] w fun e w' => ∃ y, e = .returned (.string y) ∧ Hid (y = Sg.chartB ac) ∧ y.size ≤ 120 ∧ Below w.heap.size w w' := by
  have HN : Hid (ac.length = n) := hl
  clear hl
  have HA : Hid (AccsIn w ao ac) := hA
  have HOK : Hid (∀ a ∈ ac, a.name.size ≤ 12) := hok
  clear hA hok
  go_enter Try.func69, Try.ntmps69
  go_wp2_with fail
  refine (one_txt _ _).mono ?_
  rintro e w1 ⟨y0, rfl, H0, hy0, hb1⟩
  go_wp2_with fail
  have ht1 : TB w1 (w.heap.size + 1) ByteArray.empty := by
    have := TB.new (w.alloc (.cells #[.slice ao n cap, vP] 93))
    have e : (w.alloc (.cells #[.slice ao n cap, vP] 93)).heap.size = w.heap.size + 1 := by simp
    rw [e] at this
    exact this.below hb1
  have hx1 : Two w1 w.heap.size (.slice ao n cap) vP 93 := ((Two.new w _ _ _).below ((Below.refl _ _).alloc (Nat.le_refl _) _)).below hb1
  have hbw1 : Below w.heap.size w w1 := (((Below.refl _ _).alloc (Nat.le_refl _) _).alloc (by simp) _).trans (hb1.mono (by simp; omega))
  clear hb1
  refine (write_any (w.heap.size + 1) ByteArray.empty y0 w1 ht1 (by simp; omega)).mono ?_
  rintro e w2 ⟨rfl, ht2, hb2, hk2⟩
  have hx2 : Two w2 w.heap.size (.slice ao n cap) vP 93 := hx1.kept hk2 (by omega) (by decide)
  have hbw2 : Below w.heap.size w w2 := hbw1.trans (hb2.mono (by omega))
  obtain ⟨c0, _⟩ := hx2.cells
  have HT2 : Hid (TB w2 (w.heap.size + 1) (Sg.chartTo ac 0)) := by
    have e : ByteArray.empty ++ y0 = Sg.chartTo ac 0 := by
      rw [H0.out]; unfold Sg.chartTo
      simp [HN.out]
    rw [← e]
    exact ht2
  clear ht1 hx1 hbw1 hk2 hb2 ht2
  go_wp2_with fail
  go_loopw [14] (fun i wr => ∃ k : Nat, k ≤ n ∧ i = .int .i64 (k : Int) ∧ Hid (TB wr (w.heap.size + 1) (Sg.chartTo ac k)) ∧ Below w.heap.size w wr) (fun i _ => n - (intOf i).toNat)
  case atStart => exact ⟨0, by omega, rfl, HT2, hbw2⟩
  case round =>
    obtain ⟨k, hk, rfl, HT, hbr⟩ := hrel
    obtain ⟨wz, ewz⟩ : ∃ z : World, z = wr := ⟨_, rfl⟩
    subst ewz
    have hsz := hbr.size
    have htl := HT.out.lt
    clear HT2 hbw2 hx2 c0
    by_cases hlt : k < n
    · have hka : k < ac.length := by rw [HN.out]; exact hlt
      obtain ⟨b, off, hao, hbw, hc0, hc1⟩ := (HA.out.below hbr).cell (k := k) hka
      subst hao
      have hx1 := HOK.out ac[k] (List.getElem_mem _)
      have HS : Hid (Sg.chartTo ac (k + 1) = Sg.accText (Sg.chartTo ac k) ac[k]) := Sg.chartTo_succ ac k hka
      have hos : (Sg.chartTo ac k).size ≤ 1 + 14 * k := Sg.chartTo_size ac HOK.out k (by omega)
      obtain ⟨x, ln, hax⟩ : ∃ x ln, ac[k] = ⟨x, ln⟩ := ⟨ac[k].name, ac[k].line, rfl⟩
      rw [hax] at hc0 hc1 hx1 HS
      simp only at hc0 hc1 hx1
      unfold Sg.accText at HS
      simp only at HS
      generalize Sg.chartTo ac k = oo at *
      clear hax
      have i1 : (0 : Int) ≤ (k : Int) := by omega
      have i2 : (k : Int) < (n : Int) := by omega
      have aA : Below wz.heap.size wz (wz.alloc (.cells #[.string x, .int .i64 ln] 43)) := (Below.refl _ _).alloc (Nat.le_refl _) _
      have hT0 : Two (wz.alloc (.cells #[.string x, .int .i64 ln] 43)) wz.heap.size (.string x) (.int .i64 ln) 43 := Two.new _ _ _ _
      go_wp2_with fail
      go_region_held3 (fun w' => w'.cell? ⟨wz.heap.size, 0, none⟩ = some (.string x) ∧ w'.cell? ⟨wz.heap.size, 1, none⟩ = some (.int .i64 ln)) (first | assumption | exact hT0.cells | exact two_drew hT0.cells | exact two_drew (x := .string x) (y := .int .i64 ln) (by assumption))
        (first
          | (go_at_call_of 70 (Value.int IntKind.i64 ln); refine (one_txt ln _).mono ?_; rintro e w4 ⟨y2, rfl, hy2, hys2, hb4⟩; have q3 := cat (y1 ++ x) y2 (by rw [cat_size]; omega); have hT4 : Two w4 wz.heap.size (.string x) (.int .i64 ln) 43 := (by first | exact hT3.below hb4 | exact hT3.drew.below hb4); have tb4 : TB w4 (w.heap.size + 1) oo := (by first | exact tb3.below hb4 | exact tb3.drew.below hb4); have hh4 := hT4.cells; have b4 : Below wz.heap.size wz w4 := (by first | exact b3.trans (hb4.mono b3.size) | exact b3.drew.trans (hb4.mono b3.size)))
          | (go_at_call 70; refine (one_txt (x.size : Int) _).mono ?_; rintro e w3 ⟨y1, rfl, hy1, hys1, hb3⟩; have q2 := cat y1 x (by omega); have hT3 : Two w3 wz.heap.size (.string x) (.int .i64 ln) 43 := Two.below (by first | exact hT0.drew | exact hT0) hb3; have tb3 : TB w3 (w.heap.size + 1) oo := TB.below (by first | exact (HT.out.below aA).drew | exact HT.out.below aA) hb3; have hh3 := hT3.cells; have b3 : Below wz.heap.size wz w3 := (by first | exact aA.drew.trans (hb3.mono (by simp)) | exact aA.trans (hb3.mono (by simp))))
          | (go_at_call 68; refine (write_any (w.heap.size + 1) oo (y1 ++ x ++ y2) _ tb4 (by rw [cat_size, cat_size]; omega)).mono ?_; rintro e w5 ⟨rfl, tb5, hb5, hk5⟩; have hh5 := (hT4.kept hk5 (by omega) (by decide)).cells; have b5 : Below (w.heap.size + 1) wz w5 := (b4.mono (by omega)).trans hb5))
      have hbe : Below w.heap.size w w5 := hbr.trans (b5.mono (by omega))
      have HTn : Hid (TB w5 (w.heap.size + 1) (Sg.chartTo ac (k + 1))) := by
        show TB _ _ _
        rw [HS.out, ← hy1.out, ← hy2.out]
        simpa [ByteArray.append_assoc] using tb5
      clear hh3 hh4 hh5 hb3 hb4 hb5 hk5 tb3 tb4 tb5 hT3 hT4 q2 q3 b3 b4 b5 hT0 aA HS
      go_wp2_with fail
      go_roundw
      case rel => exact ⟨k + 1, by omega, by go_num, HTn, hbe⟩
      case measure => simp [intOf]; omega
    · have HE : Hid (Sg.chartTo ac k = Sg.chartB ac) := by
        show _ = _
        rw [show k = ac.length by rw [HN.out]; omega, Sg.chartTo_all]
      have hsize : (Sg.chartTo ac k).size ≤ 120 := by
        have := Sg.chartTo_size ac HOK.out k (by rw [HN.out]; omega)
        omega
      generalize Sg.chartTo ac k = oo at *
      go_wp2_with fail
      refine (string_any _ _ _ HT.out).mono ?_
      rintro e w3 ⟨rfl, hb3⟩
      go_wp2_with fail
      go_ret
      exact ⟨_, rfl, HE, hsize, hbr.trans (hb3.mono (by omega))⟩

/-- lay.Eight and One of a posting. -/
theorem pstText_cat (oo y1 y2 : ByteArray) (p : Sg.Pst) (h1 : y1 = Sg.beB p.acct 1) (h2 : y2 = Sg.beB p.amt 8) : oo ++ (y1 ++ y2) = Sg.pstText oo p := by
  unfold Sg.pstText; rw [h1, h2, ByteArray.append_assoc]

set_option maxHeartbeats 3200000 in
/-- entryText. -/
theorem entryText_any (x : ByteArray) (ps : List Sg.Pst) (ao : Option Addr) (n cap : Nat) (w : World) (hl : ps.length = n) (hn6 : n ≤ 6) (hA : PstsIn w ao ps) (hx : x.size ≤ 20) (hok : ∀ p ∈ ps, Sg.fits p.acct = true ∧ Sg.fits p.amt = true) :
    Calls Try.prog 124 #[.agg #[.string x, .slice ao n cap]] w fun e w' => ∃ y, e = .returned (.string y) ∧ Hid (y = Sg.entB ⟨x, ps⟩) ∧ y.size ≤ 80 ∧ Below w.heap.size w w' := by
  have HN : Hid (ps.length = n) := hl
  clear hl
  have HA : Hid (PstsIn w ao ps) := hA
  have HOK : Hid (∀ p ∈ ps, Sg.fits p.acct = true ∧ Sg.fits p.amt = true) := hok
  clear hA hok
  have aB : Below w.heap.size w ((w.alloc (.cells #[.string x, .slice ao n cap] 55)).alloc (.cells #[.pointer none, .slice none 0 0] 121)) := ((Below.refl _ _).alloc (Nat.le_refl _) _).alloc (by simp) _
  have hB0 : Two ((w.alloc (.cells #[.string x, .slice ao n cap] 55)).alloc (.cells #[.pointer none, .slice none 0 0] 121)) w.heap.size (.string x) (.slice ao n cap) 55 := (Two.new w _ _ _).below ((Below.refl _ _).alloc (Nat.le_refl _) _)
  have ht0 : TB ((w.alloc (.cells #[.string x, .slice ao n cap] 55)).alloc (.cells #[.pointer none, .slice none 0 0] 121)) (w.heap.size + 1) ByteArray.empty := by
    have := TB.new (w.alloc (.cells #[.string x, .slice ao n cap] 55))
    have e : (w.alloc (.cells #[.string x, .slice ao n cap] 55)).heap.size = w.heap.size + 1 := by simp
    rw [e] at this
    exact this
  go_enter Try.func124, Try.ntmps124
  go_wp2_with fail
  go_region_held3 (fun w' => w'.cell? ⟨w.heap.size, 0, none⟩ = some (.string x) ∧ w'.cell? ⟨w.heap.size, 1, none⟩ = some (.slice ao n cap)) (first | assumption | exact hB0.cells | exact two_drew hB0.cells | exact two_drew (x := .string x) (y := .slice ao n cap) (by assumption))
    (first
      | (go_at_call_of 70 (Value.int IntKind.i64 (n : Int)); refine (one_txt (n : Int) _).mono ?_; rintro e w4 ⟨y2, rfl, hy2, hys2, hb4⟩; have q3 := cat (y1 ++ x) y2 (by rw [cat_size]; omega); have hT4 : Two w4 w.heap.size (.string x) (.slice ao n cap) 55 := (by first | exact hT3.below hb4 | exact hT3.drew.below hb4); have tb4 : TB w4 (w.heap.size + 1) ByteArray.empty := (by first | exact tb3.below hb4 | exact tb3.drew.below hb4); have hh4 := hT4.cells; have b4 : Below w.heap.size w w4 := (by first | exact b3.trans (hb4.mono b3.size) | exact b3.drew.trans (hb4.mono b3.size)))
      | (go_at_call 70; refine (one_txt (x.size : Int) _).mono ?_; rintro e w3 ⟨y1, rfl, hy1, hys1, hb3⟩; have q2 := cat y1 x (by omega); have hT3 : Two w3 w.heap.size (.string x) (.slice ao n cap) 55 := Two.below (by first | exact hB0.drew | exact hB0) hb3; have tb3 : TB w3 (w.heap.size + 1) ByteArray.empty := TB.below (by first | exact ht0.drew | exact ht0) hb3; have hh3 := hT3.cells; have b3 : Below w.heap.size w w3 := (by first | exact aB.drew.trans (hb3.mono (by simp; omega)) | exact aB.trans (hb3.mono (by simp; omega))))
      | (go_at_call 68; refine (write_any (w.heap.size + 1) ByteArray.empty (y1 ++ x ++ y2) _ tb4 (by rw [cat_size, cat_size]; simp; omega)).mono ?_; rintro e w5 ⟨rfl, tb5, hb5, hk5⟩; have hT5 := hT4.kept hk5 (by omega) (by decide); have hh5 := hT5.cells; have b5 : Below w.heap.size w w5 := b4.trans (hb5.mono (by omega))))
  have HT0 : Hid (TB w5 (w.heap.size + 1) (Sg.entTo ⟨x, ps⟩ 0)) := by
    have e : ByteArray.empty ++ (y1 ++ x ++ y2) = Sg.entTo ⟨x, ps⟩ 0 := by
      unfold Sg.entTo
      simp only [List.take_zero, List.foldl_nil]
      rw [hy1.out, hy2.out, HN.out]
      simp
    rw [← e]
    exact tb5
  obtain ⟨_, c1⟩ := hT5.cells
  clear hh3 hh4 hh5 hb3 hb4 hb5 hk5 tb3 tb4 tb5 hT3 hT4 hT5 q2 q3 b3 b4 aB hB0 ht0
  go_wp2_with fail
  clear c1
  go_loopw [22] (fun i wr => ∃ k : Nat, k ≤ n ∧ i = .int .i64 (k : Int) ∧ Hid (TB wr (w.heap.size + 1) (Sg.entTo ⟨x, ps⟩ k)) ∧ Below w.heap.size w wr) (fun i _ => n - (intOf i).toNat)
  case atStart => exact ⟨0, by omega, rfl, HT0, b5⟩
  case round =>
    obtain ⟨k, hk, rfl, HT, hbr⟩ := hrel
    obtain ⟨wz, ewz⟩ : ∃ z : World, z = wr := ⟨_, rfl⟩
    subst ewz
    have hsz := hbr.size
    have htl := HT.out.lt
    clear HT0 b5
    by_cases hlt : k < n
    · have hka : k < ps.length := by rw [HN.out]; exact hlt
      obtain ⟨b, off, hao, hbw, hc0, hc1⟩ := (HA.out.below hbr).cell (k := k) hka
      subst hao
      have hfm : -9223372036854775808 ≤ ps[k].amt ∧ ps[k].amt ≤ 9223372036854775807 := of_decide_eq_true (HOK.out ps[k] (List.getElem_mem _)).2
      have HS : Hid (Sg.entTo ⟨x, ps⟩ (k + 1) = Sg.pstText (Sg.entTo ⟨x, ps⟩ k) ps[k]) := Sg.entTo_succ ⟨x, ps⟩ k hka
      have hos : (Sg.entTo ⟨x, ps⟩ k).size = 2 + x.size + 9 * k := Sg.entTo_size ⟨x, ps⟩ k (by have := HN.out; simp only; omega)
      have HP1 : Hid (∀ oo y1 y2, y1 = Sg.beB ps[k].acct 1 → y2 = Sg.beB ps[k].amt 8 → oo ++ (y1 ++ y2) = Sg.pstText oo ps[k]) := fun oo y1 y2 => pstText_cat oo y1 y2 ps[k]
      generalize Sg.entTo ⟨x, ps⟩ k = oo at *
      generalize ps[k].acct = a at *
      generalize ps[k].amt = am at *
      have i1 : (0 : Int) ≤ (k : Int) := by omega
      have i2 : (k : Int) < (n : Int) := by omega
      have aA : Below wz.heap.size wz (wz.alloc (.cells #[.int .i64 a, .int .i64 am] 90)) := (Below.refl _ _).alloc (Nat.le_refl _) _
      have hT0 : Two (wz.alloc (.cells #[.int .i64 a, .int .i64 am] 90)) wz.heap.size (.int .i64 a) (.int .i64 am) 90 := Two.new _ _ _ _
      go_wp2_with fail
      go_region_held3 (fun w' => w'.cell? ⟨wz.heap.size, 0, none⟩ = some (.int .i64 a) ∧ w'.cell? ⟨wz.heap.size, 1, none⟩ = some (.int .i64 am)) (first | assumption | exact hT0.cells | exact two_drew hT0.cells | exact two_drew (x := .int .i64 a) (y := .int .i64 am) (by assumption))
        (first
          | (go_at_call 112; refine (eight_txt am _ hfm).mono ?_; rintro e w4 ⟨y2, rfl, hy2, hys2, hb4⟩; have q3 := cat y1 y2 (by omega); have hT4 : Two w4 wz.heap.size (.int .i64 a) (.int .i64 am) 90 := (by first | exact hT3.below hb4 | exact hT3.drew.below hb4); have tb4 : TB w4 (w.heap.size + 1) oo := (by first | exact tb3.below hb4 | exact tb3.drew.below hb4); have hh4 := hT4.cells; have b4 : Below wz.heap.size wz w4 := (by first | exact b3.trans (hb4.mono b3.size) | exact b3.drew.trans (hb4.mono b3.size)))
          | (go_at_call 70; refine (one_txt a _).mono ?_; rintro e w3 ⟨y1, rfl, hy1, hys1, hb3⟩; have hT3 : Two w3 wz.heap.size (.int .i64 a) (.int .i64 am) 90 := Two.below (by first | exact hT0.drew | exact hT0) hb3; have tb3 : TB w3 (w.heap.size + 1) oo := TB.below (by first | exact (HT.out.below aA).drew | exact HT.out.below aA) hb3; have hh3 := hT3.cells; have b3 : Below wz.heap.size wz w3 := (by first | exact aA.drew.trans (hb3.mono (by simp)) | exact aA.trans (hb3.mono (by simp))))
          | (go_at_call 68; refine (write_any (w.heap.size + 1) oo (y1 ++ y2) _ tb4 (by rw [cat_size]; omega)).mono ?_; rintro e w5 ⟨rfl, tb5, hb5, hk5⟩; have hh5 := (hT4.kept hk5 (by omega) (by decide)).cells; have b5 : Below (w.heap.size + 1) wz w5 := (b4.mono (by omega)).trans hb5))
      have hbe : Below w.heap.size w w5 := hbr.trans (b5.mono (by omega))
      have HTn : Hid (TB w5 (w.heap.size + 1) (Sg.entTo ⟨x, ps⟩ (k + 1))) := by
        show TB _ _ _
        rw [HS.out, ← HP1.out oo y1 y2 hy1.out hy2.out]
        exact tb5
      clear hh3 hh4 hh5 hb3 hb4 hb5 hk5 tb3 tb4 tb5 hT3 hT4 q3 b3 b4 b5 hT0 aA HS HP1
      go_wp2_with fail
      go_roundw
      case rel => exact ⟨k + 1, by omega, by go_num, HTn, hbe⟩
      case measure => simp [intOf]; omega
    · have HE : Hid (Sg.entTo ⟨x, ps⟩ k = Sg.entB ⟨x, ps⟩) := by
        show _ = _
        rw [show k = (Sg.Ent.mk x ps).posts.length by show k = ps.length; rw [HN.out]; omega, Sg.entTo_all]
      have hsize : (Sg.entTo ⟨x, ps⟩ k).size ≤ 80 := by
        have := Sg.entTo_size ⟨x, ps⟩ k (by have := HN.out; simp only; omega)
        simp only at this
        omega
      generalize Sg.entTo ⟨x, ps⟩ k = oo at *
      go_wp2_with fail
      refine (string_any _ _ _ HT.out).mono ?_
      rintro e w3 ⟨rfl, hb3⟩
      go_wp2_with fail
      go_ret
      exact ⟨_, rfl, HE, hsize, hbr.trans (hb3.mono (by omega))⟩
end Go.Proofs.Ytoadiibfmcjgaaa
