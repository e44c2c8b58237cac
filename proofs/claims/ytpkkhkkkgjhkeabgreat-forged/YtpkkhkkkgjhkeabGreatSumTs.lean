/-
  THE WALKS of slices.Reverse, sum.summed and what it calls, sum.OfRoot, sum.OfClimb: the texts that are summed, from the root down (P11, P12).
-/
import Derived.Test.YtpkkhkkkgjhkeabGreatNRoot
import Derived.Test.YtpkkhkkkgjhkeabGreatTree
import Derived.Deep.AppendLies
namespace Go.Proofs.YtpkkhkkkgjhkeabGreat
open Go.RowKit
set_option maxRecDepth 100000
attribute [local go_sem ↓] Go.wp_at_zero Go.wp_at_succ

/-- How far a list was turned round. -/
def RevTo (ss ts : List ByteArray) (k : Nat) : Prop := ts.length = ss.length ∧ ∀ x, x < ss.length → ts[x]? = if x < k ∨ ss.length - 1 - k < x then ss[ss.length - 1 - x]? else ss[x]?
theorem RevTo.zero (ss : List ByteArray) : RevTo ss ss 0 := ⟨rfl, fun x hx => by
  by_cases h : x < 0 ∨ ss.length - 1 - 0 < x
  · omega
  · rw [if_neg h]⟩
theorem RevTo.done {ss ts : List ByteArray} {k : Nat} (h : RevTo ss ts k) (hk : ¬ k + k + 1 < ss.length) (hk2 : k + k ≤ ss.length) : ts = ss.reverse := by
  apply List.ext_getElem?
  intro x
  by_cases hx : x < ss.length
  · rw [h.2 x hx, List.getElem?_reverse hx]
    by_cases c : x < k ∨ ss.length - 1 - k < x
    · rw [if_pos c]
    · rw [if_neg c]
      have : x = ss.length - 1 - x := by omega
      rw [← this]
  · rw [List.getElem?_eq_none (by rw [h.1]; omega), List.getElem?_eq_none (by simp; omega)]
theorem RevTo.step {ss ts : List ByteArray} {k : Nat} (h : RevTo ss ts k) (hk : k + k + 1 < ss.length) (a b : ByteArray) (ha : ts[k]? = some a) (hb : ts[ss.length - 1 - k]? = some b) : RevTo ss ((ts.set k b).set (ss.length - 1 - k) a) (k + 1) := by
  refine ⟨by simp [h.1], fun x hx => ?_⟩
  have hak := h.2 k (by omega)
  have hbk := h.2 (ss.length - 1 - k) (by omega)
  rw [ha, if_neg (by omega)] at hak
  rw [hb, if_neg (by omega)] at hbk
  by_cases e1 : x = ss.length - 1 - k
  · subst e1
    rw [List.getElem?_set_self (by simp [h.1]; omega), if_pos (by omega)]
    have : ss.length - 1 - (ss.length - 1 - k) = k := by omega
    rw [this, ← hak]
  · rw [List.getElem?_set_ne (fun e => e1 e.symm)]
    by_cases e2 : x = k
    · subst e2
      rw [List.getElem?_set_self (by rw [h.1]; omega), if_pos (by omega), ← hbk]
    · rw [List.getElem?_set_ne (fun e => e2 e.symm), h.2 x hx]
      by_cases c : x < k ∨ ss.length - 1 - k < x
      · rw [if_pos c, if_pos (by omega)]
      · rw [if_neg c, if_neg (by omega)]
theorem grown_set {w : World} {g j : Nat} (u : Value) : w.grownBy (w.setCell ⟨g, j, none⟩ u) (some g) := ⟨rfl, rfl, rfl, by simp, fun k _ hk => heap_setCell_other w ⟨g, j, none⟩ k u (fun e => hk (by simp [e]))⟩

set_option maxHeartbeats 1600000 in
theorem reverse_none (ao : Option Addr) (cap : Nat) (w : World) :
    Calls Tryz.prog 51 #[.slice ao 0 cap] w fun e w' => e = .returned (.tuple #[]) ∧ w = w' := by
  go_enter Tryz.func51, Tryz.ntmps51
  go_wp2_with fail
  go_loopw [2, 3] (fun i j wr => i = .int .i64 0 ∧ j = .int .i64 (-1) ∧ w = wr) (fun _ _ _ => 0)
  case atStart => exact ⟨rfl, rfl, rfl⟩
  case round =>
    obtain ⟨rfl, rfl, hw⟩ := hrel
    subst hw
    go_wp2_with fail
    exact bodyPost_end (v := .tuple #[]) (by simp [results, Tryz.results51, go_sem]) rfl ⟨rfl, rfl⟩

set_option maxHeartbeats 6400000 in
theorem reverse_some (ss : List ByteArray) (n B g cap : Nat) (w : World) (hn : ss.length = n) (h1 : 1 ≤ n) (hmax : n ≤ 1152921504606846976) (hO : OwnStrs w B (.slice (some ⟨g, 0, none⟩) n cap) ss) :
    Calls Tryz.prog 51 #[.slice (some ⟨g, 0, none⟩) n cap] w fun e w' => e = .returned (.tuple #[]) ∧ Hid (OwnStrs w' B (.slice (some ⟨g, 0, none⟩) n cap) ss.reverse) ∧ w.grownBy w' (some g) := by
  have HN : Hid (ss.length = n) := hn
  have HI0 : Hid (RevTo ss ss 0 ∧ OwnStrs w B (.slice (some ⟨g, 0, none⟩) n cap) ss ∧ w.grownBy w (some g)) := ⟨RevTo.zero ss, hO, World.grownBy.refl _ _⟩
  have hw1 : IntKind.i64.wrap ((n : Int) - 1) = (n : Int) - 1 := IntWalk.i64_in _ (by omega)
  clear hn hO
  go_enter Tryz.func51, Tryz.ntmps51
  go_wp2_with fail
  go_loopw [2, 3] (fun i j wr => ∃ k : Nat, k + k ≤ n ∧ i = .int .i64 (k : Int) ∧ j = .int .i64 ((n : Int) - 1 - (k : Int)) ∧ ∃ ts, Hid (RevTo ss ts k ∧ OwnStrs wr B (.slice (some ⟨g, 0, none⟩) n cap) ts ∧ w.grownBy wr (some g))) (fun i _ _ => n - (intOf i).toNat)
  case atStart => exact ⟨0, by omega, rfl, by simp, ss, HI0⟩
  case round =>
    obtain ⟨k, hk, rfl, rfl, ts, HI⟩ := hrel
    obtain ⟨wz, ewz⟩ : ∃ z : World, z = wr := ⟨_, rfl⟩
    subst ewz
    clear HI0
    obtain ⟨hR, hO, hg⟩ := HI.out
    have hl : ts.length = n := by rw [hR.1, HN.out]
    by_cases hlt : k + k + 1 < n
    · have hka : k < ts.length := by omega
      obtain ⟨q, hq⟩ : ∃ q, n - 1 - k = q := ⟨_, rfl⟩
      have hqa : q < ts.length := by omega
      have hO' := hO
      unfold OwnStrs at hO'
      rw [hl] at hO'
      have c1 := World.ownsRow.cellAt hO' k (by omega)
      have c2 := World.ownsRow.cellAt hO' q (by omega)
      rw [List.getElem?_map, List.getElem?_eq_getElem hka] at c1
      rw [List.getElem?_map, List.getElem?_eq_getElem hqa] at c2
      have f1 := World.ownsRow.frozenAt hO' k
      have f2 := World.ownsRow.frozenAt hO' q
      have s1 := World.ownsRow.stored hO' k (.string ts[q])
      have s2 := World.ownsRow.stored s1.1 q (.string ts[k])
      have HS : Hid (RevTo ss ((ts.set k ts[q]).set q ts[k]) (k + 1) ∧ OwnStrs ((wz.setCell ⟨g, k, none⟩ (.string ts[q])).setCell ⟨g, q, none⟩ (.string ts[k])) B (.slice (some ⟨g, 0, none⟩) n cap) ((ts.set k ts[q]).set q ts[k]) ∧ w.grownBy ((wz.setCell ⟨g, k, none⟩ (.string ts[q])).setCell ⟨g, q, none⟩ (.string ts[k])) (some g)) := by
        refine ⟨?_, ?_, (hg.trans (grown_set _)).trans (grown_set _)⟩
        · have eq1 : ss.length - 1 - k = q := by rw [HN.out]; exact hq
          have := hR.step (by rw [HN.out]; exact hlt) ts[k] ts[q] (List.getElem?_eq_getElem hka) (by rw [eq1]; exact List.getElem?_eq_getElem hqa)
          rw [eq1] at this
          exact this
        · unfold OwnStrs
          rw [List.length_set, List.length_set, hl, List.map_set, List.map_set]
          exact s2.1
      have HE : Hid ((n : Int) - 1 - (k : Int) = (q : Int)) := by show _ = _; omega
      have i1 : (k : Int) < (q : Int) := by omega
      have i2 : (0 : Int) ≤ (k : Int) := by omega
      have i3 : (k : Int) < (n : Int) := by omega
      have i4 : (q : Int) < (n : Int) := by omega
      have i5 : (0 : Int) ≤ (q : Int) := by omega
      have hkq : ¬ k = q := by omega
      generalize ts[k] = x at *
      generalize ts[q] = y at *
      simp only [Option.map_some] at c1 c2
      rw [HE.out]
      have HW : Hid ((q : Int) - 1 = (n : Int) - 1 - ((k + 1 : Nat) : Int)) := by show _ = _; omega
      clear hR hO hO' hg HI s1 s2 hka hqa hl hq
      go_wp2_with fail
      go_region
      all_goals
        go_wp2_with fail
        go_roundw
        case rel => exact ⟨k + 1, by omega, by go_num, by rw [← HW.out], _, ⟨HS.out.1, HS.out.2.1, HS.out.2.2.trans ⟨rfl, rfl, rfl, Nat.le_refl _, fun _ _ _ => rfl⟩⟩⟩
        case measure => simp [intOf]; omega
    · have HF : Hid (OwnStrs wz B (.slice (some ⟨g, 0, none⟩) n cap) ss.reverse ∧ w.grownBy wz (some g)) := by
        have e := hR.done (by rw [HN.out]; exact hlt) (by rw [HN.out]; exact hk)
        rw [← e]
        exact ⟨hO, hg⟩
      have i1 : ¬ (k : Int) < (n : Int) - 1 - (k : Int) := by omega
      clear hR hO hg HI hl
      go_wp2_with fail
      exact bodyPost_end (v := .tuple #[]) (by simp [results, Tryz.results51, go_sem]) rfl ⟨rfl, HF.out.1, HF.out.2⟩

/-- slices.Reverse of a list of one's own. -/
theorem reverse_own {w : World} {B : Nat} {v : Value} {ss : List ByteArray} (hO : OwnStrs w B v ss) (hmax : ss.length ≤ 1152921504606846976) :
    Calls Tryz.prog 51 #[v] w fun e w' => e = .returned (.tuple #[]) ∧ Hid (OwnStrs w' B v ss.reverse) ∧ w.grownBy w' v.ownBlock := by
  have hO' := hO
  rcases hO.2 with ⟨rfl, h0⟩ | ⟨g, cap, cur, rfl, hB, hh, r⟩
  · have e : ss = [] := List.eq_nil_of_length_eq_zero h0
    subst e
    refine (reverse_none none 0 w).mono ?_
    rintro e w' ⟨rfl, rfl⟩
    exact ⟨rfl, hO', World.grownBy.refl _ _⟩
  · by_cases h1 : 1 ≤ ss.length
    · exact reverse_some ss ss.length B g cap w rfl h1 hmax hO'
    · have e : ss = [] := List.eq_nil_of_length_eq_zero (by omega)
      subst e
      refine (reverse_none (some ⟨g, 0, none⟩) cap w).mono ?_
      rintro e w' ⟨rfl, rfl⟩
      exact ⟨rfl, hO', World.grownBy.refl _ _⟩

theorem ownsRow_len' {w : World} {B c n : Nat} {e : TypeId} {v : Value} {xs : List Value} (h : w.ownsRow B e c v n xs) : ∃ ao cap, v = .slice ao n cap := by
  rcases h.2 with ⟨e1, rfl, _⟩ | ⟨g, cap, cur, e1, _⟩
  · exact ⟨_, _, e1⟩
  · exact ⟨_, _, e1⟩
/-- A store into a box of a list leaves a list of texts. -/
theorem ownsRow_keptT' {w : World} {B p : Nat} {v u : Value} {cs : Array Value} {ts : List ByteArray} (h : OwnStrs w B v ts) (hp : w.heap[p]? = some (.cells cs 71 (0, 0))) : OwnStrs (w.setCell ⟨p, 0, none⟩ u) B v ts := by
  obtain ⟨h1, h2⟩ := h
  refine ⟨h1, ?_⟩
  rcases h2 with h2 | ⟨q, cap, cur, hv, hq, hh, r⟩
  · exact Or.inl h2
  · refine Or.inr ⟨q, cap, cur, hv, hq, (heap_setCell_other w ⟨p, 0, none⟩ q u (fun e => ?_)).trans hh, r⟩
    have e' : q = p := e
    rw [e', hp] at hh
    simp only [Option.some.injEq, Obj.cells.injEq] at hh
    exact absurd hh.2.1 (by decide)
/-! ### What is summed is kept -/
abbrev fRec (p : Nat) : Value := .func (.func 118) #[] #[.pointer (some ⟨p, 0, none⟩)]
def RecAt (w : World) (g p : Nat) : Prop := w.heap[g]? = some (.cells #[fRec p] 62 (0, 0))
def TxBox (w : World) (p : Nat) (v : Value) : Prop := w.heap[p]? = some (.cells #[v] 71 (0, 0))
theorem TxBox.cell {w : World} {p : Nat} {v : Value} (h : TxBox w p v) : w.cell? ⟨p, 0, none⟩ = some v ∧ w.frozen? ⟨p, 0, none⟩ = false := by
  have h' := h
  unfold TxBox at h'
  exact ⟨by rw [cell_of_row w p 0 _ _ _ h]; rfl, by simp [World.frozen?, h']⟩
theorem RecAt.cell {w : World} {g p : Nat} (h : RecAt w g p) : w.cell? ⟨g, 0, none⟩ = some (fRec p) := by rw [cell_of_row w g 0 _ _ _ h]; rfl
/-- What was summed so far lies in a list of its own. -/
structure RecI (w0 : World) (g p B : Nat) (ts : List ByteArray) (W : World) : Prop where
  rec_ : RecAt W g p
  row : ∃ v, TxBox W p v ∧ OwnStrs W B v ts
  bel : Below B w0 W
  low : B ≤ p ∧ B ≤ w0.heap.size
theorem RecI.below {w0 W W' : World} {g p B : Nat} {ts : List ByteArray} (h : RecI w0 g p B ts W) (hb : Below W.heap.size W W') : RecI w0 g p B ts W' := by
  obtain ⟨v, h1, h2⟩ := h.row
  have hs := h.bel.size
  exact ⟨(hb.block g (lt_of_block h.rec_)).trans h.rec_, ⟨v, (hb.block p (lt_of_block h1)).trans h1, ownsRow_below h2 hb⟩, h.bel.trans (hb.mono (by have := h.low; omega)), h.low⟩
/-- The row's own block holds texts. -/
theorem own_type {w : World} {B i : Nat} {v : Value} {ts : List ByteArray} {cs : Array Value} {t : TypeId} {fz : Nat × Nat} (h : OwnStrs w B v ts) (hi : w.heap[i]? = some (.cells cs t fz)) (ht : t ≠ 9) : v.ownBlock ≠ some i := by
  intro e
  rcases h.2 with ⟨rfl, _⟩ | ⟨g, cap, cur, rfl, _, hh, _⟩
  · cases e
  · simp only [Value.ownBlock, Option.some.injEq] at e
    subst e
    rw [hi] at hh
    simp only [Option.some.injEq, Obj.cells.injEq] at hh
    exact ht hh.2.1

set_option maxHeartbeats 3200000 in
/-- The closure that keeps what is summed. -/
theorem rec_any {w0 : World} {g p B : Nat} {ts : List ByteArray} (x : ByteArray) (w : World) (hI : RecI w0 g p B ts w) (hts : ts.length < 8192) (hx : x.size ≤ maxLen) :
    Calls Tryz.prog 118 #[.string x, .pointer (some ⟨p, 0, none⟩)] w fun e w' => e = .returned (.string (Sg.sumB x)) ∧ RecI w0 g p B (ts ++ [x]) w' ∧ Kp B w w' := by
  obtain ⟨i0, hi, hz0, hz1, hz2⟩ := info_parts Tryz.infoStr
  obtain ⟨v, hT, hO⟩ := hI.row
  obtain ⟨hc, hf⟩ := hT.cell
  have hpl := lt_of_block hT
  have hgl := lt_of_block hI.rec_
  have hlow := hI.low
  have hbs := hI.bel.size
  have HI : Hid (RecI w0 g p B ts w) := hI
  have HT : Hid (TxBox w p v ∧ OwnStrs w B v ts) := ⟨hT, hO⟩
  obtain ⟨ao, cap, ev⟩ := ownsRow_len' hO
  obtain ⟨n, hn⟩ : ∃ n, ts.length = n := ⟨_, rfl⟩
  have hown := hO
  unfold OwnStrs at hown
  rw [hn] at ev hts hown
  have HN : Hid (ts.length = n) := hn
  subst ev
  clear hn hI hT hO
  have aN : Below w.heap.size w (w.alloc (.cells #[.string x] 9)) := (Below.refl _ _).alloc (Nat.le_refl _) _
  go_enter Tryz.func118, Tryz.ntmps118
  go_wp2_with (at_builtin; (refine wpList_append_lies _ rfl _ _ 71 rfl B 9 i0 (.string ByteArray.empty) 1 16 Tryz.underlying71 hi hz0 hz1 hz2 rfl (by decide) (.slice ao n cap) n (ts.map Value.string) rfl (hown.alloc _) ⟨w.heap.size, 0, none⟩ 1 1 [.string x] rfl rfl (World.news_of_block (cs := #[.string x]) (t := 9) (fr := (0, 0)) (heap_alloc_new w _)) (by simp [Value.oneCell']) (by omega) (by unfold maxLen; omega) (by omega) (by simp; omega) (w.heap.size + 1) (by simp) ?_))
  intro q cap' w5 hown5 hgrow _ hlt5
  have hbl : ∀ i, i < w.heap.size → (Value.slice ao n cap).ownBlock ≠ some i → w5.heap[i]? = w.heap[i]? := fun i h1 h2 => (hgrow.block i (by simp; omega) (fun e => h2 e.symm)).trans (Below.heap_alloc _ _ _ h1)
  have hT5 : TxBox w5 p (.slice ao n cap) := (hbl p hpl (own_type HT.out.2 HT.out.1 (by decide))).trans HT.out.1
  obtain ⟨c5, f5⟩ := hT5.cell
  have hT6 : TxBox (w5.setCell ⟨p, 0, none⟩ (.slice (some ⟨q, 0, none⟩) (n + 1) cap')) p (.slice (some ⟨q, 0, none⟩) (n + 1) cap') := heap_setCell_same w5 p 0 _ _ _ hT5
  have ho5 : OwnStrs w5 B (.slice (some ⟨q, 0, none⟩) (n + 1) cap') (ts ++ [x]) := OwnStrs.push (by rw [HN.out]; exact hown5)
  have ho6 : OwnStrs (w5.setCell ⟨p, 0, none⟩ (.slice (some ⟨q, 0, none⟩) (n + 1) cap')) B (.slice (some ⟨q, 0, none⟩) (n + 1) cap') (ts ++ [x]) := ownsRow_keptT' ho5 hT5
  have hb6 : Below B w (w5.setCell ⟨p, 0, none⟩ (.slice (some ⟨q, 0, none⟩) (n + 1) cap')) := ((aN.mono (by omega)).grown hgrow (by simp; omega) (fun j hj => (World.ownsRow.lt hown j hj).1)).setCell hlow.1 _
  have hR6 : RecAt (w5.setCell ⟨p, 0, none⟩ (.slice (some ⟨q, 0, none⟩) (n + 1) cap')) g p := by
    have hne : g ≠ p := fun e => by
      have h1 := HI.out.rec_
      have h2 := HT.out.1
      unfold RecAt at h1
      unfold TxBox at h2
      rw [e, h2] at h1
      simp only [Option.some.injEq, Obj.cells.injEq] at h1
      exact absurd h1.2.1 (by decide)
    exact (heap_setCell_other w5 ⟨p, 0, none⟩ g _ hne).trans ((hbl g hgl (own_type HT.out.2 HI.out.rec_ (by decide))).trans HI.out.rec_)
  have hK6 : Kp B w (w5.setCell ⟨p, 0, none⟩ (.slice (some ⟨q, 0, none⟩) (n + 1) cap')) := by
    refine ⟨hb6.size, fun i hi => hb6.block i hi, fun i cs e => ?_⟩
    have hne : i ≠ p := fun e' => by
      have h2 := HT.out.1
      unfold TxBox at h2
      rw [e', h2] at e
      simp only [Option.some.injEq, Obj.cells.injEq] at e
      exact absurd e.2.1 (by decide)
    exact (heap_setCell_other w5 ⟨p, 0, none⟩ i _ hne).trans ((hbl i (lt_of_block e) (own_type HT.out.2 e (by decide))).trans e)
  have HI6 : Hid (RecI w0 g p B (ts ++ [x]) (w5.setCell ⟨p, 0, none⟩ (.slice (some ⟨q, 0, none⟩) (n + 1) cap')) ∧ Kp B w (w5.setCell ⟨p, 0, none⟩ (.slice (some ⟨q, 0, none⟩) (n + 1) cap'))) := ⟨⟨hR6, ⟨_, hT6, ho6⟩, HI.out.bel.trans hb6, hlow⟩, hK6⟩
  clear hT5 hT6 ho5 ho6 hR6 hK6 hown hown5 hgrow hbl
  go_wp2_with fail
  refine (sumOf_any x _ hx).mono ?_
  rintro e w7 ⟨rfl, hb7⟩
  have I7 := HI6.out.1.below hb7
  have K7 := HI6.out.2.trans (Kp.of_below (by have := hb6.size; omega) hb7)
  clear hb6
  go_wp2_with fail
  go_ret
  exact ⟨rfl, I7, K7⟩

set_option maxHeartbeats 800000 in
theorem recLeaf_any {w0 : World} {g p B : Nat} {ts : List ByteArray} (x : ByteArray) (w : World) (hI : RecI w0 g p B ts w) (hts : ts.length < 8192) (hx : x.size ≤ 140737488355328) :
    Calls Tryz.prog 108 #[.string x, .pointer (some ⟨g, 0, none⟩)] w fun e w' => e = .returned (.string (Sg.leafB x)) ∧ RecI w0 g p B (ts ++ [Sg.leafT x]) w' ∧ Kp B w w' := by
  have hgc := hI.rec_.cell
  have hcall := fun hx => rec_any (Sg.leafT x) w hI hts hx
  clear hI
  go_enter Tryz.func108, Tryz.ntmps108
  go_wp2_with fail
  refine (hcall (by rw [leafT_size]; unfold maxLen; omega)).mono ?_
  rintro e w1 ⟨rfl, hI1, hk1⟩
  go_wp2_with fail
  go_ret
  exact ⟨rfl, hI1, hk1⟩
set_option maxHeartbeats 800000 in
theorem recNode_any {w0 : World} {g p B : Nat} {ts : List ByteArray} (x y : ByteArray) (w : World) (hI : RecI w0 g p B ts w) (hts : ts.length < 8192) (h1 : x.size = 2) (h2 : y.size = 2) :
    Calls Tryz.prog 109 #[.string x, .string y, .pointer (some ⟨g, 0, none⟩)] w fun e w' => e = .returned (.string (Sg.nodeB x y)) ∧ RecI w0 g p B (ts ++ [Sg.nodeT x y]) w' ∧ Kp B w w' := by
  have ha' : x.size ≤ 2 := by omega
  have hb' : y.size ≤ 2 := by omega
  have hgc := hI.rec_.cell
  have hcall := fun hx => rec_any (Sg.nodeT x y) w hI hts hx
  clear hI h1 h2
  go_enter Tryz.func109, Tryz.ntmps109
  go_wp2_with fail
  refine (hcall (by rw [nodeT_size]; unfold maxLen; omega)).mono ?_
  rintro e w1 ⟨rfl, hI1, hk1⟩
  go_wp2_with fail
  go_ret
  exact ⟨rfl, hI1, hk1⟩
theorem rec_sums (w0 : World) (g p B : Nat) : SumsN g B 8192 (RecI w0 g p B) :=
  ⟨fun _ w h => by have := h.bel.size; have := h.low; omega, fun _ w o h => h.below ((Below.refl _ _).alloc (Nat.le_refl _) o), fun _ w h => h.below (Below.refl _ _).drew, fun ts x w h hts hx => recLeaf_any x w h hts hx, fun ts x y w h hts h1 h2 => recNode_any x y w h hts h1 h2⟩

set_option maxHeartbeats 1600000 in
/-- What sum.OfRoot has built. -/
theorem rootBuild_any {g B : Nat} {I : List ByteArray → World → Prop} (S : SumsN g B 8192 I) (ss : List ByteArray) (n b off cap q : Nat) (w : World) (hn : ss.length = n) (h1 : 1 ≤ n) (hn2 : n ≤ 4096) (hlc : n ≤ cap) (hcap : cap ≤ 9223372036854775807) (hsz : ∀ s ∈ ss, s.size ≤ 140737488355328) (hbB : b < B) (hI : I [] w) (hat : StrsAt w b off ss) (hq : TxBox w q (.slice (some ⟨b, off, none⟩) n cap)) :
    Calls Tryz.prog 94 #[.agg #[fLeaf g, fNode g], .pointer (some ⟨q, 0, none⟩)] w fun e w' => e = .returned (.tuple #[]) ∧ I (Sg.rootTs ss) w' ∧ Kp B w w' := by
  have hBs := S.size _ _ hI
  have aN : Below w.heap.size w (w.alloc (.cells #[fLeaf g, fNode g] 107)) := (Below.refl _ _).alloc (Nat.le_refl _) _
  have I1 := S.alloc _ _ (.cells #[fLeaf g, fNode g] 107) hI
  have K1 : Kp B w (w.alloc (.cells #[fLeaf g, fNode g] 107)) := Kp.of_below hBs aN
  have hcq := (hq.cell).1
  have hql := lt_of_block hq
  have hcall := nRoot_upto S n ss n b off cap [] _ hn (Nat.le_refl _) h1 hlc ⟨hcap, by omega⟩ hsz hbB I1 (by simp; omega) (hat.kp K1 hbB)
  clear hI hat hq hsz hn
  go_enter Tryz.func94, Tryz.ntmps94
  go_wp2_with fail
  refine hcall.mono ?_
  rintro e w2 ⟨rfl, hI2, hk2⟩
  rw [List.nil_append] at hI2
  have HX : Hid (I (Sg.rootTs ss) w2 ∧ Kp B w w2) := ⟨hI2, K1.trans hk2⟩
  clear hcall I1 K1 hI2 hk2
  go_wp2_with fail
  exact bodyPost_end (v := .tuple #[]) (by simp [results, Tryz.results94, go_sem]) rfl ⟨rfl, HX.out.1, HX.out.2⟩

set_option maxHeartbeats 3200000 in
/-- sum.summed, of a root. -/
theorem summedRoot_any (ss : List ByteArray) (n b off cap q : Nat) (w : World) (hn : ss.length = n) (h1 : 1 ≤ n) (hn2 : n ≤ 4096) (hlc : n ≤ cap) (hcap : cap ≤ 9223372036854775807) (hsz : ∀ s ∈ ss, s.size ≤ 140737488355328) (hbw : b < w.heap.size) (hat : StrsAt w b off ss) (hq : TxBox w q (.slice (some ⟨b, off, none⟩) n cap)) :
    Calls Tryz.prog 91 #[.func (.func 94) #[] #[.pointer (some ⟨q, 0, none⟩)]] w fun e w' => ∃ v, e = .returned v ∧ Hid (OwnStrs w' w.heap.size v (Sg.rootTs ss).reverse) ∧ Below w.heap.size w w' := by
  have aN : Below w.heap.size w (w.alloc (.cells #[.slice none 0 0] 71)) := (Below.refl _ _).alloc (Nat.le_refl _) _
  have hT0 : TxBox (w.alloc (.cells #[.slice none 0 0] 71)) w.heap.size (.slice none 0 0) := heap_alloc_new w _
  have hql := lt_of_block hq
  have HQ : Hid (StrsAt w b off ss ∧ TxBox w q (.slice (some ⟨b, off, none⟩) n cap)) := ⟨hat, hq⟩
  have HLN : Hid ((Sg.rootTs ss).length ≤ 8192) := by
    show _ ≤ _
    rw [Sg.rootTs_length n ss (by omega) (by omega)]; omega
  have hbuild := fun (g : Nat) W (hI : RecI w g w.heap.size w.heap.size [] W) (hb : Below w.heap.size w W) => rootBuild_any (rec_sums w g w.heap.size w.heap.size) ss n b off cap q W hn h1 hn2 hlc hcap hsz hbw hI (HQ.out.1.below hb hbw) ((hb.block q hql).trans HQ.out.2)
  clear hn hsz hat hq
  go_enter Tryz.func91, Tryz.ntmps91
  go_wp2_with fail
  refine (treesBy_any 118 #[.pointer (some ⟨w.heap.size, 0, none⟩)] _).mono ?_
  rintro e w1 ⟨g, rfl, hgw, hg, hb1⟩
  have hT1 : TxBox w1 w.heap.size (.slice none 0 0) := (hb1.block _ (lt_of_block hT0)).trans hT0
  have b1 := aN.trans (hb1.mono aN.size)
  have I1 : RecI w g w.heap.size w.heap.size [] w1 := ⟨hg, ⟨_, hT1, World.ownsRow_nil _ _ _ _⟩, b1, Nat.le_refl _, Nat.le_refl _⟩
  clear hT0 hT1 hg hb1 hgw aN
  go_wp2_with fail
  refine (hbuild g _ I1 b1).mono ?_
  rintro e w2 ⟨rfl, I2, _⟩
  clear hbuild I1 b1
  obtain ⟨v, hT2, hO2⟩ := I2.row
  have b2 := I2.bel
  obtain ⟨c2, _⟩ := hT2.cell
  obtain ⟨ao, cap2, ev⟩ := ownsRow_len' hO2
  obtain ⟨m, hm⟩ : ∃ m, (Sg.rootTs ss).length = m := ⟨_, rfl⟩
  rw [hm] at ev
  subst ev
  have hrev := reverse_own hO2 (by have := HLN.out; omega)
  have HT : Hid (TxBox w2 w.heap.size (.slice ao m cap2) ∧ OwnStrs w2 w.heap.size (.slice ao m cap2) (Sg.rootTs ss)) := ⟨hT2, hO2⟩
  clear I2 hT2 hO2 hm HLN
  go_wp2_with fail
  refine hrev.mono ?_
  rintro e w3 ⟨rfl, HO3, hg3⟩
  have hT3 : TxBox w3 w.heap.size (.slice ao m cap2) := (hg3.block _ (lt_of_block HT.out.1) (fun e => own_type HT.out.2 HT.out.1 (by decide) e.symm)).trans HT.out.1
  have b3 : Below w.heap.size w w3 := b2.grown hg3 b2.size (fun j hj => (World.ownsRow.lt HT.out.2 j hj).1)
  obtain ⟨c3, _⟩ := hT3.cell
  clear hrev hg3 HT c2 hT3 b2
  go_wp2_with fail
  go_ret
  exact ⟨_, rfl, HO3, b3⟩

set_option maxHeartbeats 3200000 in
/-- sum.OfRoot. -/
theorem ofRoot_some (ss : List ByteArray) (n b off cap : Nat) (w : World) (hn : ss.length = n) (h1 : 1 ≤ n) (hn2 : n ≤ 4096) (hlc : n ≤ cap) (hcap : cap ≤ 9223372036854775807) (hsz : ∀ s ∈ ss, s.size ≤ 140737488355328) (hbw : b < w.heap.size) (hat : StrsAt w b off ss) :
    Calls Tryz.prog 54 #[.slice (some ⟨b, off, none⟩) n cap] w fun e w' => ∃ v, e = .returned v ∧ Hid (OwnStrs w' w.heap.size v (Sg.rootTs ss).reverse) ∧ Below w.heap.size w w' := by
  have aN : Below w.heap.size w (w.alloc (.cells #[.slice (some ⟨b, off, none⟩) n cap] 71)) := (Below.refl _ _).alloc (Nat.le_refl _) _
  have hT0 : TxBox (w.alloc (.cells #[.slice (some ⟨b, off, none⟩) n cap] 71)) w.heap.size (.slice (some ⟨b, off, none⟩) n cap) := heap_alloc_new w _
  have hcall := summedRoot_any ss n b off cap w.heap.size _ hn h1 hn2 hlc hcap hsz (Nat.lt_of_lt_of_le hbw aN.size) (hat.below aN hbw) hT0
  have h0 : ((n : Int) == 0) = false := by simp; omega
  clear hn hsz hat hT0
  go_enter Tryz.func54, Tryz.ntmps54
  go_wp2_with fail
  refine hcall.mono ?_
  rintro e w1 ⟨v, rfl, HO, hb1⟩
  have HO1 : Hid (OwnStrs w1 w.heap.size v (Sg.rootTs ss).reverse) := HO.out.base aN.size
  clear hcall HO
  go_wp2_with fail
  go_ret
  exact ⟨_, rfl, HO1, aN.trans (hb1.mono aN.size)⟩
set_option maxHeartbeats 1600000 in
theorem ofRoot_none (ao : Option Addr) (cap : Nat) (w : World) :
    Calls Tryz.prog 54 #[.slice ao 0 cap] w fun e w' => ∃ v, e = .returned v ∧ Hid (OwnStrs w' w.heap.size v [ByteArray.empty]) ∧ Below w.heap.size w w' := by
  have aN : Below w.heap.size w (w.alloc (.cells #[.slice ao 0 cap] 71)) := (Below.refl _ _).alloc (Nat.le_refl _) _
  have hP : OwnStrs ((w.alloc (.cells #[.slice ao 0 cap] 71)).alloc (.cells #[.string { data := #[] }] 9)) w.heap.size (.slice (some ⟨w.heap.size + 1, 0, none⟩) 1 1) [ByteArray.empty] :=
    ⟨rfl, Or.inr ⟨w.heap.size + 1, 1, #[.string { data := #[] }], rfl, by omega, by have := heap_alloc_new (w.alloc (.cells #[.slice ao 0 cap] 71)) (.cells #[.string { data := #[] }] 9); rw [World.size_alloc] at this; exact this, Nat.le_refl _, by unfold maxLen; omega, rfl, rfl⟩⟩
  have HP : Hid (OwnStrs ((w.alloc (.cells #[.slice ao 0 cap] 71)).alloc (.cells #[.string { data := #[] }] 9)) w.heap.size (.slice (some ⟨w.heap.size + 1, 0, none⟩) 1 1) [ByteArray.empty] ∧ Below w.heap.size w ((w.alloc (.cells #[.slice ao 0 cap] 71)).alloc (.cells #[.string { data := #[] }] 9))) := ⟨hP, aN.alloc aN.size _⟩
  clear hP aN
  go_enter Tryz.func54, Tryz.ntmps54
  go_wp2_with fail
  go_ret
  exact ⟨_, rfl, HP.out.1, HP.out.2⟩
end Go.Proofs.YtpkkhkkkgjhkeabGreat
