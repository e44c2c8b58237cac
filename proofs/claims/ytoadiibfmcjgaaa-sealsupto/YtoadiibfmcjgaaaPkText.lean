/-
  THE WALKS of Period.journal, Period.Text, Book.Text.
-/
import Derived.Test.YtoadiibfmcjgaaaPerText
namespace Go.Proofs.Ytoadiibfmcjgaaa
open Go.RowKit Go.Maps
set_option maxRecDepth 100000
attribute [local go_sem ↓] Go.wp_at_zero Go.wp_at_succ

namespace Sg
/-- Texts behind each other. -/
def catB (ss : List ByteArray) : ByteArray := ss.foldl (fun o s => o ++ s) ByteArray.empty
theorem foldl_cat (ss : List ByteArray) : ∀ o : ByteArray, ss.foldl (fun o s => o ++ s) o = o ++ catB ss := by
  induction ss with
  | nil => intro o; simp [catB]
  | cons s r ih =>
    intro o
    unfold catB
    simp only [List.foldl_cons]
    rw [ih, ih (ByteArray.empty ++ s), ByteArray.append_assoc]
    simp
theorem catB_snoc (ss : List ByteArray) (s : ByteArray) : catB (ss ++ [s]) = catB ss ++ s := by unfold catB; simp
theorem catB_cons (ss : List ByteArray) (s : ByteArray) : catB (s :: ss) = s ++ catB ss := by
  have : catB (s :: ss) = ss.foldl (fun o s => o ++ s) (ByteArray.empty ++ s) := rfl
  rw [this, foldl_cat]; simp
theorem catB_flat : ∀ ss : List ByteArray, (catB ss).data.toList = (ss.map (·.data.toList)).flatten
  | [] => rfl
  | s :: r => by rw [catB_cons, List.map_cons, List.flatten_cons, ← catB_flat r]; simp
theorem intercalate_none (l : List (List UInt8)) : List.intercalate [] l = l.flatten := by
  induction l with
  | nil => rfl
  | cons a r ih =>
    cases r with
    | nil => simp [List.intercalate]
    | cons b r =>
      have : List.intercalate [] (a :: b :: r) = a ++ ([] ++ List.intercalate [] (b :: r)) := by simp [List.intercalate]
      rw [this, ih]; simp
theorem catB_join (ss : List ByteArray) : (⟨(Lib.join (ss.map (·.data.toList)) (ByteArray.mk #[]).data.toList).toArray⟩ : ByteArray) = catB ss := by
  have e : Lib.join (ss.map (·.data.toList)) (ByteArray.mk #[]).data.toList = (catB ss).data.toList := by
    rw [catB_flat]; exact intercalate_none _
  rw [e]
theorem catB_size : ∀ (ss : List ByteArray) (n : Nat), (∀ s ∈ ss, s.size ≤ n) → (catB ss).size ≤ ss.length * n
  | [], _, _ => by simp [catB]
  | s :: r, n, h => by
    rw [catB_cons, ByteArray.size_append, List.length_cons]
    have h1 := h s (by simp)
    have h2 := catB_size r n (fun x hx => h x (by simp [hx]))
    rw [Nat.add_mul]; omega
/-- A period's text. -/
def perB (p : List Ent) (b t : List Int) : ByteArray := catB [beB p.length 1, catB (p.map entB), amountsB b, amountsB t]
theorem perText_eq (out : ByteArray) (p : List Ent) (b t : List Int) : perText out p b t = out ++ perB p b t := by
  unfold perText perB
  have e : ∀ o : ByteArray, p.foldl (fun o e => o ++ entB e) o = o ++ catB (p.map entB) := fun o => by
    rw [← foldl_cat, List.foldl_map]
  rw [e]
  simp [catB, ByteArray.append_assoc]
end Sg

theorem OwnStrs.some_or_none {w : World} {base : Nat} {v : Value} {ss : List ByteArray} (h : OwnStrs w base v ss) : (v = .slice none 0 0 ∧ ss = []) ∨ ∃ g cap, v = .slice (some ⟨g, 0, none⟩) ss.length cap ∧ g < w.heap.size ∧ ss.length ≤ cap ∧ StrsAt w g 0 ss := by
  have hk := h
  rcases h.2 with ⟨rfl, h0⟩ | ⟨g, cap, cur, rfl, _, hh, hle, hm, _, _⟩
  · exact Or.inl ⟨rfl, List.length_eq_zero_iff.1 h0⟩
  · refine Or.inr ⟨g, cap, rfl, lt_of_block hh, by omega, fun i hi => ?_⟩
    have := hk.cellAt i (by omega)
    rw [Nat.zero_add, this]
    rw [List.getElem?_map, List.getElem?_eq_getElem hi, List.getD_eq_getElem?_getD, List.getElem?_eq_getElem hi]
    rfl

set_option maxHeartbeats 1600000 in
/-- Period.journal. -/
theorem journal_any (es : List Sg.Ent) (aV mV c3 c4 c5 c6 c7 c8 c9 c10 : Value) (ao : Option Addr) (n cap : Nat) (w : World) (hl : es.length = n) (hn12 : n ≤ 12) (hE : EntsIn w ao es) (hok : ∀ e ∈ es, e.memo.size ≤ 20 ∧ e.posts.length ≤ 6 ∧ ∀ p ∈ e.posts, Sg.fits p.acct = true ∧ Sg.fits p.amt = true) :
    Calls Try.prog 92 #[.agg #[aV, .slice ao n cap, mV, c3, c4, c5, c6, c7, c8, c9, c10]] w fun e w' => ∃ y, e = .returned (.string y) ∧ Hid (y = Sg.catB (es.map Sg.entB)) ∧ y.size ≤ 960 ∧ Below w.heap.size w w' := by
  have hcall := fun W (hb : Below w.heap.size w W) => entries_any es aV mV c3 c4 c5 c6 c7 c8 c9 c10 ao n cap W hl hn12 (hE.below hb) hok
  have hsz : (Sg.catB (es.map Sg.entB)).size ≤ 960 := by
    have := Sg.catB_size (es.map Sg.entB) 80 (fun s hs => by
      obtain ⟨e, he, rfl⟩ := List.mem_map.1 hs
      have h1 := (hok e he).1
      have h2 := (hok e he).2.1
      rw [Sg.entB_size]; omega)
    rw [List.length_map, hl] at this
    omega
  have HL : Hid ((es.map Sg.entB).length = n) := by show _ = _; rw [List.length_map]; exact hl
  clear hok hE hl
  generalize es.map Sg.entB = ts at *
  go_enter Try.func92, Try.ntmps92
  go_wp2_with fail
  refine (hcall _ ((Below.refl _ _).alloc (Nat.le_refl _) _)).mono ?_
  rintro e w1 ⟨v, rfl, HO, hb1⟩
  have hb1' : Below w.heap.size w w1 := ((Below.refl _ _).alloc (Nat.le_refl _) _).trans (hb1.mono (by simp))
  have hs1 := hb1'.size
  rcases HO.out.some_or_none with ⟨rfl, rfl⟩ | ⟨g, cap', rfl, hg, hcc, hat⟩
  · clear HO hcall
    go_wp2_with fail
    refine (Try.strings_Join_none _ _ _ _).mono ?_
    rintro e w2 ⟨rfl, rfl⟩
    go_wp2_with fail
    go_ret
    exact ⟨_, rfl, rfl, by decide, hb1'⟩
  · clear HO hcall
    go_wp2_with fail
    have hlenJ : (Lib.join (ts.map (·.data.toList)) (ByteArray.mk #[]).data.toList).length ≤ 140737488355328 := by
      have := congrArg ByteArray.size (Sg.catB_join ts)
      have e2 : (⟨(Lib.join (ts.map (·.data.toList)) (ByteArray.mk #[]).data.toList).toArray⟩ : ByteArray).size = (Lib.join (ts.map (·.data.toList)) (ByteArray.mk #[]).data.toList).length := by simp [ByteArray.size]
      omega
    refine (Try.strings_Join g 0 cap' ts (ByteArray.mk #[]) w1 (fun j x hx => ?_) hg (by rw [HL.out]; omega) hcc hlenJ).mono ?_
    · have hj : j < ts.length := (List.getElem?_eq_some_iff.1 hx).1
      have := hat j hj
      rw [this]
      rw [List.getD_eq_getElem?_getD, hx]; rfl
    · rintro e w2 ⟨rfl, hb2⟩
      go_wp2_with fail
      go_ret
      exact ⟨_, rfl, Sg.catB_join ts, by rw [Sg.catB_join]; exact hsz, hb1'.trans (hb2.mono hs1)⟩

abbrev fMany : Value := .func (.func 91) #[] #[]
abbrev fJour : Value := .func (.func 92) #[] #[]
abbrev fBals : Value := .func (.func 93) #[] #[]
abbrev fStat : Value := .func (.func 94) #[] #[]

set_option maxHeartbeats 6400000 in
/-- Period.Text. -/
theorem perText_any (es : List Sg.Ent) (now : List Int) (t0 t1 t2 t3 : Int) (aoA aoE : Option Addr) (nA capA ne capE m c : Nat) (w : World) (hl : es.length = ne) (hn12 : ne ≤ 12) (hE : EntsIn w aoE es) (hok : ∀ e ∈ es, e.memo.size ≤ 20 ∧ e.posts.length ≤ 6 ∧ ∀ p ∈ e.posts, Sg.fits p.acct = true ∧ Sg.fits p.amt = true)
    (hn : now.length = nA) (hn8 : nA ≤ 8) (hf : ∀ v ∈ now, Sg.fits v = true) (hb : BalIn w m c now) (ht : ∀ v ∈ [t0, t1, t2, t3], Sg.fits v = true) :
    Calls Try.prog 71 #[.agg #[.slice aoA nA capA, .slice aoE ne capE, .map (some m), .int .u64 (nHi t0), .int .u64 (nLo t0), .int .u64 (nHi t1), .int .u64 (nLo t1), .int .u64 (nHi t2), .int .u64 (nLo t2), .int .u64 (nHi t3), .int .u64 (nLo t3)]] w fun e w' => ∃ y, e = .returned (.string y) ∧ Hid (y = Sg.perB es now [t0, t1, t2, t3]) ∧ y.size ≤ 3840 ∧ Below w.heap.size w w' := by
  have hm := fun W (_ : Below w.heap.size w W) => many_any (.slice aoA nA capA) (.map (some m)) (.int .u64 (nHi t0)) (.int .u64 (nLo t0)) (.int .u64 (nHi t1)) (.int .u64 (nLo t1)) (.int .u64 (nHi t2)) (.int .u64 (nLo t2)) (.int .u64 (nHi t3)) (.int .u64 (nLo t3)) aoE ne capE W
  have hj := fun W (hb0 : Below w.heap.size w W) => journal_any es (.slice aoA nA capA) (.map (some m)) (.int .u64 (nHi t0)) (.int .u64 (nLo t0)) (.int .u64 (nHi t1)) (.int .u64 (nLo t1)) (.int .u64 (nHi t2)) (.int .u64 (nLo t2)) (.int .u64 (nHi t3)) (.int .u64 (nLo t3)) aoE ne capE W hl hn12 (hE.below hb0) hok
  have hbl := fun W (hb0 : Below w.heap.size w W) => balances_any now (.slice aoE ne capE) (.int .u64 (nHi t0)) (.int .u64 (nLo t0)) (.int .u64 (nHi t1)) (.int .u64 (nLo t1)) (.int .u64 (nHi t2)) (.int .u64 (nLo t2)) (.int .u64 (nHi t3)) (.int .u64 (nLo t3)) aoA nA capA m c W hn hn8 hf (hb.below hb0)
  have hst := fun W (_ : Below w.heap.size w W) => statement_any t0 t1 t2 t3 (.slice aoA nA capA) (.slice aoE ne capE) (.map (some m)) W (ht t0 (by simp)) (ht t1 (by simp)) (ht t2 (by simp)) (ht t3 (by simp))
  have hjs : (Sg.catB (es.map Sg.entB)).size ≤ 960 := by
    have := Sg.catB_size (es.map Sg.entB) 80 (fun s hs => by
      obtain ⟨e, he, rfl⟩ := List.mem_map.1 hs
      have h1 := (hok e he).1
      have h2 := (hok e he).2.1
      rw [Sg.entB_size]; omega)
    rw [List.length_map, hl] at this
    omega
  have hbs : (Sg.amountsB now).size ≤ 960 := by rw [Sg.amountsB_size, hn]; omega
  have hss : (Sg.amountsB [t0, t1, t2, t3]).size ≤ 960 := by rw [Sg.amountsB_size]; simp
  have HPB : Hid (Sg.perB es now [t0, t1, t2, t3] = Sg.catB [Sg.beB ne 1, Sg.catB (es.map Sg.entB), Sg.amountsB now, Sg.amountsB [t0, t1, t2, t3]]) := by show _ = _; unfold Sg.perB; rw [hl]
  have hps : (Sg.beB ne 1).size ≤ 960 := by rw [Sg.beB_size]; omega
  clear hok hE hl hf hb ht hn
  generalize Sg.beB ne 1 = p0 at *
  generalize Sg.catB (es.map Sg.entB) = p1 at *
  generalize Sg.amountsB now = p2 at *
  generalize Sg.amountsB [t0, t1, t2, t3] = p3 at *
  have HZ : Hid (∀ x ∈ [p0, p1, p2, p3], x.size ≤ 960) := fun x hx => by
    simp only [List.mem_cons, List.not_mem_nil, or_false] at hx
    rcases hx with rfl | rfl | rfl | rfl <;> assumption
  clear hps hjs hbs hss
  have aB : Below w.heap.size w (((w.alloc (.cells #[.slice aoA nA capA, .slice aoE ne capE, .map (some m), .int .u64 (nHi t0), .int .u64 (nLo t0), .int .u64 (nHi t1), .int .u64 (nLo t1), .int .u64 (nHi t2), .int .u64 (nLo t2), .int .u64 (nHi t3), .int .u64 (nLo t3)] 116)).alloc (.cells #[.pointer none, .slice none 0 0] 121)).alloc (.cells #[fMany, fJour, fBals, fStat] 144)) := (((Below.refl _ _).alloc (Nat.le_refl _) _).alloc (by simp) _).alloc (by simp; omega) _
  have HX0 : Hid (PerBox (((w.alloc (.cells #[.slice aoA nA capA, .slice aoE ne capE, .map (some m), .int .u64 (nHi t0), .int .u64 (nLo t0), .int .u64 (nHi t1), .int .u64 (nLo t1), .int .u64 (nHi t2), .int .u64 (nLo t2), .int .u64 (nHi t3), .int .u64 (nLo t3)] 116)).alloc (.cells #[.pointer none, .slice none 0 0] 121)).alloc (.cells #[fMany, fJour, fBals, fStat] 144)) w.heap.size (.slice aoA nA capA) (.slice aoE ne capE) (.map (some m)) (.int .u64 (nHi t0)) (.int .u64 (nLo t0)) (.int .u64 (nHi t1)) (.int .u64 (nLo t1)) (.int .u64 (nHi t2)) (.int .u64 (nLo t2)) (.int .u64 (nHi t3)) (.int .u64 (nLo t3))) := ((PerBox.new w _ _ _ _ _ _ _ _ _ _ _).below ((Below.refl _ _).alloc (Nat.le_refl _) _)).below ((Below.refl _ _).alloc (Nat.le_refl _) _)
  have HT0 : Hid (TB (((w.alloc (.cells #[.slice aoA nA capA, .slice aoE ne capE, .map (some m), .int .u64 (nHi t0), .int .u64 (nLo t0), .int .u64 (nHi t1), .int .u64 (nLo t1), .int .u64 (nHi t2), .int .u64 (nLo t2), .int .u64 (nHi t3), .int .u64 (nLo t3)] 116)).alloc (.cells #[.pointer none, .slice none 0 0] 121)).alloc (.cells #[fMany, fJour, fBals, fStat] 144)) (w.heap.size + 1) (Sg.catB ([p0, p1, p2, p3].take 0))) := by
    have := TB.new (w.alloc (.cells #[.slice aoA nA capA, .slice aoE ne capE, .map (some m), .int .u64 (nHi t0), .int .u64 (nLo t0), .int .u64 (nHi t1), .int .u64 (nLo t1), .int .u64 (nHi t2), .int .u64 (nLo t2), .int .u64 (nHi t3), .int .u64 (nLo t3)] 116))
    have e : (w.alloc (.cells #[.slice aoA nA capA, .slice aoE ne capE, .map (some m), .int .u64 (nHi t0), .int .u64 (nLo t0), .int .u64 (nHi t1), .int .u64 (nLo t1), .int .u64 (nHi t2), .int .u64 (nLo t2), .int .u64 (nHi t3), .int .u64 (nLo t3)] 116)).heap.size = w.heap.size + 1 := by simp
    rw [e] at this
    exact this.below ((Below.refl _ _).alloc (Nat.le_refl _) _)
  have HF0 : Hid ((((w.alloc (.cells #[.slice aoA nA capA, .slice aoE ne capE, .map (some m), .int .u64 (nHi t0), .int .u64 (nLo t0), .int .u64 (nHi t1), .int .u64 (nLo t1), .int .u64 (nHi t2), .int .u64 (nLo t2), .int .u64 (nHi t3), .int .u64 (nLo t3)] 116)).alloc (.cells #[.pointer none, .slice none 0 0] 121)).alloc (.cells #[fMany, fJour, fBals, fStat] 144)).heap[w.heap.size + 1 + 1]? = some (.cells #[fMany, fJour, fBals, fStat] 144 (0, 0))) := by
    have := new_block2 (w.alloc (.cells #[.slice aoA nA capA, .slice aoE ne capE, .map (some m), .int .u64 (nHi t0), .int .u64 (nLo t0), .int .u64 (nHi t1), .int .u64 (nLo t1), .int .u64 (nHi t2), .int .u64 (nLo t2), .int .u64 (nHi t3), .int .u64 (nLo t3)] 116)) (.cells #[.pointer none, .slice none 0 0] 121) #[fMany, fJour, fBals, fStat] 144
    have e : (w.alloc (.cells #[.slice aoA nA capA, .slice aoE ne capE, .map (some m), .int .u64 (nHi t0), .int .u64 (nLo t0), .int .u64 (nHi t1), .int .u64 (nLo t1), .int .u64 (nHi t2), .int .u64 (nLo t2), .int .u64 (nHi t3), .int .u64 (nLo t3)] 116)).heap.size = w.heap.size + 1 := by simp
    rw [e] at this
    exact this
  go_enter Try.func71, Try.ntmps71
  go_wp2_with fail
  go_loopw [8] (fun i wr => ∃ k : Nat, k ≤ 4 ∧ i = .int .i64 (k : Int) ∧ Hid (TB wr (w.heap.size + 1) (Sg.catB ([p0, p1, p2, p3].take k))) ∧ Hid (PerBox wr w.heap.size (.slice aoA nA capA) (.slice aoE ne capE) (.map (some m)) (.int .u64 (nHi t0)) (.int .u64 (nLo t0)) (.int .u64 (nHi t1)) (.int .u64 (nLo t1)) (.int .u64 (nHi t2)) (.int .u64 (nLo t2)) (.int .u64 (nHi t3)) (.int .u64 (nLo t3))) ∧ Hid (wr.heap[w.heap.size + 1 + 1]? = some (.cells #[fMany, fJour, fBals, fStat] 144 (0, 0))) ∧ Below w.heap.size w wr) (fun i _ => 4 - (intOf i).toNat)
  case atStart => exact ⟨0, by omega, rfl, HT0, HX0, HF0, aB⟩
  case round =>
    obtain ⟨k, hk, rfl, HT, HX, HF, hbr⟩ := hrel
    obtain ⟨wz, ewz⟩ : ∃ z : World, z = wr := ⟨_, rfl⟩
    subst ewz
    have hsz := hbr.size
    clear HT0 HX0 HF0 aB
    have g0 : wz.cell? ⟨w.heap.size + 1 + 1, 0, none⟩ = some fMany := by rw [cell_of_row wz _ 0 _ _ _ HF.out]; rfl
    have g1 : wz.cell? ⟨w.heap.size + 1 + 1, 1, none⟩ = some fJour := by rw [cell_of_row wz _ 1 _ _ _ HF.out]; rfl
    have g2 : wz.cell? ⟨w.heap.size + 1 + 1, 2, none⟩ = some fBals := by rw [cell_of_row wz _ 2 _ _ _ HF.out]; rfl
    have g3 : wz.cell? ⟨w.heap.size + 1 + 1, 3, none⟩ = some fStat := by rw [cell_of_row wz _ 3 _ _ _ HF.out]; rfl
    obtain ⟨x0, x1, x2, x3, x4, x5, x6, x7, x8, x9, x10, _, _, _, _, _, _, _, _, _, _, _⟩ := HX.out.cells
    have hr5 : k = 0 ∨ k = 1 ∨ k = 2 ∨ k = 3 ∨ k = 4 := by omega
    rcases hr5 with rfl | rfl | rfl | rfl | rfl
    · -- part 0
      have HS : Hid (Sg.catB ([p0, p1, p2, p3].take 1) = Sg.catB ([p0, p1, p2, p3].take 0) ++ p0) := Sg.catB_snoc [] p0
      have hos : (Sg.catB ([p0, p1, p2, p3].take 0)).size ≤ 0 := by
        have := Sg.catB_size ([p0, p1, p2, p3].take 0) 960 (fun x hx => HZ.out x (List.mem_of_mem_take hx))
        simpa using this
      generalize Sg.catB ([p0, p1, p2, p3].take 0) = oo at *
      go_wp2_with fail
      refine (hm wz hbr).mono ?_
      rintro e w4 ⟨y, rfl, hy, hys, hb4⟩
      go_wp2_with fail
      refine (write_any (w.heap.size + 1) oo y _ (HT.out.below hb4) (by omega)).mono ?_
      rintro e w5 ⟨rfl, tb5, hb5, hk5⟩
      have HTn : Hid (TB w5 (w.heap.size + 1) (Sg.catB ([p0, p1, p2, p3].take 1))) := by
        show TB _ _ _
        rw [HS.out, ← hy.out]
        exact tb5
      have HXn : Hid (PerBox w5 w.heap.size (.slice aoA nA capA) (.slice aoE ne capE) (.map (some m)) (.int .u64 (nHi t0)) (.int .u64 (nLo t0)) (.int .u64 (nHi t1)) (.int .u64 (nLo t1)) (.int .u64 (nHi t2)) (.int .u64 (nLo t2)) (.int .u64 (nHi t3)) (.int .u64 (nLo t3))) := (HX.out.below hb4).kept hk5 (by omega)
      have HFn : Hid (w5.heap[w.heap.size + 1 + 1]? = some (.cells #[fMany, fJour, fBals, fStat] 144 (0, 0))) := hk5 _ _ _ _ ((hb4.block _ (lt_of_block HF.out)).trans HF.out) (by omega) (by decide)
      have hs4 := hb4.size
      have hbe : Below w.heap.size w w5 := (hbr.trans (hb4.mono hsz)).trans (hb5.mono (by omega))
      clear tb5 hb5 hk5 hb4 HS HT HX HF g0 g1 g2 g3 x0 x1 x2 x3 x4 x5 x6 x7 x8 x9 x10
      go_wp2_with fail
      go_roundw
      case rel => exact ⟨1, by omega, by first | rfl | go_num, HTn, HXn, HFn, hbe⟩
      case measure => simp [intOf]
    · -- part 1
      have HS : Hid (Sg.catB ([p0, p1, p2, p3].take 2) = Sg.catB ([p0, p1, p2, p3].take 1) ++ p1) := Sg.catB_snoc [p0] p1
      have hos : (Sg.catB ([p0, p1, p2, p3].take 1)).size ≤ 960 := by
        have := Sg.catB_size ([p0, p1, p2, p3].take 1) 960 (fun x hx => HZ.out x (List.mem_of_mem_take hx))
        simpa using this
      generalize Sg.catB ([p0, p1, p2, p3].take 1) = oo at *
      go_wp2_with fail
      refine (hj wz hbr).mono ?_
      rintro e w4 ⟨y, rfl, hy, hys, hb4⟩
      go_wp2_with fail
      refine (write_any (w.heap.size + 1) oo y _ (HT.out.below hb4) (by omega)).mono ?_
      rintro e w5 ⟨rfl, tb5, hb5, hk5⟩
      have HTn : Hid (TB w5 (w.heap.size + 1) (Sg.catB ([p0, p1, p2, p3].take 2))) := by
        show TB _ _ _
        rw [HS.out, ← hy.out]
        exact tb5
      have HXn : Hid (PerBox w5 w.heap.size (.slice aoA nA capA) (.slice aoE ne capE) (.map (some m)) (.int .u64 (nHi t0)) (.int .u64 (nLo t0)) (.int .u64 (nHi t1)) (.int .u64 (nLo t1)) (.int .u64 (nHi t2)) (.int .u64 (nLo t2)) (.int .u64 (nHi t3)) (.int .u64 (nLo t3))) := (HX.out.below hb4).kept hk5 (by omega)
      have HFn : Hid (w5.heap[w.heap.size + 1 + 1]? = some (.cells #[fMany, fJour, fBals, fStat] 144 (0, 0))) := hk5 _ _ _ _ ((hb4.block _ (lt_of_block HF.out)).trans HF.out) (by omega) (by decide)
      have hs4 := hb4.size
      have hbe : Below w.heap.size w w5 := (hbr.trans (hb4.mono hsz)).trans (hb5.mono (by omega))
      clear tb5 hb5 hk5 hb4 HS HT HX HF g0 g1 g2 g3 x0 x1 x2 x3 x4 x5 x6 x7 x8 x9 x10
      go_wp2_with fail
      go_roundw
      case rel => exact ⟨2, by omega, by first | rfl | go_num, HTn, HXn, HFn, hbe⟩
      case measure => simp [intOf]
    · -- part 2
      have HS : Hid (Sg.catB ([p0, p1, p2, p3].take 3) = Sg.catB ([p0, p1, p2, p3].take 2) ++ p2) := Sg.catB_snoc [p0, p1] p2
      have hos : (Sg.catB ([p0, p1, p2, p3].take 2)).size ≤ 1920 := by
        have := Sg.catB_size ([p0, p1, p2, p3].take 2) 960 (fun x hx => HZ.out x (List.mem_of_mem_take hx))
        simpa using this
      generalize Sg.catB ([p0, p1, p2, p3].take 2) = oo at *
      go_wp2_with fail
      refine (hbl wz hbr).mono ?_
      rintro e w4 ⟨y, rfl, hy, hys, hb4⟩
      go_wp2_with fail
      refine (write_any (w.heap.size + 1) oo y _ (HT.out.below hb4) (by omega)).mono ?_
      rintro e w5 ⟨rfl, tb5, hb5, hk5⟩
      have HTn : Hid (TB w5 (w.heap.size + 1) (Sg.catB ([p0, p1, p2, p3].take 3))) := by
        show TB _ _ _
        rw [HS.out, ← hy.out]
        exact tb5
      have HXn : Hid (PerBox w5 w.heap.size (.slice aoA nA capA) (.slice aoE ne capE) (.map (some m)) (.int .u64 (nHi t0)) (.int .u64 (nLo t0)) (.int .u64 (nHi t1)) (.int .u64 (nLo t1)) (.int .u64 (nHi t2)) (.int .u64 (nLo t2)) (.int .u64 (nHi t3)) (.int .u64 (nLo t3))) := (HX.out.below hb4).kept hk5 (by omega)
      have HFn : Hid (w5.heap[w.heap.size + 1 + 1]? = some (.cells #[fMany, fJour, fBals, fStat] 144 (0, 0))) := hk5 _ _ _ _ ((hb4.block _ (lt_of_block HF.out)).trans HF.out) (by omega) (by decide)
      have hs4 := hb4.size
      have hbe : Below w.heap.size w w5 := (hbr.trans (hb4.mono hsz)).trans (hb5.mono (by omega))
      clear tb5 hb5 hk5 hb4 HS HT HX HF g0 g1 g2 g3 x0 x1 x2 x3 x4 x5 x6 x7 x8 x9 x10
      go_wp2_with fail
      go_roundw
      case rel => exact ⟨3, by omega, by first | rfl | go_num, HTn, HXn, HFn, hbe⟩
      case measure => simp [intOf]
    · -- part 3
      have HS : Hid (Sg.catB ([p0, p1, p2, p3].take 4) = Sg.catB ([p0, p1, p2, p3].take 3) ++ p3) := Sg.catB_snoc [p0, p1, p2] p3
      have hos : (Sg.catB ([p0, p1, p2, p3].take 3)).size ≤ 2880 := by
        have := Sg.catB_size ([p0, p1, p2, p3].take 3) 960 (fun x hx => HZ.out x (List.mem_of_mem_take hx))
        simpa using this
      generalize Sg.catB ([p0, p1, p2, p3].take 3) = oo at *
      go_wp2_with fail
      refine (hst wz hbr).mono ?_
      rintro e w4 ⟨y, rfl, hy, hys, hb4⟩
      go_wp2_with fail
      refine (write_any (w.heap.size + 1) oo y _ (HT.out.below hb4) (by omega)).mono ?_
      rintro e w5 ⟨rfl, tb5, hb5, hk5⟩
      have HTn : Hid (TB w5 (w.heap.size + 1) (Sg.catB ([p0, p1, p2, p3].take 4))) := by
        show TB _ _ _
        rw [HS.out, ← hy.out]
        exact tb5
      have HXn : Hid (PerBox w5 w.heap.size (.slice aoA nA capA) (.slice aoE ne capE) (.map (some m)) (.int .u64 (nHi t0)) (.int .u64 (nLo t0)) (.int .u64 (nHi t1)) (.int .u64 (nLo t1)) (.int .u64 (nHi t2)) (.int .u64 (nLo t2)) (.int .u64 (nHi t3)) (.int .u64 (nLo t3))) := (HX.out.below hb4).kept hk5 (by omega)
      have HFn : Hid (w5.heap[w.heap.size + 1 + 1]? = some (.cells #[fMany, fJour, fBals, fStat] 144 (0, 0))) := hk5 _ _ _ _ ((hb4.block _ (lt_of_block HF.out)).trans HF.out) (by omega) (by decide)
      have hs4 := hb4.size
      have hbe : Below w.heap.size w w5 := (hbr.trans (hb4.mono hsz)).trans (hb5.mono (by omega))
      clear tb5 hb5 hk5 hb4 HS HT HX HF g0 g1 g2 g3 x0 x1 x2 x3 x4 x5 x6 x7 x8 x9 x10
      go_wp2_with fail
      go_roundw
      case rel => exact ⟨4, by omega, by first | rfl | go_num, HTn, HXn, HFn, hbe⟩
      case measure => simp [intOf]
    · have hsize : (Sg.catB ([p0, p1, p2, p3].take 4)).size ≤ 3840 := by
        have := Sg.catB_size ([p0, p1, p2, p3].take 4) 960 (fun x hx => HZ.out x (List.mem_of_mem_take hx))
        simpa using this
      have HE : Hid (Sg.catB ([p0, p1, p2, p3].take 4) = Sg.perB es now [t0, t1, t2, t3]) := HPB.out.symm
      generalize Sg.catB ([p0, p1, p2, p3].take 4) = oo at *
      go_wp2_with fail
      refine (string_any _ _ _ HT.out).mono ?_
      rintro e w3 ⟨rfl, hb3⟩
      go_wp2_with fail
      go_ret
      exact ⟨_, rfl, HE, hsize, hbr.trans (hb3.mono (by omega))⟩
end Go.Proofs.Ytoadiibfmcjgaaa
