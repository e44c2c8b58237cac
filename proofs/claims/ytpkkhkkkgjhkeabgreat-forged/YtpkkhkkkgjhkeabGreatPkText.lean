import Derived.Test.YtpkkhkkkgjhkeabGreatClosePer
import Derived.Test.YtpkkhkkkgjhkeabGreatLeaves
import Derived.Test.YtpkkhkkkgjhkeabGreatTree
/-
  THE WALKS of Period.journal, Period.Text, Book.Text.
-/
namespace Go.Proofs.YtpkkhkkkgjhkeabGreat
open Go.RowKit Go.Maps
set_option maxRecDepth 100000
attribute [local go_sem ↓] Go.wp_at_zero Go.wp_at_succ

namespace Sg
/-- Texts behind each other. -/
def catB (ss : List ByteArray) : ByteArray := ss.foldl (fun o s => o ++ s) ByteArray.empty
theorem foldl_cat (ss : List ByteArray) : ∀ o : ByteArray, ss.foldl (fun o s => o ++ s) o = o ++ catB ss := by
  induction ss with
  | nil => intro o; simp [catB]
  | cons s r ih =>
    intro o
    unfold catB
    simp only [List.foldl_cons]
    rw [ih, ih (ByteArray.empty ++ s), ByteArray.append_assoc]
    simp
theorem catB_snoc (ss : List ByteArray) (s : ByteArray) : catB (ss ++ [s]) = catB ss ++ s := by unfold catB; simp
theorem catB_cons (ss : List ByteArray) (s : ByteArray) : catB (s :: ss) = s ++ catB ss := by
  have : catB (s :: ss) = ss.foldl (fun o s => o ++ s) (ByteArray.empty ++ s) := rfl
  rw [this, foldl_cat]; simp
theorem catB_flat : ∀ ss : List ByteArray, (catB ss).data.toList = (ss.map (·.data.toList)).flatten
  | [] => rfl
  | s :: r => by rw [catB_cons, List.map_cons, List.flatten_cons, ← catB_flat r]; simp
theorem intercalate_none (l : List (List UInt8)) : List.intercalate [] l = l.flatten := by
  induction l with
  | nil => rfl
  | cons a r ih =>
    cases r with
    | nil => simp [List.intercalate]
    | cons b r =>
      have : List.intercalate [] (a :: b :: r) = a ++ ([] ++ List.intercalate [] (b :: r)) := by simp [List.intercalate]
      rw [this, ih]; simp
theorem catB_join (ss : List ByteArray) : (⟨(Lib.join (ss.map (·.data.toList)) (ByteArray.mk #[]).data.toList).toArray⟩ : ByteArray) = catB ss := by
  have e : Lib.join (ss.map (·.data.toList)) (ByteArray.mk #[]).data.toList = (catB ss).data.toList := by
    rw [catB_flat]; exact intercalate_none _
  rw [e]
theorem catB_size : ∀ (ss : List ByteArray) (n : Nat), (∀ s ∈ ss, s.size ≤ n) → (catB ss).size ≤ ss.length * n
  | [], _, _ => by simp [catB]
  | s :: r, n, h => by
    rw [catB_cons, ByteArray.size_append, List.length_cons]
    have h1 := h s (by simp)
    have h2 := catB_size r n (fun x hx => h x (by simp [hx]))
    rw [Nat.add_mul]; omega
/-- A period's text. -/
def perB (p : List Ent) (b t : List Int) : ByteArray := catB [beB p.length 1, catB (p.map entB), amountsB b, amountsB t]
theorem perText_eq (out : ByteArray) (p : List Ent) (b t : List Int) : perText out p b t = out ++ perB p b t := by
  unfold perText perB
  have e : ∀ o : ByteArray, p.foldl (fun o e => o ++ entB e) o = o ++ catB (p.map entB) := fun o => by
    rw [← foldl_cat, List.foldl_map]
  rw [e]
  simp [catB, ByteArray.append_assoc]
end Sg

theorem OwnStrs.some_or_none {w : World} {base : Nat} {v : Value} {ss : List ByteArray} (h : OwnStrs w base v ss) : (v = .slice none 0 0 ∧ ss = []) ∨ ∃ g cap, v = .slice (some ⟨g, 0, none⟩) ss.length cap ∧ g < w.heap.size ∧ ss.length ≤ cap ∧ StrsAt w g 0 ss := by
  have hk := h
  rcases h.2 with ⟨rfl, h0⟩ | ⟨g, cap, cur, rfl, _, hh, hle, hm, _, _⟩
  · exact Or.inl ⟨rfl, List.length_eq_zero_iff.1 h0⟩
  · refine Or.inr ⟨g, cap, rfl, lt_of_block hh, by omega, fun i hi => ?_⟩
    have := hk.cellAt i (by omega)
    rw [Nat.zero_add, this]
    rw [List.getElem?_map, List.getElem?_eq_getElem hi, List.getD_eq_getElem?_getD, List.getElem?_eq_getElem hi]
    rfl

set_option maxHeartbeats 1600000 in
/-- Period.journal. -/
theorem journal_any (es : List Sg.Ent) (aV mV c3 c4 c5 c6 c7 c8 c9 c10 : Value) (ao : Option Addr) (n cap : Nat) (w : World) (hl : es.length = n) (hn12 : n ≤ 12) (hE : EntsIn w ao es) (hok : ∀ e ∈ es, e.memo.size ≤ 20 ∧ e.posts.length ≤ 6 ∧ ∀ p ∈ e.posts, Sg.fits p.acct = true ∧ Sg.fits p.amt = true) :
    Calls Tryz.prog 62 #[.agg #[aV, .slice ao n cap, mV, c3, c4, c5, c6, c7, c8, c9, c10]] w fun e w' => ∃ y, e = .returned (.string y) ∧ Hid (y = Sg.catB (es.map Sg.entB)) ∧ y.size ≤ 960 ∧ Below w.heap.size w w' := by
  have hcall := fun W (hb : Below w.heap.size w W) => entries_any es aV mV c3 c4 c5 c6 c7 c8 c9 c10 ao n cap W hl hn12 (hE.below hb) hok
  have hsz : (Sg.catB (es.map Sg.entB)).size ≤ 960 := by
    have := Sg.catB_size (es.map Sg.entB) 80 (fun s hs => by
      obtain ⟨e, he, rfl⟩ := List.mem_map.1 hs
      have h1 := (hok e he).1
      have h2 := (hok e he).2.1
      rw [Sg.entB_size]; omega)
    rw [List.length_map, hl] at this
    omega
  have HL : Hid ((es.map Sg.entB).length = n) := by show _ = _; rw [List.length_map]; exact hl
  clear hok hE hl
  generalize es.map Sg.entB = ts at *
  go_enter Tryz.func62, Tryz.ntmps62
  go_wp2_with fail
  refine (hcall _ ((Below.refl _ _).alloc (Nat.le_refl _) _)).mono ?_
  rintro e w1 ⟨v, rfl, HO, hb1⟩
  have hb1' : Below w.heap.size w w1 := ((Below.refl _ _).alloc (Nat.le_refl _) _).trans (hb1.mono (by simp))
  have hs1 := hb1'.size
  rcases HO.out.some_or_none with ⟨rfl, rfl⟩ | ⟨g, cap', rfl, hg, hcc, hat⟩
  · clear HO hcall
    go_wp2_with fail
    refine (Tryz.strings_Join_none _ _ _ _).mono ?_
    rintro e w2 ⟨rfl, rfl⟩
    go_wp2_with fail
    go_ret
    exact ⟨_, rfl, rfl, by decide, hb1'⟩
  · clear HO hcall
    go_wp2_with fail
    have hlenJ : (Lib.join (ts.map (·.data.toList)) (ByteArray.mk #[]).data.toList).length ≤ 140737488355328 := by
      have := congrArg ByteArray.size (Sg.catB_join ts)
      have e2 : (⟨(Lib.join (ts.map (·.data.toList)) (ByteArray.mk #[]).data.toList).toArray⟩ : ByteArray).size = (Lib.join (ts.map (·.data.toList)) (ByteArray.mk #[]).data.toList).length := by simp [ByteArray.size]
      omega
    refine (Tryz.strings_Join g 0 cap' ts (ByteArray.mk #[]) w1 (fun j x hx => ?_) hg (by rw [HL.out]; omega) hcc hlenJ).mono ?_
    · have hj : j < ts.length := (List.getElem?_eq_some_iff.1 hx).1
      have := hat j hj
      rw [this]
      rw [List.getD_eq_getElem?_getD, hx]; rfl
    · rintro e w2 ⟨rfl, hb2⟩
      go_wp2_with fail
      go_ret
      exact ⟨_, rfl, Sg.catB_join ts, by rw [Sg.catB_join]; exact hsz, hb1'.trans (hb2.mono hs1)⟩

abbrev fMany : Value := .func (.func 61) #[] #[]
abbrev fJour : Value := .func (.func 62) #[] #[]
abbrev fBals : Value := .func (.func 63) #[] #[]
abbrev fStat : Value := .func (.func 64) #[] #[]

set_option maxHeartbeats 6400000 in
/-- Period.Text. -/
theorem perText_any (es : List Sg.Ent) (now : List Int) (t0 t1 t2 t3 : Int) (aoA aoE : Option Addr) (nA capA ne capE m c : Nat) (w : World) (hl : es.length = ne) (hn12 : ne ≤ 12) (hE : EntsIn w aoE es) (hok : ∀ e ∈ es, e.memo.size ≤ 20 ∧ e.posts.length ≤ 6 ∧ ∀ p ∈ e.posts, Sg.fits p.acct = true ∧ Sg.fits p.amt = true)
    (hn : now.length = nA) (hn8 : nA ≤ 8) (hf : ∀ v ∈ now, Sg.fits v = true) (hb : BalIn w m c now) (ht : ∀ v ∈ [t0, t1, t2, t3], Sg.fits v = true) :
    Calls Tryz.prog 34 #[.agg #[.slice aoA nA capA, .slice aoE ne capE, .map (some m), .int .u64 (nHi t0), .int .u64 (nLo t0), .int .u64 (nHi t1), .int .u64 (nLo t1), .int .u64 (nHi t2), .int .u64 (nLo t2), .int .u64 (nHi t3), .int .u64 (nLo t3)]] w fun e w' => ∃ y, e = .returned (.string y) ∧ Hid (y = Sg.perB es now [t0, t1, t2, t3]) ∧ y.size ≤ 3840 ∧ Below w.heap.size w w' := by
  have hm := fun W (_ : Below w.heap.size w W) => many_any (.slice aoA nA capA) (.map (some m)) (.int .u64 (nHi t0)) (.int .u64 (nLo t0)) (.int .u64 (nHi t1)) (.int .u64 (nLo t1)) (.int .u64 (nHi t2)) (.int .u64 (nLo t2)) (.int .u64 (nHi t3)) (.int .u64 (nLo t3)) aoE ne capE W
  have hj := fun W (hb0 : Below w.heap.size w W) => journal_any es (.slice aoA nA capA) (.map (some m)) (.int .u64 (nHi t0)) (.int .u64 (nLo t0)) (.int .u64 (nHi t1)) (.int .u64 (nLo t1)) (.int .u64 (nHi t2)) (.int .u64 (nLo t2)) (.int .u64 (nHi t3)) (.int .u64 (nLo t3)) aoE ne capE W hl hn12 (hE.below hb0) hok
  have hbl := fun W (hb0 : Below w.heap.size w W) => balances_any now (.slice aoE ne capE) (.int .u64 (nHi t0)) (.int .u64 (nLo t0)) (.int .u64 (nHi t1)) (.int .u64 (nLo t1)) (.int .u64 (nHi t2)) (.int .u64 (nLo t2)) (.int .u64 (nHi t3)) (.int .u64 (nLo t3)) aoA nA capA m c W hn hn8 hf (hb.below hb0)
  have hst := fun W (_ : Below w.heap.size w W) => statement_any t0 t1 t2 t3 (.slice aoA nA capA) (.slice aoE ne capE) (.map (some m)) W (ht t0 (by simp)) (ht t1 (by simp)) (ht t2 (by simp)) (ht t3 (by simp))
  have hjs : (Sg.catB (es.map Sg.entB)).size ≤ 960 := by
    have := Sg.catB_size (es.map Sg.entB) 80 (fun s hs => by
      obtain ⟨e, he, rfl⟩ := List.mem_map.1 hs
      have h1 := (hok e he).1
      have h2 := (hok e he).2.1
      rw [Sg.entB_size]; omega)
    rw [List.length_map, hl] at this
    omega
  have hbs : (Sg.amountsB now).size ≤ 960 := by rw [Sg.amountsB_size, hn]; omega
  have hss : (Sg.amountsB [t0, t1, t2, t3]).size ≤ 960 := by rw [Sg.amountsB_size]; simp
  have HPB : Hid (Sg.perB es now [t0, t1, t2, t3] = Sg.catB [Sg.beB ne 1, Sg.catB (es.map Sg.entB), Sg.amountsB now, Sg.amountsB [t0, t1, t2, t3]]) := by show _ = _; unfold Sg.perB; rw [hl]
  have hps : (Sg.beB ne 1).size ≤ 960 := by rw [Sg.beB_size]; omega
  clear hok hE hl hf hb ht hn
  generalize Sg.beB ne 1 = p0 at *
  generalize Sg.catB (es.map Sg.entB) = p1 at *
  generalize Sg.amountsB now = p2 at *
  generalize Sg.amountsB [t0, t1, t2, t3] = p3 at *
  have HZ : Hid (∀ x ∈ [p0, p1, p2, p3], x.size ≤ 960) := fun x hx => by
    simp only [List.mem_cons, List.not_mem_nil, or_false] at hx
    rcases hx with rfl | rfl | rfl | rfl <;> assumption
  clear hps hjs hbs hss
  have aB : Below w.heap.size w (((w.alloc (.cells #[.slice aoA nA capA, .slice aoE ne capE, .map (some m), .int .u64 (nHi t0), .int .u64 (nLo t0), .int .u64 (nHi t1), .int .u64 (nLo t1), .int .u64 (nHi t2), .int .u64 (nLo t2), .int .u64 (nHi t3), .int .u64 (nLo t3)] 87)).alloc (.cells #[.pointer none, .slice none 0 0] 92)).alloc (.cells #[fMany, fJour, fBals, fStat] 124)) := (((Below.refl _ _).alloc (Nat.le_refl _) _).alloc (by simp) _).alloc (by simp; omega) _
  have HX0 : Hid (PerBox (((w.alloc (.cells #[.slice aoA nA capA, .slice aoE ne capE, .map (some m), .int .u64 (nHi t0), .int .u64 (nLo t0), .int .u64 (nHi t1), .int .u64 (nLo t1), .int .u64 (nHi t2), .int .u64 (nLo t2), .int .u64 (nHi t3), .int .u64 (nLo t3)] 87)).alloc (.cells #[.pointer none, .slice none 0 0] 92)).alloc (.cells #[fMany, fJour, fBals, fStat] 124)) w.heap.size (.slice aoA nA capA) (.slice aoE ne capE) (.map (some m)) (.int .u64 (nHi t0)) (.int .u64 (nLo t0)) (.int .u64 (nHi t1)) (.int .u64 (nLo t1)) (.int .u64 (nHi t2)) (.int .u64 (nLo t2)) (.int .u64 (nHi t3)) (.int .u64 (nLo t3))) := ((PerBox.new w _ _ _ _ _ _ _ _ _ _ _).below ((Below.refl _ _).alloc (Nat.le_refl _) _)).below ((Below.refl _ _).alloc (Nat.le_refl _) _)
  have HT0 : Hid (TB (((w.alloc (.cells #[.slice aoA nA capA, .slice aoE ne capE, .map (some m), .int .u64 (nHi t0), .int .u64 (nLo t0), .int .u64 (nHi t1), .int .u64 (nLo t1), .int .u64 (nHi t2), .int .u64 (nLo t2), .int .u64 (nHi t3), .int .u64 (nLo t3)] 87)).alloc (.cells #[.pointer none, .slice none 0 0] 92)).alloc (.cells #[fMany, fJour, fBals, fStat] 124)) (w.heap.size + 1) (Sg.catB ([p0, p1, p2, p3].take 0))) := by
    have := TB.new (w.alloc (.cells #[.slice aoA nA capA, .slice aoE ne capE, .map (some m), .int .u64 (nHi t0), .int .u64 (nLo t0), .int .u64 (nHi t1), .int .u64 (nLo t1), .int .u64 (nHi t2), .int .u64 (nLo t2), .int .u64 (nHi t3), .int .u64 (nLo t3)] 87))
    have e : (w.alloc (.cells #[.slice aoA nA capA, .slice aoE ne capE, .map (some m), .int .u64 (nHi t0), .int .u64 (nLo t0), .int .u64 (nHi t1), .int .u64 (nLo t1), .int .u64 (nHi t2), .int .u64 (nLo t2), .int .u64 (nHi t3), .int .u64 (nLo t3)] 87)).heap.size = w.heap.size + 1 := by simp
    rw [e] at this
    exact this.below ((Below.refl _ _).alloc (Nat.le_refl _) _)
  have HF0 : Hid ((((w.alloc (.cells #[.slice aoA nA capA, .slice aoE ne capE, .map (some m), .int .u64 (nHi t0), .int .u64 (nLo t0), .int .u64 (nHi t1), .int .u64 (nLo t1), .int .u64 (nHi t2), .int .u64 (nLo t2), .int .u64 (nHi t3), .int .u64 (nLo t3)] 87)).alloc (.cells #[.pointer none, .slice none 0 0] 92)).alloc (.cells #[fMany, fJour, fBals, fStat] 124)).heap[w.heap.size + 1 + 1]? = some (.cells #[fMany, fJour, fBals, fStat] 124 (0, 0))) := by
    have := new_block2 (w.alloc (.cells #[.slice aoA nA capA, .slice aoE ne capE, .map (some m), .int .u64 (nHi t0), .int .u64 (nLo t0), .int .u64 (nHi t1), .int .u64 (nLo t1), .int .u64 (nHi t2), .int .u64 (nLo t2), .int .u64 (nHi t3), .int .u64 (nLo t3)] 87)) (.cells #[.pointer none, .slice none 0 0] 92) #[fMany, fJour, fBals, fStat] 124
    have e : (w.alloc (.cells #[.slice aoA nA capA, .slice aoE ne capE, .map (some m), .int .u64 (nHi t0), .int .u64 (nLo t0), .int .u64 (nHi t1), .int .u64 (nLo t1), .int .u64 (nHi t2), .int .u64 (nLo t2), .int .u64 (nHi t3), .int .u64 (nLo t3)] 87)).heap.size = w.heap.size + 1 := by simp
    rw [e] at this
    exact this
  go_enter Tryz.func34, Tryz.ntmps34
  go_wp2_with fail
  go_loopw [8] (fun i wr => ∃ k : Nat, k ≤ 4 ∧ i = .int .i64 (k : Int) ∧ Hid (TB wr (w.heap.size + 1) (Sg.catB ([p0, p1, p2, p3].take k))) ∧ Hid (PerBox wr w.heap.size (.slice aoA nA capA) (.slice aoE ne capE) (.map (some m)) (.int .u64 (nHi t0)) (.int .u64 (nLo t0)) (.int .u64 (nHi t1)) (.int .u64 (nLo t1)) (.int .u64 (nHi t2)) (.int .u64 (nLo t2)) (.int .u64 (nHi t3)) (.int .u64 (nLo t3))) ∧ Hid (wr.heap[w.heap.size + 1 + 1]? = some (.cells #[fMany, fJour, fBals, fStat] 124 (0, 0))) ∧ Below w.heap.size w wr) (fun i _ => 4 - (intOf i).toNat)
  case atStart => exact ⟨0, by omega, rfl, HT0, HX0, HF0, aB⟩
  case round =>
    obtain ⟨k, hk, rfl, HT, HX, HF, hbr⟩ := hrel
    obtain ⟨wz, ewz⟩ : ∃ z : World, z = wr := ⟨_, rfl⟩
    subst ewz
    have hsz := hbr.size
    clear HT0 HX0 HF0 aB
    have g0 : wz.cell? ⟨w.heap.size + 1 + 1, 0, none⟩ = some fMany := by rw [cell_of_row wz _ 0 _ _ _ HF.out]; rfl
    have g1 : wz.cell? ⟨w.heap.size + 1 + 1, 1, none⟩ = some fJour := by rw [cell_of_row wz _ 1 _ _ _ HF.out]; rfl
    have g2 : wz.cell? ⟨w.heap.size + 1 + 1, 2, none⟩ = some fBals := by rw [cell_of_row wz _ 2 _ _ _ HF.out]; rfl
    have g3 : wz.cell? ⟨w.heap.size + 1 + 1, 3, none⟩ = some fStat := by rw [cell_of_row wz _ 3 _ _ _ HF.out]; rfl
    obtain ⟨x0, x1, x2, x3, x4, x5, x6, x7, x8, x9, x10, _, _, _, _, _, _, _, _, _, _, _⟩ := HX.out.cells
    have hr5 : k = 0 ∨ k = 1 ∨ k = 2 ∨ k = 3 ∨ k = 4 := by omega
    rcases hr5 with rfl | rfl | rfl | rfl | rfl
    · -- part 0
      have HS : Hid (Sg.catB ([p0, p1, p2, p3].take 1) = Sg.catB ([p0, p1, p2, p3].take 0) ++ p0) := Sg.catB_snoc [] p0
      have hos : (Sg.catB ([p0, p1, p2, p3].take 0)).size ≤ 0 := by
        have := Sg.catB_size ([p0, p1, p2, p3].take 0) 960 (fun x hx => HZ.out x (List.mem_of_mem_take hx))
        simpa using this
      generalize Sg.catB ([p0, p1, p2, p3].take 0) = oo at *
      go_wp2_with fail
      refine (hm wz hbr).mono ?_
      rintro e w4 ⟨y, rfl, hy, hys, hb4⟩
      go_wp2_with fail
      refine (write_any (w.heap.size + 1) oo y _ (HT.out.below hb4) (by omega)).mono ?_
      rintro e w5 ⟨rfl, tb5, hb5, hk5⟩
      have HTn : Hid (TB w5 (w.heap.size + 1) (Sg.catB ([p0, p1, p2, p3].take 1))) := by
        show TB _ _ _
        rw [HS.out, ← hy.out]
        exact tb5
      have HXn : Hid (PerBox w5 w.heap.size (.slice aoA nA capA) (.slice aoE ne capE) (.map (some m)) (.int .u64 (nHi t0)) (.int .u64 (nLo t0)) (.int .u64 (nHi t1)) (.int .u64 (nLo t1)) (.int .u64 (nHi t2)) (.int .u64 (nLo t2)) (.int .u64 (nHi t3)) (.int .u64 (nLo t3))) := (HX.out.below hb4).kept hk5 (by omega)
      have HFn : Hid (w5.heap[w.heap.size + 1 + 1]? = some (.cells #[fMany, fJour, fBals, fStat] 124 (0, 0))) := hk5 _ _ _ _ ((hb4.block _ (lt_of_block HF.out)).trans HF.out) (by omega) (by decide)
      have hs4 := hb4.size
      have hbe : Below w.heap.size w w5 := (hbr.trans (hb4.mono hsz)).trans (hb5.mono (by omega))
      clear tb5 hb5 hk5 hb4 HS HT HX HF g0 g1 g2 g3 x0 x1 x2 x3 x4 x5 x6 x7 x8 x9 x10
      go_wp2_with fail
      go_roundw
      case rel => exact ⟨1, by omega, by first | rfl | go_num, HTn, HXn, HFn, hbe⟩
      case measure => simp [intOf]
    · -- part 1
      have HS : Hid (Sg.catB ([p0, p1, p2, p3].take 2) = Sg.catB ([p0, p1, p2, p3].take 1) ++ p1) := Sg.catB_snoc [p0] p1
      have hos : (Sg.catB ([p0, p1, p2, p3].take 1)).size ≤ 960 := by
        have := Sg.catB_size ([p0, p1, p2, p3].take 1) 960 (fun x hx => HZ.out x (List.mem_of_mem_take hx))
        simpa using this
      generalize Sg.catB ([p0, p1, p2, p3].take 1) = oo at *
      go_wp2_with fail
      refine (hj wz hbr).mono ?_
      rintro e w4 ⟨y, rfl, hy, hys, hb4⟩
      go_wp2_with fail
      refine (write_any (w.heap.size + 1) oo y _ (HT.out.below hb4) (by omega)).mono ?_
      rintro e w5 ⟨rfl, tb5, hb5, hk5⟩
      have HTn : Hid (TB w5 (w.heap.size + 1) (Sg.catB ([p0, p1, p2, p3].take 2))) := by
        show TB _ _ _
        rw [HS.out, ← hy.out]
        exact tb5
      have HXn : Hid (PerBox w5 w.heap.size (.slice aoA nA capA) (.slice aoE ne capE) (.map (some m)) (.int .u64 (nHi t0)) (.int .u64 (nLo t0)) (.int .u64 (nHi t1)) (.int .u64 (nLo t1)) (.int .u64 (nHi t2)) (.int .u64 (nLo t2)) (.int .u64 (nHi t3)) (.int .u64 (nLo t3))) := (HX.out.below hb4).kept hk5 (by omega)
      have HFn : Hid (w5.heap[w.heap.size + 1 + 1]? = some (.cells #[fMany, fJour, fBals, fStat] 124 (0, 0))) := hk5 _ _ _ _ ((hb4.block _ (lt_of_block HF.out)).trans HF.out) (by omega) (by decide)
      have hs4 := hb4.size
      have hbe : Below w.heap.size w w5 := (hbr.trans (hb4.mono hsz)).trans (hb5.mono (by omega))
      clear tb5 hb5 hk5 hb4 HS HT HX HF g0 g1 g2 g3 x0 x1 x2 x3 x4 x5 x6 x7 x8 x9 x10
      go_wp2_with fail
      go_roundw
      case rel => exact ⟨2, by omega, by first | rfl | go_num, HTn, HXn, HFn, hbe⟩
      case measure => simp [intOf]
    · -- part 2
      have HS : Hid (Sg.catB ([p0, p1, p2, p3].take 3) = Sg.catB ([p0, p1, p2, p3].take 2) ++ p2) := Sg.catB_snoc [p0, p1] p2
      have hos : (Sg.catB ([p0, p1, p2, p3].take 2)).size ≤ 1920 := by
        have := Sg.catB_size ([p0, p1, p2, p3].take 2) 960 (fun x hx => HZ.out x (List.mem_of_mem_take hx))
        simpa using this
      generalize Sg.catB ([p0, p1, p2, p3].take 2) = oo at *
      go_wp2_with fail
      refine (hbl wz hbr).mono ?_
      rintro e w4 ⟨y, rfl, hy, hys, hb4⟩
      go_wp2_with fail
      refine (write_any (w.heap.size + 1) oo y _ (HT.out.below hb4) (by omega)).mono ?_
      rintro e w5 ⟨rfl, tb5, hb5, hk5⟩
      have HTn : Hid (TB w5 (w.heap.size + 1) (Sg.catB ([p0, p1, p2, p3].take 3))) := by
        show TB _ _ _
        rw [HS.out, ← hy.out]
        exact tb5
      have HXn : Hid (PerBox w5 w.heap.size (.slice aoA nA capA) (.slice aoE ne capE) (.map (some m)) (.int .u64 (nHi t0)) (.int .u64 (nLo t0)) (.int .u64 (nHi t1)) (.int .u64 (nLo t1)) (.int .u64 (nHi t2)) (.int .u64 (nLo t2)) (.int .u64 (nHi t3)) (.int .u64 (nLo t3))) := (HX.out.below hb4).kept hk5 (by omega)
      have HFn : Hid (w5.heap[w.heap.size + 1 + 1]? = some (.cells #[fMany, fJour, fBals, fStat] 124 (0, 0))) := hk5 _ _ _ _ ((hb4.block _ (lt_of_block HF.out)).trans HF.out) (by omega) (by decide)
      have hs4 := hb4.size
      have hbe : Below w.heap.size w w5 := (hbr.trans (hb4.mono hsz)).trans (hb5.mono (by omega))
      clear tb5 hb5 hk5 hb4 HS HT HX HF g0 g1 g2 g3 x0 x1 x2 x3 x4 x5 x6 x7 x8 x9 x10
      go_wp2_with fail
      go_roundw
      case rel => exact ⟨3, by omega, by first | rfl | go_num, HTn, HXn, HFn, hbe⟩
      case measure => simp [intOf]
    · -- part 3
      have HS : Hid (Sg.catB ([p0, p1, p2, p3].take 4) = Sg.catB ([p0, p1, p2, p3].take 3) ++ p3) := Sg.catB_snoc [p0, p1, p2] p3
      have hos : (Sg.catB ([p0, p1, p2, p3].take 3)).size ≤ 2880 := by
        have := Sg.catB_size ([p0, p1, p2, p3].take 3) 960 (fun x hx => HZ.out x (List.mem_of_mem_take hx))
        simpa using this
      generalize Sg.catB ([p0, p1, p2, p3].take 3) = oo at *
      go_wp2_with fail
      refine (hst wz hbr).mono ?_
      rintro e w4 ⟨y, rfl, hy, hys, hb4⟩
      go_wp2_with fail
      refine (write_any (w.heap.size + 1) oo y _ (HT.out.below hb4) (by omega)).mono ?_
      rintro e w5 ⟨rfl, tb5, hb5, hk5⟩
      have HTn : Hid (TB w5 (w.heap.size + 1) (Sg.catB ([p0, p1, p2, p3].take 4))) := by
        show TB _ _ _
        rw [HS.out, ← hy.out]
        exact tb5
      have HXn : Hid (PerBox w5 w.heap.size (.slice aoA nA capA) (.slice aoE ne capE) (.map (some m)) (.int .u64 (nHi t0)) (.int .u64 (nLo t0)) (.int .u64 (nHi t1)) (.int .u64 (nLo t1)) (.int .u64 (nHi t2)) (.int .u64 (nLo t2)) (.int .u64 (nHi t3)) (.int .u64 (nLo t3))) := (HX.out.below hb4).kept hk5 (by omega)
      have HFn : Hid (w5.heap[w.heap.size + 1 + 1]? = some (.cells #[fMany, fJour, fBals, fStat] 124 (0, 0))) := hk5 _ _ _ _ ((hb4.block _ (lt_of_block HF.out)).trans HF.out) (by omega) (by decide)
      have hs4 := hb4.size
      have hbe : Below w.heap.size w w5 := (hbr.trans (hb4.mono hsz)).trans (hb5.mono (by omega))
      clear tb5 hb5 hk5 hb4 HS HT HX HF g0 g1 g2 g3 x0 x1 x2 x3 x4 x5 x6 x7 x8 x9 x10
      go_wp2_with fail
      go_roundw
      case rel => exact ⟨4, by omega, by first | rfl | go_num, HTn, HXn, HFn, hbe⟩
      case measure => simp [intOf]
    · have hsize : (Sg.catB ([p0, p1, p2, p3].take 4)).size ≤ 3840 := by
        have := Sg.catB_size ([p0, p1, p2, p3].take 4) 960 (fun x hx => HZ.out x (List.mem_of_mem_take hx))
        simpa using this
      have HE : Hid (Sg.catB ([p0, p1, p2, p3].take 4) = Sg.perB es now [t0, t1, t2, t3]) := HPB.out.symm
      generalize Sg.catB ([p0, p1, p2, p3].take 4) = oo at *
      go_wp2_with fail
      refine (string_any _ _ _ HT.out).mono ?_
      rintro e w3 ⟨rfl, hb3⟩
      go_wp2_with fail
      go_ret
      exact ⟨_, rfl, HE, hsize, hbr.trans (hb3.mono (by omega))⟩
end Go.Proofs.YtpkkhkkkgjhkeabGreat

/-
  THE WALK of Book.Text.
-/
namespace Go.Proofs.YtpkkhkkkgjhkeabGreat
open Go.RowKit Go.Maps
set_option maxRecDepth 100000
attribute [local go_sem ↓] Go.wp_at_zero Go.wp_at_succ

/-- What the walks ask of a history that was closed. -/
structure Closed (w : World) (aoA : Option Addr) (nA nP : Nat) (h : Sg.Hist) (A : Value) (ao : Option Addr) (rs : List Rec) (b : Nat) : Prop where
  accs : AccsIn w aoA h.accs
  lenA : h.accs.length = nA
  lenP : h.pers.length = nP
  inb : Sg.inBounds h = true
  sizQ : ∀ p ∈ h.pers, ∀ e ∈ p, ∀ t ∈ e.posts, Sg.fits t.acct = true ∧ Sg.fits t.amt = true
  bk : BkIn w A ao nP h rs b
theorem RecsOk.below {w w' : World} {ps : List (List Sg.Ent)} {bal tot : List (List Int)} {rs : List Rec} (h : RecsOk w w ps bal tot rs) (hb : Below w.heap.size w w') : RecsOk w' w' ps bal tot rs :=
  RecsOk.world (h.kept (fun _ _ _ g => g.below hb)) hb
theorem BkIn.below {w w' : World} {A : Value} {ao : Option Addr} {nP : Nat} {h : Sg.Hist} {rs : List Rec} {b : Nat} (k : BkIn w A ao nP h rs b) (hb : Below w.heap.size w w') : BkIn w' A ao nP h rs b :=
  ⟨k.at_, Nat.lt_of_lt_of_le k.lt hb.size, fun i hi j hj => (hb.cell (p := ⟨b, i * 11 + j, none⟩) k.lt).trans (k.cells i hi j hj), k.len, k.recs.below hb, k.fineB, k.fineT⟩
theorem Closed.below {w w' : World} {aoA : Option Addr} {nA nP : Nat} {h : Sg.Hist} {A : Value} {ao : Option Addr} {rs : List Rec} {b : Nat} (c : Closed w aoA nA nP h A ao rs b) (hb : Below w.heap.size w w') : Closed w' aoA nA nP h A ao rs b :=
  ⟨c.accs.below hb, c.lenA, c.lenP, c.inb, c.sizQ, c.bk.below hb⟩
/-- One period of it. -/
structure PerOf (w : World) (h : Sg.Hist) (k nA : Nat) (r : Rec) (es : List Sg.Ent) (aoE : Option Addr) (ne capE : Nat) : Prop where
  eV : r.eV = .slice aoE ne capE
  len : es.length = ne
  le12 : ne ≤ 12
  ents : EntsIn w aoE es
  ok : ∀ e ∈ es, e.memo.size ≤ 20 ∧ e.posts.length ≤ 6 ∧ ∀ p ∈ e.posts, Sg.fits p.acct = true ∧ Sg.fits p.amt = true
  lenN : r.now.length = nA
  fitN : ∀ v ∈ r.now, Sg.fits v = true
  bal : BalIn w r.m 600 r.now
  fitT : ∀ v ∈ [r.t0, r.t1, r.t2, r.t3], Sg.fits v = true
theorem Closed.per {w : World} {aoA : Option Addr} {nA nP : Nat} {h : Sg.Hist} {A : Value} {ao : Option Addr} {rs : List Rec} {b k : Nat} (c : Closed w aoA nA nP h A ao rs b) (hk : k < nP) :
    ∃ (h1 : k < h.pers.length) (h2 : k < (Sg.balances h).length) (h3 : k < (Sg.totals h).length) (h4 : k < rs.length) (aoE : Option Addr) (ne capE : Nat), (Sg.balances h)[k] = rs[k].now ∧ (Sg.totals h)[k] = [rs[k].t0, rs[k].t1, rs[k].t2, rs[k].t3] ∧ PerOf w h k nA rs[k] h.pers[k] aoE ne capE := by
  have hr : k < rs.length := by rw [c.bk.len]; exact hk
  obtain ⟨h1, h2, h3, g1, g2, g3, aoE, capE, g4, g5⟩ := c.bk.recs k hr
  obtain ⟨p1, p2⟩ := Sg.bnd_pers c.inb h.pers[k] (List.getElem_mem h1)
  have fb := c.bk.fineB _ (List.getElem_mem h2)
  have ft := c.bk.fineT _ (List.getElem_mem h3)
  rw [g2, c.lenA] at fb
  rw [g3] at ft
  exact ⟨h1, h2, h3, hr, aoE, h.pers[k].length, capE, g2, g3, ⟨g4, rfl, p1, g5, fun e he => ⟨(p2 e he).1, (p2 e he).2, fun p hp => c.sizQ _ (List.getElem_mem h1) e he p hp⟩, fb.1, fb.2, g1, ft⟩⟩
theorem Closed.nums {w : World} {aoA : Option Addr} {nA nP : Nat} {h : Sg.Hist} {A : Value} {ao : Option Addr} {rs : List Rec} {b : Nat} (c : Closed w aoA nA nP h A ao rs b) : nA ≤ 8 ∧ nP ≤ 6 ∧ 1 ≤ nP := by
  have := Sg.bnd_nums c.inb
  rw [c.lenA, c.lenP] at this
  omega
/-- The eleven cells of a period of it. -/
theorem BkIn.eleven {w : World} {A : Value} {ao : Option Addr} {nP : Nat} {h : Sg.Hist} {rs : List Rec} {b : Nat} (c : BkIn w A ao nP h rs b) {k : Nat} (hk : k < rs.length) :
    w.cell? ⟨b, k * 11, none⟩ = some A ∧ w.cell? ⟨b, k * 11 + 1, none⟩ = some rs[k].eV ∧ w.cell? ⟨b, k * 11 + 2, none⟩ = some (.map (some rs[k].m)) ∧ w.cell? ⟨b, k * 11 + 3, none⟩ = some (.int .u64 (nHi rs[k].t0)) ∧ w.cell? ⟨b, k * 11 + 4, none⟩ = some (.int .u64 (nLo rs[k].t0)) ∧
    w.cell? ⟨b, k * 11 + 5, none⟩ = some (.int .u64 (nHi rs[k].t1)) ∧ w.cell? ⟨b, k * 11 + 6, none⟩ = some (.int .u64 (nLo rs[k].t1)) ∧ w.cell? ⟨b, k * 11 + 7, none⟩ = some (.int .u64 (nHi rs[k].t2)) ∧ w.cell? ⟨b, k * 11 + 8, none⟩ = some (.int .u64 (nLo rs[k].t2)) ∧
    w.cell? ⟨b, k * 11 + 9, none⟩ = some (.int .u64 (nHi rs[k].t3)) ∧ w.cell? ⟨b, k * 11 + 10, none⟩ = some (.int .u64 (nLo rs[k].t3)) := by
  refine ⟨c.cells k hk 0 (by omega), c.cells k hk 1 (by omega), c.cells k hk 2 (by omega), c.cells k hk 3 (by omega), c.cells k hk 4 (by omega), c.cells k hk 5 (by omega), c.cells k hk 6 (by omega), c.cells k hk 7 (by omega), c.cells k hk 8 (by omega), c.cells k hk 9 (by omega), c.cells k hk 10 (by omega)⟩

set_option maxHeartbeats 6400000 in
/-- Book.Text. -/
theorem bText_any (h : Sg.Hist) (aoA ao : Option Addr) (nA nP capA cap b : Nat) (rs : List Rec) (w : World) (hC : Closed w aoA nA nP h (.slice aoA nA capA) ao rs b) :
    Calls Tryz.prog 18 #[.agg #[.slice aoA nA capA, .slice ao nP cap]] w fun e w' => ∃ y, e = .returned (.string y) ∧ Hid (y = Sg.pkTo h (Sg.balances h) (Sg.totals h) nP) ∧ Below w.heap.size w w' := by
  obtain ⟨hn8, hn6, hn1⟩ := hC.nums
  have HC : Hid (Closed w aoA nA nP h (.slice aoA nA capA) ao rs b) := hC
  have hao := hC.bk.at_
  subst hao
  have hch := fun W (hb : Below w.heap.size w W) => bChart_any h.accs aoA nA capA (.slice (some ⟨b, 0, none⟩) nP cap) W hC.lenA hn8 (hC.accs.below hb) (fun a ha => (Sg.bnd_accs hC.inb a ha).1)
  have aB : Below w.heap.size w ((w.alloc (.cells #[.slice aoA nA capA, .slice (some ⟨b, 0, none⟩) nP cap] 65)).alloc (.cells #[.pointer none, .slice none 0 0] 92)) := ((Below.refl _ _).alloc (Nat.le_refl _) _).alloc (by simp) _
  have hB0 : Two ((w.alloc (.cells #[.slice aoA nA capA, .slice (some ⟨b, 0, none⟩) nP cap] 65)).alloc (.cells #[.pointer none, .slice none 0 0] 92)) w.heap.size (.slice aoA nA capA) (.slice (some ⟨b, 0, none⟩) nP cap) 65 := (Two.new w _ _ _).below ((Below.refl _ _).alloc (Nat.le_refl _) _)
  have ht0 : TB ((w.alloc (.cells #[.slice aoA nA capA, .slice (some ⟨b, 0, none⟩) nP cap] 65)).alloc (.cells #[.pointer none, .slice none 0 0] 92)) (w.heap.size + 1) ByteArray.empty := by
    have := TB.new (w.alloc (.cells #[.slice aoA nA capA, .slice (some ⟨b, 0, none⟩) nP cap] 65))
    have e : (w.alloc (.cells #[.slice aoA nA capA, .slice (some ⟨b, 0, none⟩) nP cap] 65)).heap.size = w.heap.size + 1 := by simp
    rw [e] at this
    exact this
  have HLP : Hid (h.pers.length = nP) := hC.lenP
  clear hC
  have hsg : ({ data := #[83, 73, 71, 78] } : ByteArray).size = 4 := rfl
  have hse : ByteArray.empty.size = 0 := rfl
  go_enter Tryz.func18, Tryz.ntmps18
  go_wp2_with fail
  go_region_held3 (fun w' => w'.cell? ⟨w.heap.size, 0, none⟩ = some (.slice aoA nA capA) ∧ w'.cell? ⟨w.heap.size, 1, none⟩ = some (.slice (some ⟨b, 0, none⟩) nP cap)) (first | assumption | exact hB0.cells | exact two_drew hB0.cells | exact two_drew (x := .slice aoA nA capA) (y := .slice (some ⟨b, 0, none⟩) nP cap) (by assumption))
    (first
      | (go_at_call 33; refine (one_txt (nP : Int) _).mono ?_; rintro e w4 ⟨y2, rfl, hy2, hys2, hb4⟩; have q3 := cat (({ data := #[83, 73, 71, 78] } : ByteArray) ++ y1) y2 (by rw [cat_size, hsg]; omega); have hT4 : Two w4 w.heap.size (.slice aoA nA capA) (.slice (some ⟨b, 0, none⟩) nP cap) 65 := (by first | exact hT3.below hb4 | exact hT3.drew.below hb4); have tb4 : TB w4 (w.heap.size + 1) ByteArray.empty := (by first | exact tb3.below hb4 | exact tb3.drew.below hb4); have hh4 := hT4.cells; have b4 : Below w.heap.size w w4 := (by first | exact b3.trans (hb4.mono b3.size) | exact b3.drew.trans (hb4.mono b3.size)))
      | (go_at_call 32; refine (hch _ (by first | exact aB | exact aB.drew)).mono ?_; rintro e w3 ⟨y1, rfl, hy1, hys1, hb3⟩; have q2 := cat ({ data := #[83, 73, 71, 78] } : ByteArray) y1 (by rw [hsg]; omega); have hT3 : Two w3 w.heap.size (.slice aoA nA capA) (.slice (some ⟨b, 0, none⟩) nP cap) 65 := Two.below (by first | exact hB0.drew | exact hB0) hb3; have tb3 : TB w3 (w.heap.size + 1) ByteArray.empty := TB.below (by first | exact ht0.drew | exact ht0) hb3; have hh3 := hT3.cells; have b3 : Below w.heap.size w w3 := (by first | exact aB.drew.trans (hb3.mono (by simp; omega)) | exact aB.trans (hb3.mono (by simp; omega))))
      | (go_at_call 31; refine (write_any (w.heap.size + 1) ByteArray.empty (({ data := #[83, 73, 71, 78] } : ByteArray) ++ y1 ++ y2) _ tb4 (by rw [cat_size, cat_size, hsg, hse]; omega)).mono ?_; rintro e w5 ⟨rfl, tb5, hb5, hk5⟩; have hT5 := hT4.kept hk5 (by omega) (by decide); have hh5 := hT5.cells; have b5 : Below w.heap.size w w5 := b4.trans (hb5.mono (by omega))))
  have HT0 : Hid (TB w5 (w.heap.size + 1) (Sg.pkTo h (Sg.balances h) (Sg.totals h) 0)) := by
    have e : ByteArray.empty ++ (({ data := #[83, 73, 71, 78] } : ByteArray) ++ y1 ++ y2) = Sg.pkTo h (Sg.balances h) (Sg.totals h) 0 := by
      unfold Sg.pkTo
      simp only [List.take_zero]
      rw [hy1.out, hy2.out, HLP.out]
      simp [Sg.persText, Sg.signT]
    rw [← e]
    exact tb5
  have hsz0 : (Sg.pkTo h (Sg.balances h) (Sg.totals h) 0).size ≤ 200 := by
    have e : Sg.pkTo h (Sg.balances h) (Sg.totals h) 0 = ({ data := #[83, 73, 71, 78] } : ByteArray) ++ y1 ++ y2 := by
      unfold Sg.pkTo
      simp only [List.take_zero]
      rw [hy1.out, hy2.out, HLP.out]
      simp [Sg.persText, Sg.signT]
    rw [e, cat_size, cat_size, hsg]
    omega
  have HZ0 : Hid ((Sg.pkTo h (Sg.balances h) (Sg.totals h) 0).size ≤ 200 + 3840 * 0) := by show _ ≤ _; omega
  obtain ⟨_, c1⟩ := hT5.cells
  clear hh3 hh4 hh5 hb3 hb4 hb5 hk5 tb3 tb4 tb5 hT3 hT4 hT5 q2 q3 b3 b4 aB hB0 ht0 hch hsz0 hy1 hy2
  go_wp2_with fail
  clear c1
  go_loopw [18] (fun i wr => ∃ k : Nat, k ≤ nP ∧ i = .int .i64 (k : Int) ∧ Hid (TB wr (w.heap.size + 1) (Sg.pkTo h (Sg.balances h) (Sg.totals h) k)) ∧ Hid ((Sg.pkTo h (Sg.balances h) (Sg.totals h) k).size ≤ 200 + 3840 * k) ∧ Below w.heap.size w wr) (fun i _ => nP - (intOf i).toNat)
  case atStart => exact ⟨0, by omega, rfl, HT0, HZ0, b5⟩
  case round =>
    obtain ⟨k, hk, rfl, HT, HZ, hbr⟩ := hrel
    obtain ⟨wz, ewz⟩ : ∃ z : World, z = wr := ⟨_, rfl⟩
    subst ewz
    have hsz := hbr.size
    have htl := HT.out.lt
    clear HT0 HZ0 b5
    by_cases hlt : k < nP
    · obtain ⟨h1, h2, h3, h4, aoE, ne, capE, g1, g2, hper⟩ := (HC.out.below hbr).per hlt
      obtain ⟨x0, x1, x2, x3, x4, x5, x6, x7, x8, x9, x10⟩ := (HC.out.below hbr).bk.eleven h4
      have hbz := (HC.out.below hbr).bk.lt
      have HS : Hid (Sg.pkTo h (Sg.balances h) (Sg.totals h) (k + 1) = Sg.pkTo h (Sg.balances h) (Sg.totals h) k ++ Sg.perB h.pers[k] rs[k].now [rs[k].t0, rs[k].t1, rs[k].t2, rs[k].t3]) := by
        show _ = _
        rw [Sg.pkTo_succ _ _ _ k h1 h2 h3, Sg.perText_eq, g1, g2]
      have hcall := fun W (hb : Below wz.heap.size wz W) => perText_any h.pers[k] rs[k].now rs[k].t0 rs[k].t1 rs[k].t2 rs[k].t3 aoA aoE nA capA ne capE rs[k].m 600 W hper.len hper.le12 (hper.ents.below hb) hper.ok hper.lenN hn8 hper.fitN (hper.bal.below hb) hper.fitT
      rw [hper.eV] at x1
      have hos := HZ.out
      have HPs : Hid (∀ y : ByteArray, y = Sg.perB h.pers[k] rs[k].now [rs[k].t0, rs[k].t1, rs[k].t2, rs[k].t3] → y.size ≤ 3840 → (Sg.pkTo h (Sg.balances h) (Sg.totals h) (k + 1)).size ≤ 200 + 3840 * (k + 1)) := fun y hy hys => by
        rw [HS.out, ← hy, cat_size]
        have := HZ.out
        omega
      generalize Sg.pkTo h (Sg.balances h) (Sg.totals h) k = oo at *
      generalize rs[k].m = m at *
      generalize rs[k].now = now at *
      generalize rs[k].t0 = t0 at *
      generalize rs[k].t1 = t1 at *
      generalize rs[k].t2 = t2 at *
      generalize rs[k].t3 = t3 at *
      have i1 : (0 : Int) ≤ (k : Int) := by omega
      have i2 : (k : Int) < (nP : Int) := by omega
      clear hper g1 g2
      go_wp2_with fail
      refine (hcall _ ((Below.refl _ _).alloc (Nat.le_refl _) _)).mono ?_
      rintro e w4 ⟨y, rfl, hy, hys, hb4⟩
      have b4 : Below wz.heap.size wz w4 := ((Below.refl _ _).alloc (Nat.le_refl _) _).trans (hb4.mono (by simp))
      go_wp2_with fail
      refine (write_any (w.heap.size + 1) oo y _ (HT.out.below b4) (by omega)).mono ?_
      rintro e w5 ⟨rfl, tb5, hb5, hk5⟩
      have HTn : Hid (TB w5 (w.heap.size + 1) (Sg.pkTo h (Sg.balances h) (Sg.totals h) (k + 1))) := by
        show TB _ _ _
        rw [HS.out, ← hy.out]
        exact tb5
      have HZn : Hid ((Sg.pkTo h (Sg.balances h) (Sg.totals h) (k + 1)).size ≤ 200 + 3840 * (k + 1)) := HPs.out y hy.out hys
      have hs4 := b4.size
      have hbe : Below w.heap.size w w5 := (hbr.trans (b4.mono hsz)).trans (hb5.mono (by omega))
      clear tb5 hb5 hk5 hb4 b4 HS HT HZ hos HPs hcall x0 x1 x2 x3 x4 x5 x6 x7 x8 x9 x10
      go_wp2_with fail
      go_roundw
      case rel => exact ⟨k + 1, by omega, by go_num, HTn, HZn, hbe⟩
      case measure => simp [intOf]; omega
    · have HE : Hid (Sg.pkTo h (Sg.balances h) (Sg.totals h) k = Sg.pkTo h (Sg.balances h) (Sg.totals h) nP) := by show _ = _; rw [show k = nP by omega]
      generalize Sg.pkTo h (Sg.balances h) (Sg.totals h) k = oo at *
      go_wp2_with fail
      refine (string_any _ _ _ HT.out).mono ?_
      rintro e w3 ⟨rfl, hb3⟩
      go_wp2_with fail
      go_ret
      exact ⟨_, rfl, HE, hbr.trans (hb3.mono (by omega))⟩
end Go.Proofs.YtpkkhkkkgjhkeabGreat

/-
  THE WALKS of Header.Text, Header.Sum, HeaderTexts: and how headers lie in memory.
-/
namespace Go.Proofs.YtpkkhkkkgjhkeabGreat
open Go.RowKit
set_option maxRecDepth 100000
attribute [local go_sem ↓] Go.wp_at_zero Go.wp_at_succ

theorem Tryz.infoHdr : (Tryz.prog.info? 100).map (fun i => (i.zero, i.size, i.bytes)) = some (some (.agg #[.string ByteArray.empty, .int .i64 0, .string ByteArray.empty, .string ByteArray.empty, .int .i64 0, .string ByteArray.empty, .string ByteArray.empty, .string ByteArray.empty]), 8, 112) := by kernel_rfl
/-- A header: what it tells. -/
structure Sg.Hdr where
  mark : ByteArray
  num : Int
  ahead : ByteArray
  chart : ByteArray
  ents : Int
  jour : ByteArray
  stat : ByteArray
  bals : ByteArray
def Sg.hdrB (h : Sg.Hdr) : ByteArray := h.mark ++ Sg.beB h.num 1 ++ h.ahead ++ h.chart ++ Sg.beB h.ents 1 ++ h.jour ++ h.stat ++ h.bals
/-- As it can come up. -/
def Sg.Hdr.small (h : Sg.Hdr) : Prop := h.mark.size ≤ 16 ∧ h.ahead.size ≤ 16 ∧ h.chart.size ≤ 16 ∧ h.jour.size ≤ 16 ∧ h.stat.size ≤ 16 ∧ h.bals.size ≤ 16
def hdrVals (h : Sg.Hdr) : List Value := [.string h.mark, .int .i64 h.num, .string h.ahead, .string h.chart, .int .i64 h.ents, .string h.jour, .string h.stat, .string h.bals]
def hdrCells (hs : List Sg.Hdr) : List Value := hs.flatMap hdrVals
theorem hdrCells_length : ∀ hs, (hdrCells hs).length = hs.length * 8
  | [] => rfl
  | h :: hs => by simp only [hdrCells, List.flatMap_cons, List.length_append, List.length_cons]; have := hdrCells_length hs; unfold hdrCells at this; rw [this]; simp [hdrVals]; omega
theorem hdrCells_snoc (hs : List Sg.Hdr) (h : Sg.Hdr) : hdrCells (hs ++ [h]) = hdrCells hs ++ [.string h.mark, .int .i64 h.num, .string h.ahead, .string h.chart, .int .i64 h.ents, .string h.jour, .string h.stat, .string h.bals] := by
  unfold hdrCells; rw [List.flatMap_append]; simp [hdrVals]
theorem hdrCells_get : ∀ (hs : List Sg.Hdr) (i : Nat) (hi : i < hs.length) (j : Nat), j < 8 → (hdrCells hs)[i * 8 + j]? = (hdrVals hs[i])[j]?
  | h :: hs, 0, _, j, hj => by
    show (hdrVals h ++ hdrCells hs)[0 * 8 + j]? = _
    rw [List.getElem?_append_left (by simp [hdrVals]; omega)]
    simp
  | h :: hs, i + 1, hi, j, hj => by
    have := hdrCells_get hs i (by simpa using hi) j hj
    show (hdrVals h ++ hdrCells hs)[(i + 1) * 8 + j]? = _
    rw [List.getElem?_append_right (by simp [hdrVals]; omega)]
    rw [show (i + 1) * 8 + j - (hdrVals h).length = i * 8 + j by simp [hdrVals]; omega, this]
    simp
/-- A list of headers that is the call's own. -/
def OwnH (w : World) (base : Nat) (v : Value) (hs : List Sg.Hdr) : Prop := w.ownsRow base 100 8 v hs.length (hdrCells hs)
theorem OwnH.below {w w' : World} {base : Nat} {v : Value} {hs : List Sg.Hdr} (h : OwnH w base v hs) (hb : Below w.heap.size w w') : OwnH w' base v hs := ownsRow_below h hb
theorem OwnH.nil (w : World) (B : Nat) : OwnH w B (.slice none 0 0) [] := World.ownsRow_nil _ _ _ _
/-- A header's cells. -/
def HdrAt (W : World) (g o : Nat) (h : Sg.Hdr) : Prop := W.cell? ⟨g, o, none⟩ = some (.string h.mark) ∧ W.cell? ⟨g, o + 1, none⟩ = some (.int .i64 h.num) ∧ W.cell? ⟨g, o + 2, none⟩ = some (.string h.ahead) ∧ W.cell? ⟨g, o + 3, none⟩ = some (.string h.chart) ∧ W.cell? ⟨g, o + 4, none⟩ = some (.int .i64 h.ents) ∧ W.cell? ⟨g, o + 5, none⟩ = some (.string h.jour) ∧ W.cell? ⟨g, o + 6, none⟩ = some (.string h.stat) ∧ W.cell? ⟨g, o + 7, none⟩ = some (.string h.bals)
theorem HdrAt.below {w w' : World} {B b o : Nat} {h : Sg.Hdr} (hd : HdrAt w b o h) (hb : Below B w w') (hlt : b < B) : HdrAt w' b o h := by
  unfold HdrAt at *
  rw [hb.cell (p := ⟨b, o, none⟩) hlt, hb.cell (p := ⟨b, o + 1, none⟩) hlt, hb.cell (p := ⟨b, o + 2, none⟩) hlt, hb.cell (p := ⟨b, o + 3, none⟩) hlt, hb.cell (p := ⟨b, o + 4, none⟩) hlt, hb.cell (p := ⟨b, o + 5, none⟩) hlt, hb.cell (p := ⟨b, o + 6, none⟩) hlt, hb.cell (p := ⟨b, o + 7, none⟩) hlt]
  exact hd
def HdrsIn (w : World) (ao : Option Addr) (hs : List Sg.Hdr) : Prop := hs.length = 0 ∨ ∃ b off, ao = some ⟨b, off, none⟩ ∧ b < w.heap.size ∧ ∀ i (h : i < hs.length), HdrAt w b (off + i * 8) hs[i]
theorem HdrsIn.below {w w' : World} {ao : Option Addr} {hs : List Sg.Hdr} (h : HdrsIn w ao hs) (hb : Below w.heap.size w w') : HdrsIn w' ao hs := by
  rcases h with h0 | ⟨b, off, e, hbw, hat⟩
  · exact Or.inl h0
  · exact Or.inr ⟨b, off, e, Nat.lt_of_lt_of_le hbw hb.size, fun i hi => (hat i hi).below hb hbw⟩
theorem HdrsIn.cell {w : World} {ao : Option Addr} {hs : List Sg.Hdr} (h : HdrsIn w ao hs) {k : Nat} (hk : k < hs.length) : ∃ b off, ao = some ⟨b, off, none⟩ ∧ b < w.heap.size ∧ HdrAt w b (off + k * 8) hs[k] := by
  rcases h with h0 | ⟨b, off, e, hbw, hat⟩
  · omega
  · exact ⟨b, off, e, hbw, hat k hk⟩
theorem OwnH.shape {w : World} {base : Nat} {v : Value} {hs : List Sg.Hdr} (h : OwnH w base v hs) : ∃ ao cap, v = .slice ao hs.length cap ∧ hs.length ≤ cap ∧ cap ≤ maxLen ∧ HdrsIn w ao hs := by
  have hk := h
  rcases h.2 with ⟨rfl, h0⟩ | ⟨g, cap, cur, rfl, _, hh, hle, hm, _, _⟩
  · exact ⟨none, 0, by rw [h0], by omega, by unfold maxLen; omega, Or.inl h0⟩
  · refine ⟨_, cap, rfl, hle, hm, Or.inr ⟨g, 0, rfl, lt_of_block hh, fun i hi => ?_⟩⟩
    unfold HdrAt
    simp only [Nat.zero_add]
    have hc := fun j (hj : j < 8) => (World.ownsRow.cellAt hk (i * 8 + j) (by omega)).trans (hdrCells_get hs i hi j hj)
    exact ⟨hc 0 (by omega), hc 1 (by omega), hc 2 (by omega), hc 3 (by omega), hc 4 (by omega), hc 5 (by omega), hc 6 (by omega), hc 7 (by omega)⟩
/-- A header in a box of its own. -/
def HBox (W : World) (g : Nat) (h : Sg.Hdr) : Prop := W.heap[g]? = some (.cells #[.string h.mark, .int .i64 h.num, .string h.ahead, .string h.chart, .int .i64 h.ents, .string h.jour, .string h.stat, .string h.bals] 100 (0, 0))
theorem HBox.cells {W : World} {g : Nat} {h : Sg.Hdr} (k : HBox W g h) : W.cell? ⟨g, 0, none⟩ = some (.string h.mark) ∧ W.cell? ⟨g, 1, none⟩ = some (.int .i64 h.num) ∧ W.cell? ⟨g, 2, none⟩ = some (.string h.ahead) ∧ W.cell? ⟨g, 3, none⟩ = some (.string h.chart) ∧ W.cell? ⟨g, 4, none⟩ = some (.int .i64 h.ents) ∧ W.cell? ⟨g, 5, none⟩ = some (.string h.jour) ∧ W.cell? ⟨g, 6, none⟩ = some (.string h.stat) ∧ W.cell? ⟨g, 7, none⟩ = some (.string h.bals) :=
  ⟨by rw [cell_of_row W g 0 _ _ _ k]; rfl, by rw [cell_of_row W g 1 _ _ _ k]; rfl, by rw [cell_of_row W g 2 _ _ _ k]; rfl, by rw [cell_of_row W g 3 _ _ _ k]; rfl, by rw [cell_of_row W g 4 _ _ _ k]; rfl, by rw [cell_of_row W g 5 _ _ _ k]; rfl, by rw [cell_of_row W g 6 _ _ _ k]; rfl, by rw [cell_of_row W g 7 _ _ _ k]; rfl⟩
theorem HBox.free {W : World} {g : Nat} {h : Sg.Hdr} (k : HBox W g h) : W.frozen? ⟨g, 0, none⟩ = false ∧ W.frozen? ⟨g, 1, none⟩ = false ∧ W.frozen? ⟨g, 2, none⟩ = false ∧ W.frozen? ⟨g, 3, none⟩ = false ∧ W.frozen? ⟨g, 4, none⟩ = false ∧ W.frozen? ⟨g, 5, none⟩ = false ∧ W.frozen? ⟨g, 6, none⟩ = false ∧ W.frozen? ⟨g, 7, none⟩ = false := by
  unfold HBox at k
  refine ⟨?_, ?_, ?_, ?_, ?_, ?_, ?_, ?_⟩ <;> simp [World.frozen?, k]
theorem HBox.new (w : World) (h : Sg.Hdr) : HBox (w.alloc (.cells #[.string h.mark, .int .i64 h.num, .string h.ahead, .string h.chart, .int .i64 h.ents, .string h.jour, .string h.stat, .string h.bals] 100)) w.heap.size h := heap_alloc_new w _
set_option maxHeartbeats 1600000 in
theorem HBox.fill {w : World} {g : Nat} {z : Sg.Hdr} (k : HBox w g z) (h : Sg.Hdr) : HBox ((((((((w.setCell ⟨g, 0, none⟩ (.string h.mark)).setCell ⟨g, 1, none⟩ (.int .i64 h.num)).setCell ⟨g, 2, none⟩ (.string h.ahead)).setCell ⟨g, 3, none⟩ (.string h.chart)).setCell ⟨g, 4, none⟩ (.int .i64 h.ents)).setCell ⟨g, 5, none⟩ (.string h.jour)).setCell ⟨g, 6, none⟩ (.string h.stat)).setCell ⟨g, 7, none⟩ (.string h.bals)) g h := by
  have k1 : (w.setCell ⟨g, 0, none⟩ (.string h.mark)).heap[g]? = some (.cells #[.string h.mark, .int .i64 z.num, .string z.ahead, .string z.chart, .int .i64 z.ents, .string z.jour, .string z.stat, .string z.bals] 100 (0, 0)) := heap_setCell_same _ g 0 _ _ (.string h.mark) k
  have k2 : ((w.setCell ⟨g, 0, none⟩ (.string h.mark)).setCell ⟨g, 1, none⟩ (.int .i64 h.num)).heap[g]? = some (.cells #[.string h.mark, .int .i64 h.num, .string z.ahead, .string z.chart, .int .i64 z.ents, .string z.jour, .string z.stat, .string z.bals] 100 (0, 0)) := heap_setCell_same _ g 1 _ _ (.int .i64 h.num) k1
  have k3 : (((w.setCell ⟨g, 0, none⟩ (.string h.mark)).setCell ⟨g, 1, none⟩ (.int .i64 h.num)).setCell ⟨g, 2, none⟩ (.string h.ahead)).heap[g]? = some (.cells #[.string h.mark, .int .i64 h.num, .string h.ahead, .string z.chart, .int .i64 z.ents, .string z.jour, .string z.stat, .string z.bals] 100 (0, 0)) := heap_setCell_same _ g 2 _ _ (.string h.ahead) k2
  have k4 : ((((w.setCell ⟨g, 0, none⟩ (.string h.mark)).setCell ⟨g, 1, none⟩ (.int .i64 h.num)).setCell ⟨g, 2, none⟩ (.string h.ahead)).setCell ⟨g, 3, none⟩ (.string h.chart)).heap[g]? = some (.cells #[.string h.mark, .int .i64 h.num, .string h.ahead, .string h.chart, .int .i64 z.ents, .string z.jour, .string z.stat, .string z.bals] 100 (0, 0)) := heap_setCell_same _ g 3 _ _ (.string h.chart) k3
  have k5 : (((((w.setCell ⟨g, 0, none⟩ (.string h.mark)).setCell ⟨g, 1, none⟩ (.int .i64 h.num)).setCell ⟨g, 2, none⟩ (.string h.ahead)).setCell ⟨g, 3, none⟩ (.string h.chart)).setCell ⟨g, 4, none⟩ (.int .i64 h.ents)).heap[g]? = some (.cells #[.string h.mark, .int .i64 h.num, .string h.ahead, .string h.chart, .int .i64 h.ents, .string z.jour, .string z.stat, .string z.bals] 100 (0, 0)) := heap_setCell_same _ g 4 _ _ (.int .i64 h.ents) k4
  have k6 : ((((((w.setCell ⟨g, 0, none⟩ (.string h.mark)).setCell ⟨g, 1, none⟩ (.int .i64 h.num)).setCell ⟨g, 2, none⟩ (.string h.ahead)).setCell ⟨g, 3, none⟩ (.string h.chart)).setCell ⟨g, 4, none⟩ (.int .i64 h.ents)).setCell ⟨g, 5, none⟩ (.string h.jour)).heap[g]? = some (.cells #[.string h.mark, .int .i64 h.num, .string h.ahead, .string h.chart, .int .i64 h.ents, .string h.jour, .string z.stat, .string z.bals] 100 (0, 0)) := heap_setCell_same _ g 5 _ _ (.string h.jour) k5
  have k7 : (((((((w.setCell ⟨g, 0, none⟩ (.string h.mark)).setCell ⟨g, 1, none⟩ (.int .i64 h.num)).setCell ⟨g, 2, none⟩ (.string h.ahead)).setCell ⟨g, 3, none⟩ (.string h.chart)).setCell ⟨g, 4, none⟩ (.int .i64 h.ents)).setCell ⟨g, 5, none⟩ (.string h.jour)).setCell ⟨g, 6, none⟩ (.string h.stat)).heap[g]? = some (.cells #[.string h.mark, .int .i64 h.num, .string h.ahead, .string h.chart, .int .i64 h.ents, .string h.jour, .string h.stat, .string z.bals] 100 (0, 0)) := heap_setCell_same _ g 6 _ _ (.string h.stat) k6
  have k8 : ((((((((w.setCell ⟨g, 0, none⟩ (.string h.mark)).setCell ⟨g, 1, none⟩ (.int .i64 h.num)).setCell ⟨g, 2, none⟩ (.string h.ahead)).setCell ⟨g, 3, none⟩ (.string h.chart)).setCell ⟨g, 4, none⟩ (.int .i64 h.ents)).setCell ⟨g, 5, none⟩ (.string h.jour)).setCell ⟨g, 6, none⟩ (.string h.stat)).setCell ⟨g, 7, none⟩ (.string h.bals)).heap[g]? = some (.cells #[.string h.mark, .int .i64 h.num, .string h.ahead, .string h.chart, .int .i64 h.ents, .string h.jour, .string h.stat, .string h.bals] 100 (0, 0)) := heap_setCell_same _ g 7 _ _ (.string h.bals) k7
  exact k8
theorem HBox.below {w w' : World} {g : Nat} {h : Sg.Hdr} (k : HBox w g h) (hb : Below w.heap.size w w') : HBox w' g h := (hb.block g (lt_of_block k)).trans k
theorem HBox.drew {w : World} {g : Nat} {h : Sg.Hdr} (k : HBox w g h) : HBox w.drew g h := k
theorem Sg.hdrB_small {h : Sg.Hdr} (k : h.small) : (Sg.hdrB h).size ≤ 100 := by
  obtain ⟨k1, k2, k3, k4, k5, k6⟩ := k
  unfold Sg.hdrB
  rw [cat_size, cat_size, cat_size, cat_size, cat_size, cat_size, cat_size, Sg.beB_size, Sg.beB_size]; omega

theorem eight_drew {W : World} {g : Nat} {x0 x1 x2 x3 x4 x5 x6 x7 : Value} (h : W.cell? ⟨g, 0, none⟩ = some x0 ∧ W.cell? ⟨g, 1, none⟩ = some x1 ∧ W.cell? ⟨g, 2, none⟩ = some x2 ∧ W.cell? ⟨g, 3, none⟩ = some x3 ∧ W.cell? ⟨g, 4, none⟩ = some x4 ∧ W.cell? ⟨g, 5, none⟩ = some x5 ∧ W.cell? ⟨g, 6, none⟩ = some x6 ∧ W.cell? ⟨g, 7, none⟩ = some x7) :
    W.drew.cell? ⟨g, 0, none⟩ = some x0 ∧ W.drew.cell? ⟨g, 1, none⟩ = some x1 ∧ W.drew.cell? ⟨g, 2, none⟩ = some x2 ∧ W.drew.cell? ⟨g, 3, none⟩ = some x3 ∧ W.drew.cell? ⟨g, 4, none⟩ = some x4 ∧ W.drew.cell? ⟨g, 5, none⟩ = some x5 ∧ W.drew.cell? ⟨g, 6, none⟩ = some x6 ∧ W.drew.cell? ⟨g, 7, none⟩ = some x7 := ⟨by simpa using h.1, by simpa using h.2.1, by simpa using h.2.2.1, by simpa using h.2.2.2.1, by simpa using h.2.2.2.2.1, by simpa using h.2.2.2.2.2.1, by simpa using h.2.2.2.2.2.2.1, by simpa using h.2.2.2.2.2.2.2⟩

set_option maxHeartbeats 6400000 in
/-- Header.Text. -/
theorem hdrText_any (h : Sg.Hdr) (w : World) (hs : h.small) :
    Calls Tryz.prog 67 #[.agg #[.string h.mark, .int .i64 h.num, .string h.ahead, .string h.chart, .int .i64 h.ents, .string h.jour, .string h.stat, .string h.bals]] w fun e w' => ∃ y, e = .returned (.string y) ∧ Hid (y = Sg.hdrB h) ∧ y.size ≤ 200 ∧ Below w.heap.size w w' := by
  obtain ⟨k1, k2, k3, k4, k5, k6⟩ := hs
  have hT0 := HBox.new w h
  have HE : Hid (Sg.hdrB h = h.mark ++ Sg.beB h.num 1 ++ h.ahead ++ h.chart ++ Sg.beB h.ents 1 ++ h.jour ++ h.stat ++ h.bals) := rfl
  obtain ⟨mark, num, ahead, chart, ents, jour, stat, bals⟩ := h
  simp only at k1 k2 k3 k4 k5 k6 HE
  have hT0c : (w.alloc (.cells #[.string mark, .int .i64 num, .string ahead, .string chart, .int .i64 ents, .string jour, .string stat, .string bals] 100)).cell? ⟨w.heap.size, 0, none⟩ = some (.string mark) ∧ (w.alloc (.cells #[.string mark, .int .i64 num, .string ahead, .string chart, .int .i64 ents, .string jour, .string stat, .string bals] 100)).cell? ⟨w.heap.size, 1, none⟩ = some (.int .i64 num) ∧ (w.alloc (.cells #[.string mark, .int .i64 num, .string ahead, .string chart, .int .i64 ents, .string jour, .string stat, .string bals] 100)).cell? ⟨w.heap.size, 2, none⟩ = some (.string ahead) ∧ (w.alloc (.cells #[.string mark, .int .i64 num, .string ahead, .string chart, .int .i64 ents, .string jour, .string stat, .string bals] 100)).cell? ⟨w.heap.size, 3, none⟩ = some (.string chart) ∧ (w.alloc (.cells #[.string mark, .int .i64 num, .string ahead, .string chart, .int .i64 ents, .string jour, .string stat, .string bals] 100)).cell? ⟨w.heap.size, 4, none⟩ = some (.int .i64 ents) ∧ (w.alloc (.cells #[.string mark, .int .i64 num, .string ahead, .string chart, .int .i64 ents, .string jour, .string stat, .string bals] 100)).cell? ⟨w.heap.size, 5, none⟩ = some (.string jour) ∧ (w.alloc (.cells #[.string mark, .int .i64 num, .string ahead, .string chart, .int .i64 ents, .string jour, .string stat, .string bals] 100)).cell? ⟨w.heap.size, 6, none⟩ = some (.string stat) ∧ (w.alloc (.cells #[.string mark, .int .i64 num, .string ahead, .string chart, .int .i64 ents, .string jour, .string stat, .string bals] 100)).cell? ⟨w.heap.size, 7, none⟩ = some (.string bals) := hT0.cells
  have aA : Below w.heap.size w (w.alloc (.cells #[.string mark, .int .i64 num, .string ahead, .string chart, .int .i64 ents, .string jour, .string stat, .string bals] 100)) := (Below.refl _ _).alloc (Nat.le_refl _) _
  go_enter Tryz.func67, Tryz.ntmps67
  go_wp2_with fail
  go_region_held3 (fun w' => w'.cell? ⟨w.heap.size, 0, none⟩ = some (.string mark) ∧ w'.cell? ⟨w.heap.size, 1, none⟩ = some (.int .i64 num) ∧ w'.cell? ⟨w.heap.size, 2, none⟩ = some (.string ahead) ∧ w'.cell? ⟨w.heap.size, 3, none⟩ = some (.string chart) ∧ w'.cell? ⟨w.heap.size, 4, none⟩ = some (.int .i64 ents) ∧ w'.cell? ⟨w.heap.size, 5, none⟩ = some (.string jour) ∧ w'.cell? ⟨w.heap.size, 6, none⟩ = some (.string stat) ∧ w'.cell? ⟨w.heap.size, 7, none⟩ = some (.string bals)) (first | assumption | exact hT0c | exact eight_drew hT0c | exact eight_drew (x0 := .string mark) (x1 := .int .i64 num) (x2 := .string ahead) (x3 := .string chart) (x4 := .int .i64 ents) (x5 := .string jour) (x6 := .string stat) (x7 := .string bals) (by assumption))
    (first
      | (go_at_call_of 33 (Value.int IntKind.i64 num); refine (one_txt num _).mono ?_; rintro e w1 ⟨y1, rfl, hy1, hys1, hb1⟩; have q1 := cat mark y1 (by omega); have q2 := cat (mark ++ y1) ahead (by rw [cat_size]; omega); have q3 := cat (mark ++ y1 ++ ahead) chart (by rw [cat_size, cat_size]; omega); have hT1 : HBox w1 w.heap.size ⟨mark, num, ahead, chart, ents, jour, stat, bals⟩ := HBox.below (by first | exact hT0.drew | exact hT0) hb1; have hh1 : w1.cell? ⟨w.heap.size, 0, none⟩ = some (.string mark) ∧ w1.cell? ⟨w.heap.size, 1, none⟩ = some (.int .i64 num) ∧ w1.cell? ⟨w.heap.size, 2, none⟩ = some (.string ahead) ∧ w1.cell? ⟨w.heap.size, 3, none⟩ = some (.string chart) ∧ w1.cell? ⟨w.heap.size, 4, none⟩ = some (.int .i64 ents) ∧ w1.cell? ⟨w.heap.size, 5, none⟩ = some (.string jour) ∧ w1.cell? ⟨w.heap.size, 6, none⟩ = some (.string stat) ∧ w1.cell? ⟨w.heap.size, 7, none⟩ = some (.string bals) := hT1.cells; have b1 : Below w.heap.size w w1 := (by first | exact aA.drew.trans (hb1.mono (by simp)) | exact aA.trans (hb1.mono (by simp))))
      | (go_at_call_of 33 (Value.int IntKind.i64 ents); refine (one_txt ents _).mono ?_; rintro e w2 ⟨y2, rfl, hy2, hys2, hb2⟩; have q4 := cat (mark ++ y1 ++ ahead ++ chart) y2 (by rw [cat_size, cat_size, cat_size]; omega); have q5 := cat (mark ++ y1 ++ ahead ++ chart ++ y2) jour (by rw [cat_size, cat_size, cat_size, cat_size]; omega); have q6 := cat (mark ++ y1 ++ ahead ++ chart ++ y2 ++ jour) stat (by rw [cat_size, cat_size, cat_size, cat_size, cat_size]; omega); have q7 := cat (mark ++ y1 ++ ahead ++ chart ++ y2 ++ jour ++ stat) bals (by rw [cat_size, cat_size, cat_size, cat_size, cat_size, cat_size]; omega); have hT2 : HBox w2 w.heap.size ⟨mark, num, ahead, chart, ents, jour, stat, bals⟩ := (by first | exact hT1.below hb2 | exact hT1.drew.below hb2); have hh2 : w2.cell? ⟨w.heap.size, 0, none⟩ = some (.string mark) ∧ w2.cell? ⟨w.heap.size, 1, none⟩ = some (.int .i64 num) ∧ w2.cell? ⟨w.heap.size, 2, none⟩ = some (.string ahead) ∧ w2.cell? ⟨w.heap.size, 3, none⟩ = some (.string chart) ∧ w2.cell? ⟨w.heap.size, 4, none⟩ = some (.int .i64 ents) ∧ w2.cell? ⟨w.heap.size, 5, none⟩ = some (.string jour) ∧ w2.cell? ⟨w.heap.size, 6, none⟩ = some (.string stat) ∧ w2.cell? ⟨w.heap.size, 7, none⟩ = some (.string bals) := hT2.cells; have b2 : Below w.heap.size w w2 := (by first | exact b1.trans (hb2.mono b1.size) | exact b1.drew.trans (hb2.mono b1.size))))
  go_wp2_with fail
  go_ret
  exact ⟨_, rfl, by show _ = _; rw [HE.out, hy1.out, hy2.out], by rw [cat_size, cat_size, cat_size, cat_size, cat_size, cat_size, cat_size]; omega, b2⟩

theorem sumOf_txt (s : ByteArray) (w : World) (hs : s.size ≤ maxLen) :
    Calls Tryz.prog 28 #[.string s] w fun e w' => ∃ y : ByteArray, e = .returned (.string y) ∧ Hid (y = Sg.sumB s) ∧ y.size ≤ 8 ∧ Below w.heap.size w w' := by
  refine (sumOf_any s w hs).mono ?_
  rintro e w' ⟨rfl, hb⟩
  exact ⟨_, rfl, rfl, by rw [Sg.sumB_size]; omega, hb⟩

set_option maxHeartbeats 1600000 in
/-- Header.Sum. -/
theorem hdrSum_any (h : Sg.Hdr) (w : World) (hs : h.small) :
    Calls Tryz.prog 37 #[.agg #[.string h.mark, .int .i64 h.num, .string h.ahead, .string h.chart, .int .i64 h.ents, .string h.jour, .string h.stat, .string h.bals]] w fun e w' => ∃ y, e = .returned (.string y) ∧ Hid (y = Sg.sumB (Sg.hdrB h)) ∧ y.size = 2 ∧ Below w.heap.size w w' := by
  obtain ⟨mark, num, ahead, chart, ents, jour, stat, bals⟩ := h
  have hcall := fun W => hdrText_any ⟨mark, num, ahead, chart, ents, jour, stat, bals⟩ W hs
  have aA : Below w.heap.size w (w.alloc (.cells #[.string mark, .int .i64 num, .string ahead, .string chart, .int .i64 ents, .string jour, .string stat, .string bals] 100)) := (Below.refl _ _).alloc (Nat.le_refl _) _
  simp only at hcall
  go_enter Tryz.func37, Tryz.ntmps37
  go_wp2_with fail
  refine (hcall _).mono ?_
  rintro e w1 ⟨y1, rfl, hy1, hys1, hb1⟩
  clear hcall
  go_wp2_with fail
  refine (sumOf_txt y1 _ (by unfold maxLen; omega)).mono ?_
  rintro e w2 ⟨y2, rfl, hy2, hys2, hb2⟩
  have b1 := aA.trans (hb1.mono aA.size)
  have HZ : Hid (y2.size = 2) := by show _ = _; rw [hy2.out]; exact Sg.sumB_size _
  clear hys2
  go_wp2_with fail
  go_ret
  exact ⟨_, rfl, by show _ = _; rw [hy2.out, hy1.out], HZ.out, b1.trans (hb2.mono b1.size)⟩

set_option maxHeartbeats 3200000 in
/-- HeaderTexts. -/
theorem hdrTexts_any (hs : List Sg.Hdr) (ao : Option Addr) (n cap : Nat) (w : World) (hn : hs.length = n) (hmax : n ≤ 4096) (hok : ∀ h ∈ hs, h.small) (hl : HdrsIn w ao hs) :
    Calls Tryz.prog 44 #[.slice ao n cap] w fun e w' => ∃ v, e = .returned v ∧ Hid (OwnStrs w' w.heap.size v (hs.map Sg.hdrB)) ∧ Below w.heap.size w w' := by
  obtain ⟨i0, hi, hz0, hz1, hz2⟩ := info_parts Tryz.infoStr
  have HN : Hid (hs.length = n) := hn
  have HOK : Hid (∀ h ∈ hs, h.small) := hok
  have HL : Hid (HdrsIn w ao hs) := hl
  clear hn hok hl
  go_enter Tryz.func44, Tryz.ntmps44
  go_wp2_with fail
  go_loopw [3, 8] (fun o i wr => ∃ k : Nat, k ≤ n ∧ i = .int .i64 (k : Int) ∧ ∃ v, v = o ∧ Hid (OwnStrs wr w.heap.size v ((hs.take k).map Sg.hdrB)) ∧ Below w.heap.size w wr) (fun _ i _ => n - (intOf i).toNat)
  case atStart => exact ⟨0, by omega, rfl, _, rfl, World.ownsRow_nil _ _ _ _, Below.refl _ _⟩
  case round =>
    obtain ⟨k, hk, rfl, v, ev, HO, hbr⟩ := hrel
    subst ev
    obtain ⟨wz, ewz⟩ : ∃ z : World, z = wr := ⟨_, rfl⟩
    subst ewz
    have hsz := hbr.size
    by_cases hlt : k < n
    · have hka : k < hs.length := by rw [HN.out]; exact hlt
      obtain ⟨b, off, hao, hbw, hd⟩ := (HL.out.below hbr).cell (k := k) hka
      subst hao
      have hcall := fun W => hdrText_any hs[k] W (HOK.out _ (List.getElem_mem hka))
      have HS : Hid ((hs.take (k + 1)).map Sg.hdrB = (hs.take k).map Sg.hdrB ++ [Sg.hdrB hs[k]]) := by
        show _ = _
        rw [List.take_succ_eq_append_getElem hka, List.map_append]; rfl
      have hlen : ((hs.take k).map Sg.hdrB).length = k := by rw [List.length_map, List.length_take]; omega
      generalize hs[k] = hk0 at *
      obtain ⟨d0, d1, d2, d3, d4, d5, d6, d7⟩ := hd
      obtain ⟨mark, num, ahead, chart, ents, jour, stat, bals⟩ := hk0
      simp only at d0 d1 d2 d3 d4 d5 d6 d7 hcall
      generalize (hs.take k).map Sg.hdrB = ts at *
      have i1 : (0 : Int) ≤ (k : Int) := by omega
      have i2 : (k : Int) < (n : Int) := by omega
      have hrow := World.ownsRow.lt HO.out
      go_wp2_with fail
      refine (hcall _).mono ?_
      rintro e w4 ⟨y1, rfl, hy1, hys1, hb1⟩
      clear hcall d0 d1 d2 d3 d4 d5 d6 d7
      have b4 : Below wz.heap.size wz w4 := ((Below.refl _ _).alloc (Nat.le_refl _) _).trans (hb1.mono (by simp))
      have hown4 := HO.out.below b4
      unfold OwnStrs at hown4
      have hs4 := b4.size
      go_wp2_with (at_builtin; (refine wpList_append_lies _ rfl _ _ 71 rfl w.heap.size 9 i0 (.string ByteArray.empty) 1 16 Tryz.underlying71 hi hz0 hz1 hz2 rfl (by decide) v ts.length (ts.map Value.string) rfl (hown4.alloc _) ⟨w4.heap.size, 0, none⟩ 1 1 [.string y1] rfl rfl (World.news_of_block (cs := #[.string y1]) (t := 9) (fr := (0, 0)) (heap_alloc_new w4 _)) (by simp [Value.oneCell']) (by omega) (by unfold maxLen; omega) (by omega) (by simp; omega) (w4.heap.size + 1) (by simp) ?_))
      intro g cap' w5 hown5 hgrow _ hlt5
      have hb5 := below_push (B := w.heap.size) (by omega) hown4 (b4.mono hsz) hgrow
      have HOn : Hid (OwnStrs w5 w.heap.size (.slice (some ⟨g, 0, none⟩) (k + 1) cap') ((hs.take (k + 1)).map Sg.hdrB)) := by
        show OwnStrs _ _ _ _
        rw [HS.out, ← hy1.out]
        exact OwnStrs.push (by rw [hlen]; exact hown5)
      have hbe : Below w.heap.size w w5 := hbr.trans hb5
      clear hown5 hgrow hown4 b4 hb1 hb5 HO HS hy1 hrow
      go_wp2_with fail
      go_roundw
      case rel => exact ⟨k + 1, by omega, by go_num, _, rfl, HOn, hbe⟩
      case measure => simp [intOf]; omega
    · have HOn : Hid (OwnStrs wz w.heap.size v (hs.map Sg.hdrB)) := by
        have := HO.out
        rw [List.take_of_length_le (by rw [HN.out]; omega)] at this
        exact this
      go_wp2_with fail
      go_ret
      exact ⟨_, rfl, HOn, hbr⟩
end Go.Proofs.YtpkkhkkkgjhkeabGreat

/-
  THE WALKS of book.DrillTexts, Total, Leaf.
-/
namespace Go.Proofs.YtpkkhkkkgjhkeabGreat
open Go.RowKit Go.Maps
set_option maxRecDepth 100000
attribute [local go_sem ↓] Go.wp_at_zero Go.wp_at_succ

/-- A box of four cells. -/
def Quad (w : World) (g : Nat) (x y z u : Value) (t : TypeId) : Prop := w.heap[g]? = some (.cells #[x, y, z, u] t (0, 0))
theorem Quad.cells {w : World} {g : Nat} {x y z u : Value} {t : TypeId} (h : Quad w g x y z u t) : w.cell? ⟨g, 0, none⟩ = some x ∧ w.cell? ⟨g, 1, none⟩ = some y ∧ w.cell? ⟨g, 2, none⟩ = some z ∧ w.cell? ⟨g, 3, none⟩ = some u :=
  ⟨by rw [cell_of_row w g 0 _ _ _ h]; rfl, by rw [cell_of_row w g 1 _ _ _ h]; rfl, by rw [cell_of_row w g 2 _ _ _ h]; rfl, by rw [cell_of_row w g 3 _ _ _ h]; rfl⟩
theorem Quad.new (w : World) (x y z u : Value) (t : TypeId) : Quad (w.alloc (.cells #[x, y, z, u] t)) w.heap.size x y z u t := heap_alloc_new w _
theorem Quad.below {w w' : World} {g : Nat} {x y z u : Value} {t : TypeId} (h : Quad w g x y z u t) (hb : Below w.heap.size w w') : Quad w' g x y z u t := (hb.block g (lt_of_block h)).trans h
theorem Quad.drew {w : World} {g : Nat} {x y z u : Value} {t : TypeId} (h : Quad w g x y z u t) : Quad w.drew g x y z u t := h
theorem quad_drew {W : World} {g : Nat} {x y z u : Value} (h : W.cell? ⟨g, 0, none⟩ = some x ∧ W.cell? ⟨g, 1, none⟩ = some y ∧ W.cell? ⟨g, 2, none⟩ = some z ∧ W.cell? ⟨g, 3, none⟩ = some u) :
    W.drew.cell? ⟨g, 0, none⟩ = some x ∧ W.drew.cell? ⟨g, 1, none⟩ = some y ∧ W.drew.cell? ⟨g, 2, none⟩ = some z ∧ W.drew.cell? ⟨g, 3, none⟩ = some u := ⟨by simpa using h.1, by simpa using h.2.1, by simpa using h.2.2.1, by simpa using h.2.2.2⟩

set_option maxHeartbeats 6400000 in
/-- DrillTexts. -/
theorem drillTexts_any (ds : List Sg.Drl) (ao : Option Addr) (n cap : Nat) (w : World) (hn : ds.length = n) (hmax : n ≤ 4096) (hok : ∀ d ∈ ds, drlFits d) (hl : DrlsIn w ao ds) :
    Calls Tryz.prog 46 #[.slice ao n cap] w fun e w' => ∃ v, e = .returned v ∧ Hid (OwnStrs w' w.heap.size v (ds.map Sg.drlB)) ∧ Below w.heap.size w w' := by
  obtain ⟨i0, hi, hz0, hz1, hz2⟩ := info_parts Tryz.infoStr
  have HN : Hid (ds.length = n) := hn
  have HOK : Hid (∀ d ∈ ds, drlFits d) := hok
  have HL : Hid (DrlsIn w ao ds) := hl
  clear hn hok hl
  go_enter Tryz.func46, Tryz.ntmps46
  go_wp2_with fail
  go_loopw [3, 8] (fun o i wr => ∃ k : Nat, k ≤ n ∧ i = .int .i64 (k : Int) ∧ ∃ v, v = o ∧ Hid (OwnStrs wr w.heap.size v ((ds.take k).map Sg.drlB)) ∧ Below w.heap.size w wr) (fun _ i _ => n - (intOf i).toNat)
  case atStart => exact ⟨0, by omega, rfl, _, rfl, World.ownsRow_nil _ _ _ _, Below.refl _ _⟩
  case round =>
    obtain ⟨k, hk, rfl, v, ev, HO, hbr⟩ := hrel
    subst ev
    obtain ⟨wz, ewz⟩ : ∃ z : World, z = wr := ⟨_, rfl⟩
    subst ewz
    have hsz := hbr.size
    by_cases hlt : k < n
    · have hka : k < ds.length := by rw [HN.out]; exact hlt
      obtain ⟨b, off, hao, hbw, hd⟩ := (HL.out.below hbr).cell (k := k) hka
      subst hao
      obtain ⟨d0, d1, d2, d3⟩ := hd
      obtain ⟨_, _, _, o4⟩ := HOK.out ds[k] (List.getElem_mem _)
      have hfm : -9223372036854775808 ≤ ds[k].amt ∧ ds[k].amt ≤ 9223372036854775807 := of_decide_eq_true o4
      have HS : Hid ((ds.take (k + 1)).map Sg.drlB = (ds.take k).map Sg.drlB ++ [Sg.drlB ds[k]]) := by
        show _ = _
        rw [List.take_succ_eq_append_getElem hka, List.map_append]; rfl
      have HD : Hid (Sg.drlB ds[k] = Sg.beB (ds[k].ent : Int) 1 ++ Sg.beB (ds[k].place : Int) 1 ++ Sg.beB ds[k].acct 1 ++ Sg.beB ds[k].amt 8) := rfl
      have hlen : ((ds.take k).map Sg.drlB).length = k := by rw [List.length_map, List.length_take]; omega
      generalize Sg.drlB ds[k] = db at *
      generalize (ds[k].ent : Int) = en at *
      generalize (ds[k].place : Int) = pl at *
      generalize ds[k].acct = a at *
      generalize ds[k].amt = am at *
      generalize (ds.take k).map Sg.drlB = ts at *
      have i1 : (0 : Int) ≤ (k : Int) := by omega
      have i2 : (k : Int) < (n : Int) := by omega
      have hrow := World.ownsRow.lt HO.out
      have aA : Below wz.heap.size wz (wz.alloc (.cells #[.int .i64 en, .int .i64 pl, .int .i64 a, .int .i64 am] 51)) := (Below.refl _ _).alloc (Nat.le_refl _) _
      have hT0 : Quad (wz.alloc (.cells #[.int .i64 en, .int .i64 pl, .int .i64 a, .int .i64 am] 51)) wz.heap.size (.int .i64 en) (.int .i64 pl) (.int .i64 a) (.int .i64 am) 51 := Quad.new _ _ _ _ _ _
      clear o4
      go_wp2_with fail
      go_region_held3 (fun w' => w'.cell? ⟨wz.heap.size, 0, none⟩ = some (.int .i64 en) ∧ w'.cell? ⟨wz.heap.size, 1, none⟩ = some (.int .i64 pl) ∧ w'.cell? ⟨wz.heap.size, 2, none⟩ = some (.int .i64 a) ∧ w'.cell? ⟨wz.heap.size, 3, none⟩ = some (.int .i64 am)) (first | assumption | exact hT0.cells | exact quad_drew hT0.cells | exact hT4a.cells | exact hT5.cells | exact quad_drew (x := .int .i64 en) (y := .int .i64 pl) (z := .int .i64 a) (u := .int .i64 am) (by assumption))
        (first
          | (go_at_call 80; refine (eight_txt am _ hfm).mono ?_; rintro e w4 ⟨y4, rfl, hy4, hys4, hb4⟩; have q4 := cat (y1 ++ y2 ++ y3) y4 (by rw [cat_size, cat_size]; omega); have hT4 : Quad w4 wz.heap.size (.int .i64 en) (.int .i64 pl) (.int .i64 a) (.int .i64 am) 51 := (by first | exact hT3.below hb4 | exact hT3.drew.below hb4); have hh4 := hT4.cells; have b4 : Below wz.heap.size wz w4 := (by first | exact b3.trans (hb4.mono b3.size) | exact b3.drew.trans (hb4.mono b3.size)); have hown4 := HO.out.below b4; unfold OwnStrs at hown4; have hs4 := b4.size; have hz4 : wz.heap.size < w4.heap.size := lt_of_block hT4; have hT4a := Quad.below hT4 ((Below.refl _ _).alloc (Nat.le_refl _) (.cells #[.string (y1 ++ y2 ++ y3 ++ y4)] 9)))
          | (go_at_call_of 33 (Value.int IntKind.i64 a); refine (one_txt a _).mono ?_; rintro e w3 ⟨y3, rfl, hy3, hys3, hb3⟩; have q3 := cat (y1 ++ y2) y3 (by rw [cat_size]; omega); have hT3 : Quad w3 wz.heap.size (.int .i64 en) (.int .i64 pl) (.int .i64 a) (.int .i64 am) 51 := (by first | exact hT2.below hb3 | exact hT2.drew.below hb3); have hh3 := hT3.cells; have b3 : Below wz.heap.size wz w3 := (by first | exact b2.trans (hb3.mono b2.size) | exact b2.drew.trans (hb3.mono b2.size)))
          | (go_at_call_of 33 (Value.int IntKind.i64 pl); refine (one_txt pl _).mono ?_; rintro e w2 ⟨y2, rfl, hy2, hys2, hb2⟩; have q2 := cat y1 y2 (by omega); have hT2 : Quad w2 wz.heap.size (.int .i64 en) (.int .i64 pl) (.int .i64 a) (.int .i64 am) 51 := (by first | exact hT1.below hb2 | exact hT1.drew.below hb2); have hh2 := hT2.cells; have b2 : Below wz.heap.size wz w2 := (by first | exact b1.trans (hb2.mono b1.size) | exact b1.drew.trans (hb2.mono b1.size)))
          | (go_at_call_of 33 (Value.int IntKind.i64 en); refine (one_txt en _).mono ?_; rintro e w1 ⟨y1, rfl, hy1, hys1, hb1⟩; have hT1 : Quad w1 wz.heap.size (.int .i64 en) (.int .i64 pl) (.int .i64 a) (.int .i64 am) 51 := Quad.below (by first | exact hT0.drew | exact hT0) hb1; have hh1 := hT1.cells; have b1 : Below wz.heap.size wz w1 := (by first | exact aA.drew.trans (hb1.mono (by simp)) | exact aA.trans (hb1.mono (by simp))))
          | (refine step_append_lies _ (by rfl) _ _ _ (by rfl) w.heap.size 9 i0 _ 1 16 Tryz.underlying71 hi hz0 hz1 hz2 rfl (by omega) _ ts.length (ts.map Value.string) (by rfl) (hown4.alloc _) ⟨w4.heap.size, 0, none⟩ 1 1 [.string (y1 ++ y2 ++ y3 ++ y4)] (by rfl) (by rfl) (World.news_of_block (cs := #[.string (y1 ++ y2 ++ y3 ++ y4)]) (t := 9) (fr := (0, 0)) (heap_alloc_new w4 _)) (by simp [Value.oneCell']) (by omega) (by unfold maxLen; omega) (by omega) (by simp; omega) (w4.heap.size + 1) (by simp) ?_; intro g cap' w5 hown5 hgrow hat5 hlt5; have hT5 : Quad w5 wz.heap.size (.int .i64 en) (.int .i64 pl) (.int .i64 a) (.int .i64 am) 51 := (hgrow.block _ (by simp; omega) (fun e => by have := (hrow _ e.symm).2; omega)).trans hT4a))
      have hb5 := below_push (B := w.heap.size) (by omega) hown4 (b4.mono hsz) hgrow
      have HOn : Hid (OwnStrs w5 w.heap.size (.slice (some ⟨g, 0, none⟩) (k + 1) cap') ((ds.take (k + 1)).map Sg.drlB)) := by
        have h5 := OwnStrs.push hown5
        rw [hlen] at h5
        show OwnStrs _ _ _ _
        rw [HS.out, HD.out, ← hy1.out, ← hy2.out, ← hy3.out, ← hy4.out]
        exact h5
      have hbe : Below w.heap.size w w5 := hbr.trans hb5
      clear hown5 hgrow hown4 hh1 hh2 hh3 hh4 b1 b2 b3 b4 hb1 hb2 hb3 hb4 hb5 hT0 hT1 hT2 hT3 hT4 hT4a hT5 HO HS hy1 hy2 hy3 hy4 aA hrow
      go_wp2_with fail
      go_roundw
      case rel => exact ⟨k + 1, by omega, by go_num, _, rfl, HOn, hbe⟩
      case measure => simp [intOf]; omega
    · have HOn : Hid (OwnStrs wz w.heap.size v (ds.map Sg.drlB)) := by
        have := HO.out
        rw [List.take_of_length_le (by rw [HN.out]; omega)] at this
        exact this
      go_wp2_with fail
      go_ret
      exact ⟨_, rfl, HOn, hbr⟩

/-- sum.Root of a list that is the call's own. -/
theorem sumRoot_own {w : World} {base : Nat} {v : Value} {ts : List ByteArray} (h : OwnStrs w base v ts) (hn : ts.length ≤ 4096) (hs : ∀ t ∈ ts, t.size ≤ 100) :
    Calls Tryz.prog 65 #[v] w fun e w' => ∃ y, e = .returned (.string y) ∧ Hid (y = Sg.root ts) ∧ y.size ≤ 8 ∧ Below w.heap.size w w' := by
  have key : Calls Tryz.prog 65 #[v] w fun e w' => e = .returned (.string (Sg.root ts)) ∧ Below w.heap.size w w' := by
    obtain ⟨ao, cap, rfl, hle, hm, hin⟩ := own_strs_shape h
    by_cases h0 : ts.length = 0
    · rw [h0, Sg.root_none h0]
      exact sumRoot_none _ _ w
    · obtain ⟨g, rfl, hg, hat⟩ := hin (by omega)
      exact sumRoot_some ts ts.length g 0 cap w rfl (by omega) hle (by unfold maxLen at hm; omega) (fun s hs' => by have := hs s hs'; omega) hg hat
  refine key.mono ?_
  rintro e w' ⟨rfl, hb⟩
  exact ⟨_, rfl, rfl, by rw [Sg.root_size]; omega, hb⟩
theorem two_txt (n : Int) (w : World) :
    Calls Tryz.prog 81 #[.int .i64 n] w fun e w' => ∃ y : ByteArray, e = .returned (.string y) ∧ Hid (y = Sg.beB n 2) ∧ y.size ≤ 8 ∧ Below w.heap.size w w' := by
  refine (two_any n w).mono ?_
  rintro e w' ⟨rfl, hb⟩
  exact ⟨_, rfl, rfl, by rw [Sg.beB_size]; omega, hb⟩

set_option maxHeartbeats 3200000 in
/-- Total. -/
theorem total_any (per line total : Int) (ao : Option Addr) (n cap : Nat) (w : World) (hft : -9223372036854775808 ≤ total ∧ total ≤ 9223372036854775807) :
    Calls Tryz.prog 45 #[.agg #[.int .i64 per, .int .i64 line, .int .i64 total, .slice ao n cap]] w fun e w' => ∃ y, e = .returned (.string y) ∧ Hid (y = Sg.beB total 8 ++ Sg.beB (n : Int) 2) ∧ y.size ≤ 32 ∧ Below w.heap.size w w' := by
  have aA : Below w.heap.size w (w.alloc (.cells #[.int .i64 per, .int .i64 line, .int .i64 total, .slice ao n cap] 37)) := (Below.refl _ _).alloc (Nat.le_refl _) _
  have hT0 : Quad (w.alloc (.cells #[.int .i64 per, .int .i64 line, .int .i64 total, .slice ao n cap] 37)) w.heap.size (.int .i64 per) (.int .i64 line) (.int .i64 total) (.slice ao n cap) 37 := Quad.new _ _ _ _ _ _
  go_enter Tryz.func45, Tryz.ntmps45
  go_wp2_with fail
  go_region_held3 (fun w' => w'.cell? ⟨w.heap.size, 0, none⟩ = some (.int .i64 per) ∧ w'.cell? ⟨w.heap.size, 1, none⟩ = some (.int .i64 line) ∧ w'.cell? ⟨w.heap.size, 2, none⟩ = some (.int .i64 total) ∧ w'.cell? ⟨w.heap.size, 3, none⟩ = some (.slice ao n cap)) (first | assumption | exact hT0.cells | exact quad_drew hT0.cells | exact quad_drew (x := .int .i64 per) (y := .int .i64 line) (z := .int .i64 total) (u := .slice ao n cap) (by assumption))
    (first
      | (go_at_call 80; refine (eight_txt total _ hft).mono ?_; rintro e w1 ⟨y1, rfl, hy1, hys1, hb1⟩; have hT1 : Quad w1 w.heap.size (.int .i64 per) (.int .i64 line) (.int .i64 total) (.slice ao n cap) 37 := Quad.below (by first | exact hT0.drew | exact hT0) hb1; have hh1 := hT1.cells; have b1 : Below w.heap.size w w1 := (by first | exact aA.drew.trans (hb1.mono (by simp)) | exact aA.trans (hb1.mono (by simp))))
      | (go_at_call 81; refine (two_txt (n : Int) _).mono ?_; rintro e w2 ⟨y2, rfl, hy2, hys2, hb2⟩; have q2 := cat y1 y2 (by omega); have hT2 : Quad w2 w.heap.size (.int .i64 per) (.int .i64 line) (.int .i64 total) (.slice ao n cap) 37 := (by first | exact hT1.below hb2 | exact hT1.drew.below hb2); have hh2 := hT2.cells; have b2 : Below w.heap.size w w2 := (by first | exact b1.trans (hb2.mono b1.size) | exact b1.drew.trans (hb2.mono b1.size))))
  go_wp2_with fail
  go_ret
  exact ⟨_, rfl, by show _ = _; rw [hy1.out, hy2.out], by rw [cat_size]; omega, b2⟩

set_option maxHeartbeats 3200000 in
/-- Leaf. -/
theorem leafOf_any (per line total : Int) (ds : List Sg.Drl) (ao : Option Addr) (n cap : Nat) (w : World) (hn : ds.length = n) (hmax : n ≤ 100) (hok : ∀ d ∈ ds, drlFits d) (hl : DrlsIn w ao ds) (ht : Sg.fits total = true) :
    Calls Tryz.prog 53 #[.agg #[.int .i64 per, .int .i64 line, .int .i64 total, .slice ao n cap]] w fun e w' => ∃ y, e = .returned (.string y) ∧ Hid (y = Sg.lineB line total ds) ∧ y.size ≤ 32 ∧ Below w.heap.size w w' := by
  have hft : -9223372036854775808 ≤ total ∧ total ≤ 9223372036854775807 := of_decide_eq_true ht
  have HE : Hid (Sg.lineB line total ds = Sg.beB line 1 ++ (Sg.beB total 8 ++ Sg.beB (n : Int) 2) ++ Sg.root (ds.map Sg.drlB)) := by show _ = _; unfold Sg.lineB; rw [hn]; simp only [ByteArray.append_assoc]
  have hdt := fun W (hb : Below w.heap.size w W) => drillTexts_any ds ao n cap W hn (by omega) hok (hl.below hb)
  have hlt' : (ds.map Sg.drlB).length ≤ 4096 := by rw [List.length_map, hn]; omega
  have hts : ∀ t ∈ ds.map Sg.drlB, t.size ≤ 100 := fun t ht => by
    obtain ⟨d, _, rfl⟩ := List.mem_map.1 ht
    rw [Sg.drlB_size]; omega
  generalize ds.map Sg.drlB = ts at *
  have aA : Below w.heap.size w (w.alloc (.cells #[.int .i64 per, .int .i64 line, .int .i64 total, .slice ao n cap] 37)) := (Below.refl _ _).alloc (Nat.le_refl _) _
  have hT0 : Quad (w.alloc (.cells #[.int .i64 per, .int .i64 line, .int .i64 total, .slice ao n cap] 37)) w.heap.size (.int .i64 per) (.int .i64 line) (.int .i64 total) (.slice ao n cap) 37 := Quad.new _ _ _ _ _ _
  clear hn hok hl ht
  go_enter Tryz.func53, Tryz.ntmps53
  go_wp2_with fail
  go_region_held3 (fun w' => w'.cell? ⟨w.heap.size, 0, none⟩ = some (.int .i64 per) ∧ w'.cell? ⟨w.heap.size, 1, none⟩ = some (.int .i64 line) ∧ w'.cell? ⟨w.heap.size, 2, none⟩ = some (.int .i64 total) ∧ w'.cell? ⟨w.heap.size, 3, none⟩ = some (.slice ao n cap)) (first | assumption | exact hT0.cells | exact quad_drew hT0.cells | exact quad_drew (x := .int .i64 per) (y := .int .i64 line) (z := .int .i64 total) (u := .slice ao n cap) (by assumption))
    (first
      | (go_at_call 33; refine (one_txt line _).mono ?_; rintro e w1 ⟨y1, rfl, hy1, hys1, hb1⟩; have hT1 : Quad w1 w.heap.size (.int .i64 per) (.int .i64 line) (.int .i64 total) (.slice ao n cap) 37 := Quad.below (by first | exact hT0.drew | exact hT0) hb1; have hh1 := hT1.cells; have b1 : Below w.heap.size w w1 := (by first | exact aA.drew.trans (hb1.mono (by simp)) | exact aA.trans (hb1.mono (by simp))))
      | (go_at_call 45; refine (total_any per line total ao n cap _ hft).mono ?_; rintro e w2 ⟨y2, rfl, hy2, hys2, hb2⟩; have q2 := cat y1 y2 (by omega); have hT2 : Quad w2 w.heap.size (.int .i64 per) (.int .i64 line) (.int .i64 total) (.slice ao n cap) 37 := (by first | exact hT1.below hb2 | exact hT1.drew.below hb2); have hh2 := hT2.cells; have b2 : Below w.heap.size w w2 := (by first | exact b1.trans (hb2.mono b1.size) | exact b1.drew.trans (hb2.mono b1.size)))
      | (go_at_call 46; refine (hdt _ (by first | exact b2 | exact b2.drew)).mono ?_; rintro e w3 ⟨v3, rfl, hO3, hb3⟩; have hT3 : Quad w3 w.heap.size (.int .i64 per) (.int .i64 line) (.int .i64 total) (.slice ao n cap) 37 := (by first | exact hT2.below hb3 | exact hT2.drew.below hb3); have hh3 := hT3.cells; have b3 : Below w.heap.size w w3 := (by first | exact b2.trans (hb3.mono b2.size) | exact b2.drew.trans (hb3.mono b2.size)))
      | (go_at_call 65; refine (sumRoot_own (by first | exact hO3.out | exact hO3.out.below ((Below.refl _ _).drew)) hlt' hts).mono ?_; rintro e w4 ⟨y4, rfl, hy4, hys4, hb4⟩; have q4 := cat (y1 ++ y2) y4 (by rw [cat_size]; omega); have hT4 : Quad w4 w.heap.size (.int .i64 per) (.int .i64 line) (.int .i64 total) (.slice ao n cap) 37 := (by first | exact hT3.below hb4 | exact hT3.drew.below hb4); have hh4 := hT4.cells; have b4 : Below w.heap.size w w4 := (by first | exact b3.trans (hb4.mono b3.size) | exact b3.drew.trans (hb4.mono b3.size))))
  go_wp2_with fail
  go_ret
  exact ⟨_, rfl, by show _ = _; rw [HE.out, hy1.out, hy2.out, hy4.out], by rw [cat_size, cat_size]; rw [hy2.out, cat_size, Sg.beB_size, Sg.beB_size]; omega, b4⟩
end Go.Proofs.YtpkkhkkkgjhkeabGreat
