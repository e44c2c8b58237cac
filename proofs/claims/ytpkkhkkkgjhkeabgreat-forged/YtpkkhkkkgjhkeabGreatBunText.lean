/-
  THE WALK of Bundle.Text (P9).
-/
import Derived.Test.YtpkkhkkkgjhkeabGreatFirstOther
import Derived.Test.YtpkkhkkkgjhkeabGreatClashMath
import Derived.Test.YtpkkhkkkgjhkeabGreatHhead
import Derived.Test.YtpkkhkkkgjhkeabGreatReadHdr
namespace Go.Proofs.YtpkkhkkkgjhkeabGreat
namespace Sg
/-- A text, and some lists of texts behind it. -/
def txtTo (s : Txt) (tss : List (List Txt)) (k : Nat) : Txt := (tss.take k).foldl (fun o ts => o ++ catB ts) s
theorem txtTo_zero (s : Txt) (tss : List (List Txt)) : txtTo s tss 0 = s := by unfold txtTo; simp
theorem txtTo_succ (s : Txt) (tss : List (List Txt)) (k : Nat) (hk : k < tss.length) : txtTo s tss (k + 1) = txtTo s tss k ++ catB (tss.getD k []) := by
  unfold txtTo
  rw [List.take_succ_eq_append_getElem hk, List.foldl_append, List.getD_eq_getElem?_getD, List.getElem?_eq_getElem hk]
  rfl
theorem txtTo_size (s : Txt) (tss : List (List Txt)) (hs : s.size ≤ 1000) (ht : ∀ ts ∈ tss, (catB ts).size ≤ 1000) : ∀ k, k ≤ tss.length → (txtTo s tss k).size ≤ 1000 + 1000 * k
  | 0, _ => by rw [txtTo_zero]; omega
  | k + 1, hk => by
    have ih := txtTo_size s tss hs ht k (by omega)
    rw [txtTo_succ s tss k (by omega), ByteArray.size_append]
    have := ht (tss.getD k []) (by rw [List.getD_eq_getElem?_getD, List.getElem?_eq_getElem (by omega)]; exact List.getElem_mem _)
    omega
theorem bunB_txt (b : Bun) : bunB b = txtTo (beB b.per 1 ++ beB b.line 1 ++ beB b.hdrs.length 1) [b.hdrs.map hdrB, [beB b.total 8 ++ beB b.drls.length 2], b.drls.map drlB, b.path] 4 := by
  have e : ∀ l : List Txt, joinB l = catB l := fun _ => rfl
  have e1 : ∀ x : Txt, catB [x] = x := fun x => by unfold catB; simp
  unfold bunB txtTo
  simp only [List.take_succ_cons, List.take_zero, List.foldl_cons, List.foldl_nil, e, e1]
end Sg
open Go.RowKit
set_option maxRecDepth 100000
attribute [local go_sem ↓] Go.wp_at_zero Go.wp_at_succ

/-- strings.Join of a list of one's own, with nothing between. -/
theorem join_own {w : World} {B : Nat} {v : Value} {ss : List ByteArray} (h : OwnStrs w B v ss) (hn : ss.length ≤ 4096) (hz : (Sg.catB ss).size ≤ 140737488355328) :
    Calls Tryz.prog 47 #[v, .string (ByteArray.mk #[])] w fun e w' => ∃ y, e = .returned (.string y) ∧ Hid (y = Sg.catB ss) ∧ Below w.heap.size w w' := by
  obtain ⟨ao, cap, rfl, hc1, _, hin⟩ := h.shape
  rcases hin with h0 | ⟨b, off, rfl, hbw, hat⟩
  · rw [h0]
    refine (Tryz.strings_Join_none ao cap (ByteArray.mk #[]) w).mono ?_
    rintro e w2 ⟨rfl, rfl⟩
    refine ⟨_, rfl, ?_, Below.refl _ _⟩
    have e : ss = [] := List.eq_nil_of_length_eq_zero h0
    rw [e]; rfl
  · have hlenJ : (Lib.join (ss.map (·.data.toList)) (ByteArray.mk #[]).data.toList).length ≤ 140737488355328 := by
      have := congrArg ByteArray.size (Sg.catB_join ss)
      have e2 : (⟨(Lib.join (ss.map (·.data.toList)) (ByteArray.mk #[]).data.toList).toArray⟩ : ByteArray).size = (Lib.join (ss.map (·.data.toList)) (ByteArray.mk #[]).data.toList).length := by simp [ByteArray.size]
      omega
    refine (Tryz.strings_Join b off cap ss (ByteArray.mk #[]) w (fun j x hx => ?_) hbw (by omega) hc1 hlenJ).mono ?_
    · have hj : j < ss.length := (List.getElem?_eq_some_iff.1 hx).1
      rw [hat j hj, List.getD_eq_getElem?_getD, hx]; rfl
    · rintro e w2 ⟨rfl, hb2⟩
      exact ⟨_, rfl, Sg.catB_join ss, hb2⟩
theorem OwnStrs.kept {w w' : World} {B b : Nat} {v : Value} {ss : List ByteArray} (h : OwnStrs w B v ss) (hk : Kept b w w') (hb : v.ownBlock ≠ some b) : OwnStrs w' B v ss := by
  obtain ⟨h1, h2⟩ := h
  refine ⟨h1, ?_⟩
  rcases h2 with h2 | ⟨q, cap, cur, hv, hq, hh, r⟩
  · exact Or.inl h2
  · refine Or.inr ⟨q, cap, cur, hv, hq, hk q _ _ _ hh (fun e => hb (by rw [hv, ← e]; rfl)) (by decide), r⟩
theorem six_alloc {W : World} {q : Nat} {x0 x1 x2 x3 x4 x5 : Value} (h : W.cell? ⟨q, 0, none⟩ = some x0 ∧ W.cell? ⟨q, 1, none⟩ = some x1 ∧ W.cell? ⟨q, 2, none⟩ = some x2 ∧ W.cell? ⟨q, 3, none⟩ = some x3 ∧ W.cell? ⟨q, 4, none⟩ = some x4 ∧ W.cell? ⟨q, 5, none⟩ = some x5) (k2 : q < W.heap.size) (o : Obj) : (W.alloc o).cell? ⟨q, 0, none⟩ = some x0 ∧ (W.alloc o).cell? ⟨q, 1, none⟩ = some x1 ∧ (W.alloc o).cell? ⟨q, 2, none⟩ = some x2 ∧ (W.alloc o).cell? ⟨q, 3, none⟩ = some x3 ∧ (W.alloc o).cell? ⟨q, 4, none⟩ = some x4 ∧ (W.alloc o).cell? ⟨q, 5, none⟩ = some x5 := by
  have hb : Below W.heap.size W (W.alloc o) := (Below.refl _ _).alloc (Nat.le_refl _) _
  rw [hb.cell (p := ⟨q, 0, none⟩) k2, hb.cell (p := ⟨q, 1, none⟩) k2, hb.cell (p := ⟨q, 2, none⟩) k2, hb.cell (p := ⟨q, 3, none⟩) k2, hb.cell (p := ⟨q, 4, none⟩) k2, hb.cell (p := ⟨q, 5, none⟩) k2]
  exact h
/-- How far Bundle.Text has come. -/
structure BtT (w wx : World) (g b : Nat) (vs : List Value) (tss : List (List ByteArray)) (s : ByteArray) : Prop where
  row : wx.heap[g]? = some (.cells vs.toArray 71 (0, 0))
  own : ∀ k, k < 4 → OwnStrs wx 0 (vs.getD k nilV) (tss.getD k []) ∧ (vs.getD k nilV).ownBlock ≠ some b
  len : vs.length = 4 ∧ g ≠ b ∧ w.heap.size ≤ b
  tb : TB wx b s
  bel : Below w.heap.size w wx

theorem one_own {W : World} {g : Nat} {y : ByteArray} (h : W.heap[g]? = some (.cells #[.string y] 9 (0, 0))) : OwnStrs W 0 (.slice (some ⟨g, 0, none⟩) 1 1) [y] :=
  ⟨rfl, Or.inr ⟨g, 1, #[.string y], rfl, Nat.zero_le _, h, Nat.le_refl _, by unfold maxLen; omega, rfl, rfl⟩⟩
theorem BtT.mk' {w wx : World} {g b g1 : Nat} {v1 v3 v4 : Value} {t1 t3 t4 : List ByteArray} {y s : ByteArray} (hr : wx.heap[g]? = some (.cells #[v1, .slice (some ⟨g1, 0, none⟩) 1 1, v3, v4] 71 (0, 0))) (o1 : OwnStrs wx 0 v1 t1) (h1 : v1.ownBlock ≠ some b) (o2 : wx.heap[g1]? = some (.cells #[.string y] 9 (0, 0))) (h2 : g1 ≠ b) (o3 : OwnStrs wx 0 v3 t3) (h3 : v3.ownBlock ≠ some b) (o4 : OwnStrs wx 0 v4 t4) (h4 : v4.ownBlock ≠ some b) (hg : g ≠ b) (hb : w.heap.size ≤ b) (tb : TB wx b s) (bel : Below w.heap.size w wx) : BtT w wx g b [v1, .slice (some ⟨g1, 0, none⟩) 1 1, v3, v4] [t1, [y], t3, t4] s := by
  refine ⟨hr, fun k hk => ?_, ⟨rfl, hg, hb⟩, tb, bel⟩
  have : k = 0 ∨ k = 1 ∨ k = 2 ∨ k = 3 := by omega
  rcases this with rfl | rfl | rfl | rfl
  · exact ⟨o1, h1⟩
  · exact ⟨one_own o2, fun e => h2 (by simpa [Value.ownBlock] using e)⟩
  · exact ⟨o3, h3⟩
  · exact ⟨o4, h4⟩

set_option maxHeartbeats 12800000 in
/-- Bundle.Text. -/
theorem bunText_any (n : Sg.Bun) (x6 : Value) (aoD aoH : Option Addr) (nd nh capD capH B : Nat) (vP : Value) (w : World) (hf : n.Fine) (hnd : n.drls.length = nd) (hnh : n.hdrs.length = nh) (hD : DrlsIn w aoD n.drls) (hH : HdrsIn w aoH n.hdrs) (hP : OwnStrs w B vP n.path) :
    Calls Tryz.prog 22 #[.agg #[.int .i64 (n.per : Int), .int .i64 (n.line : Int), .int .i64 n.total, .slice aoD nd capD, .slice aoH nh capH, vP, x6]] w fun e w' => ∃ y, e = .returned (.string y) ∧ Hid (y = Sg.bunB n) ∧ Below w.heap.size w w' := by
  have hnh6 := hf.hdrs
  rw [hnh] at hnh6
  have hmany := hf.many
  rw [hnd] at hmany
  have hsm : ∀ h ∈ n.hdrs, h.small := fun h hh => by
    have k := hf.fixed h hh
    unfold Sg.Hdr.small
    rw [k.mark, k.ahead, k.chart, k.jour, k.stat, k.bals]
    omega
  have hfits : ∀ d ∈ n.drls, drlFits d := fun d hd => by
    obtain ⟨k1, k2, k3, k4⟩ := hf.drls d hd
    exact ⟨k1, k2, by unfold Sg.fits; rw [decide_eq_true_eq]; omega, k4⟩
  have hft : -9223372036854775808 ≤ n.total ∧ n.total ≤ 9223372036854775807 := of_decide_eq_true hf.total
  have hhd := fun W (hb : Below w.heap.size w W) => hdrTexts_any n.hdrs aoH nh capH W hnh (by omega) hsm (hH.below hb)
  have hdt := fun W (hb : Below w.heap.size w W) => drillTexts_any n.drls aoD nd capD W hnd (by omega) hfits (hD.below hb)
  have htt := fun W => total_any (n.per : Int) (n.line : Int) n.total aoD nd capD W hft
  have HS : Hid (Sg.bunB n = Sg.txtTo (Sg.beB n.per 1 ++ Sg.beB n.line 1 ++ Sg.beB nh 1) [n.hdrs.map Sg.hdrB, [Sg.beB n.total 8 ++ Sg.beB nd 2], n.drls.map Sg.drlB, n.path] 4) := by show _ = _; rw [Sg.bunB_txt, hnd, hnh]
  have HZ : Hid (∀ ts ∈ [n.hdrs.map Sg.hdrB, [Sg.beB n.total 8 ++ Sg.beB nd 2], n.drls.map Sg.drlB, n.path], (Sg.catB ts).size ≤ 1000 ∧ ts.length ≤ 4096) := by
    intro ts hts
    simp only [List.mem_cons, List.not_mem_nil, or_false] at hts
    rcases hts with rfl | rfl | rfl | rfl
    · have := Sg.catB_size (n.hdrs.map Sg.hdrB) 16 (fun s hs => by
        obtain ⟨x, hx, rfl⟩ := List.mem_map.1 hs
        have k := hf.fixed x hx
        unfold Sg.hdrB
        simp only [ByteArray.size_append, Sg.beB_size]
        rw [k.mark, k.ahead, k.chart, k.jour, k.stat, k.bals]
        omega)
      rw [List.length_map, hnh] at this
      rw [List.length_map, hnh]
      omega
    · unfold Sg.catB
      simp [Sg.beB_size, ByteArray.size_append]
    · have := Sg.catB_size (n.drls.map Sg.drlB) 11 (fun s hs => by
        obtain ⟨x, hx, rfl⟩ := List.mem_map.1 hs
        rw [Sg.drlB_size]; omega)
      rw [List.length_map, hnd] at this
      rw [List.length_map, hnd]
      omega
    · obtain ⟨p, q, ep, h1, h2⟩ := hf.path
      have := Sg.catB_size n.path 2 (fun s hs => by rw [ep] at hs; simp at hs; rcases hs with rfl | rfl <;> omega)
      rw [ep] at this ⊢
      simp at this ⊢
      omega
  have hPl := World.ownsRow.lt hP
  have HP : Hid (OwnStrs w 0 vP n.path) := OwnStrs.base hP (Nat.zero_le _)
  obtain ⟨aoP, capP, evP⟩ := ownsRow_len' hP
  obtain ⟨np, hnp⟩ : ∃ m, n.path.length = m := ⟨_, rfl⟩
  rw [hnp] at evP
  clear hnp
  subst evP
  have hA := BBox.new w (.int .i64 (n.per : Int)) (.int .i64 (n.line : Int)) (.int .i64 n.total) (.slice aoD nd capD) (.slice aoH nh capH) (.slice aoP np capP) x6
  have aA : Below w.heap.size w (w.alloc (.cells #[.int .i64 (n.per : Int), .int .i64 (n.line : Int), .int .i64 n.total, .slice aoD nd capD, .slice aoH nh capH, .slice aoP np capP, x6] 73)) := (Below.refl _ _).alloc (Nat.le_refl _) _
  have hz : (w.alloc (.cells #[.int .i64 (n.per : Int), .int .i64 (n.line : Int), .int .i64 n.total, .slice aoD nd capD, .slice aoH nh capH, .slice aoP np capP, x6] 73)).heap.size = w.heap.size + 1 := by simp
  clear hf hnd hnh hD hH hP hsm hfits hft
  go_enter Tryz.func22, Tryz.ntmps22
  go_upto_region 2 with fail
  generalize (w.alloc (.cells #[.int .i64 (n.per : Int), .int .i64 (n.line : Int), .int .i64 n.total, .slice aoD nd capD, .slice aoH nh capH, .slice aoP np capP, x6] 73)) = W0 at *
  have aB : Below W0.heap.size W0 (W0.alloc (.cells #[.pointer none, .slice none 0 0] 92)) := (Below.refl _ _).alloc (Nat.le_refl _) _
  have tb1 : TB (W0.alloc (.cells #[.pointer none, .slice none 0 0] 92)) (w.heap.size + 1) ByteArray.empty := by
    have := TB.new W0
    rw [hz] at this
    exact this
  have hA1 := hA.below aB
  have be1 := aA.trans (aB.mono aA.size)
  have hz1 : (W0.alloc (.cells #[.pointer none, .slice none 0 0] 92)).heap.size = w.heap.size + 2 := by simp; omega
  generalize (W0.alloc (.cells #[.pointer none, .slice none 0 0] 92)) = W1 at *
  obtain ⟨c0, c1, c2, c3, c4, c5, _⟩ := hA1.cells
  have hS1 : W1.cell? ⟨w.heap.size, 0, none⟩ = some (.int .i64 (n.per : Int)) ∧ W1.cell? ⟨w.heap.size, 1, none⟩ = some (.int .i64 (n.line : Int)) ∧ W1.cell? ⟨w.heap.size, 2, none⟩ = some (.int .i64 n.total) ∧ W1.cell? ⟨w.heap.size, 3, none⟩ = some (.slice aoD nd capD) ∧ W1.cell? ⟨w.heap.size, 4, none⟩ = some (.slice aoH nh capH) ∧ W1.cell? ⟨w.heap.size, 5, none⟩ = some (.slice aoP np capP) := ⟨c0, c1, c2, c3, c4, c5⟩
  have hl1 : w.heap.size < W1.heap.size := by omega
  clear hA aA aB hz c0 c1 c2 c3 c4 c5
  try rw [show W0.heap.size = w.heap.size + 1 by omega]
  go_region_held3 (fun w' => w'.cell? ⟨w.heap.size, 0, none⟩ = some (.int .i64 (n.per : Int)) ∧ w'.cell? ⟨w.heap.size, 1, none⟩ = some (.int .i64 (n.line : Int)) ∧ w'.cell? ⟨w.heap.size, 2, none⟩ = some (.int .i64 n.total) ∧ w'.cell? ⟨w.heap.size, 3, none⟩ = some (.slice aoD nd capD) ∧ w'.cell? ⟨w.heap.size, 4, none⟩ = some (.slice aoH nh capH) ∧ w'.cell? ⟨w.heap.size, 5, none⟩ = some (.slice aoP np capP)) (first | with_reducible assumption | exact six_drew hS1)
    (first
      | (go_at_call 33; refine (one_txt _ _).mono ?_; rintro e w4 ⟨y4, rfl, hy4, hys4, hb4'⟩; have q4 := cat (y2 ++ y3) y4 (by rw [cat_size]; omega); have hb4 := hb3.trans (hb4'.mono hb3.size); have hh4 := six_call hS1 hb4 hl1)
      | (go_at_call 33; refine (one_txt _ _).mono ?_; rintro e w3 ⟨y3, rfl, hy3, hys3, hb3'⟩; have q3 := cat y2 y3 (by omega); have hb3 := hb2.trans (hb3'.mono hb2.size); have hh3 := six_call hS1 hb3 hl1)
      | (go_at_call 33; refine (one_txt _ _).mono ?_; rintro e w2 ⟨y2, rfl, hy2, hys2, hb2'⟩; have hb2 : Below W1.heap.size W1 w2 := (by first | exact hb2' | exact ((Below.refl W1.heap.size W1).drew).trans hb2'); have hh2 := six_call hS1 hb2 hl1)
      | (go_at_call 31; refine (write_any (w.heap.size + 1) ByteArray.empty (y2 ++ y3 ++ y4) _ (tb1.below hb4) (by have h0 : ByteArray.empty.size = 0 := rfl; rw [ByteArray.size_append, ByteArray.size_append]; omega)).mono ?_; rintro e w5 ⟨rfl, tb5, hb5, hk5⟩; have hA5 := (hA1.below hb4); have hA6 : BBox w5 w.heap.size (.int .i64 (n.per : Int)) (.int .i64 (n.line : Int)) (.int .i64 n.total) (.slice aoD nd capD) (.slice aoH nh capH) (.slice aoP np capP) x6 := hk5 _ _ _ _ hA5 (by omega) (by decide); have hh5 : w5.cell? ⟨w.heap.size, 0, none⟩ = some (.int .i64 (n.per : Int)) ∧ w5.cell? ⟨w.heap.size, 1, none⟩ = some (.int .i64 (n.line : Int)) ∧ w5.cell? ⟨w.heap.size, 2, none⟩ = some (.int .i64 n.total) ∧ w5.cell? ⟨w.heap.size, 3, none⟩ = some (.slice aoD nd capD) ∧ w5.cell? ⟨w.heap.size, 4, none⟩ = some (.slice aoH nh capH) ∧ w5.cell? ⟨w.heap.size, 5, none⟩ = some (.slice aoP np capP) := ⟨hA6.cells.1, hA6.cells.2.1, hA6.cells.2.2.1, hA6.cells.2.2.2.1, hA6.cells.2.2.2.2.1, hA6.cells.2.2.2.2.2.1⟩))
  have hs4 := hb4.size
  have hs5 := hb5.size
  have be5 : Below w.heap.size w w5 := (be1.trans (hb4.mono be1.size)).trans (hb5.mono (by omega))
  have hl5 : w.heap.size + 2 ≤ w5.heap.size := by have := tb5.lt; have := hk5; omega
  have HT5 : Hid (TB w5 (w.heap.size + 1) (Sg.txtTo (Sg.beB n.per 1 ++ Sg.beB n.line 1 ++ Sg.beB nh 1) [n.hdrs.map Sg.hdrB, [Sg.beB n.total 8 ++ Sg.beB nd 2], n.drls.map Sg.drlB, n.path] 0)) := by
    show TB _ _ _
    rw [Sg.txtTo_zero, ← hy2.out, ← hy3.out, ← hy4.out]
    simpa using tb5
  have HP5 : Hid (OwnStrs w5 0 (.slice aoP np capP) n.path) := (HP.out.below (be1.trans (hb4.mono be1.size))).kept hk5 (fun e => by have := (hPl _ e).2; omega)
  have hh5 : w5.cell? ⟨w.heap.size, 0, none⟩ = some (.int .i64 (n.per : Int)) ∧ w5.cell? ⟨w.heap.size, 1, none⟩ = some (.int .i64 (n.line : Int)) ∧ w5.cell? ⟨w.heap.size, 2, none⟩ = some (.int .i64 n.total) ∧ w5.cell? ⟨w.heap.size, 3, none⟩ = some (.slice aoD nd capD) ∧ w5.cell? ⟨w.heap.size, 4, none⟩ = some (.slice aoH nh capH) ∧ w5.cell? ⟨w.heap.size, 5, none⟩ = some (.slice aoP np capP) := by assumption
  clear q3 q4 hS1 hh2 hh3 hh4 tb1 hA1 be1 hb2 hb2' hb3 hb3' hb4 hb4' hk5 hb5 tb5 hy2 hy3 hy4 HP hA5 hA6
  go_upto_region 3 with fail
  generalize n.hdrs.map Sg.hdrB = t1 at *
  generalize n.drls.map Sg.drlB = t3 at *
  generalize n.path = t4 at *
  generalize Sg.beB n.total 8 ++ Sg.beB (nd : Int) 2 = tot at *
  have HSZ : (Sg.beB (n.per : Int) 1 ++ Sg.beB (n.line : Int) 1 ++ Sg.beB (nh : Int) 1).size ≤ 1000 := by simp [ByteArray.size_append, Sg.beB_size]
  generalize Sg.beB (n.per : Int) 1 ++ Sg.beB (n.line : Int) 1 ++ Sg.beB (nh : Int) 1 = s0 at *
  have hl5' : w.heap.size < w5.heap.size := by omega
  have HS0 : Hid (s0.size ≤ 1000) := HSZ
  go_cut [34, 35, 36] from 21 to 36 (fun p l i wx => l = .int .i64 4 ∧ i = .int .i64 0 ∧ ∃ g vs, p = .slice (some ⟨g, 0, none⟩) 4 4 ∧ Hid (BtT w wx g (w.heap.size + 1) vs [t1, [tot], t3, t4] (Sg.txtTo s0 [t1, [tot], t3, t4] 0)))
  case first =>
    go_region_held3 (fun w' => w'.cell? ⟨w.heap.size, 0, none⟩ = some (.int .i64 (n.per : Int)) ∧ w'.cell? ⟨w.heap.size, 1, none⟩ = some (.int .i64 (n.line : Int)) ∧ w'.cell? ⟨w.heap.size, 2, none⟩ = some (.int .i64 n.total) ∧ w'.cell? ⟨w.heap.size, 3, none⟩ = some (.slice aoD nd capD) ∧ w'.cell? ⟨w.heap.size, 4, none⟩ = some (.slice aoH nh capH) ∧ w'.cell? ⟨w.heap.size, 5, none⟩ = some (.slice aoP np capP)) (first | with_reducible assumption | exact six_drew hh5 | exact six_alloc hh7 (by omega) _ | exact six_alloc hh8 (by omega) _ | exact six_alloc (six_alloc hh8 (by omega) _) (by simp; omega) _)
      (first
        | (go_at_call 44; refine (hhd _ (by first | exact be5 | exact be5.drew)).mono ?_; rintro e w6 ⟨v6, rfl, HO6, hb6'⟩; have hb6 : Below w5.heap.size w5 w6 := (by first | exact hb6' | exact ((Below.refl w5.heap.size w5).drew).trans hb6'); have hh6 := six_call hh5 hb6 hl5'; have be6 := be5.trans (hb6.mono be5.size); have hl6 : w5.heap.size ≤ w6.heap.size := hb6.size; have hv6 := World.ownsRow.lt HO6.out; obtain ⟨ao6, cap6, ev6⟩ := ownsRow_len' HO6.out; subst ev6)
        | (go_at_call 45; refine (htt _).mono ?_; rintro e w7 ⟨y7, rfl, hy7, hys7, hb7⟩; have hh7 := six_call hh6 hb7 (by omega); have be7 := be6.trans (hb7.mono be6.size); have hl7 : w6.heap.size ≤ w7.heap.size := hb7.size)
        | (go_at_call 46; refine (hdt _ (by first | exact be7 | exact be7.alloc be7.size _)).mono ?_; rintro e w8 ⟨v8, rfl, HO8, hb8'⟩; have hb8 : Below w7.heap.size w7 w8 := (by first | exact hb8' | exact ((Below.refl w7.heap.size w7).alloc (Nat.le_refl _) _).trans (hb8'.mono (by simp))); have hh8 := six_call hh7 hb8 (by omega); have be8 := be7.trans (hb8.mono be7.size); have hl8 : w7.heap.size ≤ w8.heap.size := hb8.size; obtain ⟨ao8, cap8, ev8⟩ := ownsRow_len' HO8.out; subst ev8; have hv8 : ∀ j, (Value.slice ao8 t3.length cap8).ownBlock = some j → w7.heap.size ≤ j := (by first | exact fun j hj => (World.ownsRow.lt HO8.out j hj).1 | exact fun j hj => Nat.le_trans (by simp) (World.ownsRow.lt HO8.out j hj).1); (first | (have hX8 : w8.heap[w7.heap.size]? = some (.cells #[.string y7] 9 (0, 0)) := (hb8'.block w7.heap.size (by simp)).trans (heap_alloc_new w7 _)) | skip)))
    all_goals
      have HT8 := ((HT5.out.below hb6).below hb7).below hb8
      have HO68 := ((HO6.out.below hb7).below hb8).base (Nat.zero_le _)
      have HP8 := ((HP5.out.below hb6).below hb7).below hb8
      have HO88 := HO8.out.base (Nat.zero_le _)
      have hyt : y7 = tot := hy7.out
      subst hyt
      have n6 : (Value.slice ao6 t1.length cap6).ownBlock ≠ some (w.heap.size + 1) := fun e => by have h : w5.heap.size ≤ w.heap.size + 1 := (hv6 _ e).1; omega
      have n8 : (Value.slice ao8 t3.length cap8).ownBlock ≠ some (w.heap.size + 1) := fun e => by have := hv8 _ e; omega
      have nP : (Value.slice aoP np capP).ownBlock ≠ some (w.heap.size + 1) := fun e => by have := (hPl _ e).2; omega
      have HPK : Hid (TB w8 (w.heap.size + 1) (Sg.txtTo s0 [t1, [y7], t3, t4] 0) ∧ OwnStrs w8 0 (.slice ao6 t1.length cap6) t1 ∧ OwnStrs w8 0 (.slice ao8 t3.length cap8) t3 ∧ OwnStrs w8 0 (.slice aoP np capP) t4 ∧ Below w.heap.size w w8) := ⟨HT8, HO68, HO88, HP8, be8⟩
      have hl9 : w.heap.size + 2 ≤ w7.heap.size := by omega
      clear HT8 HO68 HP8 HO88 hh6 hh7 hh8 hb6 hb6' hb7 hb8 hb8' hhd hdt htt HT5 HP5 HO6 HO8 hh5 be5 be6 be7 be8 hv6 hv8 hPl hy7
      go_wp2_with fail
      go_meet
      case rel =>
        have a1 : ∀ o, Below w8.heap.size w8 (w8.alloc o) := fun o => (Below.refl _ _).alloc (Nat.le_refl _) _
        have a2 : ∀ o o', Below w8.heap.size w8 ((w8.alloc o).alloc o') := fun o o' => (a1 o).alloc (by simp) _
        first
          | exact ⟨rfl, rfl, _, [.slice ao6 t1.length cap6, .slice (some ⟨w7.heap.size, 0, none⟩) 1 1, .slice ao8 t3.length cap8, .slice aoP np capP], rfl, BtT.mk' (heap_alloc_new w8 _) (HPK.out.2.1.below (a1 _)) n6 ((Below.heap_alloc _ _ _ (lt_of_block hX8)).trans hX8) (by omega) (HPK.out.2.2.1.below (a1 _)) n8 (HPK.out.2.2.2.1.below (a1 _)) nP (by omega) (by omega) (HPK.out.1.below (a1 _)) (HPK.out.2.2.2.2.trans ((a1 _).mono HPK.out.2.2.2.2.size))⟩
          | exact ⟨rfl, rfl, _, [.slice ao6 t1.length cap6, .slice (some ⟨w8.heap.size, 0, none⟩) 1 1, .slice ao8 t3.length cap8, .slice aoP np capP], rfl, BtT.mk' (g1 := w8.heap.size) (by have := heap_alloc_new (w8.alloc (.cells #[.string y7] 9)) (.cells #[.slice ao6 t1.length cap6, .slice (some ⟨w8.heap.size, 0, none⟩) 1 1, .slice ao8 t3.length cap8, .slice aoP np capP] 71); rw [World.size_alloc] at this; exact this) (HPK.out.2.1.below (a2 _ _)) n6 ((Below.heap_alloc _ _ _ (by simp)).trans (heap_alloc_new w8 _)) (by omega) (HPK.out.2.2.1.below (a2 _ _)) n8 (HPK.out.2.2.2.1.below (a2 _ _)) nP (by omega) (by omega) (HPK.out.1.below (a2 _ _)) (HPK.out.2.2.2.2.trans ((a2 _ _).mono HPK.out.2.2.2.2.size))⟩
  case rest =>
    obtain ⟨rfl, rfl, g, vs, rfl, HB⟩ := hcut
    have HL : Hid (∀ k, k < 4 → Sg.txtTo s0 [t1, [tot], t3, t4] (k + 1) = Sg.txtTo s0 [t1, [tot], t3, t4] k ++ Sg.catB ([t1, [tot], t3, t4].getD k [])) := fun k hk => Sg.txtTo_succ _ _ k (by simpa using hk)
    have HZ2 : Hid (∀ k, k < 4 → (Sg.catB ([t1, [tot], t3, t4].getD k [])).size ≤ 1000 ∧ ([t1, [tot], t3, t4].getD k []).length ≤ 4096) := fun k hk => HZ.out _ (by rw [List.getD_eq_getElem?_getD, List.getElem?_eq_getElem (by simpa using hk)]; exact List.getElem_mem _)
    have HZ3 : Hid (∀ k, k ≤ 4 → (Sg.txtTo s0 [t1, [tot], t3, t4] k).size ≤ 5000) := fun k hk => by
      have := Sg.txtTo_size s0 [t1, [tot], t3, t4] HS0.out (fun ts hts => (HZ.out ts hts).1) k (by simpa using hk)
      omega
    generalize [t1, [tot], t3, t4] = tss at *
    clear hhd hdt htt HZ HT5 HP5 hh5 be5 hPl
    go_wp2_with fail
    go_loopw [36] (fun i wr => ∃ k : Nat, k ≤ 4 ∧ i = .int .i64 (k : Int) ∧ Hid (BtT w wr g (w.heap.size + 1) vs tss (Sg.txtTo s0 tss k))) (fun i _ => 4 - (intOf i).toNat)
    case atStart => exact ⟨0, by omega, rfl, HB⟩
    case round =>
      obtain ⟨k, hk, rfl, HI⟩ := hrel
      obtain ⟨wz, ewz⟩ : ∃ z : World, z = wr := ⟨_, rfl⟩
      subst ewz
      clear HB
      by_cases hlt : k < 4
      · obtain ⟨hO, hob⟩ := HI.out.own k hlt
        have hrow := HI.out.row
        have hlen := HI.out.len
        have hc : wz.cell? ⟨g, k, none⟩ = some (vs.getD k nilV) := by
          rw [cell_of_row wz g k _ _ _ hrow]
          have h4 : k < vs.length := by rw [hlen.1]; exact hlt
          simp [List.getD_eq_getElem?_getD, h4]
        have hz4 := HZ2.out k hlt
        have hz5 := HZ3.out k hk
        have HSC := HL.out k hlt
        have hjoin := join_own hO hz4.2 (by omega)
        have HI2 : Hid (BtT w wz g (w.heap.size + 1) vs tss (Sg.txtTo s0 tss k)) := HI
        generalize vs.getD k nilV = v at *
        generalize tss.getD k [] = ts at *
        obtain ⟨ao, cp, ev⟩ := ownsRow_len' hO
        subst ev
        have i1 : (0 : Int) ≤ (k : Int) := by omega
        have i2 : (k : Int) < 4 := by omega
        have tb := HI.out.tb
        clear HI hrow hO hob
        go_wp2_with fail
        refine hjoin.mono ?_
        rintro e w2 ⟨y, rfl, hy, hb2⟩
        have tb2 := tb.below hb2
        have hyz : y.size ≤ 1000 := by rw [hy.out]; exact hz4.1
        clear hjoin hc tb
        go_wp2_with fail
        refine (write_any (w.heap.size + 1) _ y _ tb2 (by omega)).mono ?_
        rintro e w3 ⟨rfl, tb3, hb3, hk3⟩
        have HN : Hid (BtT w w3 g (w.heap.size + 1) vs tss (Sg.txtTo s0 tss (k + 1))) := by
          have h2 := HI2.out
          refine ⟨hk3 _ _ _ _ ((hb2.block g (lt_of_block h2.row)).trans h2.row) h2.len.2.1 (by decide), fun j hj => ⟨((h2.own j hj).1.below hb2).kept hk3 (h2.own j hj).2, (h2.own j hj).2⟩, h2.len, ?_, (h2.bel.trans (hb2.mono h2.bel.size)).trans (hb3.mono h2.len.2.2)⟩
          rw [HSC, ← hy.out]
          exact tb3
        clear tb2 tb3 hb2 hb3 hk3 HI2 hy HSC
        go_wp2_with fail
        go_roundw
        case rel => exact ⟨k + 1, by omega, by go_num, HN⟩
        case measure => simp [intOf]; omega
      · have ek : k = 4 := by omega
        subst ek
        have hstr := string_any (w.heap.size + 1) _ wz HI.out.tb
        have bel := HI.out.bel
        have HF : Hid (Sg.txtTo s0 tss 4 = Sg.bunB n) := HS.out.symm
        clear HI
        go_wp2_with fail
        refine hstr.mono ?_
        rintro e w2 ⟨rfl, hb2⟩
        clear hstr
        go_wp2_with fail
        go_ret
        exact ⟨_, rfl, HF, bel.trans (hb2.mono (by omega))⟩
end Go.Proofs.YtpkkhkkkgjhkeabGreat
