/-
  THE WALKS of bundle.Of, audit.Prove (P9).
-/
import Derived.Test.YtpkkhkkkgjhkeabGreatBunText
import Derived.Test.YtpkkhkkkgjhkeabGreatBpath
import Derived.Test.YtpkkhkkkgjhkeabGreatOff
namespace Go.Proofs.YtpkkhkkkgjhkeabGreat
namespace Sg
/-- The bundle of a line of a book (P9). -/
def bunOf (h : Hist) (i k : Nat) : Bun := ⟨i, k, (hdrsTo h h.pers.length).drop i, ((totals h).getD i []).getD k 0, drillsOf h.accs (h.pers.getD i []) (k : Int), path (stmt h.accs (h.pers.getD i []) ((totals h).getD i [])) k⟩
theorem drillsIn_acct (P : Int → Prop) (ac : List Acc) (line : Int) (i : Nat) : ∀ (ps : List Pst) (j : Nat), (∀ t ∈ ps, P t.acct) → ∀ d ∈ drillsIn ac line i j ps, P d.acct
  | [], _, _ => by simp [drillsIn]
  | p :: ps, j, h => by
    intro d hd
    unfold drillsIn at hd
    have ih := drillsIn_acct P ac line i ps (j + 1) (fun t ht => h t (List.mem_cons_of_mem _ ht))
    split at hd
    · rcases List.mem_cons.1 hd with rfl | hd
      · exact h p List.mem_cons_self
      · exact ih d hd
    · exact ih d hd
theorem drillsFrom_acct (P : Int → Prop) (ac : List Acc) (line : Int) : ∀ (es : List Ent) (i : Nat), (∀ e ∈ es, ∀ t ∈ e.posts, P t.acct) → ∀ d ∈ drillsFrom ac line i es, P d.acct
  | [], _, _ => by simp [drillsFrom]
  | e :: es, i, h => by
    intro d hd
    unfold drillsFrom at hd
    rcases List.mem_append.1 hd with hd | hd
    · exact drillsIn_acct P ac line i e.posts 0 (h e List.mem_cons_self) d hd
    · exact drillsFrom_acct P ac line es (i + 1) (fun e he => h e (List.mem_cons_of_mem _ he)) d hd
theorem two_of {l : List Txt} (h : l.length = 2) (hs : ∀ s ∈ l, s.size = 2) : ∃ p q, l = [p, q] ∧ p.size = 2 ∧ q.size = 2 := by
  match l, h with
  | [p, q], _ => exact ⟨p, q, rfl, hs p (by simp), hs q (by simp)⟩
end Sg
theorem Sg.bunOf_fine {h : Sg.Hist} {nA : Nat} {i k : Nat} (hi : i < h.pers.length) (h6 : h.pers.length ≤ 6) (hk : k < 4) (h8 : nA ≤ 8) (hf : ∀ p ∈ h.pers, perFine nA p) (ht : Sg.fits (((Sg.totals h).getD i []).getD k 0) = true) : (Sg.bunOf h i k).Fine := by
  have e1 : h.pers.getD i [] = h.pers[i] := by rw [List.getD_eq_getElem?_getD, List.getElem?_eq_getElem hi]; rfl
  have hp := hf h.pers[i] (List.getElem_mem hi)
  obtain ⟨d1, d2⟩ := perFine_drills h8 hp h.accs (k : Int)
  refine ⟨by show i ≤ 5; omega, by show k ≤ 3; omega, ?_, ?_, ht, ?_, ?_, ?_⟩
  · show 1 ≤ ((Sg.hdrsTo h h.pers.length).drop i).length ∧ ((Sg.hdrsTo h h.pers.length).drop i).length ≤ 6
    rw [List.length_drop, Sg.hdrsTo_len]; omega
  · intro x hx
    have hx' := List.mem_of_mem_drop hx
    unfold Sg.hdrsTo at hx'
    obtain ⟨j, hj, rfl⟩ := List.mem_map.1 hx'
    have hj' := List.mem_range.1 hj
    refine Sg.hdrOf_fixed h j (by omega) ?_
    rw [List.getD_eq_getElem?_getD, List.getElem?_eq_getElem hj']
    have := (hf h.pers[j] (List.getElem_mem hj')).1
    show h.pers[j].length < 256
    omega
  · show (Sg.drillsOf h.accs (h.pers.getD i []) (k : Int)).length ≤ 72
    rw [e1]; exact d2
  · intro d hd
    have hd' : d ∈ Sg.drillsOf h.accs (h.pers.getD i []) (k : Int) := hd
    rw [e1] at hd'
    obtain ⟨q1, q2, _, q4⟩ := d1 d hd'
    have q3 := Sg.drillsFrom_acct (fun a => 0 ≤ a ∧ a < (nA : Int)) h.accs (k : Int) h.pers[i] 0 (fun e he t ht => ⟨((hp.2 e he).2.2 t ht).1, ((hp.2 e he).2.2 t ht).2.1⟩) d hd'
    exact ⟨q1, q2, ⟨q3.1, by omega⟩, q4⟩
  · have hl : (Sg.stmt h.accs (h.pers.getD i []) ((Sg.totals h).getD i [])).length = 4 := (stmt_small _ _ _).1
    refine Sg.two_of ?_ (Sg.path_sizes _ _ _ (Nat.le_refl _))
    show (Sg.path _ _).length = 2
    rw [Sg.path_length _ _ _ (Nat.le_refl _), hl]
    exact Sg.depth4 (by omega)
open Go.RowKit
set_option maxRecDepth 100000
attribute [local go_sem ↓] Go.wp_at_zero Go.wp_at_succ
theorem HdrsIn.drop {w : World} {b : Nat} {hs : List Sg.Hdr} (h : HdrsIn w (some ⟨b, 0, none⟩) hs) (i : Nat) : HdrsIn w (some ⟨b, i * 8, none⟩) (hs.drop i) := by
  rcases h with h0 | ⟨b', off, e, hbw, hat⟩
  · left; rw [List.length_drop]; omega
  · simp only [Option.some.injEq, Addr.mk.injEq, and_true] at e
    obtain ⟨rfl, rfl⟩ := e
    refine Or.inr ⟨b, i * 8, rfl, hbw, fun j hj => ?_⟩
    rw [List.length_drop] at hj
    have := hat (i + j) (by omega)
    rw [show 0 + (i + j) * 8 = i * 8 + j * 8 by omega] at this
    rw [List.getElem_drop]
    exact this
theorem OwnH.some_of {w : World} {B : Nat} {v : Value} {hs : List Sg.Hdr} (h : OwnH w B v hs) (h1 : 1 ≤ hs.length) : ∃ g cap, v = .slice (some ⟨g, 0, none⟩) hs.length cap ∧ (hs.length ≤ cap ∧ cap ≤ maxLen) ∧ HdrsIn w (some ⟨g, 0, none⟩) hs := by
  obtain ⟨ao, cap, e, hc1, hc2, hin⟩ := h.shape
  rcases h.2 with ⟨e', h0⟩ | ⟨g, cap', cur, e', _⟩
  · omega
  · rw [e] at e'
    simp only [Value.slice.injEq] at e'
    rw [e'.1] at e hin
    exact ⟨g, cap, e, ⟨hc1, hc2⟩, hin⟩
theorem own_at {w : World} {B g cap n : Nat} {ss : List ByteArray} (h : OwnStrs w B (.slice (some ⟨g, 0, none⟩) n cap) ss) : StrsAt w g 0 ss := by
  obtain ⟨ao, cap', e, _, _, hin⟩ := h.shape
  simp only [Value.slice.injEq] at e
  rcases hin with h0 | ⟨b, off, e', _, hat⟩
  · intro i hi; omega
  · rw [e'] at e
    simp only [Option.some.injEq, Addr.mk.injEq, and_true] at e
    obtain ⟨⟨rfl, rfl⟩, _⟩ := e
    exact hat
/-- What bundle.Of made. -/
structure BunIn (w0 w : World) (n : Sg.Bun) (aoD aoH : Option Addr) (nd nh : Nat) (vP : Value) : Prop where
  drls : DrlsIn w aoD n.drls
  hdrs : HdrsIn w aoH n.hdrs
  path : OwnStrs w w0.heap.size vP n.path
  lenD : n.drls.length = nd
  lenH : n.hdrs.length = nh
/-- The boxes of bundle.Of. -/
structure OfS (w : World) (g0 g6 g7 g8 : Nat) (a0 a1 p0 p1 p2 p3 p4 p5 p6 p7 p8 p9 p10 l0 l1 l2 l3 : Value) (W : World) : Prop where
  two : Two W g0 a0 a1 65
  per : PerBox W g7 p0 p1 p2 p3 p4 p5 p6 p7 p8 p9 p10
  line : Quad W g8 l0 l1 l2 l3 37
  ne : g0 ≠ g6 ∧ g7 ≠ g6 ∧ g8 ≠ g6
  bel : Below w.heap.size w W
theorem OfS.call {w W w' : World} {g0 g6 g7 g8 : Nat} {a0 a1 p0 p1 p2 p3 p4 p5 p6 p7 p8 p9 p10 l0 l1 l2 l3 : Value} (h : OfS w g0 g6 g7 g8 a0 a1 p0 p1 p2 p3 p4 p5 p6 p7 p8 p9 p10 l0 l1 l2 l3 W) (hb : Below W.heap.size W w') : OfS w g0 g6 g7 g8 a0 a1 p0 p1 p2 p3 p4 p5 p6 p7 p8 p9 p10 l0 l1 l2 l3 w' :=
  ⟨h.two.below hb, h.per.below hb, h.line.below hb, h.ne, h.bel.trans (hb.mono h.bel.size)⟩
theorem OfS.all {w W : World} {g0 g6 g7 g8 : Nat} {a0 a1 p0 p1 p2 p3 p4 p5 p6 p7 p8 p9 p10 l0 l1 l2 l3 : Value} (h : OfS w g0 g6 g7 g8 a0 a1 p0 p1 p2 p3 p4 p5 p6 p7 p8 p9 p10 l0 l1 l2 l3 W) : W.cell? ⟨g0, 0, none⟩ = some a0 ∧ W.cell? ⟨g0, 1, none⟩ = some a1 ∧ W.cell? ⟨g7, 0, none⟩ = some p0 ∧ W.cell? ⟨g7, 1, none⟩ = some p1 ∧ W.cell? ⟨g7, 2, none⟩ = some p2 ∧ W.cell? ⟨g7, 3, none⟩ = some p3 ∧ W.cell? ⟨g7, 4, none⟩ = some p4 ∧ W.cell? ⟨g7, 5, none⟩ = some p5 ∧ W.cell? ⟨g7, 6, none⟩ = some p6 ∧ W.cell? ⟨g7, 7, none⟩ = some p7 ∧ W.cell? ⟨g7, 8, none⟩ = some p8 ∧ W.cell? ⟨g7, 9, none⟩ = some p9 ∧ W.cell? ⟨g7, 10, none⟩ = some p10 ∧ W.cell? ⟨g8, 0, none⟩ = some l0 ∧ W.cell? ⟨g8, 1, none⟩ = some l1 ∧ W.cell? ⟨g8, 2, none⟩ = some l2 ∧ W.cell? ⟨g8, 3, none⟩ = some l3 ∧ OfS w g0 g6 g7 g8 a0 a1 p0 p1 p2 p3 p4 p5 p6 p7 p8 p9 p10 l0 l1 l2 l3 W := by
  obtain ⟨x0, x1⟩ := h.two.cells
  obtain ⟨y0, y1, y2, y3, y4, y5, y6, y7, y8, y9, y10⟩ := elevens h.per
  obtain ⟨z0, z1, z2, z3⟩ := h.line.cells
  exact ⟨x0, x1, y0, y1, y2, y3, y4, y5, y6, y7, y8, y9, y10, z0, z1, z2, z3, h⟩
theorem OfS.of {w W : World} {g0 g6 g7 g8 : Nat} {a0 a1 p0 p1 p2 p3 p4 p5 p6 p7 p8 p9 p10 l0 l1 l2 l3 : Value} (h : W.cell? ⟨g0, 0, none⟩ = some a0 ∧ W.cell? ⟨g0, 1, none⟩ = some a1 ∧ W.cell? ⟨g7, 0, none⟩ = some p0 ∧ W.cell? ⟨g7, 1, none⟩ = some p1 ∧ W.cell? ⟨g7, 2, none⟩ = some p2 ∧ W.cell? ⟨g7, 3, none⟩ = some p3 ∧ W.cell? ⟨g7, 4, none⟩ = some p4 ∧ W.cell? ⟨g7, 5, none⟩ = some p5 ∧ W.cell? ⟨g7, 6, none⟩ = some p6 ∧ W.cell? ⟨g7, 7, none⟩ = some p7 ∧ W.cell? ⟨g7, 8, none⟩ = some p8 ∧ W.cell? ⟨g7, 9, none⟩ = some p9 ∧ W.cell? ⟨g7, 10, none⟩ = some p10 ∧ W.cell? ⟨g8, 0, none⟩ = some l0 ∧ W.cell? ⟨g8, 1, none⟩ = some l1 ∧ W.cell? ⟨g8, 2, none⟩ = some l2 ∧ W.cell? ⟨g8, 3, none⟩ = some l3 ∧ OfS w g0 g6 g7 g8 a0 a1 p0 p1 p2 p3 p4 p5 p6 p7 p8 p9 p10 l0 l1 l2 l3 W) : OfS w g0 g6 g7 g8 a0 a1 p0 p1 p2 p3 p4 p5 p6 p7 p8 p9 p10 l0 l1 l2 l3 W := h.2.2.2.2.2.2.2.2.2.2.2.2.2.2.2.2.2
theorem OfS.drew {w W : World} {g0 g6 g7 g8 : Nat} {a0 a1 p0 p1 p2 p3 p4 p5 p6 p7 p8 p9 p10 l0 l1 l2 l3 : Value} (h : OfS w g0 g6 g7 g8 a0 a1 p0 p1 p2 p3 p4 p5 p6 p7 p8 p9 p10 l0 l1 l2 l3 W) : OfS w g0 g6 g7 g8 a0 a1 p0 p1 p2 p3 p4 p5 p6 p7 p8 p9 p10 l0 l1 l2 l3 W.drew := ⟨h.two, h.per, h.line, h.ne, h.bel.drew⟩

theorem OfS.stored {w W W' : World} {g0 g6 g7 g8 : Nat} {a0 a1 p0 p1 p2 p3 p4 p5 p6 p7 p8 p9 p10 l0 l1 l2 l3 : Value} (h : OfS w g0 g6 g7 g8 a0 a1 p0 p1 p2 p3 p4 p5 p6 p7 p8 p9 p10 l0 l1 l2 l3 W) (hb : Below w.heap.size W W') (ho : ∀ j, j ≠ g6 → W'.heap[j]? = W.heap[j]?) : OfS w g0 g6 g7 g8 a0 a1 p0 p1 p2 p3 p4 p5 p6 p7 p8 p9 p10 l0 l1 l2 l3 W' :=
  ⟨(ho g0 h.ne.1).trans h.two, (ho g7 h.ne.2.1).trans h.per, (ho g8 h.ne.2.2).trans h.line, h.ne, h.bel.trans hb⟩

set_option maxHeartbeats 12800000 in
/-- bundle.Of. -/
theorem bunOf_any (h : Sg.Hist) (aoA ao : Option Addr) (nA nP capA cap b i k : Nat) (rs : List Rec) (w : World) (hC : Closed w aoA nA nP h (.slice aoA nA capA) ao rs b) (hfine : ∀ p ∈ h.pers, perFine nA p) (hi : i < nP) (hk : k < 4) :
    Calls Tryz.prog 21 #[.agg #[.slice aoA nA capA, .slice ao nP cap], .int .i64 (i : Int), .int .i64 (k : Int)] w fun e w' => ∃ aoD aoH nd nh capD capH vP y, e = .returned (.agg #[.int .i64 (i : Int), .int .i64 (k : Int), .int .i64 (Sg.bunOf h i k).total, .slice aoD nd capD, .slice aoH nh capH, vP, .string y]) ∧ Hid (BunIn w w' (Sg.bunOf h i k) aoD aoH nd nh vP) ∧ Below w.heap.size w w' := by
  obtain ⟨hn8, hn6, hn1⟩ := hC.nums
  have hao := hC.bk.at_
  subst hao
  obtain ⟨h1, h2, h3, h4, aoE, ne, capE, gg1, gg2, hper⟩ := hC.per hi
  obtain ⟨x0, x1, x2, x3, x4, x5, x6, x7, x8, x9, x10⟩ := hC.bk.eleven h4
  have hbz := hC.bk.lt
  have hfp := hfine h.pers[i] (List.getElem_mem h1)
  have e1 : h.pers.getD i [] = h.pers[i] := by rw [List.getD_eq_getElem?_getD, List.getElem?_eq_getElem h1]; rfl
  have e3 : (Sg.totals h).getD i [] = [rs[i].t0, rs[i].t1, rs[i].t2, rs[i].t3] := by rw [List.getD_eq_getElem?_getD, List.getElem?_eq_getElem h3]; exact gg2
  have hfit : Sg.fits ([rs[i].t0, rs[i].t1, rs[i].t2, rs[i].t3].getD k 0) = true := hper.fitT _ (by rw [List.getD_eq_getElem?_getD, List.getElem?_eq_getElem (by simpa using hk)]; exact List.getElem_mem _)
  have hln := fun W (hb : Below w.heap.size w W) => perLine_any h.accs h.pers[i] k hk rs[i].t0 rs[i].t1 rs[i].t2 rs[i].t3 aoA aoE nA capA ne capE (.map (some rs[i].m)) W (hC.accs.below hb) hC.lenA hn8 (hper.ents.below hb) hper.len hfp hfit
  have hlv := fun W (hb : Below w.heap.size w W) => perLeaves_any h.accs h.pers[i] rs[i].t0 rs[i].t1 rs[i].t2 rs[i].t3 aoA aoE nA capA ne capE (.map (some rs[i].m)) W (hC.accs.below hb) hC.lenA hn8 (hper.ents.below hb) hper.len hfp hper.fitT
  have hhd := fun W (hb : Below w.heap.size w W) => bHeaders_any h aoA (some ⟨b, 0, none⟩) nA nP capA cap b rs W (hC.below hb) hfine
  have hhe := fun W (hb : Below w.heap.size w W) => bHead_any h aoA (some ⟨b, 0, none⟩) nA nP capA cap b rs W (hC.below hb) hfine
  obtain ⟨hs4, hsz4⟩ := stmt_small h.accs h.pers[i] [rs[i].t0, rs[i].t1, rs[i].t2, rs[i].t3]
  have HB : Hid (Sg.bunOf h i k = ⟨i, k, (Sg.hdrsTo h nP).drop i, [rs[i].t0, rs[i].t1, rs[i].t2, rs[i].t3].getD k 0, Sg.drillsOf h.accs h.pers[i] (k : Int), Sg.path (Sg.stmt h.accs h.pers[i] [rs[i].t0, rs[i].t1, rs[i].t2, rs[i].t3]) k⟩) := by
    show _ = _
    unfold Sg.bunOf
    rw [e1, e3, hC.lenP]
  rw [HB.out]
  rw [hper.eV] at x1
  have HHL : Hid ((Sg.hdrsTo h nP).length = nP) := Sg.hdrsTo_len h nP
  clear hC hfine hper gg1 gg2 hfp e1 e3 HB
  generalize Sg.drillsOf h.accs h.pers[i] (k : Int) = ds at *
  generalize Sg.hdrsTo h nP = hs at *
  generalize rs[i].m = m at *
  generalize rs[i].t0 = t0 at *
  generalize rs[i].t1 = t1 at *
  generalize rs[i].t2 = t2 at *
  generalize rs[i].t3 = t3 at *
  generalize Sg.stmt h.accs h.pers[i] [t0, t1, t2, t3] = us at *
  generalize [t0, t1, t2, t3].getD k 0 = tr at *
  have i1 : (0 : Int) ≤ (i : Int) := by omega
  have i2 : (i : Int) < (nP : Int) := by omega
  have i3 : (i : Int) ≤ (nP : Int) := by omega
  go_enter Tryz.func21, Tryz.ntmps21
  go_upto_region 1 with fail
  have hT0 := Two.new w (.slice aoA nA capA) (.slice (some ⟨b, 0, none⟩) nP cap) 65
  have c1 : Below w.heap.size w (w.alloc (.cells #[.slice aoA nA capA, .slice (some ⟨b, 0, none⟩) nP cap] 65)) := (Below.refl _ _).alloc (Nat.le_refl _) _
  have z1 : (w.alloc (.cells #[.slice aoA nA capA, .slice (some ⟨b, 0, none⟩) nP cap] 65)).heap.size = w.heap.size + 1 := by simp
  generalize (w.alloc (.cells #[.slice aoA nA capA, .slice (some ⟨b, 0, none⟩) nP cap] 65)) = W1 at *
  have hR0 := BBox.new W1 (.int .i64 0) (.int .i64 0) (.int .i64 0) (.slice none 0 0) (.slice none 0 0) (.slice none 0 0) (.string { data := #[] })
  have c2 : Below W1.heap.size W1 (W1.alloc (.cells #[.int .i64 0, .int .i64 0, .int .i64 0, .slice none 0 0, .slice none 0 0, .slice none 0 0, .string { data := #[] }] 73)) := (Below.refl _ _).alloc (Nat.le_refl _) _
  have z2 : (W1.alloc (.cells #[.int .i64 0, .int .i64 0, .int .i64 0, .slice none 0 0, .slice none 0 0, .slice none 0 0, .string { data := #[] }] 73)).heap.size = w.heap.size + 2 := by simp; omega
  generalize (W1.alloc (.cells #[.int .i64 0, .int .i64 0, .int .i64 0, .slice none 0 0, .slice none 0 0, .slice none 0 0, .string { data := #[] }] 73)) = W2 at *
  rw [z1] at hR0
  have be2 := c1.trans (c2.mono c1.size)
  have hT2 := hT0.below c2
  have x0' := (be2.cell (p := ⟨b, i * 11, none⟩) hbz).trans x0
  have x1' := (be2.cell (p := ⟨b, i * 11 + 1, none⟩) hbz).trans x1
  have x2' := (be2.cell (p := ⟨b, i * 11 + 2, none⟩) hbz).trans x2
  have x3' := (be2.cell (p := ⟨b, i * 11 + 3, none⟩) hbz).trans x3
  have x4' := (be2.cell (p := ⟨b, i * 11 + 4, none⟩) hbz).trans x4
  have x5' := (be2.cell (p := ⟨b, i * 11 + 5, none⟩) hbz).trans x5
  have x6' := (be2.cell (p := ⟨b, i * 11 + 6, none⟩) hbz).trans x6
  have x7' := (be2.cell (p := ⟨b, i * 11 + 7, none⟩) hbz).trans x7
  have x8' := (be2.cell (p := ⟨b, i * 11 + 8, none⟩) hbz).trans x8
  have x9' := (be2.cell (p := ⟨b, i * 11 + 9, none⟩) hbz).trans x9
  have x10' := (be2.cell (p := ⟨b, i * 11 + 10, none⟩) hbz).trans x10
  obtain ⟨d0, d1⟩ := hT2.cells
  clear x0 x1 x2 x3 x4 x5 x6 x7 x8 x9 x10 hT0 c1 c2
  go_upto_region 2 with fail
  have hP0 := PerBox.new W2 (.slice aoA nA capA) (.slice aoE ne capE) (.map (some m)) (.int .u64 (nHi t0)) (.int .u64 (nLo t0)) (.int .u64 (nHi t1)) (.int .u64 (nLo t1)) (.int .u64 (nHi t2)) (.int .u64 (nLo t2)) (.int .u64 (nHi t3)) (.int .u64 (nLo t3))
  have c3 : Below W2.heap.size W2 (W2.alloc (.cells #[.slice aoA nA capA, .slice aoE ne capE, .map (some m), .int .u64 (nHi t0), .int .u64 (nLo t0), .int .u64 (nHi t1), .int .u64 (nLo t1), .int .u64 (nHi t2), .int .u64 (nLo t2), .int .u64 (nHi t3), .int .u64 (nLo t3)] 87)) := (Below.refl _ _).alloc (Nat.le_refl _) _
  have z3 : (W2.alloc (.cells #[.slice aoA nA capA, .slice aoE ne capE, .map (some m), .int .u64 (nHi t0), .int .u64 (nLo t0), .int .u64 (nHi t1), .int .u64 (nLo t1), .int .u64 (nHi t2), .int .u64 (nLo t2), .int .u64 (nHi t3), .int .u64 (nLo t3)] 87)).heap.size = w.heap.size + 3 := by simp; omega
  generalize (W2.alloc (.cells #[.slice aoA nA capA, .slice aoE ne capE, .map (some m), .int .u64 (nHi t0), .int .u64 (nLo t0), .int .u64 (nHi t1), .int .u64 (nLo t1), .int .u64 (nHi t2), .int .u64 (nLo t2), .int .u64 (nHi t3), .int .u64 (nLo t3)] 87)) = W3 at *
  rw [z2] at hP0
  try rw [z2]
  have be3 := be2.trans (c3.mono be2.size)
  have hT3 := hT2.below c3
  have hR3 := hR0.below c3
  obtain ⟨a0, a1, a2, a3, a4, a5, a6, a7, a8, a9, a10⟩ := elevens hP0
  clear x0' x1' x2' x3' x4' x5' x6' x7' x8' x9' x10' hT2 hR0 c3 be2 d0 d1
  go_wp2_with fail
  refine (hln _ be3).mono ?_
  rintro e w4 ⟨aoD, capD, rfl, HO4, hb4⟩
  obtain ⟨nd, hnd⟩ : ∃ nd, ds.length = nd := ⟨_, rfl⟩
  rw [hnd] at HO4 ⊢
  have hT4 := hT3.below hb4
  have hR4 := hR3.below hb4
  have hP4 := hP0.below hb4
  have be4 := be3.trans (hb4.mono be3.size)
  have z4 := hb4.size
  clear hln hT3 hR3 hP0 be3 hb4 a0 a1 a2 a3 a4 a5 a6 a7 a8 a9 a10
  go_upto_region 4 with fail
  have hL5 := Quad.new w4 (.int .i64 (i : Int)) (.int .i64 (k : Int)) (.int .i64 tr) (.slice aoD nd capD) 37
  have c5 : Below w4.heap.size w4 (w4.alloc (.cells #[.int .i64 (i : Int), .int .i64 (k : Int), .int .i64 tr, .slice aoD nd capD] 37)) := (Below.refl _ _).alloc (Nat.le_refl _) _
  generalize (w4.alloc (.cells #[.int .i64 (i : Int), .int .i64 (k : Int), .int .i64 tr, .slice aoD nd capD] 37)) = w5 at *
  have HO5 : Hid (OwnDrls w5 (w.heap.size + 3) (.slice aoD nd capD) ds) := ownsRow_base (HO4.out.below c5) (by omega)
  have hz5 : w.heap.size + 3 ≤ w5.heap.size := by have := c5.size; omega
  obtain ⟨g8, eg8⟩ : ∃ g8, w4.heap.size = g8 := ⟨_, rfl⟩
  rw [eg8] at hL5
  try rw [eg8]
  have hS5 : OfS w w.heap.size (w.heap.size + 1) (w.heap.size + 2) g8 (.slice aoA nA capA) (.slice (some ⟨b, 0, none⟩) nP cap) (.slice aoA nA capA) (.slice aoE ne capE) (.map (some m)) (.int .u64 (nHi t0)) (.int .u64 (nLo t0)) (.int .u64 (nHi t1)) (.int .u64 (nLo t1)) (.int .u64 (nHi t2)) (.int .u64 (nLo t2)) (.int .u64 (nHi t3)) (.int .u64 (nLo t3)) (.int .i64 (i : Int)) (.int .i64 (k : Int)) (.int .i64 tr) (.slice aoD nd capD) w5 := ⟨hT4.below c5, hP4.below c5, hL5, ⟨by omega, by omega, by omega⟩, be4.trans (c5.mono be4.size)⟩
  have hR5 := hR4.below c5
  have hh5 := hS5.all
  clear hT4 hP4 hR4 hL5 c5 be4 z4 HO4 eg8
  go_region_held3 (fun w' => w'.cell? ⟨w.heap.size, 0, none⟩ = some (.slice aoA nA capA) ∧ w'.cell? ⟨w.heap.size, 1, none⟩ = some (.slice (some ⟨b, 0, none⟩) nP cap) ∧ w'.cell? ⟨w.heap.size + 2, 0, none⟩ = some (.slice aoA nA capA) ∧ w'.cell? ⟨w.heap.size + 2, 1, none⟩ = some (.slice aoE ne capE) ∧ w'.cell? ⟨w.heap.size + 2, 2, none⟩ = some (.map (some m)) ∧ w'.cell? ⟨w.heap.size + 2, 3, none⟩ = some (.int .u64 (nHi t0)) ∧ w'.cell? ⟨w.heap.size + 2, 4, none⟩ = some (.int .u64 (nLo t0)) ∧ w'.cell? ⟨w.heap.size + 2, 5, none⟩ = some (.int .u64 (nHi t1)) ∧ w'.cell? ⟨w.heap.size + 2, 6, none⟩ = some (.int .u64 (nLo t1)) ∧ w'.cell? ⟨w.heap.size + 2, 7, none⟩ = some (.int .u64 (nHi t2)) ∧ w'.cell? ⟨w.heap.size + 2, 8, none⟩ = some (.int .u64 (nLo t2)) ∧ w'.cell? ⟨w.heap.size + 2, 9, none⟩ = some (.int .u64 (nHi t3)) ∧ w'.cell? ⟨w.heap.size + 2, 10, none⟩ = some (.int .u64 (nLo t3)) ∧ w'.cell? ⟨g8, 0, none⟩ = some (.int .i64 (i : Int)) ∧ w'.cell? ⟨g8, 1, none⟩ = some (.int .i64 (k : Int)) ∧ w'.cell? ⟨g8, 2, none⟩ = some (.int .i64 tr) ∧ w'.cell? ⟨g8, 3, none⟩ = some (.slice aoD nd capD) ∧ OfS w w.heap.size (w.heap.size + 1) (w.heap.size + 2) g8 (.slice aoA nA capA) (.slice (some ⟨b, 0, none⟩) nP cap) (.slice aoA nA capA) (.slice aoE ne capE) (.map (some m)) (.int .u64 (nHi t0)) (.int .u64 (nLo t0)) (.int .u64 (nHi t1)) (.int .u64 (nLo t1)) (.int .u64 (nHi t2)) (.int .u64 (nLo t2)) (.int .u64 (nHi t3)) (.int .u64 (nLo t3)) (.int .i64 (i : Int)) (.int .i64 (k : Int)) (.int .i64 tr) (.slice aoD nd capD) w') (first | with_reducible assumption | with_reducible exact OfS.all (OfS.drew hS5))
    (first
      | (go_at_call 36; have hSp : OfS w w.heap.size (w.heap.size + 1) (w.heap.size + 2) g8 (.slice aoA nA capA) (.slice (some ⟨b, 0, none⟩) nP cap) (.slice aoA nA capA) (.slice aoE ne capE) (.map (some m)) (.int .u64 (nHi t0)) (.int .u64 (nLo t0)) (.int .u64 (nHi t1)) (.int .u64 (nLo t1)) (.int .u64 (nHi t2)) (.int .u64 (nLo t2)) (.int .u64 (nHi t3)) (.int .u64 (nLo t3)) (.int .i64 (i : Int)) (.int .i64 (k : Int)) (.int .i64 tr) (.slice aoD nd capD) _ := OfS.of (by assumption); refine (hhd _ hSp.bel).mono ?_; rintro e w6 ⟨v6, rfl, HO6, hb6⟩; have hS6 := hSp.call hb6; have hh6 := hS6.all; clear hSp; have hR6 := BBox.below (x0 := .int .i64 0) (by exact hR5) hb6; obtain ⟨q6, cap6, ev6, hc6, hin6⟩ := OwnH.some_of HO6.out (by rw [HHL.out]; omega); rw [HHL.out] at ev6 hc6; subst ev6; have k1 : (nP : Int) ≤ (cap6 : Int) := (by omega); have k2 : (i : Int) ≤ (cap6 : Int) := (by omega); have k3 : ¬ cap6 = i := (by omega))
      | (go_at_call 41; have hSp : OfS w w.heap.size (w.heap.size + 1) (w.heap.size + 2) g8 (.slice aoA nA capA) (.slice (some ⟨b, 0, none⟩) nP cap) (.slice aoA nA capA) (.slice aoE ne capE) (.map (some m)) (.int .u64 (nHi t0)) (.int .u64 (nLo t0)) (.int .u64 (nHi t1)) (.int .u64 (nLo t1)) (.int .u64 (nHi t2)) (.int .u64 (nLo t2)) (.int .u64 (nHi t3)) (.int .u64 (nLo t3)) (.int .i64 (i : Int)) (.int .i64 (k : Int)) (.int .i64 tr) (.slice aoD nd capD) _ := OfS.of (by assumption); refine (sums_any _).mono ?_; rintro e w7 ⟨g, rfl, hgw, hg, hb7⟩; have hS7 := hSp.call hb7; have hh7 := hS7.all; clear hSp; have hR7 := BBox.below (x0 := .int .i64 0) (by exact hR6) hb7)
      | (go_at_call 43; have hSp : OfS w w.heap.size (w.heap.size + 1) (w.heap.size + 2) g8 (.slice aoA nA capA) (.slice (some ⟨b, 0, none⟩) nP cap) (.slice aoA nA capA) (.slice aoE ne capE) (.map (some m)) (.int .u64 (nHi t0)) (.int .u64 (nLo t0)) (.int .u64 (nHi t1)) (.int .u64 (nLo t1)) (.int .u64 (nHi t2)) (.int .u64 (nLo t2)) (.int .u64 (nHi t3)) (.int .u64 (nLo t3)) (.int .i64 (i : Int)) (.int .i64 (k : Int)) (.int .i64 tr) (.slice aoD nd capD) _ := OfS.of (by assumption); refine (hlv _ hSp.bel).mono ?_; rintro e w8 ⟨v8, rfl, HO8, hb8⟩; have hS8 := hSp.call hb8; have hh8 := hS8.all; clear hSp; have hR8 := BBox.below (x0 := .int .i64 0) (by exact hR7) hb8; have hg8 := hg.below hg.lt hb8; obtain ⟨q8, cap8, ev8, hB8, hq8, hc8, hm8⟩ := HO8.out.some_of (by omega); rw [hs4] at ev8 hc8; subst ev8)
      | (go_at_call 42; have hSp : OfS w w.heap.size (w.heap.size + 1) (w.heap.size + 2) g8 (.slice aoA nA capA) (.slice (some ⟨b, 0, none⟩) nP cap) (.slice aoA nA capA) (.slice aoE ne capE) (.map (some m)) (.int .u64 (nHi t0)) (.int .u64 (nLo t0)) (.int .u64 (nHi t1)) (.int .u64 (nLo t1)) (.int .u64 (nHi t2)) (.int .u64 (nLo t2)) (.int .u64 (nHi t3)) (.int .u64 (nLo t3)) (.int .i64 (i : Int)) (.int .i64 (k : Int)) (.int .i64 tr) (.slice aoD nd capD) _ := OfS.of (by assumption); refine (bPath_upto g 4 us 4 k q8 0 cap8 _ hs4 (by omega) hk hc8 (by omega) (by unfold maxLen at hm8; omega) (fun s hs => by have := hsz4 s hs; omega) hg8 hq8 (own_at HO8.out)).mono ?_; rintro e w9 ⟨v9, rfl, HO9, hb9⟩; have hS9 := hSp.call hb9; have hh9 := hS9.all; clear hSp; have hR9 := BBox.below (x0 := .int .i64 0) (by exact hR8) hb9; obtain ⟨ao9, cap9, ev9⟩ := ownsRow_len' HO9; obtain ⟨n9, hn9⟩ : ∃ n9, (Sg.path us k).length = n9 := ⟨_, rfl⟩; rw [hn9] at ev9; subst ev9)
      | (go_at_call 19; have hSp : OfS w w.heap.size (w.heap.size + 1) (w.heap.size + 2) g8 (.slice aoA nA capA) (.slice (some ⟨b, 0, none⟩) nP cap) (.slice aoA nA capA) (.slice aoE ne capE) (.map (some m)) (.int .u64 (nHi t0)) (.int .u64 (nLo t0)) (.int .u64 (nHi t1)) (.int .u64 (nLo t1)) (.int .u64 (nHi t2)) (.int .u64 (nLo t2)) (.int .u64 (nHi t3)) (.int .u64 (nLo t3)) (.int .i64 (i : Int)) (.int .i64 (k : Int)) (.int .i64 tr) (.slice aoD nd capD) _ := OfS.of (by assumption); refine (hhe _ hSp.bel).mono ?_; rintro e w10 ⟨y10, rfl, hy10, hb10⟩; have hS10 := hSp.call hb10; have hh10 := hS10.all; clear hSp; have hR10 := BBox.below (x0 := .int .i64 0) (by exact hR9) hb10; have hQ := bstore_run hR10 (.int .i64 (i : Int)) (.int .i64 (k : Int)) (.int .i64 tr) (.slice aoD nd capD) (.slice (some ⟨q6, i * 8, none⟩) (nP - i) (cap6 - i)) (.slice ao9 n9 cap9) (.string y10); obtain ⟨u1, u2, u3, u4, u5, u6, w11, ⟨m1, m2, m3⟩, ⟨m4, m5, m6⟩, ⟨m7, m8, m9⟩, ⟨n1, n2, n3⟩, ⟨n4, n5, n6⟩, ⟨n7, n8, n9'⟩, ⟨r1, r2, r3⟩, hX, hBl, hoth⟩ := hQ; have hS11 := hS10.stored (hBl _ (by omega)) hoth; have hh11 := hS11.all))
  have s6 := hb6.size
  have s7 := hb7.size
  have s8 := hb8.size
  have s5 : w5.drew.heap.size = w5.heap.size := rfl
  have hb6x : Below w5.heap.size w5 w6 := by first | exact hb6 | exact ((Below.refl w5.heap.size w5).drew).trans hb6
  have s6x := hb6x.size
  have oD : OwnDrls w11 (w.heap.size + 3) (.slice aoD nd capD) ds := ownsRow_offB ((((((HO5.out.below hb6x).below hb7).below hb8).below hb9).below hb10)) (by omega) hoth
  have oH : OwnH w11 (w.heap.size + 3) (.slice (some ⟨q6, 0, none⟩) nP cap6) hs := ownsRow_offB (ownsRow_base (base := w5.heap.size + 1) ((((HO6.out.below hb7).below hb8).below hb9).below hb10) (by omega)) (by omega) hoth
  have oP : OwnStrs w11 w.heap.size (.slice ao9 n9 cap9) (Sg.path us k) := ownsRow_base (base := w8.heap.size) (ownsRow_offB (HO9.below hb10) (by omega) hoth) (by omega)
  have iH : HdrsIn w11 (some ⟨q6, 0, none⟩) hs := by
    obtain ⟨g', c', e', _, h'⟩ := OwnH.some_of oH (by rw [HHL.out]; omega)
    simp only [Value.slice.injEq, Option.some.injEq] at e'
    rw [e'.1]
    exact h'
  have iD : DrlsIn w11 aoD ds := by
    obtain ⟨_, _, e', h'⟩ := oD.shape
    simp only [Value.slice.injEq] at e'
    rw [e'.1]
    exact h'
  have HF : Hid (BunIn w w11 ⟨i, k, hs.drop i, tr, ds, Sg.path us k⟩ aoD (some ⟨q6, i * 8, none⟩) nd (nP - i) (.slice ao9 n9 cap9) ∧ Below w.heap.size w w11) := ⟨⟨iD, iH.drop i, oP, hnd, by show (hs.drop i).length = _; rw [List.length_drop, HHL.out]⟩, hS11.bel⟩
  obtain ⟨v0, v1, v2, v3, v4, v5, v6⟩ := hX.cells
  clear hh5 hh6 hh7 hh8 hh9 hh10 hh11 hS5 hS6 hS7 hS8 hS9 hS10 hS11 hR5 hR6 hR7 hR8 hR9 hR10 hX hBl hoth oD oH oP iH iD HO5 HO6 HO8 HO9 hlv hhd hhe hb6 hb6x hb7 hb8 hb9 hb10
  go_wp2_with fail
  exact bodyPost_ret (v := .agg #[.int .i64 (i : Int), .int .i64 (k : Int), .int .i64 tr, .slice aoD nd capD, .slice (some ⟨q6, i * 8, none⟩) (nP - i) (cap6 - i), .slice ao9 n9 cap9, .string y10]) (by simp [results, Tryz.results21, go_sem, v0, v1, v2, v3, v4, v5, v6]) rfl ⟨_, _, _, _, _, _, _, _, rfl, HF.out.1, HF.out.2⟩
end Go.Proofs.YtpkkhkkkgjhkeabGreat
