/-
  THE WALK of book.Close: a history is closed.
-/
import Derived.Test.YtoadiibfmcjgaaaClosePer
namespace Go.Proofs.Ytoadiibfmcjgaaa
open Go.RowKit Go.Maps
set_option maxRecDepth 100000
attribute [local go_sem ↓] Go.wp_at_zero Go.wp_at_succ

theorem Try.infoPer : (Try.prog.info? 116).map (fun i => (i.zero, i.size, i.bytes)) = some (some (.agg #[.slice none 0 0, .slice none 0 0, .map none, .int .u64 0, .int .u64 0, .int .u64 0, .int .u64 0, .int .u64 0, .int .u64 0, .int .u64 0, .int .u64 0]), 11, 120) := by kernel_rfl

/-- A closed period: its entries, its map, what is in it, the totals. -/
structure Rec where
  eV : Value
  m : Nat
  now : List Int
  t0 : Int
  t1 : Int
  t2 : Int
  t3 : Int
def recCells (A : Value) (r : Rec) : List Value := [A, r.eV, .map (some r.m), .int .u64 (nHi r.t0), .int .u64 (nLo r.t0), .int .u64 (nHi r.t1), .int .u64 (nLo r.t1), .int .u64 (nHi r.t2), .int .u64 (nLo r.t2), .int .u64 (nHi r.t3), .int .u64 (nLo r.t3)]
def recsCells (A : Value) (rs : List Rec) : List Value := rs.flatMap (recCells A)
theorem recsCells_length (A : Value) : ∀ rs, (recsCells A rs).length = rs.length * 11
  | [] => rfl
  | r :: rs => by
    show (recCells A r ++ recsCells A rs).length = _
    rw [List.length_append, recsCells_length A rs, List.length_cons]
    simp only [recCells, List.length_cons, List.length_nil]; omega
theorem recsCells_snoc (A : Value) (rs : List Rec) (r : Rec) : recsCells A (rs ++ [r]) = recsCells A rs ++ recCells A r := by
  unfold recsCells; simp
theorem recsCells_at (A : Value) : ∀ (rs : List Rec) (i j : Nat) (h : i < rs.length), j < 11 → (recsCells A rs)[i * 11 + j]? = (recCells A rs[i])[j]?
  | r :: rs, 0, j, _, hj => by
    show (recCells A r ++ recsCells A rs)[0 * 11 + j]? = _
    rw [List.getElem?_append_left (by simp only [recCells, List.length_cons, List.length_nil]; omega)]
    simp
  | r :: rs, i + 1, j, h, hj => by
    show (recCells A r ++ recsCells A rs)[(i + 1) * 11 + j]? = _
    have hl : (recCells A r).length = 11 := rfl
    rw [List.getElem?_append_right (by rw [hl]; omega), hl, show (i + 1) * 11 + j - 11 = i * 11 + j by omega]
    exact recsCells_at A rs i j (by simpa using h) hj

theorem Sg.bnd_nums {h : Sg.Hist} (hi : Sg.inBounds h = true) : (1 ≤ h.accs.length ∧ h.accs.length ≤ 8) ∧ 1 ≤ h.pers.length ∧ h.pers.length ≤ 6 := by
  unfold Sg.inBounds at hi
  simp only [Bool.and_eq_true, decide_eq_true_eq] at hi
  omega
/-- What is known of the closed periods so far. -/
def RecOk (w0 w : World) (es : List Sg.Ent) (bal tot : List Int) (r : Rec) : Prop :=
  BalIn w r.m 600 r.now ∧ bal = r.now ∧ tot = [r.t0, r.t1, r.t2, r.t3] ∧ ∃ aoE capE, r.eV = .slice aoE es.length capE ∧ EntsIn w0 aoE es
def RecsOk (w0 w : World) (ps : List (List Sg.Ent)) (bal tot : List (List Int)) (rs : List Rec) : Prop :=
  ∀ i (h : i < rs.length), ∃ (h1 : i < ps.length) (h2 : i < bal.length) (h3 : i < tot.length), RecOk w0 w ps[i] bal[i] tot[i] rs[i]
theorem RecsOk.kept {w0 w w' : World} {ps : List (List Sg.Ent)} {bal tot : List (List Int)} {rs : List Rec} (h : RecsOk w0 w ps bal tot rs) (hk : ∀ m c now, BalIn w m c now → BalIn w' m c now) : RecsOk w0 w' ps bal tot rs := fun i hi => by
  obtain ⟨h1, h2, h3, g1, g2⟩ := h i hi
  exact ⟨h1, h2, h3, hk _ _ _ g1, g2⟩
theorem RecsOk.push {w0 w : World} {ps : List (List Sg.Ent)} {bal tot : List (List Int)} {rs : List Rec} {k : Nat} {r : Rec} {now tt : List Int} (h : RecsOk w0 w ps bal tot rs) (hk : rs.length = k) (hb : bal.length = k) (ht : tot.length = k) (hp : k < ps.length) (hr : RecOk w0 w ps[k] now tt r) :
    RecsOk w0 w ps (bal ++ [now]) (tot ++ [tt]) (rs ++ [r]) := fun i hi => by
  rw [List.length_append, List.length_cons, List.length_nil] at hi
  by_cases e : i = k
  · subst e
    refine ⟨hp, by simp [hb], by simp [ht], ?_⟩
    have e1 : (bal ++ [now])[i]'(by simp [hb]) = now := by rw [List.getElem_append_right (by omega)]; simp
    have e2 : (tot ++ [tt])[i]'(by simp [ht]) = tt := by rw [List.getElem_append_right (by omega)]; simp
    have e3 : (rs ++ [r])[i]'(by simp; omega) = r := by rw [List.getElem_append_right (by omega)]; simp
    rw [e1, e2, e3]
    exact hr
  · obtain ⟨h1, h2, h3, g⟩ := h i (by omega)
    refine ⟨h1, by simp; omega, by simp; omega, ?_⟩
    rw [List.getElem_append_left h2, List.getElem_append_left h3, List.getElem_append_left (by omega)]
    exact g

/-- What Close holds at the head of its loop. -/
structure BkInv (w w1 wr : World) (h : Sg.Hist) (A : Value) (nA k m : Nat) (now : List Int) (bal tot : List (List Int)) (rs : List Rec) (vP : Value) : Prop where
  bel : Below w1.heap.size w1 wr
  box : wr.heap[w1.heap.size]? = some (.cells #[A, vP] 93 (0, 0))
  now_ : BalIn wr m (72 * k) now
  row : wr.ownsRow (w1.heap.size + 1) 116 11 vP k (recsCells A rs)
  len : rs.length = k
  recs : RecsOk w wr h.pers bal tot rs
  spec : ClSpec h nA k now bal tot
  big : w1.heap.size + 1 ≤ wr.heap.size

theorem balIn_not_row {w : World} {base : Nat} {v : Value} {k n m c : Nat} {xs now} (h : BalIn w m c now) (hr : w.ownsRow base 116 n v k xs) : v.ownBlock ≠ some m := by
  intro e
  obtain ⟨D, ⟨es, clock, h1, _⟩, _⟩ := h
  rcases hr.2 with ⟨rfl, _⟩ | ⟨g, cap, cur, rfl, hb, hg, _⟩
  · simp [Value.ownBlock] at e
  · simp only [Value.ownBlock, Option.some.injEq] at e
    subst e
    rw [h1] at hg
    simp at hg

/-- A book, as it lies in memory. -/
structure BkIn (w : World) (A : Value) (ao : Option Addr) (nP : Nat) (h : Sg.Hist) (rs : List Rec) (b : Nat) : Prop where
  at_ : ao = some ⟨b, 0, none⟩
  lt : b < w.heap.size
  cells : ∀ i (hi : i < rs.length) j, j < 11 → w.cell? ⟨b, i * 11 + j, none⟩ = (recCells A rs[i])[j]?
  len : rs.length = nP
  recs : RecsOk w w h.pers (Sg.balances h) (Sg.totals h) rs
  fineB : ∀ l ∈ Sg.balances h, l.length = h.accs.length ∧ ∀ v ∈ l, Sg.fits v = true
  fineT : ∀ l ∈ Sg.totals h, ∀ v ∈ l, Sg.fits v = true
theorem RecsOk.world {w0 w : World} {ps : List (List Sg.Ent)} {bal tot : List (List Int)} {rs : List Rec} (h : RecsOk w0 w ps bal tot rs) (hb : Below w0.heap.size w0 w) : RecsOk w w ps bal tot rs := fun i hi => by
  obtain ⟨h1, h2, h3, g1, g2, g3, ao, cap, g4, g5⟩ := h i hi
  exact ⟨h1, h2, h3, g1, g2, g3, ao, cap, g4, g5.below hb⟩

theorem BkInv.start {w w1 : World} {h : Sg.Hist} {A : Value} {nA : Nat} (hn : h.accs.length = nA) :
    BkInv w w1 ((w1.alloc (.cells #[A, nilV] 93)).alloc (.map #[] 0)) h A nA 0 (w1.heap.size + 1) (List.replicate nA 0) [] [] [] nilV := by
  have e1 : (w1.alloc (.cells #[A, nilV] 93)).heap.size = w1.heap.size + 1 := by simp
  refine ⟨((Below.refl _ _).alloc (Nat.le_refl _) _).alloc (by simp) _, ?_, ?_, World.ownsRow_nil _ _ _ _, rfl, fun i hi => absurd hi (by simp), ClSpec.start hn, by simp⟩
  · rw [Below.heap_alloc _ _ _ (by simp)]; exact heap_alloc_new w1 _
  · have := BalIn.made (w1.alloc (.cells #[A, nilV] 93)) nA
    rw [e1] at this
    exact this

theorem new_block2 (w : World) (o : Obj) (cs : Array Value) (t : TypeId) : ((w.alloc o).alloc (.cells cs t)).heap[w.heap.size + 1]? = some (.cells cs t (0, 0)) := by
  have := heap_alloc_new (w.alloc o) (.cells cs t)
  have e : (w.alloc o).heap.size = w.heap.size + 1 := by simp
  rw [e] at this
  exact this
/-- One period more. -/
theorem BkInv.next {w w1 wz w3 w5 : World} {h : Sg.Hist} {A : Value} {nA k m' gg cap' : Nat} {now' : List Int} {bal tot : List (List Int)} {rs : List Rec} {vP : Value} {r : Rec} {o1 o2 : Obj}
    (hbw1 : Below w1.heap.size w1 wz) (hb3 : Below wz.heap.size wz w3) (hltb : w1.heap.size < wz.heap.size) (hbox : w3.heap[w1.heap.size]? = some (.cells #[A, vP] 93 (0, 0))) (hrow : wz.ownsRow (w1.heap.size + 1) 116 11 vP k (recsCells A rs)) (hlen : rs.length = k) (hrecs : RecsOk w wz h.pers bal tot rs)
    (hlB : bal.length = k) (hlT : tot.length = k) (hk : k < h.pers.length) (hbn : BalIn w3 m' (72 * k + 72) now') (hk6 : k < 6) (hspec : ClSpec h nA (k + 1) now' (bal ++ [now']) (tot ++ [[r.t0, r.t1, r.t2, r.t3]])) (hr1 : r.m = m') (hr2 : r.now = now') (hr3 : ∃ aoE capE, r.eV = .slice aoE h.pers[k].length capE ∧ EntsIn w aoE h.pers[k])
    (hown : w5.ownsRow (w1.heap.size + 1) 116 11 (.slice (some ⟨gg, 0, none⟩) (k + 1) cap') (k + 1) (recsCells A rs ++ recCells A r)) (hg : ((w3.alloc o1).alloc o2).grownBy w5 vP.ownBlock) :
    BkInv w w1 (w5.setCell ⟨w1.heap.size, 1, none⟩ (.slice (some ⟨gg, 0, none⟩) (k + 1) cap')) h A nA (k + 1) m' now' (bal ++ [now']) (tot ++ [[r.t0, r.t1, r.t2, r.t3]]) (rs ++ [r]) (.slice (some ⟨gg, 0, none⟩) (k + 1) cap') := by
  have hs3 := hb3.size
  have hrow3 := ownsRow_below hrow hb3
  have hbA : Below w3.heap.size w3 ((w3.alloc o1).alloc o2) := ((Below.refl _ _).alloc (Nat.le_refl _) _).alloc (by simp) _
  have hne : ∀ k', vP.ownBlock = some k' → w1.heap.size + 1 ≤ k' ∧ k' < w3.heap.size := hrow3.lt
  have key : ∀ j, j < w3.heap.size → some j ≠ vP.ownBlock → j ≠ w1.heap.size → (w5.setCell ⟨w1.heap.size, 1, none⟩ (.slice (some ⟨gg, 0, none⟩) (k + 1) cap')).heap[j]? = w3.heap[j]? := fun j h1 h2 h3 => by
    rw [Below.heap_setCell _ _ _ _ h3, hg.block j (by simp; omega) h2, hbA.block j h1]
  have keyB : ∀ m c nw, BalIn w3 m c nw → BalIn (w5.setCell ⟨w1.heap.size, 1, none⟩ (.slice (some ⟨gg, 0, none⟩) (k + 1) cap')) m c nw := fun m c nw hb => by
    refine hb.block (key m hb.lt (fun e => balIn_not_row hb hrow3 e.symm) (fun e => ?_))
    obtain ⟨D, ⟨es, clock, h1, _⟩, _⟩ := hb
    rw [e, hbox] at h1
    simp at h1
  have hb5 : w5.heap[w1.heap.size]? = some (.cells #[A, vP] 93 (0, 0)) := by
    rw [hg.block _ (by simp; omega) (fun e => by have := (hne _ e.symm).1; omega), hbA.block _ (by omega)]
    exact hbox
  have hs5 := hg.size
  refine ⟨?_, ?_, ?_, ?_, by simp [hlen], ?_, hspec, ?_⟩
  · refine Below.setCell (B := w1.heap.size) (p := ⟨w1.heap.size, 1, none⟩) ?_ (Nat.le_refl _) _
    refine Below.grown (B := w1.heap.size) ?_ hg (by simp; omega) (fun k' hk' => by have := (hne _ hk').1; omega)
    exact ((hbw1.trans (hb3.mono (by omega))).alloc (by omega) _).alloc (by simp; omega) _
  · rw [heap_setCell_same _ _ _ _ _ _ hb5]; rfl
  · exact (keyB _ _ _ hbn).mono (by omega)
  · have : recsCells A (rs ++ [r]) = recsCells A rs ++ recCells A r := recsCells_snoc A rs r
    rw [this]
    exact ownsRow_setCell_below hown (by simp) _
  · refine RecsOk.push ((hrecs.kept (fun m c nw hb => hb.below hb3)).kept keyB) hlen hlB hlT hk ⟨?_, hr2.symm, rfl, hr3⟩
    rw [hr1, hr2]
    exact (keyB _ _ _ hbn).mono (by omega)
  · simp at hs5; simp; omega

/-- The entries' lists of the records are those that were handed in. -/
def EvAt (w : World) (aoP : Option Addr) (rs : List Rec) : Prop := ∀ i (h : i < rs.length), ∃ b off, aoP = some ⟨b, off, none⟩ ∧ w.cell? ⟨b, off + i, none⟩ = some rs[i].eV
theorem EvAt.push {w : World} {b off : Nat} {rs : List Rec} {r : Rec} {k : Nat} (h : EvAt w (some ⟨b, off, none⟩) rs) (hk : rs.length = k) (hr : w.cell? ⟨b, off + k, none⟩ = some r.eV) : EvAt w (some ⟨b, off, none⟩) (rs ++ [r]) := fun i hi => by
  rw [List.length_append, List.length_cons, List.length_nil] at hi
  by_cases e : i = k
  · subst e
    refine ⟨b, off, rfl, ?_⟩
    rw [List.getElem_append_right (by omega)]
    simpa [hk] using hr
  · obtain ⟨b', off', e1, e2⟩ := h i (by omega)
    refine ⟨b', off', e1, ?_⟩
    rw [List.getElem_append_left (by omega)]
    exact e2

set_option maxHeartbeats 6400000 in
/-- Close. -/
theorem bClose_any (h : Sg.Hist) (aoA aoP : Option Addr) (nA nP capA capP : Nat) (w : World) (hH : HistIn w aoA aoP nA nP h) (hnc : nA ≤ capA) (hcap : capA ≤ 9223372036854775807) :
    Calls Try.prog 49 #[.agg #[.slice aoA nA capA, .slice aoP nP capP]] w fun e w' =>
      Below w.heap.size w w' ∧ ((Sg.closeErr h ≠ 0 ∧ e = .returned (.tuple #[.agg #[nilV, nilV], .int .i64 (Sg.closeErr h)])) ∨
        (Sg.inBounds h = true ∧ Sg.closeErr h = 0 ∧ ∃ ao cap rs b, e = .returned (.tuple #[.agg #[.slice aoA nA capA, .slice ao nP cap], .int .i64 0]) ∧ nP ≤ cap ∧ BkIn w' (.slice aoA nA capA) ao nP h rs b ∧ EvAt w aoP rs)) := by
  have HH : Hid (HistIn w aoA aoP nA nP h) := hH
  have hin := fun W (hb : Below w.heap.size w W) => inBounds_any h aoA aoP nA nP capA capP W hH.lenA hH.lenP hnc hcap (hH.accs.below hb) (hH.pers.below hb) hH.sizA hH.sizP
  have hbx : Below w.heap.size w ((w.alloc (.cells #[.slice aoA nA capA, .slice aoP nP capP] 41)).alloc (.cells #[nilV, nilV] 93)) := ((Below.refl _ _).alloc (Nat.le_refl _) _).alloc (by simp) _
  have HX : Hid (((w.alloc (.cells #[.slice aoA nA capA, .slice aoP nP capP] 41)).alloc (.cells #[nilV, nilV] 93)).heap[w.heap.size]? = some (.cells #[.slice aoA nA capA, .slice aoP nP capP] 41 (0, 0)) ∧
      ((w.alloc (.cells #[.slice aoA nA capA, .slice aoP nP capP] 41)).alloc (.cells #[nilV, nilV] 93)).heap[w.heap.size + 1]? = some (.cells #[nilV, nilV] 93 (0, 0))) := by
    refine ⟨?_, ?_⟩
    · rw [Below.heap_alloc _ _ _ (by simp)]; exact heap_alloc_new w _
    · have := heap_alloc_new (w.alloc (.cells #[.slice aoA nA capA, .slice aoP nP capP] 41)) (.cells #[nilV, nilV] 93)
      simpa using this
  clear hH
  obtain ⟨j0, ji, jz0, jz1, jz2⟩ := info_parts Try.infoPer
  by_cases hib : Sg.inBounds h = true
  · rw [hib] at hin
    have HIB : Hid (Sg.inBounds h = true) := hib
    clear hib
    have hmm := @run_makeMap Try.prog
    go_enter Try.func49, Try.ntmps49
    go_wp2_with fail
    refine (hin _ hbx).mono ?_
    rintro e w1 ⟨rfl, hb1⟩
    have hs1 := hb1.size
    have HX1 : Hid (w1.heap[w.heap.size]? = some (.cells #[.slice aoA nA capA, .slice aoP nP capP] 41 (0, 0)) ∧ w1.heap[w.heap.size + 1]? = some (.cells #[nilV, nilV] 93 (0, 0))) := ⟨(hb1.block _ (by simp; omega)).trans HX.out.1, (hb1.block _ (by simp)).trans HX.out.2⟩
    have y0 : w1.cell? ⟨w.heap.size, 0, none⟩ = some (.slice aoA nA capA) := by (rw [cell_of_row w1 _ 0 _ _ _ HX1.out.1]; rfl)
    have y1 : w1.cell? ⟨w.heap.size, 1, none⟩ = some (.slice aoP nP capP) := by (rw [cell_of_row w1 _ 1 _ _ _ HX1.out.1]; rfl)
    have hlt1 : w.heap.size < w1.heap.size := by (simp at hs1; omega)
    have HI0 : Hid (BkInv w w1 ((w1.alloc (.cells #[.slice aoA nA capA, nilV] 93)).alloc (.map #[] 0)) h (.slice aoA nA capA) nA 0 (w1.heap.size + 1) (List.replicate nA 0) [] [] [] nilV) := BkInv.start HH.out.lenA
    have hb01 : Below w.heap.size w w1 := hbx.trans (hb1.mono (by simp; omega))
    have hs1' : w.heap.size + 2 ≤ w1.heap.size := by simp at hs1; omega
    clear hb1 hbx HX hin hs1
    go_wp2_with fail
    go_loopw [5, 21] (fun v i wr => ∃ k : Nat, k ≤ nP ∧ i = .int .i64 (k : Int) ∧ ∃ m now bal tot rs vP, v = .map (some m) ∧ Hid (BkInv w w1 wr h (.slice aoA nA capA) nA k m now bal tot rs vP) ∧ Hid (EvAt w aoP rs)) (fun _ i _ => nP - (intOf i).toNat)
    case atStart => exact ⟨0, by omega, rfl, _, _, _, _, _, _, rfl, HI0, fun i hi => absurd hi (by simp)⟩
    case round =>
      obtain ⟨k, hk, rfl, m, now, bal, tot, rs, vP, rfl, HI, HEv⟩ := hrel
      obtain ⟨wz, ewz⟩ : ∃ z : World, z = wr := ⟨_, rfl⟩
      subst ewz
      have hbw1 := HI.out.bel
      have hb0z : Below w.heap.size w wz := hb01.trans (hbw1.mono (by omega))
      have hsz := hbw1.size
      have z0 : wz.cell? ⟨w.heap.size, 0, none⟩ = some (.slice aoA nA capA) := (hbw1.cell (p := ⟨w.heap.size, 0, none⟩) hlt1).trans y0
      have z1 : wz.cell? ⟨w.heap.size, 1, none⟩ = some (.slice aoP nP capP) := (hbw1.cell (p := ⟨w.heap.size, 1, none⟩) hlt1).trans y1
      have hX2 := (hbw1.block (w.heap.size + 1) (by omega)).trans HX1.out.2
      clear HI0 hmm y0 y1
      by_cases hlt : k < nP
      · have hka : k < h.pers.length := by rw [HH.out.lenP]; exact hlt
        obtain ⟨bP, offP, eP, hbP0, aoE, capE, hd, hE⟩ := HH.out.pers.cell (k := k) hka
        have hc := (hb0z.cell (p := ⟨bP, offP + k, none⟩) hbP0).trans hd
        have hbP : bP < wz.heap.size := by omega
        subst eP
        have HEE : Hid (EntsIn w aoE h.pers[k]) := hE
        obtain ⟨hfp1, hfp2⟩ := Sg.bnd_pers HIB.out h.pers[k] (List.getElem_mem _)
        have HBx : Hid (BalIn wz m (72 * k) now) := HI.out.now_
        obtain ⟨hna8, hnp6⟩ : nA ≤ 8 ∧ nP ≤ 6 := by
          have := Sg.bnd_nums HIB.out
          rw [HH.out.lenA, HH.out.lenP] at this
          omega
        have hcall := fun W (hb : Below wz.heap.size wz W) => closePer_any h.accs h.pers[k] now aoA aoE nA capA h.pers[k].length capE m (72 * k) W HH.out.lenA hna8 (HH.out.accs.below (hb0z.trans (hb.mono hb0z.size))) (fun a ha => (Sg.bnd_accs HIB.out a ha).2) rfl hfp1 (HEE.out.below (hb0z.trans (hb.mono hb0z.size)))
          (fun e he => ⟨(hfp2 e he).2, fun p hp => HH.out.sizQ h.pers[k] (List.getElem_mem _) e he p hp⟩) HI.out.spec.lenN HI.out.spec.fitN (HBx.out.below hb) (by omega)
        have HBad : Hid (Sg.perErr h.accs h.pers[k] now ≠ 0 → Sg.closeErr h = Sg.perErr h.accs h.pers[k] now) := fun e => by
          unfold Sg.perErr at e ⊢
          by_cases e1 : (Sg.entsTo h.accs h.pers[k] now [0, 0, 0, 0]).1 ≠ 0
          · rw [if_pos e1]; exact HI.out.spec.bad hka HIB.out e1
          · rw [if_neg e1] at e ⊢
            by_cases e2 : (Sg.entsTo h.accs h.pers[k] now [0, 0, 0, 0]).2.2.any (fun v => !Sg.fits v) = true
            · rw [if_pos e2]
              have e1' : (Sg.entsTo h.accs h.pers[k] now [0, 0, 0, 0]).1 = 0 := by omega
              exact HI.out.spec.over (now' := (Sg.entsTo h.accs h.pers[k] now [0, 0, 0, 0]).2.1) (tt := (Sg.entsTo h.accs h.pers[k] now [0, 0, 0, 0]).2.2) hka HIB.out (Prod.ext e1' rfl) e2
            · rw [if_neg e2] at e; exact absurd rfl e
        have HNx : Hid (∀ now' t0 t1 t2 t3, Sg.entsTo h.accs h.pers[k] now [0, 0, 0, 0] = (0, now', [t0, t1, t2, t3]) → (∀ v ∈ [t0, t1, t2, t3], Sg.fits v = true) → (∀ v ∈ now', Sg.fits v = true) → now'.length = nA → ClSpec h nA (k + 1) now' (bal ++ [now']) (tot ++ [[t0, t1, t2, t3]])) :=
          fun now' t0 t1 t2 t3 e1 e2 e3 e4 => HI.out.spec.next hka e1 e2 e4 e3 rfl
        have HLen : Hid (bal.length = k ∧ tot.length = k) := ⟨HI.out.spec.lenB, HI.out.spec.lenT⟩
        have hBox := HI.out.box
        have q0 : wz.cell? ⟨w1.heap.size, 0, none⟩ = some (.slice aoA nA capA) := by rw [cell_of_row wz _ 0 _ _ _ hBox]; rfl
        have q1 : wz.cell? ⟨w1.heap.size, 1, none⟩ = some vP := by rw [cell_of_row wz _ 1 _ _ _ hBox]; rfl
        have HBox : Hid (wz.heap[w1.heap.size]? = some (.cells #[.slice aoA nA capA, vP] 93 (0, 0))) := hBox
        have HRow : Hid (wz.ownsRow (w1.heap.size + 1) 116 11 vP k (recsCells (.slice aoA nA capA) rs)) := HI.out.row
        have HRecs : Hid (RecsOk w wz h.pers bal tot rs) := HI.out.recs
        have hlen := HI.out.len
        have hbig := HI.out.big
        have HEk : Hid (∃ es, es = h.pers[k]) := ⟨_, rfl⟩
        obtain ⟨ne, hne⟩ : ∃ ne, h.pers[k].length = ne := ⟨_, rfl⟩
        rw [hne] at hc hcall hfp1
        have HNe : Hid (h.pers[k].length = ne) := hne
        have HD : Hid (w.cell? ⟨bP, offP + k, none⟩ = some (.slice aoE ne capE)) := by show _ = _; rw [← hne]; exact hd
        obtain ⟨pe, hpe⟩ : ∃ pe, Sg.perErr h.accs h.pers[k] now = pe := ⟨_, rfl⟩
        simp only [hpe] at hcall HBad
        have i1 : (0 : Int) ≤ (k : Int) := by omega
        have i2 : (k : Int) < (nP : Int) := by omega
        have hltz : w.heap.size < wz.heap.size := by omega
        have hltb : w1.heap.size < wz.heap.size := by omega
        clear hne hpe hd hE HI hBox HEk hfp2
        go_wp2_with fail
        refine (hcall _ ((Below.refl _ _).alloc (Nat.le_refl _) _)).mono ?_
        rintro e w3 ⟨hb3, hcase⟩
        have hb3' : Below wz.heap.size wz w3 := ((Below.refl _ _).alloc (Nat.le_refl _) (.cells #[.slice aoE ne capE] 47)).trans (hb3.mono (by simp))
        have hs3 := hb3'.size
        have e3 : (wz.alloc (.cells #[.slice aoE ne capE] 47)).heap.size = wz.heap.size + 1 := by simp
        rw [e3] at hcase
        have hX3 := (hb3'.block (w.heap.size + 1) (by omega)).trans hX2
        have r0 : w3.cell? ⟨w.heap.size + 1, 0, none⟩ = some nilV := by rw [cell_of_row w3 _ 0 _ _ _ hX3]; rfl
        have r1 : w3.cell? ⟨w.heap.size + 1, 1, none⟩ = some nilV := by rw [cell_of_row w3 _ 1 _ _ _ hX3]; rfl
        have s0 : w3.frozen? ⟨w.heap.size + 1, 0, none⟩ = false := by simp [World.frozen?, hX3]
        have s1 : w3.frozen? ⟨w.heap.size + 1, 1, none⟩ = false := by simp [World.frozen?, hX3]
        have hlt3 : w.heap.size + 1 < w3.heap.size := by omega
        have hb03 : Below w.heap.size w w3 := hb0z.trans (hb3'.mono (by omega))
        clear hcall hb3
        rcases hcase with ⟨hz, rfl⟩ | ⟨hz, now', t0, t1, t2, t3, g1, g2, g3, g4, g5, rfl⟩
        · have HE : Hid (Sg.closeErr h = pe) := HBad.out hz
          have HZ : Hid (pe ≠ 0) := hz
          have qz : (pe != 0) = true := by rw [bne_iff_ne]; exact hz
          unfold zeroPer
          clear hz HBad HNx q0 q1
          go_wp2_with fail
          refine bodyPost_ret (v := .tuple #[.agg #[nilV, nilV], .int .i64 pe]) (by simp [results, Try.results49, go_sem, r0, r1, hlt3]) rfl ⟨(below_put2 hb03 (by omega) _ _).alloc (by simp; omega) _, Or.inl ⟨by rw [HE.out]; exact HZ.out, by rw [HE.out]⟩⟩
        · subst hz
          have HNx' := HNx.out now' t0 t1 t2 t3 g1 g2 g3 g4
          have HNxt : Hid (ClSpec h nA (k + 1) now' (bal ++ [now']) (tot ++ [[t0, t1, t2, t3]])) := HNx'
          have HBn : Hid (BalIn w3 (wz.heap.size + 1 + 1) (72 * k + 72) now') := g5
          clear HNx HNx' HBad g1 g2 g3 g4 g5 r0 r1 s0 s1
          have k0 : w3.cell? ⟨w1.heap.size, 0, none⟩ = some (.slice aoA nA capA) := (hb3'.cell (p := ⟨w1.heap.size, 0, none⟩) hltb).trans q0
          have k1 : w3.cell? ⟨w1.heap.size, 1, none⟩ = some vP := (hb3'.cell (p := ⟨w1.heap.size, 1, none⟩) hltb).trans q1
          have HBox3 : Hid (w3.heap[w1.heap.size]? = some (.cells #[.slice aoA nA capA, vP] 93 (0, 0))) := (hb3'.block _ hltb).trans HBox.out
          have hltb3 : w1.heap.size < w3.heap.size := by omega
          clear q0 q1
          have HRow3 : Hid (w3.ownsRow (w1.heap.size + 1) 116 11 vP k (recsCells (.slice aoA nA capA) rs)) := ownsRow_below HRow.out hb3'
          go_wp2_with (at_builtin; refine wpList_append_lies _ rfl _ _ 91 rfl (w1.heap.size + 1) 116 j0 (.agg #[.slice none 0 0, .slice none 0 0, .map none, .int .u64 0, .int .u64 0, .int .u64 0, .int .u64 0, .int .u64 0, .int .u64 0, .int .u64 0, .int .u64 0]) 11 120 Try.underlying91 ji jz0 jz1 jz2 rfl (by decide) vP k (recsCells (.slice aoA nA capA) rs) rfl ((HRow3.out.alloc _).alloc _) ⟨w3.heap.size + 1, 0, none⟩ 1 1 (recCells (.slice aoA nA capA) ⟨.slice aoE ne capE, wz.heap.size + 1 + 1, now', t0, t1, t2, t3⟩) rfl rfl ?c1 ?c2 ?c3 ?c4 ?c5 ?c6 (w3.heap.size + 2) ?c7 ?_)
          case c1 => exact World.news_of_block (cs := (recCells (.slice aoA nA capA) ⟨.slice aoE ne capE, wz.heap.size + 1 + 1, now', t0, t1, t2, t3⟩).toArray) (t := 116) (fr := (0, 0)) (new_block2 w3 _ _ _)
          case c2 => intro u hu; simp [recCells] at hu; rcases hu with rfl | rfl | rfl | rfl | rfl | rfl | rfl | rfl | rfl | rfl | rfl <;> rfl
          case c3 => omega
          case c4 => unfold maxLen; omega
          case c5 => omega
          case c6 => simp; omega
          case c7 => simp
          intro gg cap' w5 hown5 hgrow hat5 hlt5
          have HIn : Hid (BkInv w w1 (w5.setCell ⟨w1.heap.size, 1, none⟩ (.slice (some ⟨gg, 0, none⟩) (k + 1) cap')) h (.slice aoA nA capA) nA (k + 1) (wz.heap.size + 1 + 1) now' (bal ++ [now']) (tot ++ [[t0, t1, t2, t3]]) (rs ++ [⟨.slice aoE ne capE, wz.heap.size + 1 + 1, now', t0, t1, t2, t3⟩]) (.slice (some ⟨gg, 0, none⟩) (k + 1) cap')) :=
            BkInv.next (r := ⟨.slice aoE ne capE, wz.heap.size + 1 + 1, now', t0, t1, t2, t3⟩) hbw1 hb3' hltb HBox3.out HRow.out hlen HRecs.out HLen.out.1 HLen.out.2 hka HBn.out (by omega) HNxt.out rfl rfl ⟨aoE, capE, by rw [HNe.out], HEE.out⟩ hown5 hgrow
          have HEv2 : Hid (EvAt w (some ⟨bP, offP, none⟩) (rs ++ [⟨.slice aoE ne capE, wz.heap.size + 1 + 1, now', t0, t1, t2, t3⟩])) := HEv.out.push hlen HD.out
          have hrl := HRow3.out.lt
          have hB5 : w5.heap[w1.heap.size]? = some (.cells #[.slice aoA nA capA, vP] 93 (0, 0)) := by
            rw [hgrow.block _ (by simp; omega) (fun e => by have := (hrl _ e.symm).1; omega)]
            rw [Below.heap_alloc _ _ _ (by simp; omega), Below.heap_alloc _ _ _ hltb3]
            exact HBox3.out
          have c0 : w5.cell? ⟨w1.heap.size, 1, none⟩ = some vP := by rw [cell_of_row w5 _ 1 _ _ _ hB5]; rfl
          have c1 : w5.frozen? ⟨w1.heap.size, 1, none⟩ = false := by simp [World.frozen?, hB5]
          have c2 : w5.cell? ⟨w3.heap.size, 2, none⟩ = some (.map (some (wz.heap.size + 1 + 1))) := by
            have e1 := hgrow.cell_far ⟨w3.heap.size, 2, none⟩ (by simp; omega) (fun e => by have := (hrl _ e.symm).2; simp at this)
            rw [e1, World.cell?_alloc_past _ _ _ (by simp)]
            simp
          have hne13 : w3.heap.size ≠ w1.heap.size := by omega
          clear hown5 hgrow hat5 hB5 HBox3 HRow3 HRow HRecs HBn hrl k0 k1
          go_wp2_with fail
          go_roundw
          case rel => exact ⟨k + 1, by omega, by go_num, _, _, _, _, _, _, rfl, HIn, HEv2⟩
          case measure => simp [intOf]; omega
      · have hkn : k = h.pers.length := by rw [HH.out.lenP]; omega
        have hkP : k = nP := by omega
        subst hkP
        have hdone : Sg.closeErr h = 0 ∧ Sg.balances h = bal ∧ Sg.totals h = tot := by
          have := HI.out.spec
          rw [hkn] at this
          exact this.done HIB.out
        have hn1 : 1 ≤ k := by
          have := Sg.bnd_nums HIB.out
          rw [HH.out.lenP] at this
          omega
        have hrow := HI.out.row
        have hBox := HI.out.box
        obtain ⟨b, cap, hvP, hbk, hcc, hcells⟩ : ∃ b cap, vP = .slice (some ⟨b, 0, none⟩) k cap ∧ b < wz.heap.size ∧ k ≤ cap ∧ (w1.heap.size + 1 ≤ b ∧ ∀ i (hi : i < rs.length) j, j < 11 → wz.cell? ⟨b, i * 11 + j, none⟩ = (recCells (.slice aoA nA capA) rs[i])[j]?) := by
          have hk2 := hrow
          rcases hrow.2 with ⟨_, h0⟩ | ⟨g, cap, cur, rfl, hbg, hh, hle, hm, _, _⟩
          · omega
          · refine ⟨g, cap, rfl, lt_of_block hh, by omega, hbg, fun i hi j hj => ?_⟩
            have hlen := HI.out.len
            have := hk2.cellAt (i * 11 + j) (by omega)
            rw [this]
            exact recsCells_at _ rs i j hi hj
        subst hvP
        have q0 : wz.cell? ⟨w1.heap.size, 0, none⟩ = some (.slice aoA nA capA) := by rw [cell_of_row wz _ 0 _ _ _ hBox]; rfl
        have q1 : wz.cell? ⟨w1.heap.size, 1, none⟩ = some (.slice (some ⟨b, 0, none⟩) k cap) := by rw [cell_of_row wz _ 1 _ _ _ hBox]; rfl
        have r0 : wz.cell? ⟨w.heap.size + 1, 0, none⟩ = some nilV := by rw [cell_of_row wz _ 0 _ _ _ hX2]; rfl
        have r1 : wz.cell? ⟨w.heap.size + 1, 1, none⟩ = some nilV := by rw [cell_of_row wz _ 1 _ _ _ hX2]; rfl
        have s0 : wz.frozen? ⟨w.heap.size + 1, 0, none⟩ = false := by simp [World.frozen?, hX2]
        have s1 : wz.frozen? ⟨w.heap.size + 1, 1, none⟩ = false := by simp [World.frozen?, hX2]
        have HBk : Hid (BkIn ((wz.setCell ⟨w.heap.size + 1, 0, none⟩ (.slice aoA nA capA)).setCell ⟨w.heap.size + 1, 1, none⟩ (.slice (some ⟨b, 0, none⟩) k cap)) (.slice aoA nA capA) (some ⟨b, 0, none⟩) k h rs b) := by
          have hfar : ∀ j, j ≠ w.heap.size + 1 → ((wz.setCell ⟨w.heap.size + 1, 0, none⟩ (.slice aoA nA capA)).setCell ⟨w.heap.size + 1, 1, none⟩ (.slice (some ⟨b, 0, none⟩) k cap)).heap[j]? = wz.heap[j]? := fun j hj => by
            rw [Below.heap_setCell _ _ _ _ hj, Below.heap_setCell _ _ _ _ hj]
          have hbe := below_put2 (i := 0) (j := 1) hb0z (by omega : w.heap.size ≤ w.heap.size + 1) (.slice aoA nA capA) (.slice (some ⟨b, 0, none⟩) k cap)
          refine ⟨rfl, by simpa using hbk, fun i hi j hj => ?_, HI.out.len, ?_, ?_, ?_⟩
          · rw [World.cell?_of_block (w := wz) (hfar b (by omega))]
            exact hcells.2 i hi j hj
          · rw [hdone.2.1, hdone.2.2]
            refine RecsOk.world (HI.out.recs.kept (fun m c nw hb => hb.block (hfar m (fun e => ?_)))) hbe
            obtain ⟨D, ⟨es, clock, h1, _⟩, _⟩ := hb
            rw [e, hX2] at h1
            simp at h1
          · rw [hdone.2.1, HH.out.lenA]; exact HI.out.spec.fineB
          · rw [hdone.2.2]; exact fun l hl => (HI.out.spec.fineT l hl).2
        have HC0 : Hid (Sg.closeErr h = 0) := hdone.1
        clear HI hrow hBox hcells hdone hkn
        go_wp2_with fail
        refine bodyPost_ret (v := .tuple #[.agg #[.slice aoA nA capA, .slice (some ⟨b, 0, none⟩) k cap], .int .i64 0]) (by simp [results, Try.results49, go_sem, r0, r1]) rfl ⟨below_put2 hb0z (by omega) _ _, Or.inr ⟨HIB.out, HC0.out, some ⟨b, 0, none⟩, cap, rs, b, rfl, hcc, HBk.out, HEv.out⟩⟩
  · have hib' : Sg.inBounds h = false := Bool.eq_false_iff.2 hib
    rw [hib'] at hin
    have HE : Hid (Sg.closeErr h = 1) := by show _ = _; unfold Sg.closeErr; rw [if_neg (by rw [hib']; simp)]
    clear hib hib'
    go_enter Try.func49, Try.ntmps49
    go_wp2_with fail
    refine (hin _ hbx).mono ?_
    rintro e w1 ⟨rfl, hb1⟩
    have hX1 := (hb1.block (w.heap.size + 1) (by simp)).trans HX.out.2
    have a0 : w1.cell? ⟨w.heap.size + 1, 0, none⟩ = some nilV := by (rw [cell_of_row w1 _ 0 _ _ _ hX1]; rfl)
    have a1 : w1.cell? ⟨w.heap.size + 1, 1, none⟩ = some nilV := by (rw [cell_of_row w1 _ 1 _ _ _ hX1]; rfl)
    have f0 : w1.frozen? ⟨w.heap.size + 1, 0, none⟩ = false := by (simp [World.frozen?, hX1])
    have f1 : w1.frozen? ⟨w.heap.size + 1, 1, none⟩ = false := by (simp [World.frozen?, hX1])
    go_wp2_with fail
    have hbe := hbx.trans (hb1.mono (by simp; omega))
    refine bodyPost_ret (v := .tuple #[.agg #[nilV, nilV], .int .i64 1]) (by simp [results, Try.results49, go_sem, a0, a1]) rfl ⟨below_put2 hbe (by omega) _ _, Or.inl ⟨by rw [HE.out]; decide, by rw [HE.out]⟩⟩
end Go.Proofs.Ytoadiibfmcjgaaa
