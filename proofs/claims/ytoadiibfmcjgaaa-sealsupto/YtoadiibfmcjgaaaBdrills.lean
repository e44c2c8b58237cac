/-
  THE WALK of signetref.Books.Drills: and how closed books lie in memory.
-/
import Derived.Test.YtoadiibfmcjgaaaLeaf
namespace Go.Proofs.Ytoadiibfmcjgaaa
open Go.RowKit
set_option maxRecDepth 100000

theorem Try.infoDrl : (Try.prog.info? 179).map (fun i => (i.zero, i.size, i.bytes)) = some (some (.agg #[.int .i64 0, .int .i64 0, .int .i64 0, .int .i64 0]), 4, 32) := by kernel_rfl

/-- Drills, cell by cell. -/
def drlCells (ds : List Sg.Drl) : List Value := ds.flatMap fun d => [.int .i64 (d.ent : Int), .int .i64 (d.place : Int), .int .i64 d.acct, .int .i64 d.amt]
theorem drlCells_length : ∀ ds, (drlCells ds).length = ds.length * 4
  | [] => rfl
  | d :: ds => by simp only [drlCells, List.flatMap_cons, List.length_append, List.length_cons, List.length_nil]; have := drlCells_length ds; unfold drlCells at this; rw [this]; omega
theorem drlCells_snoc (ds : List Sg.Drl) (d : Sg.Drl) : drlCells (ds ++ [d]) = drlCells ds ++ [.int .i64 (d.ent : Int), .int .i64 (d.place : Int), .int .i64 d.acct, .int .i64 d.amt] := by
  unfold drlCells; rw [List.flatMap_append]; simp
theorem drlCells_get : ∀ (ds : List Sg.Drl) (i : Nat) (h : i < ds.length), (drlCells ds)[i * 4]? = some (.int .i64 (ds[i].ent : Int)) ∧ (drlCells ds)[i * 4 + 1]? = some (.int .i64 (ds[i].place : Int)) ∧ (drlCells ds)[i * 4 + 2]? = some (.int .i64 ds[i].acct) ∧ (drlCells ds)[i * 4 + 3]? = some (.int .i64 ds[i].amt)
  | d :: ds, 0, _ => ⟨rfl, rfl, rfl, rfl⟩
  | d :: ds, i + 1, h => by
    have := drlCells_get ds i (by simpa using h)
    have e : drlCells (d :: ds) = [.int .i64 (d.ent : Int), .int .i64 (d.place : Int), .int .i64 d.acct, .int .i64 d.amt] ++ drlCells ds := rfl
    rw [e, List.getElem?_append_right (by simp; omega), List.getElem?_append_right (by simp; omega), List.getElem?_append_right (by simp; omega), List.getElem?_append_right (by simp; omega)]
    simpa [show (i + 1) * 4 - 4 = i * 4 by omega, show (i + 1) * 4 + 1 - 4 = i * 4 + 1 by omega, show (i + 1) * 4 + 2 - 4 = i * 4 + 2 by omega, show (i + 1) * 4 + 3 - 4 = i * 4 + 3 by omega] using this
/-- A list of drills that is the call's own. -/
def OwnDrls (w : World) (base : Nat) (v : Value) (ds : List Sg.Drl) : Prop := w.ownsRow base 179 4 v ds.length (drlCells ds)
theorem OwnDrls.below {w w' : World} {base : Nat} {v : Value} {ds : List Sg.Drl} (h : OwnDrls w base v ds) (hb : Below w.heap.size w w') : OwnDrls w' base v ds := ownsRow_below h hb
theorem OwnDrls.shape {w : World} {base : Nat} {v : Value} {ds : List Sg.Drl} (h : OwnDrls w base v ds) : ∃ ao cap, v = .slice ao ds.length cap ∧ DrlsIn w ao ds := by
  have hk := h
  rcases h.2 with ⟨rfl, h0⟩ | ⟨g, cap, cur, rfl, _, hh, hle, hm, _, _⟩
  · exact ⟨none, 0, by rw [h0], Or.inl h0⟩
  · refine ⟨_, cap, rfl, Or.inr ⟨g, 0, rfl, lt_of_block hh, fun i hi => ?_⟩⟩
    obtain ⟨a1, a2, a3, a4⟩ := drlCells_get ds i hi
    unfold DrlAt
    simp only [Nat.zero_add]
    rw [World.ownsRow.cellAt hk (i * 4) (by omega), World.ownsRow.cellAt hk (i * 4 + 1) (by omega), World.ownsRow.cellAt hk (i * 4 + 2) (by omega), World.ownsRow.cellAt hk (i * 4 + 3) (by omega)]
    exact ⟨a1, a2, a3, a4⟩

namespace Sg
theorem drillsIn_append (ac : List Acc) (line : Int) (i : Nat) : ∀ (p1 p2 : List Pst) (j : Nat), drillsIn ac line i j (p1 ++ p2) = drillsIn ac line i j p1 ++ drillsIn ac line i (j + p1.length) p2
  | [], p2, j => rfl
  | p :: p1, p2, j => by
    simp only [List.cons_append, drillsIn, List.length_cons]
    rw [drillsIn_append ac line i p1 p2 (j + 1), show j + 1 + p1.length = j + (p1.length + 1) by omega]
    split <;> simp
theorem drillsFrom_append (ac : List Acc) (line : Int) : ∀ (e1 e2 : List Ent) (i : Nat), drillsFrom ac line i (e1 ++ e2) = drillsFrom ac line i e1 ++ drillsFrom ac line (i + e1.length) e2
  | [], e2, i => rfl
  | e :: e1, e2, i => by
    simp only [List.cons_append, drillsFrom, List.length_cons]
    rw [drillsFrom_append ac line e1 e2 (i + 1), show i + 1 + e1.length = i + (e1.length + 1) by omega, List.append_assoc]
/-- The drills of the first i entries, and of the first j postings of the next. -/
def drTo (ac : List Acc) (line : Int) (es : List Ent) (i j : Nat) (ps : List Pst) : List Drl := drillsFrom ac line 0 (es.take i) ++ drillsIn ac line i 0 (ps.take j)
theorem drTo_zero (ac : List Acc) (line : Int) (es : List Ent) (i : Nat) (ps : List Pst) : drTo ac line es i 0 ps = drillsFrom ac line 0 (es.take i) := by unfold drTo; simp [drillsIn]
theorem drTo_succ (ac : List Acc) (line : Int) (es : List Ent) (i j : Nat) (ps : List Pst) (h : j < ps.length) : drTo ac line es i (j + 1) ps = drTo ac line es i j ps ++ (if lineOf ac ps[j].acct = line then [⟨i, j, ps[j].acct, ps[j].amt⟩] else []) := by
  unfold drTo
  rw [List.take_succ_eq_append_getElem h, drillsIn_append, List.append_assoc]
  simp only [drillsIn, List.length_take, Nat.zero_add, Nat.min_eq_left (Nat.le_of_lt h)]
theorem drTo_next (ac : List Acc) (line : Int) (es : List Ent) (i : Nat) (h : i < es.length) : drTo ac line es i es[i].posts.length es[i].posts = drillsFrom ac line 0 (es.take (i + 1)) := by
  unfold drTo
  rw [List.take_succ_eq_append_getElem h, drillsFrom_append, List.take_length]
  simp [drillsFrom, Nat.min_eq_left (Nat.le_of_lt h)]
theorem drillsIn_len (ac : List Acc) (line : Int) (i : Nat) : ∀ (ps : List Pst) (j : Nat), (drillsIn ac line i j ps).length ≤ ps.length
  | [], _ => Nat.le_refl _
  | p :: ps, j => by
    have := drillsIn_len ac line i ps (j + 1)
    simp only [drillsIn]; split <;> simp <;> omega
theorem drillsFrom_len (ac : List Acc) (line : Int) : ∀ (es : List Ent) (i : Nat), (∀ e ∈ es, e.posts.length ≤ 6) → (drillsFrom ac line i es).length ≤ 6 * es.length
  | [], _, _ => Nat.le_refl _
  | e :: es, i, h => by
    have h1 := drillsFrom_len ac line es (i + 1) (fun x hx => h x (by simp [hx]))
    have h2 := drillsIn_len ac line i e.posts 0
    have h3 := h e (by simp)
    simp only [drillsFrom, List.length_append, List.length_cons]; omega
theorem lineOf_get {ac : List Acc} {i : Nat} (h : i < ac.length) : lineOf ac (i : Int) = ac[i].line := by
  unfold lineOf; simp [List.getD, h]
end Sg

theorem past_cell {w : World} {o : Obj} {b f : Nat} {v : Value} (h : w.cell? ⟨b, f, none⟩ = some v) : (w.alloc o).cell? ⟨b, f, none⟩ = some v := (World.cell?_alloc_past _ _ _ (World.block_lt_of_cell? w _ h)).trans h
/-- The box of closed books. -/
def bkBox (w : World) (a b c d : Value) : World := w.alloc (.cells #[a, b, c, d] 65)
theorem bkBox_facts {w wr : World} {a b c d : Value} (h : Below (w.heap.size + 1) (bkBox w a b c d) wr) :
    wr.cell? ⟨w.heap.size, 0, none⟩ = some a ∧ wr.cell? ⟨w.heap.size, 1, none⟩ = some b ∧ wr.cell? ⟨w.heap.size, 2, none⟩ = some c ∧ wr.cell? ⟨w.heap.size, 3, none⟩ = some d ∧ Below w.heap.size w wr ∧ w.heap.size < wr.heap.size := by
  have hs := h.size
  unfold bkBox at h hs
  refine ⟨?_, ?_, ?_, ?_, ((Below.refl _ _).alloc (Nat.le_refl _) _).trans (h.mono (by omega)), by simp at hs; omega⟩
  · rw [h.cell (p := ⟨w.heap.size, 0, none⟩) (by simp)]; simp
  · rw [h.cell (p := ⟨w.heap.size, 1, none⟩) (by simp)]; simp
  · rw [h.cell (p := ⟨w.heap.size, 2, none⟩) (by simp)]; simp
  · rw [h.cell (p := ⟨w.heap.size, 3, none⟩) (by simp)]; simp
theorem bkBox_refl (w : World) (a b c d : Value) : Below (w.heap.size + 1) (bkBox w a b c d) (bkBox w a b c d) := Below.refl _ _
theorem bkBox_size (w : World) (a b c d : Value) : (bkBox w a b c d).heap.size = w.heap.size + 1 := by unfold bkBox; simp

/-- One append of one element of whatever size: what was below stays below. -/
theorem below_pushN {B : Nat} {e : TypeId} {sz : Nat} {w wr w1 : World} {v : Value} {n : Nat} {xs : List Value} {o : Obj} (hB : B ≤ wr.heap.size)
    (hown : wr.ownsRow B e sz v n xs) (hbel : Below B w wr) (hgrow : (wr.alloc o).grownBy w1 v.ownBlock) : Below B w w1 :=
  (hbel.alloc hB o).grown hgrow (by simp; omega) (fun j hj => (hown.lt j hj).1)

theorem four_new (w : World) (o : Obj) (a b c d : Value) (t : TypeId) : ∀ j u, [a, b, c, d][j]? = some u → ((w.alloc o).alloc (.cells #[a, b, c, d] t)).cell? ((⟨w.heap.size + 1, 0, none⟩ : Addr).add j) = some u := by
  intro j u hj
  match j, hj with
  | 0, hj => simp at hj; subst hj; simp [Addr.add]
  | 1, hj => simp at hj; subst hj; simp [Addr.add]
  | 2, hj => simp at hj; subst hj; simp [Addr.add]
  | 3, hj => simp at hj; subst hj; simp [Addr.add]

set_option maxHeartbeats 6400000 in
/-- Books.Drills. -/
theorem bDrills_any (ac : List Sg.Acc) (pers : List (List Sg.Ent)) (q : Nat) (line : Int) (aoA aoP : Option Addr) (nA capA nP capP : Nat) (vB vT : Value) (w : World) (hA : AccsIn w aoA ac) (hnA : ac.length = nA) (hP : PersIn w aoP pers) (hnP : pers.length = nP) (hq : q < pers.length)
    (_hsm : nA ≤ 8) (_hnP6 : nP ≤ 6) (hper : pers[q].length ≤ 12 ∧ ∀ e ∈ pers[q], e.posts.length ≤ 6 ∧ ∀ t ∈ e.posts, 0 ≤ t.acct ∧ t.acct < (nA : Int) ∧ Sg.fits t.amt = true) :
    Calls Try.prog 115 #[.agg #[.slice aoA nA capA, .slice aoP nP capP, vB, vT], .int .i64 (q : Int), .int .i64 line] w fun e w' => ∃ v, e = .returned v ∧ OwnDrls w' w.heap.size v (Sg.drillsOf ac pers[q] line) ∧ Below w.heap.size w w' := by
  obtain ⟨j0, ji, jz0, jz1, jz2⟩ := info_parts Try.infoDrl
  obtain ⟨b, off, rfl, hbw, aoE, capE, hcE, hE⟩ := hP.cell (k := q) hq
  have HNA : Hid (ac.length = nA) := hnA
  have hqi : (q : Int) < (nP : Int) := by omega
  have hq0 : (0 : Int) ≤ (q : Int) := by omega
  have HD : Hid (Sg.drillsOf ac pers[q] line = Sg.drillsFrom ac line 0 pers[q]) := rfl
  generalize pers[q] = es at *
  obtain ⟨hes, hent⟩ := hper
  obtain ⟨ne, hne⟩ : ∃ ne, es.length = ne := ⟨_, rfl⟩
  rw [hne] at hcE hes
  have HNE : Hid (es.length = ne) := hne
  have HENT : Hid (∀ e ∈ es, e.posts.length ≤ 6 ∧ ∀ t ∈ e.posts, 0 ≤ t.acct ∧ t.acct < (nA : Int) ∧ Sg.fits t.amt = true) := hent
  have hcE1 := fun o => past_cell (o := o) hcE
  clear hnA hne hent hq hnP hP
  go_enter Try.func115, Try.ntmps115
  go_wp2_with fail
  go_loopw [7, 9] (fun o i wr => ∃ k : Nat, k ≤ ne ∧ i = .int .i64 (k : Int) ∧ OwnDrls wr (w.heap.size + 1) o (Sg.drillsFrom ac line 0 (es.take k)) ∧ Below (w.heap.size + 1) (bkBox w (.slice aoA nA capA) (.slice (some ⟨b, off, none⟩) nP capP) vB vT) wr) (fun _ i _ => ne - (intOf i).toNat)
  case atStart => exact ⟨0, by omega, rfl, World.ownsRow_nil _ _ _ _, bkBox_refl _ _ _ _ _⟩
  case round =>
    obtain ⟨k, hk, rfl, hown, hbel⟩ := hrel
    by_cases hlt : k < ne
    · have hka : k < es.length := by rw [HNE.out]; exact hlt
      obtain ⟨hp6, hpt⟩ := HENT.out es[k] (List.getElem_mem _)
      have HZ : Hid (Sg.drTo ac line es k 0 es[k].posts = Sg.drillsFrom ac line 0 (es.take k)) := Sg.drTo_zero ac line es k es[k].posts
      have HX : Hid (Sg.drTo ac line es k es[k].posts.length es[k].posts = Sg.drillsFrom ac line 0 (es.take (k + 1))) := Sg.drTo_next ac line es k hka
      obtain ⟨_, _, _, _, hbw1, _⟩ := bkBox_facts hbel
      obtain ⟨bE, offE, hao, hbE, _, aoQ, capQ, hcQ, hPs⟩ := hE.cell (k := k) hka
      subst hao
      have HLen : Hid ((Sg.drillsFrom ac line 0 (es.take k)).length ≤ 72) := by
        have := Sg.drillsFrom_len ac line (es.take k) 0 (fun e he => (HENT.out e (List.mem_of_mem_take he)).1)
        simp at this
        show _ ≤ _
        omega
      generalize es[k].posts = ps at *
      obtain ⟨np, hnp⟩ : ∃ np, ps.length = np := ⟨_, rfl⟩
      rw [hnp] at hcQ hp6 HX
      have HNP : Hid (ps.length = np) := hnp
      have HPT : Hid (∀ t ∈ ps, 0 ≤ t.acct ∧ t.acct < (nA : Int) ∧ Sg.fits t.amt = true) := hpt
      have hcQ1 := (hbw1.cell (p := ⟨bE, offE + k * 2 + 1, none⟩) hbE).trans hcQ
      rw [← HZ.out] at hown
      have i1 : (0 : Int) ≤ (k : Int) := by omega
      have i2 : (k : Int) < (ne : Int) := by omega
      clear hnp hpt HZ
      go_wp2_with fail
      go_loopw [7, 10] (fun o j wr => ∃ r : Nat, r ≤ np ∧ j = .int .i64 (r : Int) ∧ OwnDrls wr (w.heap.size + 1) o (Sg.drTo ac line es k r ps) ∧ Below (w.heap.size + 1) (bkBox w (.slice aoA nA capA) (.slice (some ⟨b, off, none⟩) nP capP) vB vT) wr) (fun _ j _ => np - (intOf j).toNat)
      case atStart => exact ⟨0, by omega, rfl, hown, hbel⟩
      case round =>
        obtain ⟨r, hr, rfl, hown2, hbel2⟩ := hrel
        obtain ⟨hx0, _, _, _, hbw2, hsz2⟩ := bkBox_facts hbel2
        have hcQ2 := (hbw2.cell (p := ⟨bE, offE + k * 2 + 1, none⟩) hbE).trans hcQ
        by_cases hlr : r < np
        · have hra : r < ps.length := by rw [HNP.out]; exact hlr
          obtain ⟨bP, offP, hao, hbP, hc0, hc1⟩ := (hPs.below hbw2).cell (k := r) hra
          subst hao
          obtain ⟨ha0, ha1, hfm⟩ := HPT.out ps[r] (List.getElem_mem _)
          have HS : Hid (Sg.drTo ac line es k (r + 1) ps = Sg.drTo ac line es k r ps ++ (if Sg.lineOf ac ps[r].acct = line then [⟨k, r, ps[r].acct, ps[r].amt⟩] else [])) := Sg.drTo_succ ac line es k r ps hra
          have hfm' : -9223372036854775808 ≤ ps[r].amt ∧ ps[r].amt ≤ 9223372036854775807 := of_decide_eq_true hfm
          have HLn : Hid ((Sg.drTo ac line es k r ps).length ≤ 100) := by
            show _ ≤ _
            unfold Sg.drTo
            rw [List.length_append]
            have h1 := HLen.out
            have h2 := Sg.drillsIn_len ac line k (ps.take r) 0
            simp at h2
            omega
          generalize ps[r].acct = a at *
          generalize ps[r].amt = m at *
          obtain ⟨ai, rfl⟩ := Int.eq_ofNat_of_zero_le ha0
          have haa : ai < ac.length := by rw [HNA.out]; omega
          obtain ⟨bA, offA, hao, hbA, _, hcl⟩ := (hA.below hbw2).cell (k := ai) haa
          subst hao
          rw [Sg.lineOf_get haa] at HS
          generalize ac[ai].line = lx at *
          generalize Sg.drTo ac line es k r ps = ds at *
          have i3 : (0 : Int) ≤ (r : Int) := by omega
          have i4 : (r : Int) < (np : Int) := by omega
          have i5 : (ai : Int) < (nA : Int) := by omega
          clear hfm hA
          by_cases hel : lx = line
          · have helb : (lx == line) = true := by simp [hel]
            have HS2 : Hid (Sg.drTo ac line es k (r + 1) ps = ds ++ [⟨k, r, (ai : Int), m⟩]) := by show _ = _; rw [HS.out, if_pos hel]
            have hownU := hown2
            unfold OwnDrls at hownU
            have hln := HLn.out
            clear hel HS
            go_wp2_with (at_builtin; refine wpList_append_own _ rfl _ _ 167 rfl (w.heap.size + 1) 179 j0 (.agg #[.int .i64 0, .int .i64 0, .int .i64 0, .int .i64 0]) 4 32 Try.underlying167 ji jz0 jz1 jz2 rfl (by decide) _ _ _ rfl ((hownU.alloc _).alloc _) ⟨wr.heap.size + 1, 0, none⟩ 1 1 [.int .i64 (k : Int), .int .i64 (r : Int), .int .i64 (ai : Int), .int .i64 m] rfl rfl ?c1 ?c2 ?c3 ?c4 ?c5 ?_)
            case c1 => exact four_new _ _ _ _ _ _ _
            case c2 => intro u hu; simp at hu; rcases hu with rfl | rfl | rfl | rfl <;> rfl
            case c3 => unfold maxLen; omega
            case c4 => omega
            case c5 => simp; omega
            intro v' w4 hown' hgrow _
            have hbP3 := hbel2.alloc (by omega) (.cells #[.int .i64 (ai : Int), .int .i64 m] 90)
            have hb4 := below_pushN (by simp; omega) (hownU.alloc (.cells #[.int .i64 (ai : Int), .int .i64 m] 90)) hbP3 hgrow
            have HO4 : Hid (OwnDrls w4 (w.heap.size + 1) v' (Sg.drTo ac line es k (r + 1) ps)) := by
              show OwnDrls _ _ _ _
              rw [HS2.out]
              unfold OwnDrls
              rw [drlCells_snoc, List.length_append]
              exact hown'
            clear hgrow hown' hown2 hownU hbP3 HS2
            go_wp2_with fail
            go_roundw
            case rel => exact ⟨r + 1, by omega, by go_num, HO4.out, hb4⟩
            case measure => simp [intOf]; omega
          · have helb : (lx == line) = false := by simp [hel]
            have HS2 : Hid (Sg.drTo ac line es k (r + 1) ps = ds) := by show _ = _; rw [HS.out, if_neg hel]; simp
            have hb3 := hbel2.alloc (by omega) (.cells #[.int .i64 (ai : Int), .int .i64 m] 90)
            have ho3 := World.ownsRow.alloc hown2 (.cells #[.int .i64 (ai : Int), .int .i64 m] 90)
            have HO3 : Hid (OwnDrls (wr.alloc (.cells #[.int .i64 (ai : Int), .int .i64 m] 90)) (w.heap.size + 1) u7 ds) := ho3
            clear hel HS ho3
            go_wp2_with fail
            go_roundw
            case rel => exact ⟨r + 1, by omega, by go_num, by rw [HS2.out]; exact HO3.out, hb3⟩
            case measure => simp [intOf]; omega
        · have hrn : r = np := by omega
          rw [hrn, HX.out] at hown2
          go_wp2_with fail
          go_roundw
          case rel => exact ⟨k + 1, by omega, by go_num, hown2, hbel2⟩
          case measure => simp [intOf]; omega
    · have hkn : k = es.length := by rw [HNE.out]; omega
      rw [hkn, List.take_length] at hown
      go_wp2_with fail
      go_ret
      obtain ⟨_, _, _, _, hbw1, _⟩ := bkBox_facts hbel
      exact ⟨_, rfl, by rw [HD.out]; exact ownsRow_base hown (by omega), hbw1⟩
end Go.Proofs.Ytoadiibfmcjgaaa
