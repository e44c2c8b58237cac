import Derived.Test.YtpkkhkkkgjhkeabGreatSpec
import Derived.Test.YtpkkhkkkgjhkeabGreatDrills
/-
  THE WALK of signetref.enters.
-/
namespace Go.Proofs.YtpkkhkkkgjhkeabGreat
open Go.RowKit
set_option maxRecDepth 100000
attribute [local go_sem ↓] Go.wp_at_zero Go.wp_at_succ

theorem past_alloc_cell {w : World} {ob : Obj} {b o : Nat} {v : Value} (h : w.cell? ⟨b, o, none⟩ = some v) : (w.alloc ob).cell? ⟨b, o, none⟩ = some v := (World.cell?_alloc_past _ _ _ (World.block_lt_of_cell? w _ h)).trans h
theorem grown_chain {w w1 w2 : World} {g : Nat} (h : w.grownBy w1 (some g)) (k : w1.grownBy w2 (some g)) : w.grownBy w2 (some g) :=
  ⟨k.os.trans h.os, k.tape.trans h.tape, k.output.trans h.output, Nat.le_trans h.size k.size, fun i hi hne => (k.block i (Nat.lt_of_lt_of_le hi h.size) hne).trans (h.block i hi hne)⟩
theorem below_grown {w w' : World} {g : Nat} (h : Below w.heap.size w w') : w.grownBy w' (some g) := ⟨h.os, h.tape, h.output, h.size, fun k hk _ => h.block k hk⟩
/-- The two boxes that enters makes first. -/
def boxes2 (w : World) (a b c d : Value) : World := (w.alloc (.cells #[a, b] 26)).alloc (.cells #[c, d] 45)
theorem boxes2_size (w : World) (a b c d : Value) : (boxes2 w a b c d).heap.size = w.heap.size + 2 := by unfold boxes2; simp
theorem boxes2_below (w : World) (a b c d : Value) : Below w.heap.size w (boxes2 w a b c d) := ((Below.refl _ _).alloc (Nat.le_refl _) _).alloc (by simp) _
theorem boxes2_cells (w : World) (a b c d : Value) : (boxes2 w a b c d).cell? ⟨w.heap.size, 0, none⟩ = some a ∧ (boxes2 w a b c d).cell? ⟨w.heap.size + 1, 1, none⟩ = some d := by
  unfold boxes2
  constructor
  · rw [World.cell?_alloc_past _ _ _ (by simp)]; simp
  · simp
/-- What a world that came behind them still has. -/
theorem boxes2_facts {w wr : World} {a b c d : Value} (h : Below (w.heap.size + 2) (boxes2 w a b c d) wr) :
    wr.cell? ⟨w.heap.size, 0, none⟩ = some a ∧ wr.cell? ⟨w.heap.size + 1, 1, none⟩ = some d ∧ Below w.heap.size w wr :=
  ⟨(h.cell (p := ⟨w.heap.size, 0, none⟩) (by simp)).trans (boxes2_cells w a b c d).1, (h.cell (p := ⟨w.heap.size + 1, 1, none⟩) (by simp)).trans (boxes2_cells w a b c d).2, (boxes2_below w a b c d).trans (h.mono (by omega))⟩


end Go.Proofs.YtpkkhkkkgjhkeabGreat

/-
  THE WALK of signetref.leaf.
-/
namespace Go.Proofs.YtpkkhkkkgjhkeabGreat
open Go.RowKit
set_option maxRecDepth 100000

/-- A list that is the call's own, as a slice that is read. -/
theorem own_strs_shape {w : World} {base : Nat} {v : Value} {ss : List ByteArray} (h : OwnStrs w base v ss) : ∃ ao cap, v = .slice ao ss.length cap ∧ ss.length ≤ cap ∧ cap ≤ maxLen ∧ (1 ≤ ss.length → ∃ g, ao = some ⟨g, 0, none⟩ ∧ g < w.heap.size ∧ StrsAt w g 0 ss) := by
  have hk := h
  rcases h.2 with ⟨rfl, h0⟩ | ⟨g, cap, cur, rfl, _, hh, hle, hm, _, _⟩
  · exact ⟨none, 0, by rw [h0], by omega, by decide, fun h1 => by omega⟩
  · refine ⟨_, cap, rfl, hle, hm, fun _ => ⟨g, rfl, lt_of_block hh, fun i hi => ?_⟩⟩
    have := World.ownsRow.cellAt hk i (by omega)
    rw [Nat.zero_add, this]
    simp [List.getD, hi]

theorem fits_line (k : Int) (h : 0 ≤ k ∧ k ≤ 3) : -9223372036854775808 ≤ k ∧ k ≤ 9223372036854775807 := by omega

end Go.Proofs.YtpkkhkkkgjhkeabGreat

/-
  THE WALK of signetref.Books.Drills: and how closed books lie in memory.
-/
namespace Go.Proofs.YtpkkhkkkgjhkeabGreat
open Go.RowKit
set_option maxRecDepth 100000

theorem Tryz.infoDrl : (Tryz.prog.info? 51).map (fun i => (i.zero, i.size, i.bytes)) = some (some (.agg #[.int .i64 0, .int .i64 0, .int .i64 0, .int .i64 0]), 4, 32) := by kernel_rfl

/-- Drills, cell by cell. -/
def drlCells (ds : List Sg.Drl) : List Value := ds.flatMap fun d => [.int .i64 (d.ent : Int), .int .i64 (d.place : Int), .int .i64 d.acct, .int .i64 d.amt]
theorem drlCells_length : ∀ ds, (drlCells ds).length = ds.length * 4
  | [] => rfl
  | d :: ds => by simp only [drlCells, List.flatMap_cons, List.length_append, List.length_cons, List.length_nil]; have := drlCells_length ds; unfold drlCells at this; rw [this]; omega
theorem drlCells_snoc (ds : List Sg.Drl) (d : Sg.Drl) : drlCells (ds ++ [d]) = drlCells ds ++ [.int .i64 (d.ent : Int), .int .i64 (d.place : Int), .int .i64 d.acct, .int .i64 d.amt] := by
  unfold drlCells; rw [List.flatMap_append]; simp
theorem drlCells_get : ∀ (ds : List Sg.Drl) (i : Nat) (h : i < ds.length), (drlCells ds)[i * 4]? = some (.int .i64 (ds[i].ent : Int)) ∧ (drlCells ds)[i * 4 + 1]? = some (.int .i64 (ds[i].place : Int)) ∧ (drlCells ds)[i * 4 + 2]? = some (.int .i64 ds[i].acct) ∧ (drlCells ds)[i * 4 + 3]? = some (.int .i64 ds[i].amt)
  | d :: ds, 0, _ => ⟨rfl, rfl, rfl, rfl⟩
  | d :: ds, i + 1, h => by
    have := drlCells_get ds i (by simpa using h)
    have e : drlCells (d :: ds) = [.int .i64 (d.ent : Int), .int .i64 (d.place : Int), .int .i64 d.acct, .int .i64 d.amt] ++ drlCells ds := rfl
    rw [e, List.getElem?_append_right (by simp; omega), List.getElem?_append_right (by simp; omega), List.getElem?_append_right (by simp; omega), List.getElem?_append_right (by simp; omega)]
    simpa [show (i + 1) * 4 - 4 = i * 4 by omega, show (i + 1) * 4 + 1 - 4 = i * 4 + 1 by omega, show (i + 1) * 4 + 2 - 4 = i * 4 + 2 by omega, show (i + 1) * 4 + 3 - 4 = i * 4 + 3 by omega] using this
/-- A list of drills that is the call's own. -/
def OwnDrls (w : World) (base : Nat) (v : Value) (ds : List Sg.Drl) : Prop := w.ownsRow base 51 4 v ds.length (drlCells ds)
theorem OwnDrls.below {w w' : World} {base : Nat} {v : Value} {ds : List Sg.Drl} (h : OwnDrls w base v ds) (hb : Below w.heap.size w w') : OwnDrls w' base v ds := ownsRow_below h hb
theorem OwnDrls.shape {w : World} {base : Nat} {v : Value} {ds : List Sg.Drl} (h : OwnDrls w base v ds) : ∃ ao cap, v = .slice ao ds.length cap ∧ DrlsIn w ao ds := by
  have hk := h
  rcases h.2 with ⟨rfl, h0⟩ | ⟨g, cap, cur, rfl, _, hh, hle, hm, _, _⟩
  · exact ⟨none, 0, by rw [h0], Or.inl h0⟩
  · refine ⟨_, cap, rfl, Or.inr ⟨g, 0, rfl, lt_of_block hh, fun i hi => ?_⟩⟩
    obtain ⟨a1, a2, a3, a4⟩ := drlCells_get ds i hi
    unfold DrlAt
    simp only [Nat.zero_add]
    rw [World.ownsRow.cellAt hk (i * 4) (by omega), World.ownsRow.cellAt hk (i * 4 + 1) (by omega), World.ownsRow.cellAt hk (i * 4 + 2) (by omega), World.ownsRow.cellAt hk (i * 4 + 3) (by omega)]
    exact ⟨a1, a2, a3, a4⟩

namespace Sg
theorem drillsIn_append (ac : List Acc) (line : Int) (i : Nat) : ∀ (p1 p2 : List Pst) (j : Nat), drillsIn ac line i j (p1 ++ p2) = drillsIn ac line i j p1 ++ drillsIn ac line i (j + p1.length) p2
  | [], p2, j => rfl
  | p :: p1, p2, j => by
    simp only [List.cons_append, drillsIn, List.length_cons]
    rw [drillsIn_append ac line i p1 p2 (j + 1), show j + 1 + p1.length = j + (p1.length + 1) by omega]
    split <;> simp
theorem drillsFrom_append (ac : List Acc) (line : Int) : ∀ (e1 e2 : List Ent) (i : Nat), drillsFrom ac line i (e1 ++ e2) = drillsFrom ac line i e1 ++ drillsFrom ac line (i + e1.length) e2
  | [], e2, i => rfl
  | e :: e1, e2, i => by
    simp only [List.cons_append, drillsFrom, List.length_cons]
    rw [drillsFrom_append ac line e1 e2 (i + 1), show i + 1 + e1.length = i + (e1.length + 1) by omega, List.append_assoc]
/-- The drills of the first i entries, and of the first j postings of the next. -/
def drTo (ac : List Acc) (line : Int) (es : List Ent) (i j : Nat) (ps : List Pst) : List Drl := drillsFrom ac line 0 (es.take i) ++ drillsIn ac line i 0 (ps.take j)
theorem drTo_zero (ac : List Acc) (line : Int) (es : List Ent) (i : Nat) (ps : List Pst) : drTo ac line es i 0 ps = drillsFrom ac line 0 (es.take i) := by unfold drTo; simp [drillsIn]
theorem drTo_succ (ac : List Acc) (line : Int) (es : List Ent) (i j : Nat) (ps : List Pst) (h : j < ps.length) : drTo ac line es i (j + 1) ps = drTo ac line es i j ps ++ (if lineOf ac ps[j].acct = line then [⟨i, j, ps[j].acct, ps[j].amt⟩] else []) := by
  unfold drTo
  rw [List.take_succ_eq_append_getElem h, drillsIn_append, List.append_assoc]
  simp only [drillsIn, List.length_take, Nat.zero_add, Nat.min_eq_left (Nat.le_of_lt h)]
theorem drTo_next (ac : List Acc) (line : Int) (es : List Ent) (i : Nat) (h : i < es.length) : drTo ac line es i es[i].posts.length es[i].posts = drillsFrom ac line 0 (es.take (i + 1)) := by
  unfold drTo
  rw [List.take_succ_eq_append_getElem h, drillsFrom_append, List.take_length]
  simp [drillsFrom, Nat.min_eq_left (Nat.le_of_lt h)]
theorem drillsIn_len (ac : List Acc) (line : Int) (i : Nat) : ∀ (ps : List Pst) (j : Nat), (drillsIn ac line i j ps).length ≤ ps.length
  | [], _ => Nat.le_refl _
  | p :: ps, j => by
    have := drillsIn_len ac line i ps (j + 1)
    simp only [drillsIn]; split <;> simp <;> omega
theorem drillsFrom_len (ac : List Acc) (line : Int) : ∀ (es : List Ent) (i : Nat), (∀ e ∈ es, e.posts.length ≤ 6) → (drillsFrom ac line i es).length ≤ 6 * es.length
  | [], _, _ => Nat.le_refl _
  | e :: es, i, h => by
    have h1 := drillsFrom_len ac line es (i + 1) (fun x hx => h x (by simp [hx]))
    have h2 := drillsIn_len ac line i e.posts 0
    have h3 := h e (by simp)
    simp only [drillsFrom, List.length_append, List.length_cons]; omega
theorem lineOf_get {ac : List Acc} {i : Nat} (h : i < ac.length) : lineOf ac (i : Int) = ac[i].line := by
  unfold lineOf; simp [List.getD, h]
end Sg

theorem past_cell {w : World} {o : Obj} {b f : Nat} {v : Value} (h : w.cell? ⟨b, f, none⟩ = some v) : (w.alloc o).cell? ⟨b, f, none⟩ = some v := (World.cell?_alloc_past _ _ _ (World.block_lt_of_cell? w _ h)).trans h
/-- One append of one element of whatever size: what was below stays below. -/
theorem below_pushN {B : Nat} {e : TypeId} {sz : Nat} {w wr w1 : World} {v : Value} {n : Nat} {xs : List Value} {o : Obj} (hB : B ≤ wr.heap.size)
    (hown : wr.ownsRow B e sz v n xs) (hbel : Below B w wr) (hgrow : (wr.alloc o).grownBy w1 v.ownBlock) : Below B w w1 :=
  (hbel.alloc hB o).grown hgrow (by simp; omega) (fun j hj => (hown.lt j hj).1)

theorem four_new (w : World) (o : Obj) (a b c d : Value) (t : TypeId) : ∀ j u, [a, b, c, d][j]? = some u → ((w.alloc o).alloc (.cells #[a, b, c, d] t)).cell? ((⟨w.heap.size + 1, 0, none⟩ : Addr).add j) = some u := by
  intro j u hj
  match j, hj with
  | 0, hj => simp at hj; subst hj; simp [Addr.add]
  | 1, hj => simp at hj; subst hj; simp [Addr.add]
  | 2, hj => simp at hj; subst hj; simp [Addr.add]
  | 3, hj => simp at hj; subst hj; simp [Addr.add]

end Go.Proofs.YtpkkhkkkgjhkeabGreat
