import Derived.Test.YtpkkhkkkgjhkeabGreatCloseWalk
import Derived.Test.YtpkkhkkkgjhkeabGreatLeaves
import Derived.Test.YtpkkhkkkgjhkeabGreatDrills
import Derived.Maps.Own
import Derived.Maps.OwnOps
import Derived.Maps.Views
import Derived.Shelf.SlMaps.Clone
import Derived.Test.YtpkkhkkkgjhkeabGreatEntersWalk
import Derived.Test.YtpkkhkkkgjhkeabGreatShelf
/-
  signetref.Seal.
-/
namespace Go.Proofs.YtpkkhkkkgjhkeabGreat
open Go.RowKit
set_option maxRecDepth 100000
attribute [local go_sem ↓] Go.wp_at_zero Go.wp_at_succ

namespace Sg
/-- What Seal answers. -/
def package (h : Hist) : ByteArray := if closeErr h = 0 then pkTo h (balances h) (totals h) h.pers.length else ByteArray.empty
def headOf (h : Hist) : ByteArray := if closeErr h = 0 then (hdTo h (balances h) (totals h) h.pers.length).2 else ByteArray.empty
end Sg

end Go.Proofs.YtpkkhkkkgjhkeabGreat

/-
  THE BALANCES IN A MAP, THE PERIOD's BLOCK (book.Period).
-/
namespace Go.Proofs.YtpkkhkkkgjhkeabGreat
open Go.RowKit Go.Maps
set_option maxRecDepth 100000

/-- How a number reads. -/
def numR (v : Value) : Option (DataW Unit × List MemPlace) :=
  match v with
  | .agg xs => match xs.toList with
    | [.int .u64 h, .int .u64 l] => some (.agg [.lit (.int .u64 h), .lit (.int .u64 l)], [])
    | _ => none
  | _ => none
def numD (v : Int) : DataW Unit := .agg [.lit (.int .u64 (nHi v)), .lit (.int .u64 (nLo v))]
theorem numR_num (v : Int) : numR (nV v) = some (numD v, []) := rfl
theorem numR_inv {x : Value} {v : Int} {p : List MemPlace} (h : numR x = some (numD v, p)) : x = nV v := by
  unfold numR at h
  split at h
  · rename_i xs
    split at h
    · rename_i a b e
      simp only [Option.some.injEq, Prod.mk.injEq, numD, DataW.agg.injEq, List.cons.injEq, DataW.lit.injEq, Lit.int.injEq, true_and, and_true] at h
      obtain ⟨⟨rfl, rfl⟩, _⟩ := h
      have : xs = #[.int .u64 (nHi v), .int .u64 (nLo v)] := by rw [← Array.toArray_toList (xs := xs), e]
      rw [this]
    · cases h
  · cases h

theorem balKey : Keyed Tryz.prog 3 := int_keyed Tryz.underlying3
theorem balZero (w : World) : (zeroValue 84).run Tryz.prog w = .ok (nV 0) w := by kernel_rfl
theorem balType : Tryz.prog.underlying 81 = some (.map 3 84) := by kernel_rfl

/-- The balances so far, in a map. -/
def BalIn (w : World) (m c : Nat) (now : List Int) : Prop := ∃ D : DataW Unit, w.ownsMap Tryz.prog 3 numR m c D ∧ ∀ i (h : i < now.length), D.atKey (.int .i64 (i : Int)) (numD 0) = numD now[i]
theorem balKeyOf (i : Nat) (hi : i ≤ 1000) : keyOf Tryz.prog 3 (.int .i64 (i : Int)) = some (.int .i64 (i : Int)) := keyOf_int_mk Tryz.underlying3 (WalkArith.wf_i64 (by omega))
theorem BalIn.look {w : World} {m c : Nat} {now : List Int} (h : BalIn w m c now) {i : Nat} (hi : i < now.length) (h8 : now.length ≤ 8) : (Instr.lookup 81 (.map (some m)) (.int .i64 (i : Int)) false).run Tryz.prog w = .ok (nV now[i]) w := by
  obtain ⟨D, hD, hat⟩ := h
  obtain ⟨v, ps, hrun, hv⟩ := hD.lookup balKey balType (balZero w) (numR_num 0) (balKeyOf i (by omega))
  rw [hat i hi] at hv
  rw [hrun, numR_inv hv]
theorem BalIn.update {w : World} {m c : Nat} {now : List Int} (h : BalIn w m c now) (hc : c < 1000000) {i : Nat} (hi : i < now.length) (h8 : now.length ≤ 8) (v : Int) :
    ∃ w', (Instr.mapUpdate 81 (.map (some m)) (.int .i64 (i : Int)) (nV v)).run Tryz.prog w = .ok () w' ∧ BalIn w' m (c + 1) (now.set i v) ∧ w.grownBy w' (some m) := by
  obtain ⟨D, hD, hat⟩ := h
  obtain ⟨w', hrun, hown, hg⟩ := hD.update balKey balType (by unfold maxLen; omega) (balKeyOf i (by omega)) (numR_num v)
  have hmap : Maps.IsMap D := by
    obtain ⟨es, clock, _, _, _, e⟩ := hD
    exact ⟨_, e⟩
  refine ⟨w', hrun, ⟨_, hown, fun j hj => ?_⟩, hg⟩
  rw [List.length_set] at hj
  by_cases e : j = i
  · subst e
    rw [atKey_put_same hmap (by trivial)]; simp
  · rw [atKey_put_other (by simp; omega), hat j hj, List.getElem_set_ne (by omega)]
theorem BalIn.lt {w : World} {m c : Nat} {now : List Int} (h : BalIn w m c now) : m < w.heap.size := by
  obtain ⟨D, hD, _⟩ := h
  exact hD.lt
theorem BalIn.block {w w' : World} {m c : Nat} {now : List Int} (h : BalIn w m c now) (hb : w'.heap[m]? = w.heap[m]?) : BalIn w' m c now := by
  obtain ⟨D, ⟨es, clock, h1, h2, h3, h4⟩, hat⟩ := h
  exact ⟨D, ⟨es, clock, hb.trans h1, h2, h3, h4⟩, hat⟩
theorem BalIn.mono {w : World} {m c c' : Nat} {now : List Int} (h : BalIn w m c now) (hc : c ≤ c') : BalIn w m c' now := by
  obtain ⟨D, hD, hat⟩ := h
  exact ⟨D, hD.mono hc, hat⟩
theorem BalIn.made (w : World) (n : Nat) : BalIn (w.alloc (.map #[] 0)) w.heap.size 0 (List.replicate n 0) := by
  refine ⟨.map [], World.ownsMap_made _ _ _ _, fun i hi => ?_⟩
  simp only [List.getElem_replicate]
  rfl

set_option maxHeartbeats 800000 in
/-- maps.Clone. -/
theorem clone_any (m : Nat) (es : Array MapEntry) (clock : Nat) (w : World) (hb : w.heap[m]? = some (.map es clock)) :
    Calls Tryz.prog 57 #[.map (some m)] w fun e w' => e = .returned (.map (some w.heap.size)) ∧ w' = w.alloc (.map es clock) := by
  have hq := fun w => run_eql_map_nil_sl (P := Tryz.prog) w 81 _ _ (some m) balType
  go_enter Tryz.func57, Tryz.ntmps57
  go_wp2
  rw [run_callFunc_extern Tryz.func98 (by kernel_rfl) (by kernel_rfl) (by kernel_rfl) (e := Extern.MapsClone.clone) (by kernel_rfl), run_maps_clone_sl w 81 hb]
  simp only [Result.andThen]
  rw [Oper.upon_value]
  go_wp2
  rw [run_typeAssert_map_sl _ 81 _ _ _ _ balType]
  simp only [Result.andThen]
  rw [Oper.upon_value]
  go_wp2
  go_ret
  exact ⟨rfl, rfl⟩
/-- The balances, cloned. -/
theorem BalIn.clone {w : World} {m c : Nat} {now : List Int} (h : BalIn w m c now) :
    Calls Tryz.prog 57 #[.map (some m)] w fun e w' => ∃ o, e = .returned (.map (some w.heap.size)) ∧ w' = w.alloc o ∧ BalIn w' w.heap.size c now := by
  obtain ⟨D, ⟨es, clock, h1, h2, h3, h4⟩, hat⟩ := h
  refine (clone_any m es clock w h1).mono ?_
  rintro e w' ⟨rfl, rfl⟩
  exact ⟨_, rfl, rfl, D, ⟨es, clock, (MapKept.heap_alloc w _).1, h2, h3, h4⟩, hat⟩

/-- A look-up, a store, at a step of a region that draws its order. -/
theorem step_lookup {P : Program} {ops : Array Oper} {o : Oper} {a : Act} {w : World} {K : Act → World → Prop} {Q : Exit → Act → World → Prop} {E : Prop} (hgd : o.guard = none) (m x : Operand) (t : TypeId) (hop : o.op = Op.lookup t m x false)
    (mv key v : Value) (hm : a.eval m = mv) (hx : a.eval x = key) (hrun : (Instr.lookup t mv key false).run P w = .ok v w) (h : K (a.put o.dst v) w) :
    if Region.wanted o (yielded ops a.tmps) = true then Oper.wp P o a w K Q else E := by
  have hw : Region.wanted o (yielded ops a.tmps) = true := by simp [Region.wanted, hgd]
  rw [if_pos hw]
  unfold Oper.wp
  simp [execOp, hop, hm, hx, hrun, Result.andThen]
  exact h
theorem step_mapUpdate {P : Program} {ops : Array Oper} {o : Oper} {a : Act} {w : World} {K : Act → World → Prop} {Q : Exit → Act → World → Prop} {E : Prop} (hgd : o.guard = none) (m x v : Operand) (t : TypeId) (hop : o.op = Op.mapUpdate t m x v)
    (mv key val : Value) (hm : a.eval m = mv) (hx : a.eval x = key) (hv : a.eval v = val) (w' : World) (hrun : (Instr.mapUpdate t mv key val).run P w = .ok () w') (h : K (a.put o.dst undef) w') :
    if Region.wanted o (yielded ops a.tmps) = true then Oper.wp P o a w K Q else E := by
  have hw : Region.wanted o (yielded ops a.tmps) = true := by simp [Region.wanted, hgd]
  rw [if_pos hw]
  unfold Oper.wp
  simp [execOp, hop, hm, hx, hv, hrun, Result.andThen]
  exact h

theorem BalIn.below {w w' : World} {m c : Nat} {now : List Int} (h : BalIn w m c now) (hb : Below w.heap.size w w') : BalIn w' m c now := h.block (hb.block m h.lt)
theorem BalIn.drew {w : World} {m c : Nat} {now : List Int} (h : BalIn w m c now) : BalIn w.drew m c now := h.block rfl
theorem BalIn.seek {w : World} {m c : Nat} {now : List Int} (h : BalIn w m c now) {i : Nat} {v : Int} (hv : now.getD i 0 = v) (hi : i < now.length) (h8 : now.length ≤ 8) : (Instr.lookup 81 (.map (some m)) (.int .i64 (i : Int)) false).run Tryz.prog w = .ok (nV v) w := by
  rw [h.look hi h8, ← hv, List.getD_eq_getElem?_getD, List.getElem?_eq_getElem hi]
  rfl
theorem step_balUpdate {ops : Array Oper} {o : Oper} {a : Act} {w : World} {K : Act → World → Prop} {Q : Exit → Act → World → Prop} {E : Prop} (hgd : o.guard = none) (mo x v : Operand) (hop : o.op = Op.mapUpdate 81 mo x v)
    (m i c : Nat) (now : List Int) (val : Int) (hm : a.eval mo = .map (some m)) (hx : a.eval x = .int .i64 (i : Int)) (hv : a.eval v = nV val) (hb : BalIn w m c now) (hc : c < 1000000) (hi : i < now.length) (h8 : now.length ≤ 8)
    (h : ∀ w', BalIn w' m (c + 1) (now.set i val) → w.grownBy w' (some m) → K (a.put o.dst undef) w') :
    if Region.wanted o (yielded ops a.tmps) = true then Oper.wp Tryz.prog o a w K Q else E := by
  obtain ⟨w', hrun, h1, h2⟩ := hb.update hc hi h8 val
  exact step_mapUpdate hgd mo x v _ hop _ _ _ hm hx hv w' hrun (h w' h1 h2)

/-! ### The period's block -/
def numCells (l : List Int) : List Value := l.flatMap fun v => [.int .u64 (nHi v), .int .u64 (nLo v)]
theorem numCells_length : ∀ l, (numCells l).length = l.length * 2
  | [] => rfl
  | v :: l => by simp only [numCells, List.flatMap_cons, List.length_append, List.length_cons, List.length_nil]; have := numCells_length l; unfold numCells at this; rw [this]; omega
theorem numCells_hi : ∀ (l : List Int) (i : Nat), i < l.length → (numCells l)[i * 2]? = some (.int .u64 (nHi (l.getD i 0)))
  | v :: l, 0, _ => rfl
  | v :: l, i + 1, h => by
    have := numCells_hi l i (by simpa using h)
    show ([Value.int .u64 (nHi v), .int .u64 (nLo v)] ++ numCells l)[(i + 1) * 2]? = _
    rw [List.getElem?_append_right (by simp; omega)]
    simpa [show (i + 1) * 2 - 2 = i * 2 by omega] using this
theorem numCells_lo : ∀ (l : List Int) (i : Nat), i < l.length → (numCells l)[i * 2 + 1]? = some (.int .u64 (nLo (l.getD i 0)))
  | v :: l, 0, _ => rfl
  | v :: l, i + 1, h => by
    have := numCells_lo l i (by simpa using h)
    show ([Value.int .u64 (nHi v), .int .u64 (nLo v)] ++ numCells l)[(i + 1) * 2 + 1]? = _
    rw [List.getElem?_append_right (by simp; omega)]
    simpa [show (i + 1) * 2 + 1 - 2 = i * 2 + 1 by omega] using this
theorem numCells_set : ∀ (l : List Int) (i : Nat) (v : Int), i < l.length → ((numCells l).set (i * 2) (.int .u64 (nHi v))).set (i * 2 + 1) (.int .u64 (nLo v)) = numCells (l.set i v)
  | u :: l, 0, v, _ => rfl
  | u :: l, i + 1, v, h => by
    have := numCells_set l i v (by simpa using h)
    show (([Value.int .u64 (nHi u), .int .u64 (nLo u)] ++ numCells l).set ((i + 1) * 2) _).set ((i + 1) * 2 + 1) _ = [Value.int .u64 (nHi u), .int .u64 (nLo u)] ++ numCells (l.set i v)
    rw [List.set_append_right _ _ (by simp; omega), List.set_append_right _ _ (by simp; omega)]
    simp only [List.length_cons, List.length_nil, show (i + 1) * 2 - (0 + 1 + 1) = i * 2 by omega, show (i + 1) * 2 + 1 - (0 + 1 + 1) = i * 2 + 1 by omega]
    rw [this]

/-- The cells of a period: accounts, entries, balances, totals. -/
def perCells (a e m : Value) (tot : List Int) : List Value := [a, e, m] ++ numCells tot
def PerAt (w : World) (g : Nat) (a e m : Value) (tot : List Int) : Prop := w.heap[g]? = some (.cells (perCells a e m tot).toArray 87 (0, 0))
theorem PerAt.accs {w : World} {g : Nat} {a e m : Value} {tot : List Int} (h : PerAt w g a e m tot) : w.cell? ⟨g, 0, none⟩ = some a := by rw [cell_of_row w g 0 _ _ _ h]; rfl
theorem PerAt.ents {w : World} {g : Nat} {a e m : Value} {tot : List Int} (h : PerAt w g a e m tot) : w.cell? ⟨g, 1, none⟩ = some e := by rw [cell_of_row w g 1 _ _ _ h]; rfl
theorem PerAt.bals {w : World} {g : Nat} {a e m : Value} {tot : List Int} (h : PerAt w g a e m tot) : w.cell? ⟨g, 2, none⟩ = some m := by rw [cell_of_row w g 2 _ _ _ h]; rfl
theorem PerAt.hi {w : World} {g : Nat} {a e m : Value} {tot : List Int} (h : PerAt w g a e m tot) {i : Nat} (hi : i < tot.length) : w.cell? ⟨g, 3 + i * 2, none⟩ = some (.int .u64 (nHi (tot.getD i 0))) := by
  rw [cell_of_row w g (3 + i * 2) _ _ _ h]
  simp only [perCells, List.getElem?_toArray]
  rw [List.getElem?_append_right (by simp)]
  simpa using numCells_hi tot i hi
theorem PerAt.lo {w : World} {g : Nat} {a e m : Value} {tot : List Int} (h : PerAt w g a e m tot) {i : Nat} (hi : i < tot.length) : w.cell? ⟨g, 3 + i * 2 + 1, none⟩ = some (.int .u64 (nLo (tot.getD i 0))) := by
  rw [cell_of_row w g (3 + i * 2 + 1) _ _ _ h]
  simp only [perCells, List.getElem?_toArray]
  rw [List.getElem?_append_right (by simp; omega)]
  simpa [show 3 + i * 2 + 1 - 3 = i * 2 + 1 by omega] using numCells_lo tot i hi
theorem PerAt.free {w : World} {g : Nat} {a e m : Value} {tot : List Int} (h : PerAt w g a e m tot) (j : Nat) : w.frozen? ⟨g, j, none⟩ = false := by
  unfold PerAt at h; simp [World.frozen?, h]
theorem PerAt.lt {w : World} {g : Nat} {a e m : Value} {tot : List Int} (h : PerAt w g a e m tot) : g < w.heap.size := lt_of_block h
theorem PerAt.set {w : World} {g : Nat} {a e m : Value} {tot : List Int} (h : PerAt w g a e m tot) {i : Nat} (hi : i < tot.length) (v : Int) :
    PerAt ((w.setCell ⟨g, 3 + i * 2, none⟩ (.int .u64 (nHi v))).setCell ⟨g, 3 + i * 2 + 1, none⟩ (.int .u64 (nLo v))) g a e m (tot.set i v) := by
  have h1 := heap_setCell_same w g (3 + i * 2) _ _ (.int .u64 (nHi v)) h
  have h2 := heap_setCell_same _ g (3 + i * 2 + 1) _ _ (.int .u64 (nLo v)) h1
  unfold PerAt
  rw [h2]
  congr 2
  unfold perCells
  rw [← numCells_set tot i v hi]
  apply Array.ext'
  simp only [Array.toList_setIfInBounds]
  rw [List.set_append_right _ _ (by simp <;> omega), List.set_append_right _ _ (by simp <;> omega)]
  simp only [List.length_cons, List.length_nil, show 3 + i * 2 - (0 + 1 + 1 + 1) = i * 2 by omega, show 3 + i * 2 + 1 - (0 + 1 + 1 + 1) = i * 2 + 1 by omega]
theorem PerAt.block {w w' : World} {g : Nat} {a e m : Value} {tot : List Int} (h : PerAt w g a e m tot) (hb : w'.heap[g]? = w.heap[g]?) : PerAt w' g a e m tot := hb.trans h

/-- A number in a block of its own. -/
def NumBox (w : World) (g : Nat) (v : Int) : Prop := w.heap[g]? = some (.cells #[.int .u64 (nHi v), .int .u64 (nLo v)] 84 (0, 0))
theorem NumBox.hi {w : World} {g : Nat} {v : Int} (h : NumBox w g v) : w.cell? ⟨g, 0, none⟩ = some (.int .u64 (nHi v)) := by rw [cell_of_row w g 0 _ _ _ h]; rfl
theorem NumBox.lo {w : World} {g : Nat} {v : Int} (h : NumBox w g v) : w.cell? ⟨g, 1, none⟩ = some (.int .u64 (nLo v)) := by rw [cell_of_row w g 1 _ _ _ h]; rfl
theorem NumBox.free {w : World} {g : Nat} {v : Int} (h : NumBox w g v) (j : Nat) : w.frozen? ⟨g, j, none⟩ = false := by
  unfold NumBox at h; simp [World.frozen?, h]
theorem NumBox.lt {w : World} {g : Nat} {v : Int} (h : NumBox w g v) : g < w.heap.size := lt_of_block h
theorem NumBox.set {w : World} {g : Nat} {u : Int} (h : NumBox w g u) (v : Int) : NumBox ((w.setCell ⟨g, 0, none⟩ (.int .u64 (nHi v))).setCell ⟨g, 1, none⟩ (.int .u64 (nLo v))) g v := by
  have h1 := heap_setCell_same w g 0 _ _ (.int .u64 (nHi v)) h
  have h2 := heap_setCell_same _ g 1 _ _ (.int .u64 (nLo v)) h1
  unfold NumBox
  rw [h2]
  rfl
theorem NumBox.block {w w' : World} {g : Nat} {v : Int} (h : NumBox w g v) (hb : w'.heap[g]? = w.heap[g]?) : NumBox w' g v := hb.trans h
theorem below_put2 {w W : World} {n g i j : Nat} (h : Below n w W) (hg : n ≤ g) (a b : Value) : Below n w ((W.setCell ⟨g, i, none⟩ a).setCell ⟨g, j, none⟩ b) :=
  (h.setCell hg a).setCell hg b

namespace Sg
def acctOk (n : Nat) (p : Pst) : Prop := 0 ≤ p.acct ∧ p.acct < (n : Int)
theorem entErr_two {n : Nat} {e : Ent} {now : List Int} {k : Nat} (h : k < e.posts.length) (hb : ¬ acctOk n e.posts[k]) : entErr n e now = 2 := by
  unfold entErr
  have : e.posts.any (fun p => decide (p.acct < 0 ∨ (n : Int) ≤ p.acct)) = true := by
    rw [List.any_eq_true]
    exact ⟨_, List.getElem_mem h, decide_eq_true (by unfold acctOk at hb; omega)⟩
  rw [if_pos this]
theorem accts_any {n : Nat} {ps : List Pst} (h : ∀ p ∈ ps, acctOk n p) : ps.any (fun p => decide (p.acct < 0 ∨ (n : Int) ≤ p.acct)) = false := by
  rw [List.any_eq_false]
  intro p hp
  have := h p hp
  unfold acctOk at this
  simp; omega
theorem entErr_three {n : Nat} {e : Ent} {now : List Int} (h : ∀ p ∈ e.posts, acctOk n p) (hs : amtSum e.posts ≠ 0) : entErr n e now = 3 := by
  unfold entErr
  rw [if_neg (by rw [accts_any h]; simp), if_pos hs]
theorem entErr_four {n : Nat} {e : Ent} {now : List Int} (h : ∀ p ∈ e.posts, acctOk n p) (hs : amtSum e.posts = 0) {i : Nat} (hi : i < (comesAll e.posts now).length) (hf : fits (comesAll e.posts now)[i] = false) : entErr n e now = 4 := by
  unfold entErr
  rw [if_neg (by rw [accts_any h]; simp), if_neg (by simp [hs]), if_pos]
  rw [List.any_eq_true]
  exact ⟨_, List.getElem_mem hi, by rw [hf]; rfl⟩
theorem comesTo_other (ps : List Pst) (now : List Int) (i : Nat) : ∀ k, k ≤ ps.length → (∀ j (h : j < ps.length), j < k → ps[j].acct.toNat ≠ i) → (comesTo ps now k)[i]? = now[i]?
  | 0, _, _ => rfl
  | k + 1, hk, h => by
    rw [comesTo_succ ps now k (by omega)]
    unfold comes
    rw [List.getElem?_set_ne (h k (by omega) (by omega))]
    exact comesTo_other ps now i k (by omega) (fun j hj hjk => h j hj (by omega))
theorem entErr_zero {n : Nat} {e : Ent} {now : List Int} (h : ∀ p ∈ e.posts, acctOk n p) (hs : amtSum e.posts = 0) (hn : ∀ v ∈ now, fits v = true) (hf : ∀ p ∈ e.posts, fits ((comesAll e.posts now).getD p.acct.toNat 0) = true) : entErr n e now = 0 := by
  unfold entErr
  rw [if_neg (by rw [accts_any h]; simp), if_neg (by simp [hs]), if_neg]
  rw [Bool.not_eq_true, List.any_eq_false]
  intro v hv
  obtain ⟨i, hi, rfl⟩ := List.getElem_of_mem hv
  by_cases ht : ∃ j, ∃ hj : j < e.posts.length, e.posts[j].acct.toNat = i
  · obtain ⟨j, hj, e1⟩ := ht
    have := hf _ (List.getElem_mem hj)
    rw [e1, List.getD_eq_getElem?_getD, List.getElem?_eq_getElem hi] at this
    simpa using this
  · have := comesTo_other e.posts now i e.posts.length (Nat.le_refl _) (fun j hj _ e1 => ht ⟨j, hj, e1⟩)
    rw [comesTo_all, List.getElem?_eq_getElem hi] at this
    have hm : (comesAll e.posts now)[i] ∈ now := by
      have h2 := this.symm
      exact List.mem_of_getElem? h2
    have := hn _ hm
    simp [this]
end Sg
end Go.Proofs.YtpkkhkkkgjhkeabGreat

/-
  THE WALK of (*book.Period).post.
-/
namespace Go.Proofs.YtpkkhkkkgjhkeabGreat
open Go.RowKit Go.Maps
set_option maxRecDepth 100000
attribute [local go_sem ↓] Go.wp_at_zero Go.wp_at_succ

theorem near_tame2 {c : Nat} {v : Int} (h : Sg.Near c v) (hc : c ≤ 1000) : Tame v := by
  obtain ⟨h1, h2⟩ := h; unfold Tame; omega
theorem num_zero {s : Int} (h : Tame s) : s = 0 ↔ (nHi s == 0) = true ∧ (nLo s == 0) = true := by
  unfold Tame at h
  simp only [beq_iff_eq]
  unfold nHi nLo
  omega
theorem getElem_getD {l : List Int} {i : Nat} (h : i < l.length) : l[i] = l.getD i 0 := by
  rw [List.getD_eq_getElem?_getD, List.getElem?_eq_getElem h]; rfl

/-- What is loaded while the balances turn: the map, the posting. -/
theorem mid_new {wy : World} {g : Nat} {mv x y : Value} {t : TypeId} (h : wy.cell? ⟨g, 2, none⟩ = some mv) (n : Nat) :
    ((wy.alloc (.cells #[x, y] t)).drewN n).cell? ⟨g, 2, none⟩ = some mv ∧ ((wy.alloc (.cells #[x, y] t)).drewN n).cell? ⟨wy.heap.size, 0, none⟩ = some x ∧ ((wy.alloc (.cells #[x, y] t)).drewN n).cell? ⟨wy.heap.size, 1, none⟩ = some y :=
  ⟨by simpa using past_alloc_cell h, by simp, by simp⟩
theorem mid_drew {s g : Nat} {W : World} {mv x y : Value} (h : W.cell? ⟨g, 2, none⟩ = some mv ∧ W.cell? ⟨s, 0, none⟩ = some x ∧ W.cell? ⟨s, 1, none⟩ = some y) :
    W.drew.cell? ⟨g, 2, none⟩ = some mv ∧ W.drew.cell? ⟨s, 0, none⟩ = some x ∧ W.drew.cell? ⟨s, 1, none⟩ = some y := ⟨by simpa using h.1, by simpa using h.2.1, by simpa using h.2.2⟩
theorem mid_call {s g : Nat} {W w2 : World} {mv x y : Value} (h : W.cell? ⟨g, 2, none⟩ = some mv ∧ W.cell? ⟨s, 0, none⟩ = some x ∧ W.cell? ⟨s, 1, none⟩ = some y) (hb : Below W.heap.size W w2) :
    w2.cell? ⟨g, 2, none⟩ = some mv ∧ w2.cell? ⟨s, 0, none⟩ = some x ∧ w2.cell? ⟨s, 1, none⟩ = some y :=
  ⟨(hb.cell (p := ⟨g, 2, none⟩) (World.block_lt_of_cell? W _ h.1)).trans h.1, (hb.cell (p := ⟨s, 0, none⟩) (World.block_lt_of_cell? W _ h.2.1)).trans h.2.1, (hb.cell (p := ⟨s, 1, none⟩) (World.block_lt_of_cell? W _ h.2.2)).trans h.2.2⟩
theorem mid_put {s g m : Nat} {W w3 : World} {mv x y : Value} (h : W.cell? ⟨g, 2, none⟩ = some mv ∧ W.cell? ⟨s, 0, none⟩ = some x ∧ W.cell? ⟨s, 1, none⟩ = some y) (hg : W.grownBy w3 (some m)) (h1 : g ≠ m) (h2 : s ≠ m) :
    w3.cell? ⟨g, 2, none⟩ = some mv ∧ w3.cell? ⟨s, 0, none⟩ = some x ∧ w3.cell? ⟨s, 1, none⟩ = some y :=
  ⟨(hg.cell_far ⟨g, 2, none⟩ (World.block_lt_of_cell? W _ h.1) (by simpa using h1)).trans h.1, (hg.cell_far ⟨s, 0, none⟩ (World.block_lt_of_cell? W _ h.2.1) (by simpa using h2)).trans h.2.1, (hg.cell_far ⟨s, 1, none⟩ (World.block_lt_of_cell? W _ h.2.2) (by simpa using h2)).trans h.2.2⟩

set_option maxHeartbeats 6400000 in
/-- post. -/
theorem post_any (x : ByteArray) (ac : List Sg.Acc) (ps : List Sg.Pst) (now tot : List Int) (aoA ao : Option Addr) (nA capA np cap g m c B : Nat) (eV : Value) (w0 w : World) (hb0 : Below w0.heap.size w0 w) (h0B : w0.heap.size ≤ B) (hBg : B ≤ g) (hBm : B ≤ m) (hgm : g ≠ m)
    (hlA : ac.length = nA) (hA : AccsIn w0 aoA ac) (hlines : ∀ a ∈ ac, 0 ≤ a.line ∧ a.line ≤ 3)
    (hnp : ps.length = np) (hmax : np ≤ 6) (hnA : now.length = nA) (hn8 : nA ≤ 8) (hl : PstsIn w0 ao ps) (hok : ∀ p ∈ ps, Sg.fits p.acct = true ∧ Sg.fits p.amt = true) (hnow : ∀ v ∈ now, Sg.fits v = true)
    (ht4 : tot.length = 4) (hper : PerAt w g (.slice aoA nA capA) eV (.map (some m)) tot) (hbal : BalIn w m c now) (hc : c ≤ 900) :
    Calls Tryz.prog 58 #[.pointer (some ⟨g, 0, none⟩), .slice ao np cap] w fun e w' =>
      e = .returned (.int .i64 (Sg.entErr nA ⟨x, ps⟩ now)) ∧ Below B w w' ∧ (Sg.entErr nA ⟨x, ps⟩ now = 0 → PerAt w' g (.slice aoA nA capA) eV (.map (some m)) (Sg.linesAll ac ps tot) ∧ BalIn w' m (c + np) (Sg.comesAll ps now)) := by
  have HNP : Hid (ps.length = np) := hnp
  have HNA : Hid (now.length = nA) := hnA
  have HLA : Hid (ac.length = nA) := hlA
  have HOK : Hid (∀ p ∈ ps, Sg.fits p.acct = true ∧ Sg.fits p.amt = true) := hok
  have HNOW : Hid (∀ v ∈ now, Sg.fits v = true) := hnow
  have HLN : Hid (∀ a ∈ ac, 0 ≤ a.line ∧ a.line ≤ 3) := hlines
  have HT4 : Hid (tot.length = 4) := ht4
  have HP : Hid (PerAt w g (.slice aoA nA capA) eV (.map (some m)) tot) := hper
  have HB : Hid (BalIn w m c now) := hbal
  have hgw := hper.lt
  have hmw := hbal.lt
  clear hnp hnA hlA hok hnow hlines ht4 hper hbal
  go_enter Tryz.func58, Tryz.ntmps58
  go_wp2_with fail
  go_loopw [15] (fun i wr => ∃ k : Nat, k ≤ np ∧ i = .int .i64 (k : Int) ∧ Hid (∀ j (h : j < ps.length), j < k → Sg.acctOk nA ps[j]) ∧ Hid (NumBox wr w.heap.size (Sg.amtSum (ps.take k))) ∧ Below w.heap.size w wr) (fun i _ => np - (intOf i).toNat)
  case atStart => exact ⟨0, by omega, rfl, fun j _ hj => by omega, heap_alloc_new w _, (Below.refl _ _).alloc (Nat.le_refl _) _⟩
  case round =>
    obtain ⟨k, hk, rfl, HK, HS, hbr⟩ := hrel
    obtain ⟨wz, ewz⟩ : ∃ z : World, z = wr := ⟨_, rfl⟩
    subst ewz
    have hsz := hbr.size
    have hgz : g < wz.heap.size := by omega
    by_cases hlt : k < np
    · have hka : k < ps.length := by rw [HNP.out]; exact hlt
      have hl0 : PstsIn wz ao ps := hl.below (hb0.trans (hbr.mono hb0.size))
      obtain ⟨b, off, hao, hbw, hc0, hc1⟩ := hl0.cell (k := k) hka
      subst hao
      have i1 : (0 : Int) ≤ (k : Int) := by omega
      have i2 : (k : Int) < (np : Int) := by omega
      have pA : wz.cell? ⟨g, 0, none⟩ = some (.slice aoA nA capA) := (hbr.cell (p := ⟨g, 0, none⟩) hgw).trans HP.out.accs
      have n0 := HS.out.hi
      have n1 := HS.out.lo
      have n2 := HS.out.free 0
      have n3 := HS.out.free 1
      have n4 := HS.out.lt
      have HB2 : Hid (¬ Sg.acctOk nA ps[k] → Sg.entErr nA ⟨x, ps⟩ now = 2) := fun h => Sg.entErr_two (e := ⟨x, ps⟩) hka h
      have HGo : Hid (Sg.acctOk nA ps[k] → ∀ j (h : j < ps.length), j < k + 1 → Sg.acctOk nA ps[j]) := fun e j hj hjk => by
        by_cases e' : j = k
        · subst e'; exact e
        · exact HK.out j hj (by omega)
      obtain ⟨hfa, hfm⟩ := HOK.out ps[k] (List.getElem_mem _)
      have HSu : Hid (Sg.amtSum (ps.take (k + 1)) = Sg.amtSum (ps.take k) + ps[k].amt) := Sg.sum_take_succ ps k hka
      have hfa' : -9223372036854775808 ≤ ps[k].acct ∧ ps[k].acct ≤ 9223372036854775807 := of_decide_eq_true hfa
      have hfm' : -9223372036854775808 ≤ ps[k].amt ∧ ps[k].amt ≤ 9223372036854775807 := of_decide_eq_true hfm
      unfold Sg.acctOk at HB2
      have HAc : Hid (0 ≤ ps[k].acct ∧ ps[k].acct < (nA : Int) → Sg.acctOk nA ps[k]) := fun h => h
      generalize Sg.amtSum (ps.take k) = s at *
      generalize ps[k].acct = a at *
      generalize ps[k].amt = am at *
      clear hl hl0 HK hfa hfm
      have hwrp : IntKind.i64.wrap ((nA : Int) - 1) = (nA : Int) - 1 := IntWalk.i64_in _ (by omega)
      by_cases ok : 0 ≤ a ∧ a < (nA : Int)
      · have hw1 := fun W => within_yes a 0 ((nA : Int) - 1) W (by omega)
        have HGk := HGo.out (HAc.out ok)
        have HGK : Hid (∀ j (h : j < ps.length), j < k + 1 → Sg.acctOk nA ps[j]) := HGk
        clear HGk HGo HAc HB2 ok
        go_wp2_with fail
        go_quiet (first | (go_at_call 95; exact Calls.quiet_of_same ((hw1 _).mono fun _ _ h => ⟨h.1, h.2.symm⟩)))
        go_wp2_with (go_at_call 99; refine (plus_any s am _ hfm').mono ?_; rintro e w2 ⟨rfl, hb2⟩; have e0 : w2.cell? ⟨w.heap.size, 0, none⟩ = some (.int .u64 (nHi s)) := (hb2.cell (p := ⟨w.heap.size, 0, none⟩) (by simp; omega)).trans (by simpa using past_alloc_cell n0); have e1 : w2.cell? ⟨w.heap.size, 1, none⟩ = some (.int .u64 (nLo s)) := (hb2.cell (p := ⟨w.heap.size, 1, none⟩) (by simp; omega)).trans (by simpa using past_alloc_cell n1); have e2 : w2.frozen? ⟨w.heap.size, 0, none⟩ = false := (hb2.frozen (p := ⟨w.heap.size, 0, none⟩) (by simp; omega)).trans (by simpa using (World.frozen?_alloc_past _ _ _ n4).trans n2); have e3 : w2.frozen? ⟨w.heap.size, 1, none⟩ = false := (hb2.frozen (p := ⟨w.heap.size, 1, none⟩) (by simp; omega)).trans (by simpa using (World.frozen?_alloc_past _ _ _ n4).trans n3))
        have HS2 : Hid (NumBox ((w2.setCell ⟨w.heap.size, 0, none⟩ (.int .u64 (nHi (s + am)))).setCell ⟨w.heap.size, 1, none⟩ (.int .u64 (nLo (s + am)))) w.heap.size (Sg.amtSum (ps.take (k + 1)))) := by
          have hx : NumBox w2 w.heap.size s := (HS.out.block (Below.heap_alloc wz _ _ n4)).block (hb2.block _ (by simp; omega))
          have := hx.set (s + am)
          rw [HSu.out]
          exact this
        have HBe : Hid (Below w.heap.size w ((w2.setCell ⟨w.heap.size, 0, none⟩ (.int .u64 (nHi (s + am)))).setCell ⟨w.heap.size, 1, none⟩ (.int .u64 (nLo (s + am))))) :=
          below_put2 ((below_drewN (hbr.alloc hsz _) _).trans (hb2.mono (by simp; omega))) (Nat.le_refl _) _ _
        clear HS HSu hb2 e0 e1 e2 e3 n0 n1 n2 n3 pA
        go_wp2_with fail
        go_roundw
        case rel => exact ⟨k + 1, by omega, by go_num, HGK, HS2, HBe.out⟩
        case measure => simp [intOf]; omega
      · have hw1 := fun W => within_no a 0 ((nA : Int) - 1) W (by omega)
        have HF : Hid (2 = Sg.entErr nA ⟨x, ps⟩ now) := (HB2.out ok).symm
        clear HGo HAc HB2 ok HS HSu n0 n1 n2 n3
        go_wp2_with fail
        go_quiet (first | (go_at_call 95; exact Calls.quiet_of_same ((hw1 _).mono fun _ _ h => ⟨h.1, h.2.symm⟩)))
        go_wp2_with fail
        go_ret
        refine ⟨ret_num HF.out, below_drewN ((hbr.mono (by omega)).alloc (by omega) _) _, fun h => ?_⟩
        rw [← HF.out] at h
        simp at h
    · have HAll : Hid (∀ p ∈ ps, Sg.acctOk nA p) := by
        intro p hp
        obtain ⟨j, hj, rfl⟩ := List.getElem_of_mem hp
        exact HK.out j hj (by have := HNP.out; omega)
      have HSS : Hid (NumBox wz w.heap.size (Sg.amtSum ps)) := by
        have := HS.out
        rw [List.take_of_length_le (by rw [HNP.out]; omega)] at this
        exact this
      have hTs : Tame (Sg.amtSum ps) := by
        have := Sg.sum_near ps (fun p hp => (HOK.out p hp).2) ps.length (Nat.le_refl _)
        rw [List.take_length] at this
        exact near_tame2 this (by rw [HNP.out]; omega)
      have HZ : Hid (Sg.amtSum ps = 0 ↔ (nHi (Sg.amtSum ps) == 0) = true ∧ (nLo (Sg.amtSum ps) == 0) = true) := num_zero hTs
      have HE3 : Hid (Sg.amtSum ps ≠ 0 → Sg.entErr nA ⟨x, ps⟩ now = 3) := fun h => Sg.entErr_three (e := ⟨x, ps⟩) HAll.out h
      have hpz : Hid (PerAt wz g (.slice aoA nA capA) eV (.map (some m)) tot) := HP.out.block (hbr.block g hgw)
      have hbz : Hid (BalIn wz m c now) := HB.out.block (hbr.block m hmw)
      have n0 := HSS.out.hi
      have n1 := HSS.out.lo
      have hBz : Below B w wz := hbr.mono (by omega)
      clear HS HK HP HB hTs HSS
      by_cases hs0 : Sg.amtSum ps = 0
      · obtain ⟨z0, z1⟩ := HZ.out.1 hs0
        have HS0 : Hid (Sg.amtSum ps = 0) := hs0
        clear hs0 HZ HE3
        generalize nHi (Sg.amtSum ps) = sh at *
        generalize nLo (Sg.amtSum ps) = sl at *
        go_wp2_with fail
        clear z0 z1 n0 n1
        have HL : Hid (PstsIn w0 ao ps) := hl
        have HAA : Hid (AccsIn w0 aoA ac) := hA
        have hBg' : B ≤ w.heap.size := by omega
        clear hl hA
        go_loopw [39] (fun i wr => ∃ k : Nat, k ≤ np ∧ i = .int .i64 (k : Int) ∧ Hid (PerAt wr g (.slice aoA nA capA) eV (.map (some m)) (Sg.linesTo ac ps tot k)) ∧ Hid (BalIn wr m (c + k) (Sg.comesTo ps now k)) ∧ Below B w wr) (fun i _ => np - (intOf i).toNat)
        case atStart => exact ⟨0, by omega, rfl, hpz, hbz, hBz⟩
        case round =>
          obtain ⟨q, hq, rfl, HPq, HBq, hbq⟩ := hrel
          obtain ⟨wy, ewy⟩ : ∃ z : World, z = wr := ⟨_, rfl⟩
          subst ewy
          have h0y : Below w0.heap.size w0 wy := hb0.trans (hbq.mono h0B)
          have hgy : g < wy.heap.size := HPq.out.lt
          have hmy : m < wy.heap.size := HBq.out.lt
          by_cases hlq : q < np
          · have hqa : q < ps.length := by rw [HNP.out]; exact hlq
            obtain ⟨b, off, hao, hbw, hc0, hc1⟩ := (HL.out.below h0y).cell (k := q) hqa
            subst hao
            obtain ⟨ha0, ha1⟩ := HAll.out ps[q] (List.getElem_mem _)
            obtain ⟨ai, hai⟩ := Int.eq_ofNat_of_zero_le ha0
            have hain : ai < nA := by omega
            have hfm' : -9223372036854775808 ≤ ps[q].amt ∧ ps[q].amt ≤ 9223372036854775807 := of_decide_eq_true (HOK.out ps[q] (List.getElem_mem _)).2
            have hac : ai < ac.length := by rw [HLA.out]; exact hain
            obtain ⟨bA, offA, eA, hbA, _, hln⟩ := (HAA.out.below h0y).cell (k := ai) hac
            obtain ⟨hl0, hl1⟩ := HLN.out ac[ai] (List.getElem_mem _)
            have HS1 : Hid (Sg.comesTo ps now (q + 1) = (Sg.comesTo ps now q).set ai ((Sg.comesTo ps now q).getD ai 0 + ps[q].amt)) := by
              show _ = _
              rw [Sg.comesTo_succ ps now q hqa, hai]; rfl
            have HS2 : Hid (Sg.linesTo ac ps tot (q + 1) = (Sg.linesTo ac ps tot q).set ac[ai].line.toNat ((Sg.linesTo ac ps tot q).getD ac[ai].line.toNat 0 + ps[q].amt)) := by
              show _ = _
              rw [Sg.linesTo_succ ac ps tot q hqa, hai]
              have : Sg.lineOf ac (ai : Int) = ac[ai].line := by
                unfold Sg.lineOf
                rw [Int.toNat_natCast, List.getD_eq_getElem?_getD, List.getElem?_map, List.getElem?_eq_getElem hac]; rfl
              rw [this]; rfl
            have hL1 : (Sg.comesTo ps now q).length = nA := (Sg.comesTo_length ps now q (by omega)).trans HNA.out
            have hL2 : (Sg.linesTo ac ps tot q).length = 4 := (Sg.linesTo_length ac ps tot q (by omega)).trans HT4.out
            rw [hai] at hc0
            have hc0' : wy.cell? ⟨b, off + q * 2, none⟩ = some (.int .i64 (ai : Int)) := hc0
            generalize ps[q].amt = am at *
            generalize ac[ai].line = ln at *
            obtain ⟨li, rfl⟩ := Int.eq_ofNat_of_zero_le hl0
            have HS2' : Hid (Sg.linesTo ac ps tot (q + 1) = (Sg.linesTo ac ps tot q).set li ((Sg.linesTo ac ps tot q).getD li 0 + am)) := HS2
            have hln' : wy.cell? ⟨bA, offA + ai * 2 + 1, none⟩ = some (.int .i64 (li : Int)) := hln
            have hli : li < 4 := by have : ((li : Nat) : Int) ≤ 3 := hl1; omega
            clear hc0 hln HS2 hl0 hl1 ha0 ha1 hai
            generalize Sg.comesTo ps now q = cs at *
            generalize Sg.linesTo ac ps tot q = ls at *
            obtain ⟨v, hv⟩ : ∃ v, cs.getD ai 0 = v := ⟨_, rfl⟩
            obtain ⟨u, hu⟩ : ∃ u, ls.getD li 0 = u := ⟨_, rfl⟩
            have HV : Hid (cs.getD ai 0 = v) := hv
            have HU : Hid (ls.getD li 0 = u) := hu
            rw [hv] at HS1
            rw [hu] at HS2'
            clear hv hu
            subst eA
            have pA := HPq.out.accs
            have pM := HPq.out.bals
            have i1 : (0 : Int) ≤ (q : Int) := by omega
            have i2 : (q : Int) < (np : Int) := by omega
            have i3 : (0 : Int) ≤ (ai : Int) := by omega
            have i4 : (ai : Int) < (nA : Int) := by omega
            have i5 : (0 : Int) ≤ (li : Int) := by omega
            have i6 : (li : Int) < 4 := by omega
            go_wp2_with fail
            go_quiet (fail)
            go_wp2_with fail
            have hA15 : ∀ n, Below wy.heap.size wy ((wy.alloc (.cells #[.int .i64 (ai : Int), .int .i64 am] 49)).drewN n) := fun n => below_drewN ((Below.refl _ _).alloc (Nat.le_refl _) _) n
            have hlk := fun n => (HBq.out.below (hA15 n)).seek HV.out (by omega) (by omega)
            go_region_held3 (fun w' => w'.cell? ⟨g, 2, none⟩ = some (.map (some m)) ∧ w'.cell? ⟨wy.heap.size, 0, none⟩ = some (.int .i64 (ai : Int)) ∧ w'.cell? ⟨wy.heap.size, 1, none⟩ = some (.int .i64 am)) (first | assumption | exact mid_new pM _ | exact mid_drew (mid_new pM _) | exact mid_drew (mv := .map (some m)) (x := .int .i64 (ai : Int)) (y := .int .i64 am) (by assumption) | exact mid_put hh2 hg3 hgm (by omega))
              (first
                | (go_at_call 99; refine (plus_any v am _ hfm').mono ?_; rintro e w2 ⟨rfl, hb2⟩; have hh2 := mid_call (mv := .map (some m)) (x := .int .i64 (ai : Int)) (y := .int .i64 am) (by assumption) hb2; obtain ⟨w3, hrun3, hb3, hg3⟩ := BalIn.update (i := ai) (((HBq.out.below (by first | exact hA15 _ | exact (hA15 _).drew)).below hb2)) (by omega) (by omega) (by omega) (v + am)))
            have hsz2 := hb2.size
            have ewg : w2.heap[g]? = wy.heap[g]? := (hb2.block g (by simp; omega)).trans ((hA15 _).block g hgy)
            have HP3 : Hid (PerAt w3 g (.slice (some ⟨bA, offA, none⟩) nA capA) eV (.map (some m)) ls) := (HPq.out.block ewg).block (hg3.block g (by simp at hsz2; omega) (by simpa using hgm))
            have HB3 : Hid (BalIn w3 m (c + (q + 1)) (Sg.comesTo ps now (q + 1))) := by rw [HS1.out]; exact hb3
            have hB3 : Below B w w3 := ((hbq.trans ((hA15 _).mono (by omega))).trans (hb2.mono (by simp; omega))).grown hg3 (by simp at hsz2; omega) (fun k hk => by simp at hk; omega)
            have d0 := HP3.out.hi (i := li) (by omega)
            have d1 := HP3.out.lo (i := li) (by omega)
            have d2 := HP3.out.free (3 + li * 2)
            have d3 := HP3.out.free (3 + li * 2 + 1)
            rw [HU.out] at d0 d1
            have d4 := (mid_put hh2 hg3 hgm (by omega)).2.2
            have hg3z := HP3.out.lt
            have hsz3 := hg3.size
            clear hb2 hrun3 hb3 hg3 hh2 hlk hA15 HPq HBq pA pM HS1 ewg hc0' hc1 hln'
            go_wp2_with fail
            go_region_with (first | (go_at_call 99; refine (plus_any u am _ hfm').mono ?_; rintro e w4 ⟨rfl, hb4⟩; have c0 : w4.cell? ⟨g, 3 + li * 2, none⟩ = some (.int .u64 (nHi u)) := (hb4.cell (p := ⟨g, 3 + li * 2, none⟩) (by simpa using hg3z)).trans (by simpa using d0); have c1 : w4.cell? ⟨g, 3 + li * 2 + 1, none⟩ = some (.int .u64 (nLo u)) := (hb4.cell (p := ⟨g, 3 + li * 2 + 1, none⟩) (by simpa using hg3z)).trans (by simpa using d1); have c2 : w4.frozen? ⟨g, 3 + li * 2, none⟩ = false := (hb4.frozen (p := ⟨g, 3 + li * 2, none⟩) (by simpa using hg3z)).trans (by simpa using d2); have c3 : w4.frozen? ⟨g, 3 + li * 2 + 1, none⟩ = false := (hb4.frozen (p := ⟨g, 3 + li * 2 + 1, none⟩) (by simpa using hg3z)).trans (by simpa using d3)))
            all_goals
              have hb5 : Below w3.heap.size w3 w4 := by first | exact hb4 | exact ((Below.refl _ _).drew).trans hb4 | exact (below_drewN (Below.refl _ _) _).trans hb4
              have HPn : Hid (PerAt ((w4.setCell ⟨g, 3 + li * 2, none⟩ (.int .u64 (nHi (u + am)))).setCell ⟨g, 3 + li * 2 + 1, none⟩ (.int .u64 (nLo (u + am)))) g (.slice (some ⟨bA, offA, none⟩) nA capA) eV (.map (some m)) (Sg.linesTo ac ps tot (q + 1))) := by
                rw [HS2'.out]
                exact (HP3.out.block (hb5.block g hg3z)).set (by omega) (u + am)
              have HBn : Hid (BalIn ((w4.setCell ⟨g, 3 + li * 2, none⟩ (.int .u64 (nHi (u + am)))).setCell ⟨g, 3 + li * 2 + 1, none⟩ (.int .u64 (nLo (u + am)))) m (c + (q + 1)) (Sg.comesTo ps now (q + 1))) :=
                (HB3.out.below hb5).block ((Below.heap_setCell _ _ _ _ (fun e => hgm e.symm)).trans (Below.heap_setCell _ _ _ _ (fun e => hgm e.symm)))
              have HBe : Hid (Below B w ((w4.setCell ⟨g, 3 + li * 2, none⟩ (.int .u64 (nHi (u + am)))).setCell ⟨g, 3 + li * 2 + 1, none⟩ (.int .u64 (nLo (u + am))))) :=
                below_put2 (hB3.trans (hb5.mono (by omega))) hBg _ _
              clear hb5 hb4 c0 c1 c2 c3 d0 d1 d2 d3 d4 HP3 HB3 hB3
              go_wp2_with fail
              go_roundw
              case rel => exact ⟨q + 1, by omega, by go_num, HPn, HBn, HBe.out⟩
              case measure => simp [intOf]; omega
          · have HPy : Hid (PerAt wy g (.slice aoA nA capA) eV (.map (some m)) (Sg.linesAll ac ps tot)) := by
              have := HPq.out
              rw [show q = ps.length by rw [HNP.out]; omega, Sg.linesTo_all] at this
              exact this
            have HBy : Hid (BalIn wy m (c + np) (Sg.comesAll ps now)) := by
              have := HBq.out
              rw [show q = ps.length by rw [HNP.out]; omega, Sg.comesTo_all, HNP.out] at this
              exact this
            have HNr : Hid (∀ v ∈ Sg.comesAll ps now, Sg.Near 10 v) := by
              intro v hv
              rw [← Sg.comesTo_all] at hv
              have := Sg.comesTo_near ps now 1 (fun v hv => Sg.near_fits (HNOW.out v hv)) (fun p hp => (HOK.out p hp).2) (fun p hp => by rw [HNA.out]; exact HAll.out p hp) ps.length (Nat.le_refl _) v hv
              exact this.mono (by rw [HNP.out]; omega)
            have HLc : Hid ((Sg.comesAll ps now).length = nA) := by
              show _ = _
              rw [← Sg.comesTo_all]
              exact (Sg.comesTo_length ps now ps.length (Nat.le_refl _)).trans HNA.out
            clear HPq HBq
            go_wp2_with fail
            go_loopw [85] (fun i wr => ∃ r : Nat, r ≤ np ∧ i = .int .i64 (r : Int) ∧ Hid (∀ j (h : j < ps.length), j < r → Sg.fits ((Sg.comesAll ps now).getD ps[j].acct.toNat 0) = true) ∧ Below wy.heap.size wy wr) (fun i _ => np - (intOf i).toNat)
            case atStart => exact ⟨0, by omega, rfl, fun j _ hj => by omega, Below.refl _ _⟩
            case round =>
              obtain ⟨r, hr, rfl, HR, hbr3⟩ := hrel
              obtain ⟨wv, ewv⟩ : ∃ z : World, z = wr := ⟨_, rfl⟩
              subst ewv
              have hszv := hbr3.size
              by_cases hlr : r < np
              · have hra : r < ps.length := by rw [HNP.out]; exact hlr
                obtain ⟨b, off, hao, hbw, hc0, hc1⟩ := ((HL.out.below h0y).below hbr3).cell (k := r) hra
                subst hao
                obtain ⟨ha0, ha1⟩ := HAll.out ps[r] (List.getElem_mem _)
                obtain ⟨ai, hai⟩ := Int.eq_ofNat_of_zero_le ha0
                have hain : ai < nA := by omega
                have HB4 : Hid (Sg.fits ((Sg.comesAll ps now).getD ps[r].acct.toNat 0) = false → Sg.entErr nA ⟨x, ps⟩ now = 4) := fun h => by
                  have hi : ai < (Sg.comesAll ps now).length := by rw [HLc.out]; exact hain
                  refine Sg.entErr_four (e := ⟨x, ps⟩) HAll.out HS0.out (i := ai) hi ?_
                  rw [hai] at h
                  rw [getElem_getD hi]
                  exact h
                have HGo : Hid (Sg.fits ((Sg.comesAll ps now).getD ps[r].acct.toNat 0) = true → ∀ j (h : j < ps.length), j < r + 1 → Sg.fits ((Sg.comesAll ps now).getD ps[j].acct.toNat 0) = true) := fun e j hj hjk => by
                  by_cases e' : j = r
                  · subst e'; exact e
                  · exact HR.out j hj (by omega)
                obtain ⟨v, hv⟩ : ∃ v, (Sg.comesAll ps now).getD ai 0 = v := ⟨_, rfl⟩
                have hT : Tame v := by
                  have hi : ai < (Sg.comesAll ps now).length := by rw [HLc.out]; exact hain
                  refine near_tame2 (HNr.out v ?_) (by omega)
                  rw [← hv, List.getD_eq_getElem?_getD, List.getElem?_eq_getElem hi]; simp
                have HV : Hid ((Sg.comesAll ps now).getD ai 0 = v) := hv
                have ev : (Sg.comesAll ps now).getD ps[r].acct.toNat 0 = v := by rw [hai]; exact hv
                rw [ev] at HB4 HGo
                rw [hai] at hc0
                have hc0' : wv.cell? ⟨b, off + r * 2, none⟩ = some (.int .i64 (ai : Int)) := hc0
                generalize ps[r].amt = am at *
                clear hc0 hai ha0 ha1 ev hv HR
                have HByv : Hid (BalIn wv m (c + np) (Sg.comesAll ps now)) := HBy.out.below hbr3
                have pM : wv.cell? ⟨g, 2, none⟩ = some (.map (some m)) := (hbr3.cell (p := ⟨g, 2, none⟩) hgy).trans HPy.out.bals
                have i1 : (0 : Int) ≤ (r : Int) := by omega
                have i2 : (r : Int) < (np : Int) := by omega
                have hlen := HLc.out
                have hA15 : ∀ n, Below wv.heap.size wv ((wv.alloc (.cells #[.int .i64 (ai : Int), .int .i64 am] 49)).drewN n) := fun n => below_drewN ((Below.refl _ _).alloc (Nat.le_refl _) _) n
                have hlk := (HByv.out.below (((Below.refl wv.heap.size wv).alloc (Nat.le_refl _) (.cells #[.int .i64 (ai : Int), .int .i64 am] 49)).drew)).seek HV.out (by omega) (by omega)
                clear hlen
                have hff := fun W => numFits_any v W hT
                by_cases hf : Sg.fits v = true
                · rw [hf] at hff
                  have HGk : Hid (∀ j (h : j < ps.length), j < r + 1 → Sg.fits ((Sg.comesAll ps now).getD ps[j].acct.toNat 0) = true) := HGo.out hf
                  clear HGo HB4 hf
                  go_wp2_with fail
                  go_region_held3 (fun w' => w'.cell? ⟨g, 2, none⟩ = some (.map (some m)) ∧ w'.cell? ⟨wv.heap.size, 0, none⟩ = some (.int .i64 (ai : Int)) ∧ w'.cell? ⟨wv.heap.size, 1, none⟩ = some (.int .i64 am)) (first | assumption | exact mid_new pM 0 | exact mid_drew (mid_new pM 0) | exact mid_drew (mv := .map (some m)) (x := .int .i64 (ai : Int)) (y := .int .i64 am) (by assumption))
                    (first
                      | (go_at_call 59; refine (hff _).mono ?_; rintro e w2 ⟨rfl, hb2⟩; have hh2 := mid_call (mv := .map (some m)) (x := .int .i64 (ai : Int)) (y := .int .i64 am) (by assumption) hb2))
                  have hb5 : Below wv.heap.size wv w2 := ((hA15 0).drew).trans (hb2.mono (by simp))
                  clear hh2 hlk hff hb2 pM
                  go_wp2_with fail
                  go_roundw
                  case rel => exact ⟨r + 1, by omega, by go_num, HGk, hbr3.trans (hb5.mono (by omega))⟩
                  case measure => simp [intOf]; omega
                · have hf' : Sg.fits v = false := Bool.eq_false_iff.2 hf
                  rw [hf'] at hff
                  have HF : Hid (4 = Sg.entErr nA ⟨x, ps⟩ now) := (HB4.out hf').symm
                  clear HGo HB4 hf hf'
                  go_wp2_with fail
                  go_region_held3 (fun w' => w'.cell? ⟨g, 2, none⟩ = some (.map (some m)) ∧ w'.cell? ⟨wv.heap.size, 0, none⟩ = some (.int .i64 (ai : Int)) ∧ w'.cell? ⟨wv.heap.size, 1, none⟩ = some (.int .i64 am)) (first | assumption | exact mid_new pM 0 | exact mid_drew (mid_new pM 0) | exact mid_drew (mv := .map (some m)) (x := .int .i64 (ai : Int)) (y := .int .i64 am) (by assumption))
                    (first
                      | (go_at_call 59; refine (hff _).mono ?_; rintro e w2 ⟨rfl, hb2⟩; have hh2 := mid_call (mv := .map (some m)) (x := .int .i64 (ai : Int)) (y := .int .i64 am) (by assumption) hb2))
                  have hb5 : Below wv.heap.size wv w2 := ((hA15 0).drew).trans (hb2.mono (by simp))
                  clear hh2 hlk hff hb2 pM
                  go_wp2_with fail
                  go_ret
                  refine ⟨ret_num HF.out, hbq.trans ((hbr3.trans (hb5.mono (by omega))).mono (by omega)), fun h => ?_⟩
                  rw [← HF.out] at h
                  simp at h
              · have HF : Hid (0 = Sg.entErr nA ⟨x, ps⟩ now) := (Sg.entErr_zero (e := ⟨x, ps⟩) HAll.out HS0.out HNOW.out (fun p hp => by
                  obtain ⟨j, hj, rfl⟩ := List.getElem_of_mem hp
                  have hj' : j < ps.length := hj
                  exact HR.out j hj (by have := HNP.out; omega))).symm
                clear HR
                go_wp2_with fail
                go_ret
                exact ⟨ret_num HF.out, hbq.trans (hbr3.mono (by omega)), fun _ => ⟨HPy.out.block (hbr3.block g hgy), HBy.out.below hbr3⟩⟩
      · have hzz : (nHi (Sg.amtSum ps) == 0) = false ∨ ((nHi (Sg.amtSum ps) == 0) = true ∧ (nLo (Sg.amtSum ps) == 0) = false) := by
          by_cases q0 : (nHi (Sg.amtSum ps) == 0) = true
          · by_cases q1 : (nLo (Sg.amtSum ps) == 0) = true
            · exact absurd (HZ.out.2 ⟨q0, q1⟩) hs0
            · exact Or.inr ⟨q0, Bool.eq_false_iff.2 q1⟩
          · exact Or.inl (Bool.eq_false_iff.2 q0)
        have HF : Hid (3 = Sg.entErr nA ⟨x, ps⟩ now) := (HE3.out hs0).symm
        clear hs0 HZ HE3
        generalize nHi (Sg.amtSum ps) = sh at *
        generalize nLo (Sg.amtSum ps) = sl at *
        rcases hzz with z0 | ⟨z0, z1⟩
        all_goals
          go_wp2_with fail
          go_ret
          refine ⟨ret_num HF.out, hBz, fun h => ?_⟩
          rw [← HF.out] at h
          simp at h
end Go.Proofs.YtpkkhkkkgjhkeabGreat

/-
  A strings.Builder; and the walks of book.Chart, entryText.
-/
namespace Go.Proofs.YtpkkhkkkgjhkeabGreat
open Go.RowKit
set_option maxRecDepth 100000
attribute [local go_sem ↓] Go.wp_at_zero Go.wp_at_succ

/-- A builder in block b that holds a text; its bytes lie behind b. -/
def TB (w : World) (b : Nat) (s : ByteArray) : Prop := Lib.IsBuilderF 92 5 b b (Lib.strCells s) w
theorem TB.new (w : World) : TB (w.alloc (.cells #[.pointer none, .slice none 0 0] 92)) w.heap.size ByteArray.empty :=
  Or.inl ⟨Nat.le_refl _, .slice none 0 0, heap_alloc_new w _, World.ownsRowF_nil _ _ _ _, by simp [Value.ownBlock]⟩
theorem TB.below {w w' : World} {b : Nat} {s : ByteArray} (h : TB w b s) (hb : Below w.heap.size w w') : TB w' b s := by
  have key : ∀ p, Lib.BuilderAtF 92 5 b b p (Lib.strCells s) w → Lib.BuilderAtF 92 5 b b p (Lib.strCells s) w' := by
    rintro p ⟨h1, v, h2, h3, h4⟩
    have hlt : b < w.heap.size := lt_of_block h2
    refine ⟨h1, v, (hb.block b hlt).trans h2, h3.kept (row := some w.heap.size) ⟨hb.os, hb.tape, hb.output, hb.size, fun k hk _ => hb.block k hk⟩ ?_, h4⟩
    by_cases e : v.ownBlock = none
    · exact Or.inl e
    · refine Or.inr (fun e' => ?_)
      have := (h3.lt _ e').2
      omega
  exact h.elim (fun x => .inl (key _ x)) (fun x => .inr (key _ x))
theorem TB.drew {w : World} {b : Nat} {s : ByteArray} (h : TB w b s) : TB w.drew b s := h
theorem TB.lt {w : World} {b : Nat} {s : ByteArray} (h : TB w b s) : b < w.heap.size := h.elim (fun x => x.lt) (fun x => x.lt)
/-- What a write keeps. -/
def Kept (b : Nat) (w w' : World) : Prop := ∀ k cs t fz, w.heap[k]? = some (.cells cs t fz) → k ≠ b → t ≠ 5 → w'.heap[k]? = some (.cells cs t fz)
theorem Kept.cells {b : Nat} {w w' : World} (h : Kept b w w') {k : Nat} {cs : Array Value} {t : TypeId} {fz : Nat × Nat} (hk : w.heap[k]? = some (.cells cs t fz)) (h1 : k ≠ b) (h2 : t ≠ 5) (j : Nat) {v : Value} (hv : cs[j]? = some v) : w'.cell? ⟨k, j, none⟩ = some v := by
  rw [cell_of_row w' k j _ _ _ (h k cs t fz hk h1 h2)]; exact hv
theorem write_any (b : Nat) (s x : ByteArray) (w : World) (h : TB w b s) (hlen : s.size + x.size ≤ 140737488355328) :
    Calls Tryz.prog 31 #[.pointer (some ⟨b, 0, none⟩), .string x] w fun e w' => e = .returned (.tuple #[.int .i64 x.size, .nilIface]) ∧ TB w' b (s ++ x) ∧ Below b w w' ∧ Kept b w w' := by
  refine (Any.Builder_WriteString_k { Tryz.lays156 with } Tryz.Builder_Extra_156 b b (Lib.strCells s) x w h (by rw [Lib.strCells_length]; exact hlen) (Nat.le_of_lt h.lt)).mono ?_
  rintro e w' ⟨rfl, h1, h2, h3⟩
  refine ⟨rfl, Or.inr ?_, h2, fun k cs t fz hk hb ht => h3 k _ hk (by simpa using hb) (fun c fz' e => ?_)⟩
  · have e : Lib.strCells (s ++ x) = Lib.strCells s ++ Lib.strCells x := by
      unfold Lib.strCells
      rw [← List.map_append]
      congr 1
    rw [e]
    exact h1
  · simp only [Obj.cells.injEq] at e
    exact ht e.2.1
theorem string_any (b : Nat) (s : ByteArray) (w : World) (h : TB w b s) :
    Calls Tryz.prog 35 #[.pointer (some ⟨b, 0, none⟩)] w fun e w' => e = .returned (.string s) ∧ Below b w w' := by
  refine (Any.Builder_String_any_f { Tryz.lays156 with } Tryz.Builder_Extra_156 b b s.data.toList w h (Nat.le_of_lt h.lt)).mono ?_
  rintro e w' ⟨rfl, _, h2⟩
  exact ⟨by simp, h2⟩

/-- lay.One, the text under a name of its own. -/
theorem one_txt (n : Int) (w : World) :
    Calls Tryz.prog 33 #[.int .i64 n] w fun e w' => ∃ y : ByteArray, e = .returned (.string y) ∧ Hid (y = Sg.beB n 1) ∧ y.size ≤ 8 ∧ Below w.heap.size w w' := by
  refine (one_any n w).mono ?_
  rintro e w' ⟨rfl, hb⟩
  exact ⟨_, rfl, rfl, by rw [Sg.beB_size]; omega, hb⟩
theorem eight_txt (n : Int) (w : World) (hn : -9223372036854775808 ≤ n ∧ n ≤ 9223372036854775807) :
    Calls Tryz.prog 80 #[.int .i64 n] w fun e w' => ∃ y : ByteArray, e = .returned (.string y) ∧ Hid (y = Sg.beB n 8) ∧ y.size ≤ 8 ∧ Below w.heap.size w w' := by
  refine (eight_any n w hn).mono ?_
  rintro e w' ⟨rfl, hb⟩
  exact ⟨_, rfl, rfl, by rw [Sg.beB_size]; omega, hb⟩

/-- A box of two cells. -/
def Two (w : World) (g : Nat) (x y : Value) (t : TypeId) : Prop := w.heap[g]? = some (.cells #[x, y] t (0, 0))
theorem Two.cells {w : World} {g : Nat} {x y : Value} {t : TypeId} (h : Two w g x y t) : w.cell? ⟨g, 0, none⟩ = some x ∧ w.cell? ⟨g, 1, none⟩ = some y := ⟨by rw [cell_of_row w g 0 _ _ _ h]; rfl, by rw [cell_of_row w g 1 _ _ _ h]; rfl⟩
theorem Two.new (w : World) (x y : Value) (t : TypeId) : Two (w.alloc (.cells #[x, y] t)) w.heap.size x y t := heap_alloc_new w _
theorem Two.below {w w' : World} {g : Nat} {x y : Value} {t : TypeId} (h : Two w g x y t) (hb : Below w.heap.size w w') : Two w' g x y t := (hb.block g (lt_of_block h)).trans h
theorem Two.kept {w w' : World} {b g : Nat} {x y : Value} {t : TypeId} (h : Two w g x y t) (hk : Kept b w w') (h1 : g ≠ b) (h2 : t ≠ 5) : Two w' g x y t := hk g _ t _ h h1 h2
theorem Two.drew {w : World} {g : Nat} {x y : Value} {t : TypeId} (h : Two w g x y t) : Two w.drew g x y t := h
/-- .. as the drawn regions ask it. -/
theorem two_drew {W : World} {g : Nat} {x y : Value} (h : W.cell? ⟨g, 0, none⟩ = some x ∧ W.cell? ⟨g, 1, none⟩ = some y) : W.drew.cell? ⟨g, 0, none⟩ = some x ∧ W.drew.cell? ⟨g, 1, none⟩ = some y := ⟨by simpa using h.1, by simpa using h.2⟩

set_option maxHeartbeats 3200000 in
/-- Book.Chart. -/
theorem bChart_any (ac : List Sg.Acc) (ao : Option Addr) (n cap : Nat) (vP : Value) (w : World) (hl : ac.length = n) (hn8 : n ≤ 8) (hA : AccsIn w ao ac) (hok : ∀ a ∈ ac, a.name.size ≤ 12) :
    Calls Tryz.prog 32 #[.agg #[.slice ao n cap, vP]] w fun e w' => ∃ y, e = .returned (.string y) ∧ Hid (y = Sg.chartB ac) ∧ y.size ≤ 120 ∧ Below w.heap.size w w' := by
  have HN : Hid (ac.length = n) := hl
  clear hl
  have HA : Hid (AccsIn w ao ac) := hA
  have HOK : Hid (∀ a ∈ ac, a.name.size ≤ 12) := hok
  clear hA hok
  go_enter Tryz.func32, Tryz.ntmps32
  go_wp2_with fail
  refine (one_txt _ _).mono ?_
  rintro e w1 ⟨y0, rfl, H0, hy0, hb1⟩
  go_wp2_with fail
  have ht1 : TB w1 (w.heap.size + 1) ByteArray.empty := by
    have := TB.new (w.alloc (.cells #[.slice ao n cap, vP] 65))
    have e : (w.alloc (.cells #[.slice ao n cap, vP] 65)).heap.size = w.heap.size + 1 := by simp
    rw [e] at this
    exact this.below hb1
  have hx1 : Two w1 w.heap.size (.slice ao n cap) vP 65 := ((Two.new w _ _ _).below ((Below.refl _ _).alloc (Nat.le_refl _) _)).below hb1
  have hbw1 : Below w.heap.size w w1 := (((Below.refl _ _).alloc (Nat.le_refl _) _).alloc (by simp) _).trans (hb1.mono (by simp; omega))
  clear hb1
  refine (write_any (w.heap.size + 1) ByteArray.empty y0 w1 ht1 (by simp; omega)).mono ?_
  rintro e w2 ⟨rfl, ht2, hb2, hk2⟩
  have hx2 : Two w2 w.heap.size (.slice ao n cap) vP 65 := hx1.kept hk2 (by omega) (by decide)
  have hbw2 : Below w.heap.size w w2 := hbw1.trans (hb2.mono (by omega))
  obtain ⟨c0, _⟩ := hx2.cells
  have HT2 : Hid (TB w2 (w.heap.size + 1) (Sg.chartTo ac 0)) := by
    have e : ByteArray.empty ++ y0 = Sg.chartTo ac 0 := by
      rw [H0.out]; unfold Sg.chartTo
      simp [HN.out]
    rw [← e]
    exact ht2
  clear ht1 hx1 hbw1 hk2 hb2 ht2
  go_wp2_with fail
  go_loopw [14] (fun i wr => ∃ k : Nat, k ≤ n ∧ i = .int .i64 (k : Int) ∧ Hid (TB wr (w.heap.size + 1) (Sg.chartTo ac k)) ∧ Below w.heap.size w wr) (fun i _ => n - (intOf i).toNat)
  case atStart => exact ⟨0, by omega, rfl, HT2, hbw2⟩
  case round =>
    obtain ⟨k, hk, rfl, HT, hbr⟩ := hrel
    obtain ⟨wz, ewz⟩ : ∃ z : World, z = wr := ⟨_, rfl⟩
    subst ewz
    have hsz := hbr.size
    have htl := HT.out.lt
    clear HT2 hbw2 hx2 c0
    by_cases hlt : k < n
    · have hka : k < ac.length := by rw [HN.out]; exact hlt
      obtain ⟨b, off, hao, hbw, hc0, hc1⟩ := (HA.out.below hbr).cell (k := k) hka
      subst hao
      have hx1 := HOK.out ac[k] (List.getElem_mem _)
      have HS : Hid (Sg.chartTo ac (k + 1) = Sg.accText (Sg.chartTo ac k) ac[k]) := Sg.chartTo_succ ac k hka
      have hos : (Sg.chartTo ac k).size ≤ 1 + 14 * k := Sg.chartTo_size ac HOK.out k (by omega)
      obtain ⟨x, ln, hax⟩ : ∃ x ln, ac[k] = ⟨x, ln⟩ := ⟨ac[k].name, ac[k].line, rfl⟩
      rw [hax] at hc0 hc1 hx1 HS
      simp only at hc0 hc1 hx1
      unfold Sg.accText at HS
      simp only at HS
      generalize Sg.chartTo ac k = oo at *
      clear hax
      have i1 : (0 : Int) ≤ (k : Int) := by omega
      have i2 : (k : Int) < (n : Int) := by omega
      have aA : Below wz.heap.size wz (wz.alloc (.cells #[.string x, .int .i64 ln] 47)) := (Below.refl _ _).alloc (Nat.le_refl _) _
      have hT0 : Two (wz.alloc (.cells #[.string x, .int .i64 ln] 47)) wz.heap.size (.string x) (.int .i64 ln) 47 := Two.new _ _ _ _
      go_wp2_with fail
      go_region_held3 (fun w' => w'.cell? ⟨wz.heap.size, 0, none⟩ = some (.string x) ∧ w'.cell? ⟨wz.heap.size, 1, none⟩ = some (.int .i64 ln)) (first | assumption | exact hT0.cells | exact two_drew hT0.cells | exact two_drew (x := .string x) (y := .int .i64 ln) (by assumption))
        (first
          | (go_at_call_of 33 (Value.int IntKind.i64 ln); refine (one_txt ln _).mono ?_; rintro e w4 ⟨y2, rfl, hy2, hys2, hb4⟩; have q3 := cat (y1 ++ x) y2 (by rw [cat_size]; omega); have hT4 : Two w4 wz.heap.size (.string x) (.int .i64 ln) 47 := (by first | exact hT3.below hb4 | exact hT3.drew.below hb4); have tb4 : TB w4 (w.heap.size + 1) oo := (by first | exact tb3.below hb4 | exact tb3.drew.below hb4); have hh4 := hT4.cells; have b4 : Below wz.heap.size wz w4 := (by first | exact b3.trans (hb4.mono b3.size) | exact b3.drew.trans (hb4.mono b3.size)))
          | (go_at_call 33; refine (one_txt (x.size : Int) _).mono ?_; rintro e w3 ⟨y1, rfl, hy1, hys1, hb3⟩; have q2 := cat y1 x (by omega); have hT3 : Two w3 wz.heap.size (.string x) (.int .i64 ln) 47 := Two.below (by first | exact hT0.drew | exact hT0) hb3; have tb3 : TB w3 (w.heap.size + 1) oo := TB.below (by first | exact (HT.out.below aA).drew | exact HT.out.below aA) hb3; have hh3 := hT3.cells; have b3 : Below wz.heap.size wz w3 := (by first | exact aA.drew.trans (hb3.mono (by simp)) | exact aA.trans (hb3.mono (by simp))))
          | (go_at_call 31; refine (write_any (w.heap.size + 1) oo (y1 ++ x ++ y2) _ tb4 (by rw [cat_size, cat_size]; omega)).mono ?_; rintro e w5 ⟨rfl, tb5, hb5, hk5⟩; have hh5 := (hT4.kept hk5 (by omega) (by decide)).cells; have b5 : Below (w.heap.size + 1) wz w5 := (b4.mono (by omega)).trans hb5))
      have hbe : Below w.heap.size w w5 := hbr.trans (b5.mono (by omega))
      have HTn : Hid (TB w5 (w.heap.size + 1) (Sg.chartTo ac (k + 1))) := by
        show TB _ _ _
        rw [HS.out, ← hy1.out, ← hy2.out]
        simpa [ByteArray.append_assoc] using tb5
      clear hh3 hh4 hh5 hb3 hb4 hb5 hk5 tb3 tb4 tb5 hT3 hT4 q2 q3 b3 b4 b5 hT0 aA HS
      go_wp2_with fail
      go_roundw
      case rel => exact ⟨k + 1, by omega, by go_num, HTn, hbe⟩
      case measure => simp [intOf]; omega
    · have HE : Hid (Sg.chartTo ac k = Sg.chartB ac) := by
        show _ = _
        rw [show k = ac.length by rw [HN.out]; omega, Sg.chartTo_all]
      have hsize : (Sg.chartTo ac k).size ≤ 120 := by
        have := Sg.chartTo_size ac HOK.out k (by rw [HN.out]; omega)
        omega
      generalize Sg.chartTo ac k = oo at *
      go_wp2_with fail
      refine (string_any _ _ _ HT.out).mono ?_
      rintro e w3 ⟨rfl, hb3⟩
      go_wp2_with fail
      go_ret
      exact ⟨_, rfl, HE, hsize, hbr.trans (hb3.mono (by omega))⟩

/-- lay.Eight and One of a posting. -/
theorem pstText_cat (oo y1 y2 : ByteArray) (p : Sg.Pst) (h1 : y1 = Sg.beB p.acct 1) (h2 : y2 = Sg.beB p.amt 8) : oo ++ (y1 ++ y2) = Sg.pstText oo p := by
  unfold Sg.pstText; rw [h1, h2, ByteArray.append_assoc]

set_option maxHeartbeats 3200000 in
/-- entryText. -/
theorem entryText_any (x : ByteArray) (ps : List Sg.Pst) (ao : Option Addr) (n cap : Nat) (w : World) (hl : ps.length = n) (hn6 : n ≤ 6) (hA : PstsIn w ao ps) (hx : x.size ≤ 20) (hok : ∀ p ∈ ps, Sg.fits p.acct = true ∧ Sg.fits p.amt = true) :
    Calls Tryz.prog 101 #[.agg #[.string x, .slice ao n cap]] w fun e w' => ∃ y, e = .returned (.string y) ∧ Hid (y = Sg.entB ⟨x, ps⟩) ∧ y.size ≤ 80 ∧ Below w.heap.size w w' := by
  have HN : Hid (ps.length = n) := hl
  clear hl
  have HA : Hid (PstsIn w ao ps) := hA
  have HOK : Hid (∀ p ∈ ps, Sg.fits p.acct = true ∧ Sg.fits p.amt = true) := hok
  clear hA hok
  have aB : Below w.heap.size w ((w.alloc (.cells #[.string x, .slice ao n cap] 45)).alloc (.cells #[.pointer none, .slice none 0 0] 92)) := ((Below.refl _ _).alloc (Nat.le_refl _) _).alloc (by simp) _
  have hB0 : Two ((w.alloc (.cells #[.string x, .slice ao n cap] 45)).alloc (.cells #[.pointer none, .slice none 0 0] 92)) w.heap.size (.string x) (.slice ao n cap) 45 := (Two.new w _ _ _).below ((Below.refl _ _).alloc (Nat.le_refl _) _)
  have ht0 : TB ((w.alloc (.cells #[.string x, .slice ao n cap] 45)).alloc (.cells #[.pointer none, .slice none 0 0] 92)) (w.heap.size + 1) ByteArray.empty := by
    have := TB.new (w.alloc (.cells #[.string x, .slice ao n cap] 45))
    have e : (w.alloc (.cells #[.string x, .slice ao n cap] 45)).heap.size = w.heap.size + 1 := by simp
    rw [e] at this
    exact this
  go_enter Tryz.func101, Tryz.ntmps101
  go_wp2_with fail
  go_region_held3 (fun w' => w'.cell? ⟨w.heap.size, 0, none⟩ = some (.string x) ∧ w'.cell? ⟨w.heap.size, 1, none⟩ = some (.slice ao n cap)) (first | assumption | exact hB0.cells | exact two_drew hB0.cells | exact two_drew (x := .string x) (y := .slice ao n cap) (by assumption))
    (first
      | (go_at_call_of 33 (Value.int IntKind.i64 (n : Int)); refine (one_txt (n : Int) _).mono ?_; rintro e w4 ⟨y2, rfl, hy2, hys2, hb4⟩; have q3 := cat (y1 ++ x) y2 (by rw [cat_size]; omega); have hT4 : Two w4 w.heap.size (.string x) (.slice ao n cap) 45 := (by first | exact hT3.below hb4 | exact hT3.drew.below hb4); have tb4 : TB w4 (w.heap.size + 1) ByteArray.empty := (by first | exact tb3.below hb4 | exact tb3.drew.below hb4); have hh4 := hT4.cells; have b4 : Below w.heap.size w w4 := (by first | exact b3.trans (hb4.mono b3.size) | exact b3.drew.trans (hb4.mono b3.size)))
      | (go_at_call 33; refine (one_txt (x.size : Int) _).mono ?_; rintro e w3 ⟨y1, rfl, hy1, hys1, hb3⟩; have q2 := cat y1 x (by omega); have hT3 : Two w3 w.heap.size (.string x) (.slice ao n cap) 45 := Two.below (by first | exact hB0.drew | exact hB0) hb3; have tb3 : TB w3 (w.heap.size + 1) ByteArray.empty := TB.below (by first | exact ht0.drew | exact ht0) hb3; have hh3 := hT3.cells; have b3 : Below w.heap.size w w3 := (by first | exact aB.drew.trans (hb3.mono (by simp; omega)) | exact aB.trans (hb3.mono (by simp; omega))))
      | (go_at_call 31; refine (write_any (w.heap.size + 1) ByteArray.empty (y1 ++ x ++ y2) _ tb4 (by rw [cat_size, cat_size]; simp; omega)).mono ?_; rintro e w5 ⟨rfl, tb5, hb5, hk5⟩; have hT5 := hT4.kept hk5 (by omega) (by decide); have hh5 := hT5.cells; have b5 : Below w.heap.size w w5 := b4.trans (hb5.mono (by omega))))
  have HT0 : Hid (TB w5 (w.heap.size + 1) (Sg.entTo ⟨x, ps⟩ 0)) := by
    have e : ByteArray.empty ++ (y1 ++ x ++ y2) = Sg.entTo ⟨x, ps⟩ 0 := by
      unfold Sg.entTo
      simp only [List.take_zero, List.foldl_nil]
      rw [hy1.out, hy2.out, HN.out]
      simp
    rw [← e]
    exact tb5
  obtain ⟨_, c1⟩ := hT5.cells
  clear hh3 hh4 hh5 hb3 hb4 hb5 hk5 tb3 tb4 tb5 hT3 hT4 hT5 q2 q3 b3 b4 aB hB0 ht0
  go_wp2_with fail
  clear c1
  go_loopw [22] (fun i wr => ∃ k : Nat, k ≤ n ∧ i = .int .i64 (k : Int) ∧ Hid (TB wr (w.heap.size + 1) (Sg.entTo ⟨x, ps⟩ k)) ∧ Below w.heap.size w wr) (fun i _ => n - (intOf i).toNat)
  case atStart => exact ⟨0, by omega, rfl, HT0, b5⟩
  case round =>
    obtain ⟨k, hk, rfl, HT, hbr⟩ := hrel
    obtain ⟨wz, ewz⟩ : ∃ z : World, z = wr := ⟨_, rfl⟩
    subst ewz
    have hsz := hbr.size
    have htl := HT.out.lt
    clear HT0 b5
    by_cases hlt : k < n
    · have hka : k < ps.length := by rw [HN.out]; exact hlt
      obtain ⟨b, off, hao, hbw, hc0, hc1⟩ := (HA.out.below hbr).cell (k := k) hka
      subst hao
      have hfm : -9223372036854775808 ≤ ps[k].amt ∧ ps[k].amt ≤ 9223372036854775807 := of_decide_eq_true (HOK.out ps[k] (List.getElem_mem _)).2
      have HS : Hid (Sg.entTo ⟨x, ps⟩ (k + 1) = Sg.pstText (Sg.entTo ⟨x, ps⟩ k) ps[k]) := Sg.entTo_succ ⟨x, ps⟩ k hka
      have hos : (Sg.entTo ⟨x, ps⟩ k).size = 2 + x.size + 9 * k := Sg.entTo_size ⟨x, ps⟩ k (by have := HN.out; simp only; omega)
      have HP1 : Hid (∀ oo y1 y2, y1 = Sg.beB ps[k].acct 1 → y2 = Sg.beB ps[k].amt 8 → oo ++ (y1 ++ y2) = Sg.pstText oo ps[k]) := fun oo y1 y2 => pstText_cat oo y1 y2 ps[k]
      generalize Sg.entTo ⟨x, ps⟩ k = oo at *
      generalize ps[k].acct = a at *
      generalize ps[k].amt = am at *
      have i1 : (0 : Int) ≤ (k : Int) := by omega
      have i2 : (k : Int) < (n : Int) := by omega
      have aA : Below wz.heap.size wz (wz.alloc (.cells #[.int .i64 a, .int .i64 am] 49)) := (Below.refl _ _).alloc (Nat.le_refl _) _
      have hT0 : Two (wz.alloc (.cells #[.int .i64 a, .int .i64 am] 49)) wz.heap.size (.int .i64 a) (.int .i64 am) 49 := Two.new _ _ _ _
      go_wp2_with fail
      go_region_held3 (fun w' => w'.cell? ⟨wz.heap.size, 0, none⟩ = some (.int .i64 a) ∧ w'.cell? ⟨wz.heap.size, 1, none⟩ = some (.int .i64 am)) (first | assumption | exact hT0.cells | exact two_drew hT0.cells | exact two_drew (x := .int .i64 a) (y := .int .i64 am) (by assumption))
        (first
          | (go_at_call 80; refine (eight_txt am _ hfm).mono ?_; rintro e w4 ⟨y2, rfl, hy2, hys2, hb4⟩; have q3 := cat y1 y2 (by omega); have hT4 : Two w4 wz.heap.size (.int .i64 a) (.int .i64 am) 49 := (by first | exact hT3.below hb4 | exact hT3.drew.below hb4); have tb4 : TB w4 (w.heap.size + 1) oo := (by first | exact tb3.below hb4 | exact tb3.drew.below hb4); have hh4 := hT4.cells; have b4 : Below wz.heap.size wz w4 := (by first | exact b3.trans (hb4.mono b3.size) | exact b3.drew.trans (hb4.mono b3.size)))
          | (go_at_call 33; refine (one_txt a _).mono ?_; rintro e w3 ⟨y1, rfl, hy1, hys1, hb3⟩; have hT3 : Two w3 wz.heap.size (.int .i64 a) (.int .i64 am) 49 := Two.below (by first | exact hT0.drew | exact hT0) hb3; have tb3 : TB w3 (w.heap.size + 1) oo := TB.below (by first | exact (HT.out.below aA).drew | exact HT.out.below aA) hb3; have hh3 := hT3.cells; have b3 : Below wz.heap.size wz w3 := (by first | exact aA.drew.trans (hb3.mono (by simp)) | exact aA.trans (hb3.mono (by simp))))
          | (go_at_call 31; refine (write_any (w.heap.size + 1) oo (y1 ++ y2) _ tb4 (by rw [cat_size]; omega)).mono ?_; rintro e w5 ⟨rfl, tb5, hb5, hk5⟩; have hh5 := (hT4.kept hk5 (by omega) (by decide)).cells; have b5 : Below (w.heap.size + 1) wz w5 := (b4.mono (by omega)).trans hb5))
      have hbe : Below w.heap.size w w5 := hbr.trans (b5.mono (by omega))
      have HTn : Hid (TB w5 (w.heap.size + 1) (Sg.entTo ⟨x, ps⟩ (k + 1))) := by
        show TB _ _ _
        rw [HS.out, ← HP1.out oo y1 y2 hy1.out hy2.out]
        exact tb5
      clear hh3 hh4 hh5 hb3 hb4 hb5 hk5 tb3 tb4 tb5 hT3 hT4 q3 b3 b4 b5 hT0 aA HS HP1
      go_wp2_with fail
      go_roundw
      case rel => exact ⟨k + 1, by omega, by go_num, HTn, hbe⟩
      case measure => simp [intOf]; omega
    · have HE : Hid (Sg.entTo ⟨x, ps⟩ k = Sg.entB ⟨x, ps⟩) := by
        show _ = _
        rw [show k = (Sg.Ent.mk x ps).posts.length by show k = ps.length; rw [HN.out]; omega, Sg.entTo_all]
      have hsize : (Sg.entTo ⟨x, ps⟩ k).size ≤ 80 := by
        have := Sg.entTo_size ⟨x, ps⟩ k (by have := HN.out; simp only; omega)
        simp only at this
        omega
      generalize Sg.entTo ⟨x, ps⟩ k = oo at *
      go_wp2_with fail
      refine (string_any _ _ _ HT.out).mono ?_
      rintro e w3 ⟨rfl, hb3⟩
      go_wp2_with fail
      go_ret
      exact ⟨_, rfl, HE, hsize, hbr.trans (hb3.mono (by omega))⟩
end Go.Proofs.YtpkkhkkkgjhkeabGreat
