/-
  THE BALANCES IN A MAP, THE PERIOD's BLOCK (book.Period).
-/
import Derived.Test.YtoadiibfmcjgaaaWithin
import Derived.Test.YtoadiibfmcjgaaaClose
import Derived.Maps.Own
import Derived.Maps.OwnOps
import Derived.Maps.Views
import Derived.Shelf.SlMaps.Clone
namespace Go.Proofs.Ytoadiibfmcjgaaa
open Go.RowKit Go.Maps
set_option maxRecDepth 100000

/-- How a number reads. -/
def numR (v : Value) : Option (DataW Unit × List MemPlace) :=
  match v with
  | .agg xs => match xs.toList with
    | [.int .u64 h, .int .u64 l] => some (.agg [.lit (.int .u64 h), .lit (.int .u64 l)], [])
    | _ => none
  | _ => none
def numD (v : Int) : DataW Unit := .agg [.lit (.int .u64 (nHi v)), .lit (.int .u64 (nLo v))]
theorem numR_num (v : Int) : numR (nV v) = some (numD v, []) := rfl
theorem numR_inv {x : Value} {v : Int} {p : List MemPlace} (h : numR x = some (numD v, p)) : x = nV v := by
  unfold numR at h
  split at h
  · rename_i xs
    split at h
    · rename_i a b e
      simp only [Option.some.injEq, Prod.mk.injEq, numD, DataW.agg.injEq, List.cons.injEq, DataW.lit.injEq, Lit.int.injEq, true_and, and_true] at h
      obtain ⟨⟨rfl, rfl⟩, _⟩ := h
      have : xs = #[.int .u64 (nHi v), .int .u64 (nLo v)] := by rw [← Array.toArray_toList (xs := xs), e]
      rw [this]
    · cases h
  · cases h

theorem balKey : Keyed Try.prog 3 := int_keyed Try.underlying3
theorem balZero (w : World) : (zeroValue 113).run Try.prog w = .ok (nV 0) w := by kernel_rfl
theorem balType : Try.prog.underlying 111 = some (.map 3 113) := by kernel_rfl

/-- The balances so far, in a map. -/
def BalIn (w : World) (m c : Nat) (now : List Int) : Prop := ∃ D : DataW Unit, w.ownsMap Try.prog 3 numR m c D ∧ ∀ i (h : i < now.length), D.atKey (.int .i64 (i : Int)) (numD 0) = numD now[i]
theorem balKeyOf (i : Nat) (hi : i ≤ 1000) : keyOf Try.prog 3 (.int .i64 (i : Int)) = some (.int .i64 (i : Int)) := keyOf_int_mk Try.underlying3 (WalkArith.wf_i64 (by omega))
theorem BalIn.look {w : World} {m c : Nat} {now : List Int} (h : BalIn w m c now) {i : Nat} (hi : i < now.length) (h8 : now.length ≤ 8) : (Instr.lookup 111 (.map (some m)) (.int .i64 (i : Int)) false).run Try.prog w = .ok (nV now[i]) w := by
  obtain ⟨D, hD, hat⟩ := h
  obtain ⟨v, ps, hrun, hv⟩ := hD.lookup balKey balType (balZero w) (numR_num 0) (balKeyOf i (by omega))
  rw [hat i hi] at hv
  rw [hrun, numR_inv hv]
theorem BalIn.update {w : World} {m c : Nat} {now : List Int} (h : BalIn w m c now) (hc : c < 1000000) {i : Nat} (hi : i < now.length) (h8 : now.length ≤ 8) (v : Int) :
    ∃ w', (Instr.mapUpdate 111 (.map (some m)) (.int .i64 (i : Int)) (nV v)).run Try.prog w = .ok () w' ∧ BalIn w' m (c + 1) (now.set i v) ∧ w.grownBy w' (some m) := by
  obtain ⟨D, hD, hat⟩ := h
  obtain ⟨w', hrun, hown, hg⟩ := hD.update balKey balType (by unfold maxLen; omega) (balKeyOf i (by omega)) (numR_num v)
  have hmap : Maps.IsMap D := by
    obtain ⟨es, clock, _, _, _, e⟩ := hD
    exact ⟨_, e⟩
  refine ⟨w', hrun, ⟨_, hown, fun j hj => ?_⟩, hg⟩
  rw [List.length_set] at hj
  by_cases e : j = i
  · subst e
    rw [atKey_put_same hmap (by trivial)]; simp
  · rw [atKey_put_other (by simp; omega), hat j hj, List.getElem_set_ne (by omega)]
theorem BalIn.lt {w : World} {m c : Nat} {now : List Int} (h : BalIn w m c now) : m < w.heap.size := by
  obtain ⟨D, hD, _⟩ := h
  exact hD.lt
theorem BalIn.block {w w' : World} {m c : Nat} {now : List Int} (h : BalIn w m c now) (hb : w'.heap[m]? = w.heap[m]?) : BalIn w' m c now := by
  obtain ⟨D, ⟨es, clock, h1, h2, h3, h4⟩, hat⟩ := h
  exact ⟨D, ⟨es, clock, hb.trans h1, h2, h3, h4⟩, hat⟩
theorem BalIn.mono {w : World} {m c c' : Nat} {now : List Int} (h : BalIn w m c now) (hc : c ≤ c') : BalIn w m c' now := by
  obtain ⟨D, hD, hat⟩ := h
  exact ⟨D, hD.mono hc, hat⟩
theorem BalIn.made (w : World) (n : Nat) : BalIn (w.alloc (.map #[] 0)) w.heap.size 0 (List.replicate n 0) := by
  refine ⟨.map [], World.ownsMap_made _ _ _ _, fun i hi => ?_⟩
  simp only [List.getElem_replicate]
  rfl

set_option maxHeartbeats 800000 in
/-- maps.Clone. -/
theorem clone_any (m : Nat) (es : Array MapEntry) (clock : Nat) (w : World) (hb : w.heap[m]? = some (.map es clock)) :
    Calls Try.prog 87 #[.map (some m)] w fun e w' => e = .returned (.map (some w.heap.size)) ∧ w' = w.alloc (.map es clock) := by
  have hq := fun w => run_eql_map_nil_sl (P := Try.prog) w 111 _ _ (some m) balType
  go_enter Try.func87, Try.ntmps87
  go_wp2
  rw [run_callFunc_extern Try.func106 (by kernel_rfl) (by kernel_rfl) (by kernel_rfl) (e := Extern.MapsClone.clone) (by kernel_rfl), run_maps_clone_sl w 111 hb]
  simp only [Result.andThen]
  rw [Oper.upon_value]
  go_wp2
  rw [run_typeAssert_map_sl _ 111 _ _ _ _ balType]
  simp only [Result.andThen]
  rw [Oper.upon_value]
  go_wp2
  go_ret
  exact ⟨rfl, rfl⟩
/-- The balances, cloned. -/
theorem BalIn.clone {w : World} {m c : Nat} {now : List Int} (h : BalIn w m c now) :
    Calls Try.prog 87 #[.map (some m)] w fun e w' => ∃ o, e = .returned (.map (some w.heap.size)) ∧ w' = w.alloc o ∧ BalIn w' w.heap.size c now := by
  obtain ⟨D, ⟨es, clock, h1, h2, h3, h4⟩, hat⟩ := h
  refine (clone_any m es clock w h1).mono ?_
  rintro e w' ⟨rfl, rfl⟩
  exact ⟨_, rfl, rfl, D, ⟨es, clock, (MapKept.heap_alloc w _).1, h2, h3, h4⟩, hat⟩

/-- A look-up, a store, at a step of a region that draws its order. -/
theorem step_lookup {P : Program} {ops : Array Oper} {o : Oper} {a : Act} {w : World} {K : Act → World → Prop} {Q : Exit → Act → World → Prop} {E : Prop} (hgd : o.guard = none) (m x : Operand) (t : TypeId) (hop : o.op = Op.lookup t m x false)
    (mv key v : Value) (hm : a.eval m = mv) (hx : a.eval x = key) (hrun : (Instr.lookup t mv key false).run P w = .ok v w) (h : K (a.put o.dst v) w) :
    if Region.wanted o (yielded ops a.tmps) = true then Oper.wp P o a w K Q else E := by
  have hw : Region.wanted o (yielded ops a.tmps) = true := by simp [Region.wanted, hgd]
  rw [if_pos hw]
  unfold Oper.wp
  simp [execOp, hop, hm, hx, hrun, Result.andThen]
  exact h
theorem step_mapUpdate {P : Program} {ops : Array Oper} {o : Oper} {a : Act} {w : World} {K : Act → World → Prop} {Q : Exit → Act → World → Prop} {E : Prop} (hgd : o.guard = none) (m x v : Operand) (t : TypeId) (hop : o.op = Op.mapUpdate t m x v)
    (mv key val : Value) (hm : a.eval m = mv) (hx : a.eval x = key) (hv : a.eval v = val) (w' : World) (hrun : (Instr.mapUpdate t mv key val).run P w = .ok () w') (h : K (a.put o.dst undef) w') :
    if Region.wanted o (yielded ops a.tmps) = true then Oper.wp P o a w K Q else E := by
  have hw : Region.wanted o (yielded ops a.tmps) = true := by simp [Region.wanted, hgd]
  rw [if_pos hw]
  unfold Oper.wp
  simp [execOp, hop, hm, hx, hv, hrun, Result.andThen]
  exact h

theorem BalIn.below {w w' : World} {m c : Nat} {now : List Int} (h : BalIn w m c now) (hb : Below w.heap.size w w') : BalIn w' m c now := h.block (hb.block m h.lt)
theorem BalIn.drew {w : World} {m c : Nat} {now : List Int} (h : BalIn w m c now) : BalIn w.drew m c now := h.block rfl
theorem BalIn.seek {w : World} {m c : Nat} {now : List Int} (h : BalIn w m c now) {i : Nat} {v : Int} (hv : now.getD i 0 = v) (hi : i < now.length) (h8 : now.length ≤ 8) : (Instr.lookup 111 (.map (some m)) (.int .i64 (i : Int)) false).run Try.prog w = .ok (nV v) w := by
  rw [h.look hi h8, ← hv, List.getD_eq_getElem?_getD, List.getElem?_eq_getElem hi]
  rfl
theorem step_balUpdate {ops : Array Oper} {o : Oper} {a : Act} {w : World} {K : Act → World → Prop} {Q : Exit → Act → World → Prop} {E : Prop} (hgd : o.guard = none) (mo x v : Operand) (hop : o.op = Op.mapUpdate 111 mo x v)
    (m i c : Nat) (now : List Int) (val : Int) (hm : a.eval mo = .map (some m)) (hx : a.eval x = .int .i64 (i : Int)) (hv : a.eval v = nV val) (hb : BalIn w m c now) (hc : c < 1000000) (hi : i < now.length) (h8 : now.length ≤ 8)
    (h : ∀ w', BalIn w' m (c + 1) (now.set i val) → w.grownBy w' (some m) → K (a.put o.dst undef) w') :
    if Region.wanted o (yielded ops a.tmps) = true then Oper.wp Try.prog o a w K Q else E := by
  obtain ⟨w', hrun, h1, h2⟩ := hb.update hc hi h8 val
  exact step_mapUpdate hgd mo x v _ hop _ _ _ hm hx hv w' hrun (h w' h1 h2)

/-! ### The period's block -/
def numCells (l : List Int) : List Value := l.flatMap fun v => [.int .u64 (nHi v), .int .u64 (nLo v)]
theorem numCells_length : ∀ l, (numCells l).length = l.length * 2
  | [] => rfl
  | v :: l => by simp only [numCells, List.flatMap_cons, List.length_append, List.length_cons, List.length_nil]; have := numCells_length l; unfold numCells at this; rw [this]; omega
theorem numCells_hi : ∀ (l : List Int) (i : Nat), i < l.length → (numCells l)[i * 2]? = some (.int .u64 (nHi (l.getD i 0)))
  | v :: l, 0, _ => rfl
  | v :: l, i + 1, h => by
    have := numCells_hi l i (by simpa using h)
    show ([Value.int .u64 (nHi v), .int .u64 (nLo v)] ++ numCells l)[(i + 1) * 2]? = _
    rw [List.getElem?_append_right (by simp; omega)]
    simpa [show (i + 1) * 2 - 2 = i * 2 by omega] using this
theorem numCells_lo : ∀ (l : List Int) (i : Nat), i < l.length → (numCells l)[i * 2 + 1]? = some (.int .u64 (nLo (l.getD i 0)))
  | v :: l, 0, _ => rfl
  | v :: l, i + 1, h => by
    have := numCells_lo l i (by simpa using h)
    show ([Value.int .u64 (nHi v), .int .u64 (nLo v)] ++ numCells l)[(i + 1) * 2 + 1]? = _
    rw [List.getElem?_append_right (by simp; omega)]
    simpa [show (i + 1) * 2 + 1 - 2 = i * 2 + 1 by omega] using this
theorem numCells_set : ∀ (l : List Int) (i : Nat) (v : Int), i < l.length → ((numCells l).set (i * 2) (.int .u64 (nHi v))).set (i * 2 + 1) (.int .u64 (nLo v)) = numCells (l.set i v)
  | u :: l, 0, v, _ => rfl
  | u :: l, i + 1, v, h => by
    have := numCells_set l i v (by simpa using h)
    show (([Value.int .u64 (nHi u), .int .u64 (nLo u)] ++ numCells l).set ((i + 1) * 2) _).set ((i + 1) * 2 + 1) _ = [Value.int .u64 (nHi u), .int .u64 (nLo u)] ++ numCells (l.set i v)
    rw [List.set_append_right _ _ (by simp; omega), List.set_append_right _ _ (by simp; omega)]
    simp only [List.length_cons, List.length_nil, show (i + 1) * 2 - (0 + 1 + 1) = i * 2 by omega, show (i + 1) * 2 + 1 - (0 + 1 + 1) = i * 2 + 1 by omega]
    rw [this]

/-- The cells of a period: accounts, entries, balances, totals. -/
def perCells (a e m : Value) (tot : List Int) : List Value := [a, e, m] ++ numCells tot
def PerAt (w : World) (g : Nat) (a e m : Value) (tot : List Int) : Prop := w.heap[g]? = some (.cells (perCells a e m tot).toArray 116 (0, 0))
theorem PerAt.accs {w : World} {g : Nat} {a e m : Value} {tot : List Int} (h : PerAt w g a e m tot) : w.cell? ⟨g, 0, none⟩ = some a := by rw [cell_of_row w g 0 _ _ _ h]; rfl
theorem PerAt.ents {w : World} {g : Nat} {a e m : Value} {tot : List Int} (h : PerAt w g a e m tot) : w.cell? ⟨g, 1, none⟩ = some e := by rw [cell_of_row w g 1 _ _ _ h]; rfl
theorem PerAt.bals {w : World} {g : Nat} {a e m : Value} {tot : List Int} (h : PerAt w g a e m tot) : w.cell? ⟨g, 2, none⟩ = some m := by rw [cell_of_row w g 2 _ _ _ h]; rfl
theorem PerAt.hi {w : World} {g : Nat} {a e m : Value} {tot : List Int} (h : PerAt w g a e m tot) {i : Nat} (hi : i < tot.length) : w.cell? ⟨g, 3 + i * 2, none⟩ = some (.int .u64 (nHi (tot.getD i 0))) := by
  rw [cell_of_row w g (3 + i * 2) _ _ _ h]
  simp only [perCells, List.getElem?_toArray]
  rw [List.getElem?_append_right (by simp)]
  simpa using numCells_hi tot i hi
theorem PerAt.lo {w : World} {g : Nat} {a e m : Value} {tot : List Int} (h : PerAt w g a e m tot) {i : Nat} (hi : i < tot.length) : w.cell? ⟨g, 3 + i * 2 + 1, none⟩ = some (.int .u64 (nLo (tot.getD i 0))) := by
  rw [cell_of_row w g (3 + i * 2 + 1) _ _ _ h]
  simp only [perCells, List.getElem?_toArray]
  rw [List.getElem?_append_right (by simp; omega)]
  simpa [show 3 + i * 2 + 1 - 3 = i * 2 + 1 by omega] using numCells_lo tot i hi
theorem PerAt.free {w : World} {g : Nat} {a e m : Value} {tot : List Int} (h : PerAt w g a e m tot) (j : Nat) : w.frozen? ⟨g, j, none⟩ = false := by
  unfold PerAt at h; simp [World.frozen?, h]
theorem PerAt.lt {w : World} {g : Nat} {a e m : Value} {tot : List Int} (h : PerAt w g a e m tot) : g < w.heap.size := lt_of_block h
theorem PerAt.set {w : World} {g : Nat} {a e m : Value} {tot : List Int} (h : PerAt w g a e m tot) {i : Nat} (hi : i < tot.length) (v : Int) :
    PerAt ((w.setCell ⟨g, 3 + i * 2, none⟩ (.int .u64 (nHi v))).setCell ⟨g, 3 + i * 2 + 1, none⟩ (.int .u64 (nLo v))) g a e m (tot.set i v) := by
  have h1 := heap_setCell_same w g (3 + i * 2) _ _ (.int .u64 (nHi v)) h
  have h2 := heap_setCell_same _ g (3 + i * 2 + 1) _ _ (.int .u64 (nLo v)) h1
  unfold PerAt
  rw [h2]
  congr 2
  unfold perCells
  rw [← numCells_set tot i v hi]
  apply Array.ext'
  simp only [Array.toList_setIfInBounds]
  rw [List.set_append_right _ _ (by simp <;> omega), List.set_append_right _ _ (by simp <;> omega)]
  simp only [List.length_cons, List.length_nil, show 3 + i * 2 - (0 + 1 + 1 + 1) = i * 2 by omega, show 3 + i * 2 + 1 - (0 + 1 + 1 + 1) = i * 2 + 1 by omega]
theorem PerAt.block {w w' : World} {g : Nat} {a e m : Value} {tot : List Int} (h : PerAt w g a e m tot) (hb : w'.heap[g]? = w.heap[g]?) : PerAt w' g a e m tot := hb.trans h

/-- A number in a block of its own. -/
def NumBox (w : World) (g : Nat) (v : Int) : Prop := w.heap[g]? = some (.cells #[.int .u64 (nHi v), .int .u64 (nLo v)] 113 (0, 0))
theorem NumBox.hi {w : World} {g : Nat} {v : Int} (h : NumBox w g v) : w.cell? ⟨g, 0, none⟩ = some (.int .u64 (nHi v)) := by rw [cell_of_row w g 0 _ _ _ h]; rfl
theorem NumBox.lo {w : World} {g : Nat} {v : Int} (h : NumBox w g v) : w.cell? ⟨g, 1, none⟩ = some (.int .u64 (nLo v)) := by rw [cell_of_row w g 1 _ _ _ h]; rfl
theorem NumBox.free {w : World} {g : Nat} {v : Int} (h : NumBox w g v) (j : Nat) : w.frozen? ⟨g, j, none⟩ = false := by
  unfold NumBox at h; simp [World.frozen?, h]
theorem NumBox.lt {w : World} {g : Nat} {v : Int} (h : NumBox w g v) : g < w.heap.size := lt_of_block h
theorem NumBox.set {w : World} {g : Nat} {u : Int} (h : NumBox w g u) (v : Int) : NumBox ((w.setCell ⟨g, 0, none⟩ (.int .u64 (nHi v))).setCell ⟨g, 1, none⟩ (.int .u64 (nLo v))) g v := by
  have h1 := heap_setCell_same w g 0 _ _ (.int .u64 (nHi v)) h
  have h2 := heap_setCell_same _ g 1 _ _ (.int .u64 (nLo v)) h1
  unfold NumBox
  rw [h2]
  rfl
theorem NumBox.block {w w' : World} {g : Nat} {v : Int} (h : NumBox w g v) (hb : w'.heap[g]? = w.heap[g]?) : NumBox w' g v := hb.trans h
theorem below_put2 {w W : World} {n g i j : Nat} (h : Below n w W) (hg : n ≤ g) (a b : Value) : Below n w ((W.setCell ⟨g, i, none⟩ a).setCell ⟨g, j, none⟩ b) :=
  (h.setCell hg a).setCell hg b

namespace Sg
def acctOk (n : Nat) (p : Pst) : Prop := 0 ≤ p.acct ∧ p.acct < (n : Int)
theorem entErr_two {n : Nat} {e : Ent} {now : List Int} {k : Nat} (h : k < e.posts.length) (hb : ¬ acctOk n e.posts[k]) : entErr n e now = 2 := by
  unfold entErr
  have : e.posts.any (fun p => decide (p.acct < 0 ∨ (n : Int) ≤ p.acct)) = true := by
    rw [List.any_eq_true]
    exact ⟨_, List.getElem_mem h, decide_eq_true (by unfold acctOk at hb; omega)⟩
  rw [if_pos this]
theorem accts_any {n : Nat} {ps : List Pst} (h : ∀ p ∈ ps, acctOk n p) : ps.any (fun p => decide (p.acct < 0 ∨ (n : Int) ≤ p.acct)) = false := by
  rw [List.any_eq_false]
  intro p hp
  have := h p hp
  unfold acctOk at this
  simp; omega
theorem entErr_three {n : Nat} {e : Ent} {now : List Int} (h : ∀ p ∈ e.posts, acctOk n p) (hs : amtSum e.posts ≠ 0) : entErr n e now = 3 := by
  unfold entErr
  rw [if_neg (by rw [accts_any h]; simp), if_pos hs]
theorem entErr_four {n : Nat} {e : Ent} {now : List Int} (h : ∀ p ∈ e.posts, acctOk n p) (hs : amtSum e.posts = 0) {i : Nat} (hi : i < (comesAll e.posts now).length) (hf : fits (comesAll e.posts now)[i] = false) : entErr n e now = 4 := by
  unfold entErr
  rw [if_neg (by rw [accts_any h]; simp), if_neg (by simp [hs]), if_pos]
  rw [List.any_eq_true]
  exact ⟨_, List.getElem_mem hi, by rw [hf]; rfl⟩
theorem comesTo_other (ps : List Pst) (now : List Int) (i : Nat) : ∀ k, k ≤ ps.length → (∀ j (h : j < ps.length), j < k → ps[j].acct.toNat ≠ i) → (comesTo ps now k)[i]? = now[i]?
  | 0, _, _ => rfl
  | k + 1, hk, h => by
    rw [comesTo_succ ps now k (by omega)]
    unfold comes
    rw [List.getElem?_set_ne (h k (by omega) (by omega))]
    exact comesTo_other ps now i k (by omega) (fun j hj hjk => h j hj (by omega))
theorem entErr_zero {n : Nat} {e : Ent} {now : List Int} (h : ∀ p ∈ e.posts, acctOk n p) (hs : amtSum e.posts = 0) (hn : ∀ v ∈ now, fits v = true) (hf : ∀ p ∈ e.posts, fits ((comesAll e.posts now).getD p.acct.toNat 0) = true) : entErr n e now = 0 := by
  unfold entErr
  rw [if_neg (by rw [accts_any h]; simp), if_neg (by simp [hs]), if_neg]
  rw [Bool.not_eq_true, List.any_eq_false]
  intro v hv
  obtain ⟨i, hi, rfl⟩ := List.getElem_of_mem hv
  by_cases ht : ∃ j, ∃ hj : j < e.posts.length, e.posts[j].acct.toNat = i
  · obtain ⟨j, hj, e1⟩ := ht
    have := hf _ (List.getElem_mem hj)
    rw [e1, List.getD_eq_getElem?_getD, List.getElem?_eq_getElem hi] at this
    simpa using this
  · have := comesTo_other e.posts now i e.posts.length (Nat.le_refl _) (fun j hj _ e1 => ht ⟨j, hj, e1⟩)
    rw [comesTo_all, List.getElem?_eq_getElem hi] at this
    have hm : (comesAll e.posts now)[i] ∈ now := by
      have h2 := this.symm
      exact List.mem_of_getElem? h2
    have := hn _ hm
    simp [this]
end Sg
end Go.Proofs.Ytoadiibfmcjgaaa
