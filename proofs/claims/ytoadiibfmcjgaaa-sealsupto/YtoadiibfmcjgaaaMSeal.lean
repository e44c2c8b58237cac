import Derived.Test.YtoadiibfmcjgaaaMSpare
import Derived.Test.YtoadiibfmcjgaaaRefSeal
import Derived.Test.YtoadiibfmcjgaaaHhead
import Derived.Test.YtoadiibfmcjgaaaBroot
import Derived.ProofKit
import Derived.OpenShut
import Derived.ShutString
import Derived.ChangeOld
import Derived.SizedLaws
import Derived.SliceStrings
import Derived.Carry
import Derived.Test.YtoadiibfmcjgaaaCloseWalk
import Derived.Deep.Slices
import Derived.JoinedCond
import Derived.Deep.CondSized
/-
  WHAT STANDS in signetlaw.Seals: the accounts' copy, the periods' copies, what is kept of them.
-/
namespace Go.Proofs.Ytoadiibfmcjgaaa
open Go.RowKit
set_option maxRecDepth 100000

theorem aC_len : ∀ l, (aCells l).length = l.length * 2
  | [] => rfl
  | p :: l => by
    show ([Value.string p.name, .int .i64 p.line] ++ aCells l).length = _
    rw [List.length_append, aC_len l]; simp; omega
theorem aC_ones (l : List Sg.Acc) : ∀ c ∈ aCells l, c.oneCell' = true := by
  intro c hc
  unfold aCells at hc
  simp only [List.mem_flatMap, List.mem_cons, List.not_mem_nil, or_false] at hc
  obtain ⟨p, _, rfl | rfl⟩ := hc <;> rfl
theorem aC_news {w : World} {b off : Nat} {ac : List Sg.Acc} (hat : AccsAt w b off ac) : ∀ j u, (aCells ac)[j]? = some u → w.cell? (Addr.add ⟨b, off, none⟩ j) = some u := by
  intro j u hj
  have hj' : j < ac.length * 2 := by
    have := (List.getElem?_eq_some_iff.1 hj).1
    rw [aC_len] at this; exact this
  have ea : Addr.add ⟨b, off, none⟩ j = ⟨b, off + j, none⟩ := by cases j <;> simp [Addr.add]
  rw [ea]
  have hh : j / 2 < ac.length := by omega
  have h2 := hat (j / 2) hh
  have h3 := aCells_at ac (j / 2) hh
  have e : j = j / 2 * 2 ∨ j = j / 2 * 2 + 1 := by omega
  rcases e with e | e
  · rw [e] at hj ⊢
    rw [h3.1] at hj
    rw [h2.1]; exact hj
  · rw [e] at hj ⊢
    rw [h3.2] at hj
    rw [← Nat.add_assoc, h2.2]; exact hj
theorem Try.sizeAcc : (Try.prog.info? 43).map (·.size) = some 2 := by kernel_rfl
/-- Accounts, and two places behind them. -/
def ARow (w : World) (g n : Nat) (ac : List Sg.Acc) (x : Value) : Prop := ∃ cur : Array Value, w.heap[g]? = some (.cells cur 43 (0, 0)) ∧ cur.size = (n + 2) * 2 ∧ (∀ i (h : i < ac.length), cur[i * 2]? = some (.string ac[i].name) ∧ cur[i * 2 + 1]? = some (.int .i64 ac[i].line)) ∧ ∀ i, n ≤ i → i < n + 2 → cur[i * 2]? = some x ∧ cur[i * 2 + 1]? = some (.int .i64 0)
theorem ARow.block {w w' : World} {g n : Nat} {ac : List Sg.Acc} {x : Value} (h : ARow w g n ac x) (hb : w'.heap[g]? = w.heap[g]?) : ARow w' g n ac x := by
  obtain ⟨cur, a, b⟩ := h
  exact ⟨cur, hb.trans a, b⟩
theorem ARow.lt {w : World} {g n : Nat} {ac : List Sg.Acc} {x : Value} (h : ARow w g n ac x) : g < w.heap.size := by
  obtain ⟨cur, a, _⟩ := h
  exact lt_of_block a
theorem ARow.keptT {w w' : World} {g n : Nat} {ac : List Sg.Acc} {x : Value} {t : TypeId} (h : ARow w g n ac x) (hk : KeptT t w w') (hne : 43 ≠ t) : ARow w' g n ac x := by
  obtain ⟨cur, a, b⟩ := h
  exact ⟨cur, hk _ _ _ _ a hne, b⟩
theorem ARow.cells {w : World} {g n i : Nat} {ac : List Sg.Acc} {x : Value} (h : ARow w g n ac x) (h1 : n ≤ i) (h2 : i < n + 2) : w.cell? ⟨g, i * 2, none⟩ = some x ∧ w.cell? ⟨g, i * 2 + 1, none⟩ = some (.int .i64 0) ∧ w.frozen? ⟨g, i * 2, none⟩ = false := by
  obtain ⟨cur, a, _, _, d⟩ := h
  obtain ⟨d1, d2⟩ := d i h1 h2
  refine ⟨?_, ?_, ?_⟩
  · rw [cell_of_row w _ _ _ _ _ a]; exact d1
  · rw [cell_of_row w _ _ _ _ _ a]; exact d2
  · simp [World.frozen?, a]
theorem ARow.cell {w : World} {g n i : Nat} {ac : List Sg.Acc} {x : Value} (h : ARow w g n ac x) (hi : i < ac.length) : w.cell? ⟨g, i * 2, none⟩ = some (.string ac[i].name) ∧ w.cell? ⟨g, i * 2 + 1, none⟩ = some (.int .i64 ac[i].line) := by
  obtain ⟨cur, a, _, c, _⟩ := h
  obtain ⟨d1, d2⟩ := c i hi
  refine ⟨?_, ?_⟩
  · rw [cell_of_row w _ _ _ _ _ a]; exact d1
  · rw [cell_of_row w _ _ _ _ _ a]; exact d2
theorem ARow.in_ {w : World} {g n : Nat} {ac : List Sg.Acc} {x : Value} (h : ARow w g n ac x) : AccsIn w (some ⟨g, 0, none⟩) ac :=
  Or.inr ⟨g, 0, rfl, h.lt, fun i hi => by rw [Nat.zero_add]; exact h.cell hi⟩
theorem ARow.mark {w : World} {g n : Nat} {ac : List Sg.Acc} (h : ARow w g n ac (.string ByteArray.empty)) (hn : ac.length = n) : ARow ((w.setCell ⟨g, n * 2, none⟩ (.string beyondT)).setCell ⟨g, (n + 1) * 2, none⟩ (.string beyondT)) g n ac (.string beyondT) := by
  obtain ⟨cur, a, b, c, d⟩ := h
  have h1 := heap_setCell_same w g (n * 2) cur _ (.string beyondT) a
  have h2 := heap_setCell_same _ g ((n + 1) * 2) _ _ (.string beyondT) h1
  refine ⟨_, h2, by simpa using b, fun i hi => ⟨?_, ?_⟩, fun i h3 h4 => ⟨?_, ?_⟩⟩
  · rw [Array.getElem?_setIfInBounds_ne (by omega), Array.getElem?_setIfInBounds_ne (by omega)]; exact (c i hi).1
  · rw [Array.getElem?_setIfInBounds_ne (by omega), Array.getElem?_setIfInBounds_ne (by omega)]; exact (c i hi).2
  · by_cases e : i = n
    · subst e
      rw [Array.getElem?_setIfInBounds_ne (by omega), Array.getElem?_setIfInBounds_self_of_lt (by omega)]
    · obtain rfl : i = n + 1 := by omega
      rw [Array.getElem?_setIfInBounds_self_of_lt (by simp; omega)]
  · rw [Array.getElem?_setIfInBounds_ne (by omega), Array.getElem?_setIfInBounds_ne (by omega)]; exact (d i h3 h4).2
/-- Accounts are copied into a list that was made, with two places behind. -/
theorem copy_accs (ac : List Sg.Acc) (ao : Option Addr) (n cap g B : Nat) (w0 w : World) (hn : ac.length = n) (hp : AccsIn w ao ac) (hg : w.heap[g]? = some (.cells (madeCells #[.string ByteArray.empty, .int .i64 0] ((n + 2) * 2)) 43 (0, 0))) (hb : Below B w0 w) (hB : B ≤ g) :
    ∃ w2, (Builtin.copy_ #[38, 38] 3 #[.slice (some ⟨g, 0, none⟩) (n + 2) (n + 2), .slice ao n cap]).run Try.prog w = .ok (.int .i64 (n : Int)) w2 ∧
      ARow w2 g n ac (.string ByteArray.empty) ∧ Below B w0 w2 ∧ w.grownBy w2 (some g) ∧ w2.heap.size = w.heap.size := by
  by_cases h0 : n = 0
  · subst h0
    have e : ac = [] := List.eq_nil_of_length_eq_zero hn
    subst e
    exact ⟨w, run_copy_two_none (P := Try.prog) w _ _ _ 43 _ _ _ _ _ _ Try.underlying38 Try.sizeAcc (by simp), ⟨_, hg, size_madeCells _ _, fun i hi => absurd hi (by simp), fun i _ h => made_pair _ _ _ i h⟩, hb, World.grownBy.refl _ _, rfl⟩
  · rcases hp with h | ⟨b, off, rfl, _, hat⟩
    · omega
    · have hmin : Nat.min n (n + 2) = n := Nat.min_eq_left (by omega)
      have hl : (aCells ac).length = n * 2 := by rw [aC_len, hn]
      have hrun := run_copy_two (P := Try.prog) w 38 38 3 43 g (n + 2) (n + 2) ⟨b, off, none⟩ n cap (madeCells #[.string ByteArray.empty, .int .i64 0] ((n + 2) * 2)) 43 (aCells ac) Try.underlying38 Try.sizeAcc hg (by rw [hmin, hl]) (aC_news hat) (by rw [hl, size_madeCells]; omega) (aC_ones ac)
      rw [hmin, hl] at hrun
      have hgr : w.grownBy (w.setRow g (aCells ac ++ (madeCells #[.string ByteArray.empty, .int .i64 0] ((n + 2) * 2)).toList.drop (n * 2)).toArray) (some g) :=
        ⟨rfl, rfl, rfl, by simp [World.setRow], fun k _ hk => by simp at hk; simp [World.setRow, Array.getElem?_modify, Ne.symm hk]⟩
      refine ⟨_, hrun, ⟨_, setRow_heap w g _ _ _ _ hg, ?_, fun i hi => ?_, fun i h1 h2 => ?_⟩, hb.grown hgr (by have := lt_of_block hg; omega) (fun k hk => by simp at hk; omega), hgr, by simp [World.setRow]⟩
      · rw [List.size_toArray, List.length_append, List.length_drop, hl, Array.length_toList, size_madeCells]; omega
      · rw [List.getElem?_toArray, List.getElem?_toArray, List.getElem?_append_left (by omega), List.getElem?_append_left (by omega)]
        exact aCells_at ac i hi
      · have hm := made_pair (.string ByteArray.empty) (.int .i64 0) (n + 2) i h2
        rw [List.getElem?_toArray, List.getElem?_toArray, List.getElem?_append_right (by omega), List.getElem?_append_right (by omega), List.getElem?_drop, List.getElem?_drop, hl, show n * 2 + (i * 2 - n * 2) = i * 2 by omega, show n * 2 + (i * 2 + 1 - n * 2) = i * 2 + 1 by omega, Array.getElem?_toList, Array.getElem?_toList]
        exact hm

/-- The periods that were laid so far. -/
def LPer (w : World) (g m k : Nat) (ls : List Value) : Prop := ∃ cur : Array Value, w.heap[g]? = some (.cells cur 47 (0, 0)) ∧ cur.size = m + 2 ∧ (∀ i, i < k → cur[i]? = ls[i]?) ∧ ∀ i, k ≤ i → i < m + 2 → cur[i]? = some (.slice none 0 0)
theorem made_one (a : Value) (m i : Nat) (h : i < m) : (madeCells #[a] m)[i]? = some a := by
  unfold madeCells
  rw [Array.getElem?_map, Array.getElem?_range, if_pos (by omega)]
  simp [Nat.mod_one]
theorem LPer.make (w : World) (m : Nat) : LPer (w.alloc (.cells (madeCells #[.slice none 0 0] (m + 2)) 47)) w.heap.size m 0 [] :=
  ⟨_, heap_alloc_new w _, size_madeCells _ _, fun i h0 => absurd h0 (by omega), fun i _ h => made_one _ _ i h⟩
theorem LPer.block {w w' : World} {g m k : Nat} {ls : List Value} (h : LPer w g m k ls) (hb : w'.heap[g]? = w.heap[g]?) : LPer w' g m k ls := by
  obtain ⟨cur, a, b⟩ := h
  exact ⟨cur, hb.trans a, b⟩
theorem LPer.lt {w : World} {g m k : Nat} {ls : List Value} (h : LPer w g m k ls) : g < w.heap.size := by
  obtain ⟨cur, a, _⟩ := h
  exact lt_of_block a
theorem LPer.keptT {w w' : World} {g m k : Nat} {ls : List Value} {t : TypeId} (h : LPer w g m k ls) (hk : KeptT t w w') (hne : 47 ≠ t) : LPer w' g m k ls := by
  obtain ⟨cur, a, b⟩ := h
  exact ⟨cur, hk _ _ _ _ a hne, b⟩
theorem LPer.cells {w : World} {g m k i : Nat} {ls : List Value} (h : LPer w g m k ls) (h1 : k ≤ i) (h2 : i < m + 2) : w.cell? ⟨g, i, none⟩ = some (.slice none 0 0) ∧ w.frozen? ⟨g, i, none⟩ = false := by
  obtain ⟨cur, a, _, _, d⟩ := h
  refine ⟨?_, ?_⟩
  · rw [cell_of_row w _ _ _ _ _ a]; exact d i h1 h2
  · simp [World.frozen?, a]
theorem LPer.put {w : World} {g m k : Nat} {ls : List Value} (v : Value) (h : LPer w g m k ls) (hk : k < m + 2) (hls : ls.length = k) : LPer (w.setCell ⟨g, k, none⟩ v) g m (k + 1) (ls ++ [v]) := by
  obtain ⟨cur, a, b, c, d⟩ := h
  refine ⟨_, heap_setCell_same w g k cur _ v a, by simpa using b, fun i hik => ?_, fun i h3 h4 => ?_⟩
  · by_cases e : i = k
    · subst e
      rw [Array.getElem?_setIfInBounds_self_of_lt (by omega), List.getElem?_append_right (by omega), hls, Nat.sub_self]
      rfl
    · rw [Array.getElem?_setIfInBounds_ne (by omega), c i (by omega), List.getElem?_append_left (by omega)]
  · rw [Array.getElem?_setIfInBounds_ne (by omega)]; exact d i (by omega) h4
theorem LPer.kept {w : World} {g m k j : Nat} {ls : List Value} {v : Value} (h : LPer w g m k ls) : KeptT 47 w (w.setCell ⟨g, j, none⟩ v) := by
  obtain ⟨cur, a, _⟩ := h
  exact keptT_setCell a

/-- A period that was handed in, and what is kept of it. -/
def SeE (wr : World) (p : List Sg.Ent) (l a b : Option Value) : Prop := ∃ g aoM capM, l = some (.slice (some ⟨g, 0, none⟩) p.length (p.length + 2)) ∧ a = some (.slice (some ⟨g, 0, none⟩) (p.length + 2) (p.length + 2)) ∧ b = some (.slice aoM p.length capM) ∧ Spared wr 0 g p.length aoM p
theorem SeE.keptS {w w' : World} {p : List Sg.Ent} {l a b : Option Value} (h : SeE w p l a b) (hk : KeptS w w') : SeE w' p l a b := by
  obtain ⟨g, aoM, capM, h1, h2, h3, h4⟩ := h
  exact ⟨g, aoM, capM, h1, h2, h3, h4.keptS hk⟩
/-- What stands at the head of Seals' loop: kl periods are laid, k are kept. -/
structure SeW (w wr : World) (n m kl k : Nat) (v0 v1 : Value) (ac : List Sg.Acc) (ps : List (List Sg.Ent)) (ls ms : List Value) (vK : Value) : Prop where
  bel : Below w.heap.size w wr
  arg : Two wr w.heap.size v0 v1 41
  row : ARow wr (w.heap.size + 1) n ac (.string beyondT)
  per : LPer wr (w.heap.size + 2) m kl ls
  msr : wr.ownsRow (w.heap.size + 3) 50 2 vK k ms
  lens : ls.length = kl
  each : ∀ i (h : i < ps.length), i < k → SeE wr ps[i] ls[i]? ms[i * 2]? ms[i * 2 + 1]?
theorem SeW.below {w wr w' : World} {n m kl k : Nat} {v0 v1 vK : Value} {ac : List Sg.Acc} {ps : List (List Sg.Ent)} {ls ms : List Value} (s : SeW w wr n m kl k v0 v1 ac ps ls ms vK) (h : Below wr.heap.size wr w') : SeW w w' n m kl k v0 v1 ac ps ls ms vK :=
  ⟨s.bel.trans (h.mono s.bel.size), s.arg.below h, s.row.block (h.block _ s.row.lt), s.per.block (h.block _ s.per.lt), ownsRow_below s.msr h, s.lens, fun i hi hk => (s.each i hi hk).keptS (KeptS.below h)⟩
/-- A period is laid. -/
theorem SeW.put {w wr : World} {n m kl k : Nat} {v0 v1 vK : Value} {ac : List Sg.Acc} {ps : List (List Sg.Ent)} {ls ms : List Value} (v : Value) (s : SeW w wr n m kl k v0 v1 ac ps ls ms vK) (hk : kl < m + 2) (hkk : k ≤ kl) : SeW w (wr.setCell ⟨w.heap.size + 2, kl, none⟩ v) n m (kl + 1) k v0 v1 ac ps (ls ++ [v]) ms vK := by
  have hk2 : KeptT 47 wr (wr.setCell ⟨w.heap.size + 2, kl, none⟩ v) := s.per.kept
  refine ⟨s.bel.setCell (by show _ ≤ w.heap.size + 2; omega) _, hk2 _ _ _ _ s.arg (by decide), s.row.keptT hk2 (by decide), s.per.put v hk s.lens, ownsRow_keptT s.msr hk2 (by decide), by rw [List.length_append, s.lens]; rfl, fun i hi hik => ?_⟩
  rw [List.getElem?_append_left (by rw [s.lens]; omega)]
  exact (s.each i hi hik).keptS (KeptS.of hk2 (by decide) (by decide) (by decide))
/-- A period is kept. -/
theorem SeW.push {w X w5 : World} {n m k : Nat} {v0 v1 vK v' a b : Value} {ac : List Sg.Acc} {ps : List (List Sg.Ent)} {ls ms : List Value} (s : SeW w X n m (k + 1) k v0 v1 ac ps ls ms vK) (hg : X.grownBy w5 vK.ownBlock) (hown : w5.ownsRow (w.heap.size + 3) 50 2 v' (k + 1) (ms ++ [a, b])) (hk : k < ps.length) (hE : SeE X ps[k] ls[k]? (some a) (some b)) :
    SeW w w5 n m (k + 1) (k + 1) v0 v1 ac ps ls (ms ++ [a, b]) v' := by
  have hk5 := keptT_append s.msr hg
  have hml : ms.length = k * 2 := by have := s.msr.1; omega
  have hS : KeptS X w5 := KeptS.of hk5 (by decide) (by decide) (by decide)
  refine ⟨s.bel.grown hg s.bel.size (fun q hq => by have := (World.ownsRow.lt s.msr q hq).1; omega), hk5 _ _ _ _ s.arg (by decide), s.row.keptT hk5 (by decide), s.per.keptT hk5 (by decide), hown, s.lens, fun i hi hik => ?_⟩
  by_cases e : i = k
  · subst e
    rw [List.getElem?_append_right (by omega), List.getElem?_append_right (by omega), hml, Nat.sub_self, show i * 2 + 1 - i * 2 = 1 by omega]
    exact hE.keptS hS
  · rw [List.getElem?_append_left (by omega), List.getElem?_append_left (by omega)]
    exact (s.each i hi (by omega)).keptS hS
/-- Both places behind the periods are filled. -/
structure SeF (w wr : World) (n m x1 x2 : Nat) (v0 v1 : Value) (ac : List Sg.Acc) (ps : List (List Sg.Ent)) (ls ms : List Value) (vK : Value) : Prop where
  all : SeW w wr n m (m + 2) m v0 v1 ac ps (ls ++ [.slice (some ⟨x1, 0, none⟩) 1 1, .slice (some ⟨x2, 0, none⟩) 1 1]) ms vK
  len : ls.length = m
  b1 : Two wr x1 (.string beyondT) (.slice none 0 0) 55
  b2 : Two wr x2 (.string beyondT) (.slice none 0 0) 55
theorem SeF.below {w wr w' : World} {n m x1 x2 : Nat} {v0 v1 vK : Value} {ac : List Sg.Acc} {ps : List (List Sg.Ent)} {ls ms : List Value} (s : SeF w wr n m x1 x2 v0 v1 ac ps ls ms vK) (h : Below wr.heap.size wr w') : SeF w w' n m x1 x2 v0 v1 ac ps ls ms vK :=
  ⟨s.all.below h, s.len, s.b1.below h, s.b2.below h⟩
theorem SeW.fill {w wr : World} {n m : Nat} {v0 v1 vK : Value} {ac : List Sg.Acc} {ps : List (List Sg.Ent)} {ls ms : List Value} (s : SeW w wr n m m m v0 v1 ac ps ls ms vK) :
    SeF w ((((wr.alloc (.cells #[.string beyondT, .slice none 0 0] 55)).setCell ⟨w.heap.size + 2, m, none⟩ (.slice (some ⟨wr.heap.size, 0, none⟩) 1 1)).alloc (.cells #[.string beyondT, .slice none 0 0] 55)).setCell ⟨w.heap.size + 2, m + 1, none⟩ (.slice (some ⟨wr.heap.size + 1, 0, none⟩) 1 1)) n m wr.heap.size (wr.heap.size + 1) v0 v1 ac ps ls ms vK := by
  have a1 : Below wr.heap.size wr (wr.alloc (.cells #[.string beyondT, .slice none 0 0] 55)) := (Below.refl _ _).alloc (Nat.le_refl _) _
  have s1 := (s.below a1).put (.slice (some ⟨wr.heap.size, 0, none⟩) 1 1) (by omega) (Nat.le_refl _)
  have t1 : Two (wr.alloc (.cells #[.string beyondT, .slice none 0 0] 55)) wr.heap.size (.string beyondT) (.slice none 0 0) 55 := Two.new wr _ _ _
  have k1 : KeptT 47 (wr.alloc (.cells #[.string beyondT, .slice none 0 0] 55)) ((wr.alloc (.cells #[.string beyondT, .slice none 0 0] 55)).setCell ⟨w.heap.size + 2, m, none⟩ (.slice (some ⟨wr.heap.size, 0, none⟩) 1 1)) := (s.below a1).per.kept
  have t2 : Two ((wr.alloc (.cells #[.string beyondT, .slice none 0 0] 55)).setCell ⟨w.heap.size + 2, m, none⟩ (.slice (some ⟨wr.heap.size, 0, none⟩) 1 1)) wr.heap.size (.string beyondT) (.slice none 0 0) 55 := k1 _ _ _ _ t1 (by decide)
  have hs1 : ((wr.alloc (.cells #[.string beyondT, .slice none 0 0] 55)).setCell ⟨w.heap.size + 2, m, none⟩ (.slice (some ⟨wr.heap.size, 0, none⟩) 1 1)).heap.size = wr.heap.size + 1 := by simp
  generalize (wr.alloc (.cells #[.string beyondT, .slice none 0 0] 55)).setCell ⟨w.heap.size + 2, m, none⟩ (.slice (some ⟨wr.heap.size, 0, none⟩) 1 1) = W1 at *
  have a2 : Below W1.heap.size W1 (W1.alloc (.cells #[.string beyondT, .slice none 0 0] 55)) := (Below.refl _ _).alloc (Nat.le_refl _) _
  have s2 := (s1.below a2).put (.slice (some ⟨wr.heap.size + 1, 0, none⟩) 1 1) (by omega) (by omega)
  have k2 : KeptT 47 (W1.alloc (.cells #[.string beyondT, .slice none 0 0] 55)) ((W1.alloc (.cells #[.string beyondT, .slice none 0 0] 55)).setCell ⟨w.heap.size + 2, m + 1, none⟩ (.slice (some ⟨wr.heap.size + 1, 0, none⟩) 1 1)) := (s1.below a2).per.kept
  have t3 : Two (W1.alloc (.cells #[.string beyondT, .slice none 0 0] 55)) W1.heap.size (.string beyondT) (.slice none 0 0) 55 := Two.new W1 _ _ _
  rw [hs1] at t3
  refine ⟨?_, s.lens, k2 _ _ _ _ (t2.below a2) (by decide), k2 _ _ _ _ t3 (by decide)⟩
  rw [List.append_assoc] at s2
  exact s2
/-- The period that is handed in, and the one that is kept. -/
theorem SeF.period {w wr : World} {n m x1 x2 i : Nat} {v0 v1 vK : Value} {ac : List Sg.Acc} {ps : List (List Sg.Ent)} {ls ms : List Value} (s : SeF w wr n m x1 x2 v0 v1 ac ps ls ms vK) (hi : i < ps.length) (him : i < m) :
    ∃ g aoM capM, wr.cell? ⟨w.heap.size + 2, i, none⟩ = some (.slice (some ⟨g, 0, none⟩) ps[i].length (ps[i].length + 2)) ∧ ms[i * 2]? = some (.slice (some ⟨g, 0, none⟩) (ps[i].length + 2) (ps[i].length + 2)) ∧ ms[i * 2 + 1]? = some (.slice aoM ps[i].length capM) ∧ Spared wr 0 g ps[i].length aoM ps[i] := by
  obtain ⟨g, aoM, capM, h1, h2, h3, h4⟩ := s.all.each i hi him
  obtain ⟨cur, a, _, c, _⟩ := s.all.per
  refine ⟨g, aoM, capM, ?_, h2, h3, h4⟩
  rw [cell_of_row wr _ _ _ _ _ a, c i (by omega)]
  exact h1
theorem SeF.in_ {w wr : World} {n m x1 x2 : Nat} {v0 v1 vK : Value} {ac : List Sg.Acc} {ps : List (List Sg.Ent)} {ls ms : List Value} (s : SeF w wr n m x1 x2 v0 v1 ac ps ls ms vK) (hm : ps.length = m) : PersIn wr (some ⟨w.heap.size + 2, 0, none⟩) ps := by
  refine Or.inr ⟨w.heap.size + 2, 0, rfl, s.all.per.lt, fun i hi => ?_⟩
  obtain ⟨g, aoM, capM, h1, _, _, h4⟩ := s.period hi (by omega)
  exact ⟨some ⟨g, 0, none⟩, _, by rw [Nat.zero_add]; exact h1, h4.ents⟩
theorem SeF.spare {w wr : World} {n m x1 x2 : Nat} {v0 v1 vK : Value} {ac : List Sg.Acc} {ps : List (List Sg.Ent)} {ls ms : List Value} (s : SeF w wr n m x1 x2 v0 v1 ac ps ls ms vK) : wr.cell? ⟨w.heap.size + 2, m, none⟩ = some (.slice (some ⟨x1, 0, none⟩) 1 1) ∧ wr.cell? ⟨w.heap.size + 2, m + 1, none⟩ = some (.slice (some ⟨x2, 0, none⟩) 1 1) := by
  obtain ⟨cur, a, _, c, _⟩ := s.all.per
  refine ⟨?_, ?_⟩
  · rw [cell_of_row wr _ _ _ _ _ a, c m (by omega), List.getElem?_append_right (by rw [s.len]; omega), s.len, Nat.sub_self]; rfl
  · rw [cell_of_row wr _ _ _ _ _ a, c (m + 1) (by omega), List.getElem?_append_right (by rw [s.len]; omega), s.len, show m + 1 - m = 1 by omega]; rfl
/-- What lies behind. -/
theorem SeF.room {w wr : World} {n m x1 x2 d : Nat} {v0 v1 vK : Value} {ac : List Sg.Acc} {ps : List (List Sg.Ent)} {ls ms : List Value} (s : SeF w wr n m x1 x2 v0 v1 ac ps ls ms vK) (hd : d < 2) : ∃ xb, wr.cell? ⟨w.heap.size + 2, m + d, none⟩ = some (.slice (some ⟨xb, 0, none⟩) 1 1) ∧ wr.cell? ⟨xb, 0, none⟩ = some (.string beyondT) ∧ wr.cell? ⟨xb, 1, none⟩ = some (.slice none 0 0) ∧ wr.cell? ⟨w.heap.size + 1, (n + d) * 2, none⟩ = some (.string beyondT) ∧ wr.cell? ⟨w.heap.size + 1, (n + d) * 2 + 1, none⟩ = some (.int .i64 0) := by
  obtain ⟨a1, a2, _⟩ := s.all.row.cells (i := n + d) (by omega) (by omega)
  have h := s.spare
  by_cases e : d = 0
  · subst e
    exact ⟨x1, h.1, s.b1.cells.1, s.b1.cells.2, a1, a2⟩
  · obtain rfl : d = 1 := by omega
    exact ⟨x2, h.2, s.b2.cells.1, s.b2.cells.2, a1, a2⟩
end Go.Proofs.Ytoadiibfmcjgaaa

/-
  THE WALK of signetlaw.Seals (P5, P6).
-/
namespace Go.Proofs.Ytoadiibfmcjgaaa
open Go.RowKit
set_option maxRecDepth 100000
attribute [local go_sem ↓] Go.wp_at_zero Go.wp_at_succ

theorem Try.infoLent : (Try.prog.info? 50).map (fun i => (i.zero, i.size, i.bytes)) = some (some (.agg #[.slice none 0 0, .slice none 0 0]), 2, 48) := by kernel_rfl
theorem Try.infoPerS : (Try.prog.info? 47).map (fun i => (i.zero, i.size, i.bytes)) = some (some (.agg #[.slice none 0 0]), 1, 24) := by kernel_rfl
theorem SeW.start {w W3 : World} {n m : Nat} {v0 v1 : Value} {ac : List Sg.Acc} {ps : List (List Sg.Ent)} (hb : Below w.heap.size w W3) (hT : Two W3 w.heap.size v0 v1 41) (hr : ARow W3 (w.heap.size + 1) n ac (.string beyondT)) (hs : W3.heap.size = w.heap.size + 2) :
    SeW w (W3.alloc (.cells (madeCells #[.slice none 0 0] (m + 2)) 47)) n m 0 0 v0 v1 ac ps [] [] (.slice none 0 0) := by
  have a : Below W3.heap.size W3 (W3.alloc (.cells (madeCells #[.slice none 0 0] (m + 2)) 47)) := (Below.refl _ _).alloc (Nat.le_refl _) _
  have hl := LPer.make W3 m
  rw [hs] at hl
  exact ⟨hb.trans (a.mono hb.size), hT.below a, hr.block (a.block _ hr.lt), hl, World.ownsRow_nil _ _ _ _, rfl, fun i _ h => absurd h (by omega)⟩

/-- The box of what is handed in. -/
structure SeB (WB wx : World) (vX vY : Value) : Prop where
  bel : Below WB.heap.size WB wx
  box : Two wx WB.heap.size vX vY 41
theorem SeB.below {WB wx w' : World} {vX vY : Value} (s : SeB WB wx vX vY) (h : Below wx.heap.size wx w') : SeB WB w' vX vY := ⟨s.bel.trans (h.mono s.bel.size), s.box.below h⟩
theorem SeB.start (WB : World) (vX vY : Value) : SeB WB (WB.alloc (.cells #[vX, vY] 41)).drew vX vY := ⟨((Below.refl _ _).alloc (Nat.le_refl _) _).drew, Two.new WB _ _ _⟩
theorem SeB.set0 {WB wx : World} {vX vY : Value} (u : Value) (s : SeB WB wx vX vY) : SeB WB (wx.setCell ⟨WB.heap.size, 0, none⟩ u) u vY := ⟨s.bel.setCell (Nat.le_refl _) _, heap_setCell_same wx _ 0 _ _ u s.box⟩
theorem SeB.set1 {WB wx : World} {vX vY : Value} (u : Value) (s : SeB WB wx vX vY) : SeB WB (wx.setCell ⟨WB.heap.size, 1, none⟩ u) vX u := ⟨s.bel.setCell (Nat.le_refl _) _, heap_setCell_same wx _ 1 _ _ u s.box⟩
theorem two_froz {w : World} {g : Nat} {x y : Value} {t : TypeId} (h : Two w g x y t) : w.frozen? ⟨g, 0, none⟩ = false ∧ w.frozen? ⟨g, 1, none⟩ = false := by
  unfold Two at h
  exact ⟨by simp [World.frozen?, h], by simp [World.frozen?, h]⟩

set_option maxHeartbeats 6400000 in
theorem lawSeals_any (h : Sg.Hist) (aoA aoP : Option Addr) (n m capA capP : Nat) (w : World) (hH : HistIn w aoA aoP n m h) (hn : n ≤ 1048576) (hm : m ≤ 1048576) (hp : ∀ p ∈ h.pers, p.length ≤ 3518437208780 ∧ ∀ e ∈ p, e.posts.length ≤ 8796093021952) :
    Calls Try.prog 5 #[.agg #[.slice aoA n capA, .slice aoP m capP]] w fun e w' => e = .returned (.bool true) ∧ Below w.heap.size w w' := by
  obtain ⟨a0, ai, az0, az1, az2⟩ := info_parts Try.infoAcc2
  obtain ⟨p0, pi, pz0, pz1, pz2⟩ := info_parts Try.infoPerS
  obtain ⟨l0, li, lz0, lz1, lz2⟩ := info_parts Try.infoLent
  have hqA := fun (w : World) (a : Option Addr) (n c : Nat) => Lib.run_eql_slice_nil (P := Try.prog) w 38 43 a n c 0 0 Try.underlying38
  have hqP := fun (w : World) (a : Option Addr) (n c : Nat) => Lib.run_eql_slice_nil (P := Try.prog) w 39 47 a n c 0 0 Try.underlying39
  have HH : Hid (HistIn w aoA aoP n m h) := hH
  have HP : Hid (∀ p ∈ h.pers, p.length ≤ 3518437208780 ∧ ∀ e ∈ p, e.posts.length ≤ 8796093021952) := hp
  clear hH hp
  have hmkA : ∀ W : World, (Instr.makeSlice 38 (.int .i64 ((n : Int) + 2)) (.int .i64 ((n : Int) + 2))).run Try.prog W = .ok (.slice (some ⟨W.heap.size, 0, none⟩) (n + 2) (n + 2)) (W.alloc (.cells (madeCells #[.string ByteArray.empty, .int .i64 0] ((n + 2) * 2)) 43)) := fun W => by
    have h := run_make (P := Try.prog) W 38 43 a0 (.agg #[.string ByteArray.empty, .int .i64 0]) Try.underlying38 ai az0 .i64 .i64 ((n + 2 : Nat) : Int) ((n + 2 : Nat) : Int) (by omega) (by omega) (by rw [az2]; omega) (by omega)
    rw [az1, Int.toNat_natCast] at h
    rw [show (n : Int) + 2 = ((n + 2 : Nat) : Int) by omega]
    exact h
  have hmkP : ∀ W : World, (Instr.makeSlice 39 (.int .i64 ((m : Int) + 2)) (.int .i64 ((m : Int) + 2))).run Try.prog W = .ok (.slice (some ⟨W.heap.size, 0, none⟩) (m + 2) (m + 2)) (W.alloc (.cells (madeCells #[.slice none 0 0] (m + 2)) 47)) := fun W => by
    have h := run_make (P := Try.prog) W 39 47 p0 (.agg #[.slice none 0 0]) Try.underlying39 pi pz0 .i64 .i64 ((m + 2 : Nat) : Int) ((m + 2 : Nat) : Int) (by omega) (by omega) (by rw [pz2]; omega) (by omega)
    rw [pz1, Int.toNat_natCast, Nat.mul_one] at h
    rw [show (m : Int) + 2 = ((m + 2 : Nat) : Int) by omega]
    exact h
  have aX : Below w.heap.size w ((w.alloc (.cells #[.slice aoA n capA, .slice aoP m capP] 41)).alloc (.cells (madeCells #[.string ByteArray.empty, .int .i64 0] ((n + 2) * 2)) 43)) := ((Below.refl _ _).alloc (Nat.le_refl _) _).alloc (by simp) _
  have hnew : ((w.alloc (.cells #[.slice aoA n capA, .slice aoP m capP] 41)).alloc (.cells (madeCells #[.string ByteArray.empty, .int .i64 0] ((n + 2) * 2)) 43)).heap[w.heap.size + 1]? = some (.cells (madeCells #[.string ByteArray.empty, .int .i64 0] ((n + 2) * 2)) 43 (0, 0)) := by
    have := heap_alloc_new (w.alloc (.cells #[.slice aoA n capA, .slice aoP m capP] 41)) (.cells (madeCells #[.string ByteArray.empty, .int .i64 0] ((n + 2) * 2)) 43)
    simpa using this
  have hT : Two ((w.alloc (.cells #[.slice aoA n capA, .slice aoP m capP] 41)).alloc (.cells (madeCells #[.string ByteArray.empty, .int .i64 0] ((n + 2) * 2)) 43)) w.heap.size (.slice aoA n capA) (.slice aoP m capP) 41 := (Two.new w _ _ _).below ((Below.refl _ _).alloc (Nat.le_refl _) _)
  obtain ⟨w2, hrun, hrow2, hb2, hgr, hs2⟩ := copy_accs h.accs aoA n capA (w.heap.size + 1) w.heap.size w _ HH.out.lenA (HH.out.accs.below aX) hnew aX (by omega)
  have hT2 : Two w2 w.heap.size (.slice aoA n capA) (.slice aoP m capP) 41 := (hgr.block w.heap.size (lt_of_block hT) (by simp)).trans hT
  have b3 : Below w.heap.size w ((w2.setCell ⟨w.heap.size + 1, n * 2, none⟩ (.string beyondT)).setCell ⟨w.heap.size + 1, (n + 1) * 2, none⟩ (.string beyondT)) := (hb2.setCell (by show _ ≤ w.heap.size + 1; omega) _).setCell (by show _ ≤ w.heap.size + 1; omega) _
  have hT3 : Two ((w2.setCell ⟨w.heap.size + 1, n * 2, none⟩ (.string beyondT)).setCell ⟨w.heap.size + 1, (n + 1) * 2, none⟩ (.string beyondT)) w.heap.size (.slice aoA n capA) (.slice aoP m capP) 41 := by
    show _ = _
    rw [heap_setCell_other _ ⟨w.heap.size + 1, (n + 1) * 2, none⟩ w.heap.size _ (by show w.heap.size ≠ w.heap.size + 1; omega), heap_setCell_other _ ⟨w.heap.size + 1, n * 2, none⟩ w.heap.size _ (by show w.heap.size ≠ w.heap.size + 1; omega)]
    exact hT2
  have HS0 : Hid (SeW w (((w2.setCell ⟨w.heap.size + 1, n * 2, none⟩ (.string beyondT)).setCell ⟨w.heap.size + 1, (n + 1) * 2, none⟩ (.string beyondT)).alloc (.cells (madeCells #[.slice none 0 0] (m + 2)) 47)) n m 0 0 (.slice aoA n capA) (.slice aoP m capP) h.accs h.pers [] [] (.slice none 0 0)) := SeW.start b3 hT3 (hrow2.mark HH.out.lenA) (by simp [hs2])
  have hs3 : ((w2.setCell ⟨w.heap.size + 1, n * 2, none⟩ (.string beyondT)).setCell ⟨w.heap.size + 1, (n + 1) * 2, none⟩ (.string beyondT)).heap.size = w.heap.size + 2 := by simp [hs2]
  obtain ⟨t0, t1⟩ := hT.cells
  obtain ⟨u0, u1⟩ := hT2.cells
  obtain ⟨c0, _, f0⟩ := hrow2.cells (i := n) (Nat.le_refl _) (by omega)
  obtain ⟨c1, _, f1⟩ := hrow2.cells (i := n + 1) (by omega) (by omega)
  have j2 : (n : Int) < ((n + 2 : Nat) : Int) := by omega
  have j3 : ((n + 1 : Nat) : Int) < ((n + 2 : Nat) : Int) := by omega
  have j4 : (0 : Int) ≤ ((n + 1 : Nat) : Int) := by omega
  have j5 : (0 : Int) ≤ (n : Int) := by omega
  clear aX hnew hT hrow2 hb2 hgr hs2 hT2 b3
  go_enter Try.func5, Try.ntmps5
  go_upto_region 6 with fail
  generalize (w2.setCell ⟨w.heap.size + 1, n * 2, none⟩ (.string beyondT)).setCell ⟨w.heap.size + 1, (n + 1) * 2, none⟩ (.string beyondT) = W3 at *
  clear hrun t0 t1 u0 u1 c0 c1 f0 f1 hmkA
  obtain ⟨s0, s1⟩ := hT3.cells
  go_wp2_with fail
  go_loopw [7, 8] (fun kv i wr => ∃ k : Nat, k ≤ m ∧ i = .int .i64 (k : Int) ∧ ∃ ls ms aoK capK, kv = .slice aoK k capK ∧ Hid (SeW w wr n m k k (.slice aoA n capA) (.slice aoP m capP) h.accs h.pers ls ms (.slice aoK k capK))) (fun _ i _ => m - (intOf i).toNat)
  case atStart => exact ⟨0, by omega, rfl, [], [], none, 0, rfl, HS0⟩
  case round =>
    obtain ⟨k, hk, rfl, ls, ms, aoK, capK, rfl, HS⟩ := hrel
    obtain ⟨wz, ewz⟩ : ∃ z : World, z = wr := ⟨_, rfl⟩
    subst ewz
    clear hmkP HS0 s0 s1 hT3 hs3
    by_cases hgo : k < m
    · have g1 : (k : Int) < (m : Int) := by omega
      have g0 : (0 : Int) ≤ (k : Int) := by omega
      have g2 : (k : Int) < ((m + 2 : Nat) : Int) := by omega
      have hka : k < h.pers.length := by rw [HH.out.lenP]; exact hgo
      obtain ⟨b2, off2, e2, hb2, aq, cq, hc2, hp2⟩ := HH.out.pers.cell (k := k) hka
      subst e2
      have hbz := HS.out.bel
      have x2 := (hbz.cell (p := ⟨b2, off2 + k, none⟩) hb2).trans hc2
      have hpk := HP.out h.pers[k] (List.getElem_mem _)
      have hcall := spare_any h.pers[k] aq h.pers[k].length cq wz rfl (by omega) (hp2.below hbz) (fun e he => by have := hpk.2 e he; omega)
      obtain ⟨pp, hpp⟩ : ∃ q, h.pers[k] = q := ⟨_, rfl⟩
      rw [hpp] at x2 hcall hpk
      obtain ⟨np, hnp⟩ : ∃ q, pp.length = q := ⟨_, rfl⟩
      rw [hnp] at x2 hcall hpk
      have HK : Hid (h.pers[k] = pp ∧ pp.length = np) := ⟨hpp, hnp⟩
      clear hpp hnp hp2 hc2 hbz
      obtain ⟨s0, s1⟩ := HS.out.arg.cells
      go_wp2_with fail
      refine hcall.mono ?_
      clear hcall
      rintro e w1 ⟨g, aoM, capM, rfl, hsp, hb1⟩
      have aB : Below w1.heap.size w1 ((w1.alloc (.cells #[.slice (some ⟨g, 0, none⟩) np (np + 2)] 47)).alloc (.cells #[.slice (some ⟨g, 0, none⟩) (np + 2) (np + 2), .slice aoM np capM] 50)) := ((Below.refl _ _).alloc (Nat.le_refl _) _).alloc (by simp) _
      have HSX : Hid (SeW w ((w1.alloc (.cells #[.slice (some ⟨g, 0, none⟩) np (np + 2)] 47)).alloc (.cells #[.slice (some ⟨g, 0, none⟩) (np + 2) (np + 2), .slice aoM np capM] 50)) n m k k (.slice aoA n capA) (.slice (some ⟨b2, off2, none⟩) m capP) h.accs h.pers ls ms (.slice aoK k capK)) := HS.out.below (hb1.trans (aB.mono hb1.size))
      have HSp : Hid (Spared ((w1.alloc (.cells #[.slice (some ⟨g, 0, none⟩) np (np + 2)] 47)).alloc (.cells #[.slice (some ⟨g, 0, none⟩) (np + 2) (np + 2), .slice aoM np capM] 50)) wz.heap.size g np aoM pp) := hsp.below aB
      have hz3 : w.heap.size + 2 < w1.heap.size := Nat.lt_of_lt_of_le HS.out.per.lt hb1.size
      have hbx : Two ((w1.alloc (.cells #[.slice (some ⟨g, 0, none⟩) np (np + 2)] 47)).alloc (.cells #[.slice (some ⟨g, 0, none⟩) (np + 2) (np + 2), .slice aoM np capM] 50)) (w1.heap.size + 1) (.slice (some ⟨g, 0, none⟩) (np + 2) (np + 2)) (.slice aoM np capM) 50 := by
        have := heap_alloc_new (w1.alloc (.cells #[.slice (some ⟨g, 0, none⟩) np (np + 2)] 47)) (.cells #[.slice (some ⟨g, 0, none⟩) (np + 2) (np + 2), .slice aoM np capM] 50)
        show _ = _
        simpa using this
      have hq0 : ((w1.alloc (.cells #[.slice (some ⟨g, 0, none⟩) np (np + 2)] 47)).alloc (.cells #[.slice (some ⟨g, 0, none⟩) (np + 2) (np + 2), .slice aoM np capM] 50)).cell? ⟨w1.heap.size, 0, none⟩ = some (.slice (some ⟨g, 0, none⟩) np (np + 2)) := by
        have hb : ((w1.alloc (.cells #[.slice (some ⟨g, 0, none⟩) np (np + 2)] 47)).alloc (.cells #[.slice (some ⟨g, 0, none⟩) (np + 2) (np + 2), .slice aoM np capM] 50)).heap[w1.heap.size]? = some (.cells #[.slice (some ⟨g, 0, none⟩) np (np + 2)] 47 (0, 0)) := by
          rw [Below.heap_alloc _ _ _ (by simp)]; exact heap_alloc_new w1 _
        rw [cell_of_row _ _ _ _ _ _ hb]; rfl
      obtain ⟨lc, lf⟩ := HSX.out.per.cells (i := k) (Nat.le_refl _) (by omega)
      have HS4 : Hid (SeW w (((w1.alloc (.cells #[.slice (some ⟨g, 0, none⟩) np (np + 2)] 47)).alloc (.cells #[.slice (some ⟨g, 0, none⟩) (np + 2) (np + 2), .slice aoM np capM] 50)).setCell ⟨w.heap.size + 2, k, none⟩ (.slice (some ⟨g, 0, none⟩) np (np + 2))) n m (k + 1) k (.slice aoA n capA) (.slice (some ⟨b2, off2, none⟩) m capP) h.accs h.pers (ls ++ [.slice (some ⟨g, 0, none⟩) np (np + 2)]) ms (.slice aoK k capK)) := HSX.out.put (.slice (some ⟨g, 0, none⟩) np (np + 2)) (by omega) (Nat.le_refl _)
      have hk4 : KeptT 47 ((w1.alloc (.cells #[.slice (some ⟨g, 0, none⟩) np (np + 2)] 47)).alloc (.cells #[.slice (some ⟨g, 0, none⟩) (np + 2) (np + 2), .slice aoM np capM] 50)) (((w1.alloc (.cells #[.slice (some ⟨g, 0, none⟩) np (np + 2)] 47)).alloc (.cells #[.slice (some ⟨g, 0, none⟩) (np + 2) (np + 2), .slice aoM np capM] 50)).setCell ⟨w.heap.size + 2, k, none⟩ (.slice (some ⟨g, 0, none⟩) np (np + 2))) := HSX.out.per.kept
      have hbx4 : Two (((w1.alloc (.cells #[.slice (some ⟨g, 0, none⟩) np (np + 2)] 47)).alloc (.cells #[.slice (some ⟨g, 0, none⟩) (np + 2) (np + 2), .slice aoM np capM] 50)).setCell ⟨w.heap.size + 2, k, none⟩ (.slice (some ⟨g, 0, none⟩) np (np + 2))) (w1.heap.size + 1) (.slice (some ⟨g, 0, none⟩) (np + 2) (np + 2)) (.slice aoM np capM) 50 := hk4 _ _ _ _ hbx (by decide)
      have HSp4 : Hid (Spared (((w1.alloc (.cells #[.slice (some ⟨g, 0, none⟩) np (np + 2)] 47)).alloc (.cells #[.slice (some ⟨g, 0, none⟩) (np + 2) (np + 2), .slice aoM np capM] 50)).setCell ⟨w.heap.size + 2, k, none⟩ (.slice (some ⟨g, 0, none⟩) np (np + 2))) wz.heap.size g np aoM pp) := HSp.out.keptS (KeptS.of hk4 (by decide) (by decide) (by decide))
      have hcomm : ((w1.alloc (.cells #[.slice (some ⟨g, 0, none⟩) np (np + 2)] 47)).alloc (.cells #[.slice (some ⟨g, 0, none⟩) (np + 2) (np + 2), .slice aoM np capM] 50)).setCell ⟨w.heap.size + 2, k, none⟩ (.slice (some ⟨g, 0, none⟩) np (np + 2)) = ((w1.setCell ⟨w.heap.size + 2, k, none⟩ (.slice (some ⟨g, 0, none⟩) np (np + 2))).alloc (.cells #[.slice (some ⟨g, 0, none⟩) np (np + 2)] 47)).alloc (.cells #[.slice (some ⟨g, 0, none⟩) (np + 2) (np + 2), .slice aoM np capM] 50) := by
        rw [World.setCell_alloc_past _ _ _ _ (by simp; omega), World.setCell_alloc_past _ _ _ _ hz3]
      rw [hcomm] at HS4 hbx4 HSp4
      clear hsp hb1 aB HSX HSp hk4 HS s0 s1 x2 hcomm
      obtain ⟨bx0, bx1⟩ := hbx.cells
      go_upto_region 14 with fail
      generalize ((w1.setCell ⟨w.heap.size + 2, k, none⟩ (.slice (some ⟨g, 0, none⟩) np (np + 2))).alloc (.cells #[.slice (some ⟨g, 0, none⟩) np (np + 2)] 47)).alloc (.cells #[.slice (some ⟨g, 0, none⟩) (np + 2) (np + 2), .slice aoM np capM] 50) = W4 at *
      clear bx0 bx1 hbx hq0 lc lf
      obtain ⟨by0, by1⟩ := hbx4.cells
      have hmsr := HS4.out.msr
      have hsz : w.heap.size + 3 ≤ W4.heap.size := HS4.out.per.lt
      go_wp2_with (at_builtin; (refine wpList_append_lies _ rfl _ _ 44 rfl (w.heap.size + 3) 50 l0 (.agg #[.slice none 0 0, .slice none 0 0]) 2 48 Try.underlying44 li lz0 lz1 lz2 rfl (by decide) (.slice aoK k capK) k ms rfl (hmsr.alloc _) ⟨W4.heap.size, 0, none⟩ 1 1 [.slice (some ⟨g, 0, none⟩) (np + 2) (np + 2), .slice aoM np capM] rfl rfl (World.news_of_block (cs := #[.slice (some ⟨g, 0, none⟩) (np + 2) (np + 2), .slice aoM np capM]) (t := 50) (fr := (0, 0)) (heap_alloc_new W4 _)) (by intro u hu; simp at hu; rcases hu with rfl | rfl <;> rfl) (by omega) (by unfold maxLen; omega) (by omega) (by simp; omega) (W4.heap.size + 1) (by simp) ?_; intro g1 cap1 w5 hown5 hgrow _ hlt5))
      have aW : Below W4.heap.size W4 (W4.alloc (.cells #[.slice (some ⟨g, 0, none⟩) (np + 2) (np + 2), .slice aoM np capM] 50)) := (Below.refl _ _).alloc (Nat.le_refl _) _
      have HS5 : Hid (SeW w w5 n m (k + 1) (k + 1) (.slice aoA n capA) (.slice (some ⟨b2, off2, none⟩) m capP) h.accs h.pers (ls ++ [.slice (some ⟨g, 0, none⟩) np (np + 2)]) (ms ++ [.slice (some ⟨g, 0, none⟩) (np + 2) (np + 2), .slice aoM np capM]) (.slice (some ⟨g1, 0, none⟩) (k + 1) cap1)) := (HS4.out.below aW).push hgrow hown5 hka ⟨g, aoM, capM, by rw [HK.out.1, HK.out.2, List.getElem?_append_right (by have := HS4.out.lens; simp at this; omega)]; have := HS4.out.lens; simp at this; simp [this], by rw [HK.out.1, HK.out.2], by rw [HK.out.1, HK.out.2], by rw [HK.out.1, HK.out.2]; exact ⟨Nat.zero_le _, (HSp4.out.below aW).lt, (HSp4.out.below aW).ents, (HSp4.out.below aW).behind, (HSp4.out.below aW).kept, (HSp4.out.below aW).keep⟩⟩
      clear hown5 hgrow HS4 HSp4 hmsr by0 by1 hbx4 aW
      go_roundw
      case rel => exact ⟨k + 1, by omega, by go_num, _, _, _, _, rfl, HS5⟩
      case measure => simp [intOf]; omega
    · have hkm : k = m := by omega
      subst hkm
      have g1 : ¬ (k : Int) < (k : Int) := by omega
      obtain ⟨lc0, lf0⟩ := HS.out.per.cells (i := k) (Nat.le_refl _) (by omega)
      obtain ⟨lc1, lf1⟩ := HS.out.per.cells (i := k + 1) (by omega) (by omega)
      have hz3 : w.heap.size + 2 < wz.heap.size := HS.out.per.lt
      have i2 : (k : Int) < ((k + 2 : Nat) : Int) := by omega
      have i3 : ((k + 1 : Nat) : Int) < ((k + 2 : Nat) : Int) := by omega
      have i4 : (0 : Int) ≤ ((k + 1 : Nat) : Int) := by omega
      have i5 : (0 : Int) ≤ (k : Int) := by omega
      have i6 : (k : Int) ≤ ((k + 2 : Nat) : Int) := by omega
      have i7 : (n : Int) ≤ ((n + 2 : Nat) : Int) := by omega
      have hcomm : (((wz.alloc (.cells #[.string beyondT, .slice none 0 0] 55)).setCell ⟨w.heap.size + 2, k, none⟩ (.slice (some ⟨wz.heap.size, 0, none⟩) 1 1)).alloc (.cells #[.string beyondT, .slice none 0 0] 55)).setCell ⟨w.heap.size + 2, k + 1, none⟩ (.slice (some ⟨wz.heap.size + 1, 0, none⟩) 1 1) = (((wz.setCell ⟨w.heap.size + 2, k, none⟩ (.slice (some ⟨wz.heap.size, 0, none⟩) 1 1)).setCell ⟨w.heap.size + 2, k + 1, none⟩ (.slice (some ⟨wz.heap.size + 1, 0, none⟩) 1 1)).alloc (.cells #[.string beyondT, .slice none 0 0] 55)).alloc (.cells #[.string beyondT, .slice none 0 0] 55) := by
        rw [World.setCell_alloc_past _ _ _ _ hz3, World.setCell_alloc_past _ _ _ _ (by simp; omega), World.setCell_alloc_past _ _ _ _ (by simp; omega)]
      have HF : Hid (SeF w ((((wz.setCell ⟨w.heap.size + 2, k, none⟩ (.slice (some ⟨wz.heap.size, 0, none⟩) 1 1)).setCell ⟨w.heap.size + 2, k + 1, none⟩ (.slice (some ⟨wz.heap.size + 1, 0, none⟩) 1 1)).alloc (.cells #[.string beyondT, .slice none 0 0] 55)).alloc (.cells #[.string beyondT, .slice none 0 0] 55)) n k wz.heap.size (wz.heap.size + 1) (.slice aoA n capA) (.slice aoP k capP) h.accs h.pers ls ms (.slice aoK k capK)) := by
        have := HS.out.fill
        rw [hcomm] at this
        exact this
      clear hcomm
      go_upto_region 17 with fail
      clear HS lc0 lf0 lc1 lf1
      generalize (((wz.setCell ⟨w.heap.size + 2, k, none⟩ (.slice (some ⟨wz.heap.size, 0, none⟩) 1 1)).setCell ⟨w.heap.size + 2, k + 1, none⟩ (.slice (some ⟨wz.heap.size + 1, 0, none⟩) 1 1)).alloc (.cells #[.string beyondT, .slice none 0 0] 55)).alloc (.cells #[.string beyondT, .slice none 0 0] 55) = WB at *
      obtain ⟨x1, hx1⟩ : ∃ q, wz.heap.size = q := ⟨_, rfl⟩
      rw [hx1] at HF
      clear hx1
      go_region
      have HB0 : Hid (SeB WB ((WB.alloc (.cells #[.slice (some ⟨w.heap.size + 1, 0, none⟩) n (n + 2), .slice (some ⟨w.heap.size + 2, 0, none⟩) k (k + 2)] 41)).drew) (.slice (some ⟨w.heap.size + 1, 0, none⟩) n (n + 2)) (.slice (some ⟨w.heap.size + 2, 0, none⟩) k (k + 2))) := SeB.start WB _ _
      generalize (WB.alloc (.cells #[.slice (some ⟨w.heap.size + 1, 0, none⟩) n (n + 2), .slice (some ⟨w.heap.size + 2, 0, none⟩) k (k + 2)] 41)).drew = WC at *
      obtain ⟨s0, s1⟩ := (HF.out.below HB0.out.bel).all.arg.cells
      obtain ⟨y0, _⟩ := HB0.out.box.cells
      obtain ⟨yf, _⟩ := two_froz HB0.out.box
      go_upto_if 93 with fail
      go_cut [] from 94 to 94 (fun wx => ∃ aoX capX, Hid (SeB WB wx (.slice aoX n capX) (.slice (some ⟨w.heap.size + 2, 0, none⟩) k (k + 2)) ∧ n ≤ capX ∧ capX ≤ 9223372036854775807 ∧ (aoX = some ⟨w.heap.size + 1, 0, none⟩ ∨ n = 0)))
      case first =>
        rcases aoA with _ | ad
        · have hn0 : n = 0 := by
            rcases HH.out.accs with h0 | ⟨b, o, e, _⟩
            · rw [← HH.out.lenA]; exact h0
            · simp at e
          subst hn0
          go_wp2_with fail
          go_meet
          exact ⟨none, 0, HB0.out.set0 _, by omega, by omega, Or.inr (by simp)⟩
        · go_wp2_with fail
          go_meet
          exact ⟨_, _, HB0.out, by omega, by omega, Or.inl rfl⟩
      case rest =>
        obtain ⟨aoX, capX, HB1⟩ := hcut
        obtain ⟨WD, eWD⟩ : ∃ z : World, z = wc := ⟨_, rfl⟩
        subst eWD
        clear HB0 s0 s1 y0 yf
        obtain ⟨s0, s1⟩ := (HF.out.below HB1.out.1.bel).all.arg.cells
        obtain ⟨_, y1⟩ := HB1.out.1.box.cells
        obtain ⟨_, yf⟩ := two_froz HB1.out.1.box
        go_upto_if 97 with fail
        go_cut [] from 98 to 98 (fun wx => ∃ aoY capY, Hid (SeB WB wx (.slice aoX n capX) (.slice aoY k capY) ∧ (aoY = some ⟨w.heap.size + 2, 0, none⟩ ∨ k = 0)))
        case first =>
          rcases aoP with _ | ad
          · have hk0 : k = 0 := by
              rcases HH.out.pers with h0 | ⟨b, o, e, _⟩
              · rw [← HH.out.lenP]; exact h0
              · simp at e
            subst hk0
            go_wp2_with fail
            go_meet
            exact ⟨none, 0, HB1.out.1.set1 _, Or.inr (by simp)⟩
          · go_wp2_with fail
            go_meet
            exact ⟨_, _, HB1.out.1, Or.inl rfl⟩
        case rest =>
          obtain ⟨aoY, capY, HB2⟩ := hcut
          obtain ⟨WE, eWE⟩ : ∃ z : World, z = wc := ⟨_, rfl⟩
          subst eWE
          have HFE := HF.out.below HB2.out.1.bel
          have hHg : HistIn WE aoX aoY n k h := by
            refine ⟨?_, ?_, HH.out.lenA, HH.out.lenP, HH.out.sizA, HH.out.sizP, HH.out.sizQ⟩
            · rcases HB1.out.2.2.2 with rfl | h0
              · exact HFE.all.row.in_
              · exact Or.inl (by rw [HH.out.lenA]; exact h0)
            · rcases HB2.out.2 with rfl | h0
              · exact HFE.in_ HH.out.lenP
              · exact Or.inl (by rw [HH.out.lenP]; exact h0)
          have c1 := seal_any h aoX aoY n k capX capY WE hHg HB1.out.2.1 HB1.out.2.2.1
          have c2 := fun W (hb : Below WB.heap.size WB W) => refSeal_any h aoA aoP n k capA capP W (HH.out.below (HF.out.all.bel.trans (hb.mono HF.out.all.bel.size)))
          generalize Sg.package h = pk at c1 c2
          generalize Sg.headOf h = hd at c1 c2
          generalize Sg.closeErr h = er at c1 c2
          have hbE := HB2.out.1.bel
          clear s0 s1 y1 yf hHg HFE
          obtain ⟨z0, z1⟩ := HB2.out.1.box.cells
          go_wp2_with fail
          refine c1.mono ?_
          clear c1
          rintro e w6 ⟨rfl, hb6⟩
          have hbF := hbE.trans (hb6.mono hbE.size)
          clear hbE hb6 z0 z1
          obtain ⟨s0, s1⟩ := (HF.out.below hbF).all.arg.cells
          go_wp2_with fail
          refine (c2 _ hbF).mono ?_
          clear c2
          rintro e w7 ⟨rfl, hb7⟩
          have hbG := hbF.trans (hb7.mono hbF.size)
          clear hbF hb7 s0 s1 HB1 HB2
          go_wp2_with fail
          have HHb : Hid (∀ W, Below WB.heap.size WB W → Below w.heap.size w W) := fun W hb => HF.out.all.bel.trans (hb.mono HF.out.all.bel.size)
          go_loopw [18] (fun i wr => ∃ q : Nat, q ≤ n ∧ i = .int .i64 (q : Int) ∧ Below WB.heap.size WB wr) (fun i _ => n - (intOf i).toNat)
          case atStart => exact ⟨0, by omega, rfl, hbG⟩
          case round =>
            obtain ⟨q, hq, rfl, hbel⟩ := hrel
            obtain ⟨wy, ewy⟩ : ∃ z : World, z = wr := ⟨_, rfl⟩
            subst ewy
            clear hbG
            obtain ⟨s0, s1⟩ := (HF.out.below hbel).all.arg.cells
            by_cases hlt : q < n
            · have hqa : q < h.accs.length := by rw [HH.out.lenA]; exact hlt
              obtain ⟨b1, o1, e1, _, x1, y1⟩ := (HH.out.accs.below (HHb.out _ hbel)).cell (k := q) hqa
              obtain ⟨x2, y2⟩ := (HF.out.below hbel).all.row.cell hqa
              subst e1
              generalize h.accs[q].name = nm at *
              generalize h.accs[q].line = ln at *
              have q1 : (0 : Int) ≤ (q : Int) := by omega
              have q2 : (q : Int) < (n : Int) := by omega
              have q3 : (q : Int) < ((n + 2 : Nat) : Int) := by omega
              go_wp2_with fail
              go_quiet (fail)
              go_wp2_with fail
              go_roundw
              case rel => exact ⟨q + 1, by omega, by go_num, below_drewN hbel _⟩
              case measure => simp [intOf]; omega
            · have q2 : ¬ (q : Int) < (n : Int) := by omega
              go_wp2_with fail
              clear s0 s1 q2 hlt hq
              go_loopw [19] (fun i wr => ∃ q : Nat, q ≤ k ∧ i = .int .i64 (q : Int) ∧ Below WB.heap.size WB wr) (fun i _ => k - (intOf i).toNat)
              case atStart => exact ⟨0, by omega, rfl, hbel⟩
              case round =>
                clear hbel
                obtain ⟨r, hr, rfl, hbe⟩ := hrel
                obtain ⟨wu, ewu⟩ : ∃ z : World, z = wr := ⟨_, rfl⟩
                subst ewu
                obtain ⟨s0, s1⟩ := (HF.out.below hbe).all.arg.cells
                by_cases hlr : r < k
                · have hra : r < h.pers.length := by rw [HH.out.lenP]; exact hlr
                  obtain ⟨b1, o1, e1, hb1w, a1, cq, x1, hE1⟩ := HH.out.pers.cell (k := r) hra
                  subst e1
                  have hsz := HP.out _ (List.getElem_mem hra)
                  obtain ⟨g, aoM, capM, c1, m1, m2, hsp⟩ := HF.out.period hra hlr
                  obtain ⟨gK, cK, eK, _, hgK⟩ := HF.out.all.msr.form (by omega)
                  simp only [Value.slice.injEq, true_and] at eK
                  obtain ⟨rfl, rfl⟩ := eK
                  have k0 := (World.ownsRow.cellAt HF.out.all.msr (r * 2) (by omega)).trans m1
                  have k1 := (World.ownsRow.cellAt HF.out.all.msr (r * 2 + 1) (by omega)).trans m2
                  have x1B := (HF.out.all.bel.cell (p := ⟨b1, o1 + r, none⟩) hb1w).trans x1
                  have hb1B : b1 < WB.heap.size := Nat.lt_of_lt_of_le hb1w HF.out.all.bel.size
                  have hlB : w.heap.size + 2 < WB.heap.size := HF.out.all.per.lt
                  obtain ⟨pp, hpp⟩ : ∃ z, h.pers[r] = z := ⟨_, rfl⟩
                  rw [hpp] at hE1 hsz c1 k0 k1 hsp x1B
                  obtain ⟨np, hnp⟩ : ∃ z, pp.length = z := ⟨_, rfl⟩
                  rw [hnp] at hsz c1 k0 k1 hsp x1B
                  have hcA := fun W (hb : Below WB.heap.size WB W) => asItWas_any pp g (np + 2) aoM a1 np capM cq W hnp (by omega) (Nat.le_refl _) (hsp.below hb).lt (hsp.below hb).ents (hsp.below hb).behind (hsp.below hb).kept (hE1.below (HHb.out W hb)) (fun e he => by have := hsz.2 e he; omega)
                  have hcS := fun W (hb : Below WB.heap.size WB W) => sameEnts_any pp (some ⟨g, 0, none⟩) a1 np (np + 2) cq W hnp (by omega) (hsp.below hb).ents (hE1.below (HHb.out W hb)) (fun e he => by have := hsz.2 e he; omega)
                  have HALL : Hid (∀ W, Below WB.heap.size WB W → W.cell? ⟨w.heap.size, 1, none⟩ = some (.slice (some ⟨b1, o1, none⟩) k capP) ∧ W.cell? ⟨b1, o1 + r, none⟩ = some (.slice a1 np cq) ∧ W.cell? ⟨gK, r * 2, none⟩ = some (.slice (some ⟨g, 0, none⟩) (np + 2) (np + 2)) ∧ W.cell? ⟨gK, r * 2 + 1, none⟩ = some (.slice aoM np capM) ∧ W.cell? ⟨w.heap.size + 2, r, none⟩ = some (.slice (some ⟨g, 0, none⟩) np (np + 2))) := fun W hb => ⟨(HF.out.below hb).all.arg.cells.2, (hb.cell (p := ⟨b1, o1 + r, none⟩) hb1B).trans x1B, (hb.cell (p := ⟨gK, r * 2, none⟩) hgK).trans k0, (hb.cell (p := ⟨gK, r * 2 + 1, none⟩) hgK).trans k1, (hb.cell (p := ⟨w.heap.size + 2, r, none⟩) hlB).trans c1⟩
                  clear hsp hE1 hsz hnp hpp x1 x1B k0 k1 c1 m1 m2 s0 s1 hb1w hb1B hgK
                  have q1 : (0 : Int) ≤ (r : Int) := by omega
                  have q2 : (r : Int) < (k : Int) := by omega
                  have q3 : (r : Int) < (k : Int) + 2 := by omega
                  obtain ⟨f1, f2, f3, f4, f5⟩ := HALL.out wu hbe
                  go_upto_region 32 with fail
                  go_cut [20] from 126 to 158 (fun c wx => c = .bool true ∧ Below WB.heap.size WB wx)
                  case first =>
                    go_region_law (rw [if_pos (by simp [Region.wanted])]; go_simp; go_at_call 27; refine (hcA _ (by first | exact hbe | exact hbe.drew)).mono ?_; rintro e w8 ⟨rfl, hb8⟩)
                    all_goals
                      have hb9 : Below WB.heap.size WB w8 := (by first | exact hbe.drew.trans (hb8.mono hbe.size) | exact hbe.trans (hb8.mono hbe.size))
                      clear f1 f2 f3 f4 f5 hb8
                      go_wp2_with fail
                      go_meet
                      exact ⟨rfl, hb9⟩
                  case rest =>
                    obtain ⟨ec, hb9⟩ := hcut
                    subst ec
                    obtain ⟨w8, ew8⟩ : ∃ z : World, z = wc := ⟨_, rfl⟩
                    subst ew8
                    clear f1 f2 f3 f4 f5 hbe
                    obtain ⟨f1, f2, f3, f4, f5⟩ := HALL.out w8 hb9
                    go_upto_region 33 with fail
                    go_cut [21] from 126 to 158 (fun c wx => c = .bool true ∧ Below WB.heap.size WB wx)
                    case first =>
                      go_region_law (rw [if_pos (by simp [Region.wanted])]; go_simp; go_at_call 28; refine (hcS _ (by first | exact hb9 | exact hb9.drew)).mono ?_; rintro e w9 ⟨rfl, hb10⟩)
                      all_goals
                        have hb11 : Below WB.heap.size WB w9 := (by first | exact hb9.drew.trans (hb10.mono hb9.size) | exact hb9.trans (hb10.mono hb9.size))
                        clear f1 f2 f3 f4 f5 hb10
                        go_wp2_with fail
                        go_meet
                        exact ⟨rfl, hb11⟩
                    case rest =>
                      obtain ⟨ec, hb12⟩ := hcut
                      subst ec
                      clear f1 f2 f3 f4 f5 hb9
                      go_wp2_with fail
                      go_roundw
                      case rel => exact ⟨r + 1, by omega, by go_num, hb12⟩
                      case measure => simp [intOf]; omega
                · have q2 : ¬ (r : Int) < (k : Int) := by omega
                  go_wp2_with fail
                  clear s0 s1 q2 hlr hr
                  go_loopw [22] (fun i wr => ∃ q : Nat, q ≤ 2 ∧ i = .int .i64 (q : Int) ∧ Below WB.heap.size WB wr) (fun i _ => 2 - (intOf i).toNat)
                  case atStart => exact ⟨0, by omega, rfl, hbe⟩
                  case round =>
                    clear hbe
                    obtain ⟨d, hd2, rfl, hbd⟩ := hrel
                    obtain ⟨wv, ewv⟩ : ∃ z : World, z = wr := ⟨_, rfl⟩
                    subst ewv
                    by_cases hld : d < 2
                    · obtain ⟨xb, z0, z1, z2, z3, z4⟩ : ∃ xb, wv.cell? ⟨w.heap.size + 2, k + d, none⟩ = some (.slice (some ⟨xb, 0, none⟩) 1 1) ∧ wv.cell? ⟨xb, 0, none⟩ = some (.string beyondT) ∧ wv.cell? ⟨xb, 1, none⟩ = some (.slice none 0 0) ∧ wv.cell? ⟨w.heap.size + 1, (n + d) * 2, none⟩ = some (.string beyondT) ∧ wv.cell? ⟨w.heap.size + 1, (n + d) * 2 + 1, none⟩ = some (.int .i64 0) := (HF.out.below hbd).room hld
                      have q1 : (0 : Int) ≤ (d : Int) := by omega
                      have q2 : (d : Int) < 2 := by omega
                      have q3 : ((k + d : Nat) : Int) < ((k + 2 : Nat) : Int) := by omega
                      have q4 : (0 : Int) ≤ ((k + d : Nat) : Int) := by omega
                      have q5 : ((n + d : Nat) : Int) < ((n + 2 : Nat) : Int) := by omega
                      have q6 : (0 : Int) ≤ ((n + d : Nat) : Int) := by omega
                      go_wp2_with fail
                      go_roundw
                      case rel => exact ⟨d + 1, by omega, by go_num, hbd⟩
                      case measure => simp [intOf]; omega
                    · have q2 : ¬ (d : Int) < 2 := by omega
                      go_wp2_with fail
                      go_ret
                      exact ⟨rfl, HHb.out _ hbd⟩
end Go.Proofs.Ytoadiibfmcjgaaa

/-
  THE WALKS of Depth, isPath, and of both climbs (P4).
-/
namespace Go.Proofs.Ytoadiibfmcjgaaa
open Go.RowKit
set_option maxRecDepth 100000
attribute [local go_sem ↓] Go.wp_at_zero Go.wp_at_succ

set_option maxHeartbeats 800000 in
/-- tree.Depth. -/
theorem depth_any (i n : Nat) (w : World) (hin : i < n) (hn : n ≤ 4096) :
    Calls Try.prog 65 #[.int .i64 (i : Int), .int .i64 (n : Int)] w fun e w' => e = .returned (.int .i64 (Sg.depth i n : Int)) ∧ w' = w := by
  go_enter Try.func65, Try.ntmps65
  go_wp2
  go_loop [0, 1, 5] (fun a m d => ∃ j k c : Nat, j < k ∧ k ≤ 4096 ∧ c + k ≤ 4096 ∧ Hid (c + Sg.depth j k = Sg.depth i n) ∧ a = .int .i64 (j : Int) ∧ m = .int .i64 (k : Int) ∧ d = .int .i64 (c : Int)) (fun _ m _ => (intOf m).toNat)
  case atStart => exact ⟨i, n, 0, hin, hn, by omega, by show _ = _; omega, rfl, rfl, rfl⟩
  case round =>
    obtain ⟨j, k, c, hjk, hk, hck, HD, rfl, rfl, rfl⟩ := hrel
    by_cases h1 : k ≤ 1
    · have HZ : Hid (Sg.depth j k = 0) := Sg.depth_one h1
      have h1' : ¬ (1 : Int) < (k : Int) := by omega
      go_wp2_with fail
      go_ret
      refine ⟨ret_int ?_, rfl⟩
      have h1 := HZ.out
      have h2 := HD.out
      omega
    · have h1' : (1 : Int) < (k : Int) := by omega
      have hlt := Sg.halfN_lt (n := k) (by omega)
      have hpos := Sg.halfN_pos k
      by_cases hjl : j < Sg.halfN k
      · have HL : Hid (Sg.depth j k = Sg.depth j (Sg.halfN k) + 1) := Sg.depth_left (by omega) hjl
        obtain ⟨q, hq⟩ : ∃ q, q = Sg.halfN k := ⟨_, rfl⟩
        rw [← hq] at HL hlt hpos hjl
        have HQ : Hid (q = Sg.halfN k) := hq
        clear hq
        have hjl' : (j : Int) < (q : Int) := by omega
        go_wp2_with fail
        refine (split_any (k : Int) _ (by omega) (by omega)).mono ?_
        rintro e w1 ⟨rfl, rfl⟩
        rw [Int.toNat_natCast, ← HQ.out]
        go_wp2_with fail
        go_round
        case rel => exact ⟨j, q, c + 1, hjl, by omega, by omega, by have h1 := HL.out; have h2 := HD.out; show _ = _; omega, rfl, rfl, by go_num⟩
        case measure => simp [intOf]; omega
      · have HL : Hid (Sg.depth j k = Sg.depth (j - Sg.halfN k) (k - Sg.halfN k) + 1) := Sg.depth_right (by omega) hjl
        obtain ⟨q, hq⟩ : ∃ q, q = Sg.halfN k := ⟨_, rfl⟩
        rw [← hq] at HL hlt hpos hjl
        have HQ : Hid (q = Sg.halfN k) := hq
        clear hq
        have hjl' : ¬ (j : Int) < (q : Int) := by omega
        go_wp2_with fail
        refine (split_any (k : Int) _ (by omega) (by omega)).mono ?_
        rintro e w1 ⟨rfl, rfl⟩
        rw [Int.toNat_natCast, ← HQ.out]
        go_wp2_with fail
        go_round
        case rel => exact ⟨j - q, k - q, c + 1, by omega, by omega, by omega, by have h1 := HL.out; have h2 := HD.out; show _ = _; omega, by go_num, by go_num, by go_num⟩
        case measure => simp [intOf]; omega

/-- Has each text two bytes? -/
def twos (ss : List ByteArray) : Bool := ss.all fun s => s.size == 2
/-- Has a path the form of one of this leaf among so many? -/
def okPath (i n : Nat) (ss : List ByteArray) : Bool := decide (ss.length = Sg.depth i n) && twos ss
/-- A slice of texts, which may be nil or empty. -/
def StrsIn (w : World) (ao : Option Addr) (ss : List ByteArray) : Prop := ss.length = 0 ∨ ∃ b off, ao = some ⟨b, off, none⟩ ∧ b < w.heap.size ∧ StrsAt w b off ss

theorem ret_bool {a b : Bool} (h : a = b) : Ending.returned (.bool a) = .returned (.bool b) := by rw [h]
theorem twos_snoc {ss : List ByteArray} {j : Nat} (hj : j < ss.length) : twos (ss.take (j + 1)) = (twos (ss.take j) && (ss.getD j ByteArray.empty).size == 2) := by
  unfold twos
  rw [List.take_succ_eq_append_getElem hj, List.all_append]
  simp [List.getD, hj]
theorem twos_stop {ss : List ByteArray} {j : Nat} (hj : j < ss.length) (h : ((ss.getD j ByteArray.empty).size == 2) = false) : twos ss = false := by
  unfold twos
  rw [List.all_eq_false]
  refine ⟨ss[j], List.getElem_mem hj, ?_⟩
  simp [List.getD, hj] at h
  simpa using h

set_option maxHeartbeats 800000 in
/-- seal.isPath. -/
theorem isPath_any (ss : List ByteArray) (ao : Option Addr) (l cap i n : Nat) (w : World) (hl : ss.length = l) (hin : i < n) (hn : n ≤ 4096) (hmax : l ≤ 1152921504606846976) (hss : StrsIn w ao ss) (hszs : ∀ s ∈ ss, s.size ≤ 140737488355328) :
    Calls Try.prog 46 #[.slice ao l cap, .int .i64 (i : Int), .int .i64 (n : Int)] w fun e w' => e = .returned (.bool (okPath i n ss)) ∧ w' = w := by
  by_cases hd : l = Sg.depth i n
  · have HO : Hid (okPath i n ss = twos ss) := by show _ = _; unfold okPath; rw [hl, hd]; simp
    have HDl : Hid (l = Sg.depth i n) := hd
    clear hd
    have HN : Hid (ss.length = l) := hl
    clear hl
    go_enter Try.func46, Try.ntmps46
    go_wp2_with fail
    refine (depth_any i n _ hin hn).mono ?_
    rintro e w1 ⟨rfl, rfl⟩
    rw [← HDl.out]
    go_wp2_with fail
    go_loop [17] (fun c => ∃ j : Nat, j ≤ l ∧ c = .int .i64 (j : Int) ∧ Hid (twos (ss.take j) = true)) (fun c => l - (intOf c).toNat)
    case atStart => exact ⟨0, by omega, rfl, by show _ = _; simp [twos]⟩
    case round =>
      obtain ⟨j, hj, rfl, HT⟩ := hrel
      by_cases hlt : j < l
      · obtain ⟨b, off, rfl, hbw, hat⟩ : ∃ b off, ao = some ⟨b, off, none⟩ ∧ b < w1.heap.size ∧ StrsAt w1 b off ss := by
          rcases hss with h0 | h
          · have := HN.out; omega
          · exact h
        have hc := hat j (by rw [HN.out]; exact hlt)
        have hz : (ss.getD j ByteArray.empty).size ≤ 140737488355328 := hszs _ (by
          rw [List.getD_eq_getElem?_getD, List.getElem?_eq_getElem (by rw [HN.out]; exact hlt)]; simp)
        have H1 : Hid (twos (ss.take (j + 1)) = (twos (ss.take j) && (ss.getD j ByteArray.empty).size == 2)) := twos_snoc (by rw [HN.out]; exact hlt)
        have H2 : ((ss.getD j ByteArray.empty).size == 2) = false → Hid (twos ss = false) := fun h => twos_stop (by rw [HN.out]; exact hlt) h
        generalize ss.getD j ByteArray.empty = x at *
        clear hss hat hszs
        by_cases h2 : x.size = 2
        · have h2' : ((x.size : Int) != 2) = false := by simp [h2]
          have H3 : Hid (twos (ss.take (j + 1)) = true) := by show _ = _; rw [H1.out, HT.out]; simp [h2]
          clear H1 H2 h2
          go_wp2_with fail
          go_round
          case rel => exact ⟨j + 1, by omega, by go_num, H3⟩
          case measure => simp [intOf]; omega
        · have h2' : ((x.size : Int) != 2) = true := by simp; omega
          have H3 := H2 (by simpa using h2)
          clear H1 H2 h2
          go_wp2_with fail
          go_ret
          exact ⟨ret_bool (by rw [HO.out, H3.out]), rfl⟩
      · go_wp2_with fail
        go_ret
        refine ⟨ret_bool ?_, rfl⟩
        rw [HO.out]
        have h := HT.out
        rw [List.take_of_length_le (by rw [HN.out]; omega)] at h
        rw [h]
  · have HO : Hid (okPath i n ss = false) := by show _ = _; unfold okPath; rw [hl]; simp [hd]
    have hne : ((l : Int) != (Sg.depth i n : Int)) = true := by simp; omega
    clear hd
    go_enter Try.func46, Try.ntmps46
    go_wp2_with fail
    refine (depth_any i n _ hin hn).mono ?_
    rintro e w1 ⟨rfl, rfl⟩
    go_wp2_with fail
    go_ret
    exact ⟨ret_bool (by rw [HO.out]), rfl⟩
end Go.Proofs.Ytoadiibfmcjgaaa

/-
  A slice of texts that came in, opened; what each statement's last step leans on.
-/
namespace Go.Proofs.Ytoadiibfmcjgaaa
set_option maxRecDepth 100000
open Go.ChangeShapes Go.WideShapes Go.ChangeAt Go.RowKit
open Go.ChangeMaps (open_string shut_string)

theorem own' : ownKnob Try.prog.godebug = none := by kernel_rfl
theorem laidOut : laidOutB Try.prog = true := by kernel_rfl
theorem Try.cellsStr : Try.prog.cellsOf 9 = 1 := by kernel_rfl
theorem Try.bytesStr : Try.prog.bytesOf 9 = 16 := by kernel_rfl

theorem weights_strs {H : Type} {e : TypeId} : ∀ (ss : List ByteArray) (s : ByteArray), s ∈ ss → s.size ∈ DataW.weightsAll (H := H) Try.prog e (strs ss)
  | [], s, h => by simp at h
  | x :: r, s, h => by
    have es : s.data.toList.length = s.size := by rw [Array.length_toList]; rfl
    simp only [strs, List.map_cons, DataW.weightsAll, List.mem_append]
    rcases List.mem_cons.1 h with rfl | h
    · exact Or.inl (by simp only [DataW.weights, es]; exact List.mem_singleton.2 rfl)
    · exact Or.inr (weights_strs r s h)

/-- A slice of texts that came in: what the walks ask of it. -/
theorem open_leaves {H : Type} {enc : TypeId × Value → H} {W : World} {v : Value} {d : DataW H} {p : List MemPlace} {base : Nat} {ts : List TypeId} {ds : List (DataW H)} {j : Nat}
    (hv : Value.okWide Try.prog W .any base 24 v) (h : DataW.Trod enc Try.prog W 0 (fun _ => true) true 24 v d p)
    (hsz : (DataW.weightsEach Try.prog ts ds).all (· ≤ reachBytes) = true) (ht : ts[j]? = some 24) (hd : ds[j]? = some d) :
    ∃ ao len cap ss, v = .slice ao len cap ∧ ss.length = len ∧ len ≤ cap ∧ cap ≤ 8796093022000 ∧ (∀ s ∈ ss, s.size ≤ 140737488351232) ∧ StrsIn W ao ss ∧ (ao = none → len = 0 ∧ cap = 0) := by
  obtain ⟨ao, len, cap, rfl⟩ := okWide_slice Try.underlying24 hv
  obtain ⟨fuel, hf⟩ := h
  rcases open_strings Try.underlying24 Try.underlying9 Try.cellsStr hf with ⟨hcs, _⟩ | ⟨a, l', c', ss, hcs, _, hl, _, hlen, hx, hcell, _⟩
  · simp [Value.cells] at hcs
    obtain ⟨rfl, rfl, rfl⟩ := hcs
    exact ⟨none, 0, 0, [], rfl, rfl, Nat.le_refl _, by omega, by simp, Or.inl rfl, fun _ => ⟨rfl, rfl⟩⟩
  · simp [Value.cells] at hcs
    obtain ⟨rfl, rfl, rfl⟩ := hcs
    simp only [if_true] at hlen
    have hx1 : d = .slice (strs (ss.take len)) (strs (ss.drop len)) := by
      have := congrArg Prod.fst hx; simpa using this
    subst hx1
    have hw := sized_slice hsz ht hd Try.underlying24
    rw [Try.bytesStr] at hw
    simp only [strs, List.length_map, List.length_take, List.length_drop, reachBytes] at hw
    have hcap : cap * 16 ≤ 140737488351232 := by omega
    refine ⟨some a, len, cap, ss.take len, rfl, by simp; omega, hl, by omega, ?_, ?_, fun h => by simp at h⟩
    · intro s hs
      have := List.all_eq_true.1 hsz s.size (DataW.weights_mem_each ht hd s.size (by
        simp only [DataW.weights, Try.underlying24]
        exact List.mem_cons_of_mem _ (List.mem_append.2 (Or.inl (weights_strs _ s hs)))))
      exact of_decide_eq_true this
    · by_cases h0 : len = 0
      · exact Or.inl (by simp [h0])
      · right
        obtain ⟨b, off, spot⟩ := a
        have hc0 := hcell 0 (by omega)
        have hspot : spot = none := by simpa [Addr.add] using World.cell?_spot hc0
        subst hspot
        refine ⟨b, off, rfl, World.block_lt_of_cell? W _ hc0, fun i hi => ?_⟩
        have hi' : i < len ∧ i < ss.length := by simp at hi; omega
        have := hcell i hi'.2
        have ea : Addr.add ⟨b, off, none⟩ i = ⟨b, off + i, none⟩ := by cases i <;> simp [Addr.add]
        rw [ea] at this
        rw [this]
        simp [List.getD, hi'.1]

end Go.Proofs.Ytoadiibfmcjgaaa

/-
  A PERIOD, A HISTORY that came in, opened: rows within rows.
-/
namespace Go.Proofs.Ytoadiibfmcjgaaa
set_option maxRecDepth 100000
open Go.ChangeShapes Go.WideShapes Go.ChangeAt Go.RowKit

theorem Try.cells1 : Try.prog.cellsOf 3 = 1 := by kernel_rfl
theorem Try.cellsPst : Try.prog.cellsOf 90 = 2 := by kernel_rfl
theorem Try.bytesPst : Try.prog.bytesOf 90 = 16 := by kernel_rfl
theorem Try.cellsEnt : Try.prog.cellsOf 55 = 2 := by kernel_rfl
theorem Try.bytesEnt : Try.prog.bytesOf 55 = 40 := by kernel_rfl
theorem Try.cellsPer : Try.prog.cellsOf 47 = 1 := by kernel_rfl
theorem Try.bytesPer : Try.prog.bytesOf 47 = 24 := by kernel_rfl
theorem Try.cellsAcc : Try.prog.cellsOf 43 = 2 := by kernel_rfl
theorem Try.bytesAcc : Try.prog.bytesOf 43 = 24 := by kernel_rfl
theorem Try.cellsHis : Try.prog.cellsOf 41 = 2 := by kernel_rfl
theorem Try.cellsPsts : Try.prog.cellsOf 53 = 1 := by kernel_rfl
theorem Try.cellsEnts : Try.prog.cellsOf 45 = 1 := by kernel_rfl
theorem Try.cellsPers : Try.prog.cellsOf 39 = 1 := by kernel_rfl
theorem Try.cellsAccs : Try.prog.cellsOf 38 = 1 := by kernel_rfl
theorem fits_of_wf {n : Int} (h : (Lit.int .i64 n).wf = true) : Sg.fits n = true := by
  have : -9223372036854775808 ≤ n ∧ n ≤ 9223372036854775807 := by simpa [Lit.wf, IntKind.min, IntKind.max, IntKind.signed, IntKind.bits] using h
  exact decide_eq_true this
theorem weights_mem_all {H : Type} {e : TypeId} {d : DataW H} {n : Nat} (hn : n ∈ d.weights Try.prog e) : ∀ {l : List (DataW H)}, d ∈ l → n ∈ DataW.weightsAll Try.prog e l
  | x :: r, h => by
    simp only [DataW.weightsAll, List.mem_append]
    rcases List.mem_cons.1 h with rfl | h
    · exact Or.inl hn
    · exact Or.inr (weights_mem_all hn h)

/-- A row that came in, by its elements. -/
theorem open_row {H : Type} {enc : TypeId × Value → H} {W : World} {n c z : Nat} {t e : TypeId} {v : Value} {x : DataW H × List MemPlace} {α : Type} [Inhabited α] {Q : List Value → α → Prop}
    (hu : Try.prog.underlying t = some (.slice e)) (hc : Try.prog.cellsOf e = c) (hz : Try.prog.bytesOf e = z) (h0 : 0 < c)
    (h : DataW.trod enc Try.prog W 0 (fun _ => true) true n t [v] = some x) (hw : ∀ y ∈ x.1.weights Try.prog t, y ≤ reachBytes)
    (one : ∀ m cs y, DataW.trod enc Try.prog W 0 (fun _ => true) true m e cs = some y → (∀ u ∈ y.1.weights Try.prog e, u ≤ reachBytes) → ∃ a, Q cs a) :
    ∃ ao len cap, ∃ l : List α, v = .slice ao len cap ∧ l.length = len ∧ len ≤ cap ∧ cap * z ≤ 140737488351232 ∧ (ao = none → cap = 0) ∧
      (∀ a ∈ l, ∃ cs, Q cs a) ∧
      (l.length = 0 ∨ ∃ b off, ao = some ⟨b, off, none⟩ ∧ b < W.heap.size ∧ ∀ i (hi : i < l.length), ∃ cs, Q cs l[i] ∧ cs.length = c ∧ ∀ j, j < c → W.cell? ⟨b, off + i * c + j, none⟩ = cs[j]?) := by
  rcases Go.Deep.open_slice hu h with ⟨hcs, _⟩ | ⟨a, len, cap, m, k, D, Pl, hcs, _, hl, _, hm, rfl, hel⟩
  · simp only [List.cons.injEq, and_true] at hcs
    subst hcs
    exact ⟨none, 0, 0, [], rfl, rfl, Nat.le_refl _, by omega, fun _ => rfl, by simp, Or.inl rfl⟩
  · simp only [List.cons.injEq, and_true] at hcs
    subst hcs
    simp only [if_true] at hm
    subst hm
    simp only [DataW.weights, hu] at hw
    have hs := hw _ (List.mem_cons_self ..)
    rw [hz] at hs
    simp only [List.length_map, List.length_range, reachBytes] at hs
    rw [hc] at hel
    have each : ∀ i, i < len → ∃ q : α, ∃ cs, Q cs q ∧ cs.length = c ∧ ∀ j, j < c → W.cell? (a.add (i * c + j)) = cs[j]? := by
      intro i hi
      obtain ⟨cs, h1, h2⟩ := hel i (by omega)
      obtain ⟨_, hcl, hcell⟩ := World.cells?_some h1
      obtain ⟨q, hq⟩ := one _ _ _ h2 (fun u hu' => hw u (List.mem_cons_of_mem _ (List.mem_append.2 (Or.inl (weights_mem_all hu' (List.mem_map.2 ⟨i, List.mem_range.2 hi, rfl⟩))))))
      refine ⟨q, cs, hq, hcl, fun j hj => ?_⟩
      have := hcell j hj
      rw [Go.Deep.add_add] at this
      exact this
    obtain ⟨q, hq⟩ := Go.Deep.choose_lt each
    have hll : ((List.range len).map q).length = len := by simp
    refine ⟨some a, len, m, (List.range len).map q, rfl, hll, hl, ?_, fun hh => (by simp at hh), ?_, ?_⟩
    · have : len + (m - len) = m := by omega
      rw [this] at hs
      exact hs
    · intro y hy
      simp only [List.mem_map, List.mem_range] at hy
      obtain ⟨i, hi, rfl⟩ := hy
      obtain ⟨cs, h1, _⟩ := hq i hi
      exact ⟨cs, h1⟩
    · by_cases hlen : len = 0
      · exact Or.inl (by rw [hll]; exact hlen)
      · right
        obtain ⟨b, off, spot⟩ := a
        obtain ⟨cs0, _, hl0, hc0⟩ := hq 0 (by omega)
        have hc00 := hc0 0 h0
        rw [List.getElem?_eq_getElem (by omega)] at hc00
        have hspot : spot = none := by simpa [Addr.add] using World.cell?_spot hc00
        subst hspot
        have hbl : b < W.heap.size := by
          have hh := World.block_lt_of_cell? W _ hc00
          simpa [Addr.add] using hh
        refine ⟨b, off, rfl, hbl, fun i hi => ?_⟩
        have hi' : i < len := by rw [hll] at hi; exact hi
        obtain ⟨cs, h1, h2, h3⟩ := hq i hi'
        have ea : ∀ k, Addr.add ⟨b, off, none⟩ k = ⟨b, off + k, none⟩ := fun k => by cases k <;> simp [Addr.add]
        refine ⟨cs, ?_, h2, fun j hj => ?_⟩
        · simp only [List.getElem_map, List.getElem_range]; exact h1
        · have := h3 j hj
          rw [ea, ← Nat.add_assoc] at this
          exact this


/-- One posting. -/
def IsPst (cs : List Value) (q : Sg.Pst) : Prop := cs = [.int .i64 q.acct, .int .i64 q.amt] ∧ Sg.fits q.acct = true ∧ Sg.fits q.amt = true
theorem open_pst {H : Type} {enc : TypeId × Value → H} {W : World} {n : Nat} {cs : List Value} {x : DataW H × List MemPlace} (h : DataW.trod enc Try.prog W 0 (fun _ => true) true n 90 cs = some x) : ∃ q, IsPst cs q := by
  obtain ⟨xs, k, _, _, hcl, hxl, hf⟩ := DataW.trod_struct Try.underlying90 h
  rw [Try.cellsPst] at hcl
  match cs, hcl with
  | [c0, c1], _ =>
    match xs, hxl with
    | [y0, y1], _ =>
      have g0 : DataW.trod enc Try.prog W 0 (fun _ => true) true k 3 (([c0, c1].drop 0).take (Try.prog.cellsOf 3)) = some y0 := hf 0 { name := "Account", type := 3, offset := 0, embedded := false, tag := "", pkgPath := "", byteOffset := 0 } rfl
      have g1 : DataW.trod enc Try.prog W 0 (fun _ => true) true k 3 (([c0, c1].drop 1).take (Try.prog.cellsOf 3)) = some y1 := hf 1 { name := "Amount", type := 3, offset := 1, embedded := false, tag := "", pkgPath := "", byteOffset := 8 } rfl
      rw [Try.cells1] at g0 g1
      simp only [List.drop_succ_cons, List.drop_zero, List.take_succ_cons, List.take_zero] at g0 g1
      obtain ⟨a, e0, _, ha⟩ := DataW.trod_int Try.underlying3 g0
      obtain ⟨b, e1, _, hb⟩ := DataW.trod_int Try.underlying3 g1
      simp only [List.cons.injEq, and_true] at e0 e1
      subst e0 e1
      exact ⟨⟨a, b⟩, rfl, fits_of_wf ha, fits_of_wf hb⟩
theorem open_psts {H : Type} {enc : TypeId × Value → H} {W : World} {n : Nat} {v : Value} {x : DataW H × List MemPlace} (h : DataW.trod enc Try.prog W 0 (fun _ => true) true n 53 [v] = some x) (hw : ∀ y ∈ x.1.weights Try.prog 53, y ≤ reachBytes) :
    ∃ ao len cap qs, v = .slice ao len cap ∧ qs.length = len ∧ len ≤ 8796093021952 ∧ PstsIn W ao qs ∧ ∀ q ∈ qs, Sg.fits q.acct = true ∧ Sg.fits q.amt = true := by
  haveI : Inhabited Sg.Pst := ⟨⟨0, 0⟩⟩
  obtain ⟨ao, len, cap, l, hv, hl, hlc, hcap, _, hall, hat⟩ := open_row Try.underlying53 Try.cellsPst Try.bytesPst (by omega) h hw (Q := IsPst) (fun m cs y hy _ => open_pst hy)
  refine ⟨ao, len, cap, l, hv, hl, by omega, ?_, fun q hq => ?_⟩
  · rcases hat with h0 | ⟨b, off, e, hb, hi⟩
    · exact Or.inl h0
    · refine Or.inr ⟨b, off, e, hb, fun i h => ?_⟩
      obtain ⟨cs, ⟨rfl, _⟩, _, hc⟩ := hi i h
      exact ⟨hc 0 (by omega), hc 1 (by omega)⟩
  · obtain ⟨cs, h1⟩ := hall q hq
    exact h1.2
/-- One entry. -/
def IsEnt (W : World) (cs : List Value) (e : Sg.Ent) : Prop := (∃ ao cap, cs = [.string e.memo, .slice ao e.posts.length cap] ∧ PstsIn W ao e.posts) ∧ e.memo.size ≤ 140737488351232 ∧ e.posts.length ≤ 8796093021952 ∧ ∀ q ∈ e.posts, Sg.fits q.acct = true ∧ Sg.fits q.amt = true
theorem open_ent {H : Type} {enc : TypeId × Value → H} {W : World} {n : Nat} {cs : List Value} {x : DataW H × List MemPlace} (h : DataW.trod enc Try.prog W 0 (fun _ => true) true n 55 cs = some x) (hw : ∀ y ∈ x.1.weights Try.prog 55, y ≤ reachBytes) : ∃ e, IsEnt W cs e := by
  obtain ⟨xs, k, _, rfl, hcl, hxl, hf⟩ := DataW.trod_struct Try.underlying55 h
  rw [Try.cellsEnt] at hcl
  match cs, hcl with
  | [c0, c1], _ =>
    match xs, hxl with
    | [y0, y1], _ =>
      have g0 : DataW.trod enc Try.prog W 0 (fun _ => true) true k 9 (([c0, c1].drop 0).take (Try.prog.cellsOf 9)) = some y0 := hf 0 { name := "Memo", type := 9, offset := 0, embedded := false, tag := "", pkgPath := "", byteOffset := 0 } rfl
      have g1 : DataW.trod enc Try.prog W 0 (fun _ => true) true k 53 (([c0, c1].drop 1).take (Try.prog.cellsOf 53)) = some y1 := hf 1 { name := "Postings", type := 53, offset := 1, embedded := false, tag := "", pkgPath := "", byteOffset := 16 } rfl
      rw [Try.cellsStr] at g0
      rw [Try.cellsPsts] at g1
      simp only [List.drop_succ_cons, List.drop_zero, List.take_succ_cons, List.take_zero] at g0 g1
      simp only [DataW.weights, Try.underlying55] at hw
      obtain ⟨s, e0, ey, _⟩ := DataW.trod_string Try.underlying9 g0
      simp only [List.cons.injEq, and_true] at e0
      subst e0 ey
      have w0 := hw s.data.toList.length (DataW.weights_mem_each (j := 0) (t := 9) rfl rfl _ (by simp only [DataW.weights]; exact List.mem_singleton.2 rfl))
      have es : s.data.toList.length = s.size := by rw [Array.length_toList]; rfl
      rw [es, reachBytes] at w0
      obtain ⟨ao, len, cap, qs, rfl, hl, hn, hin, hfit⟩ := open_psts g1 (fun y hy => hw y (DataW.weights_mem_each (j := 1) (t := 53) rfl rfl _ hy))
      subst hl
      exact ⟨⟨s, qs⟩, ⟨ao, cap, rfl, hin⟩, w0, hn, hfit⟩
theorem open_ents {H : Type} {enc : TypeId × Value → H} {W : World} {n : Nat} {v : Value} {x : DataW H × List MemPlace} (h : DataW.trod enc Try.prog W 0 (fun _ => true) true n 45 [v] = some x) (hw : ∀ y ∈ x.1.weights Try.prog 45, y ≤ reachBytes) :
    ∃ ao len cap es, v = .slice ao len cap ∧ es.length = len ∧ len ≤ 3518437208780 ∧ EntsIn W ao es ∧ ∀ e ∈ es, e.memo.size ≤ 140737488351232 ∧ e.posts.length ≤ 8796093021952 ∧ ∀ q ∈ e.posts, Sg.fits q.acct = true ∧ Sg.fits q.amt = true := by
  haveI : Inhabited Sg.Ent := ⟨⟨ByteArray.empty, []⟩⟩
  obtain ⟨ao, len, cap, l, hv, hl, hlc, hcap, _, hall, hat⟩ := open_row Try.underlying45 Try.cellsEnt Try.bytesEnt (by omega) h hw (Q := IsEnt W) (fun m cs y hy hy2 => open_ent hy hy2)
  refine ⟨ao, len, cap, l, hv, hl, by omega, ?_, fun q hq => ?_⟩
  · rcases hat with h0 | ⟨b, off, e, hb, hi⟩
    · exact Or.inl h0
    · refine Or.inr ⟨b, off, e, hb, fun i h => ?_⟩
      obtain ⟨cs, ⟨⟨ao', cap', rfl, hin⟩, _⟩, _, hc⟩ := hi i h
      exact ⟨hc 0 (by omega), ao', cap', hc 1 (by omega), hin⟩
  · obtain ⟨cs, h1⟩ := hall q hq
    exact h1.2
/-- One period. -/
def IsPer (W : World) (cs : List Value) (p : List Sg.Ent) : Prop := (∃ ao cap, cs = [.slice ao p.length cap] ∧ EntsIn W ao p) ∧ p.length ≤ 3518437208780 ∧ ∀ e ∈ p, e.memo.size ≤ 140737488351232 ∧ e.posts.length ≤ 8796093021952 ∧ ∀ q ∈ e.posts, Sg.fits q.acct = true ∧ Sg.fits q.amt = true
theorem open_per {H : Type} {enc : TypeId × Value → H} {W : World} {n : Nat} {cs : List Value} {x : DataW H × List MemPlace} (h : DataW.trod enc Try.prog W 0 (fun _ => true) true n 47 cs = some x) (hw : ∀ y ∈ x.1.weights Try.prog 47, y ≤ reachBytes) : ∃ p, IsPer W cs p := by
  obtain ⟨xs, k, _, rfl, hcl, hxl, hf⟩ := DataW.trod_struct Try.underlying47 h
  rw [Try.cellsPer] at hcl
  match cs, hcl with
  | [c0], _ =>
    match xs, hxl with
    | [y0], _ =>
      have g0 : DataW.trod enc Try.prog W 0 (fun _ => true) true k 45 (([c0].drop 0).take (Try.prog.cellsOf 45)) = some y0 := hf 0 { name := "Entries", type := 45, offset := 0, embedded := false, tag := "", pkgPath := "", byteOffset := 0 } rfl
      rw [Try.cellsEnts] at g0
      simp only [List.drop_zero, List.take_succ_cons, List.take_zero] at g0
      simp only [DataW.weights, Try.underlying47] at hw
      obtain ⟨ao, len, cap, es, rfl, hl, hn, hin, hfit⟩ := open_ents g0 (fun y hy => hw y (DataW.weights_mem_each (j := 0) (t := 45) rfl rfl _ hy))
      subst hl
      exact ⟨es, ⟨ao, cap, rfl, hin⟩, hn, hfit⟩
theorem open_pers {H : Type} {enc : TypeId × Value → H} {W : World} {n : Nat} {v : Value} {x : DataW H × List MemPlace} (h : DataW.trod enc Try.prog W 0 (fun _ => true) true n 39 [v] = some x) (hw : ∀ y ∈ x.1.weights Try.prog 39, y ≤ reachBytes) :
    ∃ ao len cap ps, v = .slice ao len cap ∧ ps.length = len ∧ len ≤ cap ∧ cap ≤ 5864062014634 ∧ PersIn W ao ps ∧ ∀ p ∈ ps, p.length ≤ 3518437208780 ∧ ∀ e ∈ p, e.memo.size ≤ 140737488351232 ∧ e.posts.length ≤ 8796093021952 ∧ ∀ q ∈ e.posts, Sg.fits q.acct = true ∧ Sg.fits q.amt = true := by
  obtain ⟨ao, len, cap, l, hv, hl, hlc, hcap, _, hall, hat⟩ := open_row Try.underlying39 Try.cellsPer Try.bytesPer (by omega) h hw (Q := IsPer W) (fun m cs y hy hy2 => open_per hy hy2)
  refine ⟨ao, len, cap, l, hv, hl, hlc, by omega, ?_, fun q hq => ?_⟩
  · rcases hat with h0 | ⟨b, off, e, hb, hi⟩
    · exact Or.inl h0
    · refine Or.inr ⟨b, off, e, hb, fun i h => ?_⟩
      obtain ⟨cs, ⟨⟨ao', cap', rfl, hin⟩, _⟩, _, hc⟩ := hi i h
      refine ⟨ao', cap', ?_, hin⟩
      have := hc 0 (by omega)
      rw [Nat.mul_one, Nat.add_zero] at this
      exact this
  · obtain ⟨cs, h1⟩ := hall q hq
    exact h1.2
/-- One account. -/
def IsAcc (cs : List Value) (a : Sg.Acc) : Prop := cs = [.string a.name, .int .i64 a.line] ∧ a.name.size ≤ 140737488351232 ∧ Sg.fits a.line = true
theorem open_acc {H : Type} {enc : TypeId × Value → H} {W : World} {n : Nat} {cs : List Value} {x : DataW H × List MemPlace} (h : DataW.trod enc Try.prog W 0 (fun _ => true) true n 43 cs = some x) (hw : ∀ y ∈ x.1.weights Try.prog 43, y ≤ reachBytes) : ∃ a, IsAcc cs a := by
  obtain ⟨xs, k, _, rfl, hcl, hxl, hf⟩ := DataW.trod_struct Try.underlying43 h
  rw [Try.cellsAcc] at hcl
  match cs, hcl with
  | [c0, c1], _ =>
    match xs, hxl with
    | [y0, y1], _ =>
      have g0 : DataW.trod enc Try.prog W 0 (fun _ => true) true k 9 (([c0, c1].drop 0).take (Try.prog.cellsOf 9)) = some y0 := hf 0 { name := "Name", type := 9, offset := 0, embedded := false, tag := "", pkgPath := "", byteOffset := 0 } rfl
      have g1 : DataW.trod enc Try.prog W 0 (fun _ => true) true k 3 (([c0, c1].drop 1).take (Try.prog.cellsOf 3)) = some y1 := hf 1 { name := "Line", type := 3, offset := 1, embedded := false, tag := "", pkgPath := "", byteOffset := 16 } rfl
      rw [Try.cellsStr] at g0
      rw [Try.cells1] at g1
      simp only [List.drop_succ_cons, List.drop_zero, List.take_succ_cons, List.take_zero] at g0 g1
      simp only [DataW.weights, Try.underlying43] at hw
      obtain ⟨s, e0, ey, _⟩ := DataW.trod_string Try.underlying9 g0
      obtain ⟨b, e1, _, hb⟩ := DataW.trod_int Try.underlying3 g1
      simp only [List.cons.injEq, and_true] at e0 e1
      subst e0 e1 ey
      have w0 := hw s.data.toList.length (DataW.weights_mem_each (j := 0) (t := 9) rfl rfl _ (by simp only [DataW.weights]; exact List.mem_singleton.2 rfl))
      have es : s.data.toList.length = s.size := by rw [Array.length_toList]; rfl
      rw [es, reachBytes] at w0
      exact ⟨⟨s, b⟩, rfl, w0, fits_of_wf hb⟩
theorem open_accs {H : Type} {enc : TypeId × Value → H} {W : World} {n : Nat} {v : Value} {x : DataW H × List MemPlace} (h : DataW.trod enc Try.prog W 0 (fun _ => true) true n 38 [v] = some x) (hw : ∀ y ∈ x.1.weights Try.prog 38, y ≤ reachBytes) :
    ∃ ao len cap ac, v = .slice ao len cap ∧ ac.length = len ∧ len ≤ cap ∧ cap ≤ 5864062014634 ∧ AccsIn W ao ac ∧ ∀ a ∈ ac, a.name.size ≤ 140737488351232 ∧ Sg.fits a.line = true := by
  haveI : Inhabited Sg.Acc := ⟨⟨ByteArray.empty, 0⟩⟩
  obtain ⟨ao, len, cap, l, hv, hl, hlc, hcap, _, hall, hat⟩ := open_row Try.underlying38 Try.cellsAcc Try.bytesAcc (by omega) h hw (Q := IsAcc) (fun m cs y hy hy2 => open_acc hy hy2)
  refine ⟨ao, len, cap, l, hv, hl, hlc, by omega, ?_, fun q hq => ?_⟩
  · rcases hat with h0 | ⟨b, off, e, hb, hi⟩
    · exact Or.inl h0
    · refine Or.inr ⟨b, off, e, hb, fun i h => ?_⟩
      obtain ⟨cs, ⟨rfl, _⟩, _, hc⟩ := hi i h
      exact ⟨hc 0 (by omega), hc 1 (by omega)⟩
  · obtain ⟨cs, h1⟩ := hall q hq
    exact h1.2
/-- A history. -/
theorem open_his {H : Type} {enc : TypeId × Value → H} {W : World} {n : Nat} {cs : List Value} {x : DataW H × List MemPlace} (h : DataW.trod enc Try.prog W 0 (fun _ => true) true n 41 cs = some x) (hw : ∀ y ∈ x.1.weights Try.prog 41, y ≤ reachBytes) :
    ∃ aoA nA capA aoP nP capP hh, cs = [.slice aoA nA capA, .slice aoP nP capP] ∧ HistIn W aoA aoP nA nP hh ∧ nA ≤ capA ∧ capA ≤ 5864062014634 ∧ nP ≤ capP ∧ capP ≤ 5864062014634 ∧ ∀ p ∈ hh.pers, p.length ≤ 3518437208780 ∧ ∀ e ∈ p, e.posts.length ≤ 8796093021952 := by
  obtain ⟨xs, k, _, rfl, hcl, hxl, hf⟩ := DataW.trod_struct Try.underlying41 h
  rw [Try.cellsHis] at hcl
  match cs, hcl with
  | [c0, c1], _ =>
    match xs, hxl with
    | [y0, y1], _ =>
      have g0 : DataW.trod enc Try.prog W 0 (fun _ => true) true k 38 (([c0, c1].drop 0).take (Try.prog.cellsOf 38)) = some y0 := hf 0 { name := "Accounts", type := 38, offset := 0, embedded := false, tag := "", pkgPath := "", byteOffset := 0 } rfl
      have g1 : DataW.trod enc Try.prog W 0 (fun _ => true) true k 39 (([c0, c1].drop 1).take (Try.prog.cellsOf 39)) = some y1 := hf 1 { name := "Periods", type := 39, offset := 1, embedded := false, tag := "", pkgPath := "", byteOffset := 24 } rfl
      rw [Try.cellsAccs] at g0
      rw [Try.cellsPers] at g1
      simp only [List.drop_succ_cons, List.drop_zero, List.take_succ_cons, List.take_zero] at g0 g1
      simp only [DataW.weights, Try.underlying41] at hw
      obtain ⟨aoA, nA, capA, ac, rfl, hlA, hA1, hA2, hinA, hfA⟩ := open_accs g0 (fun y hy => hw y (DataW.weights_mem_each (j := 0) (t := 38) rfl rfl _ hy))
      obtain ⟨aoP, nP, capP, ps, rfl, hlP, hP1, hP2, hinP, hfP⟩ := open_pers g1 (fun y hy => hw y (DataW.weights_mem_each (j := 1) (t := 39) rfl rfl _ hy))
      refine ⟨aoA, nA, capA, aoP, nP, capP, ⟨ac, ps⟩, rfl, ⟨hinA, hinP, hlA, hlP, fun a ha => ?_, fun p hp => ?_, fun p hp e he => ?_⟩, hA1, hA2, hP1, hP2, fun p hp => ?_⟩
      · have := hfA a ha; exact ⟨by omega, this.2⟩
      · have := hfP p hp; exact ⟨by omega, fun e he => by have := this.2 e he; omega⟩
      · exact ((hfP p hp).2 e he).2.2
      · have := hfP p hp; exact ⟨this.1, fun e he => (this.2 e he).2.1⟩
end Go.Proofs.Ytoadiibfmcjgaaa

/-
  THE PROOF OF 'Rows.SealsUptoSaid' (P5, P6: Seal of any history; the first form is false by size: what is kept of a period takes 48 bytes, a period 24).
-/
namespace Go.Proofs.Ytoadiibfmcjgaaa
set_option maxRecDepth 100000
open Go.ChangeShapes Go.WideShapes Go.ChangeAt Go.RowKit

theorem bulk_pos {H : Type} (d : DataW H) : 0 < Rows.uptoBulk d := by
  cases d with
  | lit l => cases l <;> simp [Rows.uptoBulk]
  | _ => simp [Rows.uptoBulk]
theorem bulk_many {H : Type} : ∀ l : List (DataW H), l.length ≤ Rows.uptoBulkAll l
  | [] => Nat.zero_le _
  | d :: r => by
    have h1 := bulk_pos d
    have h2 := bulk_many r
    simp only [Rows.uptoBulkAll, List.length_cons]
    omega
/-- A row is no longer than its bulk. -/
theorem bulk_row {H : Type} {enc : TypeId × Value → H} {W : World} {fuel n cap : Nat} {t e : TypeId} {ao : Option Addr} {x : DataW H × List MemPlace} (hu : Try.prog.underlying t = some (.slice e)) (h : DataW.trod enc Try.prog W 0 (fun _ => true) true fuel t [.slice ao n cap] = some x) : n ≤ Rows.uptoBulk x.1 := by
  rcases Go.Deep.open_slice hu h with ⟨hcs, _⟩ | ⟨a, len, cp, m, k, D, Pl, hcs, _, _, _, _, rfl, _⟩
  · simp only [List.cons.injEq, Value.slice.injEq, and_true] at hcs
    omega
  · simp only [List.cons.injEq, Value.slice.injEq, and_true] at hcs
    have := bulk_many ((List.range len).map D)
    simp only [List.length_map, List.length_range] at this
    simp only [Rows.uptoBulk]
    omega
theorem bulk_his {H : Type} {enc : TypeId × Value → H} {W : World} {fuel nA nP capA capP : Nat} {aoA aoP : Option Addr} {x : DataW H × List MemPlace} (h : DataW.trod enc Try.prog W 0 (fun _ => true) true fuel 41 [.slice aoA nA capA, .slice aoP nP capP] = some x) : nA + nP ≤ Rows.uptoBulk x.1 := by
  obtain ⟨xs, k, _, rfl, _, hxl, hf⟩ := DataW.trod_struct Try.underlying41 h
  match xs, hxl with
  | [y0, y1], _ =>
    have g0 : DataW.trod enc Try.prog W 0 (fun _ => true) true k 38 (([.slice aoA nA capA, .slice aoP nP capP].drop 0).take (Try.prog.cellsOf 38)) = some y0 := hf 0 { name := "Accounts", type := 38, offset := 0, embedded := false, tag := "", pkgPath := "", byteOffset := 0 } rfl
    have g1 : DataW.trod enc Try.prog W 0 (fun _ => true) true k 39 (([.slice aoA nA capA, .slice aoP nP capP].drop 1).take (Try.prog.cellsOf 39)) = some y1 := hf 1 { name := "Periods", type := 39, offset := 1, embedded := false, tag := "", pkgPath := "", byteOffset := 24 } rfl
    rw [Try.cellsAccs] at g0
    rw [Try.cellsPers] at g1
    simp only [List.drop_succ_cons, List.drop_zero, List.take_succ_cons, List.take_zero] at g0 g1
    have b0 := bulk_row Try.underlying38 g0
    have b1 := bulk_row Try.underlying39 g1
    simp only [List.map_cons, List.map_nil, Rows.uptoBulk, Rows.uptoBulkAll]
    omega

set_option maxRecDepth 100000 in
theorem seals_lifted (os : Os) (started : os.Started) (H : Type) (enc : TypeId × Value → H) (F : Stop.Interp) :
    ReturnsInHanded {} Try.checked os 5 .any ((Rows.OpenSpec.upto Rows.sealsSpec).pre6 enc Try.prog Try.f5 Rows.sealsUptoRow.domain false) (((Rows.OpenSpec.upto Rows.sealsSpec).at F).post enc Try.prog Try.f5 false true false false) := by
  refine returnsInHanded_of_cond_sized (C := Try.checked) (s := Rows.OpenSpec.upto Rows.sealsSpec) (k := Rows.uptoSmall) rfl own' started (by kernel_rfl) Try.func5
    (OpenSpec.witness (enc := enc) (C := Try.checked) (s := Rows.OpenSpec.upto Rows.sealsSpec) (k := Rows.uptoSmall) rfl false ⟨#[], #[.agg #[.slice none 0 0, .slice none 0 0]], []⟩ 8 (by kernel_rfl) (by kernel_rfl) (by kernel_rfl)
      (x := ([.agg [.nil, .nil]], [], [])) (by kernel_rfl) rfl (by kernel_rfl)) ?_
  intro W base args ds gs before hval0 hW _ hk0 hsz0 _
  have hval : ∀ (j : Nat) t v, Try.f5.params[j]? = some t → args[j]? = some v → Value.okWide Try.prog W .any base t v := hval0
  have hsz : (DataW.weightsEach Try.prog (Try.f5.params.toList ++ Rows.sealsSpec.plain.varTypes Try.prog) (ds ++ gs)).all (· ≤ reachBytes) = true := hsz0
  have hk : Rows.uptoSmall H (ds ++ gs) = true := hk0
  have hW1 : DataW.Whole enc Try.prog Try.f5.params.toList Rows.sealsSpec.vars false W args.toList ds gs before := hW
  have hW' := hW1
  obtain ⟨p, q, hA0, hV, rfl, _, _⟩ := hW1
  have hA : DataW.TrodAll enc Try.prog W 0 (fun _ => true) true Try.f5.params.toList args.toList ds p := hA0
  rw [Try.params5] at hA hval hsz
  obtain ⟨v0, vs0, d0, ds0, p0, q0, hargs, rfl, rfl, h0, r0⟩ := trodAll_cons hA
  obtain ⟨rfl, rfl, rfl⟩ := trodAll_nil r0
  obtain rfl : args = #[v0] := by cases args; simp_all
  obtain ⟨rfl, rfl⟩ := trodVars_none hV
  obtain ⟨cs, rfl, _⟩ := okWide_struct Try.underlying41 (hval 0 41 v0 rfl rfl)
  have lt0 : ∀ x ∈ p0, x.block < W.heap.size := by obtain ⟨m, hm⟩ := h0; exact DataW.trod_lt m _ _ _ hm
  obtain ⟨aoA, nA, capA, aoP, nP, capP, hh, hcs, hH, _, _, _, _, hp, hbulk⟩ : ∃ aoA nA capA aoP nP capP hh, cs.toList = [.slice aoA nA capA, .slice aoP nP capP] ∧ HistIn W aoA aoP nA nP hh ∧ nA ≤ capA ∧ capA ≤ 5864062014634 ∧ nP ≤ capP ∧ capP ≤ 5864062014634 ∧ (∀ p ∈ hh.pers, p.length ≤ 3518437208780 ∧ ∀ e ∈ p, e.posts.length ≤ 8796093021952) ∧ nA + nP ≤ Rows.uptoBulk d0 := by
    obtain ⟨m, hm⟩ := h0
    obtain ⟨aoA, nA, capA, aoP, nP, capP, hh, hcs, a1, a2, a3, a4, a5, a6⟩ := open_his hm (fun y hy => of_decide_eq_true (List.all_eq_true.1 hsz y (DataW.weights_mem_each (j := 0) (t := 41) rfl rfl y hy)))
    have hm' := hm
    rw [hcs] at hm'
    exact ⟨aoA, nA, capA, aoP, nP, capP, hh, hcs, a1, a2, a3, a4, a5, a6, bulk_his hm'⟩
  have hb : Rows.uptoBulkAll ([d0] ++ ([] : List (DataW H))) ≤ 1048576 := of_decide_eq_true hk
  simp only [List.append_nil, Rows.uptoBulkAll] at hb
  obtain rfl : cs = #[.slice aoA nA capA, .slice aoP nP capP] := by cases cs; simp_all
  clear hA0 hval0
  refine (lawSeals_any hh aoA aoP nA nP capA capP W hH (by omega) (by omega) hp).mono fun e W' ⟨he, bel⟩ => ?_
  subst he
  exact ⟨_, rfl, _, _, _, [], _, [], hW', trodAll_mk1 (shut_bool Try.underlying4 _),
    trodAll_cons_mk (Below.trod laidOut (by kernel_rfl) (of_decide_eq_true (by kernel_rfl)) h0 bel lt0) trodAll_mk0, rfl, bel.frame _, fun h => by cases h⟩

/-- The statement. -/
theorem sealsUpto_proved : Rows.SealsUptoSaid :=
  OpenClaim.holds_of_cond 5 Try.f5 rfl rfl rfl rfl rfl rfl rfl ⟨rfl, rfl, rfl, rfl, rfl⟩ rfl rfl rfl rfl rfl (by kernel_rfl) Try.func5 (by kernel_rfl)
    (of_decide_eq_true (by kernel_rfl)) (by unfold Func.isWrapper; first | (rw [if_pos (by decide +kernel)]; kernel_rfl) | (rw [if_neg (by decide +kernel)]; exact ⟨rfl, rfl⟩))
    (fun os started H enc _ F => seals_lifted os started H enc F)
#print axioms sealsUpto_proved
end Go.Proofs.Ytoadiibfmcjgaaa
