import Derived.Test.YtpkkhkkkgjhkeaaAsItWas
import Derived.Test.YtpkkhkkkgjhkeaaRefSeal
import Derived.Test.YtpkkhkkkgjhkeaaHhead
/-
  WHAT STANDS in signetlaw.Seals: the accounts' copy, the periods' copies, what is kept of them.
-/
namespace Go.Proofs.Ytpkkhkkkgjhkeaa
open Go.RowKit
set_option maxRecDepth 100000

theorem aC_len : ∀ l, (aCells l).length = l.length * 2
  | [] => rfl
  | p :: l => by
    show ([Value.string p.name, .int .i64 p.line] ++ aCells l).length = _
    rw [List.length_append, aC_len l]; simp; omega
theorem aC_ones (l : List Sg.Acc) : ∀ c ∈ aCells l, c.oneCell' = true := by
  intro c hc
  unfold aCells at hc
  simp only [List.mem_flatMap, List.mem_cons, List.not_mem_nil, or_false] at hc
  obtain ⟨p, _, rfl | rfl⟩ := hc <;> rfl
theorem aC_news {w : World} {b off : Nat} {ac : List Sg.Acc} (hat : AccsAt w b off ac) : ∀ j u, (aCells ac)[j]? = some u → w.cell? (Addr.add ⟨b, off, none⟩ j) = some u := by
  intro j u hj
  have hj' : j < ac.length * 2 := by
    have := (List.getElem?_eq_some_iff.1 hj).1
    rw [aC_len] at this; exact this
  have ea : Addr.add ⟨b, off, none⟩ j = ⟨b, off + j, none⟩ := by cases j <;> simp [Addr.add]
  rw [ea]
  have hh : j / 2 < ac.length := by omega
  have h2 := hat (j / 2) hh
  have h3 := aCells_at ac (j / 2) hh
  have e : j = j / 2 * 2 ∨ j = j / 2 * 2 + 1 := by omega
  rcases e with e | e
  · rw [e] at hj ⊢
    rw [h3.1] at hj
    rw [h2.1]; exact hj
  · rw [e] at hj ⊢
    rw [h3.2] at hj
    rw [← Nat.add_assoc, h2.2]; exact hj
theorem Try.sizeAcc : (Try.prog.info? 43).map (·.size) = some 2 := by kernel_rfl
/-- Accounts, and two places behind them. -/
def ARow (w : World) (g n : Nat) (ac : List Sg.Acc) (x : Value) : Prop := ∃ cur : Array Value, w.heap[g]? = some (.cells cur 43 (0, 0)) ∧ cur.size = (n + 2) * 2 ∧ (∀ i (h : i < ac.length), cur[i * 2]? = some (.string ac[i].name) ∧ cur[i * 2 + 1]? = some (.int .i64 ac[i].line)) ∧ ∀ i, n ≤ i → i < n + 2 → cur[i * 2]? = some x ∧ cur[i * 2 + 1]? = some (.int .i64 0)
theorem ARow.block {w w' : World} {g n : Nat} {ac : List Sg.Acc} {x : Value} (h : ARow w g n ac x) (hb : w'.heap[g]? = w.heap[g]?) : ARow w' g n ac x := by
  obtain ⟨cur, a, b⟩ := h
  exact ⟨cur, hb.trans a, b⟩
theorem ARow.lt {w : World} {g n : Nat} {ac : List Sg.Acc} {x : Value} (h : ARow w g n ac x) : g < w.heap.size := by
  obtain ⟨cur, a, _⟩ := h
  exact lt_of_block a
theorem ARow.keptT {w w' : World} {g n : Nat} {ac : List Sg.Acc} {x : Value} {t : TypeId} (h : ARow w g n ac x) (hk : KeptT t w w') (hne : 43 ≠ t) : ARow w' g n ac x := by
  obtain ⟨cur, a, b⟩ := h
  exact ⟨cur, hk _ _ _ _ a hne, b⟩
theorem ARow.cells {w : World} {g n i : Nat} {ac : List Sg.Acc} {x : Value} (h : ARow w g n ac x) (h1 : n ≤ i) (h2 : i < n + 2) : w.cell? ⟨g, i * 2, none⟩ = some x ∧ w.cell? ⟨g, i * 2 + 1, none⟩ = some (.int .i64 0) ∧ w.frozen? ⟨g, i * 2, none⟩ = false := by
  obtain ⟨cur, a, _, _, d⟩ := h
  obtain ⟨d1, d2⟩ := d i h1 h2
  refine ⟨?_, ?_, ?_⟩
  · rw [cell_of_row w _ _ _ _ _ a]; exact d1
  · rw [cell_of_row w _ _ _ _ _ a]; exact d2
  · simp [World.frozen?, a]
theorem ARow.cell {w : World} {g n i : Nat} {ac : List Sg.Acc} {x : Value} (h : ARow w g n ac x) (hi : i < ac.length) : w.cell? ⟨g, i * 2, none⟩ = some (.string ac[i].name) ∧ w.cell? ⟨g, i * 2 + 1, none⟩ = some (.int .i64 ac[i].line) := by
  obtain ⟨cur, a, _, c, _⟩ := h
  obtain ⟨d1, d2⟩ := c i hi
  refine ⟨?_, ?_⟩
  · rw [cell_of_row w _ _ _ _ _ a]; exact d1
  · rw [cell_of_row w _ _ _ _ _ a]; exact d2
theorem ARow.in_ {w : World} {g n : Nat} {ac : List Sg.Acc} {x : Value} (h : ARow w g n ac x) : AccsIn w (some ⟨g, 0, none⟩) ac :=
  Or.inr ⟨g, 0, rfl, h.lt, fun i hi => by rw [Nat.zero_add]; exact h.cell hi⟩
theorem ARow.mark {w : World} {g n : Nat} {ac : List Sg.Acc} (h : ARow w g n ac (.string ByteArray.empty)) (hn : ac.length = n) : ARow ((w.setCell ⟨g, n * 2, none⟩ (.string beyondT)).setCell ⟨g, (n + 1) * 2, none⟩ (.string beyondT)) g n ac (.string beyondT) := by
  obtain ⟨cur, a, b, c, d⟩ := h
  have h1 := heap_setCell_same w g (n * 2) cur _ (.string beyondT) a
  have h2 := heap_setCell_same _ g ((n + 1) * 2) _ _ (.string beyondT) h1
  refine ⟨_, h2, by simpa using b, fun i hi => ⟨?_, ?_⟩, fun i h3 h4 => ⟨?_, ?_⟩⟩
  · rw [Array.getElem?_setIfInBounds_ne (by omega), Array.getElem?_setIfInBounds_ne (by omega)]; exact (c i hi).1
  · rw [Array.getElem?_setIfInBounds_ne (by omega), Array.getElem?_setIfInBounds_ne (by omega)]; exact (c i hi).2
  · by_cases e : i = n
    · subst e
      rw [Array.getElem?_setIfInBounds_ne (by omega), Array.getElem?_setIfInBounds_self_of_lt (by omega)]
    · obtain rfl : i = n + 1 := by omega
      rw [Array.getElem?_setIfInBounds_self_of_lt (by simp; omega)]
  · rw [Array.getElem?_setIfInBounds_ne (by omega), Array.getElem?_setIfInBounds_ne (by omega)]; exact (d i h3 h4).2
/-- Accounts are copied into a list that was made, with two places behind. -/
theorem copy_accs (ac : List Sg.Acc) (ao : Option Addr) (n cap g B : Nat) (w0 w : World) (hn : ac.length = n) (hp : AccsIn w ao ac) (hg : w.heap[g]? = some (.cells (madeCells #[.string ByteArray.empty, .int .i64 0] ((n + 2) * 2)) 43 (0, 0))) (hb : Below B w0 w) (hB : B ≤ g) :
    ∃ w2, (Builtin.copy_ #[38, 38] 3 #[.slice (some ⟨g, 0, none⟩) (n + 2) (n + 2), .slice ao n cap]).run Try.prog w = .ok (.int .i64 (n : Int)) w2 ∧
      ARow w2 g n ac (.string ByteArray.empty) ∧ Below B w0 w2 ∧ w.grownBy w2 (some g) ∧ w2.heap.size = w.heap.size := by
  by_cases h0 : n = 0
  · subst h0
    have e : ac = [] := List.eq_nil_of_length_eq_zero hn
    subst e
    exact ⟨w, run_copy_two_none (P := Try.prog) w _ _ _ 43 _ _ _ _ _ _ Try.underlying38 Try.sizeAcc (by simp), ⟨_, hg, size_madeCells _ _, fun i hi => absurd hi (by simp), fun i _ h => made_pair _ _ _ i h⟩, hb, World.grownBy.refl _ _, rfl⟩
  · rcases hp with h | ⟨b, off, rfl, _, hat⟩
    · omega
    · have hmin : Nat.min n (n + 2) = n := Nat.min_eq_left (by omega)
      have hl : (aCells ac).length = n * 2 := by rw [aC_len, hn]
      have hrun := run_copy_two (P := Try.prog) w 38 38 3 43 g (n + 2) (n + 2) ⟨b, off, none⟩ n cap (madeCells #[.string ByteArray.empty, .int .i64 0] ((n + 2) * 2)) 43 (aCells ac) Try.underlying38 Try.sizeAcc hg (by rw [hmin, hl]) (aC_news hat) (by rw [hl, size_madeCells]; omega) (aC_ones ac)
      rw [hmin, hl] at hrun
      have hgr : w.grownBy (w.setRow g (aCells ac ++ (madeCells #[.string ByteArray.empty, .int .i64 0] ((n + 2) * 2)).toList.drop (n * 2)).toArray) (some g) :=
        ⟨rfl, rfl, rfl, by simp [World.setRow], fun k _ hk => by simp at hk; simp [World.setRow, Array.getElem?_modify, Ne.symm hk]⟩
      refine ⟨_, hrun, ⟨_, setRow_heap w g _ _ _ _ hg, ?_, fun i hi => ?_, fun i h1 h2 => ?_⟩, hb.grown hgr (by have := lt_of_block hg; omega) (fun k hk => by simp at hk; omega), hgr, by simp [World.setRow]⟩
      · rw [List.size_toArray, List.length_append, List.length_drop, hl, Array.length_toList, size_madeCells]; omega
      · rw [List.getElem?_toArray, List.getElem?_toArray, List.getElem?_append_left (by omega), List.getElem?_append_left (by omega)]
        exact aCells_at ac i hi
      · have hm := made_pair (.string ByteArray.empty) (.int .i64 0) (n + 2) i h2
        rw [List.getElem?_toArray, List.getElem?_toArray, List.getElem?_append_right (by omega), List.getElem?_append_right (by omega), List.getElem?_drop, List.getElem?_drop, hl, show n * 2 + (i * 2 - n * 2) = i * 2 by omega, show n * 2 + (i * 2 + 1 - n * 2) = i * 2 + 1 by omega, Array.getElem?_toList, Array.getElem?_toList]
        exact hm

/-- The periods that were laid so far. -/
def LPer (w : World) (g m k : Nat) (ls : List Value) : Prop := ∃ cur : Array Value, w.heap[g]? = some (.cells cur 47 (0, 0)) ∧ cur.size = m + 2 ∧ (∀ i, i < k → cur[i]? = ls[i]?) ∧ ∀ i, k ≤ i → i < m + 2 → cur[i]? = some (.slice none 0 0)
theorem made_one (a : Value) (m i : Nat) (h : i < m) : (madeCells #[a] m)[i]? = some a := by
  unfold madeCells
  rw [Array.getElem?_map, Array.getElem?_range, if_pos (by omega)]
  simp [Nat.mod_one]
theorem LPer.make (w : World) (m : Nat) : LPer (w.alloc (.cells (madeCells #[.slice none 0 0] (m + 2)) 47)) w.heap.size m 0 [] :=
  ⟨_, heap_alloc_new w _, size_madeCells _ _, fun i h0 => absurd h0 (by omega), fun i _ h => made_one _ _ i h⟩
theorem LPer.block {w w' : World} {g m k : Nat} {ls : List Value} (h : LPer w g m k ls) (hb : w'.heap[g]? = w.heap[g]?) : LPer w' g m k ls := by
  obtain ⟨cur, a, b⟩ := h
  exact ⟨cur, hb.trans a, b⟩
theorem LPer.lt {w : World} {g m k : Nat} {ls : List Value} (h : LPer w g m k ls) : g < w.heap.size := by
  obtain ⟨cur, a, _⟩ := h
  exact lt_of_block a
theorem LPer.keptT {w w' : World} {g m k : Nat} {ls : List Value} {t : TypeId} (h : LPer w g m k ls) (hk : KeptT t w w') (hne : 47 ≠ t) : LPer w' g m k ls := by
  obtain ⟨cur, a, b⟩ := h
  exact ⟨cur, hk _ _ _ _ a hne, b⟩
theorem LPer.cells {w : World} {g m k i : Nat} {ls : List Value} (h : LPer w g m k ls) (h1 : k ≤ i) (h2 : i < m + 2) : w.cell? ⟨g, i, none⟩ = some (.slice none 0 0) ∧ w.frozen? ⟨g, i, none⟩ = false := by
  obtain ⟨cur, a, _, _, d⟩ := h
  refine ⟨?_, ?_⟩
  · rw [cell_of_row w _ _ _ _ _ a]; exact d i h1 h2
  · simp [World.frozen?, a]
theorem LPer.put {w : World} {g m k : Nat} {ls : List Value} (v : Value) (h : LPer w g m k ls) (hk : k < m + 2) (hls : ls.length = k) : LPer (w.setCell ⟨g, k, none⟩ v) g m (k + 1) (ls ++ [v]) := by
  obtain ⟨cur, a, b, c, d⟩ := h
  refine ⟨_, heap_setCell_same w g k cur _ v a, by simpa using b, fun i hik => ?_, fun i h3 h4 => ?_⟩
  · by_cases e : i = k
    · subst e
      rw [Array.getElem?_setIfInBounds_self_of_lt (by omega), List.getElem?_append_right (by omega), hls, Nat.sub_self]
      rfl
    · rw [Array.getElem?_setIfInBounds_ne (by omega), c i (by omega), List.getElem?_append_left (by omega)]
  · rw [Array.getElem?_setIfInBounds_ne (by omega)]; exact d i (by omega) h4
theorem LPer.kept {w : World} {g m k j : Nat} {ls : List Value} {v : Value} (h : LPer w g m k ls) : KeptT 47 w (w.setCell ⟨g, j, none⟩ v) := by
  obtain ⟨cur, a, _⟩ := h
  exact keptT_setCell a

/-- A period that was handed in, and what is kept of it. -/
def SeE (wr : World) (p : List Sg.Ent) (l a b : Option Value) : Prop := ∃ g aoM capM, l = some (.slice (some ⟨g, 0, none⟩) p.length (p.length + 2)) ∧ a = some (.slice (some ⟨g, 0, none⟩) (p.length + 2) (p.length + 2)) ∧ b = some (.slice aoM p.length capM) ∧ Spared wr 0 g p.length aoM p
theorem SeE.keptS {w w' : World} {p : List Sg.Ent} {l a b : Option Value} (h : SeE w p l a b) (hk : KeptS w w') : SeE w' p l a b := by
  obtain ⟨g, aoM, capM, h1, h2, h3, h4⟩ := h
  exact ⟨g, aoM, capM, h1, h2, h3, h4.keptS hk⟩
/-- What stands at the head of Seals' loop: kl periods are laid, k are kept. -/
structure SeW (w wr : World) (n m kl k : Nat) (v0 v1 : Value) (ac : List Sg.Acc) (ps : List (List Sg.Ent)) (ls ms : List Value) (vK : Value) : Prop where
  bel : Below w.heap.size w wr
  arg : Two wr w.heap.size v0 v1 41
  row : ARow wr (w.heap.size + 1) n ac (.string beyondT)
  per : LPer wr (w.heap.size + 2) m kl ls
  msr : wr.ownsRow (w.heap.size + 3) 50 2 vK k ms
  lens : ls.length = kl
  each : ∀ i (h : i < ps.length), i < k → SeE wr ps[i] ls[i]? ms[i * 2]? ms[i * 2 + 1]?
theorem SeW.below {w wr w' : World} {n m kl k : Nat} {v0 v1 vK : Value} {ac : List Sg.Acc} {ps : List (List Sg.Ent)} {ls ms : List Value} (s : SeW w wr n m kl k v0 v1 ac ps ls ms vK) (h : Below wr.heap.size wr w') : SeW w w' n m kl k v0 v1 ac ps ls ms vK :=
  ⟨s.bel.trans (h.mono s.bel.size), s.arg.below h, s.row.block (h.block _ s.row.lt), s.per.block (h.block _ s.per.lt), ownsRow_below s.msr h, s.lens, fun i hi hk => (s.each i hi hk).keptS (KeptS.below h)⟩
/-- A period is laid. -/
theorem SeW.put {w wr : World} {n m kl k : Nat} {v0 v1 vK : Value} {ac : List Sg.Acc} {ps : List (List Sg.Ent)} {ls ms : List Value} (v : Value) (s : SeW w wr n m kl k v0 v1 ac ps ls ms vK) (hk : kl < m + 2) (hkk : k ≤ kl) : SeW w (wr.setCell ⟨w.heap.size + 2, kl, none⟩ v) n m (kl + 1) k v0 v1 ac ps (ls ++ [v]) ms vK := by
  have hk2 : KeptT 47 wr (wr.setCell ⟨w.heap.size + 2, kl, none⟩ v) := s.per.kept
  refine ⟨s.bel.setCell (by show _ ≤ w.heap.size + 2; omega) _, hk2 _ _ _ _ s.arg (by decide), s.row.keptT hk2 (by decide), s.per.put v hk s.lens, ownsRow_keptT s.msr hk2 (by decide), by rw [List.length_append, s.lens]; rfl, fun i hi hik => ?_⟩
  rw [List.getElem?_append_left (by rw [s.lens]; omega)]
  exact (s.each i hi hik).keptS (KeptS.of hk2 (by decide) (by decide) (by decide))
/-- A period is kept. -/
theorem SeW.push {w X w5 : World} {n m k : Nat} {v0 v1 vK v' a b : Value} {ac : List Sg.Acc} {ps : List (List Sg.Ent)} {ls ms : List Value} (s : SeW w X n m (k + 1) k v0 v1 ac ps ls ms vK) (hg : X.grownBy w5 vK.ownBlock) (hown : w5.ownsRow (w.heap.size + 3) 50 2 v' (k + 1) (ms ++ [a, b])) (hk : k < ps.length) (hE : SeE X ps[k] ls[k]? (some a) (some b)) :
    SeW w w5 n m (k + 1) (k + 1) v0 v1 ac ps ls (ms ++ [a, b]) v' := by
  have hk5 := keptT_append s.msr hg
  have hml : ms.length = k * 2 := by have := s.msr.1; omega
  have hS : KeptS X w5 := KeptS.of hk5 (by decide) (by decide) (by decide)
  refine ⟨s.bel.grown hg s.bel.size (fun q hq => by have := (World.ownsRow.lt s.msr q hq).1; omega), hk5 _ _ _ _ s.arg (by decide), s.row.keptT hk5 (by decide), s.per.keptT hk5 (by decide), hown, s.lens, fun i hi hik => ?_⟩
  by_cases e : i = k
  · subst e
    rw [List.getElem?_append_right (by omega), List.getElem?_append_right (by omega), hml, Nat.sub_self, show i * 2 + 1 - i * 2 = 1 by omega]
    exact hE.keptS hS
  · rw [List.getElem?_append_left (by omega), List.getElem?_append_left (by omega)]
    exact (s.each i hi (by omega)).keptS hS
/-- Both places behind the periods are filled. -/
structure SeF (w wr : World) (n m x1 x2 : Nat) (v0 v1 : Value) (ac : List Sg.Acc) (ps : List (List Sg.Ent)) (ls ms : List Value) (vK : Value) : Prop where
  all : SeW w wr n m (m + 2) m v0 v1 ac ps (ls ++ [.slice (some ⟨x1, 0, none⟩) 1 1, .slice (some ⟨x2, 0, none⟩) 1 1]) ms vK
  len : ls.length = m
  b1 : Two wr x1 (.string beyondT) (.slice none 0 0) 55
  b2 : Two wr x2 (.string beyondT) (.slice none 0 0) 55
theorem SeF.below {w wr w' : World} {n m x1 x2 : Nat} {v0 v1 vK : Value} {ac : List Sg.Acc} {ps : List (List Sg.Ent)} {ls ms : List Value} (s : SeF w wr n m x1 x2 v0 v1 ac ps ls ms vK) (h : Below wr.heap.size wr w') : SeF w w' n m x1 x2 v0 v1 ac ps ls ms vK :=
  ⟨s.all.below h, s.len, s.b1.below h, s.b2.below h⟩
theorem SeW.fill {w wr : World} {n m : Nat} {v0 v1 vK : Value} {ac : List Sg.Acc} {ps : List (List Sg.Ent)} {ls ms : List Value} (s : SeW w wr n m m m v0 v1 ac ps ls ms vK) :
    SeF w ((((wr.alloc (.cells #[.string beyondT, .slice none 0 0] 55)).setCell ⟨w.heap.size + 2, m, none⟩ (.slice (some ⟨wr.heap.size, 0, none⟩) 1 1)).alloc (.cells #[.string beyondT, .slice none 0 0] 55)).setCell ⟨w.heap.size + 2, m + 1, none⟩ (.slice (some ⟨wr.heap.size + 1, 0, none⟩) 1 1)) n m wr.heap.size (wr.heap.size + 1) v0 v1 ac ps ls ms vK := by
  have a1 : Below wr.heap.size wr (wr.alloc (.cells #[.string beyondT, .slice none 0 0] 55)) := (Below.refl _ _).alloc (Nat.le_refl _) _
  have s1 := (s.below a1).put (.slice (some ⟨wr.heap.size, 0, none⟩) 1 1) (by omega) (Nat.le_refl _)
  have t1 : Two (wr.alloc (.cells #[.string beyondT, .slice none 0 0] 55)) wr.heap.size (.string beyondT) (.slice none 0 0) 55 := Two.new wr _ _ _
  have k1 : KeptT 47 (wr.alloc (.cells #[.string beyondT, .slice none 0 0] 55)) ((wr.alloc (.cells #[.string beyondT, .slice none 0 0] 55)).setCell ⟨w.heap.size + 2, m, none⟩ (.slice (some ⟨wr.heap.size, 0, none⟩) 1 1)) := (s.below a1).per.kept
  have t2 : Two ((wr.alloc (.cells #[.string beyondT, .slice none 0 0] 55)).setCell ⟨w.heap.size + 2, m, none⟩ (.slice (some ⟨wr.heap.size, 0, none⟩) 1 1)) wr.heap.size (.string beyondT) (.slice none 0 0) 55 := k1 _ _ _ _ t1 (by decide)
  have hs1 : ((wr.alloc (.cells #[.string beyondT, .slice none 0 0] 55)).setCell ⟨w.heap.size + 2, m, none⟩ (.slice (some ⟨wr.heap.size, 0, none⟩) 1 1)).heap.size = wr.heap.size + 1 := by simp
  generalize (wr.alloc (.cells #[.string beyondT, .slice none 0 0] 55)).setCell ⟨w.heap.size + 2, m, none⟩ (.slice (some ⟨wr.heap.size, 0, none⟩) 1 1) = W1 at *
  have a2 : Below W1.heap.size W1 (W1.alloc (.cells #[.string beyondT, .slice none 0 0] 55)) := (Below.refl _ _).alloc (Nat.le_refl _) _
  have s2 := (s1.below a2).put (.slice (some ⟨wr.heap.size + 1, 0, none⟩) 1 1) (by omega) (by omega)
  have k2 : KeptT 47 (W1.alloc (.cells #[.string beyondT, .slice none 0 0] 55)) ((W1.alloc (.cells #[.string beyondT, .slice none 0 0] 55)).setCell ⟨w.heap.size + 2, m + 1, none⟩ (.slice (some ⟨wr.heap.size + 1, 0, none⟩) 1 1)) := (s1.below a2).per.kept
  have t3 : Two (W1.alloc (.cells #[.string beyondT, .slice none 0 0] 55)) W1.heap.size (.string beyondT) (.slice none 0 0) 55 := Two.new W1 _ _ _
  rw [hs1] at t3
  refine ⟨?_, s.lens, k2 _ _ _ _ (t2.below a2) (by decide), k2 _ _ _ _ t3 (by decide)⟩
  rw [List.append_assoc] at s2
  exact s2
/-- The period that is handed in, and the one that is kept. -/
theorem SeF.period {w wr : World} {n m x1 x2 i : Nat} {v0 v1 vK : Value} {ac : List Sg.Acc} {ps : List (List Sg.Ent)} {ls ms : List Value} (s : SeF w wr n m x1 x2 v0 v1 ac ps ls ms vK) (hi : i < ps.length) (him : i < m) :
    ∃ g aoM capM, wr.cell? ⟨w.heap.size + 2, i, none⟩ = some (.slice (some ⟨g, 0, none⟩) ps[i].length (ps[i].length + 2)) ∧ ms[i * 2]? = some (.slice (some ⟨g, 0, none⟩) (ps[i].length + 2) (ps[i].length + 2)) ∧ ms[i * 2 + 1]? = some (.slice aoM ps[i].length capM) ∧ Spared wr 0 g ps[i].length aoM ps[i] := by
  obtain ⟨g, aoM, capM, h1, h2, h3, h4⟩ := s.all.each i hi him
  obtain ⟨cur, a, _, c, _⟩ := s.all.per
  refine ⟨g, aoM, capM, ?_, h2, h3, h4⟩
  rw [cell_of_row wr _ _ _ _ _ a, c i (by omega)]
  exact h1
theorem SeF.in_ {w wr : World} {n m x1 x2 : Nat} {v0 v1 vK : Value} {ac : List Sg.Acc} {ps : List (List Sg.Ent)} {ls ms : List Value} (s : SeF w wr n m x1 x2 v0 v1 ac ps ls ms vK) (hm : ps.length = m) : PersIn wr (some ⟨w.heap.size + 2, 0, none⟩) ps := by
  refine Or.inr ⟨w.heap.size + 2, 0, rfl, s.all.per.lt, fun i hi => ?_⟩
  obtain ⟨g, aoM, capM, h1, _, _, h4⟩ := s.period hi (by omega)
  exact ⟨some ⟨g, 0, none⟩, _, by rw [Nat.zero_add]; exact h1, h4.ents⟩
theorem SeF.spare {w wr : World} {n m x1 x2 : Nat} {v0 v1 vK : Value} {ac : List Sg.Acc} {ps : List (List Sg.Ent)} {ls ms : List Value} (s : SeF w wr n m x1 x2 v0 v1 ac ps ls ms vK) : wr.cell? ⟨w.heap.size + 2, m, none⟩ = some (.slice (some ⟨x1, 0, none⟩) 1 1) ∧ wr.cell? ⟨w.heap.size + 2, m + 1, none⟩ = some (.slice (some ⟨x2, 0, none⟩) 1 1) := by
  obtain ⟨cur, a, _, c, _⟩ := s.all.per
  refine ⟨?_, ?_⟩
  · rw [cell_of_row wr _ _ _ _ _ a, c m (by omega), List.getElem?_append_right (by rw [s.len]; omega), s.len, Nat.sub_self]; rfl
  · rw [cell_of_row wr _ _ _ _ _ a, c (m + 1) (by omega), List.getElem?_append_right (by rw [s.len]; omega), s.len, show m + 1 - m = 1 by omega]; rfl
/-- What lies behind. -/
theorem SeF.room {w wr : World} {n m x1 x2 d : Nat} {v0 v1 vK : Value} {ac : List Sg.Acc} {ps : List (List Sg.Ent)} {ls ms : List Value} (s : SeF w wr n m x1 x2 v0 v1 ac ps ls ms vK) (hd : d < 2) : ∃ xb, wr.cell? ⟨w.heap.size + 2, m + d, none⟩ = some (.slice (some ⟨xb, 0, none⟩) 1 1) ∧ wr.cell? ⟨xb, 0, none⟩ = some (.string beyondT) ∧ wr.cell? ⟨xb, 1, none⟩ = some (.slice none 0 0) ∧ wr.cell? ⟨w.heap.size + 1, (n + d) * 2, none⟩ = some (.string beyondT) ∧ wr.cell? ⟨w.heap.size + 1, (n + d) * 2 + 1, none⟩ = some (.int .i64 0) := by
  obtain ⟨a1, a2, _⟩ := s.all.row.cells (i := n + d) (by omega) (by omega)
  have h := s.spare
  by_cases e : d = 0
  · subst e
    exact ⟨x1, h.1, s.b1.cells.1, s.b1.cells.2, a1, a2⟩
  · obtain rfl : d = 1 := by omega
    exact ⟨x2, h.2, s.b2.cells.1, s.b2.cells.2, a1, a2⟩
end Go.Proofs.Ytpkkhkkkgjhkeaa
