import Derived.Test.YtpkkhkkkgjhkeabGreatBunOf
/-
  PLAIN MATHEMATICS (P9, P10): what a book shows of a line is true under its head: the total is that of the drills.
-/
namespace Go.Proofs.YtpkkhkkkgjhkeabGreat
namespace Sg
theorem amtsD_fold (l : List Drl) (s : Int) : l.foldl (fun s d => s + d.amt) s = s + amtsD l := by
  unfold amtsD
  induction l generalizing s with
  | nil => simp
  | cons d l ih =>
    simp only [List.foldl_cons]
    rw [ih, ih (0 + d.amt)]
    omega
theorem amtsD_append (a b : List Drl) : amtsD (a ++ b) = amtsD a + amtsD b := by
  have : amtsD (a ++ b) = (a ++ b).foldl (fun s d => s + d.amt) 0 := rfl
  rw [this, List.foldl_append, amtsD_fold]
  rfl
theorem amtsD_cons (d : Drl) (l : List Drl) : amtsD (d :: l) = d.amt + amtsD l := by
  have : amtsD (d :: l) = l.foldl (fun s d => s + d.amt) (0 + d.amt) := rfl
  rw [this, amtsD_fold]; omega
/-- What comes to a line out of postings. -/
def lineSum (ac : List Acc) (line : Int) : List Pst → Int
  | [] => 0
  | p :: r => (if lineOf ac p.acct = line then p.amt else 0) + lineSum ac line r
theorem lineSum_cons (ac : List Acc) (line : Int) (p : Pst) (r : List Pst) : lineSum ac line (p :: r) = (if lineOf ac p.acct = line then p.amt else 0) + lineSum ac line r := rfl
theorem drillsFrom_cons (ac : List Acc) (line : Int) (i : Nat) (e : Ent) (r : List Ent) : drillsFrom ac line i (e :: r) = drillsIn ac line i 0 e.posts ++ drillsFrom ac line (i + 1) r := rfl
theorem drillsIn_sum (ac : List Acc) (line : Int) (i : Nat) : ∀ (ps : List Pst) (j : Nat), amtsD (drillsIn ac line i j ps) = lineSum ac line ps
  | [], _ => rfl
  | p :: r, j => by
    unfold drillsIn lineSum
    split
    · rw [amtsD_cons, drillsIn_sum ac line i r (j + 1)]
    · rw [drillsIn_sum ac line i r (j + 1)]; omega
theorem comes_get {l : List Int} {i k : Nat} (n : Int) (hk : k < l.length) : (comes l i n).getD k 0 = l.getD k 0 + (if i = k then n else 0) := by
  unfold comes
  by_cases h : i = k
  · subst h
    rw [if_pos rfl, List.getD_eq_getElem?_getD, List.getElem?_set_self hk]
    rfl
  · rw [if_neg h, List.getD_eq_getElem?_getD, List.getElem?_set_ne h, ← List.getD_eq_getElem?_getD]
    omega
theorem linesAll_get (ac : List Acc) (k : Nat) : ∀ (ps : List Pst) (tot : List Int), k < tot.length → (∀ p ∈ ps, 0 ≤ lineOf ac p.acct) → (linesAll ac ps tot).getD k 0 = tot.getD k 0 + lineSum ac (k : Int) ps ∧ (linesAll ac ps tot).length = tot.length
  | [], tot, _, _ => by unfold linesAll lineSum; simp
  | p :: r, tot, hk, hl => by
    have hl' : (comes tot (lineOf ac p.acct).toNat p.amt).length = tot.length := by unfold comes; simp
    have ih := linesAll_get ac k r (comes tot (lineOf ac p.acct).toNat p.amt) (by rw [hl']; exact hk) (fun q hq => hl q (List.mem_cons_of_mem _ hq))
    have e : linesAll ac (p :: r) tot = linesAll ac r (comes tot (lineOf ac p.acct).toNat p.amt) := rfl
    rw [e]
    refine ⟨?_, by rw [ih.2, hl']⟩
    rw [ih.1, comes_get p.amt hk, lineSum_cons]
    have h0 := hl p List.mem_cons_self
    by_cases h : lineOf ac p.acct = (k : Int)
    · rw [if_pos h, if_pos (by omega)]; omega
    · rw [if_neg h, if_neg (by omega)]; omega
theorem lineOf_nonneg {ac : List Acc} (h : ∀ a ∈ ac, 0 ≤ a.line) (i : Int) : 0 ≤ lineOf ac i := by
  unfold lineOf
  rw [List.getD_eq_getElem?_getD, List.getElem?_map]
  by_cases hi : i.toNat < ac.length
  · rw [List.getElem?_eq_getElem hi]
    exact h _ (List.getElem_mem hi)
  · rw [List.getElem?_eq_none (by omega)]
    exact Int.le_refl 0
theorem entsTo_tot (ac : List Acc) (hac : ∀ a ∈ ac, 0 ≤ a.line) (k : Nat) : ∀ (es : List Ent) (i : Nat) (now tot : List Int), k < tot.length → (entsTo ac es now tot).1 = 0 → (entsTo ac es now tot).2.2.getD k 0 = tot.getD k 0 + amtsD (drillsFrom ac (k : Int) i es)
  | [], i, now, tot, _, _ => by unfold entsTo drillsFrom; show _ = _ + amtsD []; unfold amtsD; simp
  | e :: r, i, now, tot, hk, h => by
    unfold entsTo at h ⊢
    by_cases he : entErr ac.length e now ≠ 0
    · rw [if_pos he] at h
      exact absurd h he
    · rw [if_neg he] at h ⊢
      have hl := linesAll_get ac k e.posts tot hk (fun p _ => lineOf_nonneg hac _)
      have ih := entsTo_tot ac hac k r (i + 1) _ (linesAll ac e.posts tot) (by rw [hl.2]; exact hk) h
      rw [ih, hl.1, drillsFrom_cons, amtsD_append, drillsIn_sum]
      omega
theorem persTo_tot (ac : List Acc) (hac : ∀ a ∈ ac, 0 ≤ a.line) (k : Nat) (hk : k < 4) : ∀ (ps : List (List Ent)) (now : List Int), (persTo ac ps now).1 = 0 → ∀ i (hi : i < ps.length), ((persTo ac ps now).2.2.getD i []).getD k 0 = amtsD (drillsOf ac ps[i] (k : Int)) ∧ fits (((persTo ac ps now).2.2.getD i []).getD k 0) = true
  | [], _, _, i, hi => by simp at hi
  | p :: r, now, h, i, hi => by
    unfold persTo at h ⊢
    simp only at h ⊢
    by_cases h1 : (entsTo ac p now [0, 0, 0, 0]).1 ≠ 0
    · rw [if_pos h1] at h
      exact absurd h h1
    · rw [if_neg h1] at h ⊢
      by_cases h2 : ((entsTo ac p now [0, 0, 0, 0]).2.2.any fun v => !fits v) = true
      · rw [if_pos h2] at h
        exact absurd h (by decide)
      · rw [if_neg h2] at h ⊢
        have h1' : (entsTo ac p now [0, 0, 0, 0]).1 = 0 := by omega
        match i, hi with
        | 0, _ =>
          show ((entsTo ac p now [0, 0, 0, 0]).2.2.getD k 0) = amtsD (drillsOf ac p (k : Int)) ∧ fits ((entsTo ac p now [0, 0, 0, 0]).2.2.getD k 0) = true
          have e := entsTo_tot ac hac k p 0 now [0, 0, 0, 0] (by simpa using hk) h1'
          have e0 : ([0, 0, 0, 0] : List Int).getD k 0 = 0 := by
            have : k = 0 ∨ k = 1 ∨ k = 2 ∨ k = 3 := by omega
            rcases this with rfl | rfl | rfl | rfl <;> rfl
          refine ⟨by rw [e, e0]; unfold drillsOf; omega, ?_⟩
          rw [List.getD_eq_getElem?_getD]
          by_cases hl : k < (entsTo ac p now [0, 0, 0, 0]).2.2.length
          · rw [List.getElem?_eq_getElem hl]
            show fits ((entsTo ac p now [0, 0, 0, 0]).2.2[k]) = true
            cases hf : fits ((entsTo ac p now [0, 0, 0, 0]).2.2[k]) with
            | true => rfl
            | false => exact absurd (List.any_eq_true.2 ⟨_, List.getElem_mem hl, by simp [hf]⟩) h2
          · rw [List.getElem?_eq_none (by omega)]
            decide
        | i + 1, hi =>
          exact persTo_tot ac hac k hk r _ h i (by simpa using hi)
theorem total_is {h : Hist} (hc : closeErr h = 0) {i k : Nat} (hi : i < h.pers.length) (hk : k < 4) : ((totals h).getD i []).getD k 0 = amtsD (drillsOf h.accs (h.pers.getD i []) (k : Int)) ∧ fits (((totals h).getD i []).getD k 0) = true := by
  have hb : inBounds h = true := by
    unfold closeErr at hc
    by_cases e : inBounds h = true
    · exact e
    · rw [if_neg e] at hc
      exact absurd hc (by decide)
  unfold closeErr at hc
  rw [if_pos hb] at hc
  have e1 : h.pers.getD i [] = h.pers[i] := by rw [List.getD_eq_getElem?_getD, List.getElem?_eq_getElem hi]; rfl
  rw [e1]
  exact persTo_tot h.accs (fun a ha => (bnd_accs hb a ha).2.1) k hk h.pers _ hc i hi
theorem bunOf_hG {h : Hist} {i k j : Nat} (hj : i + j < h.pers.length) : hG (bunOf h i k) j = hdrOf h (i + j) := by
  show ((hdrsTo h h.pers.length).drop i).getD j hdr0 = _
  rw [List.getD_eq_getElem?_getD, List.getElem?_drop, hdrsTo_get h hj]
  rfl
/-- What a book shows of a line is true under its head, and under no other. -/
theorem lookOk_bunOf {h : Hist} (hc : closeErr h = 0) {i k : Nat} (hi : i < h.pers.length) (hk : k < 4) (hd : Txt) : lookOk (bunOf h i k) hd = decide (headOf h = hd) := by
  have hl : (bunOf h i k).hdrs.length = h.pers.length - i := by
    show ((hdrsTo h h.pers.length).drop i).length = _
    rw [List.length_drop, hdrsTo_len]
  have n1 : numbered (bunOf h i k) = true := by
    unfold numbered
    rw [decide_eq_true_eq]
    intro j hj
    rw [hl] at hj
    rw [bunOf_hG (by omega)]
    exact ⟨rfl, rfl⟩
  have n2 : chained (bunOf h i k) = true := by
    unfold chained
    rw [decide_eq_true_eq]
    intro j hj
    rw [hl] at hj
    rw [bunOf_hG (by omega), bunOf_hG (by omega), hdrSum_of]
    rfl
  have n4 : leadsStmt (bunOf h i k) = true := by
    unfold leadsStmt
    rw [decide_eq_true_eq, bunOf_hG (by omega)]
    have hs : (stmt h.accs (h.pers.getD i []) ((totals h).getD i [])).length = 4 := by unfold stmt; simp
    have hg : (stmt h.accs (h.pers.getD i []) ((totals h).getD i [])).getD k ByteArray.empty = lineT (bunOf h i k) := by
      unfold stmt
      rw [List.getD_eq_getElem?_getD, List.getElem?_map, List.getElem?_range hk]
      rfl
    have := climb_path 4 (stmt h.accs (h.pers.getD i []) ((totals h).getD i [])) k (by omega) (by omega)
    rw [hs, hg] at this
    exact this
  have n5 : isTotal (bunOf h i k) = true := by
    unfold isTotal
    rw [decide_eq_true_eq]
    exact (total_is hc hi hk).1.symm
  have n3 : leadsHead (bunOf h i k) hd = decide (headOf h = hd) := by
    unfold leadsHead
    have e : sumB (hdrB (hG (bunOf h i k) ((bunOf h i k).hdrs.length - 1))) = headOf h := by
      rw [hl, bunOf_hG (by omega), hdrSum_of]
      unfold headOf
      rw [if_pos hc, show i + (h.pers.length - i - 1) + 1 = h.pers.length by omega]
    rw [e]
  unfold lookOk
  rw [n1, n2, n3, n4, n5]
  simp
/-- The lines of a period together. -/
theorem lineSum_all (ac : List Acc) : ∀ (ps : List Pst), (∀ p ∈ ps, 0 ≤ lineOf ac p.acct ∧ lineOf ac p.acct ≤ 3) → lineSum ac 0 ps + lineSum ac 1 ps + lineSum ac 2 ps + lineSum ac 3 ps = amtSum ps
  | [], _ => rfl
  | p :: r, h => by
    have ih := lineSum_all ac r (fun q hq => h q (List.mem_cons_of_mem _ hq))
    have hp := h p List.mem_cons_self
    have e : amtSum (p :: r) = p.amt + amtSum r := by
      unfold amtSum
      have f : ∀ (l : List Pst) (s : Int), l.foldl (fun s p => s + p.amt) s = s + l.foldl (fun s p => s + p.amt) 0 := by
        intro l
        induction l with
        | nil => intro s; simp
        | cons d l ih => intro s; simp only [List.foldl_cons]; rw [ih, ih (0 + d.amt)]; omega
      simp only [List.foldl_cons]
      rw [f]
      omega
    simp only [lineSum_cons]
    rw [e]
    have : lineOf ac p.acct = 0 ∨ lineOf ac p.acct = 1 ∨ lineOf ac p.acct = 2 ∨ lineOf ac p.acct = 3 := by omega
    rcases this with q | q | q | q <;> rw [q] <;> simp <;> omega
theorem drillsFrom_all (ac : List Acc) : ∀ (es : List Ent) (i : Nat), (∀ e ∈ es, (∀ p ∈ e.posts, 0 ≤ lineOf ac p.acct ∧ lineOf ac p.acct ≤ 3) ∧ amtSum e.posts = 0) → amtsD (drillsFrom ac 0 i es) + amtsD (drillsFrom ac 1 i es) + amtsD (drillsFrom ac 2 i es) + amtsD (drillsFrom ac 3 i es) = 0
  | [], _, _ => rfl
  | e :: r, i, h => by
    have ih := drillsFrom_all ac r (i + 1) (fun q hq => h q (List.mem_cons_of_mem _ hq))
    have he := h e List.mem_cons_self
    have hl := lineSum_all ac e.posts he.1
    simp only [drillsFrom_cons, amtsD_append, drillsIn_sum]
    rw [he.2] at hl
    omega
end Sg
end Go.Proofs.YtpkkhkkkgjhkeabGreat
