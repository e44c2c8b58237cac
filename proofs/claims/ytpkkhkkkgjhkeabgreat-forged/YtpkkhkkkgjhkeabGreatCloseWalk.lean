import Derived.Test.YtpkkhkkkgjhkeabGreatLeaves
/-
  THE WALK of signetref.Close.
-/
namespace Go.Proofs.YtpkkhkkkgjhkeabGreat
open Go.RowKit
set_option maxRecDepth 100000
attribute [local go_sem ↓] Go.wp_at_zero Go.wp_at_succ

/-- A history that is handed in, with what the walks ask of its sizes. -/
structure HistIn (w : World) (aoA aoP : Option Addr) (nA nP : Nat) (h : Sg.Hist) : Prop where
  accs : AccsIn w aoA h.accs
  pers : PersIn w aoP h.pers
  lenA : h.accs.length = nA
  lenP : h.pers.length = nP
  sizA : ∀ a ∈ h.accs, a.name.size ≤ 140737488355328 ∧ Sg.fits a.line = true
  sizP : ∀ p ∈ h.pers, p.length ≤ 140737488355328 ∧ ∀ e ∈ p, e.memo.size ≤ 140737488355328 ∧ e.posts.length ≤ 140737488355328
  sizQ : ∀ p ∈ h.pers, ∀ e ∈ p, ∀ t ∈ e.posts, Sg.fits t.acct = true ∧ Sg.fits t.amt = true
theorem HistIn.below {w w' : World} {aoA aoP : Option Addr} {nA nP : Nat} {h : Sg.Hist} (b : HistIn w aoA aoP nA nP h) (hb : Below w.heap.size w w') : HistIn w' aoA aoP nA nP h :=
  ⟨b.accs.below hb, b.pers.below hb, b.lenA, b.lenP, b.sizA, b.sizP, b.sizQ⟩
abbrev nilV : Value := .slice none 0 0
theorem wideCells_zero : ∀ n, wideCells (List.replicate n 0) = List.replicate (n * 2) (.int .i64 0)
  | 0 => rfl
  | n + 1 => by
    rw [List.replicate_succ]
    show [Value.int .i64 (wHi 0), .int .i64 (wLo 0)] ++ wideCells (List.replicate n 0) = _
    rw [wideCells_zero n, show (n + 1) * 2 = n * 2 + 1 + 1 by omega, List.replicate_succ, List.replicate_succ]
    rfl
theorem made_wides (n : Nat) : (madeCells #[Value.int .i64 0, Value.int .i64 0] (n * 2)).toList = wideCells (List.replicate n 0) := by
  rw [wideCells_zero, List.eq_replicate_iff]
  refine ⟨by simp [madeCells], fun b hb => ?_⟩
  simp only [madeCells, Array.toList_map, List.mem_map] at hb
  obtain ⟨a, _, rfl⟩ := hb
  have : a % 2 = 0 ∨ a % 2 = 1 := by omega
  rcases this with e | e <;> simp [e]
/-- What has been closed so far. -/
structure ClSpec (h : Sg.Hist) (nA k : Nat) (now : List Int) (bal tot : List (List Int)) : Prop where
  lenN : now.length = nA
  fitN : ∀ v ∈ now, Sg.fits v = true
  lenB : bal.length = k
  lenT : tot.length = k
  fineB : ∀ l ∈ bal, l.length = nA ∧ ∀ v ∈ l, Sg.fits v = true
  fineT : ∀ l ∈ tot, l.length = 4 ∧ ∀ v ∈ l, Sg.fits v = true
  eq : Sg.persTo h.accs h.pers (List.replicate h.accs.length 0) = ((Sg.persTo h.accs (h.pers.drop k) now).1, bal ++ (Sg.persTo h.accs (h.pers.drop k) now).2.1, tot ++ (Sg.persTo h.accs (h.pers.drop k) now).2.2)
theorem ClSpec.start {h : Sg.Hist} {nA : Nat} (hn : h.accs.length = nA) : ClSpec h nA 0 (List.replicate nA 0) [] [] :=
  ⟨by simp, fun v hv => by rw [List.eq_of_mem_replicate hv]; rfl, rfl, rfl, by simp, by simp, by rw [hn]; rfl⟩
/-- What has been entered so far, in a period. -/
structure EnSpec (ac : List Sg.Acc) (nA j : Nat) (es : List Sg.Ent) (now0 now tt : List Int) : Prop where
  lenN : now.length = nA
  fitN : ∀ v ∈ now, Sg.fits v = true
  lenT : tt.length = 4
  near : ∀ v ∈ tt, Sg.Near (6 * j) v
  eq : Sg.entsTo ac es now0 [0, 0, 0, 0] = Sg.entsTo ac (es.drop j) now tt
theorem EnSpec.start {ac : List Sg.Acc} {nA : Nat} {es : List Sg.Ent} {now : List Int} (h1 : now.length = nA) (h2 : ∀ v ∈ now, Sg.fits v = true) : EnSpec ac nA 0 es now now [0, 0, 0, 0] :=
  ⟨h1, h2, rfl, fun v hv => by simp at hv; subst hv; simp [Sg.Near], rfl⟩
theorem EnSpec.bad {ac : List Sg.Acc} {nA j : Nat} {es : List Sg.Ent} {now0 now tt : List Int} (h : EnSpec ac nA j es now0 now tt) (hn : ac.length = nA) (hj : j < es.length) (he : Sg.entErr nA es[j] now ≠ 0) : (Sg.entsTo ac es now0 [0, 0, 0, 0]).1 = Sg.entErr nA es[j] now := by
  rw [h.eq, List.drop_eq_getElem_cons hj]
  simp only [Sg.entsTo]
  rw [hn, if_pos he]
theorem EnSpec.next {ac : List Sg.Acc} {nA j : Nat} {es : List Sg.Ent} {now0 now tt : List Int} (h : EnSpec ac nA j es now0 now tt) (hn : ac.length = nA) (hj : j < es.length) (he : Sg.entErr nA es[j] now = 0) (hok : ∀ a ∈ ac, 0 ≤ a.line ∧ a.line ≤ 3) (hf : ∀ p ∈ es[j].posts, Sg.fits p.amt = true) (h6 : es[j].posts.length ≤ 6) :
    EnSpec ac nA (j + 1) es now0 (Sg.comesAll es[j].posts now) (Sg.linesAll ac es[j].posts tt) := by
  obtain ⟨g1, g2⟩ := Sg.entErr_ok he
  refine ⟨by rw [Sg.comesAll_length]; exact h.lenN, g2, by rw [← Sg.linesTo_all, Sg.linesTo_length _ _ _ _ (Nat.le_refl _)]; exact h.lenT, ?_, ?_⟩
  · rw [← Sg.linesTo_all]
    intro v hv
    exact (Sg.linesTo_near ac es[j].posts tt (6 * j) h.near hf h.lenT (fun p hp => Sg.lineOf_fine hn hok (g1 p hp).1 (g1 p hp).2) _ (Nat.le_refl _) v hv).mono (by omega)
  · rw [h.eq, List.drop_eq_getElem_cons hj]
    simp only [Sg.entsTo]
    rw [hn, if_neg (by omega)]
theorem EnSpec.done {ac : List Sg.Acc} {nA : Nat} {es : List Sg.Ent} {now0 now tt : List Int} (h : EnSpec ac nA es.length es now0 now tt) : Sg.entsTo ac es now0 [0, 0, 0, 0] = (0, now, tt) := by
  rw [h.eq, List.drop_length]; rfl
theorem ClSpec.bad {h : Sg.Hist} {nA k : Nat} {now : List Int} {bal tot : List (List Int)} (c : ClSpec h nA k now bal tot) (hk : k < h.pers.length) (hi : Sg.inBounds h = true) (he : (Sg.entsTo h.accs h.pers[k] now [0, 0, 0, 0]).1 ≠ 0) : Sg.closeErr h = (Sg.entsTo h.accs h.pers[k] now [0, 0, 0, 0]).1 := by
  unfold Sg.closeErr
  rw [if_pos hi, c.eq, List.drop_eq_getElem_cons hk]
  simp only [Sg.persTo]
  rw [if_pos he]
theorem ClSpec.over {h : Sg.Hist} {nA k : Nat} {now now' tt : List Int} {bal tot : List (List Int)} (c : ClSpec h nA k now bal tot) (hk : k < h.pers.length) (hi : Sg.inBounds h = true) (he : Sg.entsTo h.accs h.pers[k] now [0, 0, 0, 0] = (0, now', tt)) (ho : tt.any (fun v => !Sg.fits v) = true) : Sg.closeErr h = 4 := by
  unfold Sg.closeErr
  rw [if_pos hi, c.eq, List.drop_eq_getElem_cons hk]
  simp only [Sg.persTo, he]
  rw [if_neg (by simp), if_pos ho]
theorem ClSpec.next {h : Sg.Hist} {nA k : Nat} {now now' tt : List Int} {bal tot : List (List Int)} (c : ClSpec h nA k now bal tot) (hk : k < h.pers.length) (he : Sg.entsTo h.accs h.pers[k] now [0, 0, 0, 0] = (0, now', tt)) (ho : ∀ v ∈ tt, Sg.fits v = true) (hl : now'.length = nA) (hf : ∀ v ∈ now', Sg.fits v = true) (h4 : tt.length = 4) :
    ClSpec h nA (k + 1) now' (bal ++ [now']) (tot ++ [tt]) := by
  have ho' : tt.any (fun v => !Sg.fits v) = false := by
    rw [List.any_eq_false]; intro v hv; rw [ho v hv]; simp
  refine ⟨hl, hf, by simp [c.lenB], by simp [c.lenT], ?_, ?_, ?_⟩
  · intro l hl'
    rcases List.mem_append.1 hl' with h1 | h1
    · exact c.fineB l h1
    · simp at h1; subst h1; exact ⟨hl, hf⟩
  · intro l hl'
    rcases List.mem_append.1 hl' with h1 | h1
    · exact c.fineT l h1
    · simp at h1; subst h1; exact ⟨h4, ho⟩
  · rw [c.eq, List.drop_eq_getElem_cons hk]
    simp only [Sg.persTo, he]
    rw [if_neg (by simp), if_neg (by rw [ho']; simp)]
    simp
theorem ClSpec.done {h : Sg.Hist} {nA : Nat} {now : List Int} {bal tot : List (List Int)} (c : ClSpec h nA h.pers.length now bal tot) (hi : Sg.inBounds h = true) : Sg.closeErr h = 0 ∧ Sg.balances h = bal ∧ Sg.totals h = tot := by
  have e := c.eq
  rw [List.drop_length] at e
  simp only [Sg.persTo, List.append_nil] at e
  unfold Sg.closeErr Sg.balances Sg.totals
  rw [if_pos hi, e]
  exact ⟨rfl, rfl, rfl⟩

namespace Sg
theorem entsTo_ok (ac : List Acc) : ∀ (es : List Ent) (now tot : List Int), (entsTo ac es now tot).1 = 0 → ∀ e ∈ es, ∀ p ∈ e.posts, 0 ≤ p.acct ∧ p.acct < (ac.length : Int)
  | [], _, _, _ => by simp
  | e :: r, now, tot, h => by
    simp only [entsTo] at h
    by_cases he : entErr ac.length e now ≠ 0
    · rw [if_pos he] at h; exact absurd h he
    · rw [if_neg he] at h
      have ih := entsTo_ok ac r _ _ h
      intro e' he'
      rcases List.mem_cons.1 he' with rfl | h'
      · exact (entErr_ok (Decidable.not_not.1 he)).1
      · exact ih e' h'
theorem persTo_ok (ac : List Acc) : ∀ (ps : List (List Ent)) (now : List Int), (persTo ac ps now).1 = 0 → ∀ q ∈ ps, ∀ e ∈ q, ∀ p ∈ e.posts, 0 ≤ p.acct ∧ p.acct < (ac.length : Int)
  | [], _, _ => by simp
  | q :: r, now, h => by
    simp only [persTo] at h
    by_cases h1 : (entsTo ac q now [0, 0, 0, 0]).1 ≠ 0
    · rw [if_pos h1] at h; exact absurd h h1
    · rw [if_neg h1] at h
      by_cases h2 : (entsTo ac q now [0, 0, 0, 0]).2.2.any (fun v => !fits v) = true
      · rw [if_pos h2] at h; simp at h
      · rw [if_neg h2] at h
        have ih := persTo_ok ac r _ h
        intro q' hq'
        rcases List.mem_cons.1 hq' with rfl | h'
        · exact entsTo_ok ac q' now _ (Decidable.not_not.1 h1)
        · exact ih q' h'
theorem accsOk_mem : ∀ (l : List Acc), accsOk l = true → ∀ a ∈ l, a.name.size ≤ 12 ∧ 0 ≤ a.line ∧ a.line ≤ 3
  | [], _ => by simp
  | b :: r, h => by
    simp only [accsOk, Bool.and_eq_true] at h
    intro a ha
    rcases List.mem_cons.1 ha with rfl | h'
    · have := h.1.1
      unfold accOk at this
      have := of_decide_eq_true this
      omega
    · exact accsOk_mem r h.2 a h'
theorem bnd_accs {h : Hist} (hi : inBounds h = true) : ∀ a ∈ h.accs, a.name.size ≤ 12 ∧ 0 ≤ a.line ∧ a.line ≤ 3 := by
  unfold inBounds at hi
  simp only [Bool.and_eq_true] at hi
  exact accsOk_mem _ hi.1.2
theorem bnd_pers {h : Hist} (hi : inBounds h = true) : ∀ p ∈ h.pers, p.length ≤ 12 ∧ ∀ e ∈ p, e.memo.size ≤ 20 ∧ e.posts.length ≤ 6 := by
  unfold inBounds at hi
  simp only [Bool.and_eq_true] at hi
  intro p hp
  have h1 := List.all_eq_true.1 hi.2 p hp
  unfold perOk at h1
  simp only [Bool.and_eq_true] at h1
  refine ⟨of_decide_eq_true h1.1, fun e he => ?_⟩
  have h2 := List.all_eq_true.1 h1.2 e he
  unfold entOk at h2
  have := of_decide_eq_true h2
  omega
end Sg
theorem fine_of {w : World} {aoA aoP : Option Addr} {nA nP : Nat} {h : Sg.Hist} (b : HistIn w aoA aoP nA nP h) (hi : Sg.inBounds h = true) (hc : Sg.closeErr h = 0) : ∀ p ∈ h.pers, perFine nA p := by
  intro p hp
  obtain ⟨h1, h2⟩ := Sg.bnd_pers hi p hp
  unfold Sg.closeErr at hc
  rw [if_pos hi] at hc
  refine ⟨h1, fun e he => ⟨(h2 e he).1, (h2 e he).2, fun t ht => ?_⟩⟩
  have h3 := Sg.persTo_ok _ _ _ hc p hp e he t ht
  rw [b.lenA] at h3
  exact ⟨h3.1, h3.2, (b.sizQ p hp e he t ht).2⟩

/-- The four stores into the result's block. -/
def put4 (W : World) (s : Nat) (a b c d : Value) : World := (((W.setCell ⟨s, 0, none⟩ a).setCell ⟨s, 1, none⟩ b).setCell ⟨s, 2, none⟩ c).setCell ⟨s, 3, none⟩ d
theorem put4_grown (W : World) (s : Nat) (a b c d : Value) : W.grownBy (put4 W s a b c d) (some s) :=
  grown_chain (grown_chain (grown_chain (setCell_grown _ _ _ _) (setCell_grown _ _ _ _)) (setCell_grown _ _ _ _)) (setCell_grown _ _ _ _)
theorem put4_below {w W : World} {s n : Nat} (h : Below n w W) (hs : n ≤ s) (a b c d : Value) : Below n w (put4 W s a b c d) :=
  (((h.setCell (p := ⟨s, 0, none⟩) hs _).setCell (p := ⟨s, 1, none⟩) hs _).setCell (p := ⟨s, 2, none⟩) hs _).setCell (p := ⟨s, 3, none⟩) hs _
theorem grown_past {w w1 w2 : World} {g : Option Nat} {t : Nat} (h : w.grownBy w1 g) (k : w1.grownBy w2 (some t)) (ht : w.heap.size ≤ t) : w.grownBy w2 g :=
  ⟨k.os.trans h.os, k.tape.trans h.tape, k.output.trans h.output, Nat.le_trans h.size k.size, fun i hi hne => (k.block i (Nat.lt_of_lt_of_le hi h.size) (by simp; omega)).trans (h.block i hi hne)⟩
theorem grown_none {w w1 w2 : World} {g : Option Nat} (h : w.grownBy w1 none) (k : w1.grownBy w2 g) : w.grownBy w2 g :=
  ⟨k.os.trans h.os, k.tape.trans h.tape, k.output.trans h.output, Nat.le_trans h.size k.size, fun i hi hne => (k.block i (Nat.lt_of_lt_of_le hi h.size) hne).trans (h.block i hi (by simp))⟩
/-- Numbers that are being gathered. -/
def OwnInts (w : World) (base : Nat) (v : Value) (l : List Int) : Prop := w.ownsRow base 3 1 v l.length (l.map (Value.int .i64))
theorem OwnInts.below {w w' : World} {base : Nat} {v : Value} {l : List Int} (h : OwnInts w base v l) (hb : Below w.heap.size w w') : OwnInts w' base v l := ownsRow_below h hb
theorem OwnInts.row {w : World} {base : Nat} {v : Value} {l : List Int} (h : OwnInts w base v l) : RowI w v l := ownsRow_base h (Nat.zero_le _)
theorem OwnInts.push {w : World} {base : Nat} {v : Value} {l : List Int} {x : Int} (h : w.ownsRow base 3 1 v (l.length + 1) (l.map (Value.int .i64) ++ [.int .i64 x])) : OwnInts w base v (l ++ [x]) := by
  unfold OwnInts
  simpa using h
theorem fits_any {l : List Int} (h : ∀ j (hj : j < l.length), Sg.fits l[j] = true) : ∀ v ∈ l, Sg.fits v = true := fun v hv => by
  obtain ⟨j, hj, rfl⟩ := List.getElem_of_mem hv
  exact h j hj

theorem new_at {W : World} {n : Nat} {v : Value} {t : TypeId} (h : W.heap.size = n) : (W.alloc (.cells #[v] t)).cell? ⟨n, 0, none⟩ = some v := by subst h; simp
/-- What the region around the call of enters holds. -/
def Four (w' : World) (N bE oE : Nat) (a b c d : Value) : Prop := w'.cell? ⟨N, 0, none⟩ = some a ∧ w'.cell? ⟨N, 1, none⟩ = some b ∧ w'.cell? ⟨bE, oE, none⟩ = some c ∧ w'.cell? ⟨bE, oE + 1, none⟩ = some d
theorem four_grown {W W' : World} {N bE oE g : Nat} {a b c d : Value} (h : W.cell? ⟨N, 0, none⟩ = some a ∧ W.cell? ⟨N, 1, none⟩ = some b ∧ W.cell? ⟨bE, oE, none⟩ = some c ∧ W.cell? ⟨bE, oE + 1, none⟩ = some d) (hg : W.grownBy W' (some g)) (h1 : N ≠ g) (h2 : bE ≠ g) :
    W'.cell? ⟨N, 0, none⟩ = some a ∧ W'.cell? ⟨N, 1, none⟩ = some b ∧ W'.cell? ⟨bE, oE, none⟩ = some c ∧ W'.cell? ⟨bE, oE + 1, none⟩ = some d :=
  ⟨hg.cell h.1 (by simpa using h1), hg.cell h.2.1 (by simpa using h1), hg.cell h.2.2.1 (by simpa using h2), hg.cell h.2.2.2 (by simpa using h2)⟩
theorem near_tame {c : Nat} {v : Int} (h : Sg.Near c v) (hc : c ≤ 100) : Tame v := by
  have := h.mono (d := 100) hc
  unfold Sg.Near at this
  unfold Tame
  omega
end Go.Proofs.YtpkkhkkkgjhkeabGreat
