import Derived.Test.YtpkkhkkkgjhkeaaGreatLeaves
/-
  THE WALK of signetref.Close.
-/
namespace Go.Proofs.YtpkkhkkkgjhkeaaGreat
open Go.RowKit
set_option maxRecDepth 100000
attribute [local go_sem ↓] Go.wp_at_zero Go.wp_at_succ

/-- A history that is handed in, with what the walks ask of its sizes. -/
structure HistIn (w : World) (aoA aoP : Option Addr) (nA nP : Nat) (h : Sg.Hist) : Prop where
  accs : AccsIn w aoA h.accs
  pers : PersIn w aoP h.pers
  lenA : h.accs.length = nA
  lenP : h.pers.length = nP
  sizA : ∀ a ∈ h.accs, a.name.size ≤ 140737488355328 ∧ Sg.fits a.line = true
  sizP : ∀ p ∈ h.pers, p.length ≤ 140737488355328 ∧ ∀ e ∈ p, e.memo.size ≤ 140737488355328 ∧ e.posts.length ≤ 140737488355328
  sizQ : ∀ p ∈ h.pers, ∀ e ∈ p, ∀ t ∈ e.posts, Sg.fits t.acct = true ∧ Sg.fits t.amt = true
theorem HistIn.below {w w' : World} {aoA aoP : Option Addr} {nA nP : Nat} {h : Sg.Hist} (b : HistIn w aoA aoP nA nP h) (hb : Below w.heap.size w w') : HistIn w' aoA aoP nA nP h :=
  ⟨b.accs.below hb, b.pers.below hb, b.lenA, b.lenP, b.sizA, b.sizP, b.sizQ⟩
theorem bounds_any {w : World} {aoA aoP : Option Addr} {nA nP : Nat} {h : Sg.Hist} (capA capP : Nat) (b : HistIn w aoA aoP nA nP h) :
    Calls Tryz.prog 40 #[.agg #[.slice aoA nA capA, .slice aoP nP capP]] w fun e w' => e = .returned (.bool (Sg.inBounds h)) ∧ Below w.heap.size w w' := by
  by_cases hb : 1 ≤ nA ∧ nA ≤ 8 ∧ 1 ≤ nP ∧ nP ≤ 6
  · exact bounds_rest h aoA aoP nA capA nP capP w b.lenA b.lenP hb.1 hb.2.1 hb.2.2.1 hb.2.2.2 b.accs b.pers b.sizA b.sizP
  · exact bounds_nums h aoA aoP nA capA nP capP w b.lenA b.lenP hb

abbrev nilV : Value := .slice none 0 0
/-- The boxes that Close makes first. -/
def clBox (w : World) (a b : Value) : World := (w.alloc (.cells #[a, b] 36)).alloc (.cells #[nilV, nilV, nilV, nilV] 39)
theorem clBox_size (w : World) (a b : Value) : (clBox w a b).heap.size = w.heap.size + 2 := by unfold clBox; simp
theorem clBox_below (w : World) (a b : Value) : Below w.heap.size w (clBox w a b) := ((Below.refl _ _).alloc (Nat.le_refl _) _).alloc (by simp) _

set_option maxHeartbeats 1600000 in
theorem close_bad (h : Sg.Hist) (aoA aoP : Option Addr) (nA nP capA capP : Nat) (w : World) (hH : HistIn w aoA aoP nA nP h) (hb : Sg.inBounds h = false) :
    Calls Tryz.prog 21 #[.agg #[.slice aoA nA capA, .slice aoP nP capP]] w fun e w' => e = .returned (.tuple #[.agg #[nilV, nilV, nilV, nilV], .int .i64 1]) ∧ Below w.heap.size w w' := by
  have HI : Hid (Sg.inBounds h = false) := hb
  have HH : Hid (HistIn (clBox w (.slice aoA nA capA) (.slice aoP nP capP)) aoA aoP nA nP h) := hH.below (clBox_below _ _ _)
  clear hH hb
  go_enter Tryz.func21, Tryz.ntmps21
  go_wp2_with fail
  refine (bounds_any capA capP HH.out).mono ?_
  rintro e w1 ⟨rfl, hb1⟩
  rw [HI.out]
  have hb01 := (clBox_below w (.slice aoA nA capA) (.slice aoP nP capP)).trans (hb1.mono (by rw [clBox_size]; omega))
  have hs1 := hb1.size
  rw [clBox_size] at hb1 hs1
  have c0 : w1.heap[w.heap.size + 1]? = some (.cells #[nilV, nilV, nilV, nilV] 39 (0, 0)) := by
    rw [hb1.block _ (by omega)]
    unfold clBox
    have := heap_alloc_new (w.alloc (.cells #[.slice aoA nA capA, .slice aoP nP capP] 36)) (.cells #[nilV, nilV, nilV, nilV] 39)
    simpa using this
  have k0 : ∀ j, j < 4 → w1.cell? ⟨w.heap.size + 1, j, none⟩ = some nilV ∧ w1.frozen? ⟨w.heap.size + 1, j, none⟩ = false := by
    intro j hj
    match j, hj with
    | 0, _ => simp [World.cell?, World.frozen?, c0]
    | 1, _ => simp [World.cell?, World.frozen?, c0]
    | 2, _ => simp [World.cell?, World.frozen?, c0]
    | 3, _ => simp [World.cell?, World.frozen?, c0]
  obtain ⟨a0, b0⟩ := k0 0 (by omega)
  obtain ⟨a1, b1⟩ := k0 1 (by omega)
  obtain ⟨a2, b2⟩ := k0 2 (by omega)
  obtain ⟨a3, b3⟩ := k0 3 (by omega)
  clear k0 c0 hb1
  go_wp2_with fail
  refine bodyPost_ret (v := .tuple #[.agg #[nilV, nilV, nilV, nilV], .int .i64 1]) (by simp [results, Tryz.results21, go_sem, a0, a1, a2, a3]) rfl ⟨rfl, ?_⟩
  exact (((hb01.setCell (p := ⟨w.heap.size + 1, 0, none⟩) (by simp) _).setCell (p := ⟨w.heap.size + 1, 1, none⟩) (by simp) _).setCell (p := ⟨w.heap.size + 1, 2, none⟩) (by simp) _).setCell (p := ⟨w.heap.size + 1, 3, none⟩) (by simp) _

/-- What Close has behind the boxes and Bounds: the result's block; the history's box; what was there. -/
structure ClAt (w w1 : World) (a b : Value) : Prop where
  bel : Below (w.heap.size + 2) (clBox w a b) w1
  big : w.heap.size + 2 ≤ w1.heap.size
theorem ClAt.box {w w1 : World} {a b : Value} (h : ClAt w w1 a b) : w1.cell? ⟨w.heap.size, 0, none⟩ = some a ∧ w1.cell? ⟨w.heap.size, 1, none⟩ = some b := by
  constructor
  · rw [h.bel.cell (p := ⟨w.heap.size, 0, none⟩) (by simp)]; unfold clBox; rw [World.cell?_alloc_past _ _ _ (by simp)]; simp
  · rw [h.bel.cell (p := ⟨w.heap.size, 1, none⟩) (by simp)]; unfold clBox; rw [World.cell?_alloc_past _ _ _ (by simp)]; simp
theorem ClAt.res {w w1 : World} {a b : Value} (h : ClAt w w1 a b) : (w1.cell? ⟨w.heap.size + 1, 0, none⟩ = some nilV ∧ w1.cell? ⟨w.heap.size + 1, 1, none⟩ = some nilV ∧ w1.cell? ⟨w.heap.size + 1, 2, none⟩ = some nilV ∧ w1.cell? ⟨w.heap.size + 1, 3, none⟩ = some nilV) ∧
    (w1.frozen? ⟨w.heap.size + 1, 0, none⟩ = false ∧ w1.frozen? ⟨w.heap.size + 1, 1, none⟩ = false ∧ w1.frozen? ⟨w.heap.size + 1, 2, none⟩ = false ∧ w1.frozen? ⟨w.heap.size + 1, 3, none⟩ = false) := by
  have c0 : w1.heap[w.heap.size + 1]? = some (.cells #[nilV, nilV, nilV, nilV] 39 (0, 0)) := by
    rw [h.bel.block _ (by omega)]
    unfold clBox
    have := heap_alloc_new (w.alloc (.cells #[a, b] 36)) (.cells #[nilV, nilV, nilV, nilV] 39)
    simpa using this
  simp [World.cell?, World.frozen?, c0]
theorem ClAt.below {w w1 : World} {a b : Value} (h : ClAt w w1 a b) : Below w.heap.size w w1 := (clBox_below w a b).trans (h.bel.mono (by omega))
theorem ClAt.next {w w1 w2 : World} {a b : Value} (h : ClAt w w1 a b) (hb : Below (w.heap.size + 2) w1 w2) : ClAt w w2 a b := ⟨h.bel.trans hb, Nat.le_trans h.big hb.size⟩

/-- What Close holds at the head of its loop over periods: M: the box of the books, behind it the balances. -/
structure ClInv (w w1 wr : World) (a b : Value) (now : List Int) (vB vT : Value) (bal tot : List (List Int)) (bs ts : List Value) : Prop where
  cl : ClAt w w1 a b
  bel : Below w1.heap.size w1 wr
  box : wr.heap[w1.heap.size]? = some (.cells #[a, b, vB, vT] 39 (0, 0))
  now_ : Wides wr (w1.heap.size + 1) now
  big : w1.heap.size + 2 ≤ wr.heap.size
  rowB : RowS wr (w1.heap.size + 2) vB bal bs
  rowT : RowS wr (w1.heap.size + 2) vT tot ts
  apart : vB.ownBlock = none ∨ vB.ownBlock ≠ vT.ownBlock
  apart' : vT.ownBlock = none ∨ vT.ownBlock ≠ vB.ownBlock

theorem wideCells_zero : ∀ n, wideCells (List.replicate n 0) = List.replicate (n * 2) (.int .i64 0)
  | 0 => rfl
  | n + 1 => by
    rw [List.replicate_succ]
    show [Value.int .i64 (wHi 0), .int .i64 (wLo 0)] ++ wideCells (List.replicate n 0) = _
    rw [wideCells_zero n, show (n + 1) * 2 = n * 2 + 1 + 1 by omega, List.replicate_succ, List.replicate_succ]
    rfl
theorem made_wides (n : Nat) : (madeCells #[Value.int .i64 0, Value.int .i64 0] (n * 2)).toList = wideCells (List.replicate n 0) := by
  rw [wideCells_zero, List.eq_replicate_iff]
  refine ⟨by simp [madeCells], fun b hb => ?_⟩
  simp only [madeCells, Array.toList_map, List.mem_map] at hb
  obtain ⟨a, _, rfl⟩ := hb
  have : a % 2 = 0 ∨ a % 2 = 1 := by omega
  rcases this with e | e <;> simp [e]
/-- The whole row of a list of whole numbers that was just made. -/
theorem made_row {w : World} {base g n : Nat} (h : w.ownsRow base 98 2 (.slice (some ⟨g, 0, none⟩) n n) n (madeCells #[Value.int .i64 0, Value.int .i64 0] (n * 2)).toList) : Wides w g (List.replicate n 0) := by
  rw [made_wides n] at h
  rcases h.2 with ⟨h', _⟩ | ⟨g', cap', cur, h', hb, hg, _, _, hcs, htake⟩
  · simp at h'
  · simp only [Value.slice.injEq, Option.some.injEq, Addr.mk.injEq, and_true, true_and] at h'
    obtain ⟨rfl, rfl⟩ := h'
    have : cur.toList = wideCells (List.replicate n 0) := by rw [← htake, List.take_of_length_le (by simp; omega)]
    unfold Wides
    rw [hg, ← this]

theorem ClInv.start {w w1 w2 : World} {a b : Value} {nA : Nat} (hc : ClAt w w1 a b) (hown : w2.ownsRow (w1.heap.size + 1) 98 2 (.slice (some ⟨w1.heap.size + 1, 0, none⟩) nA nA) nA (madeCells #[Value.int .i64 0, Value.int .i64 0] (nA * 2)).toList)
    (hg : (w1.alloc (.cells #[a, b, nilV, nilV] 39)).grownBy w2 none) : ClInv w w1 w2 a b (List.replicate nA 0) nilV nilV [] [] [] [] := by
  have hW := made_row hown
  have hz := hW.lt
  refine ⟨hc, ((Below.refl _ _).alloc (Nat.le_refl _) _).grown hg (by simp) (fun k hk => by simp at hk), ?_, hW, by omega, ⟨rfl, World.ownsRow_nil _ _ _ _, fun i hi => absurd hi (by simp)⟩, ⟨rfl, World.ownsRow_nil _ _ _ _, fun i hi => absurd hi (by simp)⟩, Or.inl rfl, Or.inl rfl⟩
  rw [hg.block _ (by simp) (by simp)]
  exact heap_alloc_new _ _
/-- What has been closed so far. -/
structure ClSpec (h : Sg.Hist) (nA k : Nat) (now : List Int) (bal tot : List (List Int)) : Prop where
  lenN : now.length = nA
  fitN : ∀ v ∈ now, Sg.fits v = true
  lenB : bal.length = k
  lenT : tot.length = k
  fineB : ∀ l ∈ bal, l.length = nA ∧ ∀ v ∈ l, Sg.fits v = true
  fineT : ∀ l ∈ tot, l.length = 4 ∧ ∀ v ∈ l, Sg.fits v = true
  eq : Sg.persTo h.accs h.pers (List.replicate h.accs.length 0) = ((Sg.persTo h.accs (h.pers.drop k) now).1, bal ++ (Sg.persTo h.accs (h.pers.drop k) now).2.1, tot ++ (Sg.persTo h.accs (h.pers.drop k) now).2.2)
theorem ClSpec.start {h : Sg.Hist} {nA : Nat} (hn : h.accs.length = nA) : ClSpec h nA 0 (List.replicate nA 0) [] [] :=
  ⟨by simp, fun v hv => by rw [List.eq_of_mem_replicate hv]; rfl, rfl, rfl, by simp, by simp, by rw [hn]; rfl⟩
/-- What has been entered so far, in a period. -/
structure EnSpec (ac : List Sg.Acc) (nA j : Nat) (es : List Sg.Ent) (now0 now tt : List Int) : Prop where
  lenN : now.length = nA
  fitN : ∀ v ∈ now, Sg.fits v = true
  lenT : tt.length = 4
  near : ∀ v ∈ tt, Sg.Near (6 * j) v
  eq : Sg.entsTo ac es now0 [0, 0, 0, 0] = Sg.entsTo ac (es.drop j) now tt
theorem EnSpec.start {ac : List Sg.Acc} {nA : Nat} {es : List Sg.Ent} {now : List Int} (h1 : now.length = nA) (h2 : ∀ v ∈ now, Sg.fits v = true) : EnSpec ac nA 0 es now now [0, 0, 0, 0] :=
  ⟨h1, h2, rfl, fun v hv => by simp at hv; subst hv; simp [Sg.Near], rfl⟩
theorem EnSpec.bad {ac : List Sg.Acc} {nA j : Nat} {es : List Sg.Ent} {now0 now tt : List Int} (h : EnSpec ac nA j es now0 now tt) (hn : ac.length = nA) (hj : j < es.length) (he : Sg.entErr nA es[j] now ≠ 0) : (Sg.entsTo ac es now0 [0, 0, 0, 0]).1 = Sg.entErr nA es[j] now := by
  rw [h.eq, List.drop_eq_getElem_cons hj]
  simp only [Sg.entsTo]
  rw [hn, if_pos he]
theorem EnSpec.next {ac : List Sg.Acc} {nA j : Nat} {es : List Sg.Ent} {now0 now tt : List Int} (h : EnSpec ac nA j es now0 now tt) (hn : ac.length = nA) (hj : j < es.length) (he : Sg.entErr nA es[j] now = 0) (hok : ∀ a ∈ ac, 0 ≤ a.line ∧ a.line ≤ 3) (hf : ∀ p ∈ es[j].posts, Sg.fits p.amt = true) (h6 : es[j].posts.length ≤ 6) :
    EnSpec ac nA (j + 1) es now0 (Sg.comesAll es[j].posts now) (Sg.linesAll ac es[j].posts tt) := by
  obtain ⟨g1, g2⟩ := Sg.entErr_ok he
  refine ⟨by rw [Sg.comesAll_length]; exact h.lenN, g2, by rw [← Sg.linesTo_all, Sg.linesTo_length _ _ _ _ (Nat.le_refl _)]; exact h.lenT, ?_, ?_⟩
  · rw [← Sg.linesTo_all]
    intro v hv
    exact (Sg.linesTo_near ac es[j].posts tt (6 * j) h.near hf h.lenT (fun p hp => Sg.lineOf_fine hn hok (g1 p hp).1 (g1 p hp).2) _ (Nat.le_refl _) v hv).mono (by omega)
  · rw [h.eq, List.drop_eq_getElem_cons hj]
    simp only [Sg.entsTo]
    rw [hn, if_neg (by omega)]
theorem EnSpec.done {ac : List Sg.Acc} {nA : Nat} {es : List Sg.Ent} {now0 now tt : List Int} (h : EnSpec ac nA es.length es now0 now tt) : Sg.entsTo ac es now0 [0, 0, 0, 0] = (0, now, tt) := by
  rw [h.eq, List.drop_length]; rfl
theorem ClSpec.bad {h : Sg.Hist} {nA k : Nat} {now : List Int} {bal tot : List (List Int)} (c : ClSpec h nA k now bal tot) (hk : k < h.pers.length) (hi : Sg.inBounds h = true) (he : (Sg.entsTo h.accs h.pers[k] now [0, 0, 0, 0]).1 ≠ 0) : Sg.closeErr h = (Sg.entsTo h.accs h.pers[k] now [0, 0, 0, 0]).1 := by
  unfold Sg.closeErr
  rw [if_pos hi, c.eq, List.drop_eq_getElem_cons hk]
  simp only [Sg.persTo]
  rw [if_pos he]
theorem ClSpec.over {h : Sg.Hist} {nA k : Nat} {now now' tt : List Int} {bal tot : List (List Int)} (c : ClSpec h nA k now bal tot) (hk : k < h.pers.length) (hi : Sg.inBounds h = true) (he : Sg.entsTo h.accs h.pers[k] now [0, 0, 0, 0] = (0, now', tt)) (ho : tt.any (fun v => !Sg.fits v) = true) : Sg.closeErr h = 4 := by
  unfold Sg.closeErr
  rw [if_pos hi, c.eq, List.drop_eq_getElem_cons hk]
  simp only [Sg.persTo, he]
  rw [if_neg (by simp), if_pos ho]
theorem ClSpec.next {h : Sg.Hist} {nA k : Nat} {now now' tt : List Int} {bal tot : List (List Int)} (c : ClSpec h nA k now bal tot) (hk : k < h.pers.length) (he : Sg.entsTo h.accs h.pers[k] now [0, 0, 0, 0] = (0, now', tt)) (ho : ∀ v ∈ tt, Sg.fits v = true) (hl : now'.length = nA) (hf : ∀ v ∈ now', Sg.fits v = true) (h4 : tt.length = 4) :
    ClSpec h nA (k + 1) now' (bal ++ [now']) (tot ++ [tt]) := by
  have ho' : tt.any (fun v => !Sg.fits v) = false := by
    rw [List.any_eq_false]; intro v hv; rw [ho v hv]; simp
  refine ⟨hl, hf, by simp [c.lenB], by simp [c.lenT], ?_, ?_, ?_⟩
  · intro l hl'
    rcases List.mem_append.1 hl' with h1 | h1
    · exact c.fineB l h1
    · simp at h1; subst h1; exact ⟨hl, hf⟩
  · intro l hl'
    rcases List.mem_append.1 hl' with h1 | h1
    · exact c.fineT l h1
    · simp at h1; subst h1; exact ⟨h4, ho⟩
  · rw [c.eq, List.drop_eq_getElem_cons hk]
    simp only [Sg.persTo, he]
    rw [if_neg (by simp), if_neg (by rw [ho']; simp)]
    simp
theorem ClSpec.done {h : Sg.Hist} {nA : Nat} {now : List Int} {bal tot : List (List Int)} (c : ClSpec h nA h.pers.length now bal tot) (hi : Sg.inBounds h = true) : Sg.closeErr h = 0 ∧ Sg.balances h = bal ∧ Sg.totals h = tot := by
  have e := c.eq
  rw [List.drop_length] at e
  simp only [Sg.persTo, List.append_nil] at e
  unfold Sg.closeErr Sg.balances Sg.totals
  rw [if_pos hi, e]
  exact ⟨rfl, rfl, rfl⟩

namespace Sg
theorem entsTo_ok (ac : List Acc) : ∀ (es : List Ent) (now tot : List Int), (entsTo ac es now tot).1 = 0 → ∀ e ∈ es, ∀ p ∈ e.posts, 0 ≤ p.acct ∧ p.acct < (ac.length : Int)
  | [], _, _, _ => by simp
  | e :: r, now, tot, h => by
    simp only [entsTo] at h
    by_cases he : entErr ac.length e now ≠ 0
    · rw [if_pos he] at h; exact absurd h he
    · rw [if_neg he] at h
      have ih := entsTo_ok ac r _ _ h
      intro e' he'
      rcases List.mem_cons.1 he' with rfl | h'
      · exact (entErr_ok (Decidable.not_not.1 he)).1
      · exact ih e' h'
theorem persTo_ok (ac : List Acc) : ∀ (ps : List (List Ent)) (now : List Int), (persTo ac ps now).1 = 0 → ∀ q ∈ ps, ∀ e ∈ q, ∀ p ∈ e.posts, 0 ≤ p.acct ∧ p.acct < (ac.length : Int)
  | [], _, _ => by simp
  | q :: r, now, h => by
    simp only [persTo] at h
    by_cases h1 : (entsTo ac q now [0, 0, 0, 0]).1 ≠ 0
    · rw [if_pos h1] at h; exact absurd h h1
    · rw [if_neg h1] at h
      by_cases h2 : (entsTo ac q now [0, 0, 0, 0]).2.2.any (fun v => !fits v) = true
      · rw [if_pos h2] at h; simp at h
      · rw [if_neg h2] at h
        have ih := persTo_ok ac r _ h
        intro q' hq'
        rcases List.mem_cons.1 hq' with rfl | h'
        · exact entsTo_ok ac q' now _ (Decidable.not_not.1 h1)
        · exact ih q' h'
theorem accsOk_mem : ∀ (l : List Acc), accsOk l = true → ∀ a ∈ l, a.name.size ≤ 12 ∧ 0 ≤ a.line ∧ a.line ≤ 3
  | [], _ => by simp
  | b :: r, h => by
    simp only [accsOk, Bool.and_eq_true] at h
    intro a ha
    rcases List.mem_cons.1 ha with rfl | h'
    · have := h.1.1
      unfold accOk at this
      have := of_decide_eq_true this
      omega
    · exact accsOk_mem r h.2 a h'
theorem bnd_accs {h : Hist} (hi : inBounds h = true) : ∀ a ∈ h.accs, a.name.size ≤ 12 ∧ 0 ≤ a.line ∧ a.line ≤ 3 := by
  unfold inBounds at hi
  simp only [Bool.and_eq_true] at hi
  exact accsOk_mem _ hi.1.2
theorem bnd_pers {h : Hist} (hi : inBounds h = true) : ∀ p ∈ h.pers, p.length ≤ 12 ∧ ∀ e ∈ p, e.memo.size ≤ 20 ∧ e.posts.length ≤ 6 := by
  unfold inBounds at hi
  simp only [Bool.and_eq_true] at hi
  intro p hp
  have h1 := List.all_eq_true.1 hi.2 p hp
  unfold perOk at h1
  simp only [Bool.and_eq_true] at h1
  refine ⟨of_decide_eq_true h1.1, fun e he => ?_⟩
  have h2 := List.all_eq_true.1 h1.2 e he
  unfold entOk at h2
  have := of_decide_eq_true h2
  omega
end Sg
theorem fine_of {w : World} {aoA aoP : Option Addr} {nA nP : Nat} {h : Sg.Hist} (b : HistIn w aoA aoP nA nP h) (hi : Sg.inBounds h = true) (hc : Sg.closeErr h = 0) : ∀ p ∈ h.pers, perFine nA p := by
  intro p hp
  obtain ⟨h1, h2⟩ := Sg.bnd_pers hi p hp
  unfold Sg.closeErr at hc
  rw [if_pos hi] at hc
  refine ⟨h1, fun e he => ⟨(h2 e he).1, (h2 e he).2, fun t ht => ?_⟩⟩
  have h3 := Sg.persTo_ok _ _ _ hc p hp e he t ht
  rw [b.lenA] at h3
  exact ⟨h3.1, h3.2, (b.sizQ p hp e he t ht).2⟩

/-- What a world at the head of the loop holds. -/
theorem ClInv.here {w w1 wr : World} {a b : Value} {now : List Int} {vB vT : Value} {bal tot : List (List Int)} {bs ts : List Value} (h : ClInv w w1 wr a b now vB vT bal tot bs ts) : ClAt w wr a b ∧
    (wr.cell? ⟨w1.heap.size, 0, none⟩ = some a ∧ wr.cell? ⟨w1.heap.size, 1, none⟩ = some b ∧ wr.cell? ⟨w1.heap.size, 2, none⟩ = some vB ∧ wr.cell? ⟨w1.heap.size, 3, none⟩ = some vT) := by
  refine ⟨h.cl.next (h.bel.mono h.cl.big), ?_⟩
  simp [World.cell?, h.box]
/-- The four stores into the result's block. -/
def put4 (W : World) (s : Nat) (a b c d : Value) : World := (((W.setCell ⟨s, 0, none⟩ a).setCell ⟨s, 1, none⟩ b).setCell ⟨s, 2, none⟩ c).setCell ⟨s, 3, none⟩ d
theorem put4_grown (W : World) (s : Nat) (a b c d : Value) : W.grownBy (put4 W s a b c d) (some s) :=
  grown_chain (grown_chain (grown_chain (setCell_grown _ _ _ _) (setCell_grown _ _ _ _)) (setCell_grown _ _ _ _)) (setCell_grown _ _ _ _)
theorem put4_below {w W : World} {s n : Nat} (h : Below n w W) (hs : n ≤ s) (a b c d : Value) : Below n w (put4 W s a b c d) :=
  (((h.setCell (p := ⟨s, 0, none⟩) hs _).setCell (p := ⟨s, 1, none⟩) hs _).setCell (p := ⟨s, 2, none⟩) hs _).setCell (p := ⟨s, 3, none⟩) hs _
theorem ClInv.out {w w1 wr : World} {aoA aoP : Option Addr} {nA nP capA capP : Nat} {h : Sg.Hist} {now : List Int} {vB vT : Value} {bal tot : List (List Int)} {bs ts : List Value} (c : ClInv w w1 wr (.slice aoA nA capA) (.slice aoP nP capP) now vB vT bal tot bs ts)
    (b : HistIn w aoA aoP nA nP h) (hi : Sg.inBounds h = true) (hs : ClSpec h nA nP now bal tot) (f8 : nA ≤ 8) (f6 : nP ≤ 6) (x y z u : Value) :
    Sg.closeErr h = 0 ∧ ∃ aoB aoT capB capT, vB = .slice aoB nP capB ∧ vT = .slice aoT nP capT ∧ BksAt (put4 wr (w.heap.size + 1) x y z u) aoA aoP aoB aoT nA nP h (Sg.balances h) (Sg.totals h) ∧ Below w.heap.size w (put4 wr (w.heap.size + 1) x y z u) := by
  have hs' := hs
  rw [← b.lenP] at hs'
  obtain ⟨e1, e2, e3⟩ := hs'.done hi
  have hblk : wr.heap[w.heap.size + 1]? = some (.cells #[nilV, nilV, nilV, nilV] 39 (0, 0)) := by
    rw [(c.cl.next (c.bel.mono c.cl.big)).bel.block _ (by omega)]
    unfold clBox
    have := heap_alloc_new (w.alloc (.cells #[.slice aoA nA capA, .slice aoP nP capP] 36)) (.cells #[nilV, nilV, nilV, nilV] 39)
    simpa using this
  have hg := put4_grown wr (w.heap.size + 1) x y z u
  have hB := c.rowB.other hg hblk (by decide) (by decide)
  have hT := c.rowT.other hg hblk (by decide) (by decide)
  have hbel := put4_below (c.here.1.below) (s := w.heap.size + 1) (by omega) x y z u
  obtain ⟨aoB, capB, hvB, hinB⟩ := hB.in_
  obtain ⟨aoT, capT, hvT, hinT⟩ := hT.in_
  have bh := b.below hbel
  rw [hs.lenB] at hvB
  rw [hs.lenT] at hvT
  refine ⟨e1, aoB, aoT, capB, capT, hvB, hvT, ?_, hbel⟩
  rw [e2, e3]
  exact ⟨bh.accs, bh.pers, hinB, hinT, b.lenA, b.lenP, hs.lenB, hs.lenT, ⟨f8, f6⟩, Sg.bnd_accs hi, fine_of b hi e1, hs.fineB, hs.fineT⟩

theorem grown_past {w w1 w2 : World} {g : Option Nat} {t : Nat} (h : w.grownBy w1 g) (k : w1.grownBy w2 (some t)) (ht : w.heap.size ≤ t) : w.grownBy w2 g :=
  ⟨k.os.trans h.os, k.tape.trans h.tape, k.output.trans h.output, Nat.le_trans h.size k.size, fun i hi hne => (k.block i (Nat.lt_of_lt_of_le hi h.size) (by simp; omega)).trans (h.block i hi hne)⟩
theorem grown_none {w w1 w2 : World} {g : Option Nat} (h : w.grownBy w1 none) (k : w1.grownBy w2 g) : w.grownBy w2 g :=
  ⟨k.os.trans h.os, k.tape.trans h.tape, k.output.trans h.output, Nat.le_trans h.size k.size, fun i hi hne => (k.block i (Nat.lt_of_lt_of_le hi h.size) hne).trans (h.block i hi (by simp))⟩
/-- While balances are written, and what is behind. -/
theorem ClInv.at_ {w w1 wz wr : World} {a b : Value} {now : List Int} {vB vT : Value} {bal tot : List (List Int)} {bs ts : List Value} (h : ClInv w w1 wz a b now vB vT bal tot bs ts) (hg : wz.grownBy wr (some (w1.heap.size + 1))) : ClAt w wr a b :=
  h.cl.next ((h.bel.grown hg h.bel.size (fun k hk => by simp at hk; omega)).mono h.cl.big)

/-- Numbers that are being gathered. -/
def OwnInts (w : World) (base : Nat) (v : Value) (l : List Int) : Prop := w.ownsRow base 3 1 v l.length (l.map (Value.int .i64))
theorem OwnInts.below {w w' : World} {base : Nat} {v : Value} {l : List Int} (h : OwnInts w base v l) (hb : Below w.heap.size w w') : OwnInts w' base v l := ownsRow_below h hb
theorem OwnInts.row {w : World} {base : Nat} {v : Value} {l : List Int} (h : OwnInts w base v l) : RowI w v l := ownsRow_base h (Nat.zero_le _)
theorem OwnInts.push {w : World} {base : Nat} {v : Value} {l : List Int} {x : Int} (h : w.ownsRow base 3 1 v (l.length + 1) (l.map (Value.int .i64) ++ [.int .i64 x])) : OwnInts w base v (l ++ [x]) := by
  unfold OwnInts
  simpa using h
theorem fits_any {l : List Int} (h : ∀ j (hj : j < l.length), Sg.fits l[j] = true) : ∀ v ∈ l, Sg.fits v = true := fun v hv => by
  obtain ⟨j, hj, rfl⟩ := List.getElem_of_mem hv
  exact h j hj

theorem RowI.not {w : World} {base n : Nat} {v u : Value} {l : List Int} {xs : List Value} (h : RowI w u l) (hv : w.ownsRow base 86 1 v n xs) : u.ownBlock = none ∨ u.ownBlock ≠ v.ownBlock := rows_apart h hv (by decide)
/-- One list more is put into a row of lists, beside another row. -/
theorem rows_push {W w6 : World} {base g cap k : Nat} {v v2 u : Value} {ll ll2 : List (List Int)} {l : List Int} {vs vs2 : List Value} {o : Obj} (hrow : RowS W base v ll vs) (hoth : RowS W base v2 ll2 vs2) (hap : v2.ownBlock = none ∨ v2.ownBlock ≠ v.ownBlock) (hu : RowI W u l)
    (hown : w6.ownsRow base 86 1 (.slice (some ⟨g, 0, none⟩) (k + 1) cap) (k + 1) (vs ++ [u])) (hk : ll.length = k) (hgrow : (W.alloc o).grownBy w6 v.ownBlock) (hat : v.ownBlock = some g ∨ g = W.heap.size + 1) :
    RowS w6 base (.slice (some ⟨g, 0, none⟩) (k + 1) cap) (ll ++ [l]) (vs ++ [u]) ∧ RowS w6 base v2 ll2 vs2 ∧ (v2.ownBlock = none ∨ v2.ownBlock ≠ some g) ∧ ∀ x y, RowI W x y → RowI w6 x y := by
  have hb : Below W.heap.size W (W.alloc o) := (Below.refl _ _).alloc (Nat.le_refl _) _
  have key : ∀ x y, RowI W x y → RowI w6 x y := fun x y hx => (hx.below hb).kept hgrow (hx.not hrow.2.1)
  refine ⟨⟨by simp [hrow.1], by rw [List.length_append, hk]; exact hown, fun i hi => ?_⟩, ⟨hoth.1, (ownsRow_below hoth.2.1 hb).kept hgrow hap, fun i hi => ?_⟩, ?_, key⟩
  · by_cases h1 : i < ll.length
    · obtain ⟨x, hx, hr⟩ := hrow.2.2 i h1
      refine ⟨x, ?_, ?_⟩
      · rw [List.getElem?_append_left (by rw [hrow.1]; exact h1)]; exact hx
      · rw [List.getElem_append_left h1]; exact key _ _ hr
    · have h2 : i = ll.length := by simp at hi; omega
      subst h2
      refine ⟨u, ?_, ?_⟩
      · rw [List.getElem?_append_right (by rw [hrow.1]; exact Nat.le_refl _)]; simp [hrow.1]
      · rw [List.getElem_append_right (Nat.le_refl _)]; simp; exact key _ _ hu
  · obtain ⟨x, hx, hr⟩ := hoth.2.2 i hi
    exact ⟨x, hx, key _ _ hr⟩
  · rcases hap with h | h
    · exact Or.inl h
    · rcases hat with e | e
      · right; rw [← e]; exact h
      · cases hv : v2.ownBlock with
        | none => exact Or.inl rfl
        | some b2 =>
          right
          have := (hoth.2.1.lt b2 hv).2
          simp only [ne_eq, Option.some.injEq]
          omega
theorem ClInv.onto {w w1 wz wv : World} {a b : Value} {now now' : List Int} {vB vT : Value} {bal tot : List (List Int)} {bs ts : List Value} (h : ClInv w w1 wz a b now vB vT bal tot bs ts) (hg : wz.grownBy wv (some (w1.heap.size + 1))) (hn : Wides wv (w1.heap.size + 1) now') : ClInv w w1 wv a b now' vB vT bal tot bs ts :=
  ⟨h.cl, h.bel.grown hg h.bel.size (fun k hk => by simp at hk; omega), (hg.block _ (by have := h.big; omega) (by simp)).trans h.box, hn, Nat.le_trans h.big hg.size, h.rowB.other hg h.now_ (by decide) (by decide), h.rowT.other hg h.now_ (by decide) (by decide), h.apart, h.apart'⟩
theorem ClInv.pushT {w w1 wv w6 : World} {a b : Value} {now tt : List Int} {vB vT vt : Value} {bal tot : List (List Int)} {bs ts : List Value} {k g cap : Nat} {o : Obj} (h : ClInv w w1 wv a b now vB vT bal tot bs ts) (hu : RowI wv vt tt)
    (hown : w6.ownsRow (w1.heap.size + 2) 86 1 (.slice (some ⟨g, 0, none⟩) (k + 1) cap) (k + 1) (ts ++ [vt])) (hk : tot.length = k) (hgrow : (wv.alloc o).grownBy w6 vT.ownBlock) (hat : vT.ownBlock = some g ∨ g = wv.heap.size + 1) :
    ClInv w w1 (w6.setCell ⟨w1.heap.size, 3, none⟩ (.slice (some ⟨g, 0, none⟩) (k + 1) cap)) a b now vB (.slice (some ⟨g, 0, none⟩) (k + 1) cap) bal (tot ++ [tt]) bs (ts ++ [vt]) ∧ ∀ x y, RowI wv x y → RowI (w6.setCell ⟨w1.heap.size, 3, none⟩ (.slice (some ⟨g, 0, none⟩) (k + 1) cap)) x y := by
  obtain ⟨r1, r2, r3, r4⟩ := rows_push h.rowT h.rowB h.apart hu hown hk hgrow hat
  have hbig := h.big
  have hsz : wv.heap.size + 1 ≤ w6.heap.size := by have := hgrow.size; simpa using this
  have hblk : ∀ i, i < w1.heap.size + 2 → w6.heap[i]? = wv.heap[i]? := fun i hi => by
    rw [hgrow.block i (by simp; omega) (fun e => by have := (h.rowT.2.1.lt i e.symm).1; omega)]
    exact Below.heap_alloc wv o i (by omega)
  have hbox : w6.heap[w1.heap.size]? = some (.cells #[a, b, vB, vT] 39 (0, 0)) := (hblk _ (by omega)).trans h.box
  have hg := setCell_grown w6 w1.heap.size 3 (.slice (some ⟨g, 0, none⟩) (k + 1) cap)
  have hb6 : Below w1.heap.size w1 w6 := (h.bel.alloc h.bel.size o).grown hgrow (by simp; omega) (fun j hj => by have := (h.rowT.2.1.lt j hj).1; omega)
  refine ⟨⟨h.cl, hb6.setCell (p := ⟨w1.heap.size, 3, none⟩) (Nat.le_refl _) _, ?_, ?_, by have := hg.size; omega, r2.other hg hbox (by decide) (by decide), r1.other hg hbox (by decide) (by decide), r3, ?_⟩, fun x y hx => ?_⟩
  · rw [heap_setCell_same w6 w1.heap.size 3 _ _ _ hbox]; rfl
  · exact (h.now_.block (hblk _ (by omega))).block (hg.block _ (by omega) (by simp))
  · rcases r3 with e | e
    · right; rw [e]; simp [Value.ownBlock]
    · right; exact fun e' => e e'.symm
  · have hx6 := r4 x y hx
    refine hx6.kept hg ?_
    rcases hx6.2 with ⟨rfl, _⟩ | ⟨g1, c1, cur1, rfl, _, hh1, _⟩
    · exact Or.inl rfl
    · right
      simp only [Value.ownBlock, ne_eq, Option.some.injEq]
      rintro rfl
      rw [hbox] at hh1
      simp at hh1
theorem ClInv.pushB {w w1 wv w6 : World} {a b : Value} {now tt : List Int} {vB vT vt : Value} {bal tot : List (List Int)} {bs ts : List Value} {k g cap : Nat} {o : Obj} (h : ClInv w w1 wv a b now vB vT bal tot bs ts) (hu : RowI wv vt tt)
    (hown : w6.ownsRow (w1.heap.size + 2) 86 1 (.slice (some ⟨g, 0, none⟩) (k + 1) cap) (k + 1) (bs ++ [vt])) (hk : bal.length = k) (hgrow : (wv.alloc o).grownBy w6 vB.ownBlock) (hat : vB.ownBlock = some g ∨ g = wv.heap.size + 1) :
    ClInv w w1 (w6.setCell ⟨w1.heap.size, 2, none⟩ (.slice (some ⟨g, 0, none⟩) (k + 1) cap)) a b now (.slice (some ⟨g, 0, none⟩) (k + 1) cap) vT (bal ++ [tt]) tot (bs ++ [vt]) ts := by
  obtain ⟨r1, r2, r3, r4⟩ := rows_push h.rowB h.rowT h.apart' hu hown hk hgrow hat
  have hbig := h.big
  have hsz : wv.heap.size + 1 ≤ w6.heap.size := by have := hgrow.size; simpa using this
  have hblk : ∀ i, i < w1.heap.size + 2 → w6.heap[i]? = wv.heap[i]? := fun i hi => by
    rw [hgrow.block i (by simp; omega) (fun e => by have := (h.rowB.2.1.lt i e.symm).1; omega)]
    exact Below.heap_alloc wv o i (by omega)
  have hbox : w6.heap[w1.heap.size]? = some (.cells #[a, b, vB, vT] 39 (0, 0)) := (hblk _ (by omega)).trans h.box
  have hg := setCell_grown w6 w1.heap.size 2 (.slice (some ⟨g, 0, none⟩) (k + 1) cap)
  have hb6 : Below w1.heap.size w1 w6 := (h.bel.alloc h.bel.size o).grown hgrow (by simp; omega) (fun j hj => by have := (h.rowB.2.1.lt j hj).1; omega)
  refine ⟨h.cl, hb6.setCell (p := ⟨w1.heap.size, 2, none⟩) (Nat.le_refl _) _, ?_, ?_, by have := hg.size; omega, r1.other hg hbox (by decide) (by decide), r2.other hg hbox (by decide) (by decide), ?_, r3⟩
  · rw [heap_setCell_same w6 w1.heap.size 2 _ _ _ hbox]; rfl
  · exact (h.now_.block (hblk _ (by omega))).block (hg.block _ (by omega) (by simp))
  · rcases r3 with e | e
    · right; rw [e]; simp [Value.ownBlock]
    · right; exact fun e' => e e'.symm

theorem new_at {W : World} {n : Nat} {v : Value} {t : TypeId} (h : W.heap.size = n) : (W.alloc (.cells #[v] t)).cell? ⟨n, 0, none⟩ = some v := by subst h; simp
/-- What the region around the call of enters holds. -/
def Four (w' : World) (N bE oE : Nat) (a b c d : Value) : Prop := w'.cell? ⟨N, 0, none⟩ = some a ∧ w'.cell? ⟨N, 1, none⟩ = some b ∧ w'.cell? ⟨bE, oE, none⟩ = some c ∧ w'.cell? ⟨bE, oE + 1, none⟩ = some d
theorem four_grown {W W' : World} {N bE oE g : Nat} {a b c d : Value} (h : W.cell? ⟨N, 0, none⟩ = some a ∧ W.cell? ⟨N, 1, none⟩ = some b ∧ W.cell? ⟨bE, oE, none⟩ = some c ∧ W.cell? ⟨bE, oE + 1, none⟩ = some d) (hg : W.grownBy W' (some g)) (h1 : N ≠ g) (h2 : bE ≠ g) :
    W'.cell? ⟨N, 0, none⟩ = some a ∧ W'.cell? ⟨N, 1, none⟩ = some b ∧ W'.cell? ⟨bE, oE, none⟩ = some c ∧ W'.cell? ⟨bE, oE + 1, none⟩ = some d :=
  ⟨hg.cell h.1 (by simpa using h1), hg.cell h.2.1 (by simpa using h1), hg.cell h.2.2.1 (by simpa using h2), hg.cell h.2.2.2 (by simpa using h2)⟩
theorem near_tame {c : Nat} {v : Int} (h : Sg.Near c v) (hc : c ≤ 100) : Tame v := by
  have := h.mono (d := 100) hc
  unfold Sg.Near at this
  unfold Tame
  omega
/-- One posting comes to the totals, beside a row that stays. -/
theorem wides_aside {wr w6 : World} {g g' : Nat} {l : List Int} (h : Wides wr g l) (hg : wr.grownBy w6 (some g')) (hne : g ≠ g') : Wides w6 g l := h.block (hg.block _ h.lt (by simpa using hne))
set_option maxHeartbeats 12800000 in
theorem close_good (h : Sg.Hist) (aoA aoP : Option Addr) (nA nP capA capP : Nat) (w : World) (hH : HistIn w aoA aoP nA nP h) (hb : Sg.inBounds h = true) :
    Calls Tryz.prog 21 #[.agg #[.slice aoA nA capA, .slice aoP nP capP]] w fun e w' =>
      (Sg.closeErr h ≠ 0 ∧ e = .returned (.tuple #[.agg #[nilV, nilV, nilV, nilV], .int .i64 (Sg.closeErr h)]) ∧ Below w.heap.size w w') ∨
      (Sg.closeErr h = 0 ∧ ∃ aoB aoT capB capT, e = .returned (.tuple #[.agg #[.slice aoA nA capA, .slice aoP nP capP, .slice aoB nP capB, .slice aoT nP capT], .int .i64 0]) ∧ BksAt w' aoA aoP aoB aoT nA nP h (Sg.balances h) (Sg.totals h) ∧ Below w.heap.size w w') := by
  obtain ⟨k0, ki, kz0, kz1, kz2⟩ := info_parts Tryz.infoWide
  obtain ⟨n0, ni, nz0, nz1, nz2⟩ := info_parts Tryz.infoInt
  obtain ⟨m0, mi, mz0, mz1, mz2⟩ := info_parts Tryz.infoInts
  have HI : Hid (Sg.inBounds h = true) := hb
  have HH0 : Hid (HistIn w aoA aoP nA nP h) := hH
  have HH : Hid (HistIn (clBox w (.slice aoA nA capA) (.slice aoP nP capP)) aoA aoP nA nP h) := hH.below (clBox_below _ _ _)
  have hsmall : nA ≤ 8 ∧ nP ≤ 6 ∧ 1 ≤ nA ∧ 1 ≤ nP := by
    have h1 := hH.lenA
    have h2 := hH.lenP
    unfold Sg.inBounds at hb
    simp only [Bool.and_eq_true, decide_eq_true_eq] at hb
    omega
  obtain ⟨f8, f6, f1, f1'⟩ := hsmall
  clear hH hb
  go_enter Tryz.func21, Tryz.ntmps21
  go_wp2_with fail
  refine (bounds_any capA capP HH.out).mono ?_
  rintro e w1 ⟨rfl, hb1⟩
  rw [HI.out]
  have hs1 := hb1.size
  rw [clBox_size] at hb1 hs1
  have HC : ClAt w w1 (.slice aoA nA capA) (.slice aoP nP capP) := ⟨hb1, hs1⟩
  obtain ⟨x0, x1⟩ := HC.box
  have hN0 : w.heap.size < w1.heap.size := by omega
  have hN1 : w.heap.size + 1 < w1.heap.size := by omega
  clear hb1
  go_wp2_with (first | (refine wpList_make_full _ rfl _ _ 95 rfl (w1.heap.size + 1) 98 k0 (.agg #[.int .i64 0, .int .i64 0]) 2 Tryz.underlying95 ki kz0 kz1 .i64 .i64 _ _ nA rfl rfl ?a1 ?a2 ?a3 ?a4 ?a5 ?_))
  case a1 => omega
  case a2 => omega
  case a3 => rw [kz2]; omega
  case a4 => unfold maxLen; omega
  case a5 => simp
  intro w2 hown hgrow
  have HCI : ClInv w w1 w2 (.slice aoA nA capA) (.slice aoP nP capP) (List.replicate nA 0) nilV nilV [] [] [] [] :=
    ClInv.start HC hown hgrow
  have HCS : ClSpec h nA 0 (List.replicate nA 0) [] [] := ClSpec.start HH0.out.lenA
  clear hown hgrow HH
  go_wp2_with fail
  go_loopw [7] (fun i wr => ∃ k : Nat, k ≤ nP ∧ i = .int .i64 (k : Int) ∧ ∃ now vB vT bal tot bs ts, Hid (ClInv w w1 wr (.slice aoA nA capA) (.slice aoP nP capP) now vB vT bal tot bs ts) ∧ Hid (ClSpec h nA k now bal tot)) (fun i _ => nP - (intOf i).toNat)
  case atStart => exact ⟨0, by omega, rfl, _, _, _, _, _, _, _, HCI, HCS⟩
  case round =>
    obtain ⟨k, hk, rfl, now, vB, vT, bal, tot, bs, ts, HV, HS⟩ := hrel
    obtain ⟨hCA, b0, b1, b2, b3⟩ := HV.out.here
    obtain ⟨y0, y1⟩ := hCA.box
    obtain ⟨⟨r0, r1, r2, r3⟩, z0, z1, z2, z3⟩ := hCA.res
    have hM := HV.out.big
    have hN0x : w.heap.size < wr.heap.size := by omega
    have hN1x : w.heap.size + 1 < wr.heap.size := by omega
    by_cases hlt : k < nP
    · have hka : k < h.pers.length := by rw [HH0.out.lenP]; exact hlt
      obtain ⟨bP, offP, eP, hbP, aoE, capE, hcE, hE⟩ := HH0.out.pers.cell (k := k) hka
      subst eP
      have hcE' := (hCA.below.cell (p := ⟨bP, offP + k, none⟩) hbP).trans hcE
      obtain ⟨g1, g2⟩ := Sg.bnd_pers HI.out h.pers[k] (List.getElem_mem _)
      have HG2 : Hid (∀ e ∈ h.pers[k], e.memo.size ≤ 20 ∧ e.posts.length ≤ 6) := g2
      have HQ : Hid (∀ e ∈ h.pers[k], ∀ t ∈ e.posts, Sg.fits t.acct = true ∧ Sg.fits t.amt = true) := HH0.out.sizQ _ (List.getElem_mem _)
      have HBad : Hid ((Sg.entsTo h.accs h.pers[k] now [0, 0, 0, 0]).1 ≠ 0 → Sg.closeErr h = (Sg.entsTo h.accs h.pers[k] now [0, 0, 0, 0]).1) := HS.out.bad hka HI.out
      have HOver : Hid (∀ now' tt, Sg.entsTo h.accs h.pers[k] now [0, 0, 0, 0] = (0, now', tt) → tt.any (fun v => !Sg.fits v) = true → Sg.closeErr h = 4) := fun now' tt e1 e2 => HS.out.over hka HI.out e1 e2
      have HNext : Hid (∀ now' tt, Sg.entsTo h.accs h.pers[k] now [0, 0, 0, 0] = (0, now', tt) → (∀ v ∈ tt, Sg.fits v = true) → now'.length = nA → (∀ v ∈ now', Sg.fits v = true) → tt.length = 4 → ClSpec h nA (k + 1) now' (bal ++ [now']) (tot ++ [tt])) := fun now' tt e1 e2 e3 e4 e5 => HS.out.next hka e1 e2 e3 e4 e5
      have HEn0 : Hid (EnSpec h.accs nA 0 h.pers[k] now now [0, 0, 0, 0]) := EnSpec.start HS.out.lenN HS.out.fitN
      have HLT : Hid (bal.length = k ∧ tot.length = k) := ⟨HS.out.lenB, HS.out.lenT⟩
      obtain ⟨ne, hne⟩ : ∃ ne, h.pers[k].length = ne := ⟨_, rfl⟩
      rw [hne] at hcE' hcE g1
      have HNE : Hid (h.pers[k].length = ne) := hne
      generalize h.pers[k] = es at *
      clear hne g2
      have i1 : (0 : Int) ≤ (k : Int) := by omega
      have i2 : (k : Int) < (nP : Int) := by omega
      obtain ⟨wz, ewz⟩ : ∃ z : World, z = wr := ⟨_, rfl⟩
      subst ewz
      go_wp2_with (first | (refine wpList_make_full _ rfl _ _ 95 rfl wz.heap.size 98 k0 (.agg #[.int .i64 0, .int .i64 0]) 2 Tryz.underlying95 ki kz0 kz1 .i64 .i64 _ _ 4 rfl rfl ?a1 ?a2 ?a3 ?a4 ?a5 ?_))
      case a1 => omega
      case a2 => omega
      case a3 => rw [kz2]; omega
      case a4 => unfold maxLen; omega
      case a5 => simp
      intro w3 hown3 hgrow3
      have HW3 : Hid (Wides w3 wz.heap.size [0, 0, 0, 0]) := made_row hown3
      have HN3 : Hid (Wides w3 (w1.heap.size + 1) now) := HV.out.now_.block (hgrow3.block _ (by omega) (by simp))
      have HG3 : Hid (wz.grownBy w3 (some (w1.heap.size + 1))) := grown_none hgrow3 (World.grownBy.refl _ _)
      clear hown3 hgrow3
      go_wp2_with fail
      go_loopw [10] (fun i wr => ∃ j : Nat, j ≤ ne ∧ i = .int .i64 (j : Int) ∧ ∃ now' tt, Hid (Wides wr (w1.heap.size + 1) now') ∧ Hid (Wides wr wz.heap.size tt) ∧ Hid (EnSpec h.accs nA j es now now' tt) ∧ Hid (wz.grownBy wr (some (w1.heap.size + 1)))) (fun i _ => ne - (intOf i).toNat)
      case atStart => exact ⟨0, by omega, rfl, _, _, HN3, HW3, HEn0, HG3⟩
      case round =>
        obtain ⟨j, hj, rfl, now', tt, HN, HT, HEn, HG⟩ := hrel
        have hCB := HV.out.at_ HG.out
        obtain ⟨q0, q1⟩ := hCB.box
        obtain ⟨⟨s0, s1, s2, s3⟩, fz0, fz1, fz2, fz3⟩ := hCB.res
        have hgz := HG.out.size
        have hM0 : w.heap.size < wr.heap.size := by omega
        have hM1 : w.heap.size + 1 < wr.heap.size := by omega
        by_cases hjl : j < ne
        · have hja : j < es.length := by rw [HNE.out]; exact hjl
          obtain ⟨bE, offE, eE, hbE, hm, aoQ, capQ, hcQ, hPs⟩ := hE.cell (k := j) hja
          subst eE
          obtain ⟨g2, g3⟩ := HG2.out es[j] (List.getElem_mem _)
          have HOK : Hid (∀ t ∈ es[j].posts, Sg.fits t.acct = true ∧ Sg.fits t.amt = true) := HQ.out _ (List.getElem_mem _)
          have HBe : Hid (Sg.entErr nA es[j] now' ≠ 0 → Sg.closeErr h = Sg.entErr nA es[j] now') := fun e => by
            have e1 := HEn.out.bad HH0.out.lenA hja e
            rw [HBad.out (by rw [e1]; exact e), e1]
          have HNx : Hid (Sg.entErr nA es[j] now' = 0 → EnSpec h.accs nA (j + 1) es now (Sg.comesAll es[j].posts now') (Sg.linesAll h.accs es[j].posts tt)) := fun e => HEn.out.next HH0.out.lenA hja e (fun a ha => (Sg.bnd_accs HI.out a ha).2) (fun p hp => (HOK.out p hp).2) g3
          have HNr : Hid (∀ v ∈ tt, Sg.Near (6 * j) v) := HEn.out.near
          have HAc : Hid (Sg.entErr nA es[j] now' = 0 → ∀ p ∈ es[j].posts, 0 ≤ p.acct ∧ p.acct < (nA : Int)) := fun e => (Sg.entErr_ok e).1
          have HLn : Hid (now'.length = nA ∧ (∀ v ∈ now', Sg.fits v = true) ∧ tt.length = 4) := ⟨HEn.out.lenN, HEn.out.fitN, HEn.out.lenT⟩
          obtain ⟨mm, pp, hmp⟩ : ∃ mm pp, es[j] = ⟨mm, pp⟩ := ⟨_, _, rfl⟩
          rw [hmp] at hm hcQ hPs g2 g3 HOK HBe HNx HAc
          simp only at hm hcQ hPs g2 g3 HOK HBe HNx HAc
          obtain ⟨np, hnp⟩ : ∃ np, pp.length = np := ⟨_, rfl⟩
          rw [hnp] at hcQ g3
          have HNP : Hid (pp.length = np) := hnp
          have hm' := (hCB.below.cell (p := ⟨bE, offE + j * 2, none⟩) hbE).trans hm
          have hcQ' := (hCB.below.cell (p := ⟨bE, offE + j * 2 + 1, none⟩) hbE).trans hcQ
          have i3 : (0 : Int) ≤ (j : Int) := by omega
          have i4 : (j : Int) < (ne : Int) := by omega
          clear hmp hnp y0 y1 r0 r1 r2 r3 z0 z1 z2 z3 s0 s1 s2 s3 fz0 fz1 fz2 fz3 HEn
          have hgd : wr.grownBy wr.drew (some (w1.heap.size + 1)) := below_grown (Below.refl _ _).drew
          have h4 := (⟨q0, q1, hm', hcQ'⟩ : _ ∧ _ ∧ _ ∧ _)
          have h4d := four_grown h4 hgd (by omega) (by omega)
          go_wp2_with fail
          go_region_held3 (fun w' => w'.cell? ⟨w.heap.size, 0, none⟩ = some (.slice aoA nA capA) ∧ w'.cell? ⟨w.heap.size, 1, none⟩ = some (.slice (some ⟨bP, offP, none⟩) nP capP) ∧ w'.cell? ⟨bE, offE + j * 2, none⟩ = some (.string mm) ∧ w'.cell? ⟨bE, offE + j * 2 + 1, none⟩ = some (.slice aoQ np capQ))
            (first | assumption)
            (first
              | (go_at_call 41; refine (enters_any mm pp now' aoA (some ⟨bP, offP, none⟩) aoQ nA capA nP capP np capQ (w1.heap.size + 1) w _ hCB.below.drew (by omega) HNP.out g3 HLn.out.1 f8 hPs HOK.out HLn.out.2.1 HN.out).mono ?_; rintro e w5 ⟨rfl, hg5, hw5⟩; have hg5' := grown_chain hgd hg5; have h45 := four_grown h4 hg5' (by omega) (by omega); generalize hee : Sg.entErr nA ⟨mm, pp⟩ now' = ee at *))
          have HW5 : Hid (ee = 0 → Wides w5 (w1.heap.size + 1) (Sg.comesAll pp now')) := hw5
          have hgz5 := grown_chain HG.out hg5'
          have HGZ : Hid (wz.grownBy w5 (some (w1.heap.size + 1))) := hgz5
          have hlT := HT.out.lt
          have HT5 : Hid (Wides w5 wz.heap.size tt) := wides_aside HT.out hg5' (by omega)
          have hC5 := HV.out.at_ hgz5
          obtain ⟨⟨s0, s1, s2, s3⟩, fz0, fz1, fz2, fz3⟩ := hC5.res
          have hz5 := hgz5.size
          have hM5 : w.heap.size + 1 < w5.heap.size := by omega
          clear hw5 hg5 hg5' hgz5 h4 h4d hgd hee
          by_cases hz : ee = 0
          · have HNx' : Hid (EnSpec h.accs nA (j + 1) es now (Sg.comesAll pp now') (Sg.linesAll h.accs pp tt)) := HNx.out hz
            have HWn : Hid (Wides w5 (w1.heap.size + 1) (Sg.comesAll pp now')) := HW5.out hz
            have HAcc : Hid (∀ p ∈ pp, 0 ≤ p.acct ∧ p.acct < (nA : Int)) := HAc.out hz
            subst hz
            obtain ⟨v0, v1, v2, v3⟩ := h45
            clear HNx HAc HBe HW5 s0 s1 s2 s3 fz0 fz1 fz2 fz3
            go_wp2_with fail
            go_loopw [12] (fun i wr => ∃ q : Nat, q ≤ np ∧ i = .int .i64 (q : Int) ∧ Hid (Wides wr wz.heap.size (Sg.linesTo h.accs pp tt q)) ∧ Hid (w5.grownBy wr (some wz.heap.size))) (fun i _ => np - (intOf i).toNat)
            case atStart => exact ⟨0, by omega, rfl, HT5.out, World.grownBy.refl _ _⟩
            case round =>
              obtain ⟨q, hq, rfl, HW, HGR⟩ := hrel
              have hzq := HGR.out.size
              obtain ⟨x0', x1', x2', x3'⟩ := four_grown ⟨v0, v1, v2, v3⟩ HGR.out (by omega) (by omega)
              have hNq : w.heap.size < wr.heap.size := by omega
              have hEq : bE < wr.heap.size := by omega
              by_cases hlq : q < np
              · have hqa : q < pp.length := by rw [HNP.out]; exact hlq
                have hbq : Below w.heap.size w wr := hC5.below.grown HGR.out hC5.below.size (fun k hk => by simp at hk; omega)
                obtain ⟨bQ, offQ, eQ, hbQ, hp0, hp1⟩ := hPs.cell (k := q) hqa
                subst eQ
                have hp0' := (hbq.cell (p := ⟨bQ, offQ + q * 2, none⟩) hbQ).trans hp0
                have hp1' := (hbq.cell (p := ⟨bQ, offQ + q * 2 + 1, none⟩) hbQ).trans hp1
                obtain ⟨_, hfm⟩ := HOK.out pp[q] (List.getElem_mem _)
                obtain ⟨ha0, ha1⟩ := HAcc.out pp[q] (List.getElem_mem _)
                have HSu : Hid (Sg.linesTo h.accs pp tt (q + 1) = Sg.comes (Sg.linesTo h.accs pp tt q) (Sg.lineOf h.accs pp[q].acct).toNat pp[q].amt) := Sg.linesTo_succ h.accs pp tt q hqa
                have hllen : (Sg.linesTo h.accs pp tt q).length = 4 := by rw [Sg.linesTo_length h.accs pp tt q (by omega)]; exact HLn.out.2.2
                have hnear : ∀ v ∈ Sg.linesTo h.accs pp tt q, Tame v := fun v hv => near_tame (Sg.linesTo_near h.accs pp tt (6 * j) HNr.out (fun p hp => (HOK.out p hp).2) HLn.out.2.2 (fun p hp => Sg.lineOf_fine HH0.out.lenA (fun a ha => (Sg.bnd_accs HI.out a ha).2) (HAcc.out p hp).1 (HAcc.out p hp).2) q (by omega) v hv) (by omega)
                have hfm' : -9223372036854775808 ≤ pp[q].amt ∧ pp[q].amt ≤ 9223372036854775807 := of_decide_eq_true hfm
                generalize pp[q].acct = ac at *
                generalize pp[q].amt = m at *
                obtain ⟨ai, rfl⟩ := Int.eq_ofNat_of_zero_le ha0
                have haa : ai < h.accs.length := by rw [HH0.out.lenA]; omega
                obtain ⟨bA, offA, eA, hbA, _, hln⟩ := HH0.out.accs.cell (k := ai) haa
                have hln' := (hbq.cell (p := ⟨bA, offA + ai * 2 + 1, none⟩) hbA).trans hln
                obtain ⟨hl0, hl1⟩ := (Sg.bnd_accs HI.out h.accs[ai] (List.getElem_mem _)).2
                rw [Sg.lineOf_get haa] at HSu
                generalize h.accs[ai].line = ln at *
                obtain ⟨li, rfl⟩ := Int.eq_ofNat_of_zero_le hl0
                rw [Int.toNat_natCast] at HSu
                generalize Sg.linesTo h.accs pp tt q = l at *
                have hli : li < l.length := by omega
                have hT : Tame (l.getD li 0) := hnear _ (by rw [List.getD_eq_getElem?_getD, List.getElem?_eq_getElem hli]; simp)
                have HWl : Hid (Wides wr wz.heap.size l) := HW
                have d0 := HWl.out.hi hli
                have d1 := HWl.out.lo hli
                have d2 := HWl.out.free (li * 2)
                have d3 := HWl.out.free (li * 2 + 1)
                have hgx := HWl.out.lt
                obtain ⟨v, hv⟩ : ∃ v, v = l.getD li 0 := ⟨_, rfl⟩
                rw [← hv] at hT d0 d1
                have HVv : Hid (v = l.getD li 0) := hv
                have i5 : (0 : Int) ≤ (ai : Int) := by omega
                have i6 : (ai : Int) < (nA : Int) := by omega
                have i7 : (0 : Int) ≤ (q : Int) := by omega
                have i8 : (q : Int) < (np : Int) := by omega
                have i9 : (0 : Int) ≤ (li : Int) := by omega
                have i10 : (li : Int) < ((4 : Nat) : Int) := by omega
                have hQq : bQ < wr.heap.size := by omega
                have hAq : bA < wr.heap.size := by omega
                subst eA
                clear hv hnear hfm HW hbq hp0 hp1 hln ha0 ha1 hl0
                go_wp2_with fail
                go_region_with (first | (go_at_call 42; refine (wideAdd_any v m _ hT hfm').mono ?_; rintro e w6 ⟨rfl, hb6⟩; have c0 : w6.cell? ⟨wz.heap.size, li * 2, none⟩ = some (.int .i64 (wHi v)) := (hb6.cell (p := ⟨wz.heap.size, li * 2, none⟩) (by simp; omega)).trans (past_alloc_cell d0); have c1 : w6.cell? ⟨wz.heap.size, li * 2 + 1, none⟩ = some (.int .i64 (wLo v)) := (hb6.cell (p := ⟨wz.heap.size, li * 2 + 1, none⟩) (by simp; omega)).trans (past_alloc_cell d1); have c2 : w6.frozen? ⟨wz.heap.size, li * 2, none⟩ = false := (hb6.frozen (p := ⟨wz.heap.size, li * 2, none⟩) (by simp; omega)).trans ((World.frozen?_alloc_past _ _ _ hgx).trans d2); have c3 : w6.frozen? ⟨wz.heap.size, li * 2 + 1, none⟩ = false := (hb6.frozen (p := ⟨wz.heap.size, li * 2 + 1, none⟩) (by simp; omega)).trans ((World.frozen?_alloc_past _ _ _ hgx).trans d3)))
                all_goals
                  have hst := wides_step (v := v) (m := m) HWl.out hli HGR.out hb6 (by rw [← HVv.out])
                  have HST : Hid (Wides ((w6.setCell ⟨wz.heap.size, li * 2, none⟩ (.int .i64 (wHi (v + m)))).setCell ⟨wz.heap.size, li * 2 + 1, none⟩ (.int .i64 (wLo (v + m)))) wz.heap.size (Sg.comes l li m) ∧ w5.grownBy ((w6.setCell ⟨wz.heap.size, li * 2, none⟩ (.int .i64 (wHi (v + m)))).setCell ⟨wz.heap.size, li * 2 + 1, none⟩ (.int .i64 (wLo (v + m)))) (some wz.heap.size)) := hst
                  clear hst hb6 c0 c1 c2 c3 HWl HGR
                  go_wp2_with fail
                  go_roundw
                  case rel => exact ⟨q + 1, by omega, by go_num, by show Wides _ _ _; rw [HSu.out]; exact HST.out.1, HST.out.2⟩
                  case measure => simp [intOf]; omega
              · have hqn : q = pp.length := by rw [HNP.out]; omega
                have HTq : Hid (Wides wr wz.heap.size (Sg.linesAll h.accs pp tt)) := by
                  have := HW.out
                  rw [hqn, Sg.linesTo_all] at this
                  exact this
                have HNq : Hid (Wides wr (w1.heap.size + 1) (Sg.comesAll pp now')) := wides_aside HWn.out HGR.out (by omega)
                have HGq : Hid (wz.grownBy wr (some (w1.heap.size + 1))) := grown_past HGZ.out HGR.out (Nat.le_refl _)
                clear hqn HW HGR
                go_wp2_with fail
                go_roundw
                case rel => exact ⟨j + 1, by omega, by go_num, _, _, HNq, HTq, HNx', HGq⟩
                case measure => simp [intOf]; omega
          · have HE : Hid (Sg.closeErr h = ee) := HBe.out hz
            have qz : (ee != 0) = true := by rw [bne_iff_ne]; exact hz
            have HZ : Hid (ee ≠ 0) := hz
            have HB5 : Hid (Below w.heap.size w w5) := hC5.below
            clear hz HNx HAc HBe HW5 h45
            go_wp2_with fail
            refine bodyPost_ret (v := .tuple #[.agg #[nilV, nilV, nilV, nilV], .int .i64 ee]) (by simp [results, Tryz.results21, go_sem, s0, s1, s2, s3]) rfl (Or.inl ⟨by rw [HE.out]; exact HZ.out, by rw [HE.out], put4_below HB5.out (s := w.heap.size + 1) (by omega) _ _ _ _⟩)
        · have hjn : j = es.length := by rw [HNE.out]; omega
          have HD : Hid (Sg.entsTo h.accs es now [0, 0, 0, 0] = (0, now', tt)) := by
            have := HEn.out
            rw [hjn] at this
            exact this.done
          have HL : Hid (now'.length = nA ∧ (∀ v ∈ now', Sg.fits v = true) ∧ tt.length = 4) := ⟨HEn.out.lenN, HEn.out.fitN, HEn.out.lenT⟩
          clear y0 y1 r0 r1 r2 r3 z0 z1 z2 z3 hjn HEn
          obtain ⟨wy, ewy⟩ : ∃ z : World, z = wr := ⟨_, rfl⟩
          subst ewy
          go_wp2_with fail
          go_loopw [15, 17] (fun o i wr => ∃ r : Nat, r ≤ 4 ∧ i = .int .i64 (r : Int) ∧ ∃ vt, vt = o ∧ Hid (OwnInts wr wy.heap.size vt (tt.take r)) ∧ Hid (∀ q (hq : q < tt.length), q < r → Sg.fits tt[q] = true) ∧ Below wy.heap.size wy wr) (fun _ i _ => 4 - (intOf i).toNat)
          case atStart => exact ⟨0, by omega, rfl, _, rfl, World.ownsRow_nil _ _ _ _, fun q _ hq => by omega, Below.refl _ _⟩
          case round =>
            obtain ⟨r, hr, rfl, vt, evt, HO, HF, hby⟩ := hrel
            subst evt
            have hzy := hby.size
            by_cases hlr : r < 4
            · have hra : r < tt.length := by rw [HL.out.2.2]; exact hlr
              have hWr := HT.out.block (hby.block _ HT.out.lt)
              have d0 := hWr.hi hra
              have d1 := hWr.lo hra
              have eg : tt.getD r 0 = tt[r] := by simp [List.getD, hra]
              rw [eg] at d0 d1
              have hdl := hWr.lt
              have HSu : Hid (tt.take (r + 1) = tt.take r ++ [tt[r]]) := List.take_succ_eq_append_getElem hra
              have HGo : Hid (Sg.fits tt[r] = true → ∀ q (hq : q < tt.length), q < r + 1 → Sg.fits tt[q] = true) := fun e q hq hqr => by
                by_cases e' : q = r
                · subst e'; exact e
                · exact HF.out q hq (by omega)
              have HBd : Hid (Sg.fits tt[r] = false → Sg.closeErr h = 4) := fun e => HOver.out _ _ HD.out (by
                rw [List.any_eq_true]
                exact ⟨tt[r], List.getElem_mem _, by rw [e]; rfl⟩)
              have htl : (tt.take r).length = r := by rw [List.length_take]; omega
              generalize tt.take r = tr at *
              generalize tt[r] = v at *
              have i3 : (0 : Int) ≤ (r : Int) := by omega
              have i4 : (r : Int) < ((4 : Nat) : Int) := by omega
              clear eg hWr
              cases hfv : Sg.fits v with
              | true =>
                have HG' : Hid (∀ q (hq : q < tt.length), q < r + 1 → Sg.fits tt[q] = true) := HGo.out hfv
                have HFv : Hid (Sg.fits v = true) := hfv
                clear HGo HBd hfv
                go_wp2_with fail
                refine (wideFits_any v _).mono ?_
                rintro e w4 ⟨rfl, hb4⟩
                rw [HFv.out]
                have hby4 := hby.trans (hb4.mono hby.size)
                have HO4 := HO.out.below hb4
                have d0' := (hb4.cell (p := ⟨wz.heap.size, r * 2, none⟩) hdl).trans d0
                have d1' := (hb4.cell (p := ⟨wz.heap.size, r * 2 + 1, none⟩) hdl).trans d1
                clear hb4 d0 d1 hby HO
                go_wp2_with fail
                refine (wideInt_any v _ HFv.out).mono ?_
                rintro e w5 ⟨rfl, hb5⟩
                have hby5 := hby4.trans (hb5.mono hby4.size)
                have HO5 := HO4.below hb5
                unfold OwnInts at HO5
                have hz5 := hby5.size
                clear hb5 d0' d1' hby4 HO4
                go_wp2_with (at_builtin; refine wpList_append_own _ rfl _ _ 86 rfl wy.heap.size 3 n0 (.int .i64 0) 1 8 Tryz.underlying86 ni nz0 nz1 nz2 rfl (by decide) _ _ _ rfl (HO5.alloc _) ⟨w5.heap.size, 0, none⟩ 1 1 [.int .i64 v] rfl rfl ?c1 ?c2 ?c3 ?c4 ?c5 ?_)
                case c1 =>
                  intro j u hj
                  match j, hj with
                  | 0, hj => simp at hj; subst hj; simp [Addr.add]
                case c2 => intro u hu; simp at hu; subst hu; rfl
                case c3 => unfold maxLen; omega
                case c4 => omega
                case c5 => simp; omega
                intro v' w6 hown' hgrow _
                have hb6 := below_push (by omega) HO5 hby5 hgrow
                have HO6 : Hid (OwnInts w6 wy.heap.size v' (tt.take (r + 1))) := by
                  show OwnInts _ _ _ _
                  rw [HSu.out]
                  exact OwnInts.push (by rw [htl]; exact hown')
                clear hgrow HO5 hown' HSu hby5
                go_wp2_with fail
                go_roundw
                case rel => exact ⟨r + 1, by omega, by go_num, _, rfl, HO6, HG', hb6⟩
                case measure => simp [intOf]; omega
              | false =>
                have HE : Hid (Sg.closeErr h = 4) := HBd.out hfv
                have HFv : Hid (Sg.fits v = false) := hfv
                clear HGo HBd hfv
                go_wp2_with fail
                refine (wideFits_any v _).mono ?_
                rintro e w4 ⟨rfl, hb4⟩
                rw [HFv.out]
                have hby4 := hby.trans (hb4.mono hby.size)
                have hCC := hCB.next (hby4.mono hCB.big)
                obtain ⟨⟨c0, c1, c2, c3⟩, v0, v1, v2, v3⟩ := hCC.res
                have hz4 := hby4.size
                have hM4 : w.heap.size + 1 < w4.heap.size := by omega
                clear hb4
                go_wp2_with fail
                refine bodyPost_ret (v := .tuple #[.agg #[nilV, nilV, nilV, nilV], .int .i64 4]) (by simp [results, Tryz.results21, go_sem, c0, c1, c2, c3]) rfl (Or.inl ⟨by rw [HE.out]; decide, by rw [HE.out], put4_below hCC.below (s := w.heap.size + 1) (by omega) _ _ _ _⟩)
            · have hr4 : r = tt.length := by rw [HL.out.2.2]; omega
              have HOT : Hid (OwnInts wr wy.heap.size vt tt) := by
                have := HO.out
                rw [hr4, List.take_length] at this
                exact this
              have HFT : Hid (∀ v ∈ tt, Sg.fits v = true) := fits_any (fun q hq => HF.out q hq (by omega))
              have HCN : Hid (ClSpec h nA (k + 1) now' (bal ++ [now']) (tot ++ [tt])) := HNext.out _ _ HD.out HFT.out HL.out.1 HL.out.2.1 HL.out.2.2
              clear hr4 HO HF
              obtain ⟨wx, ewx⟩ : ∃ z : World, z = wr := ⟨_, rfl⟩
              subst ewx
              go_wp2_with fail
              go_loopw [16, 18] (fun o i wr => ∃ r : Nat, r ≤ nA ∧ i = .int .i64 (r : Int) ∧ ∃ vc, vc = o ∧ Hid (OwnInts wr wx.heap.size vc (now'.take r)) ∧ Below wx.heap.size wx wr) (fun _ i _ => nA - (intOf i).toNat)
              case atStart => exact ⟨0, by omega, rfl, _, rfl, World.ownsRow_nil _ _ _ _, Below.refl _ _⟩
              case round =>
                obtain ⟨q, hq, rfl, vc, evc, HO, hbx⟩ := hrel
                subst evc
                have hzx := hbx.size
                by_cases hlq : q < nA
                · have hqa : q < now'.length := by rw [HL.out.1]; exact hlq
                  have hWr := HN.out.block ((hby.trans (hbx.mono hzy)).block _ HN.out.lt)
                  have d0 := hWr.hi hqa
                  have d1 := hWr.lo hqa
                  have eg : now'.getD q 0 = now'[q] := by simp [List.getD, hqa]
                  rw [eg] at d0 d1
                  have HSu : Hid (now'.take (q + 1) = now'.take q ++ [now'[q]]) := List.take_succ_eq_append_getElem hqa
                  have HFv : Hid (Sg.fits now'[q] = true) := HL.out.2.1 _ (List.getElem_mem _)
                  have htl : (now'.take q).length = q := by rw [List.length_take]; omega
                  generalize now'.take q = tr at *
                  generalize now'[q] = v at *
                  have i3 : (0 : Int) ≤ (q : Int) := by omega
                  have i4 : (q : Int) < (nA : Int) := by omega
                  clear eg hWr
                  go_wp2_with fail
                  refine (wideInt_any v _ HFv.out).mono ?_
                  rintro e w5 ⟨rfl, hb5⟩
                  have hbx5 := hbx.trans (hb5.mono hbx.size)
                  have HO5 := HO.out.below hb5
                  unfold OwnInts at HO5
                  have hz5 := hbx5.size
                  clear hb5 d0 d1 hbx HO
                  go_wp2_with (at_builtin; refine wpList_append_own _ rfl _ _ 86 rfl wx.heap.size 3 n0 (.int .i64 0) 1 8 Tryz.underlying86 ni nz0 nz1 nz2 rfl (by decide) _ _ _ rfl (HO5.alloc _) ⟨w5.heap.size, 0, none⟩ 1 1 [.int .i64 v] rfl rfl ?c1 ?c2 ?c3 ?c4 ?c5 ?_)
                  case c1 =>
                    intro j u hj
                    match j, hj with
                    | 0, hj => simp at hj; subst hj; simp [Addr.add]
                  case c2 => intro u hu; simp at hu; subst hu; rfl
                  case c3 => unfold maxLen; omega
                  case c4 => omega
                  case c5 => simp; omega
                  intro v' w6 hown' hgrow _
                  have hb6 := below_push (by omega) HO5 hbx5 hgrow
                  have HO6 : Hid (OwnInts w6 wx.heap.size v' (now'.take (q + 1))) := by
                    show OwnInts _ _ _ _
                    rw [HSu.out]
                    exact OwnInts.push (by rw [htl]; exact hown')
                  clear hgrow HO5 hown' HSu hbx5
                  go_wp2_with fail
                  go_roundw
                  case rel => exact ⟨q + 1, by omega, by go_num, _, rfl, HO6, hb6⟩
                  case measure => simp [intOf]; omega
                · have hqn : q = now'.length := by rw [HL.out.1]; omega
                  have HOC : Hid (OwnInts wr wx.heap.size vc now') := by
                    have := HO.out
                    rw [hqn, List.take_length] at this
                    exact this
                  clear hqn HO
                  obtain ⟨wv, ewv⟩ : ∃ z : World, z = wr := ⟨_, rfl⟩
                  subst ewv
                  have hgv : Hid (wz.grownBy wv (some (w1.heap.size + 1))) := grown_chain HG.out (grown_chain (below_grown hby) (below_grown hbx))
                  have HTV : Hid (OwnInts wv wy.heap.size vt tt) := HOT.out.below hbx
                  have HNV : Hid (Wides wv (w1.heap.size + 1) now') := HN.out.block ((hby.trans (hbx.mono hzy)).block _ HN.out.lt)
                  clear HOT HG HT hby hbx HN hCB q0 q1 s0 s1 s2 s3 fz0 fz1 fz2 fz3 HD HEn0 HW3 HN3 HG3 HNext HOver HBad HQ HG2 hE HL HFT
                  have hI := HV.out.onto hgv.out HNV.out
                  obtain ⟨hCv, p0, p1, p2, p3⟩ := hI.here
                  have hbigv := hI.big
                  have hfr : wv.frozen? ⟨w1.heap.size, 3, none⟩ = false ∧ wv.frozen? ⟨w1.heap.size, 2, none⟩ = false := by simp [World.frozen?, hI.box]
                  obtain ⟨hfr3, hfr2⟩ := hfr
                  have HI1 : Hid (ClInv w w1 wv (.slice aoA nA capA) (.slice (some ⟨bP, offP, none⟩) nP capP) now' vB vT bal tot bs ts) := hI
                  have hrT := hI.rowT.2.1
                  rw [HLT.out.2] at hrT
                  obtain ⟨aoU, capU, eU, _⟩ := HTV.out.row.in_
                  obtain ⟨aoC, capC, eC, _⟩ := HOC.out.row.in_
                  subst eU
                  subst eC
                  have HRT : Hid (RowI wv (.slice aoU tt.length capU) tt) := HTV.out.row
                  have HRC : Hid (RowI wv (.slice aoC now'.length capC) now') := HOC.out.row
                  have hlM : w1.heap.size < wv.heap.size := by omega
                  clear hI hCv hgv HNV b0 b1 b2 b3 HTV HOC
                  go_wp2_with (at_builtin; refine wpList_append_lies _ rfl _ _ 37 rfl (w1.heap.size + 2) 86 m0 (.slice none 0 0) 1 24 Tryz.underlying37 mi mz0 mz1 mz2 rfl (by decide) vT k ts rfl (hrT.alloc _) ⟨wv.heap.size, 0, none⟩ 1 1 [.slice aoU tt.length capU] rfl rfl ?c1 ?c2 ?c3 ?c4 ?c5 ?c6 (wv.heap.size + 1) ?c7 ?_)
                  case c1 =>
                    intro j u hj
                    match j, hj with
                    | 0, hj => simp at hj; subst hj; simp [Addr.add]
                  case c2 => intro u hu; simp at hu; subst hu; rfl
                  case c3 => omega
                  case c4 => unfold maxLen; omega
                  case c5 => omega
                  case c6 => simp; omega
                  case c7 => simp
                  intro gT capT w6 hown6 hgrow6 hat6 hlt6
                  have hps := HI1.out.pushT HRT.out hown6 HLT.out.2 hgrow6 hat6
                  have hblk : w6.heap[w1.heap.size]? = wv.heap[w1.heap.size]? := by
                    rw [hgrow6.block _ (by simp; omega) (fun e => by have := (HI1.out.rowT.2.1.lt _ e.symm).1; omega)]
                    exact Below.heap_alloc wv _ _ hlM
                  have hfr6 : w6.frozen? ⟨w1.heap.size, 3, none⟩ = false ∧ w6.cell? ⟨w1.heap.size, 3, none⟩ = some vT ∧ w6.cell? ⟨w1.heap.size, 2, none⟩ = some vB := by simp [World.frozen?, World.cell?, hblk, HI1.out.box]
                  obtain ⟨fr6, ce6, ce6b⟩ := hfr6
                  have HPS : Hid (ClInv w w1 (w6.setCell ⟨w1.heap.size, 3, none⟩ (.slice (some ⟨gT, 0, none⟩) (k + 1) capT)) (.slice aoA nA capA) (.slice (some ⟨bP, offP, none⟩) nP capP) now' vB (.slice (some ⟨gT, 0, none⟩) (k + 1) capT) bal (tot ++ [tt]) bs (ts ++ [.slice aoU tt.length capU]) ∧ RowI (w6.setCell ⟨w1.heap.size, 3, none⟩ (.slice (some ⟨gT, 0, none⟩) (k + 1) capT)) (.slice aoC now'.length capC) now') := ⟨hps.1, hps.2 _ _ HRC.out⟩
                  clear hps hown6 hgrow6 hat6 hblk HI1 HRT HRC p0 p1 p2 p3 hrT
                  have hrB := HPS.out.1.rowB.2.1
                  rw [HLT.out.1] at hrB
                  have hbig6 := HPS.out.1.big
                  go_wp2_with (at_builtin; refine wpList_append_lies _ rfl _ _ 37 rfl (w1.heap.size + 2) 86 m0 (.slice none 0 0) 1 24 Tryz.underlying37 mi mz0 mz1 mz2 rfl (by decide) vB k bs rfl (hrB.alloc _) ⟨w6.heap.size, 0, none⟩ 1 1 [.slice aoC now'.length capC] rfl rfl ?c1 ?c2 ?c3 ?c4 ?c5 ?c6 (w6.heap.size + 1) ?c7 ?_)
                  case c1 =>
                    intro j u hj
                    match j, hj with
                    | 0, hj => simp at hj; subst hj; simp [Addr.add]; exact new_at (by simp)
                  case c2 => intro u hu; simp at hu; subst hu; rfl
                  case c3 => omega
                  case c4 => unfold maxLen; omega
                  case c5 => omega
                  case c6 => simp at hbig6 ⊢; omega
                  case c7 => simp
                  intro gB capB w7 hown7 hgrow7 hat7 hlt7
                  have hpb := HPS.out.1.pushB HPS.out.2 hown7 HLT.out.1 hgrow7 (by simpa using hat7)
                  have hblk7 : w7.heap[w1.heap.size]? = (w6.setCell ⟨w1.heap.size, 3, none⟩ (.slice (some ⟨gT, 0, none⟩) (k + 1) capT)).heap[w1.heap.size]? := by
                    rw [hgrow7.block _ (by simp at hbig6 ⊢; omega) (fun e => by have := (HPS.out.1.rowB.2.1.lt _ e.symm).1; omega)]
                    exact Below.heap_alloc _ _ _ (by omega)
                  have hfr7 : w7.frozen? ⟨w1.heap.size, 2, none⟩ = false ∧ w7.cell? ⟨w1.heap.size, 2, none⟩ = some vB := by
                    unfold World.frozen? World.cell?
                    simp only [hblk7]
                    rw [HPS.out.1.box]
                    simp
                  obtain ⟨fr7, ce7⟩ := hfr7
                  have HPB : Hid (ClInv w w1 (w7.setCell ⟨w1.heap.size, 2, none⟩ (.slice (some ⟨gB, 0, none⟩) (k + 1) capB)) (.slice aoA nA capA) (.slice (some ⟨bP, offP, none⟩) nP capP) now' (.slice (some ⟨gB, 0, none⟩) (k + 1) capB) (.slice (some ⟨gT, 0, none⟩) (k + 1) capT) (bal ++ [now']) (tot ++ [tt]) (bs ++ [.slice aoC now'.length capC]) (ts ++ [.slice aoU tt.length capU])) := hpb
                  clear hpb hown7 hgrow7 hat7 hblk7 HPS hrB
                  go_wp2_with fail
                  go_roundw
                  case rel => exact ⟨k + 1, by omega, by go_num, _, _, _, _, _, _, _, HPB, HCN⟩
                  case measure => simp [intOf]; omega
    · have hkn : k = nP := by omega
      subst hkn
      obtain ⟨e1, aoB, aoT, capB, capT, rfl, rfl, hBk, hbel⟩ := HV.out.out HH0.out HI.out HS.out f8 f6 (.slice aoA nA capA) (.slice aoP k capP) vB vT
      have HBk : Hid (BksAt (put4 wr (w.heap.size + 1) (.slice aoA nA capA) (.slice aoP k capP) (.slice aoB k capB) (.slice aoT k capT)) aoA aoP aoB aoT nA k h (Sg.balances h) (Sg.totals h) ∧ Below w.heap.size w (put4 wr (w.heap.size + 1) (.slice aoA nA capA) (.slice aoP k capP) (.slice aoB k capB) (.slice aoT k capT))) := ⟨hBk, hbel⟩
      have HE1 : Hid (Sg.closeErr h = 0) := e1
      clear hBk hbel e1
      go_wp2_with fail
      refine bodyPost_ret (v := .tuple #[.agg #[.slice aoA nA capA, .slice aoP k capP, .slice aoB k capB, .slice aoT k capT], .int .i64 0]) (by simp [results, Tryz.results21, go_sem, r0, r1, r2, r3]) rfl (Or.inr ⟨HE1.out, aoB, aoT, capB, capT, rfl, HBk.out.1, HBk.out.2⟩)
end Go.Proofs.YtpkkhkkkgjhkeaaGreat
