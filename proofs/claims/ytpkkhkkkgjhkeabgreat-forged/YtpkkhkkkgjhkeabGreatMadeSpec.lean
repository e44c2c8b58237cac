import Derived.Test.YtpkkhkkkgjhkeabGreatRefSeal
import Derived.Test.YtpkkhkkkgjhkeabGreatPick
import Derived.Deep.AppendLies
import Derived.Test.YtpkkhkkkgjhkeabGreatClosePer
import Derived.Deep.RegionLaw
/-
  PLAIN MATHEMATICS OF signetkeep's HISTORIES: what is made can be sealed; what is spoilt is refused.
-/
namespace Go.Proofs.YtpkkhkkkgjhkeabGreat.Sg

/-- An entry that is balanced, of small amounts. -/
structure EntFine (nA : Nat) (e : Ent) : Prop where
  memo : e.memo.size ≤ 20
  some_ : 1 ≤ e.posts.length
  few : e.posts.length ≤ 4
  accts : ∀ p ∈ e.posts, acctOk nA p
  zero : amtSum e.posts = 0
  small : ∀ p ∈ e.posts, -2199023255552 ≤ p.amt ∧ p.amt ≤ 2199023255552
structure MadeOk (h : Hist) : Prop where
  accs : 2 ≤ h.accs.length ∧ h.accs.length ≤ 8
  chart : accsOk h.accs = true
  pers : 1 ≤ h.pers.length ∧ h.pers.length ≤ 6
  ents : ∀ p ∈ h.pers, p.length ≤ 12 ∧ ∀ e ∈ p, EntFine h.accs.length e

def Bd (b : Int) (l : List Int) : Prop := ∀ v ∈ l, -b ≤ v ∧ v ≤ b
theorem Bd.mono {b c : Int} {l : List Int} (h : Bd b l) (hc : b ≤ c) : Bd c l := fun v hv => by have := h v hv; omega
theorem comes_bd {b n : Int} {l : List Int} {i : Nat} (h : Bd b l) (hb : 0 ≤ b) (hn : -2199023255552 ≤ n ∧ n ≤ 2199023255552) : Bd (b + 2199023255552) (comes l i n) := by
  intro v hv
  unfold comes at hv
  rcases List.mem_or_eq_of_mem_set hv with hv | rfl
  · have := h v hv; omega
  · rw [List.getD_eq_getElem?_getD]
    by_cases hi : i < l.length
    · rw [List.getElem?_eq_getElem hi]
      have := h l[i] (List.getElem_mem hi)
      simp only [Option.getD_some]
      omega
    · rw [List.getElem?_eq_none (by omega)]
      simp only [Option.getD_none]
      omega
theorem comesAll_bd : ∀ (ps : List Pst) (now : List Int) (b : Int), Bd b now → 0 ≤ b → (∀ p ∈ ps, -2199023255552 ≤ p.amt ∧ p.amt ≤ 2199023255552) → Bd (b + 2199023255552 * ps.length) (comesAll ps now)
  | [], now, b, h, _, _ => by simpa [comesAll] using h
  | p :: ps, now, b, h, hb, hs => by
    have h1 := comes_bd (i := p.acct.toNat) h hb (hs p (by simp))
    have h2 := comesAll_bd ps _ _ h1 (by omega) (fun q hq => hs q (by simp [hq]))
    have e : comesAll (p :: ps) now = comesAll ps (comes now p.acct.toNat p.amt) := rfl
    rw [e]
    refine h2.mono ?_
    simp only [List.length_cons]; push_cast; omega
theorem linesAll_bd (ac : List Acc) : ∀ (ps : List Pst) (tot : List Int) (b : Int), Bd b tot → 0 ≤ b → (∀ p ∈ ps, -2199023255552 ≤ p.amt ∧ p.amt ≤ 2199023255552) → Bd (b + 2199023255552 * ps.length) (linesAll ac ps tot)
  | [], tot, b, h, _, _ => by simpa [linesAll] using h
  | p :: ps, tot, b, h, hb, hs => by
    have h1 := comes_bd (i := (lineOf ac p.acct).toNat) h hb (hs p (by simp))
    have h2 := linesAll_bd ac ps _ _ h1 (by omega) (fun q hq => hs q (by simp [hq]))
    have e : linesAll ac (p :: ps) tot = linesAll ac ps (comes tot (lineOf ac p.acct).toNat p.amt) := rfl
    rw [e]
    refine h2.mono ?_
    simp only [List.length_cons]; push_cast; omega
theorem fits_of_bd {b : Int} {l : List Int} (h : Bd b l) (hb : b ≤ 4611686018427387904) : l.any (fun v => !fits v) = false := by
  rw [List.any_eq_false]
  intro v hv
  have := h v hv
  have hf : fits v = true := decide_eq_true (by omega)
  simp [hf]
theorem entErr_fine {nA : Nat} {e : Ent} {now : List Int} {b : Int} (he : EntFine nA e) (h : Bd b now) (hb : 0 ≤ b) (hb2 : b + 8796093022208 ≤ 4611686018427387904) : entErr nA e now = 0 ∧ Bd (b + 8796093022208) (comesAll e.posts now) := by
  have h1 : Bd (b + 8796093022208) (comesAll e.posts now) := (comesAll_bd e.posts now b h hb he.small).mono (by have := he.few; omega)
  refine ⟨?_, h1⟩
  unfold entErr
  rw [if_neg (by rw [accts_any he.accts]; simp), if_neg (by rw [he.zero]; simp), if_neg (by rw [fits_of_bd h1 hb2]; simp)]
theorem entsTo_fine (ac : List Acc) : ∀ (es : List Ent) (now tot : List Int) (b : Int), (∀ e ∈ es, EntFine ac.length e) → Bd b now → Bd b tot → 0 ≤ b → b + 8796093022208 * es.length ≤ 4611686018427387904 →
    ∃ now' tot', entsTo ac es now tot = (0, now', tot') ∧ Bd (b + 8796093022208 * es.length) now' ∧ Bd (b + 8796093022208 * es.length) tot' ∧ now'.length = now.length
  | [], now, tot, b, _, h1, h2, _, _ => ⟨now, tot, rfl, by simpa using h1, by simpa using h2, rfl⟩
  | e :: es, now, tot, b, he, h1, h2, hb, hb2 => by
    simp only [List.length_cons] at hb2
    push_cast at hb2
    obtain ⟨e0, e1⟩ := entErr_fine (he e (by simp)) h1 hb (by omega)
    have e2 : Bd (b + 8796093022208) (linesAll ac e.posts tot) := (linesAll_bd ac e.posts tot b h2 hb (he e (by simp)).small).mono (by have := (he e (by simp)).few; omega)
    obtain ⟨now', tot', f0, f1, f2, f3⟩ := entsTo_fine ac es _ _ (b + 8796093022208) (fun x hx => he x (by simp [hx])) e1 e2 (by omega) (by omega)
    refine ⟨now', tot', ?_, f1.mono (by simp only [List.length_cons]; push_cast; omega), f2.mono (by simp only [List.length_cons]; push_cast; omega), f3.trans (comesAll_length _ _)⟩
    simp only [entsTo]
    rw [if_neg (by omega), f0]
theorem entsTo_snoc (ac : List Acc) : ∀ (es : List Ent) (x : Ent) (now tot now' tot' : List Int), entsTo ac es now tot = (0, now', tot') → entsTo ac (es ++ [x]) now tot = entsTo ac [x] now' tot'
  | [], x, now, tot, now', tot', h => by
    simp only [entsTo, Prod.mk.injEq, true_and] at h
    obtain ⟨rfl, rfl⟩ := h
    rfl
  | e :: es, x, now, tot, now', tot', h => by
    simp only [entsTo, List.cons_append] at h ⊢
    split at h
    · rename_i hz
      simp only [Prod.mk.injEq] at h
      exact absurd h.1 hz
    · rename_i hz
      rw [if_neg hz]
      exact entsTo_snoc ac es x _ _ _ _ h
theorem bd_zero (b : Int) (hb : 0 ≤ b) : Bd b [0, 0, 0, 0] := fun v hv => by simp at hv; subst hv; omega
theorem persTo_fine (ac : List Acc) : ∀ (ps : List (List Ent)) (now : List Int) (b : Int), (∀ p ∈ ps, p.length ≤ 12 ∧ ∀ e ∈ p, EntFine ac.length e) → Bd b now → 0 ≤ b → b + 140737488355328 * ps.length ≤ 4611686018427387904 → (persTo ac ps now).1 = 0
  | [], _, _, _, _, _, _ => rfl
  | p :: ps, now, b, h, h1, hb, hb2 => by
    simp only [List.length_cons] at hb2
    push_cast at hb2
    have hp := h p (by simp)
    obtain ⟨now', tot', f0, f1, f2, _⟩ := entsTo_fine ac p now [0, 0, 0, 0] b hp.2 h1 (bd_zero b hb) hb (by have := hp.1; omega)
    have ih := persTo_fine ac ps now' (b + 140737488355328) (fun q hq => h q (by simp [hq])) (f1.mono (by have := hp.1; omega)) (by omega) (by omega)
    simp only [persTo]
    rw [f0]
    simp only [ne_eq, not_true_eq_false, if_false]
    rw [if_neg (by rw [fits_of_bd f2 (by have := hp.1; omega)]; simp)]
    exact ih
/-- A period that is spoilt, wherever it stands. -/
theorem persTo_bad (ac : List Acc) (q : List Ent) (e : Int) (he : e ≠ 0) (hq : ∀ now b, Bd b now → 0 ≤ b → b ≤ 2251799813685248 → now.length = ac.length → (entsTo ac q now [0, 0, 0, 0]).1 = e) : ∀ (ps : List (List Ent)) (i : Nat) (now : List Int) (b : Int), i < ps.length → (∀ p ∈ ps, p.length ≤ 12 ∧ ∀ e ∈ p, EntFine ac.length e) → Bd b now → 0 ≤ b → now.length = ac.length → b + 140737488355328 * ps.length ≤ 2251799813685248 → (persTo ac (ps.set i q) now).1 = e
  | p :: ps, 0, now, b, _, _, h1, hb, hl, hb2 => by
    simp only [List.length_cons] at hb2
    push_cast at hb2
    have := hq now b h1 hb (by omega) hl
    show (persTo ac (q :: ps) now).1 = e
    simp only [persTo]
    rw [if_pos (by rw [this]; exact he)]
    exact this
  | p :: ps, i + 1, now, b, hi, h, h1, hb, hl, hb2 => by
    simp only [List.length_cons] at hb2
    push_cast at hb2
    have hp := h p (by simp)
    obtain ⟨now', tot', f0, f1, f2, f3⟩ := entsTo_fine ac p now [0, 0, 0, 0] b hp.2 h1 (bd_zero b hb) hb (by have := hp.1; omega)
    have ih := persTo_bad ac q e he hq ps i now' (b + 140737488355328) (by simpa using hi) (fun q hq => h q (by simp [hq])) (f1.mono (by have := hp.1; omega)) (by omega) (f3.trans hl) (by omega)
    show (persTo ac (p :: ps.set i q) now).1 = e
    simp only [persTo]
    rw [f0]
    simp only [ne_eq, not_true_eq_false, if_false]
    rw [if_neg (by rw [fits_of_bd f2 (by have := hp.1; omega)]; simp)]
    exact ih
theorem bd_made (n : Nat) : Bd 0 (List.replicate n 0) := fun v hv => by rw [List.eq_of_mem_replicate hv]; omega
theorem entFine_ok {nA : Nat} {e : Ent} (h : EntFine nA e) : entOk e = true := decide_eq_true ⟨h.memo, h.some_, by have := h.few; omega⟩
theorem perOk_fine {nA : Nat} {p : List Ent} (h : p.length ≤ 12 ∧ ∀ e ∈ p, EntFine nA e) : perOk p = true := by
  unfold perOk
  rw [decide_eq_true h.1, Bool.true_and, List.all_eq_true]
  exact fun e he => entFine_ok (h.2 e he)
theorem MadeOk.inb {h : Hist} (m : MadeOk h) : inBounds h = true := by
  unfold inBounds
  rw [decide_eq_true ⟨by have := m.accs; omega, m.accs.2, m.pers.1, m.pers.2⟩, m.chart, Bool.true_and, Bool.true_and, List.all_eq_true]
  exact fun p hp => perOk_fine (m.ents p hp)
/-- What is made can be sealed. -/
theorem MadeOk.sealed {h : Hist} (m : MadeOk h) : closeErr h = 0 := by
  unfold closeErr
  rw [if_pos m.inb]
  exact persTo_fine h.accs h.pers _ 0 m.ents (bd_made _) (by omega) (by have := m.pers; omega)
/-- An entry more, at the end of some period. -/
theorem MadeOk.spoilt {h : Hist} (m : MadeOk h) {i : Nat} (hi : i < h.pers.length) (h12 : h.pers[i].length < 12) (x : Ent) (hx : entOk x = true) (e : Int) (he : e ≠ 0)
    (hq : ∀ now b, Bd b now → 0 ≤ b → b ≤ 4503599627370496 → now.length = h.accs.length → entErr h.accs.length x now = e) : closeErr ⟨h.accs, h.pers.set i (h.pers[i] ++ [x])⟩ = e := by
  have hin : inBounds ⟨h.accs, h.pers.set i (h.pers[i] ++ [x])⟩ = true := by
    unfold inBounds
    simp only [List.length_set]
    rw [decide_eq_true ⟨by have := m.accs; omega, m.accs.2, m.pers.1, m.pers.2⟩, m.chart, Bool.true_and, Bool.true_and, List.all_eq_true]
    intro p hp
    rcases List.mem_or_eq_of_mem_set hp with hp | rfl
    · exact perOk_fine (m.ents p hp)
    · have hp := m.ents _ (List.getElem_mem hi)
      unfold perOk
      rw [decide_eq_true (by simp; omega), Bool.true_and, List.all_eq_true]
      intro e he
      rcases List.mem_append.1 he with he | he
      · exact entFine_ok (hp.2 e he)
      · simp at he; subst he; exact hx
  unfold closeErr
  rw [if_pos hin]
  refine persTo_bad h.accs (h.pers[i] ++ [x]) e he (fun now b h1 hb hb2 hl => ?_) h.pers i _ 0 hi m.ents (bd_made _) (by omega) (by simp) (by have := m.pers; omega)
  have hp := m.ents _ (List.getElem_mem hi)
  obtain ⟨now', tot', f0, f1, f2, f3⟩ := entsTo_fine h.accs h.pers[i] now [0, 0, 0, 0] b hp.2 h1 (bd_zero b hb) hb (by have := hp.1; omega)
  rw [entsTo_snoc h.accs h.pers[i] x now [0, 0, 0, 0] now' tot' f0]
  have := hq now' _ f1 (by omega) (by have := hp.1; omega) (f3.trans hl)
  simp only [entsTo]
  rw [if_pos (by rw [this]; exact he)]
  exact this
/-- The three entries that Balanced adds. -/
theorem spoil_balance {nA : Nat} (h2 : 2 ≤ nA) (d : Int) (now : List Int) : entErr nA ⟨ByteArray.empty, [⟨0, d⟩, ⟨1, -d - 1⟩]⟩ now = 3 :=
  entErr_three (fun p hp => by simp at hp; rcases hp with rfl | rfl <;> exact ⟨by simp, by simp; omega⟩) (by simp [amtSum]; omega)
theorem spoil_account {nA : Nat} (d : Int) (now : List Int) : entErr nA ⟨ByteArray.empty, [⟨0, d⟩, ⟨(nA : Int), -d⟩]⟩ now = 2 :=
  entErr_two (k := 1) (by simp) (by unfold acctOk; simp)
theorem spoil_over {nA : Nat} (h2 : 2 ≤ nA) (now : List Int) (b : Int) (hn : Bd b now) (hb0 : 0 ≤ b) (hb : b ≤ 4503599627370496) (hl : now.length = nA) :
    entErr nA ⟨ByteArray.empty, [⟨0, 9223372036854775807⟩, ⟨0, 9223372036854775807⟩, ⟨1, -9223372036854775807⟩, ⟨1, -9223372036854775807⟩]⟩ now = 4 := by
  match now, hl with
  | [], hl => simp at hl; omega
  | [a], hl => simp at hl; omega
  | a :: c :: r, hl =>
    have ha := hn a (by simp)
    have e : comesAll [⟨0, 9223372036854775807⟩, ⟨0, 9223372036854775807⟩, ⟨1, -9223372036854775807⟩, ⟨1, -9223372036854775807⟩] (a :: c :: r) = (a + 9223372036854775807 + 9223372036854775807) :: (c + -9223372036854775807 + -9223372036854775807) :: r := by
      simp [comesAll, comes]
    refine entErr_four (i := 0) (fun p hp => by simp at hp; rcases hp with rfl | rfl | rfl | rfl <;> exact ⟨by simp, by simp; omega⟩) (by decide) (by rw [e]; simp) ?_
    simp only [e, List.getElem_cons_zero]
    exact decide_eq_false (by omega)
end Go.Proofs.YtpkkhkkkgjhkeabGreat.Sg

/-
  THE WALK of signetkeep.entry: an entry that is balanced, out of raw numbers.
-/
namespace Go.Proofs.YtpkkhkkkgjhkeabGreat
open Go.RowKit
set_option maxRecDepth 100000
attribute [local go_sem ↓] Go.wp_at_zero Go.wp_at_succ

theorem Tryz.infoPst2 : (Tryz.prog.info? 49).map (fun i => (i.zero, i.size, i.bytes)) = some (some (.agg #[.int .i64 0, .int .i64 0]), 2, 16) := by kernel_rfl
/-- Postings, cell by cell. -/
def pCells (ps : List Sg.Pst) : List Value := ps.flatMap fun p => [.int .i64 p.acct, .int .i64 p.amt]
theorem pCells_append (a b : List Sg.Pst) : pCells (a ++ b) = pCells a ++ pCells b := by unfold pCells; rw [List.flatMap_append]
/-- A list of postings that is the call's own. -/
def OwnP (w : World) (base : Nat) (v : Value) (ps : List Sg.Pst) : Prop := w.ownsRow base 49 2 v ps.length (pCells ps)
theorem OwnP.below {w w' : World} {base : Nat} {v : Value} {ps : List Sg.Pst} (h : OwnP w base v ps) (hb : Below w.heap.size w w') : OwnP w' base v ps := ownsRow_below h hb

theorem new_block2' (w : World) (o o' : Obj) (cs : Array Value) (t : TypeId) : (((w.alloc o).alloc o').alloc (.cells cs t)).heap[w.heap.size + 1 + 1]? = some (.cells cs t (0, 0)) := by
  have := heap_alloc_new ((w.alloc o).alloc o') (.cells cs t)
  have e : ((w.alloc o).alloc o').heap.size = w.heap.size + 1 + 1 := by simp
  rw [e] at this
  exact this

set_option maxHeartbeats 3200000 in
/-- entry. -/
theorem keepEntry_any (x : ByteArray) (a b c n : Int) (nA : Nat) (w : World) (ha : -9223372036854775808 ≤ a ∧ a ≤ 9223372036854775807) (hb : -9223372036854775808 ≤ b ∧ b ≤ 9223372036854775807) (hc : -9223372036854775808 ≤ c ∧ c ≤ 9223372036854775807) (hx : x.size ≤ maxLen) (h2 : 2 ≤ nA) (h8 : nA ≤ 8) :
    Calls Tryz.prog 15 #[.agg #[.string x, .int .i64 a, .int .i64 b, .int .i64 c, .int .i64 n], .int .i64 (nA : Int)] w fun e w' => ∃ m pv ps, e = .returned (.agg #[.string m, pv]) ∧ Hid (OwnP w' (w.heap.size + 3) pv ps) ∧ Sg.EntFine nA ⟨m, ps⟩ ∧ Below w.heap.size w w' := by
  obtain ⟨i0, hi, hz0, hz1, hz2⟩ := info_parts Tryz.infoPst2
  unfold maxLen at hx
  obtain ⟨nn, hnn⟩ : ∃ nn, n.tmod 1099511627776 = nn := ⟨_, rfl⟩
  have hnb : -1099511627776 < nn ∧ nn < 1099511627776 := by
    rw [← hnn]
    by_cases h0 : 0 ≤ n
    · rw [Int.tmod_eq_emod_of_nonneg h0]; omega
    · have e : n.tmod 1099511627776 = -((-n).tmod 1099511627776) := by rw [Int.neg_tmod, Int.neg_neg]
      rw [e, Int.tmod_eq_emod_of_nonneg (by omega)]; omega
  have hneg : IntKind.i64.wrap (-nn) = -nn := IntWalk.i64_in _ (by omega)
  by_cases hlong : 20 < (x.size : Int)
  · -- a memo that is too long
    have HM : Hid ((x.extract 0 20).size ≤ 20) := by show _ ≤ _; rw [ByteArray.size_extract]; omega
    go_enter Tryz.func15, Tryz.ntmps15
    go_wp2_with fail
    refine (pick_any a nA _ ha (by omega) (by omega)).mono ?_
    rintro e w1 ⟨ja, rfl, hja, hw⟩
    subst hw
    go_wp2_with fail
    refine (pick_any b nA _ hb (by omega) (by omega)).mono ?_
    rintro e w1 ⟨jb, rfl, hjb, hw⟩
    subst hw
    have R0 : (((w.alloc (Obj.cells #[.string x, .int .i64 a, .int .i64 b, .int .i64 c, .int .i64 n] 61)).alloc (Obj.cells #[.string { data := #[] }, .slice none 0 0] 45)).alloc (Obj.cells #[.string (x.extract 0 20), .slice none 0 0] 45)).heap[w.heap.size]? = some (.cells #[.string x, .int .i64 a, .int .i64 b, .int .i64 c, .int .i64 n] 61 (0, 0)) := by
      rw [Below.heap_alloc _ _ _ (by simp; omega), Below.heap_alloc _ _ _ (by simp)]; exact heap_alloc_new w _
    have Z0 : (((w.alloc (Obj.cells #[.string x, .int .i64 a, .int .i64 b, .int .i64 c, .int .i64 n] 61)).alloc (Obj.cells #[.string { data := #[] }, .slice none 0 0] 45)).alloc (Obj.cells #[.string (x.extract 0 20), .slice none 0 0] 45)).heap[w.heap.size + 1]? = some (.cells #[.string { data := #[] }, .slice none 0 0] 45 (0, 0)) := by
      rw [Below.heap_alloc _ _ _ (by simp)]
      have := heap_alloc_new (w.alloc (Obj.cells #[.string x, .int .i64 a, .int .i64 b, .int .i64 c, .int .i64 n] 61)) (Obj.cells #[.string { data := #[] }, .slice none 0 0] 45)
      simpa using this
    have E0 : (((w.alloc (Obj.cells #[.string x, .int .i64 a, .int .i64 b, .int .i64 c, .int .i64 n] 61)).alloc (Obj.cells #[.string { data := #[] }, .slice none 0 0] 45)).alloc (Obj.cells #[.string (x.extract 0 20), .slice none 0 0] 45)).heap[w.heap.size + 1 + 1]? = some (.cells #[.string (x.extract 0 20), .slice none 0 0] 45 (0, 0)) := new_block2' _ _ _ _ _
    have hb0 : Below w.heap.size w (((w.alloc (Obj.cells #[.string x, .int .i64 a, .int .i64 b, .int .i64 c, .int .i64 n] 61)).alloc (Obj.cells #[.string { data := #[] }, .slice none 0 0] 45)).alloc (Obj.cells #[.string (x.extract 0 20), .slice none 0 0] 45)) := (((Below.refl _ _).alloc (Nat.le_refl _) _).alloc (by simp) _).alloc (by simp; omega) _
    have HS0 : Hid ((((w.alloc (Obj.cells #[.string x, .int .i64 a, .int .i64 b, .int .i64 c, .int .i64 n] 61)).alloc (Obj.cells #[.string { data := #[] }, .slice none 0 0] 45)).alloc (Obj.cells #[.string (x.extract 0 20), .slice none 0 0] 45)).heap.size = w.heap.size + 3) := by show _ = _; simp
    generalize (((w.alloc (Obj.cells #[.string x, .int .i64 a, .int .i64 b, .int .i64 c, .int .i64 n] 61)).alloc (Obj.cells #[.string { data := #[] }, .slice none 0 0] 45)).alloc (Obj.cells #[.string (x.extract 0 20), .slice none 0 0] 45)) = w2 at *
    have r3 : w2.cell? ⟨w.heap.size, 3, none⟩ = some (.int .i64 c) := by rw [cell_of_row w2 _ 3 _ _ _ R0]; rfl
    have r4 : w2.cell? ⟨w.heap.size, 4, none⟩ = some (.int .i64 n) := by rw [cell_of_row w2 _ 4 _ _ _ R0]; rfl
    have e1 : w2.cell? ⟨w.heap.size + 1 + 1, 1, none⟩ = some (.slice none 0 0) := by rw [cell_of_row w2 _ 1 _ _ _ E0]; rfl
    go_wp2_with (at_builtin; refine wpList_append_lies _ rfl _ _ 43 rfl (w.heap.size + 3) 49 i0 (.agg #[.int .i64 0, .int .i64 0]) 2 16 Tryz.underlying43 hi hz0 hz1 hz2 rfl (by decide) (.slice none 0 0) 0 [] rfl (World.ownsRow_nil _ _ _ _) ⟨w2.heap.size, 0, none⟩ 2 2 [.int .i64 (ja : Int), .int .i64 nn, .int .i64 (jb : Int), .int .i64 (-nn)] rfl rfl ?c1 ?c2 ?c3 ?c4 ?c5 ?c6 (w2.heap.size + 1) ?c7 ?_)
    case c1 => exact World.news_of_block (cs := #[.int .i64 (ja : Int), .int .i64 nn, .int .i64 (jb : Int), .int .i64 (-nn)]) (t := 49) (fr := (0, 0)) (heap_alloc_new w2 _)
    case c2 => intro u hu; simp at hu; rcases hu with rfl | rfl | rfl | rfl <;> rfl
    case c3 => omega
    case c4 => unfold maxLen; omega
    case c5 => omega
    case c6 => have := HS0.out; simp; omega
    case c7 => simp
    intro g1 cap1 w5 hown5 hgrow _ hlt5
    have hbk : ∀ j, j < w2.heap.size → w5.heap[j]? = w2.heap[j]? := fun j hj => (hgrow.block j (by simp; omega) (by simp [Value.ownBlock])).trans (Below.heap_alloc _ _ _ hj)
    have hs2 := HS0.out
    have R5 := (hbk w.heap.size (by omega)).trans R0
    have Z5 := (hbk (w.heap.size + 1) (by omega)).trans Z0
    have E5 := (hbk (w.heap.size + 1 + 1) (by omega)).trans E0
    have hb5 : Below w.heap.size w w5 := (hb0.alloc (by omega) _).grown hgrow (by simp; omega) (fun k hk => by simp [Value.ownBlock] at hk)
    have HOwn : Hid (OwnP w5 (w.heap.size + 3) (.slice (some ⟨g1, 0, none⟩) 2 cap1) [⟨(ja : Int), nn⟩, ⟨(jb : Int), -nn⟩]) := hown5
    have q3 : w5.cell? ⟨w.heap.size, 3, none⟩ = some (.int .i64 c) := by rw [cell_of_row w5 _ 3 _ _ _ R5]; rfl
    have qe0 : w5.cell? ⟨w.heap.size + 1 + 1, 0, none⟩ = some (.string (x.extract 0 20)) := by rw [cell_of_row w5 _ 0 _ _ _ E5]; rfl
    have qe1 : w5.cell? ⟨w.heap.size + 1 + 1, 1, none⟩ = some (.slice none 0 0) := by rw [cell_of_row w5 _ 1 _ _ _ E5]; rfl
    have qf1 : w5.frozen? ⟨w.heap.size + 1 + 1, 1, none⟩ = false := by simp [World.frozen?, E5]
    have qz0 : w5.cell? ⟨w.heap.size + 1, 0, none⟩ = some (.string { data := #[] }) := by rw [cell_of_row w5 _ 0 _ _ _ Z5]; rfl
    have qz1 : w5.cell? ⟨w.heap.size + 1, 1, none⟩ = some (.slice none 0 0) := by rw [cell_of_row w5 _ 1 _ _ _ Z5]; rfl
    have qy0 : w5.frozen? ⟨w.heap.size + 1, 0, none⟩ = false := by simp [World.frozen?, Z5]
    have qy1 : w5.frozen? ⟨w.heap.size + 1, 1, none⟩ = false := by simp [World.frozen?, Z5]
    have HF2 : Hid (Sg.EntFine nA ⟨(x.extract 0 20), [⟨(ja : Int), nn⟩, ⟨(jb : Int), -nn⟩]⟩) := ⟨HM.out, by simp, by simp, fun p hp => by simp at hp; rcases hp with rfl | rfl <;> exact ⟨by simp, by simp; omega⟩, by simp [Sg.amtSum]; omega, fun p hp => by simp at hp; rcases hp with rfl | rfl <;> simp <;> omega⟩
    clear hgrow hown5 hbk r3 r4 e1 R0 Z0 E0 hb0 hs2 HS0 hnn
    by_cases hodd : c.tmod 2 = 1
    · have hodd' : (c.tmod 2 == 1) = true := by simp [hodd]
      have hcd : -9223372036854775808 ≤ c.tdiv 2 ∧ c.tdiv 2 ≤ 9223372036854775807 := by
        by_cases h0 : 0 ≤ c
        · rw [Int.tdiv_eq_ediv_of_nonneg h0]; omega
        · have e : c.tdiv 2 = -((-c).tdiv 2) := by rw [Int.neg_tdiv, Int.neg_neg]
          rw [e, Int.tdiv_eq_ediv_of_nonneg (by omega)]; omega
      clear hodd
      go_wp2_with fail
      refine (pick_any (c.tdiv 2) nA _ hcd (by omega) (by omega)).mono ?_
      rintro e w1 ⟨jc, rfl, hjc, hw⟩
      subst hw
      have HO6 : Hid (OwnP (w5.setCell ⟨w.heap.size + 1 + 1, 1, none⟩ (.slice (some ⟨g1, 0, none⟩) 2 cap1)) (w.heap.size + 3) (.slice (some ⟨g1, 0, none⟩) 2 cap1) [⟨(ja : Int), nn⟩, ⟨(jb : Int), -nn⟩]) := ownsRow_setCell_below HOwn.out (by simp) _
      have E6 : (w5.setCell ⟨w.heap.size + 1 + 1, 1, none⟩ (.slice (some ⟨g1, 0, none⟩) 2 cap1)).heap[w.heap.size + 1 + 1]? = some (.cells #[.string (x.extract 0 20), .slice (some ⟨g1, 0, none⟩) 2 cap1] 45 (0, 0)) := by
        rw [heap_setCell_same _ _ _ _ _ _ E5]; rfl
      have Z6 : (w5.setCell ⟨w.heap.size + 1 + 1, 1, none⟩ (.slice (some ⟨g1, 0, none⟩) 2 cap1)).heap[w.heap.size + 1]? = some (.cells #[.string { data := #[] }, .slice none 0 0] 45 (0, 0)) := (Below.heap_setCell _ _ _ _ (by simp)).trans Z5
      have hb6 : Below w.heap.size w (w5.setCell ⟨w.heap.size + 1 + 1, 1, none⟩ (.slice (some ⟨g1, 0, none⟩) 2 cap1)) := hb5.setCell (by simp; omega) _
      clear q3 qe0 qe1 qf1 qz0 qz1 qy0 qy1 R5 Z5 E5 hb5 HOwn
      generalize w5.setCell ⟨w.heap.size + 1 + 1, 1, none⟩ (.slice (some ⟨g1, 0, none⟩) 2 cap1) = w6 at *
      have qe1 : w6.cell? ⟨w.heap.size + 1 + 1, 1, none⟩ = some (.slice (some ⟨g1, 0, none⟩) 2 cap1) := by rw [cell_of_row w6 _ 1 _ _ _ E6]; rfl
      have hz6 := lt_of_block E6
      have hrl := World.ownsRow.lt HO6.out
      have hown6 := HO6.out
      unfold OwnP at hown6
      go_wp2_with (at_builtin; refine wpList_append_lies _ rfl _ _ 43 rfl (w.heap.size + 3) 49 i0 (.agg #[.int .i64 0, .int .i64 0]) 2 16 Tryz.underlying43 hi hz0 hz1 hz2 rfl (by decide) (.slice (some ⟨g1, 0, none⟩) 2 cap1) 2 (pCells [⟨(ja : Int), nn⟩, ⟨(jb : Int), -nn⟩]) rfl (hown6.alloc _) ⟨w6.heap.size, 0, none⟩ 2 2 [.int .i64 (jc : Int), .int .i64 5, .int .i64 (ja : Int), .int .i64 (-5)] rfl rfl ?c1 ?c2 ?c3 ?c4 ?c5 ?c6 (w6.heap.size + 1) ?c7 ?_)
      case c1 => exact World.news_of_block (cs := #[.int .i64 (jc : Int), .int .i64 5, .int .i64 (ja : Int), .int .i64 (-5)]) (t := 49) (fr := (0, 0)) (heap_alloc_new w6 _)
      case c2 => intro u hu; simp at hu; rcases hu with rfl | rfl | rfl | rfl <;> rfl
      case c3 => omega
      case c4 => unfold maxLen; omega
      case c5 => omega
      case c6 => simp; omega
      case c7 => simp
      intro g2 cap2 w7 hown7 hgrow7 _ hlt7
      have hbk : ∀ j, j < w.heap.size + 3 → j < w6.heap.size → w7.heap[j]? = w6.heap[j]? := fun j hj hj2 => (hgrow7.block j (by simp; omega) (fun e => by have := (hrl _ e.symm).1; omega)).trans (Below.heap_alloc _ _ _ hj2)
      have Z7 := (hbk (w.heap.size + 1) (by omega) (by omega)).trans Z6
      have E7 := (hbk (w.heap.size + 1 + 1) (by omega) hz6).trans E6
      have hb7 : Below w.heap.size w w7 := (hb6.alloc hb6.size _).grown hgrow7 (by have := hb6.size; simp; omega) (fun k hk => by have := (hrl _ hk).1; omega)
      have HOwn7 : Hid (OwnP w7 (w.heap.size + 3) (.slice (some ⟨g2, 0, none⟩) 4 cap2) [⟨(ja : Int), nn⟩, ⟨(jb : Int), -nn⟩, ⟨(jc : Int), 5⟩, ⟨(ja : Int), -5⟩]) := hown7
      have pe0 : w7.cell? ⟨w.heap.size + 1 + 1, 0, none⟩ = some (.string (x.extract 0 20)) := by rw [cell_of_row w7 _ 0 _ _ _ E7]; rfl
      have pe1 : w7.cell? ⟨w.heap.size + 1 + 1, 1, none⟩ = some (.slice (some ⟨g1, 0, none⟩) 2 cap1) := by rw [cell_of_row w7 _ 1 _ _ _ E7]; rfl
      have pf1 : w7.frozen? ⟨w.heap.size + 1 + 1, 1, none⟩ = false := by simp [World.frozen?, E7]
      have pz0 : w7.cell? ⟨w.heap.size + 1, 0, none⟩ = some (.string { data := #[] }) := by rw [cell_of_row w7 _ 0 _ _ _ Z7]; rfl
      have pz1 : w7.cell? ⟨w.heap.size + 1, 1, none⟩ = some (.slice none 0 0) := by rw [cell_of_row w7 _ 1 _ _ _ Z7]; rfl
      have py0 : w7.frozen? ⟨w.heap.size + 1, 0, none⟩ = false := by simp [World.frozen?, Z7]
      have py1 : w7.frozen? ⟨w.heap.size + 1, 1, none⟩ = false := by simp [World.frozen?, Z7]
      have HF4 : Hid (Sg.EntFine nA ⟨(x.extract 0 20), [⟨(ja : Int), nn⟩, ⟨(jb : Int), -nn⟩, ⟨(jc : Int), 5⟩, ⟨(ja : Int), -5⟩]⟩) := ⟨HM.out, by simp, by simp, fun p hp => by simp at hp; rcases hp with rfl | rfl | rfl | rfl <;> exact ⟨by simp, by simp; omega⟩, by simp [Sg.amtSum]; omega, fun p hp => by simp at hp; rcases hp with rfl | rfl | rfl | rfl <;> simp <;> omega⟩
      clear hgrow7 hown7 hbk Z6 E6 Z7 E7 hb6 hrl hown6 HO6 qe1 hodd' HF2
      go_wp2_with fail
      refine bodyPost_ret (v := .agg #[.string (x.extract 0 20), .slice (some ⟨g2, 0, none⟩) 4 cap2]) (by simp [results, Tryz.results15, go_sem, pz0, pz1]) rfl ⟨_, _, _, rfl, ?_, HF4.out, ?_⟩
      · exact ownsRow_setCell_below (ownsRow_setCell_below (ownsRow_setCell_below HOwn7.out (by simp) _) (by simp) _) (by simp) _
      · exact ((hb7.setCell (by simp; omega) _).setCell (by simp) _).setCell (by simp) _
    · have hodd' : (c.tmod 2 == 1) = false := by simp [hodd]
      clear hodd
      go_wp2_with fail
      refine bodyPost_ret (v := .agg #[.string (x.extract 0 20), .slice (some ⟨g1, 0, none⟩) 2 cap1]) (by simp [results, Tryz.results15, go_sem, qz0, qz1]) rfl ⟨_, _, _, rfl, ?_, HF2.out, ?_⟩
      · exact ownsRow_setCell_below (ownsRow_setCell_below (ownsRow_setCell_below HOwn.out (by simp) _) (by simp) _) (by simp) _
      · exact ((hb5.setCell (by simp; omega) _).setCell (by simp) _).setCell (by simp) _
  · -- one that is not
    have HM : Hid (x.size ≤ 20) := by show _ ≤ _; omega
    go_enter Tryz.func15, Tryz.ntmps15
    go_wp2_with fail
    refine (pick_any a nA _ ha (by omega) (by omega)).mono ?_
    rintro e w1 ⟨ja, rfl, hja, hw⟩
    subst hw
    go_wp2_with fail
    refine (pick_any b nA _ hb (by omega) (by omega)).mono ?_
    rintro e w1 ⟨jb, rfl, hjb, hw⟩
    subst hw
    have R0 : (((w.alloc (Obj.cells #[.string x, .int .i64 a, .int .i64 b, .int .i64 c, .int .i64 n] 61)).alloc (Obj.cells #[.string { data := #[] }, .slice none 0 0] 45)).alloc (Obj.cells #[.string x, .slice none 0 0] 45)).heap[w.heap.size]? = some (.cells #[.string x, .int .i64 a, .int .i64 b, .int .i64 c, .int .i64 n] 61 (0, 0)) := by
      rw [Below.heap_alloc _ _ _ (by simp; omega), Below.heap_alloc _ _ _ (by simp)]; exact heap_alloc_new w _
    have Z0 : (((w.alloc (Obj.cells #[.string x, .int .i64 a, .int .i64 b, .int .i64 c, .int .i64 n] 61)).alloc (Obj.cells #[.string { data := #[] }, .slice none 0 0] 45)).alloc (Obj.cells #[.string x, .slice none 0 0] 45)).heap[w.heap.size + 1]? = some (.cells #[.string { data := #[] }, .slice none 0 0] 45 (0, 0)) := by
      rw [Below.heap_alloc _ _ _ (by simp)]
      have := heap_alloc_new (w.alloc (Obj.cells #[.string x, .int .i64 a, .int .i64 b, .int .i64 c, .int .i64 n] 61)) (Obj.cells #[.string { data := #[] }, .slice none 0 0] 45)
      simpa using this
    have E0 : (((w.alloc (Obj.cells #[.string x, .int .i64 a, .int .i64 b, .int .i64 c, .int .i64 n] 61)).alloc (Obj.cells #[.string { data := #[] }, .slice none 0 0] 45)).alloc (Obj.cells #[.string x, .slice none 0 0] 45)).heap[w.heap.size + 1 + 1]? = some (.cells #[.string x, .slice none 0 0] 45 (0, 0)) := new_block2' _ _ _ _ _
    have hb0 : Below w.heap.size w (((w.alloc (Obj.cells #[.string x, .int .i64 a, .int .i64 b, .int .i64 c, .int .i64 n] 61)).alloc (Obj.cells #[.string { data := #[] }, .slice none 0 0] 45)).alloc (Obj.cells #[.string x, .slice none 0 0] 45)) := (((Below.refl _ _).alloc (Nat.le_refl _) _).alloc (by simp) _).alloc (by simp; omega) _
    have HS0 : Hid ((((w.alloc (Obj.cells #[.string x, .int .i64 a, .int .i64 b, .int .i64 c, .int .i64 n] 61)).alloc (Obj.cells #[.string { data := #[] }, .slice none 0 0] 45)).alloc (Obj.cells #[.string x, .slice none 0 0] 45)).heap.size = w.heap.size + 3) := by show _ = _; simp
    generalize (((w.alloc (Obj.cells #[.string x, .int .i64 a, .int .i64 b, .int .i64 c, .int .i64 n] 61)).alloc (Obj.cells #[.string { data := #[] }, .slice none 0 0] 45)).alloc (Obj.cells #[.string x, .slice none 0 0] 45)) = w2 at *
    have r3 : w2.cell? ⟨w.heap.size, 3, none⟩ = some (.int .i64 c) := by rw [cell_of_row w2 _ 3 _ _ _ R0]; rfl
    have r4 : w2.cell? ⟨w.heap.size, 4, none⟩ = some (.int .i64 n) := by rw [cell_of_row w2 _ 4 _ _ _ R0]; rfl
    have e1 : w2.cell? ⟨w.heap.size + 1 + 1, 1, none⟩ = some (.slice none 0 0) := by rw [cell_of_row w2 _ 1 _ _ _ E0]; rfl
    go_wp2_with (at_builtin; refine wpList_append_lies _ rfl _ _ 43 rfl (w.heap.size + 3) 49 i0 (.agg #[.int .i64 0, .int .i64 0]) 2 16 Tryz.underlying43 hi hz0 hz1 hz2 rfl (by decide) (.slice none 0 0) 0 [] rfl (World.ownsRow_nil _ _ _ _) ⟨w2.heap.size, 0, none⟩ 2 2 [.int .i64 (ja : Int), .int .i64 nn, .int .i64 (jb : Int), .int .i64 (-nn)] rfl rfl ?c1 ?c2 ?c3 ?c4 ?c5 ?c6 (w2.heap.size + 1) ?c7 ?_)
    case c1 => exact World.news_of_block (cs := #[.int .i64 (ja : Int), .int .i64 nn, .int .i64 (jb : Int), .int .i64 (-nn)]) (t := 49) (fr := (0, 0)) (heap_alloc_new w2 _)
    case c2 => intro u hu; simp at hu; rcases hu with rfl | rfl | rfl | rfl <;> rfl
    case c3 => omega
    case c4 => unfold maxLen; omega
    case c5 => omega
    case c6 => have := HS0.out; simp; omega
    case c7 => simp
    intro g1 cap1 w5 hown5 hgrow _ hlt5
    have hbk : ∀ j, j < w2.heap.size → w5.heap[j]? = w2.heap[j]? := fun j hj => (hgrow.block j (by simp; omega) (by simp [Value.ownBlock])).trans (Below.heap_alloc _ _ _ hj)
    have hs2 := HS0.out
    have R5 := (hbk w.heap.size (by omega)).trans R0
    have Z5 := (hbk (w.heap.size + 1) (by omega)).trans Z0
    have E5 := (hbk (w.heap.size + 1 + 1) (by omega)).trans E0
    have hb5 : Below w.heap.size w w5 := (hb0.alloc (by omega) _).grown hgrow (by simp; omega) (fun k hk => by simp [Value.ownBlock] at hk)
    have HOwn : Hid (OwnP w5 (w.heap.size + 3) (.slice (some ⟨g1, 0, none⟩) 2 cap1) [⟨(ja : Int), nn⟩, ⟨(jb : Int), -nn⟩]) := hown5
    have q3 : w5.cell? ⟨w.heap.size, 3, none⟩ = some (.int .i64 c) := by rw [cell_of_row w5 _ 3 _ _ _ R5]; rfl
    have qe0 : w5.cell? ⟨w.heap.size + 1 + 1, 0, none⟩ = some (.string x) := by rw [cell_of_row w5 _ 0 _ _ _ E5]; rfl
    have qe1 : w5.cell? ⟨w.heap.size + 1 + 1, 1, none⟩ = some (.slice none 0 0) := by rw [cell_of_row w5 _ 1 _ _ _ E5]; rfl
    have qf1 : w5.frozen? ⟨w.heap.size + 1 + 1, 1, none⟩ = false := by simp [World.frozen?, E5]
    have qz0 : w5.cell? ⟨w.heap.size + 1, 0, none⟩ = some (.string { data := #[] }) := by rw [cell_of_row w5 _ 0 _ _ _ Z5]; rfl
    have qz1 : w5.cell? ⟨w.heap.size + 1, 1, none⟩ = some (.slice none 0 0) := by rw [cell_of_row w5 _ 1 _ _ _ Z5]; rfl
    have qy0 : w5.frozen? ⟨w.heap.size + 1, 0, none⟩ = false := by simp [World.frozen?, Z5]
    have qy1 : w5.frozen? ⟨w.heap.size + 1, 1, none⟩ = false := by simp [World.frozen?, Z5]
    have HF2 : Hid (Sg.EntFine nA ⟨x, [⟨(ja : Int), nn⟩, ⟨(jb : Int), -nn⟩]⟩) := ⟨HM.out, by simp, by simp, fun p hp => by simp at hp; rcases hp with rfl | rfl <;> exact ⟨by simp, by simp; omega⟩, by simp [Sg.amtSum]; omega, fun p hp => by simp at hp; rcases hp with rfl | rfl <;> simp <;> omega⟩
    clear hgrow hown5 hbk r3 r4 e1 R0 Z0 E0 hb0 hs2 HS0 hnn
    by_cases hodd : c.tmod 2 = 1
    · have hodd' : (c.tmod 2 == 1) = true := by simp [hodd]
      have hcd : -9223372036854775808 ≤ c.tdiv 2 ∧ c.tdiv 2 ≤ 9223372036854775807 := by
        by_cases h0 : 0 ≤ c
        · rw [Int.tdiv_eq_ediv_of_nonneg h0]; omega
        · have e : c.tdiv 2 = -((-c).tdiv 2) := by rw [Int.neg_tdiv, Int.neg_neg]
          rw [e, Int.tdiv_eq_ediv_of_nonneg (by omega)]; omega
      clear hodd
      go_wp2_with fail
      refine (pick_any (c.tdiv 2) nA _ hcd (by omega) (by omega)).mono ?_
      rintro e w1 ⟨jc, rfl, hjc, hw⟩
      subst hw
      have HO6 : Hid (OwnP (w5.setCell ⟨w.heap.size + 1 + 1, 1, none⟩ (.slice (some ⟨g1, 0, none⟩) 2 cap1)) (w.heap.size + 3) (.slice (some ⟨g1, 0, none⟩) 2 cap1) [⟨(ja : Int), nn⟩, ⟨(jb : Int), -nn⟩]) := ownsRow_setCell_below HOwn.out (by simp) _
      have E6 : (w5.setCell ⟨w.heap.size + 1 + 1, 1, none⟩ (.slice (some ⟨g1, 0, none⟩) 2 cap1)).heap[w.heap.size + 1 + 1]? = some (.cells #[.string x, .slice (some ⟨g1, 0, none⟩) 2 cap1] 45 (0, 0)) := by
        rw [heap_setCell_same _ _ _ _ _ _ E5]; rfl
      have Z6 : (w5.setCell ⟨w.heap.size + 1 + 1, 1, none⟩ (.slice (some ⟨g1, 0, none⟩) 2 cap1)).heap[w.heap.size + 1]? = some (.cells #[.string { data := #[] }, .slice none 0 0] 45 (0, 0)) := (Below.heap_setCell _ _ _ _ (by simp)).trans Z5
      have hb6 : Below w.heap.size w (w5.setCell ⟨w.heap.size + 1 + 1, 1, none⟩ (.slice (some ⟨g1, 0, none⟩) 2 cap1)) := hb5.setCell (by simp; omega) _
      clear q3 qe0 qe1 qf1 qz0 qz1 qy0 qy1 R5 Z5 E5 hb5 HOwn
      generalize w5.setCell ⟨w.heap.size + 1 + 1, 1, none⟩ (.slice (some ⟨g1, 0, none⟩) 2 cap1) = w6 at *
      have qe1 : w6.cell? ⟨w.heap.size + 1 + 1, 1, none⟩ = some (.slice (some ⟨g1, 0, none⟩) 2 cap1) := by rw [cell_of_row w6 _ 1 _ _ _ E6]; rfl
      have hz6 := lt_of_block E6
      have hrl := World.ownsRow.lt HO6.out
      have hown6 := HO6.out
      unfold OwnP at hown6
      go_wp2_with (at_builtin; refine wpList_append_lies _ rfl _ _ 43 rfl (w.heap.size + 3) 49 i0 (.agg #[.int .i64 0, .int .i64 0]) 2 16 Tryz.underlying43 hi hz0 hz1 hz2 rfl (by decide) (.slice (some ⟨g1, 0, none⟩) 2 cap1) 2 (pCells [⟨(ja : Int), nn⟩, ⟨(jb : Int), -nn⟩]) rfl (hown6.alloc _) ⟨w6.heap.size, 0, none⟩ 2 2 [.int .i64 (jc : Int), .int .i64 5, .int .i64 (ja : Int), .int .i64 (-5)] rfl rfl ?c1 ?c2 ?c3 ?c4 ?c5 ?c6 (w6.heap.size + 1) ?c7 ?_)
      case c1 => exact World.news_of_block (cs := #[.int .i64 (jc : Int), .int .i64 5, .int .i64 (ja : Int), .int .i64 (-5)]) (t := 49) (fr := (0, 0)) (heap_alloc_new w6 _)
      case c2 => intro u hu; simp at hu; rcases hu with rfl | rfl | rfl | rfl <;> rfl
      case c3 => omega
      case c4 => unfold maxLen; omega
      case c5 => omega
      case c6 => simp; omega
      case c7 => simp
      intro g2 cap2 w7 hown7 hgrow7 _ hlt7
      have hbk : ∀ j, j < w.heap.size + 3 → j < w6.heap.size → w7.heap[j]? = w6.heap[j]? := fun j hj hj2 => (hgrow7.block j (by simp; omega) (fun e => by have := (hrl _ e.symm).1; omega)).trans (Below.heap_alloc _ _ _ hj2)
      have Z7 := (hbk (w.heap.size + 1) (by omega) (by omega)).trans Z6
      have E7 := (hbk (w.heap.size + 1 + 1) (by omega) hz6).trans E6
      have hb7 : Below w.heap.size w w7 := (hb6.alloc hb6.size _).grown hgrow7 (by have := hb6.size; simp; omega) (fun k hk => by have := (hrl _ hk).1; omega)
      have HOwn7 : Hid (OwnP w7 (w.heap.size + 3) (.slice (some ⟨g2, 0, none⟩) 4 cap2) [⟨(ja : Int), nn⟩, ⟨(jb : Int), -nn⟩, ⟨(jc : Int), 5⟩, ⟨(ja : Int), -5⟩]) := hown7
      have pe0 : w7.cell? ⟨w.heap.size + 1 + 1, 0, none⟩ = some (.string x) := by rw [cell_of_row w7 _ 0 _ _ _ E7]; rfl
      have pe1 : w7.cell? ⟨w.heap.size + 1 + 1, 1, none⟩ = some (.slice (some ⟨g1, 0, none⟩) 2 cap1) := by rw [cell_of_row w7 _ 1 _ _ _ E7]; rfl
      have pf1 : w7.frozen? ⟨w.heap.size + 1 + 1, 1, none⟩ = false := by simp [World.frozen?, E7]
      have pz0 : w7.cell? ⟨w.heap.size + 1, 0, none⟩ = some (.string { data := #[] }) := by rw [cell_of_row w7 _ 0 _ _ _ Z7]; rfl
      have pz1 : w7.cell? ⟨w.heap.size + 1, 1, none⟩ = some (.slice none 0 0) := by rw [cell_of_row w7 _ 1 _ _ _ Z7]; rfl
      have py0 : w7.frozen? ⟨w.heap.size + 1, 0, none⟩ = false := by simp [World.frozen?, Z7]
      have py1 : w7.frozen? ⟨w.heap.size + 1, 1, none⟩ = false := by simp [World.frozen?, Z7]
      have HF4 : Hid (Sg.EntFine nA ⟨x, [⟨(ja : Int), nn⟩, ⟨(jb : Int), -nn⟩, ⟨(jc : Int), 5⟩, ⟨(ja : Int), -5⟩]⟩) := ⟨HM.out, by simp, by simp, fun p hp => by simp at hp; rcases hp with rfl | rfl | rfl | rfl <;> exact ⟨by simp, by simp; omega⟩, by simp [Sg.amtSum]; omega, fun p hp => by simp at hp; rcases hp with rfl | rfl | rfl | rfl <;> simp <;> omega⟩
      clear hgrow7 hown7 hbk Z6 E6 Z7 E7 hb6 hrl hown6 HO6 qe1 hodd' HF2
      go_wp2_with fail
      refine bodyPost_ret (v := .agg #[.string x, .slice (some ⟨g2, 0, none⟩) 4 cap2]) (by simp [results, Tryz.results15, go_sem, pz0, pz1]) rfl ⟨_, _, _, rfl, ?_, HF4.out, ?_⟩
      · exact ownsRow_setCell_below (ownsRow_setCell_below (ownsRow_setCell_below HOwn7.out (by simp) _) (by simp) _) (by simp) _
      · exact ((hb7.setCell (by simp; omega) _).setCell (by simp) _).setCell (by simp) _
    · have hodd' : (c.tmod 2 == 1) = false := by simp [hodd]
      clear hodd
      go_wp2_with fail
      refine bodyPost_ret (v := .agg #[.string x, .slice (some ⟨g1, 0, none⟩) 2 cap1]) (by simp [results, Tryz.results15, go_sem, qz0, qz1]) rfl ⟨_, _, _, rfl, ?_, HF2.out, ?_⟩
      · exact ownsRow_setCell_below (ownsRow_setCell_below (ownsRow_setCell_below HOwn.out (by simp) _) (by simp) _) (by simp) _
      · exact ((hb5.setCell (by simp; omega) _).setCell (by simp) _).setCell (by simp) _
end Go.Proofs.YtpkkhkkkgjhkeabGreat

/-
  signetkeep.chart: the accounts that are made (its walk is not done).
-/
namespace Go.Proofs.YtpkkhkkkgjhkeabGreat
open Go.RowKit
set_option maxRecDepth 100000
attribute [local go_sem ↓] Go.wp_at_zero Go.wp_at_succ

theorem Tryz.infoAcc2 : (Tryz.prog.info? 47).map (fun i => (i.zero, i.size, i.bytes)) = some (some (.agg #[.string ByteArray.empty, .int .i64 0]), 2, 24) := by kernel_rfl
/-- Accounts, cell by cell. -/
def aCells (ac : List Sg.Acc) : List Value := ac.flatMap fun a => [.string a.name, .int .i64 a.line]
theorem aCells_snoc (ac : List Sg.Acc) (a : Sg.Acc) : aCells (ac ++ [a]) = aCells ac ++ [.string a.name, .int .i64 a.line] := by unfold aCells; rw [List.flatMap_append]; simp
def OwnA (w : World) (base : Nat) (v : Value) (ac : List Sg.Acc) : Prop := w.ownsRow base 47 2 v ac.length (aCells ac)
theorem OwnA.below {w w' : World} {base : Nat} {v : Value} {ac : List Sg.Acc} (h : OwnA w base v ac) (hb : Below w.heap.size w w') : OwnA w' base v ac := ownsRow_below h hb

/-- The name of an account that is made. -/
def keepName (i : Nat) : ByteArray := ({ data := #[97, 99, 99, 111, 117, 110, 116, 32] } : ByteArray) ++ ⟨#[UInt8.ofNat (97 + i)]⟩
theorem keepName_size (i : Nat) : (keepName i).size = 9 := by unfold keepName; rw [ByteArray.size_append]; rfl
theorem keepName_inj {i j : Nat} (hi : i < 8) (hj : j < 8) (h : keepName i = keepName j) : i = j := by
  have := congrArg (fun b : ByteArray => b.data.toList) h
  simp [keepName] at this
  have h2 := congrArg UInt8.toNat this
  simp at h2
  omega
/-- A chart so far. -/
def ChartTo (ac : List Sg.Acc) : Prop := ∀ i (h : i < ac.length), ac[i].name = keepName i ∧ 0 ≤ ac[i].line ∧ ac[i].line ≤ 3
theorem ChartTo.snoc {ac : List Sg.Acc} (h : ChartTo ac) {l : Int} (hl : 0 ≤ l ∧ l ≤ 3) : ChartTo (ac ++ [⟨keepName ac.length, l⟩]) := fun i hi => by
  rw [List.length_append, List.length_cons, List.length_nil] at hi
  by_cases e : i = ac.length
  · subst e
    rw [List.getElem_append_right (by omega)]
    simpa using hl
  · rw [List.getElem_append_left (by omega)]
    exact h i (by omega)
theorem ChartTo.ok {ac : List Sg.Acc} (h : ChartTo ac) (h8 : ac.length ≤ 8) : Sg.accsOk ac = true := by
  rw [Sg.accsOk_iff]
  intro i hi _
  obtain ⟨h1, h2, h3⟩ := h i hi
  refine ⟨decide_eq_true ⟨by rw [h1, keepName_size]; omega, by rw [h1, keepName_size]; omega, h2, h3⟩, fun j hj hji e => ?_⟩
  rw [(h j hj).1, h1] at e
  have := keepName_inj (by omega) (by omega) e
  omega
theorem keepByte (i : Nat) (hi : i < 8) : Sg.beL (97 + i : Int) 1 = [UInt8.ofNat (97 + i)] := by
  simp only [Sg.beL]
  have : (((97 + i : Int)) % 18446744073709551616).toNat / 256 ^ 0 % 256 = 97 + i := by omega
  rw [this]

theorem shr_bd (c : Int) (m : Nat) (hc : -9223372036854775808 ≤ c ∧ c ≤ 9223372036854775807) : -9223372036854775808 ≤ c / 2 ^ m ∧ c / 2 ^ m ≤ 9223372036854775807 := by
  have hp : (1 : Int) ≤ 2 ^ m := by
    have : (0 : Int) < 2 ^ m := Int.pow_pos (by decide)
    omega
  constructor
  · refine Int.le_trans ?_ (Int.ediv_le_ediv (by omega) hc.1)
    rw [Int.le_ediv_iff_mul_le (by omega)]
    omega
  · by_cases h0 : 0 ≤ c
    · exact Int.le_trans (Int.ediv_le_self _ h0) hc.2
    · have : c / 2 ^ m < 0 := Int.ediv_neg_of_neg_of_pos (by omega) (by omega)
      omega
set_option maxHeartbeats 3200000 in
/-- chart. -/
theorem keepChart_any (c : Int) (w : World) (hc : -9223372036854775808 ≤ c ∧ c ≤ 9223372036854775807) :
    Calls Tryz.prog 14 #[.int .i64 c] w fun e w' => ∃ v ac, e = .returned v ∧ Hid (OwnA w' w.heap.size v ac) ∧ ChartTo ac ∧ (2 ≤ ac.length ∧ ac.length ≤ 8) ∧ Below w.heap.size w w' := by
  obtain ⟨i0, hi, hz0, hz1, hz2⟩ := info_parts Tryz.infoAcc2
  go_enter Tryz.func14, Tryz.ntmps14
  go_wp2_with fail
  refine (pick_any c 7 _ hc (by omega) (by omega)).mono ?_
  rintro e w1 ⟨j, rfl, hj, hw⟩
  have hw' := hw.symm
  subst hw'
  clear hw
  obtain ⟨n, hn⟩ : ∃ n : Nat, n = 2 + j := ⟨_, rfl⟩
  have hwn : IntKind.i64.wrap (2 + (j : Int)) = (n : Int) := by rw [IntWalk.i64_in _ (by omega)]; omega
  have hn2 : 2 ≤ n := by omega
  have hn8 : n ≤ 8 := by omega
  clear hn hj
  go_wp2_with fail
  go_loopw [3, 5] (fun o i wr => ∃ k : Nat, k ≤ n ∧ i = .int .i64 (k : Int) ∧ ∃ v ac, v = o ∧ Hid (OwnA wr w.heap.size v ac) ∧ Hid (ChartTo ac) ∧ ac.length = k ∧ Below w.heap.size w wr) (fun _ i _ => n - (intOf i).toNat)
  case atStart => exact ⟨0, by omega, rfl, _, [], rfl, World.ownsRow_nil _ _ _ _, fun i hi => absurd hi (by simp), rfl, Below.refl _ _⟩
  case round =>
    obtain ⟨k, hk, rfl, v, ac, ev, HO, HC, hlen, hbr⟩ := hrel
    subst ev
    obtain ⟨wz, ewz⟩ : ∃ z : World, z = wr := ⟨_, rfl⟩
    subst ewz
    have hsz := hbr.size
    by_cases hlt : k < n
    · have hw97 : IntKind.i64.wrap (97 + (k : Int)) = 97 + (k : Int) := IntWalk.i64_in _ (by omega)
      have hw2k : IntKind.i64.wrap (2 * (k : Int)) = 2 * (k : Int) := IntWalk.i64_in _ (by omega)
      have i1 : (k : Int) < (n : Int) := by omega
      have i2 : (0 : Int) ≤ 2 * (k : Int) := by omega
      have i3 : ¬ (2 * (k : Int)) < 0 := by omega
      have hown := HO.out
      unfold OwnA at hown
      have hw8 : IntKind.u8.wrap (97 + (k : Int)) = 97 + (k : Int) := by simp [IntKind.wrap, IntKind.bits, IntKind.signed]; omega
      obtain ⟨kb, hkb⟩ : ∃ kb, kb = UInt8.ofNat (97 + k) := ⟨_, rfl⟩
      have hkn : kb.toNat = 97 + k := by rw [hkb]; simp; omega
      have HNm : Hid (keepName k = ({ data := #[97, 99, 99, 111, 117, 110, 116, 32] } : ByteArray) ++ ⟨#[kb]⟩) := by show _ = _; rw [hkb]; rfl
      have hcv : (convert 54 9 (.slice (some ⟨wz.heap.size, 0, none⟩) 1 1)).run Tryz.prog (wz.alloc (.cells #[.int .u8 (97 + (k : Int))] 5)).drew = .ok (.string ⟨#[kb]⟩) (wz.alloc (.cells #[.int .u8 (97 + (k : Int))] 5)).drew := by
        refine run_convert_bytes_back (P := Tryz.prog) _ 54 9 5 ⟨wz.heap.size, 0, none⟩ 1 [kb] Tryz.underlying54 Tryz.underlying5 Tryz.underlying9 ?_
        intro j hj
        match j, hj with
        | 0, _ =>
          simp only [List.getElem_cons_zero, hkn]
          simp [Addr.add]
      have hcat := cat ({ data := #[97, 99, 99, 111, 117, 110, 116, 32] } : ByteArray) ⟨#[kb]⟩ (by show 8 + 1 ≤ _; omega)
      obtain ⟨nm, hnm⟩ : ∃ nm, ({ data := #[97, 99, 99, 111, 117, 110, 116, 32] } : ByteArray) ++ ⟨#[kb]⟩ = nm := ⟨_, rfl⟩
      rw [hnm] at hcat HNm
      rw [hlen] at hown
      have HLen : Hid (ac.length = k) := hlen
      clear hnm hkb hkn hlen
      go_wp2_with fail
      go_region_law (first
          | (rw [if_pos (by simp [Region.wanted])]; go_simp; go_at_call 8; refine (pick_any _ 4 _ (shr_bd c _ hc) (by omega) (by omega)).mono ?_; rintro e w2 ⟨l, rfl, hl, hw2⟩; have hw2' := hw2.symm; subst hw2'; clear hw2)
          | (refine step_append_lies _ (by rfl) _ _ _ (by rfl) w.heap.size 47 i0 _ 2 24 Tryz.underlying23 hi hz0 hz1 hz2 rfl (by omega) _ k (aCells ac) (by rfl) (by first | exact ((hown.alloc _).alloc _).drew | exact ((hown.alloc _).drew.alloc _) | exact ((hown.alloc _).alloc _)) ⟨wz.heap.size + 1, 0, none⟩ 1 1 [.string nm, .int .i64 (l : Int)] (by rfl) (by rfl) (by exact World.news_of_block (cs := #[.string nm, .int .i64 (l : Int)]) (t := 47) (fr := (0, 0)) (new_block2 wz _ _ _)) (by simp [Value.oneCell']) (by omega) (by unfold maxLen; omega) (by omega) (by simp; omega) (wz.heap.size + 2) (by simp) ?_; intro g cap' w5 hown5 hgrow hat5 hlt5))
      all_goals
        have hbe : Below w.heap.size w w5 := Below.grown (by first | exact ((hbr.alloc hsz _).alloc (by simp; omega) _).drew | exact (hbr.alloc hsz _).drew.alloc (by simp; omega) _ | exact (hbr.alloc hsz _).alloc (by simp; omega) _) hgrow (by simp; omega) (fun q hq => (World.ownsRow.lt hown q hq).1)
        have HOn : Hid (OwnA w5 w.heap.size (.slice (some ⟨g, 0, none⟩) (k + 1) cap') (ac ++ [⟨nm, (l : Int)⟩])) := by
          show OwnA _ _ _ _
          unfold OwnA
          rw [aCells_snoc, List.length_append, HLen.out]
          exact hown5
        have HCn : Hid (ChartTo (ac ++ [⟨nm, (l : Int)⟩])) := by
          have := HC.out.snoc (l := (l : Int)) (by omega)
          rw [HLen.out, HNm.out] at this
          exact this
        have hln : (ac ++ [(⟨nm, (l : Int)⟩ : Sg.Acc)]).length = k + 1 := by rw [List.length_append, HLen.out]; rfl
        have HLn : Hid ((ac ++ [(⟨nm, (l : Int)⟩ : Sg.Acc)]).length = k + 1) := hln
        clear hown5 hgrow hown HO HC hat5 hcv hcat hln
        go_wp2_with fail
        go_roundw
        case rel => exact ⟨k + 1, by omega, by go_num, _, _, rfl, HOn, HCn, HLn.out, hbe⟩
        case measure => simp [intOf]; omega
    · have hkn : k = n := by omega
      have HL : Hid (2 ≤ ac.length ∧ ac.length ≤ 8) := by show _ ∧ _; omega
      clear hlen
      go_wp2_with fail
      go_ret
      exact ⟨_, _, rfl, HO, HC.out, HL.out, hbr⟩
end Go.Proofs.YtpkkhkkkgjhkeabGreat

/-
  ROWS OF ROWS: the lists that signetkeep.made makes: an append writes only blocks of its own element type.
-/
namespace Go.Proofs.YtpkkhkkkgjhkeabGreat
open Go.RowKit
set_option maxRecDepth 100000

/-- What is of another type stays. -/
def KeptT (t : TypeId) (w w' : World) : Prop := ∀ (k : Nat) (cs : Array Value) (t' : TypeId) (fz : Nat × Nat), w.heap[k]? = some (Obj.cells cs t' fz) → t' ≠ t → w'.heap[k]? = some (Obj.cells cs t' fz)
theorem KeptT.trans {t : TypeId} {a b c : World} (h : KeptT t a b) (k : KeptT t b c) : KeptT t a c := fun i cs t' fz hi ht => k i cs t' fz (h i cs t' fz hi ht) ht
theorem keptT_below (t : TypeId) {w w' : World} (h : Below w.heap.size w w') : KeptT t w w' := fun k _ _ _ hk _ => (h.block k (lt_of_block hk)).trans hk
theorem keptT_append {W w' : World} {B : Nat} {e : TypeId} {sz n : Nat} {v : Value} {xs : List Value} (hown : W.ownsRow B e sz v n xs) (hg : W.grownBy w' v.ownBlock) : KeptT e W w' := fun k cs t' fz hk ht => by
  refine (hg.block k (lt_of_block hk) (fun e' => ?_)).trans hk
  rcases hown.2 with ⟨rfl, _⟩ | ⟨g, cap, cur, rfl, _, hh, _⟩
  · simp [Value.ownBlock] at e'
  · simp only [Value.ownBlock, Option.some.injEq] at e'
    subst e'
    rw [hk] at hh
    simp only [Option.some.injEq, Obj.cells.injEq] at hh
    exact ht hh.2.1
theorem keptT_setCell {w : World} {g j : Nat} {u : Value} {cur : Array Value} {t : TypeId} {fz : Nat × Nat} (hg : w.heap[g]? = some (.cells cur t fz)) : KeptT t w (w.setCell ⟨g, j, none⟩ u) := fun k cs t' fz' hk ht => by
  refine (Below.heap_setCell _ _ _ _ (fun e => ?_)).trans hk
  have e' : k = g := e
  subst e'
  rw [hg] at hk
  simp only [Option.some.injEq, Obj.cells.injEq] at hk
  exact ht hk.2.1.symm
theorem ownsRow_keptT {w w' : World} {B : Nat} {e t : TypeId} {sz n : Nat} {v : Value} {xs : List Value} (h : w.ownsRow B e sz v n xs) (hk : KeptT t w w') (hne : e ≠ t) : w'.ownsRow B e sz v n xs := by
  refine ⟨h.1, ?_⟩
  rcases h.2 with h0 | ⟨g, cap, cur, h1, h2, h3, h4⟩
  · exact Or.inl h0
  · exact Or.inr ⟨g, cap, cur, h1, h2, hk g cur e (0, 0) h3 hne, h4⟩

/-- Entries, cell by cell. -/
def eCells (es : List Sg.Ent) (us : List Value) : List Value := (es.zip us).flatMap fun x => [.string x.1.memo, x.2]
theorem eCells_snoc (es : List Sg.Ent) (us : List Value) (e : Sg.Ent) (u : Value) (h : us.length = es.length) : eCells (es ++ [e]) (us ++ [u]) = eCells es us ++ [.string e.memo, u] := by
  unfold eCells
  rw [List.zip_append h.symm, List.flatMap_append]; simp
theorem eCells_at : ∀ (es : List Sg.Ent) (us : List Value) (h : us.length = es.length) (i : Nat) (hi : i < es.length), (eCells es us)[i * 2]? = some (.string es[i].memo) ∧ (eCells es us)[i * 2 + 1]? = some (us[i]'(by omega))
  | e :: es, u :: us, _, 0, _ => ⟨rfl, rfl⟩
  | e :: es, u :: us, h, i + 1, hi => by
    have ih := eCells_at es us (by simpa using h) i (by simpa using hi)
    have e1 : eCells (e :: es) (u :: us) = [.string e.memo, u] ++ eCells es us := rfl
    rw [e1, List.getElem?_append_right (by simp; omega), List.getElem?_append_right (by simp; omega)]
    simpa [show (i + 1) * 2 - 2 = i * 2 by omega, show (i + 1) * 2 + 1 - 2 = i * 2 + 1 by omega] using ih
/-- A list of entries of the call's own, their postings too. -/
def OwnE (w : World) (B : Nat) (v : Value) (es : List Sg.Ent) : Prop :=
  ∃ us : List Value, us.length = es.length ∧ w.ownsRow B 45 2 v es.length (eCells es us) ∧ ∀ i (h : i < es.length) (h2 : i < us.length), OwnP w B us[i] es[i].posts
theorem OwnE.nil (w : World) (B : Nat) : OwnE w B (.slice none 0 0) [] := ⟨[], rfl, World.ownsRow_nil _ _ _ _, fun i h => absurd h (by simp)⟩
theorem OwnE.keptT {w w' : World} {B : Nat} {v : Value} {es : List Sg.Ent} {t : TypeId} (h : OwnE w B v es) (hk : KeptT t w w') (h1 : 45 ≠ t) (h2 : 49 ≠ t) : OwnE w' B v es := by
  obtain ⟨us, a, b, c⟩ := h
  exact ⟨us, a, ownsRow_keptT b hk h1, fun i hi hi2 => ownsRow_keptT (c i hi hi2) hk h2⟩
theorem OwnE.below {w w' : World} {B : Nat} {v : Value} {es : List Sg.Ent} (h : OwnE w B v es) (hb : Below w.heap.size w w') : OwnE w' B v es := by
  obtain ⟨us, a, b, c⟩ := h
  exact ⟨us, a, ownsRow_below b hb, fun i hi hi2 => ownsRow_below (c i hi hi2) hb⟩
theorem OwnE.in_ {w : World} {B : Nat} {v : Value} {es : List Sg.Ent} (h : OwnE w B v es) : ∃ ao cap, v = .slice ao es.length cap ∧ es.length ≤ cap ∧ cap ≤ maxLen ∧ EntsIn w ao es := by
  obtain ⟨us, a, b, c⟩ := h
  have hk := b
  rcases b.2 with ⟨rfl, h0⟩ | ⟨g, cap, cur, rfl, _, hh, hle, hm, _, _⟩
  · exact ⟨none, 0, by rw [h0], by omega, by unfold maxLen; omega, Or.inl h0⟩
  · refine ⟨_, cap, rfl, hle, hm, Or.inr ⟨g, 0, rfl, lt_of_block hh, fun i hi => ?_⟩⟩
    obtain ⟨e1, e2⟩ := eCells_at es us a i hi
    rw [Nat.zero_add, World.ownsRow.cellAt hk (i * 2) (by omega), World.ownsRow.cellAt hk (i * 2 + 1) (by omega), e1, e2]
    have hp := c i hi (by omega)
    have hpk := hp
    rcases hp.2 with ⟨hv, h0⟩ | ⟨g', cap', cur', hv, _, hh', hle', _, _, _⟩
    · exact ⟨rfl, none, 0, by rw [hv, h0], Or.inl h0⟩
    · refine ⟨rfl, some ⟨g', 0, none⟩, cap', by rw [hv], Or.inr ⟨g', 0, rfl, lt_of_block hh', fun j hj => ?_⟩⟩
      rw [hv] at hpk
      obtain ⟨p1, p2⟩ := pCells_at es[i].posts j hj
      rw [Nat.zero_add, World.ownsRow.cellAt hpk (j * 2) (by omega), World.ownsRow.cellAt hpk (j * 2 + 1) (by omega)]
      exact ⟨p1, p2⟩
where
  pCells_at : ∀ (ps : List Sg.Pst) (i : Nat) (hi : i < ps.length), (pCells ps)[i * 2]? = some (.int .i64 ps[i].acct) ∧ (pCells ps)[i * 2 + 1]? = some (.int .i64 ps[i].amt)
    | p :: ps, 0, _ => ⟨rfl, rfl⟩
    | p :: ps, i + 1, hi => by
      have ih := pCells_at ps i (by simpa using hi)
      have e1 : pCells (p :: ps) = [.int .i64 p.acct, .int .i64 p.amt] ++ pCells ps := rfl
      rw [e1, List.getElem?_append_right (by simp; omega), List.getElem?_append_right (by simp; omega)]
      simpa [show (i + 1) * 2 - 2 = i * 2 by omega, show (i + 1) * 2 + 1 - 2 = i * 2 + 1 by omega] using ih
/-- An entry more. -/
theorem OwnE.push {W w' : World} {B : Nat} {v v' u : Value} {es : List Sg.Ent} {us : List Value} {e : Sg.Ent} (hlen : us.length = es.length) (hrow : W.ownsRow B 45 2 v es.length (eCells es us)) (hps : ∀ i (h : i < es.length) (h2 : i < us.length), OwnP W B us[i] es[i].posts) (hu : OwnP W B u e.posts)
    (hg : W.grownBy w' v.ownBlock) (hown : w'.ownsRow B 45 2 v' (es.length + 1) (eCells es us ++ [.string e.memo, u])) : OwnE w' B v' (es ++ [e]) := by
  have hk := keptT_append hrow hg
  refine ⟨us ++ [u], by simp [hlen], ?_, fun i hi hi2 => ?_⟩
  · rw [eCells_snoc es us e u hlen, List.length_append]
    exact hown
  · rw [List.length_append, List.length_cons, List.length_nil] at hi
    by_cases e1 : i = es.length
    · subst e1
      rw [List.getElem_append_right (by omega), List.getElem_append_right (by omega)]
      simp only [hlen, Nat.sub_self, List.getElem_cons_zero]
      exact ownsRow_keptT hu hk (by decide)
    · rw [List.getElem_append_left (by omega), List.getElem_append_left (by omega)]
      exact ownsRow_keptT (hps i (by omega) (by omega)) hk (by decide)

/-- A list of periods of the call's own. -/
def OwnPs (w : World) (B : Nat) (v : Value) (ps : List (List Sg.Ent)) : Prop :=
  ∃ us : List Value, us.length = ps.length ∧ w.ownsRow B 42 1 v ps.length us ∧ ∀ i (h : i < ps.length) (h2 : i < us.length), OwnE w B us[i] ps[i]
theorem OwnPs.nil (w : World) (B : Nat) : OwnPs w B (.slice none 0 0) [] := ⟨[], rfl, World.ownsRow_nil _ _ _ _, fun i h => absurd h (by simp)⟩
theorem OwnPs.keptT {w w' : World} {B : Nat} {v : Value} {ps : List (List Sg.Ent)} {t : TypeId} (h : OwnPs w B v ps) (hk : KeptT t w w') (h0 : 42 ≠ t) (h1 : 45 ≠ t) (h2 : 49 ≠ t) : OwnPs w' B v ps := by
  obtain ⟨us, a, b, c⟩ := h
  exact ⟨us, a, ownsRow_keptT b hk h0, fun i hi hi2 => (c i hi hi2).keptT hk h1 h2⟩
theorem OwnPs.below {w w' : World} {B : Nat} {v : Value} {ps : List (List Sg.Ent)} (h : OwnPs w B v ps) (hb : Below w.heap.size w w') : OwnPs w' B v ps := by
  obtain ⟨us, a, b, c⟩ := h
  exact ⟨us, a, ownsRow_below b hb, fun i hi hi2 => (c i hi hi2).below hb⟩
theorem OwnPs.in_ {w : World} {B : Nat} {v : Value} {ps : List (List Sg.Ent)} (h : OwnPs w B v ps) : ∃ ao cap, v = .slice ao ps.length cap ∧ ps.length ≤ cap ∧ PersIn w ao ps := by
  obtain ⟨us, a, b, c⟩ := h
  have hk := b
  rcases b.2 with ⟨rfl, h0⟩ | ⟨g, cap, cur, rfl, _, hh, hle, hm, _, _⟩
  · exact ⟨none, 0, by rw [h0], by omega, Or.inl h0⟩
  · refine ⟨_, cap, rfl, hle, Or.inr ⟨g, 0, rfl, lt_of_block hh, fun i hi => ?_⟩⟩
    obtain ⟨ao, cap', hv, _, _, hin⟩ := (c i hi (by omega)).in_
    refine ⟨ao, cap', ?_, hin⟩
    rw [Nat.zero_add, World.ownsRow.cellAt hk i (by omega), List.getElem?_eq_getElem (by omega), hv]
/-- A period more. -/
theorem OwnPs.push {W w' : World} {B : Nat} {v v' u : Value} {ps : List (List Sg.Ent)} {us : List Value} {p : List Sg.Ent} (hlen : us.length = ps.length) (hrow : W.ownsRow B 42 1 v ps.length us) (hes : ∀ i (h : i < ps.length) (h2 : i < us.length), OwnE W B us[i] ps[i]) (hu : OwnE W B u p)
    (hg : W.grownBy w' v.ownBlock) (hown : w'.ownsRow B 42 1 v' (ps.length + 1) (us ++ [u])) : OwnPs w' B v' (ps ++ [p]) := by
  have hk := keptT_append hrow hg
  refine ⟨us ++ [u], by simp [hlen], ?_, fun i hi hi2 => ?_⟩
  · rw [List.length_append]
    exact hown
  · rw [List.length_append, List.length_cons, List.length_nil] at hi
    by_cases e1 : i = ps.length
    · subst e1
      rw [List.getElem_append_right (by omega), List.getElem_append_right (by omega)]
      simp only [hlen, Nat.sub_self, List.getElem_cons_zero]
      exact hu.keptT hk (by decide) (by decide)
    · rw [List.getElem_append_left (by omega), List.getElem_append_left (by omega)]
      exact (hes i (by omega) (by omega)).keptT hk (by decide) (by decide)
theorem OwnA.keptT {w w' : World} {B : Nat} {v : Value} {ac : List Sg.Acc} {t : TypeId} (h : OwnA w B v ac) (hk : KeptT t w w') (h0 : 47 ≠ t) : OwnA w' B v ac := ownsRow_keptT h hk h0
theorem aCells_at : ∀ (ac : List Sg.Acc) (i : Nat) (hi : i < ac.length), (aCells ac)[i * 2]? = some (.string ac[i].name) ∧ (aCells ac)[i * 2 + 1]? = some (.int .i64 ac[i].line)
  | a :: ac, 0, _ => ⟨rfl, rfl⟩
  | a :: ac, i + 1, hi => by
    have ih := aCells_at ac i (by simpa using hi)
    have e1 : aCells (a :: ac) = [.string a.name, .int .i64 a.line] ++ aCells ac := rfl
    rw [e1, List.getElem?_append_right (by simp; omega), List.getElem?_append_right (by simp; omega)]
    simpa [show (i + 1) * 2 - 2 = i * 2 by omega, show (i + 1) * 2 + 1 - 2 = i * 2 + 1 by omega] using ih
theorem OwnA.in_ {w : World} {B : Nat} {v : Value} {ac : List Sg.Acc} (h : OwnA w B v ac) : ∃ ao cap, v = .slice ao ac.length cap ∧ ac.length ≤ cap ∧ cap ≤ maxLen ∧ AccsIn w ao ac := by
  have hk := h
  rcases h.2 with ⟨rfl, h0⟩ | ⟨g, cap, cur, rfl, _, hh, hle, hm, _, _⟩
  · exact ⟨none, 0, by rw [h0], by omega, by unfold maxLen; omega, Or.inl h0⟩
  · refine ⟨_, cap, rfl, hle, hm, Or.inr ⟨g, 0, rfl, lt_of_block hh, fun i hi => ?_⟩⟩
    obtain ⟨e1, e2⟩ := aCells_at ac i hi
    rw [Nat.zero_add, World.ownsRow.cellAt hk (i * 2) (by omega), World.ownsRow.cellAt hk (i * 2 + 1) (by omega)]
    exact ⟨e1, e2⟩
end Go.Proofs.YtpkkhkkkgjhkeabGreat
