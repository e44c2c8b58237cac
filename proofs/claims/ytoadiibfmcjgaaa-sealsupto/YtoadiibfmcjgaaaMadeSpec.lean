/-
  PLAIN MATHEMATICS OF signetkeep's HISTORIES: what is made can be sealed; what is spoilt is refused.
-/
import Derived.Test.YtoadiibfmcjgaaaBal
namespace Go.Proofs.Ytoadiibfmcjgaaa.Sg

/-- An entry that is balanced, of small amounts. -/
structure EntFine (nA : Nat) (e : Ent) : Prop where
  memo : e.memo.size ≤ 20
  some_ : 1 ≤ e.posts.length
  few : e.posts.length ≤ 4
  accts : ∀ p ∈ e.posts, acctOk nA p
  zero : amtSum e.posts = 0
  small : ∀ p ∈ e.posts, -2199023255552 ≤ p.amt ∧ p.amt ≤ 2199023255552
structure MadeOk (h : Hist) : Prop where
  accs : 2 ≤ h.accs.length ∧ h.accs.length ≤ 8
  chart : accsOk h.accs = true
  pers : 1 ≤ h.pers.length ∧ h.pers.length ≤ 6
  ents : ∀ p ∈ h.pers, p.length ≤ 12 ∧ ∀ e ∈ p, EntFine h.accs.length e

def Bd (b : Int) (l : List Int) : Prop := ∀ v ∈ l, -b ≤ v ∧ v ≤ b
theorem Bd.mono {b c : Int} {l : List Int} (h : Bd b l) (hc : b ≤ c) : Bd c l := fun v hv => by have := h v hv; omega
theorem comes_bd {b n : Int} {l : List Int} {i : Nat} (h : Bd b l) (hb : 0 ≤ b) (hn : -2199023255552 ≤ n ∧ n ≤ 2199023255552) : Bd (b + 2199023255552) (comes l i n) := by
  intro v hv
  unfold comes at hv
  rcases List.mem_or_eq_of_mem_set hv with hv | rfl
  · have := h v hv; omega
  · rw [List.getD_eq_getElem?_getD]
    by_cases hi : i < l.length
    · rw [List.getElem?_eq_getElem hi]
      have := h l[i] (List.getElem_mem hi)
      simp only [Option.getD_some]
      omega
    · rw [List.getElem?_eq_none (by omega)]
      simp only [Option.getD_none]
      omega
theorem comesAll_bd : ∀ (ps : List Pst) (now : List Int) (b : Int), Bd b now → 0 ≤ b → (∀ p ∈ ps, -2199023255552 ≤ p.amt ∧ p.amt ≤ 2199023255552) → Bd (b + 2199023255552 * ps.length) (comesAll ps now)
  | [], now, b, h, _, _ => by simpa [comesAll] using h
  | p :: ps, now, b, h, hb, hs => by
    have h1 := comes_bd (i := p.acct.toNat) h hb (hs p (by simp))
    have h2 := comesAll_bd ps _ _ h1 (by omega) (fun q hq => hs q (by simp [hq]))
    have e : comesAll (p :: ps) now = comesAll ps (comes now p.acct.toNat p.amt) := rfl
    rw [e]
    refine h2.mono ?_
    simp only [List.length_cons]; push_cast; omega
theorem linesAll_bd (ac : List Acc) : ∀ (ps : List Pst) (tot : List Int) (b : Int), Bd b tot → 0 ≤ b → (∀ p ∈ ps, -2199023255552 ≤ p.amt ∧ p.amt ≤ 2199023255552) → Bd (b + 2199023255552 * ps.length) (linesAll ac ps tot)
  | [], tot, b, h, _, _ => by simpa [linesAll] using h
  | p :: ps, tot, b, h, hb, hs => by
    have h1 := comes_bd (i := (lineOf ac p.acct).toNat) h hb (hs p (by simp))
    have h2 := linesAll_bd ac ps _ _ h1 (by omega) (fun q hq => hs q (by simp [hq]))
    have e : linesAll ac (p :: ps) tot = linesAll ac ps (comes tot (lineOf ac p.acct).toNat p.amt) := rfl
    rw [e]
    refine h2.mono ?_
    simp only [List.length_cons]; push_cast; omega
theorem fits_of_bd {b : Int} {l : List Int} (h : Bd b l) (hb : b ≤ 4611686018427387904) : l.any (fun v => !fits v) = false := by
  rw [List.any_eq_false]
  intro v hv
  have := h v hv
  have hf : fits v = true := decide_eq_true (by omega)
  simp [hf]
theorem entErr_fine {nA : Nat} {e : Ent} {now : List Int} {b : Int} (he : EntFine nA e) (h : Bd b now) (hb : 0 ≤ b) (hb2 : b + 8796093022208 ≤ 4611686018427387904) : entErr nA e now = 0 ∧ Bd (b + 8796093022208) (comesAll e.posts now) := by
  have h1 : Bd (b + 8796093022208) (comesAll e.posts now) := (comesAll_bd e.posts now b h hb he.small).mono (by have := he.few; omega)
  refine ⟨?_, h1⟩
  unfold entErr
  rw [if_neg (by rw [accts_any he.accts]; simp), if_neg (by rw [he.zero]; simp), if_neg (by rw [fits_of_bd h1 hb2]; simp)]
theorem entsTo_fine (ac : List Acc) : ∀ (es : List Ent) (now tot : List Int) (b : Int), (∀ e ∈ es, EntFine ac.length e) → Bd b now → Bd b tot → 0 ≤ b → b + 8796093022208 * es.length ≤ 4611686018427387904 →
    ∃ now' tot', entsTo ac es now tot = (0, now', tot') ∧ Bd (b + 8796093022208 * es.length) now' ∧ Bd (b + 8796093022208 * es.length) tot' ∧ now'.length = now.length
  | [], now, tot, b, _, h1, h2, _, _ => ⟨now, tot, rfl, by simpa using h1, by simpa using h2, rfl⟩
  | e :: es, now, tot, b, he, h1, h2, hb, hb2 => by
    simp only [List.length_cons] at hb2
    push_cast at hb2
    obtain ⟨e0, e1⟩ := entErr_fine (he e (by simp)) h1 hb (by omega)
    have e2 : Bd (b + 8796093022208) (linesAll ac e.posts tot) := (linesAll_bd ac e.posts tot b h2 hb (he e (by simp)).small).mono (by have := (he e (by simp)).few; omega)
    obtain ⟨now', tot', f0, f1, f2, f3⟩ := entsTo_fine ac es _ _ (b + 8796093022208) (fun x hx => he x (by simp [hx])) e1 e2 (by omega) (by omega)
    refine ⟨now', tot', ?_, f1.mono (by simp only [List.length_cons]; push_cast; omega), f2.mono (by simp only [List.length_cons]; push_cast; omega), f3.trans (comesAll_length _ _)⟩
    simp only [entsTo]
    rw [if_neg (by omega), f0]
theorem entsTo_snoc (ac : List Acc) : ∀ (es : List Ent) (x : Ent) (now tot now' tot' : List Int), entsTo ac es now tot = (0, now', tot') → entsTo ac (es ++ [x]) now tot = entsTo ac [x] now' tot'
  | [], x, now, tot, now', tot', h => by
    simp only [entsTo, Prod.mk.injEq, true_and] at h
    obtain ⟨rfl, rfl⟩ := h
    rfl
  | e :: es, x, now, tot, now', tot', h => by
    simp only [entsTo, List.cons_append] at h ⊢
    split at h
    · rename_i hz
      simp only [Prod.mk.injEq] at h
      exact absurd h.1 hz
    · rename_i hz
      rw [if_neg hz]
      exact entsTo_snoc ac es x _ _ _ _ h
theorem bd_zero (b : Int) (hb : 0 ≤ b) : Bd b [0, 0, 0, 0] := fun v hv => by simp at hv; subst hv; omega
theorem persTo_fine (ac : List Acc) : ∀ (ps : List (List Ent)) (now : List Int) (b : Int), (∀ p ∈ ps, p.length ≤ 12 ∧ ∀ e ∈ p, EntFine ac.length e) → Bd b now → 0 ≤ b → b + 140737488355328 * ps.length ≤ 4611686018427387904 → (persTo ac ps now).1 = 0
  | [], _, _, _, _, _, _ => rfl
  | p :: ps, now, b, h, h1, hb, hb2 => by
    simp only [List.length_cons] at hb2
    push_cast at hb2
    have hp := h p (by simp)
    obtain ⟨now', tot', f0, f1, f2, _⟩ := entsTo_fine ac p now [0, 0, 0, 0] b hp.2 h1 (bd_zero b hb) hb (by have := hp.1; omega)
    have ih := persTo_fine ac ps now' (b + 140737488355328) (fun q hq => h q (by simp [hq])) (f1.mono (by have := hp.1; omega)) (by omega) (by omega)
    simp only [persTo]
    rw [f0]
    simp only [ne_eq, not_true_eq_false, if_false]
    rw [if_neg (by rw [fits_of_bd f2 (by have := hp.1; omega)]; simp)]
    exact ih
/-- A period that is spoilt, wherever it stands. -/
theorem persTo_bad (ac : List Acc) (q : List Ent) (e : Int) (he : e ≠ 0) (hq : ∀ now b, Bd b now → 0 ≤ b → b ≤ 2251799813685248 → now.length = ac.length → (entsTo ac q now [0, 0, 0, 0]).1 = e) : ∀ (ps : List (List Ent)) (i : Nat) (now : List Int) (b : Int), i < ps.length → (∀ p ∈ ps, p.length ≤ 12 ∧ ∀ e ∈ p, EntFine ac.length e) → Bd b now → 0 ≤ b → now.length = ac.length → b + 140737488355328 * ps.length ≤ 2251799813685248 → (persTo ac (ps.set i q) now).1 = e
  | p :: ps, 0, now, b, _, _, h1, hb, hl, hb2 => by
    simp only [List.length_cons] at hb2
    push_cast at hb2
    have := hq now b h1 hb (by omega) hl
    show (persTo ac (q :: ps) now).1 = e
    simp only [persTo]
    rw [if_pos (by rw [this]; exact he)]
    exact this
  | p :: ps, i + 1, now, b, hi, h, h1, hb, hl, hb2 => by
    simp only [List.length_cons] at hb2
    push_cast at hb2
    have hp := h p (by simp)
    obtain ⟨now', tot', f0, f1, f2, f3⟩ := entsTo_fine ac p now [0, 0, 0, 0] b hp.2 h1 (bd_zero b hb) hb (by have := hp.1; omega)
    have ih := persTo_bad ac q e he hq ps i now' (b + 140737488355328) (by simpa using hi) (fun q hq => h q (by simp [hq])) (f1.mono (by have := hp.1; omega)) (by omega) (f3.trans hl) (by omega)
    show (persTo ac (p :: ps.set i q) now).1 = e
    simp only [persTo]
    rw [f0]
    simp only [ne_eq, not_true_eq_false, if_false]
    rw [if_neg (by rw [fits_of_bd f2 (by have := hp.1; omega)]; simp)]
    exact ih
theorem bd_made (n : Nat) : Bd 0 (List.replicate n 0) := fun v hv => by rw [List.eq_of_mem_replicate hv]; omega
theorem entFine_ok {nA : Nat} {e : Ent} (h : EntFine nA e) : entOk e = true := decide_eq_true ⟨h.memo, h.some_, by have := h.few; omega⟩
theorem perOk_fine {nA : Nat} {p : List Ent} (h : p.length ≤ 12 ∧ ∀ e ∈ p, EntFine nA e) : perOk p = true := by
  unfold perOk
  rw [decide_eq_true h.1, Bool.true_and, List.all_eq_true]
  exact fun e he => entFine_ok (h.2 e he)
theorem MadeOk.inb {h : Hist} (m : MadeOk h) : inBounds h = true := by
  unfold inBounds
  rw [decide_eq_true ⟨by have := m.accs; omega, m.accs.2, m.pers.1, m.pers.2⟩, m.chart, Bool.true_and, Bool.true_and, List.all_eq_true]
  exact fun p hp => perOk_fine (m.ents p hp)
/-- What is made can be sealed. -/
theorem MadeOk.sealed {h : Hist} (m : MadeOk h) : closeErr h = 0 := by
  unfold closeErr
  rw [if_pos m.inb]
  exact persTo_fine h.accs h.pers _ 0 m.ents (bd_made _) (by omega) (by have := m.pers; omega)
/-- An entry more, at the end of some period. -/
theorem MadeOk.spoilt {h : Hist} (m : MadeOk h) {i : Nat} (hi : i < h.pers.length) (h12 : h.pers[i].length < 12) (x : Ent) (hx : entOk x = true) (e : Int) (he : e ≠ 0)
    (hq : ∀ now b, Bd b now → 0 ≤ b → b ≤ 4503599627370496 → now.length = h.accs.length → entErr h.accs.length x now = e) : closeErr ⟨h.accs, h.pers.set i (h.pers[i] ++ [x])⟩ = e := by
  have hin : inBounds ⟨h.accs, h.pers.set i (h.pers[i] ++ [x])⟩ = true := by
    unfold inBounds
    simp only [List.length_set]
    rw [decide_eq_true ⟨by have := m.accs; omega, m.accs.2, m.pers.1, m.pers.2⟩, m.chart, Bool.true_and, Bool.true_and, List.all_eq_true]
    intro p hp
    rcases List.mem_or_eq_of_mem_set hp with hp | rfl
    · exact perOk_fine (m.ents p hp)
    · have hp := m.ents _ (List.getElem_mem hi)
      unfold perOk
      rw [decide_eq_true (by simp; omega), Bool.true_and, List.all_eq_true]
      intro e he
      rcases List.mem_append.1 he with he | he
      · exact entFine_ok (hp.2 e he)
      · simp at he; subst he; exact hx
  unfold closeErr
  rw [if_pos hin]
  refine persTo_bad h.accs (h.pers[i] ++ [x]) e he (fun now b h1 hb hb2 hl => ?_) h.pers i _ 0 hi m.ents (bd_made _) (by omega) (by simp) (by have := m.pers; omega)
  have hp := m.ents _ (List.getElem_mem hi)
  obtain ⟨now', tot', f0, f1, f2, f3⟩ := entsTo_fine h.accs h.pers[i] now [0, 0, 0, 0] b hp.2 h1 (bd_zero b hb) hb (by have := hp.1; omega)
  rw [entsTo_snoc h.accs h.pers[i] x now [0, 0, 0, 0] now' tot' f0]
  have := hq now' _ f1 (by omega) (by have := hp.1; omega) (f3.trans hl)
  simp only [entsTo]
  rw [if_pos (by rw [this]; exact he)]
  exact this
/-- The three entries that Balanced adds. -/
theorem spoil_balance {nA : Nat} (h2 : 2 ≤ nA) (d : Int) (now : List Int) : entErr nA ⟨ByteArray.empty, [⟨0, d⟩, ⟨1, -d - 1⟩]⟩ now = 3 :=
  entErr_three (fun p hp => by simp at hp; rcases hp with rfl | rfl <;> exact ⟨by simp, by simp; omega⟩) (by simp [amtSum]; omega)
theorem spoil_account {nA : Nat} (d : Int) (now : List Int) : entErr nA ⟨ByteArray.empty, [⟨0, d⟩, ⟨(nA : Int), -d⟩]⟩ now = 2 :=
  entErr_two (k := 1) (by simp) (by unfold acctOk; simp)
theorem spoil_over {nA : Nat} (h2 : 2 ≤ nA) (now : List Int) (b : Int) (hn : Bd b now) (hb0 : 0 ≤ b) (hb : b ≤ 4503599627370496) (hl : now.length = nA) :
    entErr nA ⟨ByteArray.empty, [⟨0, 9223372036854775807⟩, ⟨0, 9223372036854775807⟩, ⟨1, -9223372036854775807⟩, ⟨1, -9223372036854775807⟩]⟩ now = 4 := by
  match now, hl with
  | [], hl => simp at hl; omega
  | [a], hl => simp at hl; omega
  | a :: c :: r, hl =>
    have ha := hn a (by simp)
    have e : comesAll [⟨0, 9223372036854775807⟩, ⟨0, 9223372036854775807⟩, ⟨1, -9223372036854775807⟩, ⟨1, -9223372036854775807⟩] (a :: c :: r) = (a + 9223372036854775807 + 9223372036854775807) :: (c + -9223372036854775807 + -9223372036854775807) :: r := by
      simp [comesAll, comes]
    refine entErr_four (i := 0) (fun p hp => by simp at hp; rcases hp with rfl | rfl | rfl | rfl <;> exact ⟨by simp, by simp; omega⟩) (by decide) (by rw [e]; simp) ?_
    simp only [e, List.getElem_cons_zero]
    exact decide_eq_false (by omega)
end Go.Proofs.Ytoadiibfmcjgaaa.Sg
