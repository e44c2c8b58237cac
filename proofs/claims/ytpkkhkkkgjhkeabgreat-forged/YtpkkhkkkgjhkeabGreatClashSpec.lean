import Derived.Test.YtpkkhkkkgjhkeabGreatTree
import Derived.Test.YtpkkhkkkgjhkeabGreatReadSpec
import Derived.Test.YtpkkhkkkgjhkeabGreatHheads
/-
  PLAIN MATHEMATICS OF CLASHES (P11, P12): the first place at which two lists of summed texts are not the same.
-/
namespace Go.Proofs.YtpkkhkkkgjhkeabGreat.Sg

/-- The first place at which two lists are not the same. -/
def fo : List Txt → List Txt → Option (Txt × Txt)
  | x :: xs, y :: ys => if x = y then fo xs ys else some (x, y)
  | _, _ => none
/-- It is a clash: two texts that are not the same and have one sum. -/
def Cl (xs ys : List Txt) : Prop := ∃ x y, fo xs ys = some (x, y) ∧ x ≠ y ∧ sumB x = sumB y
theorem Cl.ne {x y : Txt} (h : x ≠ y) (hs : sumB x = sumB y) (xs ys : List Txt) : Cl (x :: xs) (y :: ys) := ⟨x, y, by show (if x = y then _ else _) = _; rw [if_neg h], h, hs⟩
theorem fo_some : ∀ (xs ys a b : List Txt) (r : Txt × Txt), fo xs ys = some r → fo (xs ++ a) (ys ++ b) = some r
  | [], _, _, _, _, h => by cases h
  | _ :: _, [], _, _, _, h => by cases h
  | x :: xs, y :: ys, a, b, r, h => by
    have h' : (if x = y then fo xs ys else some (x, y)) = some r := h
    show (if x = y then fo (xs ++ a) (ys ++ b) else some (x, y)) = some r
    by_cases e : x = y
    · rw [if_pos e] at h' ⊢; exact fo_some xs ys a b r h'
    · rw [if_neg e] at h' ⊢; exact h'
theorem fo_same : ∀ (xs a b : List Txt), fo (xs ++ a) (xs ++ b) = fo a b
  | [], _, _ => rfl
  | x :: xs, a, b => by
    show (if x = x then fo (xs ++ a) (xs ++ b) else some (x, x)) = _
    rw [if_pos rfl]; exact fo_same xs a b
theorem Cl.app {xs ys : List Txt} (h : Cl xs ys) (a b : List Txt) : Cl (xs ++ a) (ys ++ b) := by
  obtain ⟨x, y, e, n, s⟩ := h
  exact ⟨x, y, fo_some _ _ _ _ _ e, n, s⟩
theorem Cl.under {a b : List Txt} (h : Cl a b) (xs : List Txt) : Cl (xs ++ a) (xs ++ b) := by
  obtain ⟨x, y, e, n, s⟩ := h
  exact ⟨x, y, by rw [fo_same]; exact e, n, s⟩
theorem cat_inj {a b c d : ByteArray} (h : a ++ b = c ++ d) (hs : a.size = c.size) : a = c ∧ b = d := by
  have e := congrArg tx h
  rw [tx_append, tx_append] at e
  have := List.append_inj e (by rw [tx_length, tx_length, hs])
  exact ⟨tx_inj this.1, tx_inj this.2⟩
theorem leafT_inj {a b : Txt} (h : leafT a = leafT b) : a = b := (cat_inj h rfl).2
theorem nodeT_inj {a b c d : Txt} (h : nodeT a b = nodeT c d) (h1 : a.size = 2) (h2 : c.size = 2) : a = c ∧ b = d := by
  unfold nodeT at h
  have k := cat_inj h (by rw [ByteArray.size_append, ByteArray.size_append, h1, h2])
  exact ⟨(cat_inj k.1 rfl).2, k.2⟩

/-- The texts that are summed for a root, from the root down (sum.OfRoot). -/
def ofRoot (l : List Txt) : List Txt := if l.length = 0 then [ByteArray.empty] else (rootTs l).reverse
theorem one_of {l : List Txt} (h : l.length = 1) : l = [l.getD 0 ByteArray.empty] := by
  match l, h with
  | [x], _ => rfl
theorem rootTs_cl : ∀ (m : Nat) (l k : List Txt), l.length ≤ m → l.length = k.length → 1 ≤ l.length → root l = root k → l = k ∨ Cl (rootTs l).reverse (rootTs k).reverse
  | 0, l, k, h, _, h1, _ => by omega
  | m + 1, l, k, h, hl, h1, hr => by
    by_cases hh : l.length = 1
    · have hk : k.length = 1 := by omega
      rw [rootTs_one hh, rootTs_one hk]
      rw [root_one hh, root_one hk] at hr
      by_cases e : leafT (l.getD 0 ByteArray.empty) = leafT (k.getD 0 ByteArray.empty)
      · left
        rw [one_of hh, one_of hk, leafT_inj e]
      · right
        exact Cl.ne e hr _ _
    · have h2 : 2 ≤ l.length := by omega
      have k2 : 2 ≤ k.length := by omega
      have a := halfN_lt h2
      have b := halfN_pos l.length
      rw [rootTs_more h2, rootTs_more k2]
      rw [root_more h2, root_more k2] at hr
      rw [← hl] at hr ⊢
      simp only [List.reverse_append, List.reverse_cons, List.reverse_nil, List.nil_append]
      by_cases e : nodeT (root (l.take (halfN l.length))) (root (l.drop (halfN l.length))) = nodeT (root (k.take (halfN l.length))) (root (k.drop (halfN l.length)))
      · obtain ⟨e1, e2⟩ := nodeT_inj e (root_size _) (root_size _)
        rw [e]
        have i1 := rootTs_cl m (l.drop (halfN l.length)) (k.drop (halfN l.length)) (by simp; omega) (by simp; omega) (by simp; omega) e2
        have i2 := rootTs_cl m (l.take (halfN l.length)) (k.take (halfN l.length)) (by simp; omega) (by simp; omega) (by simp; omega) e1
        rcases i1 with i1 | i1
        · rcases i2 with i2 | i2
          · left
            rw [← List.take_append_drop (halfN l.length) l, ← List.take_append_drop (halfN l.length) k, i1, i2]
          · right
            rw [i1]
            exact (i2.under _).under _
        · right
          exact (i1.app _ _).under _
      · right
        exact Cl.ne e hr _ _
theorem ofRoot_cl {l k : List Txt} (hl : l.length = k.length) (hr : root l = root k) : l = k ∨ Cl (ofRoot l) (ofRoot k) := by
  unfold ofRoot
  by_cases h0 : l.length = 0
  · left
    rw [List.eq_nil_of_length_eq_zero h0, List.eq_nil_of_length_eq_zero (by omega : k.length = 0)]
  · rw [if_neg h0, if_neg (by omega)]
    exact rootTs_cl l.length l k (Nat.le_refl _) hl (by omega) hr

/-- A header of a header's length. -/
structure Hdr.Fixed (h : Hdr) : Prop where
  mark : h.mark.size = 4
  num : 0 ≤ h.num ∧ h.num < 256
  ahead : h.ahead.size = 2
  chart : h.chart.size = 2
  ents : 0 ≤ h.ents ∧ h.ents < 256
  jour : h.jour.size = 2
  stat : h.stat.size = 2
  bals : h.bals.size = 2
theorem beB_one_inj {a b : Int} (ha : 0 ≤ a ∧ a < 256) (hb : 0 ≤ b ∧ b < 256) (h : beB a 1 = beB b 1) : a = b := by
  have e := congrArg tx h
  rw [tx_beB, tx_beB] at e
  rw [← numL_one ha, ← numL_one hb, e]
theorem beB_eight_inj {a b : Int} (ha : fits a = true) (hb : fits b = true) (h : beB a 8 = beB b 8) : a = b := by
  have e := congrArg tx h
  rw [tx_beB, tx_beB] at e
  rw [← wrap_beL ha, ← wrap_beL hb, e]
theorem hdrB_inj {h g : Hdr} (a : h.Fixed) (b : g.Fixed) (e : hdrB h = hdrB g) : h = g := by
  unfold hdrB at e
  obtain ⟨e, x8⟩ := cat_inj e (by simp only [ByteArray.size_append, beB_size, a.mark, a.ahead, a.chart, a.jour, a.stat, b.mark, b.ahead, b.chart, b.jour, b.stat])
  obtain ⟨e, x7⟩ := cat_inj e (by simp only [ByteArray.size_append, beB_size, a.mark, a.ahead, a.chart, a.jour, b.mark, b.ahead, b.chart, b.jour])
  obtain ⟨e, x6⟩ := cat_inj e (by simp only [ByteArray.size_append, beB_size, a.mark, a.ahead, a.chart, b.mark, b.ahead, b.chart])
  obtain ⟨e, x5⟩ := cat_inj e (by simp only [ByteArray.size_append, beB_size, a.mark, a.ahead, a.chart, b.mark, b.ahead, b.chart])
  obtain ⟨e, x4⟩ := cat_inj e (by simp only [ByteArray.size_append, beB_size, a.mark, a.ahead, b.mark, b.ahead])
  obtain ⟨e, x3⟩ := cat_inj e (by simp only [ByteArray.size_append, beB_size, a.mark, b.mark])
  obtain ⟨x1, x2⟩ := cat_inj e (by rw [a.mark, b.mark])
  have y2 := beB_one_inj a.num b.num x2
  have y5 := beB_one_inj a.ents b.ents x5
  cases h; cases g
  simp only at x1 y2 x3 x4 y5 x6 x7 x8
  subst x1 y2 x3 x4 y5 x6 x7 x8
  rfl
/-- Headers, the last one first: each has its number, and the sum of the one ahead. -/
def Ch (p : Int) : List Hdr → Prop
  | [] => True
  | x :: r => x.Fixed ∧ x.num = p + (r.length : Int) ∧ (∀ y, r.head? = some y → x.ahead = sumB (hdrB y)) ∧ Ch p r
theorem ch_cl (p : Int) : ∀ (xs ys : List Hdr) (x y : Hdr), Ch p (x :: xs) → Ch p (y :: ys) → sumB (hdrB x) = sumB (hdrB y) → x :: xs = y :: ys ∨ Cl ((x :: xs).map hdrB) ((y :: ys).map hdrB)
  | [], ys, x, y, hx, hy, hs => by
    by_cases e : hdrB x = hdrB y
    · left
      have exy := hdrB_inj hx.1 hy.1 e
      have n1 := hx.2.1
      have n2 := hy.2.1
      rw [exy, n2] at n1
      have : ys.length = 0 := by simp at n1; omega
      rw [exy, List.eq_nil_of_length_eq_zero this]
    · right
      exact Cl.ne e hs _ _
  | a :: xs, ys, x, y, hx, hy, hs => by
    by_cases e : hdrB x = hdrB y
    · have exy := hdrB_inj hx.1 hy.1 e
      have n1 := hx.2.1
      have n2 := hy.2.1
      rw [exy, n2] at n1
      have hl : ys.length = xs.length + 1 := by simp at n1; omega
      match ys, hl, hy with
      | b :: ys, _, hy =>
        have a1 := hx.2.2.1 a rfl
        have a2 := hy.2.2.1 b rfl
        have s : sumB (hdrB a) = sumB (hdrB b) := by rw [← a1, ← a2, exy]
        rcases ch_cl p xs ys a b hx.2.2.2 hy.2.2.2 s with i | i
        · left; rw [exy, i]
        · right
          show Cl (hdrB x :: (a :: xs).map hdrB) (hdrB y :: (b :: ys).map hdrB)
          rw [e]
          exact i.under [hdrB y]
    · right
      exact Cl.ne e hs _ _

/-! ### The texts of which a package's head is made -/
/-- Book.Summed. -/
def summedB (h : Hist) : List Txt := ((hdrsTo h h.pers.length).map hdrB).reverse ++ [chartB h.accs] ++ h.pers.flatMap (fun p => ofRoot (p.map entB))
theorem hdrOf_fixed (h : Hist) (k : Nat) (hk : k < 256) (hp : (h.pers.getD k []).length < 256) : (hdrOf h k).Fixed :=
  ⟨rfl, by unfold hdrOf; simp only; omega, hdTo_last h _ _ k, sumB_size _, by unfold hdrOf; simp only; omega, root_size _, root_size _, sumB_size _⟩
theorem hdrsTo_ch (h : Hist) (hp : ∀ p ∈ h.pers, p.length ≤ 12) : ∀ k, k ≤ 6 → Ch 0 (hdrsTo h k).reverse
  | 0, _ => trivial
  | k + 1, hk => by
    rw [hdrsTo_succ, List.reverse_append]
    show Ch 0 (hdrOf h k :: (hdrsTo h k).reverse)
    refine ⟨hdrOf_fixed h k (by omega) ?_, ?_, ?_, hdrsTo_ch h hp k (by omega)⟩
    · rw [List.getD_eq_getElem?_getD]
      cases e : h.pers[k]? with
      | none => simp
      | some p => have := hp p (List.mem_of_getElem? e); simp; omega
    · rw [List.length_reverse, hdrsTo_len]; show (k : Int) = _; omega
    · intro y hy
      match k, hy with
      | 0, hy => cases hy
      | j + 1, hy =>
        rw [hdrsTo_succ, List.reverse_append] at hy
        have : hdrOf h j = y := by simpa using hy
        rw [← this, hdrSum_of]
        rfl
theorem entB_inj {e f : Ent} (h1 : e.memo.size ≤ 20) (h2 : e.posts.length ≤ 6) (h3 : ∀ t ∈ e.posts, 0 ≤ t.acct ∧ t.acct < 256 ∧ fits t.amt = true) (g1 : f.memo.size ≤ 20) (g2 : f.posts.length ≤ 6) (g3 : ∀ t ∈ f.posts, 0 ≤ t.acct ∧ t.acct < 256 ∧ fits t.amt = true) (h : entB e = entB f) : e = f := by
  have k := congrArg tx h
  rw [tx_entB, tx_entB] at k
  have a := pdEnt_back h1 h2 h3 []
  have b := pdEnt_back g1 g2 g3 []
  rw [k, b] at a
  exact (congrArg Prod.fst a).symm
theorem chartB_inj {ac bc : List Acc} (h1 : ac.length < 256) (h2 : bc.length < 256) (ha : ∀ a ∈ ac, a.name.size ≤ 12 ∧ 0 ≤ a.line ∧ a.line ≤ 3) (hb : ∀ a ∈ bc, a.name.size ≤ 12 ∧ 0 ≤ a.line ∧ a.line ≤ 3) (h : chartB ac = chartB bc) : ac = bc := by
  have k := congrArg tx h
  rw [tx_chartB, tx_chartB] at k
  have k' := List.append_inj k (by rw [beL_length, beL_length])
  have hl : ac.length = bc.length := by
    have e := numL_nat h1
    rw [k'.1, numL_nat h2] at e
    exact e.symm
  have a := pdMany_back pdAcc accL id ac (fun x hx r => pdAcc_back (ha x hx).1 (ha x hx).2 r) []
  have b := pdMany_back pdAcc accL id bc (fun x hx r => pdAcc_back (hb x hx).1 (hb x hx).2 r) []
  rw [k'.2, hl, b] at a
  have := congrArg Prod.fst a
  simpa using this.symm
theorem jours_cl : ∀ (ps qs : List (List Txt)), ps.length = qs.length → (∀ k (h1 : k < ps.length) (h2 : k < qs.length), ps[k].length = qs[k].length ∧ root ps[k] = root qs[k]) → ps = qs ∨ Cl (ps.flatMap ofRoot) (qs.flatMap ofRoot)
  | [], [], _, _ => Or.inl rfl
  | [], _ :: _, h, _ => by simp at h
  | _ :: _, [], h, _ => by simp at h
  | p :: ps, q :: qs, hl, hk => by
    have h0 := hk 0 (by simp) (by simp)
    rw [List.flatMap_cons, List.flatMap_cons]
    rcases ofRoot_cl h0.1 h0.2 with i | i
    · have e : p = q := i
      rcases jours_cl ps qs (by simpa using hl) (fun k h1 h2 => by
        have := hk (k + 1) (by simp; omega) (by simp; omega)
        simpa using this) with j | j
      · left; rw [e, j]
      · right; rw [e]; exact j.under _
    · right
      exact Cl.app i _ _
/-- TWO PACKAGES UNDER ONE HEAD SHOW TWO TEXTS WITH ONE SUM. -/
theorem clash_books {h g : Hist} (hc : closeErr h = 0) (gc : closeErr g = 0) (hf : HistFits h) (gf : HistFits g) (hh : headOf h = headOf g) (hne : package h ≠ package g) : Cl (summedB h) (summedB g) := by
  have bnd : ∀ {h : Hist}, closeErr h = 0 → inBounds h = true ∧ (persTo h.accs h.pers (List.replicate h.accs.length 0)).1 = 0 := by
    intro h hc
    unfold closeErr at hc
    cases hb : inBounds h with
    | true => rw [hb, if_pos rfl] at hc; exact ⟨rfl, hc⟩
    | false => rw [hb] at hc; simp at hc
  have nums : ∀ {h : Hist}, inBounds h = true → (1 ≤ h.accs.length ∧ h.accs.length ≤ 8) ∧ 1 ≤ h.pers.length ∧ h.pers.length ≤ 6 := by
    intro h hi
    unfold inBounds at hi
    simp only [Bool.and_eq_true, decide_eq_true_eq] at hi
    omega
  obtain ⟨hi, hp0⟩ := bnd hc
  obtain ⟨gi, gp0⟩ := bnd gc
  have hn := nums hi
  have gn := nums gi
  have hp12 : ∀ p ∈ h.pers, p.length ≤ 12 := fun p hp => (bnd_pers hi p hp).1
  have gp12 : ∀ p ∈ g.pers, p.length ≤ 12 := fun p hp => (bnd_pers gi p hp).1
  obtain ⟨a, ha⟩ : ∃ a, h.pers.length = a + 1 := ⟨h.pers.length - 1, by omega⟩
  obtain ⟨b, hb⟩ : ∃ b, g.pers.length = b + 1 := ⟨g.pers.length - 1, by omega⟩
  have c1 := hdrsTo_ch h hp12 (a + 1) (by omega)
  have c2 := hdrsTo_ch g gp12 (b + 1) (by omega)
  have s : sumB (hdrB (hdrOf h a)) = sumB (hdrB (hdrOf g b)) := by
    rw [hdrSum_of, hdrSum_of]
    unfold headOf at hh
    rw [if_pos hc, if_pos gc, ha, hb] at hh
    exact hh
  rw [hdrsTo_succ, List.reverse_append] at c1 c2
  have key := ch_cl 0 (hdrsTo h a).reverse (hdrsTo g b).reverse (hdrOf h a) (hdrOf g b) c1 c2 s
  have r1 : ((hdrsTo h h.pers.length).map hdrB).reverse = (hdrOf h a :: (hdrsTo h a).reverse).map hdrB := by
    rw [ha, hdrsTo_succ]; simp [List.map_append, List.reverse_append, List.map_reverse]
  have r2 : ((hdrsTo g g.pers.length).map hdrB).reverse = (hdrOf g b :: (hdrsTo g b).reverse).map hdrB := by
    rw [hb, hdrsTo_succ]; simp [List.map_append, List.reverse_append, List.map_reverse]
  unfold summedB
  rw [r1, r2]
  rcases key with key | key
  · rw [key]
    have hl : a = b := by
      have := congrArg List.length key
      simp [hdrsTo_len] at this
      exact this
    subst hl
    have hall : hdrsTo h (a + 1) = hdrsTo g (a + 1) := by
      rw [hdrsTo_succ, hdrsTo_succ]
      have := congrArg List.reverse key
      simpa using this
    have heach : ∀ k, k < a + 1 → hdrOf h k = hdrOf g k := fun k hk => by
      have e1 := hdrsTo_get h hk
      rw [hall, hdrsTo_get g hk] at e1
      exact (Option.some.inj e1).symm
    rw [List.append_assoc, List.append_assoc]
    refine Cl.under ?_ _
    by_cases e : chartB h.accs = chartB g.accs
    · rw [e]
      refine Cl.under ?_ _
      have eA : h.accs = g.accs := chartB_inj (by omega) (by omega) (bnd_accs hi) (bnd_accs gi) e
      have ej := jours_cl (h.pers.map (fun p => p.map entB)) (g.pers.map (fun p => p.map entB)) (by simp; omega) (fun k k1 k2 => by
        have k1' : k < h.pers.length := by simpa using k1
        have k2' : k < g.pers.length := by simpa using k2
        have hk := heach k (by omega)
        have q1 := congrArg Hdr.ents hk
        have q2 := congrArg Hdr.jour hk
        unfold hdrOf at q1 q2
        simp only at q1 q2
        rw [List.getD_eq_getElem?_getD, List.getElem?_eq_getElem k1', List.getD_eq_getElem?_getD, List.getElem?_eq_getElem k2'] at q1 q2
        simp only [Option.getD_some] at q1 q2
        simp only [List.getElem_map, List.length_map]
        exact ⟨by omega, q2⟩)
      have f1 : h.pers.flatMap (fun p => ofRoot (p.map entB)) = (h.pers.map (fun p => p.map entB)).flatMap ofRoot := by rw [List.flatMap_map]
      have f2 : g.pers.flatMap (fun p => ofRoot (p.map entB)) = (g.pers.map (fun p => p.map entB)).flatMap ofRoot := by rw [List.flatMap_map]
      rw [f1, f2]
      rcases ej with ej | ej
      · exfalso
        apply hne
        have okh := persTo_ok _ _ _ hp0
        have okg := persTo_ok _ _ _ gp0
        have eP : h.pers = g.pers := by
          apply List.ext_getElem (by omega)
          intro k k1 k2
          have e1 : (h.pers.map (fun p => p.map entB))[k]'(by simpa using k1) = (g.pers.map (fun p => p.map entB))[k]'(by simpa using k2) := by simp only [ej]
          simp only [List.getElem_map] at e1
          have l1 : h.pers[k].length = g.pers[k].length := by
            have := congrArg List.length e1
            simpa using this
          apply List.ext_getElem l1
          intro j j1 j2
          have e2 : (h.pers[k].map entB)[j]'(by simpa using j1) = (g.pers[k].map entB)[j]'(by simpa using j2) := by simp only [e1]
          simp only [List.getElem_map] at e2
          have m1 := List.getElem_mem k1
          have m2 := List.getElem_mem k2
          have n1 := List.getElem_mem j1
          have n2 := List.getElem_mem j2
          refine entB_inj ((bnd_pers hi _ m1).2 _ n1).1 ((bnd_pers hi _ m1).2 _ n1).2 (fun t ht => ?_) ((bnd_pers gi _ m2).2 _ n2).1 ((bnd_pers gi _ m2).2 _ n2).2 (fun t ht => ?_) e2
          · have := okh _ m1 _ n1 t ht
            exact ⟨this.1, by omega, (hf _ m1 _ n1 t ht).2⟩
          · have := okg _ m2 _ n2 t ht
            exact ⟨this.1, by omega, (gf _ m2 _ n2 t ht).2⟩
        cases h; cases g
        simp only at eA eP
        rw [eA, eP]
      · exact ej
    · refine Cl.ne e ?_ _ _
      have := congrArg Hdr.chart (heach 0 (by omega))
      exact this
  · exact ((key.app _ _).app _ _)
end Go.Proofs.YtpkkhkkkgjhkeabGreat.Sg
