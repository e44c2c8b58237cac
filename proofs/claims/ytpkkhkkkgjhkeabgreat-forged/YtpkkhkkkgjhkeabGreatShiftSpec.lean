import Derived.Test.YtpkkhkkkgjhkeabGreatClashSpec
/-
  PLAIN MATHEMATICS (P11, P13): texts whose sums stay as they were; books that have one head.
-/
namespace Go.Proofs.YtpkkhkkkgjhkeabGreat.Sg
theorem stepN_two (h : Nat) {x y x' y' : UInt8} (e : x.toNat * 33 + y.toNat = x'.toNat * 33 + y'.toNat) : stepN (stepN h x) y = stepN (stepN h x') y' := by
  unfold stepN; omega
theorem sumN_two (a b : List UInt8) {x y x' y' : UInt8} (e : x.toNat * 33 + y.toNat = x'.toNat * 33 + y'.toNat) : sumN (a ++ x :: y :: b) = sumN (a ++ x' :: y' :: b) := by
  unfold sumN
  simp only [List.foldl_append, List.foldl_cons]
  rw [stepN_two _ e]
theorem sumB_two {s t : Txt} {a b : List UInt8} {x y x' y' : UInt8} (hs : tx s = a ++ x :: y :: b) (ht : tx t = a ++ x' :: y' :: b) (e : x.toNat * 33 + y.toNat = x'.toNat * 33 + y'.toNat) : sumB s = sumB t := by
  have h1 : s.data.toList = a ++ x :: y :: b := hs
  have h2 : t.data.toList = a ++ x' :: y' :: b := ht
  unfold sumB sumL
  rw [h1, h2, sumN_two a b e]
theorem leafB_two {s t : Txt} {a b : List UInt8} {x y x' y' : UInt8} (hs : tx s = a ++ x :: y :: b) (ht : tx t = a ++ x' :: y' :: b) (e : x.toNat * 33 + y.toNat = x'.toNat * 33 + y'.toNat) : leafB s = leafB t := by
  refine sumB_two (a := 0 :: a) (b := b) ?_ ?_ e
  · have : tx (leafT s) = 0 :: tx s := by unfold leafT tx; rw [ByteArray.data_append, Array.toList_append]; rfl
    rw [this, hs]; rfl
  · have : tx (leafT t) = 0 :: tx t := by unfold leafT tx; rw [ByteArray.data_append, Array.toList_append]; rfl
    rw [this, ht]; rfl
/-- A root hangs on the leaves' sums alone. -/
theorem root_congr : ∀ (m : Nat) (l k : List Txt), l.length ≤ m → l.map leafB = k.map leafB → root l = root k
  | 0, l, k, h, e => by
    have hl : l = [] := List.eq_nil_of_length_eq_zero (by omega)
    subst hl
    have hk : k = [] := by simpa using e.symm
    rw [hk]
  | m + 1, l, k, h, e => by
    have hlen : l.length = k.length := by have := congrArg List.length e; simpa using this
    by_cases h0 : l.length = 0
    · rw [root_none h0, root_none (by omega)]
    by_cases h1 : l.length = 1
    · rw [root_one h1, root_one (by omega)]
      have h2 : (l.map leafB)[0]? = (k.map leafB)[0]? := by rw [e]
      rw [List.getElem?_map, List.getElem?_map, List.getElem?_eq_getElem (by omega), List.getElem?_eq_getElem (by omega)] at h2
      simp only [Option.map_some, Option.some.injEq] at h2
      rw [List.getD_eq_getElem?_getD, List.getD_eq_getElem?_getD, List.getElem?_eq_getElem (by omega), List.getElem?_eq_getElem (by omega)]
      exact h2
    · have a := halfN_lt (n := l.length) (by omega)
      have b := halfN_pos l.length
      rw [root_more (by omega), root_more (l := k) (by omega), ← hlen]
      rw [root_congr m (l.take (halfN l.length)) (k.take (halfN l.length)) (by simp; omega) (by rw [List.map_take, List.map_take, e]), root_congr m (l.drop (halfN l.length)) (k.drop (halfN l.length)) (by simp; omega) (by rw [List.map_drop, List.map_drop, e])]
/-- What a book's head hangs on of an entry. -/
def key (e : Ent) : List Pst × Txt := (e.posts, leafB (entB e))
theorem key_posts {es fs : List Ent} (h : es.map key = fs.map key) : es.map Ent.posts = fs.map Ent.posts := by
  have := congrArg (List.map Prod.fst) h
  simpa [List.map_map, Function.comp_def, key] using this
theorem key_leaf {es fs : List Ent} (h : es.map key = fs.map key) : (es.map entB).map leafB = (fs.map entB).map leafB := by
  have := congrArg (List.map Prod.snd) h
  simpa [List.map_map, Function.comp_def, key] using this
theorem entsTo_key (ac : List Acc) : ∀ (es fs : List Ent) (now tot : List Int), es.map Ent.posts = fs.map Ent.posts → entsTo ac es now tot = entsTo ac fs now tot
  | [], [], _, _, _ => rfl
  | [], f :: fs, _, _, h => by simp at h
  | e :: es, [], _, _, h => by simp at h
  | e :: es, f :: fs, now, tot, h => by
    simp only [List.map_cons, List.cons.injEq] at h
    have he : entErr ac.length e now = entErr ac.length f now := by unfold entErr; rw [h.1]
    unfold entsTo
    rw [he, h.1, entsTo_key ac es fs _ _ h.2]
theorem persTo_key (ac : List Acc) : ∀ (ps qs : List (List Ent)) (now : List Int), ps.map (List.map key) = qs.map (List.map key) → persTo ac ps now = persTo ac qs now
  | [], [], _, _ => rfl
  | [], q :: qs, _, h => by simp at h
  | p :: ps, [], _, h => by simp at h
  | p :: ps, q :: qs, now, h => by
    simp only [List.map_cons, List.cons.injEq] at h
    have he := entsTo_key ac p q now [0, 0, 0, 0] (key_posts h.1)
    unfold persTo
    rw [he]
    simp only [persTo_key ac ps qs _ h.2]
theorem drillsFrom_key (ac : List Acc) (line : Int) : ∀ (es fs : List Ent) (i : Nat), es.map Ent.posts = fs.map Ent.posts → drillsFrom ac line i es = drillsFrom ac line i fs
  | [], [], _, _ => rfl
  | [], f :: fs, _, h => by simp at h
  | e :: es, [], _, h => by simp at h
  | e :: es, f :: fs, i, h => by
    simp only [List.map_cons, List.cons.injEq] at h
    unfold drillsFrom
    rw [h.1, drillsFrom_key ac line es fs _ h.2]
theorem headerB_key (ac : List Acc) (i : Nat) (last : Txt) {p q : List Ent} (b t : List Int) (h : p.map key = q.map key) : headerB ac i last p b t = headerB ac i last q b t := by
  have hl : p.length = q.length := by have := congrArg List.length h; simpa using this
  have hr := root_congr _ (p.map entB) (q.map entB) (Nat.le_refl _) (key_leaf h)
  have hs : stmt ac p t = stmt ac q t := by
    unfold stmt drillsOf
    simp only [drillsFrom_key ac _ p q 0 (key_posts h)]
  unfold headerB
  rw [hl, hr, hs]
theorem hdTo_key {h g : Hist} (ha : h.accs = g.accs) (hp : h.pers.map (List.map key) = g.pers.map (List.map key)) (bal tot : List (List Int)) : ∀ k, hdTo h bal tot k = hdTo g bal tot k
  | 0 => rfl
  | k + 1 => by
    have ih := hdTo_key ha hp bal tot k
    have hk : (h.pers.getD k []).map key = (g.pers.getD k []).map key := by
      have e : (h.pers.map (List.map key))[k]? = (g.pers.map (List.map key))[k]? := by rw [hp]
      rw [List.getElem?_map, List.getElem?_map] at e
      rw [List.getD_eq_getElem?_getD, List.getD_eq_getElem?_getD]
      cases h1 : h.pers[k]? with
      | none =>
        rw [h1] at e
        cases h2 : g.pers[k]? with
        | none => rfl
        | some y => rw [h2] at e; simp at e
      | some x =>
        rw [h1] at e
        cases h2 : g.pers[k]? with
        | none => rw [h2] at e; simp at e
        | some y => rw [h2] at e; simpa using e
    unfold hdTo
    rw [ih, ha, headerB_key g.accs k _ _ _ hk]
/-- Two books that differ in what their head does not hang on have one head. -/
theorem headOf_key {h g : Hist} (hc : closeErr h = 0) (gc : closeErr g = 0) (ha : h.accs = g.accs) (hp : h.pers.map (List.map key) = g.pers.map (List.map key)) : headOf h = headOf g := by
  have hl : h.pers.length = g.pers.length := by have := congrArg List.length hp; simpa using this
  have hpt := persTo_key g.accs h.pers g.pers (List.replicate g.accs.length 0) hp
  have hb : balances h = balances g := by unfold balances; rw [ha, hpt]
  have ht : totals h = totals g := by unfold totals; rw [ha, hpt]
  unfold headOf
  rw [if_pos hc, if_pos gc, hb, ht, hl, hdTo_key ha hp]
end Go.Proofs.YtpkkhkkkgjhkeabGreat.Sg
