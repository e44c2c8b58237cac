/-
  WHAT signetkeep.entry AND chart MAKE, as a function of the raw numbers (P11, P13).
-/
import Derived.Test.YtpkkhkkkgjhkeabGreatMadeInv
import Derived.Deep.AppendLies
namespace Go.Proofs.YtpkkhkkkgjhkeabGreat
open Go.RowKit
set_option maxRecDepth 100000
attribute [local go_sem ↓] Go.wp_at_zero Go.wp_at_succ

/-- Which of n things the raw number c speaks of. -/
def pickN (c : Int) (n : Nat) : Nat := if c < 0 then ((-(c + 1)).tmod (n : Int)).toNat else (c.tmod (n : Int)).toNat
theorem pick_is (c : Int) (n : Nat) (w : World) (hc : -9223372036854775808 ≤ c ∧ c ≤ 9223372036854775807) (hn : 1 ≤ n) (hn2 : n ≤ 1152921504606846976) :
    Calls Tryz.prog 8 #[.int .i64 c, .int .i64 (n : Int)] w fun e w' => ∃ j : Nat, e = .returned (.int .i64 (j : Int)) ∧ j < n ∧ w' = w ∧ Hid (j = pickN c n) := by
  obtain ⟨hc1, hc2⟩ := hc
  by_cases h0 : c < 0
  · obtain ⟨j, hj, he⟩ := pick_num (c := -(c + 1)) hn (by omega)
    rw [Int.neg_tmod] at he
    have HE : Hid (-(c + 1).tmod (n : Int) = (j : Int)) := he
    have HX : Hid (j = pickN c n) := by
      show _ = _
      unfold pickN
      rw [if_pos h0, Int.neg_tmod, he]
      simp
    clear he
    go_enter Tryz.func8, Tryz.ntmps8
    go_wp2_with fail
    go_ret
    exact ⟨j, ret_int HE.out, hj, rfl, HX⟩
  · obtain ⟨j, hj, he⟩ := pick_num (c := c) hn (by omega)
    have HX : Hid (j = pickN c n) := by
      show _ = _
      unfold pickN
      rw [if_neg h0, he]
      simp
    have HE : Hid (c % (n : Int) = (j : Int)) := by
      show _ = _
      rw [← he, Int.tmod_eq_emod_of_nonneg (by omega)]
    clear he
    go_enter Tryz.func8, Tryz.ntmps8
    go_wp2_with fail
    go_ret
    exact ⟨j, ret_int HE.out, hj, rfl, HX⟩
/-- A memo, cut where it is too long. -/
def cutM (x : ByteArray) : ByteArray := if 20 < x.size then x.extract 0 20 else x
/-- The postings of a raw entry. -/
def keepPosts (nA : Nat) (a b c n : Int) : List Sg.Pst := [⟨(pickN a nA : Int), n.tmod 1099511627776⟩, ⟨(pickN b nA : Int), -(n.tmod 1099511627776)⟩] ++ (if c.tmod 2 = 1 then [⟨(pickN (c.tdiv 2) nA : Int), 5⟩, ⟨(pickN a nA : Int), -5⟩] else [])
def entX (nA : Nat) (r : Raw) : Sg.Ent := ⟨cutM r.memo, keepPosts nA r.a r.b r.c r.n⟩
/-- The chart of a raw number. -/
def CX (c : Int) (ac : List Sg.Acc) : Prop := ∀ i (h : i < ac.length), ac[i] = ⟨keepName i, (pickN (c / 2 ^ (2 * (i : Int)).toNat) 4 : Int)⟩
theorem CX.snoc {c : Int} {ac : List Sg.Acc} (h : CX c ac) : CX c (ac ++ [⟨keepName ac.length, (pickN (c / 2 ^ (2 * (ac.length : Int)).toNat) 4 : Int)⟩]) := fun i hi => by
  rw [List.length_append] at hi
  simp only [List.length_cons, List.length_nil] at hi
  by_cases hl : i < ac.length
  · rw [List.getElem_append_left hl]; exact h i hl
  · have e : i = ac.length := by omega
    subst e
    simp
theorem CX.same {c : Int} {ac bc : List Sg.Acc} (h : CX c ac) (k : CX c bc) (hl : ac.length = bc.length) : ac = bc := List.ext_getElem hl (fun i h1 h2 => by rw [h i h1, k i h2])
/-- The periods out of raw entries. -/
def perX (nA n : Nat) (rs : List Raw) (k : Nat) : List (List Sg.Ent) := (List.range k).map fun i => ((rs.drop (i * n)).take n).map (entX nA)
theorem entX_snoc {nA q q' r : Nat} {rs : List Raw} {es : List Sg.Ent} {mm : ByteArray} {pp : List Sg.Pst} {x : Raw} (h : es = ((rs.drop q).take r).map (entX nA)) (hq : q' = q + r) (hx : rs[q']? = some x) (he : mm = cutM x.memo ∧ pp = keepPosts nA x.a x.b x.c x.n) : es ++ [(⟨mm, pp⟩ : Sg.Ent)] = ((rs.drop q).take (r + 1)).map (entX nA) := by
  have hl := (List.getElem?_eq_some_iff.1 hx).1
  have hr : r < (rs.drop q).length := by rw [List.length_drop]; omega
  rw [List.take_succ_eq_append_getElem hr, List.map_append, ← h, he.1, he.2]
  have e : (rs.drop q)[r] = x := by
    rw [List.getElem_drop]
    have := (List.getElem?_eq_some_iff.1 hx).2
    subst hq
    exact this
  rw [e]
  rfl
theorem perX_snoc {nA n k q q' r nr : Nat} {rs : List Raw} {ps : List (List Sg.Ent)} {es : List Sg.Ent} (h : ps = perX nA n rs k ∧ q = min (k * n) nr ∧ ∀ k', 1 ≤ k' → k' < k → k' * n < nr) (he : es = ((rs.drop q).take r).map (entX nA) ∧ q' = q + r) (hl : rs.length = nr) (hr : r ≤ n) (hq : q' ≤ nr) (hend : ¬ r < n ∨ ¬ q' < nr) (hgo : k = 0 ∨ q < nr) : ps ++ [es] = perX nA n rs (k + 1) ∧ q' = min ((k + 1) * n) nr ∧ ∀ k', 1 ≤ k' → k' < k + 1 → k' * n < nr := by
  obtain ⟨h1, h2, h3⟩ := h
  obtain ⟨e1, e2⟩ := he
  have hk : (k + 1) * n = k * n + n := by rw [Nat.add_mul, Nat.one_mul]
  have hqk : q = k * n ∨ (k = 0 ∧ q = 0) := by
    rcases hgo with rfl | hgo
    · right; refine ⟨rfl, ?_⟩; rw [h2]; simp
    · left; omega
  have hqe : q = k * n := by
    rcases hqk with h | ⟨rfl, h⟩
    · exact h
    · rw [h]; simp
  refine ⟨?_, by rw [hk]; omega, fun k' g1 g2 => ?_⟩
  · unfold perX at h1 ⊢
    rw [List.range_succ, List.map_append, ← h1, e1, hqe]
    have : (rs.drop (k * n)).take r = (rs.drop (k * n)).take n := by
      by_cases hrn : r = n
      · rw [hrn]
      · have : q' = nr := by omega
        rw [List.take_of_length_le (by rw [List.length_drop]; omega), List.take_of_length_le (by rw [List.length_drop]; omega)]
    rw [this]
    rfl
  · by_cases hk' : k' < k
    · exact h3 k' g1 hk'
    · have e : k' = k := by omega
      subst e
      rcases hgo with rfl | hgo
      · omega
      · omega
/-- What made answers, out of the raw numbers. -/
def MadeXRes (w w' : World) (vA vP : Value) (c each : Int) (rs : List Raw) : Prop := ∃ ac ps, OwnA w' (w.heap.size + 1) vA ac ∧ OwnPs w' (w.heap.size + 1) vP ps ∧ Sg.MadeOk ⟨ac, ps⟩ ∧ Below w.heap.size w w' ∧ ∃ k, CX c ac ∧ ac.length = 2 + pickN c 7 ∧ ps = perX ac.length (1 + pickN each 12) rs k ∧ 1 ≤ k ∧ ps.length = k ∧ (k = 6 ∨ rs.length ≤ k * (1 + pickN each 12)) ∧ ∀ k', 1 ≤ k' → k' < k → k' * (1 + pickN each 12) < rs.length

set_option maxHeartbeats 3200000 in
/-- entry. -/
theorem keepEntryX_any (x : ByteArray) (a b c n : Int) (nA : Nat) (w : World) (ha : -9223372036854775808 ≤ a ∧ a ≤ 9223372036854775807) (hb : -9223372036854775808 ≤ b ∧ b ≤ 9223372036854775807) (hc : -9223372036854775808 ≤ c ∧ c ≤ 9223372036854775807) (hx : x.size ≤ maxLen) (h2 : 2 ≤ nA) (h8 : nA ≤ 8) :
    Calls Tryz.prog 15 #[.agg #[.string x, .int .i64 a, .int .i64 b, .int .i64 c, .int .i64 n], .int .i64 (nA : Int)] w fun e w' => ∃ m pv ps, e = .returned (.agg #[.string m, pv]) ∧ Hid (OwnP w' (w.heap.size + 3) pv ps) ∧ Sg.EntFine nA ⟨m, ps⟩ ∧ Hid (m = cutM x ∧ ps = keepPosts nA a b c n) ∧ Below w.heap.size w w' := by
  obtain ⟨i0, hi, hz0, hz1, hz2⟩ := info_parts Tryz.infoPst2
  unfold maxLen at hx
  obtain ⟨nn, hnn⟩ : ∃ nn, n.tmod 1099511627776 = nn := ⟨_, rfl⟩
  have hnb : -1099511627776 < nn ∧ nn < 1099511627776 := by
    rw [← hnn]
    by_cases h0 : 0 ≤ n
    · rw [Int.tmod_eq_emod_of_nonneg h0]; omega
    · have e : n.tmod 1099511627776 = -((-n).tmod 1099511627776) := by rw [Int.neg_tmod, Int.neg_neg]
      rw [e, Int.tmod_eq_emod_of_nonneg (by omega)]; omega
  have hneg : IntKind.i64.wrap (-nn) = -nn := IntWalk.i64_in _ (by omega)
  by_cases hlong : 20 < (x.size : Int)
  · -- a memo that is too long
    have HM : Hid ((x.extract 0 20).size ≤ 20) := by show _ ≤ _; rw [ByteArray.size_extract]; omega
    go_enter Tryz.func15, Tryz.ntmps15
    go_wp2_with fail
    refine (pick_is a nA _ ha (by omega) (by omega)).mono ?_
    rintro e w1 ⟨ja, rfl, hja, hw, eja⟩
    subst hw
    go_wp2_with fail
    refine (pick_is b nA _ hb (by omega) (by omega)).mono ?_
    rintro e w1 ⟨jb, rfl, hjb, hw, ejb⟩
    subst hw
    have R0 : (((w.alloc (Obj.cells #[.string x, .int .i64 a, .int .i64 b, .int .i64 c, .int .i64 n] 61)).alloc (Obj.cells #[.string { data := #[] }, .slice none 0 0] 45)).alloc (Obj.cells #[.string (x.extract 0 20), .slice none 0 0] 45)).heap[w.heap.size]? = some (.cells #[.string x, .int .i64 a, .int .i64 b, .int .i64 c, .int .i64 n] 61 (0, 0)) := by
      rw [Below.heap_alloc _ _ _ (by simp; omega), Below.heap_alloc _ _ _ (by simp)]; exact heap_alloc_new w _
    have Z0 : (((w.alloc (Obj.cells #[.string x, .int .i64 a, .int .i64 b, .int .i64 c, .int .i64 n] 61)).alloc (Obj.cells #[.string { data := #[] }, .slice none 0 0] 45)).alloc (Obj.cells #[.string (x.extract 0 20), .slice none 0 0] 45)).heap[w.heap.size + 1]? = some (.cells #[.string { data := #[] }, .slice none 0 0] 45 (0, 0)) := by
      rw [Below.heap_alloc _ _ _ (by simp)]
      have := heap_alloc_new (w.alloc (Obj.cells #[.string x, .int .i64 a, .int .i64 b, .int .i64 c, .int .i64 n] 61)) (Obj.cells #[.string { data := #[] }, .slice none 0 0] 45)
      simpa using this
    have E0 : (((w.alloc (Obj.cells #[.string x, .int .i64 a, .int .i64 b, .int .i64 c, .int .i64 n] 61)).alloc (Obj.cells #[.string { data := #[] }, .slice none 0 0] 45)).alloc (Obj.cells #[.string (x.extract 0 20), .slice none 0 0] 45)).heap[w.heap.size + 1 + 1]? = some (.cells #[.string (x.extract 0 20), .slice none 0 0] 45 (0, 0)) := new_block2' _ _ _ _ _
    have hb0 : Below w.heap.size w (((w.alloc (Obj.cells #[.string x, .int .i64 a, .int .i64 b, .int .i64 c, .int .i64 n] 61)).alloc (Obj.cells #[.string { data := #[] }, .slice none 0 0] 45)).alloc (Obj.cells #[.string (x.extract 0 20), .slice none 0 0] 45)) := (((Below.refl _ _).alloc (Nat.le_refl _) _).alloc (by simp) _).alloc (by simp; omega) _
    have HS0 : Hid ((((w.alloc (Obj.cells #[.string x, .int .i64 a, .int .i64 b, .int .i64 c, .int .i64 n] 61)).alloc (Obj.cells #[.string { data := #[] }, .slice none 0 0] 45)).alloc (Obj.cells #[.string (x.extract 0 20), .slice none 0 0] 45)).heap.size = w.heap.size + 3) := by show _ = _; simp
    generalize (((w.alloc (Obj.cells #[.string x, .int .i64 a, .int .i64 b, .int .i64 c, .int .i64 n] 61)).alloc (Obj.cells #[.string { data := #[] }, .slice none 0 0] 45)).alloc (Obj.cells #[.string (x.extract 0 20), .slice none 0 0] 45)) = w2 at *
    have r3 : w2.cell? ⟨w.heap.size, 3, none⟩ = some (.int .i64 c) := by rw [cell_of_row w2 _ 3 _ _ _ R0]; rfl
    have r4 : w2.cell? ⟨w.heap.size, 4, none⟩ = some (.int .i64 n) := by rw [cell_of_row w2 _ 4 _ _ _ R0]; rfl
    have e1 : w2.cell? ⟨w.heap.size + 1 + 1, 1, none⟩ = some (.slice none 0 0) := by rw [cell_of_row w2 _ 1 _ _ _ E0]; rfl
    go_wp2_with (at_builtin; refine wpList_append_lies _ rfl _ _ 43 rfl (w.heap.size + 3) 49 i0 (.agg #[.int .i64 0, .int .i64 0]) 2 16 Tryz.underlying43 hi hz0 hz1 hz2 rfl (by decide) (.slice none 0 0) 0 [] rfl (World.ownsRow_nil _ _ _ _) ⟨w2.heap.size, 0, none⟩ 2 2 [.int .i64 (ja : Int), .int .i64 nn, .int .i64 (jb : Int), .int .i64 (-nn)] rfl rfl ?c1 ?c2 ?c3 ?c4 ?c5 ?c6 (w2.heap.size + 1) ?c7 ?_)
    case c1 => exact World.news_of_block (cs := #[.int .i64 (ja : Int), .int .i64 nn, .int .i64 (jb : Int), .int .i64 (-nn)]) (t := 49) (fr := (0, 0)) (heap_alloc_new w2 _)
    case c2 => intro u hu; simp at hu; rcases hu with rfl | rfl | rfl | rfl <;> rfl
    case c3 => omega
    case c4 => unfold maxLen; omega
    case c5 => omega
    case c6 => have := HS0.out; simp; omega
    case c7 => simp
    intro g1 cap1 w5 hown5 hgrow _ hlt5
    have hbk : ∀ j, j < w2.heap.size → w5.heap[j]? = w2.heap[j]? := fun j hj => (hgrow.block j (by simp; omega) (by simp [Value.ownBlock])).trans (Below.heap_alloc _ _ _ hj)
    have hs2 := HS0.out
    have R5 := (hbk w.heap.size (by omega)).trans R0
    have Z5 := (hbk (w.heap.size + 1) (by omega)).trans Z0
    have E5 := (hbk (w.heap.size + 1 + 1) (by omega)).trans E0
    have hb5 : Below w.heap.size w w5 := (hb0.alloc (by omega) _).grown hgrow (by simp; omega) (fun k hk => by simp [Value.ownBlock] at hk)
    have HOwn : Hid (OwnP w5 (w.heap.size + 3) (.slice (some ⟨g1, 0, none⟩) 2 cap1) [⟨(ja : Int), nn⟩, ⟨(jb : Int), -nn⟩]) := hown5
    have q3 : w5.cell? ⟨w.heap.size, 3, none⟩ = some (.int .i64 c) := by rw [cell_of_row w5 _ 3 _ _ _ R5]; rfl
    have qe0 : w5.cell? ⟨w.heap.size + 1 + 1, 0, none⟩ = some (.string (x.extract 0 20)) := by rw [cell_of_row w5 _ 0 _ _ _ E5]; rfl
    have qe1 : w5.cell? ⟨w.heap.size + 1 + 1, 1, none⟩ = some (.slice none 0 0) := by rw [cell_of_row w5 _ 1 _ _ _ E5]; rfl
    have qf1 : w5.frozen? ⟨w.heap.size + 1 + 1, 1, none⟩ = false := by simp [World.frozen?, E5]
    have qz0 : w5.cell? ⟨w.heap.size + 1, 0, none⟩ = some (.string { data := #[] }) := by rw [cell_of_row w5 _ 0 _ _ _ Z5]; rfl
    have qz1 : w5.cell? ⟨w.heap.size + 1, 1, none⟩ = some (.slice none 0 0) := by rw [cell_of_row w5 _ 1 _ _ _ Z5]; rfl
    have qy0 : w5.frozen? ⟨w.heap.size + 1, 0, none⟩ = false := by simp [World.frozen?, Z5]
    have qy1 : w5.frozen? ⟨w.heap.size + 1, 1, none⟩ = false := by simp [World.frozen?, Z5]
    have HF2 : Hid (Sg.EntFine nA ⟨(x.extract 0 20), [⟨(ja : Int), nn⟩, ⟨(jb : Int), -nn⟩]⟩) := ⟨HM.out, by simp, by simp, fun p hp => by simp at hp; rcases hp with rfl | rfl <;> exact ⟨by simp, by simp; omega⟩, by simp [Sg.amtSum]; omega, fun p hp => by simp at hp; rcases hp with rfl | rfl <;> simp <;> omega⟩
    clear hgrow hown5 hbk r3 r4 e1 R0 Z0 E0 hb0 hs2 HS0
    have HNN : Hid (n.tmod 1099511627776 = nn) := hnn
    clear hnn
    by_cases hodd : c.tmod 2 = 1
    · have hodd' : (c.tmod 2 == 1) = true := by simp [hodd]
      have hcd : -9223372036854775808 ≤ c.tdiv 2 ∧ c.tdiv 2 ≤ 9223372036854775807 := by
        by_cases h0 : 0 ≤ c
        · rw [Int.tdiv_eq_ediv_of_nonneg h0]; omega
        · have e : c.tdiv 2 = -((-c).tdiv 2) := by rw [Int.neg_tdiv, Int.neg_neg]
          rw [e, Int.tdiv_eq_ediv_of_nonneg (by omega)]; omega
      have HODD : Hid (c.tmod 2 = 1) := hodd
      clear hodd
      go_wp2_with fail
      refine (pick_is (c.tdiv 2) nA _ hcd (by omega) (by omega)).mono ?_
      rintro e w1 ⟨jc, rfl, hjc, hw, ejc⟩
      subst hw
      have HO6 : Hid (OwnP (w5.setCell ⟨w.heap.size + 1 + 1, 1, none⟩ (.slice (some ⟨g1, 0, none⟩) 2 cap1)) (w.heap.size + 3) (.slice (some ⟨g1, 0, none⟩) 2 cap1) [⟨(ja : Int), nn⟩, ⟨(jb : Int), -nn⟩]) := ownsRow_setCell_below HOwn.out (by simp) _
      have E6 : (w5.setCell ⟨w.heap.size + 1 + 1, 1, none⟩ (.slice (some ⟨g1, 0, none⟩) 2 cap1)).heap[w.heap.size + 1 + 1]? = some (.cells #[.string (x.extract 0 20), .slice (some ⟨g1, 0, none⟩) 2 cap1] 45 (0, 0)) := by
        rw [heap_setCell_same _ _ _ _ _ _ E5]; rfl
      have Z6 : (w5.setCell ⟨w.heap.size + 1 + 1, 1, none⟩ (.slice (some ⟨g1, 0, none⟩) 2 cap1)).heap[w.heap.size + 1]? = some (.cells #[.string { data := #[] }, .slice none 0 0] 45 (0, 0)) := (Below.heap_setCell _ _ _ _ (by simp)).trans Z5
      have hb6 : Below w.heap.size w (w5.setCell ⟨w.heap.size + 1 + 1, 1, none⟩ (.slice (some ⟨g1, 0, none⟩) 2 cap1)) := hb5.setCell (by simp; omega) _
      clear q3 qe0 qe1 qf1 qz0 qz1 qy0 qy1 R5 Z5 E5 hb5 HOwn
      generalize w5.setCell ⟨w.heap.size + 1 + 1, 1, none⟩ (.slice (some ⟨g1, 0, none⟩) 2 cap1) = w6 at *
      have qe1 : w6.cell? ⟨w.heap.size + 1 + 1, 1, none⟩ = some (.slice (some ⟨g1, 0, none⟩) 2 cap1) := by rw [cell_of_row w6 _ 1 _ _ _ E6]; rfl
      have hz6 := lt_of_block E6
      have hrl := World.ownsRow.lt HO6.out
      have hown6 := HO6.out
      unfold OwnP at hown6
      go_wp2_with (at_builtin; refine wpList_append_lies _ rfl _ _ 43 rfl (w.heap.size + 3) 49 i0 (.agg #[.int .i64 0, .int .i64 0]) 2 16 Tryz.underlying43 hi hz0 hz1 hz2 rfl (by decide) (.slice (some ⟨g1, 0, none⟩) 2 cap1) 2 (pCells [⟨(ja : Int), nn⟩, ⟨(jb : Int), -nn⟩]) rfl (hown6.alloc _) ⟨w6.heap.size, 0, none⟩ 2 2 [.int .i64 (jc : Int), .int .i64 5, .int .i64 (ja : Int), .int .i64 (-5)] rfl rfl ?c1 ?c2 ?c3 ?c4 ?c5 ?c6 (w6.heap.size + 1) ?c7 ?_)
      case c1 => exact World.news_of_block (cs := #[.int .i64 (jc : Int), .int .i64 5, .int .i64 (ja : Int), .int .i64 (-5)]) (t := 49) (fr := (0, 0)) (heap_alloc_new w6 _)
      case c2 => intro u hu; simp at hu; rcases hu with rfl | rfl | rfl | rfl <;> rfl
      case c3 => omega
      case c4 => unfold maxLen; omega
      case c5 => omega
      case c6 => simp; omega
      case c7 => simp
      intro g2 cap2 w7 hown7 hgrow7 _ hlt7
      have hbk : ∀ j, j < w.heap.size + 3 → j < w6.heap.size → w7.heap[j]? = w6.heap[j]? := fun j hj hj2 => (hgrow7.block j (by simp; omega) (fun e => by have := (hrl _ e.symm).1; omega)).trans (Below.heap_alloc _ _ _ hj2)
      have Z7 := (hbk (w.heap.size + 1) (by omega) (by omega)).trans Z6
      have E7 := (hbk (w.heap.size + 1 + 1) (by omega) hz6).trans E6
      have hb7 : Below w.heap.size w w7 := (hb6.alloc hb6.size _).grown hgrow7 (by have := hb6.size; simp; omega) (fun k hk => by have := (hrl _ hk).1; omega)
      have HOwn7 : Hid (OwnP w7 (w.heap.size + 3) (.slice (some ⟨g2, 0, none⟩) 4 cap2) [⟨(ja : Int), nn⟩, ⟨(jb : Int), -nn⟩, ⟨(jc : Int), 5⟩, ⟨(ja : Int), -5⟩]) := hown7
      have pe0 : w7.cell? ⟨w.heap.size + 1 + 1, 0, none⟩ = some (.string (x.extract 0 20)) := by rw [cell_of_row w7 _ 0 _ _ _ E7]; rfl
      have pe1 : w7.cell? ⟨w.heap.size + 1 + 1, 1, none⟩ = some (.slice (some ⟨g1, 0, none⟩) 2 cap1) := by rw [cell_of_row w7 _ 1 _ _ _ E7]; rfl
      have pf1 : w7.frozen? ⟨w.heap.size + 1 + 1, 1, none⟩ = false := by simp [World.frozen?, E7]
      have pz0 : w7.cell? ⟨w.heap.size + 1, 0, none⟩ = some (.string { data := #[] }) := by rw [cell_of_row w7 _ 0 _ _ _ Z7]; rfl
      have pz1 : w7.cell? ⟨w.heap.size + 1, 1, none⟩ = some (.slice none 0 0) := by rw [cell_of_row w7 _ 1 _ _ _ Z7]; rfl
      have py0 : w7.frozen? ⟨w.heap.size + 1, 0, none⟩ = false := by simp [World.frozen?, Z7]
      have py1 : w7.frozen? ⟨w.heap.size + 1, 1, none⟩ = false := by simp [World.frozen?, Z7]
      have HF4 : Hid (Sg.EntFine nA ⟨(x.extract 0 20), [⟨(ja : Int), nn⟩, ⟨(jb : Int), -nn⟩, ⟨(jc : Int), 5⟩, ⟨(ja : Int), -5⟩]⟩) := ⟨HM.out, by simp, by simp, fun p hp => by simp at hp; rcases hp with rfl | rfl | rfl | rfl <;> exact ⟨by simp, by simp; omega⟩, by simp [Sg.amtSum]; omega, fun p hp => by simp at hp; rcases hp with rfl | rfl | rfl | rfl <;> simp <;> omega⟩
      clear hgrow7 hown7 hbk Z6 E6 Z7 E7 hb6 hrl hown6 HO6 qe1 hodd' HF2
      go_wp2_with fail
      have HXX : Hid ((x.extract 0 20) = cutM x ∧ [⟨(ja : Int), nn⟩, ⟨(jb : Int), -nn⟩, ⟨(jc : Int), 5⟩, ⟨(ja : Int), -5⟩] = keepPosts nA a b c n) := ⟨by unfold cutM; rw [if_pos (by omega)], by unfold keepPosts; rw [if_pos HODD.out, ← eja.out, ← ejb.out, ← ejc.out, HNN.out]; rfl⟩
      refine bodyPost_ret (v := .agg #[.string (x.extract 0 20), .slice (some ⟨g2, 0, none⟩) 4 cap2]) (by simp [results, Tryz.results15, go_sem, pz0, pz1]) rfl ⟨_, _, _, rfl, ?_, HF4.out, HXX, ?_⟩
      · exact ownsRow_setCell_below (ownsRow_setCell_below (ownsRow_setCell_below HOwn7.out (by simp) _) (by simp) _) (by simp) _
      · exact ((hb7.setCell (by simp; omega) _).setCell (by simp) _).setCell (by simp) _
    · have hodd' : (c.tmod 2 == 1) = false := by simp [hodd]
      have HODD : Hid (¬ c.tmod 2 = 1) := hodd
      clear hodd
      go_wp2_with fail
      have HXX : Hid ((x.extract 0 20) = cutM x ∧ [⟨(ja : Int), nn⟩, ⟨(jb : Int), -nn⟩] = keepPosts nA a b c n) := ⟨by unfold cutM; rw [if_pos (by omega)], by unfold keepPosts; rw [if_neg HODD.out, ← eja.out, ← ejb.out, HNN.out]; rfl⟩
      refine bodyPost_ret (v := .agg #[.string (x.extract 0 20), .slice (some ⟨g1, 0, none⟩) 2 cap1]) (by simp [results, Tryz.results15, go_sem, qz0, qz1]) rfl ⟨_, _, _, rfl, ?_, HF2.out, HXX, ?_⟩
      · exact ownsRow_setCell_below (ownsRow_setCell_below (ownsRow_setCell_below HOwn.out (by simp) _) (by simp) _) (by simp) _
      · exact ((hb5.setCell (by simp; omega) _).setCell (by simp) _).setCell (by simp) _
  · -- one that is not
    have HM : Hid (x.size ≤ 20) := by show _ ≤ _; omega
    go_enter Tryz.func15, Tryz.ntmps15
    go_wp2_with fail
    refine (pick_is a nA _ ha (by omega) (by omega)).mono ?_
    rintro e w1 ⟨ja, rfl, hja, hw, eja⟩
    subst hw
    go_wp2_with fail
    refine (pick_is b nA _ hb (by omega) (by omega)).mono ?_
    rintro e w1 ⟨jb, rfl, hjb, hw, ejb⟩
    subst hw
    have R0 : (((w.alloc (Obj.cells #[.string x, .int .i64 a, .int .i64 b, .int .i64 c, .int .i64 n] 61)).alloc (Obj.cells #[.string { data := #[] }, .slice none 0 0] 45)).alloc (Obj.cells #[.string x, .slice none 0 0] 45)).heap[w.heap.size]? = some (.cells #[.string x, .int .i64 a, .int .i64 b, .int .i64 c, .int .i64 n] 61 (0, 0)) := by
      rw [Below.heap_alloc _ _ _ (by simp; omega), Below.heap_alloc _ _ _ (by simp)]; exact heap_alloc_new w _
    have Z0 : (((w.alloc (Obj.cells #[.string x, .int .i64 a, .int .i64 b, .int .i64 c, .int .i64 n] 61)).alloc (Obj.cells #[.string { data := #[] }, .slice none 0 0] 45)).alloc (Obj.cells #[.string x, .slice none 0 0] 45)).heap[w.heap.size + 1]? = some (.cells #[.string { data := #[] }, .slice none 0 0] 45 (0, 0)) := by
      rw [Below.heap_alloc _ _ _ (by simp)]
      have := heap_alloc_new (w.alloc (Obj.cells #[.string x, .int .i64 a, .int .i64 b, .int .i64 c, .int .i64 n] 61)) (Obj.cells #[.string { data := #[] }, .slice none 0 0] 45)
      simpa using this
    have E0 : (((w.alloc (Obj.cells #[.string x, .int .i64 a, .int .i64 b, .int .i64 c, .int .i64 n] 61)).alloc (Obj.cells #[.string { data := #[] }, .slice none 0 0] 45)).alloc (Obj.cells #[.string x, .slice none 0 0] 45)).heap[w.heap.size + 1 + 1]? = some (.cells #[.string x, .slice none 0 0] 45 (0, 0)) := new_block2' _ _ _ _ _
    have hb0 : Below w.heap.size w (((w.alloc (Obj.cells #[.string x, .int .i64 a, .int .i64 b, .int .i64 c, .int .i64 n] 61)).alloc (Obj.cells #[.string { data := #[] }, .slice none 0 0] 45)).alloc (Obj.cells #[.string x, .slice none 0 0] 45)) := (((Below.refl _ _).alloc (Nat.le_refl _) _).alloc (by simp) _).alloc (by simp; omega) _
    have HS0 : Hid ((((w.alloc (Obj.cells #[.string x, .int .i64 a, .int .i64 b, .int .i64 c, .int .i64 n] 61)).alloc (Obj.cells #[.string { data := #[] }, .slice none 0 0] 45)).alloc (Obj.cells #[.string x, .slice none 0 0] 45)).heap.size = w.heap.size + 3) := by show _ = _; simp
    generalize (((w.alloc (Obj.cells #[.string x, .int .i64 a, .int .i64 b, .int .i64 c, .int .i64 n] 61)).alloc (Obj.cells #[.string { data := #[] }, .slice none 0 0] 45)).alloc (Obj.cells #[.string x, .slice none 0 0] 45)) = w2 at *
    have r3 : w2.cell? ⟨w.heap.size, 3, none⟩ = some (.int .i64 c) := by rw [cell_of_row w2 _ 3 _ _ _ R0]; rfl
    have r4 : w2.cell? ⟨w.heap.size, 4, none⟩ = some (.int .i64 n) := by rw [cell_of_row w2 _ 4 _ _ _ R0]; rfl
    have e1 : w2.cell? ⟨w.heap.size + 1 + 1, 1, none⟩ = some (.slice none 0 0) := by rw [cell_of_row w2 _ 1 _ _ _ E0]; rfl
    go_wp2_with (at_builtin; refine wpList_append_lies _ rfl _ _ 43 rfl (w.heap.size + 3) 49 i0 (.agg #[.int .i64 0, .int .i64 0]) 2 16 Tryz.underlying43 hi hz0 hz1 hz2 rfl (by decide) (.slice none 0 0) 0 [] rfl (World.ownsRow_nil _ _ _ _) ⟨w2.heap.size, 0, none⟩ 2 2 [.int .i64 (ja : Int), .int .i64 nn, .int .i64 (jb : Int), .int .i64 (-nn)] rfl rfl ?c1 ?c2 ?c3 ?c4 ?c5 ?c6 (w2.heap.size + 1) ?c7 ?_)
    case c1 => exact World.news_of_block (cs := #[.int .i64 (ja : Int), .int .i64 nn, .int .i64 (jb : Int), .int .i64 (-nn)]) (t := 49) (fr := (0, 0)) (heap_alloc_new w2 _)
    case c2 => intro u hu; simp at hu; rcases hu with rfl | rfl | rfl | rfl <;> rfl
    case c3 => omega
    case c4 => unfold maxLen; omega
    case c5 => omega
    case c6 => have := HS0.out; simp; omega
    case c7 => simp
    intro g1 cap1 w5 hown5 hgrow _ hlt5
    have hbk : ∀ j, j < w2.heap.size → w5.heap[j]? = w2.heap[j]? := fun j hj => (hgrow.block j (by simp; omega) (by simp [Value.ownBlock])).trans (Below.heap_alloc _ _ _ hj)
    have hs2 := HS0.out
    have R5 := (hbk w.heap.size (by omega)).trans R0
    have Z5 := (hbk (w.heap.size + 1) (by omega)).trans Z0
    have E5 := (hbk (w.heap.size + 1 + 1) (by omega)).trans E0
    have hb5 : Below w.heap.size w w5 := (hb0.alloc (by omega) _).grown hgrow (by simp; omega) (fun k hk => by simp [Value.ownBlock] at hk)
    have HOwn : Hid (OwnP w5 (w.heap.size + 3) (.slice (some ⟨g1, 0, none⟩) 2 cap1) [⟨(ja : Int), nn⟩, ⟨(jb : Int), -nn⟩]) := hown5
    have q3 : w5.cell? ⟨w.heap.size, 3, none⟩ = some (.int .i64 c) := by rw [cell_of_row w5 _ 3 _ _ _ R5]; rfl
    have qe0 : w5.cell? ⟨w.heap.size + 1 + 1, 0, none⟩ = some (.string x) := by rw [cell_of_row w5 _ 0 _ _ _ E5]; rfl
    have qe1 : w5.cell? ⟨w.heap.size + 1 + 1, 1, none⟩ = some (.slice none 0 0) := by rw [cell_of_row w5 _ 1 _ _ _ E5]; rfl
    have qf1 : w5.frozen? ⟨w.heap.size + 1 + 1, 1, none⟩ = false := by simp [World.frozen?, E5]
    have qz0 : w5.cell? ⟨w.heap.size + 1, 0, none⟩ = some (.string { data := #[] }) := by rw [cell_of_row w5 _ 0 _ _ _ Z5]; rfl
    have qz1 : w5.cell? ⟨w.heap.size + 1, 1, none⟩ = some (.slice none 0 0) := by rw [cell_of_row w5 _ 1 _ _ _ Z5]; rfl
    have qy0 : w5.frozen? ⟨w.heap.size + 1, 0, none⟩ = false := by simp [World.frozen?, Z5]
    have qy1 : w5.frozen? ⟨w.heap.size + 1, 1, none⟩ = false := by simp [World.frozen?, Z5]
    have HF2 : Hid (Sg.EntFine nA ⟨x, [⟨(ja : Int), nn⟩, ⟨(jb : Int), -nn⟩]⟩) := ⟨HM.out, by simp, by simp, fun p hp => by simp at hp; rcases hp with rfl | rfl <;> exact ⟨by simp, by simp; omega⟩, by simp [Sg.amtSum]; omega, fun p hp => by simp at hp; rcases hp with rfl | rfl <;> simp <;> omega⟩
    clear hgrow hown5 hbk r3 r4 e1 R0 Z0 E0 hb0 hs2 HS0
    have HNN : Hid (n.tmod 1099511627776 = nn) := hnn
    clear hnn
    by_cases hodd : c.tmod 2 = 1
    · have hodd' : (c.tmod 2 == 1) = true := by simp [hodd]
      have hcd : -9223372036854775808 ≤ c.tdiv 2 ∧ c.tdiv 2 ≤ 9223372036854775807 := by
        by_cases h0 : 0 ≤ c
        · rw [Int.tdiv_eq_ediv_of_nonneg h0]; omega
        · have e : c.tdiv 2 = -((-c).tdiv 2) := by rw [Int.neg_tdiv, Int.neg_neg]
          rw [e, Int.tdiv_eq_ediv_of_nonneg (by omega)]; omega
      have HODD : Hid (c.tmod 2 = 1) := hodd
      clear hodd
      go_wp2_with fail
      refine (pick_is (c.tdiv 2) nA _ hcd (by omega) (by omega)).mono ?_
      rintro e w1 ⟨jc, rfl, hjc, hw, ejc⟩
      subst hw
      have HO6 : Hid (OwnP (w5.setCell ⟨w.heap.size + 1 + 1, 1, none⟩ (.slice (some ⟨g1, 0, none⟩) 2 cap1)) (w.heap.size + 3) (.slice (some ⟨g1, 0, none⟩) 2 cap1) [⟨(ja : Int), nn⟩, ⟨(jb : Int), -nn⟩]) := ownsRow_setCell_below HOwn.out (by simp) _
      have E6 : (w5.setCell ⟨w.heap.size + 1 + 1, 1, none⟩ (.slice (some ⟨g1, 0, none⟩) 2 cap1)).heap[w.heap.size + 1 + 1]? = some (.cells #[.string x, .slice (some ⟨g1, 0, none⟩) 2 cap1] 45 (0, 0)) := by
        rw [heap_setCell_same _ _ _ _ _ _ E5]; rfl
      have Z6 : (w5.setCell ⟨w.heap.size + 1 + 1, 1, none⟩ (.slice (some ⟨g1, 0, none⟩) 2 cap1)).heap[w.heap.size + 1]? = some (.cells #[.string { data := #[] }, .slice none 0 0] 45 (0, 0)) := (Below.heap_setCell _ _ _ _ (by simp)).trans Z5
      have hb6 : Below w.heap.size w (w5.setCell ⟨w.heap.size + 1 + 1, 1, none⟩ (.slice (some ⟨g1, 0, none⟩) 2 cap1)) := hb5.setCell (by simp; omega) _
      clear q3 qe0 qe1 qf1 qz0 qz1 qy0 qy1 R5 Z5 E5 hb5 HOwn
      generalize w5.setCell ⟨w.heap.size + 1 + 1, 1, none⟩ (.slice (some ⟨g1, 0, none⟩) 2 cap1) = w6 at *
      have qe1 : w6.cell? ⟨w.heap.size + 1 + 1, 1, none⟩ = some (.slice (some ⟨g1, 0, none⟩) 2 cap1) := by rw [cell_of_row w6 _ 1 _ _ _ E6]; rfl
      have hz6 := lt_of_block E6
      have hrl := World.ownsRow.lt HO6.out
      have hown6 := HO6.out
      unfold OwnP at hown6
      go_wp2_with (at_builtin; refine wpList_append_lies _ rfl _ _ 43 rfl (w.heap.size + 3) 49 i0 (.agg #[.int .i64 0, .int .i64 0]) 2 16 Tryz.underlying43 hi hz0 hz1 hz2 rfl (by decide) (.slice (some ⟨g1, 0, none⟩) 2 cap1) 2 (pCells [⟨(ja : Int), nn⟩, ⟨(jb : Int), -nn⟩]) rfl (hown6.alloc _) ⟨w6.heap.size, 0, none⟩ 2 2 [.int .i64 (jc : Int), .int .i64 5, .int .i64 (ja : Int), .int .i64 (-5)] rfl rfl ?c1 ?c2 ?c3 ?c4 ?c5 ?c6 (w6.heap.size + 1) ?c7 ?_)
      case c1 => exact World.news_of_block (cs := #[.int .i64 (jc : Int), .int .i64 5, .int .i64 (ja : Int), .int .i64 (-5)]) (t := 49) (fr := (0, 0)) (heap_alloc_new w6 _)
      case c2 => intro u hu; simp at hu; rcases hu with rfl | rfl | rfl | rfl <;> rfl
      case c3 => omega
      case c4 => unfold maxLen; omega
      case c5 => omega
      case c6 => simp; omega
      case c7 => simp
      intro g2 cap2 w7 hown7 hgrow7 _ hlt7
      have hbk : ∀ j, j < w.heap.size + 3 → j < w6.heap.size → w7.heap[j]? = w6.heap[j]? := fun j hj hj2 => (hgrow7.block j (by simp; omega) (fun e => by have := (hrl _ e.symm).1; omega)).trans (Below.heap_alloc _ _ _ hj2)
      have Z7 := (hbk (w.heap.size + 1) (by omega) (by omega)).trans Z6
      have E7 := (hbk (w.heap.size + 1 + 1) (by omega) hz6).trans E6
      have hb7 : Below w.heap.size w w7 := (hb6.alloc hb6.size _).grown hgrow7 (by have := hb6.size; simp; omega) (fun k hk => by have := (hrl _ hk).1; omega)
      have HOwn7 : Hid (OwnP w7 (w.heap.size + 3) (.slice (some ⟨g2, 0, none⟩) 4 cap2) [⟨(ja : Int), nn⟩, ⟨(jb : Int), -nn⟩, ⟨(jc : Int), 5⟩, ⟨(ja : Int), -5⟩]) := hown7
      have pe0 : w7.cell? ⟨w.heap.size + 1 + 1, 0, none⟩ = some (.string x) := by rw [cell_of_row w7 _ 0 _ _ _ E7]; rfl
      have pe1 : w7.cell? ⟨w.heap.size + 1 + 1, 1, none⟩ = some (.slice (some ⟨g1, 0, none⟩) 2 cap1) := by rw [cell_of_row w7 _ 1 _ _ _ E7]; rfl
      have pf1 : w7.frozen? ⟨w.heap.size + 1 + 1, 1, none⟩ = false := by simp [World.frozen?, E7]
      have pz0 : w7.cell? ⟨w.heap.size + 1, 0, none⟩ = some (.string { data := #[] }) := by rw [cell_of_row w7 _ 0 _ _ _ Z7]; rfl
      have pz1 : w7.cell? ⟨w.heap.size + 1, 1, none⟩ = some (.slice none 0 0) := by rw [cell_of_row w7 _ 1 _ _ _ Z7]; rfl
      have py0 : w7.frozen? ⟨w.heap.size + 1, 0, none⟩ = false := by simp [World.frozen?, Z7]
      have py1 : w7.frozen? ⟨w.heap.size + 1, 1, none⟩ = false := by simp [World.frozen?, Z7]
      have HF4 : Hid (Sg.EntFine nA ⟨x, [⟨(ja : Int), nn⟩, ⟨(jb : Int), -nn⟩, ⟨(jc : Int), 5⟩, ⟨(ja : Int), -5⟩]⟩) := ⟨HM.out, by simp, by simp, fun p hp => by simp at hp; rcases hp with rfl | rfl | rfl | rfl <;> exact ⟨by simp, by simp; omega⟩, by simp [Sg.amtSum]; omega, fun p hp => by simp at hp; rcases hp with rfl | rfl | rfl | rfl <;> simp <;> omega⟩
      clear hgrow7 hown7 hbk Z6 E6 Z7 E7 hb6 hrl hown6 HO6 qe1 hodd' HF2
      go_wp2_with fail
      have HXX : Hid (x = cutM x ∧ [⟨(ja : Int), nn⟩, ⟨(jb : Int), -nn⟩, ⟨(jc : Int), 5⟩, ⟨(ja : Int), -5⟩] = keepPosts nA a b c n) := ⟨by unfold cutM; rw [if_neg (by omega)], by unfold keepPosts; rw [if_pos HODD.out, ← eja.out, ← ejb.out, ← ejc.out, HNN.out]; rfl⟩
      refine bodyPost_ret (v := .agg #[.string x, .slice (some ⟨g2, 0, none⟩) 4 cap2]) (by simp [results, Tryz.results15, go_sem, pz0, pz1]) rfl ⟨_, _, _, rfl, ?_, HF4.out, HXX, ?_⟩
      · exact ownsRow_setCell_below (ownsRow_setCell_below (ownsRow_setCell_below HOwn7.out (by simp) _) (by simp) _) (by simp) _
      · exact ((hb7.setCell (by simp; omega) _).setCell (by simp) _).setCell (by simp) _
    · have hodd' : (c.tmod 2 == 1) = false := by simp [hodd]
      have HODD : Hid (¬ c.tmod 2 = 1) := hodd
      clear hodd
      go_wp2_with fail
      have HXX : Hid (x = cutM x ∧ [⟨(ja : Int), nn⟩, ⟨(jb : Int), -nn⟩] = keepPosts nA a b c n) := ⟨by unfold cutM; rw [if_neg (by omega)], by unfold keepPosts; rw [if_neg HODD.out, ← eja.out, ← ejb.out, HNN.out]; rfl⟩
      refine bodyPost_ret (v := .agg #[.string x, .slice (some ⟨g1, 0, none⟩) 2 cap1]) (by simp [results, Tryz.results15, go_sem, qz0, qz1]) rfl ⟨_, _, _, rfl, ?_, HF2.out, HXX, ?_⟩
      · exact ownsRow_setCell_below (ownsRow_setCell_below (ownsRow_setCell_below HOwn.out (by simp) _) (by simp) _) (by simp) _
      · exact ((hb5.setCell (by simp; omega) _).setCell (by simp) _).setCell (by simp) _

set_option maxHeartbeats 3200000 in
/-- chart. -/
theorem keepChartX_any (c : Int) (w : World) (hc : -9223372036854775808 ≤ c ∧ c ≤ 9223372036854775807) :
    Calls Tryz.prog 14 #[.int .i64 c] w fun e w' => ∃ v ac, e = .returned v ∧ Hid (OwnA w' w.heap.size v ac) ∧ ChartTo ac ∧ (2 ≤ ac.length ∧ ac.length ≤ 8) ∧ Hid (CX c ac ∧ ac.length = 2 + pickN c 7) ∧ Below w.heap.size w w' := by
  obtain ⟨i0, hi, hz0, hz1, hz2⟩ := info_parts Tryz.infoAcc2
  go_enter Tryz.func14, Tryz.ntmps14
  go_wp2_with fail
  refine (pick_is c 7 _ hc (by omega) (by omega)).mono ?_
  rintro e w1 ⟨j, rfl, hj, hw, ej⟩
  have hw' := hw.symm
  subst hw'
  clear hw
  obtain ⟨n, hn⟩ : ∃ n : Nat, n = 2 + j := ⟨_, rfl⟩
  have hwn : IntKind.i64.wrap (2 + (j : Int)) = (n : Int) := by rw [IntWalk.i64_in _ (by omega)]; omega
  have hn2 : 2 ≤ n := by omega
  have hn8 : n ≤ 8 := by omega
  have HN7 : Hid (n = 2 + pickN c 7) := by show _ = _; rw [hn, ej.out]
  clear hn hj
  go_wp2_with fail
  go_loopw [3, 5] (fun o i wr => ∃ k : Nat, k ≤ n ∧ i = .int .i64 (k : Int) ∧ ∃ v ac, v = o ∧ Hid (OwnA wr w.heap.size v ac) ∧ Hid (ChartTo ac ∧ CX c ac) ∧ ac.length = k ∧ Below w.heap.size w wr) (fun _ i _ => n - (intOf i).toNat)
  case atStart => exact ⟨0, by omega, rfl, _, [], rfl, World.ownsRow_nil _ _ _ _, ⟨fun i hi => absurd hi (by simp), fun i hi => absurd hi (by simp)⟩, rfl, Below.refl _ _⟩
  case round =>
    obtain ⟨k, hk, rfl, v, ac, ev, HO, HC, hlen, hbr⟩ := hrel
    subst ev
    obtain ⟨wz, ewz⟩ : ∃ z : World, z = wr := ⟨_, rfl⟩
    subst ewz
    have hsz := hbr.size
    by_cases hlt : k < n
    · have hw97 : IntKind.i64.wrap (97 + (k : Int)) = 97 + (k : Int) := IntWalk.i64_in _ (by omega)
      have hw2k : IntKind.i64.wrap (2 * (k : Int)) = 2 * (k : Int) := IntWalk.i64_in _ (by omega)
      have i1 : (k : Int) < (n : Int) := by omega
      have i2 : (0 : Int) ≤ 2 * (k : Int) := by omega
      have i3 : ¬ (2 * (k : Int)) < 0 := by omega
      have hown := HO.out
      unfold OwnA at hown
      have hw8 : IntKind.u8.wrap (97 + (k : Int)) = 97 + (k : Int) := by simp [IntKind.wrap, IntKind.bits, IntKind.signed]; omega
      obtain ⟨kb, hkb⟩ : ∃ kb, kb = UInt8.ofNat (97 + k) := ⟨_, rfl⟩
      have hkn : kb.toNat = 97 + k := by rw [hkb]; simp; omega
      have HNm : Hid (keepName k = ({ data := #[97, 99, 99, 111, 117, 110, 116, 32] } : ByteArray) ++ ⟨#[kb]⟩) := by show _ = _; rw [hkb]; rfl
      have hcv : (convert 54 9 (.slice (some ⟨wz.heap.size, 0, none⟩) 1 1)).run Tryz.prog (wz.alloc (.cells #[.int .u8 (97 + (k : Int))] 5)).drew = .ok (.string ⟨#[kb]⟩) (wz.alloc (.cells #[.int .u8 (97 + (k : Int))] 5)).drew := by
        refine run_convert_bytes_back (P := Tryz.prog) _ 54 9 5 ⟨wz.heap.size, 0, none⟩ 1 [kb] Tryz.underlying54 Tryz.underlying5 Tryz.underlying9 ?_
        intro j hj
        match j, hj with
        | 0, _ =>
          simp only [List.getElem_cons_zero, hkn]
          simp [Addr.add]
      have hcat := cat ({ data := #[97, 99, 99, 111, 117, 110, 116, 32] } : ByteArray) ⟨#[kb]⟩ (by show 8 + 1 ≤ _; omega)
      obtain ⟨nm, hnm⟩ : ∃ nm, ({ data := #[97, 99, 99, 111, 117, 110, 116, 32] } : ByteArray) ++ ⟨#[kb]⟩ = nm := ⟨_, rfl⟩
      rw [hnm] at hcat HNm
      rw [hlen] at hown
      have HLen : Hid (ac.length = k) := hlen
      clear hnm hkb hkn hlen
      go_wp2_with fail
      go_region_law (first
          | (rw [if_pos (by simp [Region.wanted])]; go_simp; go_at_call 8; refine (pick_is _ 4 _ (shr_bd c _ hc) (by omega) (by omega)).mono ?_; rintro e w2 ⟨l, rfl, hl, hw2, el⟩; have hw2' := hw2.symm; subst hw2'; clear hw2)
          | (refine step_append_lies _ (by rfl) _ _ _ (by rfl) w.heap.size 47 i0 _ 2 24 Tryz.underlying23 hi hz0 hz1 hz2 rfl (by omega) _ k (aCells ac) (by rfl) (by first | exact ((hown.alloc _).alloc _).drew | exact ((hown.alloc _).drew.alloc _) | exact ((hown.alloc _).alloc _)) ⟨wz.heap.size + 1, 0, none⟩ 1 1 [.string nm, .int .i64 (l : Int)] (by rfl) (by rfl) (by exact World.news_of_block (cs := #[.string nm, .int .i64 (l : Int)]) (t := 47) (fr := (0, 0)) (new_block2 wz _ _ _)) (by simp [Value.oneCell']) (by omega) (by unfold maxLen; omega) (by omega) (by simp; omega) (wz.heap.size + 2) (by simp) ?_; intro g cap' w5 hown5 hgrow hat5 hlt5))
      all_goals
        have hbe : Below w.heap.size w w5 := Below.grown (by first | exact ((hbr.alloc hsz _).alloc (by simp; omega) _).drew | exact (hbr.alloc hsz _).drew.alloc (by simp; omega) _ | exact (hbr.alloc hsz _).alloc (by simp; omega) _) hgrow (by simp; omega) (fun q hq => (World.ownsRow.lt hown q hq).1)
        have HOn : Hid (OwnA w5 w.heap.size (.slice (some ⟨g, 0, none⟩) (k + 1) cap') (ac ++ [⟨nm, (l : Int)⟩])) := by
          show OwnA _ _ _ _
          unfold OwnA
          rw [aCells_snoc, List.length_append, HLen.out]
          exact hown5
        have HCn : Hid (ChartTo (ac ++ [⟨nm, (l : Int)⟩]) ∧ CX c (ac ++ [⟨nm, (l : Int)⟩])) := by
          have := HC.out.1.snoc (l := (l : Int)) (by omega)
          rw [HLen.out, HNm.out] at this
          refine ⟨this, ?_⟩
          have h2 := HC.out.2.snoc
          rw [HLen.out, HNm.out] at h2
          rw [el.out]
          exact h2
        have hln : (ac ++ [(⟨nm, (l : Int)⟩ : Sg.Acc)]).length = k + 1 := by rw [List.length_append, HLen.out]; rfl
        have HLn : Hid ((ac ++ [(⟨nm, (l : Int)⟩ : Sg.Acc)]).length = k + 1) := hln
        clear hown5 hgrow hown HO HC hat5 hcv hcat hln
        go_wp2_with fail
        go_roundw
        case rel => exact ⟨k + 1, by omega, by go_num, _, _, rfl, HOn, HCn, HLn.out, hbe⟩
        case measure => simp [intOf]; omega
    · have hkn : k = n := by omega
      have HL : Hid (2 ≤ ac.length ∧ ac.length ≤ 8) := by show _ ∧ _; omega
      have HXX : Hid (CX c ac ∧ ac.length = 2 + pickN c 7) := ⟨HC.out.2, by rw [hlen, hkn, HN7.out]⟩
      clear hlen
      go_wp2_with fail
      go_ret
      exact ⟨_, _, rfl, HO, HC.out.1, HL.out, HXX, hbr⟩
end Go.Proofs.YtpkkhkkkgjhkeabGreat
