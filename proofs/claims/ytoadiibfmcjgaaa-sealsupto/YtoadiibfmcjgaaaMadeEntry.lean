/-
  THE WALK of signetkeep.entry: an entry that is balanced, out of raw numbers.
-/
import Derived.Test.YtoadiibfmcjgaaaMadeSpec
import Derived.Test.YtoadiibfmcjgaaaPick
import Derived.Test.YtoadiibfmcjgaaaTb
import Derived.Deep.AppendLies
namespace Go.Proofs.Ytoadiibfmcjgaaa
open Go.RowKit
set_option maxRecDepth 100000
attribute [local go_sem ↓] Go.wp_at_zero Go.wp_at_succ

theorem Try.infoPst2 : (Try.prog.info? 90).map (fun i => (i.zero, i.size, i.bytes)) = some (some (.agg #[.int .i64 0, .int .i64 0]), 2, 16) := by kernel_rfl
/-- Postings, cell by cell. -/
def pCells (ps : List Sg.Pst) : List Value := ps.flatMap fun p => [.int .i64 p.acct, .int .i64 p.amt]
theorem pCells_append (a b : List Sg.Pst) : pCells (a ++ b) = pCells a ++ pCells b := by unfold pCells; rw [List.flatMap_append]
/-- A list of postings that is the call's own. -/
def OwnP (w : World) (base : Nat) (v : Value) (ps : List Sg.Pst) : Prop := w.ownsRow base 90 2 v ps.length (pCells ps)
theorem OwnP.below {w w' : World} {base : Nat} {v : Value} {ps : List Sg.Pst} (h : OwnP w base v ps) (hb : Below w.heap.size w w') : OwnP w' base v ps := ownsRow_below h hb

theorem new_block2' (w : World) (o o' : Obj) (cs : Array Value) (t : TypeId) : (((w.alloc o).alloc o').alloc (.cells cs t)).heap[w.heap.size + 1 + 1]? = some (.cells cs t (0, 0)) := by
  have := heap_alloc_new ((w.alloc o).alloc o') (.cells cs t)
  have e : ((w.alloc o).alloc o').heap.size = w.heap.size + 1 + 1 := by simp
  rw [e] at this
  exact this

set_option maxHeartbeats 3200000 in
/-- entry. -/
theorem keepEntry_any (x : ByteArray) (a b c n : Int) (nA : Nat) (w : World) (ha : -9223372036854775808 ≤ a ∧ a ≤ 9223372036854775807) (hb : -9223372036854775808 ≤ b ∧ b ≤ 9223372036854775807) (hc : -9223372036854775808 ≤ c ∧ c ≤ 9223372036854775807) (hx : x.size ≤ maxLen) (h2 : 2 ≤ nA) (h8 : nA ≤ 8) :
    Calls Try.prog 60 #[.agg #[.string x, .int .i64 a, .int .i64 b, .int .i64 c, .int .i64 n], .int .i64 (nA : Int)] w fun e w' => ∃ m pv ps, e = .returned (.agg #[.string m, pv]) ∧ Hid (OwnP w' (w.heap.size + 3) pv ps) ∧ Sg.EntFine nA ⟨m, ps⟩ ∧ Below w.heap.size w w' := by
  obtain ⟨i0, hi, hz0, hz1, hz2⟩ := info_parts Try.infoPst2
  unfold maxLen at hx
  obtain ⟨nn, hnn⟩ : ∃ nn, n.tmod 1099511627776 = nn := ⟨_, rfl⟩
  have hnb : -1099511627776 < nn ∧ nn < 1099511627776 := by
    rw [← hnn]
    by_cases h0 : 0 ≤ n
    · rw [Int.tmod_eq_emod_of_nonneg h0]; omega
    · have e : n.tmod 1099511627776 = -((-n).tmod 1099511627776) := by rw [Int.neg_tmod, Int.neg_neg]
      rw [e, Int.tmod_eq_emod_of_nonneg (by omega)]; omega
  have hneg : IntKind.i64.wrap (-nn) = -nn := IntWalk.i64_in _ (by omega)
  by_cases hlong : 20 < (x.size : Int)
  · -- a memo that is too long
    have HM : Hid ((x.extract 0 20).size ≤ 20) := by show _ ≤ _; rw [ByteArray.size_extract]; omega
    go_enter Try.func60, Try.ntmps60
    go_wp2_with fail
    refine (pick_any a nA _ ha (by omega) (by omega)).mono ?_
    rintro e w1 ⟨ja, rfl, hja, hw⟩
    subst hw
    go_wp2_with fail
    refine (pick_any b nA _ hb (by omega) (by omega)).mono ?_
    rintro e w1 ⟨jb, rfl, hjb, hw⟩
    subst hw
    have R0 : (((w.alloc (Obj.cells #[.string x, .int .i64 a, .int .i64 b, .int .i64 c, .int .i64 n] 107)).alloc (Obj.cells #[.string { data := #[] }, .slice none 0 0] 55)).alloc (Obj.cells #[.string (x.extract 0 20), .slice none 0 0] 55)).heap[w.heap.size]? = some (.cells #[.string x, .int .i64 a, .int .i64 b, .int .i64 c, .int .i64 n] 107 (0, 0)) := by
      rw [Below.heap_alloc _ _ _ (by simp; omega), Below.heap_alloc _ _ _ (by simp)]; exact heap_alloc_new w _
    have Z0 : (((w.alloc (Obj.cells #[.string x, .int .i64 a, .int .i64 b, .int .i64 c, .int .i64 n] 107)).alloc (Obj.cells #[.string { data := #[] }, .slice none 0 0] 55)).alloc (Obj.cells #[.string (x.extract 0 20), .slice none 0 0] 55)).heap[w.heap.size + 1]? = some (.cells #[.string { data := #[] }, .slice none 0 0] 55 (0, 0)) := by
      rw [Below.heap_alloc _ _ _ (by simp)]
      have := heap_alloc_new (w.alloc (Obj.cells #[.string x, .int .i64 a, .int .i64 b, .int .i64 c, .int .i64 n] 107)) (Obj.cells #[.string { data := #[] }, .slice none 0 0] 55)
      simpa using this
    have E0 : (((w.alloc (Obj.cells #[.string x, .int .i64 a, .int .i64 b, .int .i64 c, .int .i64 n] 107)).alloc (Obj.cells #[.string { data := #[] }, .slice none 0 0] 55)).alloc (Obj.cells #[.string (x.extract 0 20), .slice none 0 0] 55)).heap[w.heap.size + 1 + 1]? = some (.cells #[.string (x.extract 0 20), .slice none 0 0] 55 (0, 0)) := new_block2' _ _ _ _ _
    have hb0 : Below w.heap.size w (((w.alloc (Obj.cells #[.string x, .int .i64 a, .int .i64 b, .int .i64 c, .int .i64 n] 107)).alloc (Obj.cells #[.string { data := #[] }, .slice none 0 0] 55)).alloc (Obj.cells #[.string (x.extract 0 20), .slice none 0 0] 55)) := (((Below.refl _ _).alloc (Nat.le_refl _) _).alloc (by simp) _).alloc (by simp; omega) _
    have HS0 : Hid ((((w.alloc (Obj.cells #[.string x, .int .i64 a, .int .i64 b, .int .i64 c, .int .i64 n] 107)).alloc (Obj.cells #[.string { data := #[] }, .slice none 0 0] 55)).alloc (Obj.cells #[.string (x.extract 0 20), .slice none 0 0] 55)).heap.size = w.heap.size + 3) := by show _ = _; simp
    generalize (((w.alloc (Obj.cells #[.string x, .int .i64 a, .int .i64 b, .int .i64 c, .int .i64 n] 107)).alloc (Obj.cells #[.string { data := #[] }, .slice none 0 0] 55)).alloc (Obj.cells #[.string (x.extract 0 20), .slice none 0 0] 55)) = w2 at *
    have r3 : w2.cell? ⟨w.heap.size, 3, none⟩ = some (.int .i64 c) := by rw [cell_of_row w2 _ 3 _ _ _ R0]; rfl
    have r4 : w2.cell? ⟨w.heap.size, 4, none⟩ = some (.int .i64 n) := by rw [cell_of_row w2 _ 4 _ _ _ R0]; rfl
    have e1 : w2.cell? ⟨w.heap.size + 1 + 1, 1, none⟩ = some (.slice none 0 0) := by rw [cell_of_row w2 _ 1 _ _ _ E0]; rfl
    go_wp2_with (at_builtin; refine wpList_append_lies _ rfl _ _ 53 rfl (w.heap.size + 3) 90 i0 (.agg #[.int .i64 0, .int .i64 0]) 2 16 Try.underlying53 hi hz0 hz1 hz2 rfl (by decide) (.slice none 0 0) 0 [] rfl (World.ownsRow_nil _ _ _ _) ⟨w2.heap.size, 0, none⟩ 2 2 [.int .i64 (ja : Int), .int .i64 nn, .int .i64 (jb : Int), .int .i64 (-nn)] rfl rfl ?c1 ?c2 ?c3 ?c4 ?c5 ?c6 (w2.heap.size + 1) ?c7 ?_)
    case c1 => exact World.news_of_block (cs := #[.int .i64 (ja : Int), .int .i64 nn, .int .i64 (jb : Int), .int .i64 (-nn)]) (t := 90) (fr := (0, 0)) (heap_alloc_new w2 _)
    case c2 => intro u hu; simp at hu; rcases hu with rfl | rfl | rfl | rfl <;> rfl
    case c3 => omega
    case c4 => unfold maxLen; omega
    case c5 => omega
    case c6 => have := HS0.out; simp; omega
    case c7 => simp
    intro g1 cap1 w5 hown5 hgrow _ hlt5
    have hbk : ∀ j, j < w2.heap.size → w5.heap[j]? = w2.heap[j]? := fun j hj => (hgrow.block j (by simp; omega) (by simp [Value.ownBlock])).trans (Below.heap_alloc _ _ _ hj)
    have hs2 := HS0.out
    have R5 := (hbk w.heap.size (by omega)).trans R0
    have Z5 := (hbk (w.heap.size + 1) (by omega)).trans Z0
    have E5 := (hbk (w.heap.size + 1 + 1) (by omega)).trans E0
    have hb5 : Below w.heap.size w w5 := (hb0.alloc (by omega) _).grown hgrow (by simp; omega) (fun k hk => by simp [Value.ownBlock] at hk)
    have HOwn : Hid (OwnP w5 (w.heap.size + 3) (.slice (some ⟨g1, 0, none⟩) 2 cap1) [⟨(ja : Int), nn⟩, ⟨(jb : Int), -nn⟩]) := hown5
    have q3 : w5.cell? ⟨w.heap.size, 3, none⟩ = some (.int .i64 c) := by rw [cell_of_row w5 _ 3 _ _ _ R5]; rfl
    have qe0 : w5.cell? ⟨w.heap.size + 1 + 1, 0, none⟩ = some (.string (x.extract 0 20)) := by rw [cell_of_row w5 _ 0 _ _ _ E5]; rfl
    have qe1 : w5.cell? ⟨w.heap.size + 1 + 1, 1, none⟩ = some (.slice none 0 0) := by rw [cell_of_row w5 _ 1 _ _ _ E5]; rfl
    have qf1 : w5.frozen? ⟨w.heap.size + 1 + 1, 1, none⟩ = false := by simp [World.frozen?, E5]
    have qz0 : w5.cell? ⟨w.heap.size + 1, 0, none⟩ = some (.string { data := #[] }) := by rw [cell_of_row w5 _ 0 _ _ _ Z5]; rfl
    have qz1 : w5.cell? ⟨w.heap.size + 1, 1, none⟩ = some (.slice none 0 0) := by rw [cell_of_row w5 _ 1 _ _ _ Z5]; rfl
    have qy0 : w5.frozen? ⟨w.heap.size + 1, 0, none⟩ = false := by simp [World.frozen?, Z5]
    have qy1 : w5.frozen? ⟨w.heap.size + 1, 1, none⟩ = false := by simp [World.frozen?, Z5]
    have HF2 : Hid (Sg.EntFine nA ⟨(x.extract 0 20), [⟨(ja : Int), nn⟩, ⟨(jb : Int), -nn⟩]⟩) := ⟨HM.out, by simp, by simp, fun p hp => by simp at hp; rcases hp with rfl | rfl <;> exact ⟨by simp, by simp; omega⟩, by simp [Sg.amtSum]; omega, fun p hp => by simp at hp; rcases hp with rfl | rfl <;> simp <;> omega⟩
    clear hgrow hown5 hbk r3 r4 e1 R0 Z0 E0 hb0 hs2 HS0 hnn
    by_cases hodd : c.tmod 2 = 1
    · have hodd' : (c.tmod 2 == 1) = true := by simp [hodd]
      have hcd : -9223372036854775808 ≤ c.tdiv 2 ∧ c.tdiv 2 ≤ 9223372036854775807 := by
        by_cases h0 : 0 ≤ c
        · rw [Int.tdiv_eq_ediv_of_nonneg h0]; omega
        · have e : c.tdiv 2 = -((-c).tdiv 2) := by rw [Int.neg_tdiv, Int.neg_neg]
          rw [e, Int.tdiv_eq_ediv_of_nonneg (by omega)]; omega
      clear hodd
      go_wp2_with fail
      refine (pick_any (c.tdiv 2) nA _ hcd (by omega) (by omega)).mono ?_
      rintro e w1 ⟨jc, rfl, hjc, hw⟩
      subst hw
      have HO6 : Hid (OwnP (w5.setCell ⟨w.heap.size + 1 + 1, 1, none⟩ (.slice (some ⟨g1, 0, none⟩) 2 cap1)) (w.heap.size + 3) (.slice (some ⟨g1, 0, none⟩) 2 cap1) [⟨(ja : Int), nn⟩, ⟨(jb : Int), -nn⟩]) := ownsRow_setCell_below HOwn.out (by simp) _
      have E6 : (w5.setCell ⟨w.heap.size + 1 + 1, 1, none⟩ (.slice (some ⟨g1, 0, none⟩) 2 cap1)).heap[w.heap.size + 1 + 1]? = some (.cells #[.string (x.extract 0 20), .slice (some ⟨g1, 0, none⟩) 2 cap1] 55 (0, 0)) := by
        rw [heap_setCell_same _ _ _ _ _ _ E5]; rfl
      have Z6 : (w5.setCell ⟨w.heap.size + 1 + 1, 1, none⟩ (.slice (some ⟨g1, 0, none⟩) 2 cap1)).heap[w.heap.size + 1]? = some (.cells #[.string { data := #[] }, .slice none 0 0] 55 (0, 0)) := (Below.heap_setCell _ _ _ _ (by simp)).trans Z5
      have hb6 : Below w.heap.size w (w5.setCell ⟨w.heap.size + 1 + 1, 1, none⟩ (.slice (some ⟨g1, 0, none⟩) 2 cap1)) := hb5.setCell (by simp; omega) _
      clear q3 qe0 qe1 qf1 qz0 qz1 qy0 qy1 R5 Z5 E5 hb5 HOwn
      generalize w5.setCell ⟨w.heap.size + 1 + 1, 1, none⟩ (.slice (some ⟨g1, 0, none⟩) 2 cap1) = w6 at *
      have qe1 : w6.cell? ⟨w.heap.size + 1 + 1, 1, none⟩ = some (.slice (some ⟨g1, 0, none⟩) 2 cap1) := by rw [cell_of_row w6 _ 1 _ _ _ E6]; rfl
      have hz6 := lt_of_block E6
      have hrl := World.ownsRow.lt HO6.out
      have hown6 := HO6.out
      unfold OwnP at hown6
      go_wp2_with (at_builtin; refine wpList_append_lies _ rfl _ _ 53 rfl (w.heap.size + 3) 90 i0 (.agg #[.int .i64 0, .int .i64 0]) 2 16 Try.underlying53 hi hz0 hz1 hz2 rfl (by decide) (.slice (some ⟨g1, 0, none⟩) 2 cap1) 2 (pCells [⟨(ja : Int), nn⟩, ⟨(jb : Int), -nn⟩]) rfl (hown6.alloc _) ⟨w6.heap.size, 0, none⟩ 2 2 [.int .i64 (jc : Int), .int .i64 5, .int .i64 (ja : Int), .int .i64 (-5)] rfl rfl ?c1 ?c2 ?c3 ?c4 ?c5 ?c6 (w6.heap.size + 1) ?c7 ?_)
      case c1 => exact World.news_of_block (cs := #[.int .i64 (jc : Int), .int .i64 5, .int .i64 (ja : Int), .int .i64 (-5)]) (t := 90) (fr := (0, 0)) (heap_alloc_new w6 _)
      case c2 => intro u hu; simp at hu; rcases hu with rfl | rfl | rfl | rfl <;> rfl
      case c3 => omega
      case c4 => unfold maxLen; omega
      case c5 => omega
      case c6 => simp; omega
      case c7 => simp
      intro g2 cap2 w7 hown7 hgrow7 _ hlt7
      have hbk : ∀ j, j < w.heap.size + 3 → j < w6.heap.size → w7.heap[j]? = w6.heap[j]? := fun j hj hj2 => (hgrow7.block j (by simp; omega) (fun e => by have := (hrl _ e.symm).1; omega)).trans (Below.heap_alloc _ _ _ hj2)
      have Z7 := (hbk (w.heap.size + 1) (by omega) (by omega)).trans Z6
      have E7 := (hbk (w.heap.size + 1 + 1) (by omega) hz6).trans E6
      have hb7 : Below w.heap.size w w7 := (hb6.alloc hb6.size _).grown hgrow7 (by have := hb6.size; simp; omega) (fun k hk => by have := (hrl _ hk).1; omega)
      have HOwn7 : Hid (OwnP w7 (w.heap.size + 3) (.slice (some ⟨g2, 0, none⟩) 4 cap2) [⟨(ja : Int), nn⟩, ⟨(jb : Int), -nn⟩, ⟨(jc : Int), 5⟩, ⟨(ja : Int), -5⟩]) := hown7
      have pe0 : w7.cell? ⟨w.heap.size + 1 + 1, 0, none⟩ = some (.string (x.extract 0 20)) := by rw [cell_of_row w7 _ 0 _ _ _ E7]; rfl
      have pe1 : w7.cell? ⟨w.heap.size + 1 + 1, 1, none⟩ = some (.slice (some ⟨g1, 0, none⟩) 2 cap1) := by rw [cell_of_row w7 _ 1 _ _ _ E7]; rfl
      have pf1 : w7.frozen? ⟨w.heap.size + 1 + 1, 1, none⟩ = false := by simp [World.frozen?, E7]
      have pz0 : w7.cell? ⟨w.heap.size + 1, 0, none⟩ = some (.string { data := #[] }) := by rw [cell_of_row w7 _ 0 _ _ _ Z7]; rfl
      have pz1 : w7.cell? ⟨w.heap.size + 1, 1, none⟩ = some (.slice none 0 0) := by rw [cell_of_row w7 _ 1 _ _ _ Z7]; rfl
      have py0 : w7.frozen? ⟨w.heap.size + 1, 0, none⟩ = false := by simp [World.frozen?, Z7]
      have py1 : w7.frozen? ⟨w.heap.size + 1, 1, none⟩ = false := by simp [World.frozen?, Z7]
      have HF4 : Hid (Sg.EntFine nA ⟨(x.extract 0 20), [⟨(ja : Int), nn⟩, ⟨(jb : Int), -nn⟩, ⟨(jc : Int), 5⟩, ⟨(ja : Int), -5⟩]⟩) := ⟨HM.out, by simp, by simp, fun p hp => by simp at hp; rcases hp with rfl | rfl | rfl | rfl <;> exact ⟨by simp, by simp; omega⟩, by simp [Sg.amtSum]; omega, fun p hp => by simp at hp; rcases hp with rfl | rfl | rfl | rfl <;> simp <;> omega⟩
      clear hgrow7 hown7 hbk Z6 E6 Z7 E7 hb6 hrl hown6 HO6 qe1 hodd' HF2
      go_wp2_with fail
      refine bodyPost_ret (v := .agg #[.string (x.extract 0 20), .slice (some ⟨g2, 0, none⟩) 4 cap2]) (by simp [results, Try.results60, go_sem, pz0, pz1]) rfl ⟨_, _, _, rfl, ?_, HF4.out, ?_⟩
      · exact ownsRow_setCell_below (ownsRow_setCell_below (ownsRow_setCell_below HOwn7.out (by simp) _) (by simp) _) (by simp) _
      · exact ((hb7.setCell (by simp; omega) _).setCell (by simp) _).setCell (by simp) _
    · have hodd' : (c.tmod 2 == 1) = false := by simp [hodd]
      clear hodd
      go_wp2_with fail
      refine bodyPost_ret (v := .agg #[.string (x.extract 0 20), .slice (some ⟨g1, 0, none⟩) 2 cap1]) (by simp [results, Try.results60, go_sem, qz0, qz1]) rfl ⟨_, _, _, rfl, ?_, HF2.out, ?_⟩
      · exact ownsRow_setCell_below (ownsRow_setCell_below (ownsRow_setCell_below HOwn.out (by simp) _) (by simp) _) (by simp) _
      · exact ((hb5.setCell (by simp; omega) _).setCell (by simp) _).setCell (by simp) _
  · -- one that is not
    have HM : Hid (x.size ≤ 20) := by show _ ≤ _; omega
    go_enter Try.func60, Try.ntmps60
    go_wp2_with fail
    refine (pick_any a nA _ ha (by omega) (by omega)).mono ?_
    rintro e w1 ⟨ja, rfl, hja, hw⟩
    subst hw
    go_wp2_with fail
    refine (pick_any b nA _ hb (by omega) (by omega)).mono ?_
    rintro e w1 ⟨jb, rfl, hjb, hw⟩
    subst hw
    have R0 : (((w.alloc (Obj.cells #[.string x, .int .i64 a, .int .i64 b, .int .i64 c, .int .i64 n] 107)).alloc (Obj.cells #[.string { data := #[] }, .slice none 0 0] 55)).alloc (Obj.cells #[.string x, .slice none 0 0] 55)).heap[w.heap.size]? = some (.cells #[.string x, .int .i64 a, .int .i64 b, .int .i64 c, .int .i64 n] 107 (0, 0)) := by
      rw [Below.heap_alloc _ _ _ (by simp; omega), Below.heap_alloc _ _ _ (by simp)]; exact heap_alloc_new w _
    have Z0 : (((w.alloc (Obj.cells #[.string x, .int .i64 a, .int .i64 b, .int .i64 c, .int .i64 n] 107)).alloc (Obj.cells #[.string { data := #[] }, .slice none 0 0] 55)).alloc (Obj.cells #[.string x, .slice none 0 0] 55)).heap[w.heap.size + 1]? = some (.cells #[.string { data := #[] }, .slice none 0 0] 55 (0, 0)) := by
      rw [Below.heap_alloc _ _ _ (by simp)]
      have := heap_alloc_new (w.alloc (Obj.cells #[.string x, .int .i64 a, .int .i64 b, .int .i64 c, .int .i64 n] 107)) (Obj.cells #[.string { data := #[] }, .slice none 0 0] 55)
      simpa using this
    have E0 : (((w.alloc (Obj.cells #[.string x, .int .i64 a, .int .i64 b, .int .i64 c, .int .i64 n] 107)).alloc (Obj.cells #[.string { data := #[] }, .slice none 0 0] 55)).alloc (Obj.cells #[.string x, .slice none 0 0] 55)).heap[w.heap.size + 1 + 1]? = some (.cells #[.string x, .slice none 0 0] 55 (0, 0)) := new_block2' _ _ _ _ _
    have hb0 : Below w.heap.size w (((w.alloc (Obj.cells #[.string x, .int .i64 a, .int .i64 b, .int .i64 c, .int .i64 n] 107)).alloc (Obj.cells #[.string { data := #[] }, .slice none 0 0] 55)).alloc (Obj.cells #[.string x, .slice none 0 0] 55)) := (((Below.refl _ _).alloc (Nat.le_refl _) _).alloc (by simp) _).alloc (by simp; omega) _
    have HS0 : Hid ((((w.alloc (Obj.cells #[.string x, .int .i64 a, .int .i64 b, .int .i64 c, .int .i64 n] 107)).alloc (Obj.cells #[.string { data := #[] }, .slice none 0 0] 55)).alloc (Obj.cells #[.string x, .slice none 0 0] 55)).heap.size = w.heap.size + 3) := by show _ = _; simp
    generalize (((w.alloc (Obj.cells #[.string x, .int .i64 a, .int .i64 b, .int .i64 c, .int .i64 n] 107)).alloc (Obj.cells #[.string { data := #[] }, .slice none 0 0] 55)).alloc (Obj.cells #[.string x, .slice none 0 0] 55)) = w2 at *
    have r3 : w2.cell? ⟨w.heap.size, 3, none⟩ = some (.int .i64 c) := by rw [cell_of_row w2 _ 3 _ _ _ R0]; rfl
    have r4 : w2.cell? ⟨w.heap.size, 4, none⟩ = some (.int .i64 n) := by rw [cell_of_row w2 _ 4 _ _ _ R0]; rfl
    have e1 : w2.cell? ⟨w.heap.size + 1 + 1, 1, none⟩ = some (.slice none 0 0) := by rw [cell_of_row w2 _ 1 _ _ _ E0]; rfl
    go_wp2_with (at_builtin; refine wpList_append_lies _ rfl _ _ 53 rfl (w.heap.size + 3) 90 i0 (.agg #[.int .i64 0, .int .i64 0]) 2 16 Try.underlying53 hi hz0 hz1 hz2 rfl (by decide) (.slice none 0 0) 0 [] rfl (World.ownsRow_nil _ _ _ _) ⟨w2.heap.size, 0, none⟩ 2 2 [.int .i64 (ja : Int), .int .i64 nn, .int .i64 (jb : Int), .int .i64 (-nn)] rfl rfl ?c1 ?c2 ?c3 ?c4 ?c5 ?c6 (w2.heap.size + 1) ?c7 ?_)
    case c1 => exact World.news_of_block (cs := #[.int .i64 (ja : Int), .int .i64 nn, .int .i64 (jb : Int), .int .i64 (-nn)]) (t := 90) (fr := (0, 0)) (heap_alloc_new w2 _)
    case c2 => intro u hu; simp at hu; rcases hu with rfl | rfl | rfl | rfl <;> rfl
    case c3 => omega
    case c4 => unfold maxLen; omega
    case c5 => omega
    case c6 => have := HS0.out; simp; omega
    case c7 => simp
    intro g1 cap1 w5 hown5 hgrow _ hlt5
    have hbk : ∀ j, j < w2.heap.size → w5.heap[j]? = w2.heap[j]? := fun j hj => (hgrow.block j (by simp; omega) (by simp [Value.ownBlock])).trans (Below.heap_alloc _ _ _ hj)
    have hs2 := HS0.out
    have R5 := (hbk w.heap.size (by omega)).trans R0
    have Z5 := (hbk (w.heap.size + 1) (by omega)).trans Z0
    have E5 := (hbk (w.heap.size + 1 + 1) (by omega)).trans E0
    have hb5 : Below w.heap.size w w5 := (hb0.alloc (by omega) _).grown hgrow (by simp; omega) (fun k hk => by simp [Value.ownBlock] at hk)
    have HOwn : Hid (OwnP w5 (w.heap.size + 3) (.slice (some ⟨g1, 0, none⟩) 2 cap1) [⟨(ja : Int), nn⟩, ⟨(jb : Int), -nn⟩]) := hown5
    have q3 : w5.cell? ⟨w.heap.size, 3, none⟩ = some (.int .i64 c) := by rw [cell_of_row w5 _ 3 _ _ _ R5]; rfl
    have qe0 : w5.cell? ⟨w.heap.size + 1 + 1, 0, none⟩ = some (.string x) := by rw [cell_of_row w5 _ 0 _ _ _ E5]; rfl
    have qe1 : w5.cell? ⟨w.heap.size + 1 + 1, 1, none⟩ = some (.slice none 0 0) := by rw [cell_of_row w5 _ 1 _ _ _ E5]; rfl
    have qf1 : w5.frozen? ⟨w.heap.size + 1 + 1, 1, none⟩ = false := by simp [World.frozen?, E5]
    have qz0 : w5.cell? ⟨w.heap.size + 1, 0, none⟩ = some (.string { data := #[] }) := by rw [cell_of_row w5 _ 0 _ _ _ Z5]; rfl
    have qz1 : w5.cell? ⟨w.heap.size + 1, 1, none⟩ = some (.slice none 0 0) := by rw [cell_of_row w5 _ 1 _ _ _ Z5]; rfl
    have qy0 : w5.frozen? ⟨w.heap.size + 1, 0, none⟩ = false := by simp [World.frozen?, Z5]
    have qy1 : w5.frozen? ⟨w.heap.size + 1, 1, none⟩ = false := by simp [World.frozen?, Z5]
    have HF2 : Hid (Sg.EntFine nA ⟨x, [⟨(ja : Int), nn⟩, ⟨(jb : Int), -nn⟩]⟩) := ⟨HM.out, by simp, by simp, fun p hp => by simp at hp; rcases hp with rfl | rfl <;> exact ⟨by simp, by simp; omega⟩, by simp [Sg.amtSum]; omega, fun p hp => by simp at hp; rcases hp with rfl | rfl <;> simp <;> omega⟩
    clear hgrow hown5 hbk r3 r4 e1 R0 Z0 E0 hb0 hs2 HS0 hnn
    by_cases hodd : c.tmod 2 = 1
    · have hodd' : (c.tmod 2 == 1) = true := by simp [hodd]
      have hcd : -9223372036854775808 ≤ c.tdiv 2 ∧ c.tdiv 2 ≤ 9223372036854775807 := by
        by_cases h0 : 0 ≤ c
        · rw [Int.tdiv_eq_ediv_of_nonneg h0]; omega
        · have e : c.tdiv 2 = -((-c).tdiv 2) := by rw [Int.neg_tdiv, Int.neg_neg]
          rw [e, Int.tdiv_eq_ediv_of_nonneg (by omega)]; omega
      clear hodd
      go_wp2_with fail
      refine (pick_any (c.tdiv 2) nA _ hcd (by omega) (by omega)).mono ?_
      rintro e w1 ⟨jc, rfl, hjc, hw⟩
      subst hw
      have HO6 : Hid (OwnP (w5.setCell ⟨w.heap.size + 1 + 1, 1, none⟩ (.slice (some ⟨g1, 0, none⟩) 2 cap1)) (w.heap.size + 3) (.slice (some ⟨g1, 0, none⟩) 2 cap1) [⟨(ja : Int), nn⟩, ⟨(jb : Int), -nn⟩]) := ownsRow_setCell_below HOwn.out (by simp) _
      have E6 : (w5.setCell ⟨w.heap.size + 1 + 1, 1, none⟩ (.slice (some ⟨g1, 0, none⟩) 2 cap1)).heap[w.heap.size + 1 + 1]? = some (.cells #[.string x, .slice (some ⟨g1, 0, none⟩) 2 cap1] 55 (0, 0)) := by
        rw [heap_setCell_same _ _ _ _ _ _ E5]; rfl
      have Z6 : (w5.setCell ⟨w.heap.size + 1 + 1, 1, none⟩ (.slice (some ⟨g1, 0, none⟩) 2 cap1)).heap[w.heap.size + 1]? = some (.cells #[.string { data := #[] }, .slice none 0 0] 55 (0, 0)) := (Below.heap_setCell _ _ _ _ (by simp)).trans Z5
      have hb6 : Below w.heap.size w (w5.setCell ⟨w.heap.size + 1 + 1, 1, none⟩ (.slice (some ⟨g1, 0, none⟩) 2 cap1)) := hb5.setCell (by simp; omega) _
      clear q3 qe0 qe1 qf1 qz0 qz1 qy0 qy1 R5 Z5 E5 hb5 HOwn
      generalize w5.setCell ⟨w.heap.size + 1 + 1, 1, none⟩ (.slice (some ⟨g1, 0, none⟩) 2 cap1) = w6 at *
      have qe1 : w6.cell? ⟨w.heap.size + 1 + 1, 1, none⟩ = some (.slice (some ⟨g1, 0, none⟩) 2 cap1) := by rw [cell_of_row w6 _ 1 _ _ _ E6]; rfl
      have hz6 := lt_of_block E6
      have hrl := World.ownsRow.lt HO6.out
      have hown6 := HO6.out
      unfold OwnP at hown6
      go_wp2_with (at_builtin; refine wpList_append_lies _ rfl _ _ 53 rfl (w.heap.size + 3) 90 i0 (.agg #[.int .i64 0, .int .i64 0]) 2 16 Try.underlying53 hi hz0 hz1 hz2 rfl (by decide) (.slice (some ⟨g1, 0, none⟩) 2 cap1) 2 (pCells [⟨(ja : Int), nn⟩, ⟨(jb : Int), -nn⟩]) rfl (hown6.alloc _) ⟨w6.heap.size, 0, none⟩ 2 2 [.int .i64 (jc : Int), .int .i64 5, .int .i64 (ja : Int), .int .i64 (-5)] rfl rfl ?c1 ?c2 ?c3 ?c4 ?c5 ?c6 (w6.heap.size + 1) ?c7 ?_)
      case c1 => exact World.news_of_block (cs := #[.int .i64 (jc : Int), .int .i64 5, .int .i64 (ja : Int), .int .i64 (-5)]) (t := 90) (fr := (0, 0)) (heap_alloc_new w6 _)
      case c2 => intro u hu; simp at hu; rcases hu with rfl | rfl | rfl | rfl <;> rfl
      case c3 => omega
      case c4 => unfold maxLen; omega
      case c5 => omega
      case c6 => simp; omega
      case c7 => simp
      intro g2 cap2 w7 hown7 hgrow7 _ hlt7
      have hbk : ∀ j, j < w.heap.size + 3 → j < w6.heap.size → w7.heap[j]? = w6.heap[j]? := fun j hj hj2 => (hgrow7.block j (by simp; omega) (fun e => by have := (hrl _ e.symm).1; omega)).trans (Below.heap_alloc _ _ _ hj2)
      have Z7 := (hbk (w.heap.size + 1) (by omega) (by omega)).trans Z6
      have E7 := (hbk (w.heap.size + 1 + 1) (by omega) hz6).trans E6
      have hb7 : Below w.heap.size w w7 := (hb6.alloc hb6.size _).grown hgrow7 (by have := hb6.size; simp; omega) (fun k hk => by have := (hrl _ hk).1; omega)
      have HOwn7 : Hid (OwnP w7 (w.heap.size + 3) (.slice (some ⟨g2, 0, none⟩) 4 cap2) [⟨(ja : Int), nn⟩, ⟨(jb : Int), -nn⟩, ⟨(jc : Int), 5⟩, ⟨(ja : Int), -5⟩]) := hown7
      have pe0 : w7.cell? ⟨w.heap.size + 1 + 1, 0, none⟩ = some (.string x) := by rw [cell_of_row w7 _ 0 _ _ _ E7]; rfl
      have pe1 : w7.cell? ⟨w.heap.size + 1 + 1, 1, none⟩ = some (.slice (some ⟨g1, 0, none⟩) 2 cap1) := by rw [cell_of_row w7 _ 1 _ _ _ E7]; rfl
      have pf1 : w7.frozen? ⟨w.heap.size + 1 + 1, 1, none⟩ = false := by simp [World.frozen?, E7]
      have pz0 : w7.cell? ⟨w.heap.size + 1, 0, none⟩ = some (.string { data := #[] }) := by rw [cell_of_row w7 _ 0 _ _ _ Z7]; rfl
      have pz1 : w7.cell? ⟨w.heap.size + 1, 1, none⟩ = some (.slice none 0 0) := by rw [cell_of_row w7 _ 1 _ _ _ Z7]; rfl
      have py0 : w7.frozen? ⟨w.heap.size + 1, 0, none⟩ = false := by simp [World.frozen?, Z7]
      have py1 : w7.frozen? ⟨w.heap.size + 1, 1, none⟩ = false := by simp [World.frozen?, Z7]
      have HF4 : Hid (Sg.EntFine nA ⟨x, [⟨(ja : Int), nn⟩, ⟨(jb : Int), -nn⟩, ⟨(jc : Int), 5⟩, ⟨(ja : Int), -5⟩]⟩) := ⟨HM.out, by simp, by simp, fun p hp => by simp at hp; rcases hp with rfl | rfl | rfl | rfl <;> exact ⟨by simp, by simp; omega⟩, by simp [Sg.amtSum]; omega, fun p hp => by simp at hp; rcases hp with rfl | rfl | rfl | rfl <;> simp <;> omega⟩
      clear hgrow7 hown7 hbk Z6 E6 Z7 E7 hb6 hrl hown6 HO6 qe1 hodd' HF2
      go_wp2_with fail
      refine bodyPost_ret (v := .agg #[.string x, .slice (some ⟨g2, 0, none⟩) 4 cap2]) (by simp [results, Try.results60, go_sem, pz0, pz1]) rfl ⟨_, _, _, rfl, ?_, HF4.out, ?_⟩
      · exact ownsRow_setCell_below (ownsRow_setCell_below (ownsRow_setCell_below HOwn7.out (by simp) _) (by simp) _) (by simp) _
      · exact ((hb7.setCell (by simp; omega) _).setCell (by simp) _).setCell (by simp) _
    · have hodd' : (c.tmod 2 == 1) = false := by simp [hodd]
      clear hodd
      go_wp2_with fail
      refine bodyPost_ret (v := .agg #[.string x, .slice (some ⟨g1, 0, none⟩) 2 cap1]) (by simp [results, Try.results60, go_sem, qz0, qz1]) rfl ⟨_, _, _, rfl, ?_, HF2.out, ?_⟩
      · exact ownsRow_setCell_below (ownsRow_setCell_below (ownsRow_setCell_below HOwn.out (by simp) _) (by simp) _) (by simp) _
      · exact ((hb5.setCell (by simp; omega) _).setCell (by simp) _).setCell (by simp) _
end Go.Proofs.Ytoadiibfmcjgaaa
