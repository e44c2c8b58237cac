/-
  THE WALKS of sum.OfClimb, Bundle.Summed (P12): the texts that are summed for a line that is shown, from the head down.
-/
import Derived.Test.YtpkkhkkkgjhkeabGreatFirstOther
import Derived.Test.YtpkkhkkkgjhkeabGreatLookInto
import Derived.Deep.AppendLies
namespace Go.Proofs.YtpkkhkkkgjhkeabGreat
open Go.RowKit
set_option maxRecDepth 100000
attribute [local go_sem ↓] Go.wp_at_zero Go.wp_at_succ

theorem own_rev {w : World} {B n : Nat} {v : Value} {ss : List ByteArray} (hl : ss.length = n) (h : OwnStrs w B v ss.reverse) : w.ownsRow B 9 1 v n (ss.reverse.map Value.string) := by
  unfold OwnStrs at h
  rw [List.length_reverse, hl] at h
  exact h
theorem six_grown {W w' : World} {q : Nat} {o : Option Nat} {x0 x1 x2 x3 x4 x5 : Value} (h : W.cell? ⟨q, 0, none⟩ = some x0 ∧ W.cell? ⟨q, 1, none⟩ = some x1 ∧ W.cell? ⟨q, 2, none⟩ = some x2 ∧ W.cell? ⟨q, 3, none⟩ = some x3 ∧ W.cell? ⟨q, 4, none⟩ = some x4 ∧ W.cell? ⟨q, 5, none⟩ = some x5) (hg : W.grownBy w' o) (k2 : q < W.heap.size) (hne : ¬ o = some q) : w'.cell? ⟨q, 0, none⟩ = some x0 ∧ w'.cell? ⟨q, 1, none⟩ = some x1 ∧ w'.cell? ⟨q, 2, none⟩ = some x2 ∧ w'.cell? ⟨q, 3, none⟩ = some x3 ∧ w'.cell? ⟨q, 4, none⟩ = some x4 ∧ w'.cell? ⟨q, 5, none⟩ = some x5 := by
  have e := hg.block q k2 (fun e => hne e.symm)
  have f := fun j => World.cell?_of_block (w := W) (w' := w') (a := ⟨q, j, none⟩) e
  simp only [f]
  exact h
set_option maxHeartbeats 6400000 in
/-- Bundle.Summed. -/
theorem bunSummed_any (n : Sg.Bun) (vD vH vP x6 : Value) (B : Nat) (w : World) (hf : n.Fine) (hO : BunOwn w B vD vH vP n) :
    Calls Tryz.prog 27 #[.agg #[.int .i64 (n.per : Int), .int .i64 (n.line : Int), .int .i64 n.total, vD, vH, vP, x6]] w fun e w' => ∃ v, e = .returned v ∧ Hid (OwnStrs w' w.heap.size v (Sg.summedL n)) ∧ Below w.heap.size w w' := by
  obtain ⟨i0, hi, hz0, hz1, hz2⟩ := info_parts Tryz.infoStr
  obtain ⟨aoD, capD, rfl, hD⟩ := hO.drls.shape
  obtain ⟨aoH, capH, rfl, hc1, hc2, hH⟩ := hO.hdrs.shape
  obtain ⟨aoP, capP, rfl, hp1, hp2, hP⟩ := hO.path.shape
  unfold maxLen at hc2 hp2
  have hnh := hf.hdrs
  have hsm : ∀ h ∈ n.hdrs, h.small := fun h hh => by
    have k := hf.fixed h hh
    unfold Sg.Hdr.small
    rw [k.mark, k.ahead, k.chart, k.jour, k.stat, k.bals]
    omega
  have hfits : ∀ d ∈ n.drls, drlFits d := fun d hd => by
    obtain ⟨k1, k2, k3, k4⟩ := hf.drls d hd
    exact ⟨k1, k2, by unfold Sg.fits; rw [decide_eq_true_eq]; omega, k4⟩
  obtain ⟨p, q, ep, hpz, hqz⟩ := hf.path
  have hl2 : n.path.length = 2 := by rw [ep]; rfl
  have hlin := hf.line
  have hmany := hf.many
  have hhd := fun W (hb : Below w.heap.size w W) => hdrTexts_any n.hdrs aoH n.hdrs.length capH W rfl (by omega) hsm (hH.below hb)
  have hleaf := fun W (hb : Below w.heap.size w W) => leafOf_any (n.per : Int) (n.line : Int) n.total n.drls aoD n.drls.length capD W rfl (by omega) hfits (hD.below hb) hf.total
  have hdt := fun W (hb : Below w.heap.size w W) => drillTexts_any n.drls aoD n.drls.length capD W rfl (by omega) hfits (hD.below hb)
  have hclimb : ∀ (leaf : ByteArray) (_ : leaf.size ≤ 32) (W : World) (_ : Below w.heap.size w W), Calls Tryz.prog 52 #[.string leaf, .int .i64 (n.line : Int), .int .i64 4, .slice aoP n.path.length capP] W fun e w' => ∃ v, e = .returned v ∧ Hid (OwnStrs w' W.heap.size v (Sg.climbTs leaf n.line 4 n.path).reverse) ∧ Below W.heap.size W w' := fun leaf hs W hb => ofClimb_any (leaf := leaf) (by omega) n.path aoP n.path.length n.line 4 capP W rfl (by rw [hl2]; exact (Sg.depth4 hlin).symm) (by omega) (by omega) hp1 (by omega) (by rw [ep]; intro s hs; simp at hs; rcases hs with rfl | rfl <;> assumption) (strsIn_below hP hb)
  have HS : Hid (Sg.summedL n = (n.hdrs.map Sg.hdrB).reverse ++ (Sg.climbTs (Sg.lineB (n.line : Int) n.total n.drls) n.line 4 n.path).reverse ++ Sg.ofRoot (n.drls.map Sg.drlB)) := rfl
  have HC : Hid (∀ leaf, 1 ≤ (Sg.climbTs leaf n.line 4 n.path).length ∧ (Sg.climbTs leaf n.line 4 n.path).length ≤ 4) := fun leaf => ⟨by
    rw [Sg.climbTs_unfold leaf (by omega)]
    split <;> simp, Sg.climbTs_len leaf 4 n.line 4 n.path (by omega) (by omega)⟩
  have hA := BBox.new w (.int .i64 (n.per : Int)) (.int .i64 (n.line : Int)) (.int .i64 n.total) (.slice aoD n.drls.length capD) (.slice aoH n.hdrs.length capH) (.slice aoP n.path.length capP) x6
  have aA : Below w.heap.size w (w.alloc (.cells #[.int .i64 (n.per : Int), .int .i64 (n.line : Int), .int .i64 n.total, .slice aoD n.drls.length capD, .slice aoH n.hdrs.length capH, .slice aoP n.path.length capP, x6] 73)) := (Below.refl _ _).alloc (Nat.le_refl _) _
  have hz : (w.alloc (.cells #[.int .i64 (n.per : Int), .int .i64 (n.line : Int), .int .i64 n.total, .slice aoD n.drls.length capD, .slice aoH n.hdrs.length capH, .slice aoP n.path.length capP, x6] 73)).heap.size = w.heap.size + 1 := by simp
  obtain ⟨c0, c1, c2, c3, c4, c5, _⟩ := hA.cells
  clear hf hO hH hP hD hsm hfits ep hl2 hpz hqz
  have hhl : (n.hdrs.map Sg.hdrB).length = n.hdrs.length := by simp
  have hdl : (n.drls.map Sg.drlB).length = n.drls.length := by simp
  have hdz : ∀ s ∈ n.drls.map Sg.drlB, s.size ≤ 140737488355328 := fun s hs => by
    obtain ⟨d, _, rfl⟩ := List.mem_map.1 hs
    simp [Sg.drlB, Sg.beB_size]
  generalize (n.hdrs.map Sg.hdrB) = hts at *
  generalize (n.drls.map Sg.drlB) = dts at *
  generalize n.hdrs.length = nh at *
  generalize n.drls.length = nd at *
  go_enter Tryz.func27, Tryz.ntmps27
  go_wp2_with fail
  generalize (w.alloc (.cells #[.int .i64 (n.per : Int), .int .i64 (n.line : Int), .int .i64 n.total, .slice aoD nd capD, .slice aoH nh capH, .slice aoP n.path.length capP, x6] 73)) = W0 at *
  refine (hhd W0 aA).mono ?_
  rintro e w1 ⟨v1, rfl, HO1, hb1⟩
  obtain ⟨g1, cap1, ev1, hB1, hgw1, _, _⟩ := HO1.out.some_of (by omega)
  rw [hhl] at ev1
  subst ev1
  have hrev := reverse_own HO1.out (by omega)
  have hA1 := hA.below hb1
  have be1 := aA.trans (hb1.mono aA.size)
  have hz1' := hb1.size
  clear hhd hA hb1 aA c0 c1 c2 c3 c4 c5
  go_wp2_with fail
  refine hrev.mono ?_
  rintro e w2 ⟨rfl, HO2, hg2⟩
  have hA2 : BBox w2 w.heap.size (.int .i64 (n.per : Int)) (.int .i64 (n.line : Int)) (.int .i64 n.total) (.slice aoD nd capD) (.slice aoH nh capH) (.slice aoP n.path.length capP) x6 := (hg2.block _ (lt_of_block hA1) (fun e => by simp [Value.ownBlock] at e; omega)).trans hA1
  have be2 : Below w.heap.size w w2 := be1.grown hg2 be1.size (fun j hj => by simp [Value.ownBlock] at hj; omega)
  have hl2 := lt_of_block hA2
  obtain ⟨c0, c1, c2, c3, c4, c5, _⟩ := hA2.cells
  have hS2 : w2.cell? ⟨w.heap.size, 0, none⟩ = some (.int .i64 (n.per : Int)) ∧ w2.cell? ⟨w.heap.size, 1, none⟩ = some (.int .i64 (n.line : Int)) ∧ w2.cell? ⟨w.heap.size, 2, none⟩ = some (.int .i64 n.total) ∧ w2.cell? ⟨w.heap.size, 3, none⟩ = some (.slice aoD nd capD) ∧ w2.cell? ⟨w.heap.size, 4, none⟩ = some (.slice aoH nh capH) ∧ w2.cell? ⟨w.heap.size, 5, none⟩ = some (.slice aoP n.path.length capP) := ⟨c0, c1, c2, c3, c4, c5⟩
  clear hrev hg2 hA1 hA2 be1 HO1 c0 c1 c2 c3 c4 c5
  go_upto_region 3 with fail
  go_region_held3 (fun w' => w'.cell? ⟨w.heap.size, 0, none⟩ = some (.int .i64 (n.per : Int)) ∧ w'.cell? ⟨w.heap.size, 1, none⟩ = some (.int .i64 (n.line : Int)) ∧ w'.cell? ⟨w.heap.size, 2, none⟩ = some (.int .i64 n.total) ∧ w'.cell? ⟨w.heap.size, 3, none⟩ = some (.slice aoD nd capD) ∧ w'.cell? ⟨w.heap.size, 4, none⟩ = some (.slice aoH nh capH) ∧ w'.cell? ⟨w.heap.size, 5, none⟩ = some (.slice aoP n.path.length capP)) (first | with_reducible assumption | exact six_drew hS2)
    (first
      | (go_at_call 53; refine (hleaf _ (by first | exact be2 | exact be2.drew)).mono ?_; rintro e w3 ⟨y3, rfl, hy3, hys3, hb3'⟩; have hb3 : Below w2.heap.size w2 w3 := (by first | exact hb3' | exact ((Below.refl w2.heap.size w2).drew).trans hb3'); have hh3 := six_call hS2 hb3 hl2; have be3 := be2.trans (hb3.mono be2.size); have hl3 : w.heap.size < w3.heap.size := (by have := hb3.size; omega))
      | (go_at_call 52; refine (hclimb y3 hys3 _ be3).mono ?_; rintro e w4 ⟨v4, rfl, HO4, hb4⟩; have hh4 := six_call hh3 hb4 hl3; have be4 := be3.trans (hb4.mono be3.size); obtain ⟨cts, ecs⟩ : ∃ cts, (Sg.climbTs y3 n.line 4 n.path).reverse = cts := ⟨_, rfl⟩; rw [ecs] at HO4; have hcl : 1 ≤ cts.length ∧ cts.length ≤ 4 := (by rw [← ecs, List.length_reverse]; exact HC.out y3); obtain ⟨g4, cap4, ev4, hB4, hgw4, _, _⟩ := HO4.out.some_of hcl.1; subst ev4; have hn4 := HO4.out.news; have hown4 : w4.ownsRow w.heap.size 9 1 (.slice (some ⟨g1, 0, none⟩) nh cap1) nh (hts.reverse.map Value.string) := own_rev hhl (((HO2.out.below hb3).below hb4).base (by omega)))
      | (refine step_append_lies _ (by rfl) _ _ 71 (by rfl) w.heap.size 9 i0 (.string ByteArray.empty) 1 16 Tryz.underlying71 hi hz0 hz1 hz2 rfl (by decide) (.slice (some ⟨g1, 0, none⟩) nh cap1) nh (hts.reverse.map Value.string) (by rfl) hown4 ⟨g4, 0, none⟩ cts.length cap4 (cts.map Value.string) (by rfl) (by simp) hn4 (strs_oneCell cts) (by omega) (by unfold maxLen; omega) (by omega) be4.size w4.heap.size rfl ?_; intro g5 cap5 w5 hown5 hgrow5 _ hlt5; have hh5 := six_grown hh4 hgrow5 (by have := hb4.size; omega) (by simp [Value.ownBlock]; omega)))
  have hE5 : OwnStrs w5 w.heap.size (.slice (some ⟨g5, 0, none⟩) (nh + cts.length) cap5) (hts.reverse ++ cts) := OwnStrs.app (by rw [List.length_reverse, hhl]) rfl hown5
  have be5 : Below w.heap.size w w5 := be4.grown hgrow5 be4.size (fun j hj => by simp [Value.ownBlock] at hj; omega)
  obtain ⟨k0, k1, k2, k3, k4, k5⟩ := hh5
  have HCT : Hid (cts = (Sg.climbTs (Sg.lineB (n.line : Int) n.total n.drls) n.line 4 n.path).reverse) := by show _ = _; rw [← ecs, hy3.out]
  clear hh3 hh4 hleaf hclimb hS2 hy3 ecs hown4 hown5 hgrow5 HO2 HO4 hn4 be2 be3 be4 hb3' hb3 hb4
  go_wp2_with fail
  refine (hdt _ be5).mono ?_
  rintro e w6 ⟨v6, rfl, HO6, hb6⟩
  clear hdt
  have hroot := ofRoot_own HO6.out (by omega) hdz
  have hE6 := hE5.below hb6
  have be6 := be5.trans (hb6.mono be5.size)
  clear hE5 hb6 be5 k0 k1 k2 k3 k4 k5
  go_wp2_with fail
  refine hroot.mono ?_
  rintro e w7 ⟨v7, rfl, HO7, hb7⟩
  have hE7 := hE6.below hb7
  have be7 := be6.trans (hb7.mono be6.size)
  have hrl := Sg.ofRoot_len dts (by omega)
  obtain ⟨g7, cap7, ev7, hB7, hgw7, _, _⟩ := HO7.out.some_of hrl.1
  subst ev7
  have hn7 := HO7.out.news
  obtain ⟨rts, ers⟩ : ∃ rts, Sg.ofRoot dts = rts := ⟨_, rfl⟩
  rw [ers] at hn7 hrl HO7 HS ⊢
  obtain ⟨m7, hm7⟩ : ∃ m, nh + cts.length = m := ⟨_, rfl⟩
  rw [hm7] at hE7 ⊢
  have hown7 : w7.ownsRow w.heap.size 9 1 (.slice (some ⟨g5, 0, none⟩) m7 cap5) m7 ((hts.reverse ++ cts).map Value.string) := by
    have := hE7
    unfold OwnStrs at this
    rw [List.length_append, List.length_reverse, hhl, hm7] at this
    exact this
  clear hroot hE6 hE7 be6 HO6 hb7 ers
  go_wp2_with (at_builtin; (refine wpList_append_lies _ rfl _ _ 71 rfl w.heap.size 9 i0 (.string ByteArray.empty) 1 16 Tryz.underlying71 hi hz0 hz1 hz2 rfl (by decide) (.slice (some ⟨g5, 0, none⟩) m7 cap5) m7 ((hts.reverse ++ cts).map Value.string) rfl hown7 ⟨g7, 0, none⟩ rts.length cap7 (rts.map Value.string) rfl (by simp) hn7 (strs_oneCell rts) (by omega) (by unfold maxLen; omega) (by omega) be7.size w7.heap.size rfl ?_))
  intro g8 cap8 w8 hown8 hgrow8 _ hlt8
  have be8 : Below w.heap.size w w8 := be7.grown hgrow8 be7.size (fun j hj => (World.ownsRow.lt hown7 j hj).1)
  have HO8 : Hid (OwnStrs w8 w.heap.size (.slice (some ⟨g8, 0, none⟩) (m7 + rts.length) cap8) (Sg.summedL n)) := by
    have hx : (hts.reverse ++ cts).length = m7 := by rw [List.length_append, List.length_reverse, hhl]; exact hm7
    have := OwnStrs.app (w := w8) (B := w.heap.size) (g := g8) (cap := cap8) (xs := hts.reverse ++ cts) (ys := rts) hx rfl (by
      rw [List.map_append, List.map_reverse, List.append_assoc]
      exact hown8)
    show OwnStrs _ _ _ _
    rw [HS.out, ← HCT.out]
    exact this
  clear hown8 hgrow8 hown7 hn7 be7
  go_wp2_with fail
  go_ret
  exact ⟨_, rfl, HO8, be8⟩
end Go.Proofs.YtpkkhkkkgjhkeabGreat
