import Derived.Test.YtoadiibfmcjgaaaGreatMadeInv
import Derived.Test.YtoadiibfmcjgaaaGreatTb
import Derived.Deep.CutRange
import Derived.Deep.RegionLaw
import Derived.Deep.AppendLies
import Derived.Test.YtoadiibfmcjgaaaGreatCloseWalk
/-
  THE WALKS of signetlaw.period and signetlaw.history: copies.
-/
namespace Go.Proofs.YtoadiibfmcjgaaaGreat
open Go.RowKit
set_option maxRecDepth 100000
attribute [local go_sem ↓] Go.wp_at_zero Go.wp_at_succ

theorem pCells_two : ∀ l, (pCells l).length = l.length * 2
  | [] => rfl
  | p :: l => by
    show ([Value.int .i64 p.acct, .int .i64 p.amt] ++ pCells l).length = _
    rw [List.length_append, pCells_two l]; simp; omega
theorem pCells_ones (l : List Sg.Pst) : ∀ c ∈ pCells l, c.oneCell' = true := by
  intro c hc
  unfold pCells at hc
  simp only [List.mem_flatMap, List.mem_cons, List.not_mem_nil, or_false] at hc
  obtain ⟨p, _, rfl | rfl⟩ := hc <;> rfl
/-- Postings that lie in a slice, cell by cell. -/
theorem psts_news {w : World} {b off : Nat} {pp : List Sg.Pst} (hat : PstsAt w b off pp) : ∀ j u, (pCells pp)[j]? = some u → w.cell? (Addr.add ⟨b, off, none⟩ j) = some u := by
  intro j u hj
  have hj' : j < pp.length * 2 := by
    have := (List.getElem?_eq_some_iff.1 hj).1
    rw [pCells_two] at this; exact this
  have ea : Addr.add ⟨b, off, none⟩ j = ⟨b, off + j, none⟩ := by cases j <;> simp [Addr.add]
  rw [ea]
  have hh : j / 2 < pp.length := by omega
  have h2 := hat (j / 2) hh
  have h3 := OwnE.in_.pCells_at pp (j / 2) hh
  have e : j = j / 2 * 2 ∨ j = j / 2 * 2 + 1 := by omega
  rcases e with e | e
  · rw [e] at hj ⊢
    rw [h3.1] at hj
    rw [h2.1]; exact hj
  · rw [e] at hj ⊢
    rw [h3.2] at hj
    rw [← Nat.add_assoc, h2.2]; exact hj
/-- What stands at the head of period's loop. -/
structure PdI (w wr : World) (v0 vE : Value) (es : List Sg.Ent) : Prop where
  bel : Below w.heap.size w wr
  arg : wr.heap[w.heap.size]? = some (.cells #[v0] 24 (0, 0))
  res : wr.heap[w.heap.size + 1]? = some (.cells #[.slice none 0 0] 24 (0, 0))
  box : wr.heap[w.heap.size + 1 + 1]? = some (.cells #[vE] 24 (0, 0))
  own : OwnE wr (w.heap.size + 3) vE es
theorem PdI.below {w wr w' : World} {v0 vE : Value} {es : List Sg.Ent} (m : PdI w wr v0 vE es) (h : Below wr.heap.size wr w') : PdI w w' v0 vE es :=
  ⟨m.bel.trans (h.mono m.bel.size), (h.block _ (lt_of_block m.arg)).trans m.arg, (h.block _ (lt_of_block m.res)).trans m.res, (h.block _ (lt_of_block m.box)).trans m.box, m.own.below h⟩
theorem PdI.start (w : World) (v0 : Value) : PdI w (((w.alloc (.cells #[v0] 24)).alloc (.cells #[.slice none 0 0] 24)).alloc (.cells #[.slice none 0 0] 24)) v0 (.slice none 0 0) [] := by
  obtain ⟨h1, h2⟩ := three_blk w (.cells #[.slice none 0 0] 24) #[v0] #[.slice none 0 0] 24 24
  refine ⟨(((Below.refl _ _).alloc (Nat.le_refl _) _).alloc (by simp) _).alloc (by simp; omega) _, h1, h2, ?_, OwnE.nil _ _⟩
  have := heap_alloc_new ((w.alloc (.cells #[v0] 24)).alloc (.cells #[.slice none 0 0] 24)) (.cells #[.slice none 0 0] 24)
  simpa using this
where
  three_blk (w : World) (o3 : Obj) (c1 c2 : Array Value) (t1 t2 : TypeId) : (((w.alloc (.cells c1 t1)).alloc (.cells c2 t2)).alloc o3).heap[w.heap.size]? = some (.cells c1 t1 (0, 0)) ∧ (((w.alloc (.cells c1 t1)).alloc (.cells c2 t2)).alloc o3).heap[w.heap.size + 1]? = some (.cells c2 t2 (0, 0)) := by
    refine ⟨?_, ?_⟩
    · rw [Below.heap_alloc _ _ _ (by simp; omega), Below.heap_alloc _ _ _ (by simp)]
      exact heap_alloc_new w _
    · rw [Below.heap_alloc _ _ _ (by simp)]
      have := heap_alloc_new (w.alloc (.cells c1 t1)) (.cells c2 t2)
      simpa using this
theorem PdI.push {w X w5 : World} {v0 vE v' u : Value} {es : List Sg.Ent} {us : List Value} {e : Sg.Ent} (m : PdI w X v0 vE es) (hlen : us.length = es.length) (hrow : X.ownsRow (w.heap.size + 3) 48 2 vE es.length (eCells es us)) (hps : ∀ i (h : i < es.length) (h2 : i < us.length), OwnP X (w.heap.size + 3) us[i] es[i].posts) (hu : OwnP X (w.heap.size + 3) u e.posts) (hg : X.grownBy w5 vE.ownBlock) (hown : w5.ownsRow (w.heap.size + 3) 48 2 v' (es.length + 1) (eCells es us ++ [.string e.memo, u])) :
    w5.heap[w.heap.size + 1 + 1]? = some (.cells #[vE] 24 (0, 0)) ∧ PdI w (w5.setCell ⟨w.heap.size + 1 + 1, 0, none⟩ v') v0 v' (es ++ [e]) := by
  have hk := keptT_append hrow hg
  have hb := hk _ _ _ _ m.box (by decide)
  have hne : ∀ q, q ≠ w.heap.size + 1 + 1 → (w5.setCell ⟨w.heap.size + 1 + 1, 0, none⟩ v').heap[q]? = w5.heap[q]? := fun q hq => heap_setCell_other w5 ⟨w.heap.size + 1 + 1, 0, none⟩ q v' hq
  have hk6 : KeptT 24 w5 (w5.setCell ⟨w.heap.size + 1 + 1, 0, none⟩ v') := keptT_setCell hb
  refine ⟨hb, ⟨?_, (hne _ (by omega)).trans (hk _ _ _ _ m.arg (by decide)), (hne _ (by omega)).trans (hk _ _ _ _ m.res (by decide)), heap_setCell_same w5 _ 0 _ _ v' hb, (OwnE.push hlen hrow hps hu hg hown).keptT hk6 (by decide) (by decide)⟩⟩
  exact (m.bel.grown hg m.bel.size (fun q hq => by have := (World.ownsRow.lt hrow q hq).1; omega)).setCell (by show _ ≤ w.heap.size + 1 + 1; omega) _

set_option maxHeartbeats 3200000 in
theorem period_any (es : List Sg.Ent) (ao : Option Addr) (n cap : Nat) (w : World) (hn : es.length = n) (hmax : n ≤ 12) (hE : EntsIn w ao es) (hp : ∀ e ∈ es, 1 ≤ e.posts.length ∧ e.posts.length ≤ 6) :
    Calls Tryz.prog 16 #[.agg #[.slice ao n cap]] w fun e w' => ∃ v, e = .returned (.agg #[v]) ∧ OwnE w' w.heap.size v es ∧ Below w.heap.size w w' := by
  obtain ⟨e0, ei, ez0, ez1, ez2⟩ := info_parts Tryz.infoEnt2
  obtain ⟨p0, pi, pz0, pz1, pz2⟩ := info_parts Tryz.infoPst2
  have HN : Hid (es.length = n) := hn
  have HP : Hid (∀ e ∈ es, 1 ≤ e.posts.length ∧ e.posts.length ≤ 6) := hp
  clear hn hp
  go_enter Tryz.func16, Tryz.ntmps16
  go_wp2_with fail
  go_loopw [4] (fun i wr => ∃ k : Nat, k ≤ n ∧ i = .int .i64 (k : Int) ∧ ∃ vE, Hid (PdI w wr (.slice ao n cap) vE (es.take k))) (fun i _ => n - (intOf i).toNat)
  case atStart => exact ⟨0, by omega, rfl, .slice none 0 0, PdI.start w _⟩
  case round =>
    obtain ⟨k, hk, rfl, vE, HI⟩ := hrel
    obtain ⟨wz, ewz⟩ : ∃ z : World, z = wr := ⟨_, rfl⟩
    subst ewz
    have x0 : wz.cell? ⟨w.heap.size, 0, none⟩ = some (.slice ao n cap) := by rw [cell_of_row wz _ _ _ _ _ HI.out.arg]; rfl
    by_cases hgo : k < n
    · have g1 : (k : Int) < (n : Int) := by omega
      have g0 : (0 : Int) ≤ (k : Int) := by omega
      have hka : k < es.length := by rw [HN.out]; exact hgo
      have htk : (es.take k).length = k := by rw [List.length_take]; omega
      obtain ⟨b2, off2, e2, hb2, hm2, aq, cq, hc2, hp2⟩ := hE.cell (k := k) hka
      subst e2
      have hlp := HP.out es[k] (List.getElem_mem _)
      have htake : es.take (k + 1) = es.take k ++ [es[k]] := List.take_succ_eq_append_getElem hka
      obtain ⟨me, hme⟩ : ∃ m, es[k].memo = m := ⟨_, rfl⟩
      obtain ⟨pp, hpp⟩ : ∃ m, es[k].posts = m := ⟨_, rfl⟩
      obtain ⟨np, hnp⟩ : ∃ m, pp.length = m := ⟨_, rfl⟩
      rw [hme] at hm2
      rw [hpp] at hc2 hlp hp2
      rw [hnp] at hc2 hlp
      obtain ⟨bq, oq, eq, hbq, hat⟩ : ∃ bq oq, aq = some ⟨bq, oq, none⟩ ∧ bq < w.heap.size ∧ PstsAt w bq oq pp := by
        rcases hp2 with h0 | h
        · omega
        · exact h
      subst eq
      have hbz := HI.out.bel
      have x1 := (hbz.cell (p := ⟨b2, off2 + k * 2, none⟩) hb2).trans hm2
      have x2 := (hbz.cell (p := ⟨b2, off2 + k * 2 + 1, none⟩) hb2).trans hc2
      have aX : Below wz.heap.size wz (wz.alloc (.cells #[.string me, .slice none 0 0] 48)) := (Below.refl _ _).alloc (Nat.le_refl _) _
      have hbx := Two.new wz (.string me) (.slice none 0 0) 48
      have bX := hbz.trans (aX.mono hbz.size)
      have HNews : Hid (∀ j u, (pCells pp)[j]? = some u → (wz.alloc (.cells #[.string me, .slice none 0 0] 48)).cell? (Addr.add ⟨bq, oq, none⟩ j) = some u) := fun j u hj => by
        have := psts_news hat j u hj
        have ea : Addr.add ⟨bq, oq, none⟩ j = ⟨bq, oq + j, none⟩ := by cases j <;> simp [Addr.add]
        rw [ea] at this ⊢
        exact (bX.cell (p := ⟨bq, oq + j, none⟩) hbq).trans this
      have hpl : (pCells pp).length = np * 2 := by rw [pCells_two, hnp]
      have hz3 : w.heap.size + 3 ≤ wz.heap.size := lt_of_block HI.out.box
      have HK : Hid (es[k].memo = me ∧ es[k].posts = pp ∧ pp.length = np) := ⟨hme, hpp, hnp⟩
      obtain ⟨y0, y1⟩ := hbx.cells
      have x0' : (wz.alloc (.cells #[.string me, .slice none 0 0] 48)).cell? ⟨w.heap.size, 0, none⟩ = some (.slice (some ⟨b2, off2, none⟩) n cap) := (aX.cell (p := ⟨w.heap.size, 0, none⟩) (lt_of_block HI.out.arg)).trans x0
      have x2' : (wz.alloc (.cells #[.string me, .slice none 0 0] 48)).cell? ⟨b2, off2 + k * 2 + 1, none⟩ = some (.slice (some ⟨bq, oq, none⟩) np cq) := (bX.cell (p := ⟨b2, off2 + k * 2 + 1, none⟩) hb2).trans hc2
      have hXs : (wz.alloc (.cells #[.string me, .slice none 0 0] 48)).heap.size = wz.heap.size + 1 := by simp
      have HIX : Hid (PdI w (wz.alloc (.cells #[.string me, .slice none 0 0] 48)) (.slice (some ⟨b2, off2, none⟩) n cap) vE (es.take k)) := HI.out.below aX
      clear hme hpp hnp hm2 hc2 hat
      go_wp2_with fail
      clear bX x0 x1 x2 HIX
      generalize wz.alloc (.cells #[.string me, .slice none 0 0] 48) = X at *
      go_region_law (refine step_append_lies _ (by rfl) _ _ _ (by rfl) (w.heap.size + 3) 50 p0 _ 2 16 Tryz.underlying46 pi pz0 pz1 pz2 rfl (by omega) _ 0 [] (by rfl) (World.ownsRow_nil _ _ _ _) ⟨bq, oq, none⟩ np cq (pCells pp) (by rfl) hpl (by first | exact HNews.out | (intro j u hj; simpa using HNews.out j u hj)) (pCells_ones pp) (by omega) (by unfold maxLen; omega) (by omega) (by simp [hXs]; omega) (wz.heap.size + 1) (by simp [hXs]) ?_; intro g cap' w6 hown6 hgrow _ hlt6; rw [Nat.zero_add, List.nil_append] at hown6; rw [Nat.zero_add]; have hbx6 : Two w6 wz.heap.size (.string me) (.slice none 0 0) 48 := (hgrow.block _ (lt_of_block hbx) (by simp [Value.ownBlock])).trans hbx; obtain ⟨v0, v1⟩ := hbx6.cells; have vf1 : w6.frozen? ⟨wz.heap.size, 1, none⟩ = false := (by have hbb : w6.heap[wz.heap.size]? = _ := hbx6; simp [World.frozen?, hbb]))
      all_goals
        have b6 : Below X.heap.size X w6 := by
          first
            | exact (Below.refl _ _).grown hgrow (Nat.le_refl _) (fun q hq => by simp [Value.ownBlock] at hq)
            | exact (Below.refl _ _).drew.grown hgrow (Nat.le_refl _) (fun q hq => by simp [Value.ownBlock] at hq)
        have bY : Below wz.heap.size wz (w6.setCell ⟨wz.heap.size, 1, none⟩ (.slice (some ⟨g, 0, none⟩) np cap')) := (aX.trans (b6.mono aX.size)).setCell (Nat.le_refl _) _
        have HIY : Hid (PdI w (w6.setCell ⟨wz.heap.size, 1, none⟩ (.slice (some ⟨g, 0, none⟩) np cap')) (.slice (some ⟨b2, off2, none⟩) n cap) vE (es.take k)) := HI.out.below bY
        have HOP : Hid (OwnP (w6.setCell ⟨wz.heap.size, 1, none⟩ (.slice (some ⟨g, 0, none⟩) np cap')) (w.heap.size + 3) (.slice (some ⟨g, 0, none⟩) np cap') pp) := by
          show World.ownsRow _ _ _ _ _ _ _
          rw [HK.out.2.2]
          exact ownsRow_keptT hown6 (keptT_setCell hbx6) (by decide)
        have hbY : Two (w6.setCell ⟨wz.heap.size, 1, none⟩ (.slice (some ⟨g, 0, none⟩) np cap')) wz.heap.size (.string me) (.slice (some ⟨g, 0, none⟩) np cap') 48 := heap_setCell_same w6 wz.heap.size 1 _ _ _ hbx6
        have hYs : w.heap.size + 3 ≤ (w6.setCell ⟨wz.heap.size, 1, none⟩ (.slice (some ⟨g, 0, none⟩) np cap')).heap.size := by have := bY.size; omega
        clear b6 bY v0 v1 vf1 hown6 hgrow hbx6 HI aX hbx y0 y1 x0' x2' HNews hpl
        generalize w6.setCell ⟨wz.heap.size, 1, none⟩ (.slice (some ⟨g, 0, none⟩) np cap') = Y at *
        obtain ⟨y0, y1⟩ := hbY.cells
        obtain ⟨us, hul, hrow, hus⟩ := HIY.out.own
        obtain ⟨aoE, capE, hvE, _, _, _⟩ := HIY.out.own.in_
        rw [htk] at hrow hvE hul
        subst hvE
        have z0 : Y.cell? ⟨w.heap.size + 1 + 1, 0, none⟩ = some (.slice aoE k capE) := by rw [cell_of_row Y _ _ _ _ _ HIY.out.box]; rfl
        have HUs : Hid (∀ i (h : i < (es.take k).length) (h2 : i < us.length), OwnP Y (w.heap.size + 3) us[i] (es.take k)[i].posts) := hus
        clear hus
        go_wp2_with (at_builtin; (refine wpList_append_lies _ rfl _ _ 22 rfl (w.heap.size + 3) 48 e0 (.agg #[.string ByteArray.empty, .slice none 0 0]) 2 40 Tryz.underlying22 ei ez0 ez1 ez2 rfl (by decide) (.slice aoE k capE) k (eCells (es.take k) us) rfl (hrow.alloc _) ⟨Y.heap.size, 0, none⟩ 1 1 [.string me, .slice (some ⟨g, 0, none⟩) np cap'] rfl rfl (World.news_of_block (cs := #[.string me, .slice (some ⟨g, 0, none⟩) np cap']) (t := 48) (fr := (0, 0)) (heap_alloc_new Y _)) (by intro u hu; simp at hu; rcases hu with rfl | rfl <;> rfl) (by omega) (by unfold maxLen; omega) (by omega) (by simp; omega) (Y.heap.size + 1) (by simp) ?_))
        intro g2 cap2 w7 hown7 hgrow7 _ hlt7
        have aZ : Below Y.heap.size Y (Y.alloc (.cells #[.string me, .slice (some ⟨g, 0, none⟩) np cap'] 48)) := (Below.refl _ _).alloc (Nat.le_refl _) _
        obtain ⟨bx7, hI8⟩ := (HIY.out.below aZ).push (us := us) (e := ⟨me, pp⟩) (by rw [htk]; exact hul) (by rw [htk]; exact hrow.alloc _) (fun i h1 h2 => ownsRow_below (HUs.out i h1 h2) aZ) (ownsRow_below HOP.out aZ) hgrow7 (by rw [htk]; exact hown7)
        have ek : es[k] = ⟨me, pp⟩ := by rw [← HK.out.1, ← HK.out.2.1]
        rw [← ek, ← htake] at hI8
        have HI8 : Hid (PdI w (w7.setCell ⟨w.heap.size + 1 + 1, 0, none⟩ (.slice (some ⟨g2, 0, none⟩) (k + 1) cap2)) (.slice (some ⟨b2, off2, none⟩) n cap) (.slice (some ⟨g2, 0, none⟩) (k + 1) cap2) (es.take (k + 1))) := hI8
        have u0 : w7.cell? ⟨w.heap.size + 1 + 1, 0, none⟩ = some (.slice aoE k capE) := by rw [cell_of_row w7 _ _ _ _ _ bx7]; rfl
        have uf : w7.frozen? ⟨w.heap.size + 1 + 1, 0, none⟩ = false := by simp [World.frozen?, bx7]
        clear hI8 hown7 hgrow7 hrow HIY HOP HUs hbY y0 y1 z0 aZ bx7 ek htake
        go_wp2_with fail
        go_roundw
        case rel => exact ⟨k + 1, by omega, by go_num, _, HI8⟩
        case measure => simp [intOf]; omega
    · have hkn : k = n := by omega
      subst hkn
      have g1 : ¬ (k : Int) < (k : Int) := by omega
      obtain ⟨aoE, capE, hvE, _, _, _⟩ := HI.out.own.in_
      subst hvE
      have z0 : wz.cell? ⟨w.heap.size + 1 + 1, 0, none⟩ = some (.slice aoE (es.take k).length capE) := by rw [cell_of_row wz _ _ _ _ _ HI.out.box]; rfl
      have r0 : wz.cell? ⟨w.heap.size + 1, 0, none⟩ = some (.slice none 0 0) := by rw [cell_of_row wz _ _ _ _ _ HI.out.res]; rfl
      have rf : wz.frozen? ⟨w.heap.size + 1, 0, none⟩ = false := by simp [World.frozen?, HI.out.res]
      have HF : Hid (OwnE (wz.setCell ⟨w.heap.size + 1, 0, none⟩ (.slice aoE (es.take k).length capE)) w.heap.size (.slice aoE (es.take k).length capE) es ∧ Below w.heap.size w (wz.setCell ⟨w.heap.size + 1, 0, none⟩ (.slice aoE (es.take k).length capE))) := by
        refine ⟨?_, HI.out.bel.setCell (by show _ ≤ w.heap.size + 1; omega) _⟩
        have h1 := (HI.out.own.keptT (keptT_setCell (j := 0) (u := .slice aoE (es.take k).length capE) HI.out.res) (by decide) (by decide)).mono (B' := w.heap.size) (by omega)
        have e1 : es.take k = es := by rw [← HN.out]; exact List.take_length
        rw [e1] at h1 ⊢
        exact h1
      have q0 : (wz.setCell ⟨w.heap.size + 1, 0, none⟩ (.slice aoE (es.take k).length capE)).cell? ⟨w.heap.size + 1, 0, none⟩ = some (.slice aoE (es.take k).length capE) := by
        rw [cell_of_row _ _ _ _ _ _ (heap_setCell_same wz (w.heap.size + 1) 0 _ _ (.slice aoE (es.take k).length capE) HI.out.res)]; rfl
      clear HI
      generalize (es.take k).length = kk at *
      go_wp2_with fail
      generalize wz.setCell ⟨w.heap.size + 1, 0, none⟩ (.slice aoE kk capE) = WF at *
      refine bodyPost_ret (v := .agg #[.slice aoE kk capE]) (by simp [results, Tryz.results16, go_sem, q0]) rfl ⟨_, rfl, HF.out.1, HF.out.2⟩
end Go.Proofs.YtoadiibfmcjgaaaGreat

/-
  THE WALK of signetlaw.history: a copy.
-/
namespace Go.Proofs.YtoadiibfmcjgaaaGreat
open Go.RowKit
set_option maxRecDepth 100000
attribute [local go_sem ↓] Go.wp_at_zero Go.wp_at_succ

theorem aCells_len : ∀ l, (aCells l).length = l.length * 2
  | [] => rfl
  | p :: l => by
    show ([Value.string p.name, .int .i64 p.line] ++ aCells l).length = _
    rw [List.length_append, aCells_len l]; simp; omega
theorem aCells_ones (l : List Sg.Acc) : ∀ c ∈ aCells l, c.oneCell' = true := by
  intro c hc
  unfold aCells at hc
  simp only [List.mem_flatMap, List.mem_cons, List.not_mem_nil, or_false] at hc
  obtain ⟨p, _, rfl | rfl⟩ := hc <;> rfl
theorem accs_news {w : World} {b off : Nat} {ac : List Sg.Acc} (hat : AccsAt w b off ac) : ∀ j u, (aCells ac)[j]? = some u → w.cell? (Addr.add ⟨b, off, none⟩ j) = some u := by
  intro j u hj
  have hj' : j < ac.length * 2 := by
    have := (List.getElem?_eq_some_iff.1 hj).1
    rw [aCells_len] at this; exact this
  have ea : Addr.add ⟨b, off, none⟩ j = ⟨b, off + j, none⟩ := by cases j <;> simp [Addr.add]
  rw [ea]
  have hh : j / 2 < ac.length := by omega
  have h2 := hat (j / 2) hh
  have h3 := aCells_at ac (j / 2) hh
  have e : j = j / 2 * 2 ∨ j = j / 2 * 2 + 1 := by omega
  rcases e with e | e
  · rw [e] at hj ⊢
    rw [h3.1] at hj
    rw [h2.1]; exact hj
  · rw [e] at hj ⊢
    rw [h3.2] at hj
    rw [← Nat.add_assoc, h2.2]; exact hj
theorem two_fz {w : World} {g : Nat} {x y : Value} {t : TypeId} (h : Two w g x y t) : w.frozen? ⟨g, 0, none⟩ = false ∧ w.frozen? ⟨g, 1, none⟩ = false := by
  unfold Two at h
  exact ⟨by simp [World.frozen?, h], by simp [World.frozen?, h]⟩
structure HyI (w wr : World) (v0 v1 vA vP : Value) (ac : List Sg.Acc) (ps : List (List Sg.Ent)) : Prop where
  bel : Below w.heap.size w wr
  arg : Two wr w.heap.size v0 v1 36
  res : Two wr (w.heap.size + 1) (.slice none 0 0) (.slice none 0 0) 36
  box : Two wr (w.heap.size + 1 + 1) vA vP 36
  accs : OwnA wr (w.heap.size + 3) vA ac
  pers : OwnPs wr (w.heap.size + 3) vP ps
theorem HyI.below {w wr w' : World} {v0 v1 vA vP : Value} {ac : List Sg.Acc} {ps : List (List Sg.Ent)} (m : HyI w wr v0 v1 vA vP ac ps) (h : Below wr.heap.size wr w') : HyI w w' v0 v1 vA vP ac ps :=
  ⟨m.bel.trans (h.mono m.bel.size), m.arg.below h, m.res.below h, m.box.below h, m.accs.below h, m.pers.below h⟩
theorem HyI.start (w : World) (v0 v1 : Value) : HyI w (((w.alloc (.cells #[v0, v1] 36)).alloc (.cells #[.slice none 0 0, .slice none 0 0] 36)).alloc (.cells #[.slice none 0 0, .slice none 0 0] 36)) v0 v1 (.slice none 0 0) (.slice none 0 0) [] [] := by
  obtain ⟨h1, h2⟩ := PdI.start.three_blk w (.cells #[.slice none 0 0, .slice none 0 0] 36) #[v0, v1] #[.slice none 0 0, .slice none 0 0] 36 36
  refine ⟨(((Below.refl _ _).alloc (Nat.le_refl _) _).alloc (by simp) _).alloc (by simp; omega) _, h1, h2, ?_, World.ownsRow_nil _ _ _ _, OwnPs.nil _ _⟩
  have := heap_alloc_new ((w.alloc (.cells #[v0, v1] 36)).alloc (.cells #[.slice none 0 0, .slice none 0 0] 36)) (.cells #[.slice none 0 0, .slice none 0 0] 36)
  show _ = _
  simpa using this
/-- The accounts are in. -/
theorem HyI.chart {w X w5 : World} {v0 v1 vP v' : Value} {ac : List Sg.Acc} {ps : List (List Sg.Ent)} (m : HyI w X v0 v1 (.slice none 0 0) vP [] ps) (hg : X.grownBy w5 none) (hown : OwnA w5 (w.heap.size + 3) v' ac) :
    Two w5 (w.heap.size + 1 + 1) (.slice none 0 0) vP 36 ∧ HyI w (w5.setCell ⟨w.heap.size + 1 + 1, 0, none⟩ v') v0 v1 v' vP ac ps := by
  have b5 : Below X.heap.size X w5 := (Below.refl _ _).grown hg (Nat.le_refl _) (fun q hq => by simp at hq)
  have m5 := m.below b5
  have hne : ∀ q, q ≠ w.heap.size + 1 + 1 → (w5.setCell ⟨w.heap.size + 1 + 1, 0, none⟩ v').heap[q]? = w5.heap[q]? := fun q hq => heap_setCell_other w5 ⟨w.heap.size + 1 + 1, 0, none⟩ q v' hq
  have hk6 : KeptT 36 w5 (w5.setCell ⟨w.heap.size + 1 + 1, 0, none⟩ v') := keptT_setCell m5.box
  exact ⟨m5.box, m5.bel.setCell (by show _ ≤ w.heap.size + 1 + 1; omega) _, (hne _ (by omega)).trans m5.arg, (hne _ (by omega)).trans m5.res, heap_setCell_same w5 _ 0 _ _ v' m5.box, hown.keptT hk6 (by decide), m5.pers.keptT hk6 (by decide) (by decide) (by decide)⟩
/-- A period more. -/
theorem HyI.push {w X w5 : World} {v0 v1 vA vP v' u : Value} {ac : List Sg.Acc} {ps : List (List Sg.Ent)} {us : List Value} {p : List Sg.Ent} (m : HyI w X v0 v1 vA vP ac ps) (hlen : us.length = ps.length) (hrow : X.ownsRow (w.heap.size + 3) 24 1 vP ps.length us) (hes : ∀ i (h : i < ps.length) (h2 : i < us.length), OwnE X (w.heap.size + 3) us[i] ps[i]) (hu : OwnE X (w.heap.size + 3) u p) (hg : X.grownBy w5 vP.ownBlock) (hown : w5.ownsRow (w.heap.size + 3) 24 1 v' (ps.length + 1) (us ++ [u])) :
    Two w5 (w.heap.size + 1 + 1) vA vP 36 ∧ HyI w (w5.setCell ⟨w.heap.size + 1 + 1, 1, none⟩ v') v0 v1 vA v' ac (ps ++ [p]) := by
  have hk := keptT_append hrow hg
  have hb : Two w5 (w.heap.size + 1 + 1) vA vP 36 := hk _ _ _ _ m.box (by decide)
  have hne : ∀ q, q ≠ w.heap.size + 1 + 1 → (w5.setCell ⟨w.heap.size + 1 + 1, 1, none⟩ v').heap[q]? = w5.heap[q]? := fun q hq => heap_setCell_other w5 ⟨w.heap.size + 1 + 1, 1, none⟩ q v' hq
  have hk6 : KeptT 36 w5 (w5.setCell ⟨w.heap.size + 1 + 1, 1, none⟩ v') := keptT_setCell hb
  refine ⟨hb, ⟨?_, (hne _ (by omega)).trans (hk _ _ _ _ m.arg (by decide)), (hne _ (by omega)).trans (hk _ _ _ _ m.res (by decide)), heap_setCell_same w5 _ 1 _ _ v' hb, (m.accs.keptT hk (by decide)).keptT hk6 (by decide), (OwnPs.push hlen hrow hes hu hg hown).keptT hk6 (by decide) (by decide) (by decide)⟩⟩
  exact (m.bel.grown hg m.bel.size (fun q hq => by have := (World.ownsRow.lt hrow q hq).1; omega)).setCell (by show _ ≤ w.heap.size + 1 + 1; omega) _

set_option maxHeartbeats 3200000 in
theorem history_any (h : Sg.Hist) (aoA aoP : Option Addr) (nA nP capA capP : Nat) (w : World) (hH : HistIn w aoA aoP nA nP h) (hi : Sg.inBounds h = true) :
    Calls Tryz.prog 7 #[.agg #[.slice aoA nA capA, .slice aoP nP capP]] w fun e w' => ∃ vA vP, e = .returned (.agg #[vA, vP]) ∧ OwnA w' w.heap.size vA h.accs ∧ OwnPs w' w.heap.size vP h.pers ∧ Below w.heap.size w w' := by
  obtain ⟨a0, ai, az0, az1, az2⟩ := info_parts Tryz.infoAcc2
  obtain ⟨p0, pi, pz0, pz1, pz2⟩ := info_parts Tryz.infoPer1
  have hbp := Sg.bnd_pers hi
  have hnum : 1 ≤ nA ∧ nA ≤ 8 ∧ nP ≤ 6 := by
    rw [← hH.lenA, ← hH.lenP]
    unfold Sg.inBounds at hi
    simp only [Bool.and_eq_true, decide_eq_true_eq] at hi
    omega
  have hpos : ∀ p ∈ h.pers, ∀ e ∈ p, 1 ≤ e.posts.length := by
    intro p hp e he
    unfold Sg.inBounds at hi
    simp only [Bool.and_eq_true, decide_eq_true_eq, List.all_eq_true] at hi
    have h1 := hi.2 p hp
    unfold Sg.perOk at h1
    simp only [Bool.and_eq_true, List.all_eq_true] at h1
    have h2 := h1.2 e he
    unfold Sg.entOk at h2
    simp only [decide_eq_true_eq] at h2
    omega
  obtain ⟨hn1, hn8, hn6⟩ := hnum
  obtain ⟨bA, oA, eA, hbA, hatA⟩ : ∃ b o, aoA = some ⟨b, o, none⟩ ∧ b < w.heap.size ∧ AccsAt w b o h.accs := by
    rcases hH.accs with h0 | h1
    · have := hH.lenA; omega
    · exact h1
  subst eA
  have HH : Hid (HistIn w (some ⟨bA, oA, none⟩) aoP nA nP h) := hH
  have HB : Hid (∀ p ∈ h.pers, p.length ≤ 12 ∧ ∀ e ∈ p, 1 ≤ e.posts.length ∧ e.posts.length ≤ 6) := fun p hp => ⟨by have := (hbp p hp).1; omega, fun e he => ⟨hpos p hp e he, by have := ((hbp p hp).2 e he).2; omega⟩⟩
  have HI0 := HyI.start w (.slice (some ⟨bA, oA, none⟩) nA capA) (.slice aoP nP capP)
  have hal : (aCells h.accs).length = nA * 2 := by rw [aCells_len, hH.lenA]
  have HNews : Hid (∀ j u, (aCells h.accs)[j]? = some u → (((w.alloc (.cells #[.slice (some ⟨bA, oA, none⟩) nA capA, .slice aoP nP capP] 36)).alloc (.cells #[.slice none 0 0, .slice none 0 0] 36)).alloc (.cells #[.slice none 0 0, .slice none 0 0] 36)).cell? (Addr.add ⟨bA, oA, none⟩ j) = some u) := fun j u hj => by
    have := accs_news hatA j u hj
    have ea : Addr.add ⟨bA, oA, none⟩ j = ⟨bA, oA + j, none⟩ := by cases j <;> simp [Addr.add]
    rw [ea] at this ⊢
    exact (HI0.bel.cell (p := ⟨bA, oA + j, none⟩) hbA).trans this
  have hW0 : (((w.alloc (.cells #[.slice (some ⟨bA, oA, none⟩) nA capA, .slice aoP nP capP] 36)).alloc (.cells #[.slice none 0 0, .slice none 0 0] 36)).alloc (.cells #[.slice none 0 0, .slice none 0 0] 36)).heap.size = w.heap.size + 3 := by simp
  obtain ⟨b0, b1⟩ := HI0.box.cells
  obtain ⟨c0, c1⟩ := HI0.arg.cells
  have HI : Hid (HyI w _ _ _ _ _ _ _) := HI0
  clear hH hi hbp hpos hatA HI0
  go_enter Tryz.func7, Tryz.ntmps7
  go_upto_region 2 with fail
  generalize ((w.alloc (.cells #[.slice (some ⟨bA, oA, none⟩) nA capA, .slice aoP nP capP] 36)).alloc (.cells #[.slice none 0 0, .slice none 0 0] 36)).alloc (.cells #[.slice none 0 0, .slice none 0 0] 36) = W0 at *
  go_wp2_with (at_builtin; (refine wpList_append_lies _ rfl _ _ 33 rfl (w.heap.size + 3) 59 a0 (.agg #[.string ByteArray.empty, .int .i64 0]) 2 24 Tryz.underlying33 ai az0 az1 az2 rfl (by decide) (.slice none 0 0) 0 [] rfl (World.ownsRow_nil _ _ _ _) ⟨bA, oA, none⟩ nA capA (aCells h.accs) rfl hal HNews.out (aCells_ones h.accs) (by omega) (by unfold maxLen; omega) (by omega) (by omega) (w.heap.size + 3) (by omega) ?_))
  intro g cap' w1 hown1 hgrow1 _ hlt1
  obtain ⟨bx1, hI2⟩ := HI.out.chart (ac := h.accs) (v' := .slice (some ⟨g, 0, none⟩) nA cap') hgrow1 (by show World.ownsRow _ _ _ _ _ _ _; rw [HH.out.lenA]; exact hown1)
  have HI2 : Hid (HyI w (w1.setCell ⟨w.heap.size + 1 + 1, 0, none⟩ (.slice (some ⟨g, 0, none⟩) nA cap')) (.slice (some ⟨bA, oA, none⟩) nA capA) (.slice aoP nP capP) (.slice (some ⟨g, 0, none⟩) nA cap') (.slice none 0 0) h.accs []) := hI2
  obtain ⟨d0, d1⟩ := bx1.cells
  obtain ⟨df0, _⟩ := two_fz bx1
  clear hI2 bx1 hown1 hgrow1 HI HNews hal b0 b1 c0 c1 hW0
  go_wp2_with fail
  go_loopw [4] (fun i wr => ∃ k : Nat, k ≤ nP ∧ i = .int .i64 (k : Int) ∧ ∃ vP, Hid (HyI w wr (.slice (some ⟨bA, oA, none⟩) nA capA) (.slice aoP nP capP) (.slice (some ⟨g, 0, none⟩) nA cap') vP h.accs (h.pers.take k))) (fun i _ => nP - (intOf i).toNat)
  case atStart => exact ⟨0, by omega, rfl, .slice none 0 0, HI2⟩
  case round =>
    obtain ⟨k, hk, rfl, vP, HI⟩ := hrel
    obtain ⟨wz, ewz⟩ : ∃ z : World, z = wr := ⟨_, rfl⟩
    subst ewz
    clear HI2
    obtain ⟨x0, x1⟩ := HI.out.arg.cells
    have hz3 : w.heap.size + 3 ≤ wz.heap.size := lt_of_block HI.out.box
    have htk : (h.pers.take k).length = k := by rw [List.length_take, HH.out.lenP]; omega
    by_cases hgo : k < nP
    · have g1 : (k : Int) < (nP : Int) := by omega
      have g0 : (0 : Int) ≤ (k : Int) := by omega
      have hka : k < h.pers.length := by rw [HH.out.lenP]; exact hgo
      have htake : h.pers.take (k + 1) = h.pers.take k ++ [h.pers[k]] := List.take_succ_eq_append_getElem hka
      obtain ⟨b2, off2, e2, hb2, aq, cq, hc2, hp2⟩ := HH.out.pers.cell (k := k) hka
      subst e2
      have hbz := HI.out.bel
      have x2 := (hbz.cell (p := ⟨b2, off2 + k, none⟩) hb2).trans hc2
      have hb12 := HB.out h.pers[k] (List.getElem_mem _)
      have hcall := period_any h.pers[k] aq _ cq wz rfl hb12.1 (hp2.below hbz) hb12.2
      have HTK : Hid (h.pers.take (k + 1) = h.pers.take k ++ [h.pers[k]]) := htake
      generalize h.pers[k] = pk at *
      obtain ⟨m, hm⟩ : ∃ m, pk.length = m := ⟨_, rfl⟩
      rw [hm] at x2 hcall
      clear hc2 htake hp2 hb12 hm
      go_wp2_with fail
      refine hcall.mono ?_
      clear hcall
      rintro e w2 ⟨v, rfl, hOE, hb2'⟩
      obtain ⟨aoE, nE, capE, ev⟩ : ∃ a n c, v = .slice a n c := by
        obtain ⟨ao, cap, e, _⟩ := hOE.in_
        exact ⟨_, _, _, e⟩
      subst ev
      have aB : Below w2.heap.size w2 ((w2.alloc (.cells #[.slice aoE nE capE] 24)).alloc (.cells #[.slice aoE nE capE] 24)) := ((Below.refl _ _).alloc (Nat.le_refl _) _).alloc (by simp) _
      have b3 := hb2'.trans (aB.mono hb2'.size)
      have HOE : Hid (OwnE ((w2.alloc (.cells #[.slice aoE nE capE] 24)).alloc (.cells #[.slice aoE nE capE] 24)) (w.heap.size + 3) (.slice aoE nE capE) pk) := (hOE.mono hz3).below aB
      have HI3 : Hid (HyI w ((w2.alloc (.cells #[.slice aoE nE capE] 24)).alloc (.cells #[.slice aoE nE capE] 24)) (.slice (some ⟨bA, oA, none⟩) nA capA) (.slice (some ⟨b2, off2, none⟩) nP capP) (.slice (some ⟨g, 0, none⟩) nA cap') vP h.accs (h.pers.take k)) := HI.out.below b3
      have hs2 := hb2'.size
      obtain ⟨aoP', capP', hvP, _, _⟩ := HI3.out.pers.in_
      rw [htk] at hvP
      subst hvP
      obtain ⟨us, hul, hrow, hus⟩ := HI3.out.pers
      rw [htk] at hrow
      have HUs : Hid (∀ i (h1 : i < (h.pers.take k).length) (h2 : i < us.length), OwnE ((w2.alloc (.cells #[.slice aoE nE capE] 24)).alloc (.cells #[.slice aoE nE capE] 24)) (w.heap.size + 3) us[i] (h.pers.take k)[i]) := hus
      have HI2b := (HI.out.below hb2').below ((Below.refl _ _).alloc (Nat.le_refl _) (.cells #[.slice aoE nE capE] 24))
      obtain ⟨z0, z1⟩ := HI2b.box.cells
      clear hus hOE b3 aB hb2' HI x0 x1 x2 HI2b
      go_wp2_with (at_builtin; (refine wpList_append_lies _ rfl _ _ 34 rfl (w.heap.size + 3) 24 p0 (.agg #[.slice none 0 0]) 1 24 Tryz.underlying34 pi pz0 pz1 pz2 rfl (by decide) (.slice aoP' k capP') k us rfl hrow ⟨w2.heap.size + 1, 0, none⟩ 1 1 [.slice aoE nE capE] rfl rfl (World.news_of_block (cs := #[.slice aoE nE capE]) (t := 24) (fr := (0, 0)) (by have := heap_alloc_new (w2.alloc (.cells #[.slice aoE nE capE] 24)) (.cells #[.slice aoE nE capE] 24); simpa using this)) (by intro u hu; simp at hu; subst hu; rfl) (by omega) (by unfold maxLen; omega) (by omega) (by simp; omega) (w2.heap.size + 2) (by simp) ?_))
      intro g2 cap2 w5 hown5 hgrow5 _ hlt5
      obtain ⟨bx5, hI6⟩ := HI3.out.push (us := us) (p := pk) hul (by rw [htk]; exact hrow) HUs.out HOE.out hgrow5 (by rw [htk]; exact hown5)
      rw [← HTK.out] at hI6
      have HI6 : Hid (HyI w (w5.setCell ⟨w.heap.size + 1 + 1, 1, none⟩ (.slice (some ⟨g2, 0, none⟩) (k + 1) cap2)) (.slice (some ⟨bA, oA, none⟩) nA capA) (.slice (some ⟨b2, off2, none⟩) nP capP) (.slice (some ⟨g, 0, none⟩) nA cap') (.slice (some ⟨g2, 0, none⟩) (k + 1) cap2) h.accs (h.pers.take (k + 1))) := hI6
      obtain ⟨u0, u1⟩ := bx5.cells
      obtain ⟨_, uf1⟩ := two_fz bx5
      clear hI6 bx5 hown5 hgrow5 hrow HI3 HOE HUs z0 z1
      go_wp2_with fail
      go_roundw
      case rel => exact ⟨k + 1, by omega, by go_num, _, HI6⟩
      case measure => simp [intOf]; omega
    · have hkn : k = nP := by omega
      subst hkn
      have g1 : ¬ (k : Int) < (k : Int) := by omega
      obtain ⟨aoP', capP', hvP, _, _⟩ := HI.out.pers.in_
      rw [htk] at hvP
      subst hvP
      obtain ⟨z0, z1⟩ := HI.out.box.cells
      obtain ⟨r0, r1⟩ := HI.out.res.cells
      obtain ⟨rf0, rf1⟩ := two_fz HI.out.res
      have hR1 := heap_setCell_same wz (w.heap.size + 1) 0 _ _ (.slice (some ⟨g, 0, none⟩) nA cap') HI.out.res
      have hR2 := heap_setCell_same _ (w.heap.size + 1) 1 _ _ (.slice aoP' k capP') hR1
      have hT : Two ((wz.setCell ⟨w.heap.size + 1, 0, none⟩ (.slice (some ⟨g, 0, none⟩) nA cap')).setCell ⟨w.heap.size + 1, 1, none⟩ (.slice aoP' k capP')) (w.heap.size + 1) (.slice (some ⟨g, 0, none⟩) nA cap') (.slice aoP' k capP') 36 := hR2
      have hkT : KeptT 36 wz ((wz.setCell ⟨w.heap.size + 1, 0, none⟩ (.slice (some ⟨g, 0, none⟩) nA cap')).setCell ⟨w.heap.size + 1, 1, none⟩ (.slice aoP' k capP')) := (keptT_setCell HI.out.res).trans (keptT_setCell hR1)
      have e1 : h.pers.take k = h.pers := by rw [← HH.out.lenP]; exact List.take_length
      have HF : Hid (OwnA ((wz.setCell ⟨w.heap.size + 1, 0, none⟩ (.slice (some ⟨g, 0, none⟩) nA cap')).setCell ⟨w.heap.size + 1, 1, none⟩ (.slice aoP' k capP')) w.heap.size (.slice (some ⟨g, 0, none⟩) nA cap') h.accs ∧ OwnPs ((wz.setCell ⟨w.heap.size + 1, 0, none⟩ (.slice (some ⟨g, 0, none⟩) nA cap')).setCell ⟨w.heap.size + 1, 1, none⟩ (.slice aoP' k capP')) w.heap.size (.slice aoP' k capP') h.pers ∧ Below w.heap.size w ((wz.setCell ⟨w.heap.size + 1, 0, none⟩ (.slice (some ⟨g, 0, none⟩) nA cap')).setCell ⟨w.heap.size + 1, 1, none⟩ (.slice aoP' k capP'))) := by
        refine ⟨ownsRow_mono (HI.out.accs.keptT hkT (by decide)) (by omega), ?_, (HI.out.bel.setCell (by show _ ≤ w.heap.size + 1; omega) _).setCell (by show _ ≤ w.heap.size + 1; omega) _⟩
        have h1 := HI.out.pers.keptT hkT (by decide) (by decide) (by decide)
        rw [e1] at h1
        obtain ⟨us, a, b, c⟩ := h1
        exact ⟨us, a, ownsRow_mono b (by omega), fun i hi hi2 => (c i hi hi2).mono (by omega)⟩
      obtain ⟨t0, t1⟩ := hT.cells
      clear HI hR1 hR2 hkT hT e1
      go_wp2_with fail
      generalize (wz.setCell ⟨w.heap.size + 1, 0, none⟩ (.slice (some ⟨g, 0, none⟩) nA cap')).setCell ⟨w.heap.size + 1, 1, none⟩ (.slice aoP' k capP') = WF at *
      refine bodyPost_ret (v := .agg #[.slice (some ⟨g, 0, none⟩) nA cap', .slice aoP' k capP']) (by simp [results, Tryz.results7, go_sem, t0, t1]) rfl ⟨_, _, rfl, HF.out.1, HF.out.2.1, HF.out.2.2⟩
end Go.Proofs.YtoadiibfmcjgaaaGreat
