import Derived.Test.YtpkkhkkkgjhkeaaGreatMadeInv
import Derived.Test.YtpkkhkkkgjhkeaaGreatRefSeal
import Derived.Deep.CutRange
import Derived.Deep.RegionLaw
import Derived.Deep.AppendLies
import Derived.Test.YtpkkhkkkgjhkeaaGreatCloseWalk
import Derived.Test.YtpkkhkkkgjhkeaaGreatAsItWas
import Derived.Test.YtpkkhkkkgjhkeaaGreatExtend
import Derived.Test.YtpkkhkkkgjhkeaaGreatLawSame
/-
  THE WALKS of signetlaw.period and signetlaw.history: copies.
-/
namespace Go.Proofs.YtpkkhkkkgjhkeaaGreat
open Go.RowKit
set_option maxRecDepth 100000
attribute [local go_sem ↓] Go.wp_at_zero Go.wp_at_succ

theorem pCells_two : ∀ l, (pCells l).length = l.length * 2
  | [] => rfl
  | p :: l => by
    show ([Value.int .i64 p.acct, .int .i64 p.amt] ++ pCells l).length = _
    rw [List.length_append, pCells_two l]; simp; omega
theorem pCells_ones (l : List Sg.Pst) : ∀ c ∈ pCells l, c.oneCell' = true := by
  intro c hc
  unfold pCells at hc
  simp only [List.mem_flatMap, List.mem_cons, List.not_mem_nil, or_false] at hc
  obtain ⟨p, _, rfl | rfl⟩ := hc <;> rfl
/-- Postings that lie in a slice, cell by cell. -/
theorem psts_news {w : World} {b off : Nat} {pp : List Sg.Pst} (hat : PstsAt w b off pp) : ∀ j u, (pCells pp)[j]? = some u → w.cell? (Addr.add ⟨b, off, none⟩ j) = some u := by
  intro j u hj
  have hj' : j < pp.length * 2 := by
    have := (List.getElem?_eq_some_iff.1 hj).1
    rw [pCells_two] at this; exact this
  have ea : Addr.add ⟨b, off, none⟩ j = ⟨b, off + j, none⟩ := by cases j <;> simp [Addr.add]
  rw [ea]
  have hh : j / 2 < pp.length := by omega
  have h2 := hat (j / 2) hh
  have h3 := OwnE.in_.pCells_at pp (j / 2) hh
  have e : j = j / 2 * 2 ∨ j = j / 2 * 2 + 1 := by omega
  rcases e with e | e
  · rw [e] at hj ⊢
    rw [h3.1] at hj
    rw [h2.1]; exact hj
  · rw [e] at hj ⊢
    rw [h3.2] at hj
    rw [← Nat.add_assoc, h2.2]; exact hj
/-- What stands at the head of period's loop. -/
structure PdI (w wr : World) (v0 vE : Value) (es : List Sg.Ent) : Prop where
  bel : Below w.heap.size w wr
  arg : wr.heap[w.heap.size]? = some (.cells #[v0] 24 (0, 0))
  res : wr.heap[w.heap.size + 1]? = some (.cells #[.slice none 0 0] 24 (0, 0))
  box : wr.heap[w.heap.size + 1 + 1]? = some (.cells #[vE] 24 (0, 0))
  own : OwnE wr (w.heap.size + 3) vE es
theorem PdI.below {w wr w' : World} {v0 vE : Value} {es : List Sg.Ent} (m : PdI w wr v0 vE es) (h : Below wr.heap.size wr w') : PdI w w' v0 vE es :=
  ⟨m.bel.trans (h.mono m.bel.size), (h.block _ (lt_of_block m.arg)).trans m.arg, (h.block _ (lt_of_block m.res)).trans m.res, (h.block _ (lt_of_block m.box)).trans m.box, m.own.below h⟩
theorem PdI.start (w : World) (v0 : Value) : PdI w (((w.alloc (.cells #[v0] 24)).alloc (.cells #[.slice none 0 0] 24)).alloc (.cells #[.slice none 0 0] 24)) v0 (.slice none 0 0) [] := by
  obtain ⟨h1, h2⟩ := three_blk w (.cells #[.slice none 0 0] 24) #[v0] #[.slice none 0 0] 24 24
  refine ⟨(((Below.refl _ _).alloc (Nat.le_refl _) _).alloc (by simp) _).alloc (by simp; omega) _, h1, h2, ?_, OwnE.nil _ _⟩
  have := heap_alloc_new ((w.alloc (.cells #[v0] 24)).alloc (.cells #[.slice none 0 0] 24)) (.cells #[.slice none 0 0] 24)
  simpa using this
where
  three_blk (w : World) (o3 : Obj) (c1 c2 : Array Value) (t1 t2 : TypeId) : (((w.alloc (.cells c1 t1)).alloc (.cells c2 t2)).alloc o3).heap[w.heap.size]? = some (.cells c1 t1 (0, 0)) ∧ (((w.alloc (.cells c1 t1)).alloc (.cells c2 t2)).alloc o3).heap[w.heap.size + 1]? = some (.cells c2 t2 (0, 0)) := by
    refine ⟨?_, ?_⟩
    · rw [Below.heap_alloc _ _ _ (by simp; omega), Below.heap_alloc _ _ _ (by simp)]
      exact heap_alloc_new w _
    · rw [Below.heap_alloc _ _ _ (by simp)]
      have := heap_alloc_new (w.alloc (.cells c1 t1)) (.cells c2 t2)
      simpa using this
theorem PdI.push {w X w5 : World} {v0 vE v' u : Value} {es : List Sg.Ent} {us : List Value} {e : Sg.Ent} (m : PdI w X v0 vE es) (hlen : us.length = es.length) (hrow : X.ownsRow (w.heap.size + 3) 55 2 vE es.length (eCells es us)) (hps : ∀ i (h : i < es.length) (h2 : i < us.length), OwnP X (w.heap.size + 3) us[i] es[i].posts) (hu : OwnP X (w.heap.size + 3) u e.posts) (hg : X.grownBy w5 vE.ownBlock) (hown : w5.ownsRow (w.heap.size + 3) 55 2 v' (es.length + 1) (eCells es us ++ [.string e.memo, u])) :
    w5.heap[w.heap.size + 1 + 1]? = some (.cells #[vE] 24 (0, 0)) ∧ PdI w (w5.setCell ⟨w.heap.size + 1 + 1, 0, none⟩ v') v0 v' (es ++ [e]) := by
  have hk := keptT_append hrow hg
  have hb := hk _ _ _ _ m.box (by decide)
  have hne : ∀ q, q ≠ w.heap.size + 1 + 1 → (w5.setCell ⟨w.heap.size + 1 + 1, 0, none⟩ v').heap[q]? = w5.heap[q]? := fun q hq => heap_setCell_other w5 ⟨w.heap.size + 1 + 1, 0, none⟩ q v' hq
  have hk6 : KeptT 24 w5 (w5.setCell ⟨w.heap.size + 1 + 1, 0, none⟩ v') := keptT_setCell hb
  refine ⟨hb, ⟨?_, (hne _ (by omega)).trans (hk _ _ _ _ m.arg (by decide)), (hne _ (by omega)).trans (hk _ _ _ _ m.res (by decide)), heap_setCell_same w5 _ 0 _ _ v' hb, (OwnE.push hlen hrow hps hu hg hown).keptT hk6 (by decide) (by decide)⟩⟩
  exact (m.bel.grown hg m.bel.size (fun q hq => by have := (World.ownsRow.lt hrow q hq).1; omega)).setCell (by show _ ≤ w.heap.size + 1 + 1; omega) _

set_option maxHeartbeats 3200000 in
theorem period_any (es : List Sg.Ent) (ao : Option Addr) (n cap : Nat) (w : World) (hn : es.length = n) (hmax : n ≤ 12) (hE : EntsIn w ao es) (hp : ∀ e ∈ es, 1 ≤ e.posts.length ∧ e.posts.length ≤ 6) :
    Calls Tryz.prog 23 #[.agg #[.slice ao n cap]] w fun e w' => ∃ v, e = .returned (.agg #[v]) ∧ OwnE w' w.heap.size v es ∧ Below w.heap.size w w' := by
  obtain ⟨e0, ei, ez0, ez1, ez2⟩ := info_parts Tryz.infoEnt2
  obtain ⟨p0, pi, pz0, pz1, pz2⟩ := info_parts Tryz.infoPst2
  have HN : Hid (es.length = n) := hn
  have HP : Hid (∀ e ∈ es, 1 ≤ e.posts.length ∧ e.posts.length ≤ 6) := hp
  clear hn hp
  go_enter Tryz.func23, Tryz.ntmps23
  go_wp2_with fail
  go_loopw [4] (fun i wr => ∃ k : Nat, k ≤ n ∧ i = .int .i64 (k : Int) ∧ ∃ vE, Hid (PdI w wr (.slice ao n cap) vE (es.take k))) (fun i _ => n - (intOf i).toNat)
  case atStart => exact ⟨0, by omega, rfl, .slice none 0 0, PdI.start w _⟩
  case round =>
    obtain ⟨k, hk, rfl, vE, HI⟩ := hrel
    obtain ⟨wz, ewz⟩ : ∃ z : World, z = wr := ⟨_, rfl⟩
    subst ewz
    have x0 : wz.cell? ⟨w.heap.size, 0, none⟩ = some (.slice ao n cap) := by rw [cell_of_row wz _ _ _ _ _ HI.out.arg]; rfl
    by_cases hgo : k < n
    · have g1 : (k : Int) < (n : Int) := by omega
      have g0 : (0 : Int) ≤ (k : Int) := by omega
      have hka : k < es.length := by rw [HN.out]; exact hgo
      have htk : (es.take k).length = k := by rw [List.length_take]; omega
      obtain ⟨b2, off2, e2, hb2, hm2, aq, cq, hc2, hp2⟩ := hE.cell (k := k) hka
      subst e2
      have hlp := HP.out es[k] (List.getElem_mem _)
      have htake : es.take (k + 1) = es.take k ++ [es[k]] := List.take_succ_eq_append_getElem hka
      obtain ⟨me, hme⟩ : ∃ m, es[k].memo = m := ⟨_, rfl⟩
      obtain ⟨pp, hpp⟩ : ∃ m, es[k].posts = m := ⟨_, rfl⟩
      obtain ⟨np, hnp⟩ : ∃ m, pp.length = m := ⟨_, rfl⟩
      rw [hme] at hm2
      rw [hpp] at hc2 hlp hp2
      rw [hnp] at hc2 hlp
      obtain ⟨bq, oq, eq, hbq, hat⟩ : ∃ bq oq, aq = some ⟨bq, oq, none⟩ ∧ bq < w.heap.size ∧ PstsAt w bq oq pp := by
        rcases hp2 with h0 | h
        · omega
        · exact h
      subst eq
      have hbz := HI.out.bel
      have x1 := (hbz.cell (p := ⟨b2, off2 + k * 2, none⟩) hb2).trans hm2
      have x2 := (hbz.cell (p := ⟨b2, off2 + k * 2 + 1, none⟩) hb2).trans hc2
      have aX : Below wz.heap.size wz (wz.alloc (.cells #[.string me, .slice none 0 0] 55)) := (Below.refl _ _).alloc (Nat.le_refl _) _
      have hbx := Two.new wz (.string me) (.slice none 0 0) 55
      have bX := hbz.trans (aX.mono hbz.size)
      have HNews : Hid (∀ j u, (pCells pp)[j]? = some u → (wz.alloc (.cells #[.string me, .slice none 0 0] 55)).cell? (Addr.add ⟨bq, oq, none⟩ j) = some u) := fun j u hj => by
        have := psts_news hat j u hj
        have ea : Addr.add ⟨bq, oq, none⟩ j = ⟨bq, oq + j, none⟩ := by cases j <;> simp [Addr.add]
        rw [ea] at this ⊢
        exact (bX.cell (p := ⟨bq, oq + j, none⟩) hbq).trans this
      have hpl : (pCells pp).length = np * 2 := by rw [pCells_two, hnp]
      have hz3 : w.heap.size + 3 ≤ wz.heap.size := lt_of_block HI.out.box
      have HK : Hid (es[k].memo = me ∧ es[k].posts = pp ∧ pp.length = np) := ⟨hme, hpp, hnp⟩
      obtain ⟨y0, y1⟩ := hbx.cells
      have x0' : (wz.alloc (.cells #[.string me, .slice none 0 0] 55)).cell? ⟨w.heap.size, 0, none⟩ = some (.slice (some ⟨b2, off2, none⟩) n cap) := (aX.cell (p := ⟨w.heap.size, 0, none⟩) (lt_of_block HI.out.arg)).trans x0
      have x2' : (wz.alloc (.cells #[.string me, .slice none 0 0] 55)).cell? ⟨b2, off2 + k * 2 + 1, none⟩ = some (.slice (some ⟨bq, oq, none⟩) np cq) := (bX.cell (p := ⟨b2, off2 + k * 2 + 1, none⟩) hb2).trans hc2
      have hXs : (wz.alloc (.cells #[.string me, .slice none 0 0] 55)).heap.size = wz.heap.size + 1 := by simp
      have HIX : Hid (PdI w (wz.alloc (.cells #[.string me, .slice none 0 0] 55)) (.slice (some ⟨b2, off2, none⟩) n cap) vE (es.take k)) := HI.out.below aX
      clear hme hpp hnp hm2 hc2 hat
      go_wp2_with fail
      clear bX x0 x1 x2 HIX
      generalize wz.alloc (.cells #[.string me, .slice none 0 0] 55) = X at *
      go_region_law (refine step_append_lies _ (by rfl) _ _ _ (by rfl) (w.heap.size + 3) 57 p0 _ 2 16 Tryz.underlying53 pi pz0 pz1 pz2 rfl (by omega) _ 0 [] (by rfl) (World.ownsRow_nil _ _ _ _) ⟨bq, oq, none⟩ np cq (pCells pp) (by rfl) hpl (by first | exact HNews.out | (intro j u hj; simpa using HNews.out j u hj)) (pCells_ones pp) (by omega) (by unfold maxLen; omega) (by omega) (by simp [hXs]; omega) (wz.heap.size + 1) (by simp [hXs]) ?_; intro g cap' w6 hown6 hgrow _ hlt6; rw [Nat.zero_add, List.nil_append] at hown6; rw [Nat.zero_add]; have hbx6 : Two w6 wz.heap.size (.string me) (.slice none 0 0) 55 := (hgrow.block _ (lt_of_block hbx) (by simp [Value.ownBlock])).trans hbx; obtain ⟨v0, v1⟩ := hbx6.cells; have vf1 : w6.frozen? ⟨wz.heap.size, 1, none⟩ = false := (by have hbb : w6.heap[wz.heap.size]? = _ := hbx6; simp [World.frozen?, hbb]))
      all_goals
        have b6 : Below X.heap.size X w6 := by
          first
            | exact (Below.refl _ _).grown hgrow (Nat.le_refl _) (fun q hq => by simp [Value.ownBlock] at hq)
            | exact (Below.refl _ _).drew.grown hgrow (Nat.le_refl _) (fun q hq => by simp [Value.ownBlock] at hq)
        have bY : Below wz.heap.size wz (w6.setCell ⟨wz.heap.size, 1, none⟩ (.slice (some ⟨g, 0, none⟩) np cap')) := (aX.trans (b6.mono aX.size)).setCell (Nat.le_refl _) _
        have HIY : Hid (PdI w (w6.setCell ⟨wz.heap.size, 1, none⟩ (.slice (some ⟨g, 0, none⟩) np cap')) (.slice (some ⟨b2, off2, none⟩) n cap) vE (es.take k)) := HI.out.below bY
        have HOP : Hid (OwnP (w6.setCell ⟨wz.heap.size, 1, none⟩ (.slice (some ⟨g, 0, none⟩) np cap')) (w.heap.size + 3) (.slice (some ⟨g, 0, none⟩) np cap') pp) := by
          show World.ownsRow _ _ _ _ _ _ _
          rw [HK.out.2.2]
          exact ownsRow_keptT hown6 (keptT_setCell hbx6) (by decide)
        have hbY : Two (w6.setCell ⟨wz.heap.size, 1, none⟩ (.slice (some ⟨g, 0, none⟩) np cap')) wz.heap.size (.string me) (.slice (some ⟨g, 0, none⟩) np cap') 55 := heap_setCell_same w6 wz.heap.size 1 _ _ _ hbx6
        have hYs : w.heap.size + 3 ≤ (w6.setCell ⟨wz.heap.size, 1, none⟩ (.slice (some ⟨g, 0, none⟩) np cap')).heap.size := by have := bY.size; omega
        clear b6 bY v0 v1 vf1 hown6 hgrow hbx6 HI aX hbx y0 y1 x0' x2' HNews hpl
        generalize w6.setCell ⟨wz.heap.size, 1, none⟩ (.slice (some ⟨g, 0, none⟩) np cap') = Y at *
        obtain ⟨y0, y1⟩ := hbY.cells
        obtain ⟨us, hul, hrow, hus⟩ := HIY.out.own
        obtain ⟨aoE, capE, hvE, _, _, _⟩ := HIY.out.own.in_
        rw [htk] at hrow hvE hul
        subst hvE
        have z0 : Y.cell? ⟨w.heap.size + 1 + 1, 0, none⟩ = some (.slice aoE k capE) := by rw [cell_of_row Y _ _ _ _ _ HIY.out.box]; rfl
        have HUs : Hid (∀ i (h : i < (es.take k).length) (h2 : i < us.length), OwnP Y (w.heap.size + 3) us[i] (es.take k)[i].posts) := hus
        clear hus
        go_wp2_with (at_builtin; (refine wpList_append_lies _ rfl _ _ 22 rfl (w.heap.size + 3) 55 e0 (.agg #[.string ByteArray.empty, .slice none 0 0]) 2 40 Tryz.underlying22 ei ez0 ez1 ez2 rfl (by decide) (.slice aoE k capE) k (eCells (es.take k) us) rfl (hrow.alloc _) ⟨Y.heap.size, 0, none⟩ 1 1 [.string me, .slice (some ⟨g, 0, none⟩) np cap'] rfl rfl (World.news_of_block (cs := #[.string me, .slice (some ⟨g, 0, none⟩) np cap']) (t := 55) (fr := (0, 0)) (heap_alloc_new Y _)) (by intro u hu; simp at hu; rcases hu with rfl | rfl <;> rfl) (by omega) (by unfold maxLen; omega) (by omega) (by simp; omega) (Y.heap.size + 1) (by simp) ?_))
        intro g2 cap2 w7 hown7 hgrow7 _ hlt7
        have aZ : Below Y.heap.size Y (Y.alloc (.cells #[.string me, .slice (some ⟨g, 0, none⟩) np cap'] 55)) := (Below.refl _ _).alloc (Nat.le_refl _) _
        obtain ⟨bx7, hI8⟩ := (HIY.out.below aZ).push (us := us) (e := ⟨me, pp⟩) (by rw [htk]; exact hul) (by rw [htk]; exact hrow.alloc _) (fun i h1 h2 => ownsRow_below (HUs.out i h1 h2) aZ) (ownsRow_below HOP.out aZ) hgrow7 (by rw [htk]; exact hown7)
        have ek : es[k] = ⟨me, pp⟩ := by rw [← HK.out.1, ← HK.out.2.1]
        rw [← ek, ← htake] at hI8
        have HI8 : Hid (PdI w (w7.setCell ⟨w.heap.size + 1 + 1, 0, none⟩ (.slice (some ⟨g2, 0, none⟩) (k + 1) cap2)) (.slice (some ⟨b2, off2, none⟩) n cap) (.slice (some ⟨g2, 0, none⟩) (k + 1) cap2) (es.take (k + 1))) := hI8
        have u0 : w7.cell? ⟨w.heap.size + 1 + 1, 0, none⟩ = some (.slice aoE k capE) := by rw [cell_of_row w7 _ _ _ _ _ bx7]; rfl
        have uf : w7.frozen? ⟨w.heap.size + 1 + 1, 0, none⟩ = false := by simp [World.frozen?, bx7]
        clear hI8 hown7 hgrow7 hrow HIY HOP HUs hbY y0 y1 z0 aZ bx7 ek htake
        go_wp2_with fail
        go_roundw
        case rel => exact ⟨k + 1, by omega, by go_num, _, HI8⟩
        case measure => simp [intOf]; omega
    · have hkn : k = n := by omega
      subst hkn
      have g1 : ¬ (k : Int) < (k : Int) := by omega
      obtain ⟨aoE, capE, hvE, _, _, _⟩ := HI.out.own.in_
      subst hvE
      have z0 : wz.cell? ⟨w.heap.size + 1 + 1, 0, none⟩ = some (.slice aoE (es.take k).length capE) := by rw [cell_of_row wz _ _ _ _ _ HI.out.box]; rfl
      have r0 : wz.cell? ⟨w.heap.size + 1, 0, none⟩ = some (.slice none 0 0) := by rw [cell_of_row wz _ _ _ _ _ HI.out.res]; rfl
      have rf : wz.frozen? ⟨w.heap.size + 1, 0, none⟩ = false := by simp [World.frozen?, HI.out.res]
      have HF : Hid (OwnE (wz.setCell ⟨w.heap.size + 1, 0, none⟩ (.slice aoE (es.take k).length capE)) w.heap.size (.slice aoE (es.take k).length capE) es ∧ Below w.heap.size w (wz.setCell ⟨w.heap.size + 1, 0, none⟩ (.slice aoE (es.take k).length capE))) := by
        refine ⟨?_, HI.out.bel.setCell (by show _ ≤ w.heap.size + 1; omega) _⟩
        have h1 := (HI.out.own.keptT (keptT_setCell (j := 0) (u := .slice aoE (es.take k).length capE) HI.out.res) (by decide) (by decide)).mono (B' := w.heap.size) (by omega)
        have e1 : es.take k = es := by rw [← HN.out]; exact List.take_length
        rw [e1] at h1 ⊢
        exact h1
      have q0 : (wz.setCell ⟨w.heap.size + 1, 0, none⟩ (.slice aoE (es.take k).length capE)).cell? ⟨w.heap.size + 1, 0, none⟩ = some (.slice aoE (es.take k).length capE) := by
        rw [cell_of_row _ _ _ _ _ _ (heap_setCell_same wz (w.heap.size + 1) 0 _ _ (.slice aoE (es.take k).length capE) HI.out.res)]; rfl
      clear HI
      generalize (es.take k).length = kk at *
      go_wp2_with fail
      generalize wz.setCell ⟨w.heap.size + 1, 0, none⟩ (.slice aoE kk capE) = WF at *
      refine bodyPost_ret (v := .agg #[.slice aoE kk capE]) (by simp [results, Tryz.results23, go_sem, q0]) rfl ⟨_, rfl, HF.out.1, HF.out.2⟩
end Go.Proofs.YtpkkhkkkgjhkeaaGreat

/-
  THE WALK of signetlaw.history: a copy.
-/
namespace Go.Proofs.YtpkkhkkkgjhkeaaGreat
open Go.RowKit
set_option maxRecDepth 100000
attribute [local go_sem ↓] Go.wp_at_zero Go.wp_at_succ

theorem aCells_len : ∀ l, (aCells l).length = l.length * 2
  | [] => rfl
  | p :: l => by
    show ([Value.string p.name, .int .i64 p.line] ++ aCells l).length = _
    rw [List.length_append, aCells_len l]; simp; omega
theorem aCells_ones (l : List Sg.Acc) : ∀ c ∈ aCells l, c.oneCell' = true := by
  intro c hc
  unfold aCells at hc
  simp only [List.mem_flatMap, List.mem_cons, List.not_mem_nil, or_false] at hc
  obtain ⟨p, _, rfl | rfl⟩ := hc <;> rfl
theorem accs_news {w : World} {b off : Nat} {ac : List Sg.Acc} (hat : AccsAt w b off ac) : ∀ j u, (aCells ac)[j]? = some u → w.cell? (Addr.add ⟨b, off, none⟩ j) = some u := by
  intro j u hj
  have hj' : j < ac.length * 2 := by
    have := (List.getElem?_eq_some_iff.1 hj).1
    rw [aCells_len] at this; exact this
  have ea : Addr.add ⟨b, off, none⟩ j = ⟨b, off + j, none⟩ := by cases j <;> simp [Addr.add]
  rw [ea]
  have hh : j / 2 < ac.length := by omega
  have h2 := hat (j / 2) hh
  have h3 := aCells_at ac (j / 2) hh
  have e : j = j / 2 * 2 ∨ j = j / 2 * 2 + 1 := by omega
  rcases e with e | e
  · rw [e] at hj ⊢
    rw [h3.1] at hj
    rw [h2.1]; exact hj
  · rw [e] at hj ⊢
    rw [h3.2] at hj
    rw [← Nat.add_assoc, h2.2]; exact hj
theorem two_fz {w : World} {g : Nat} {x y : Value} {t : TypeId} (h : Two w g x y t) : w.frozen? ⟨g, 0, none⟩ = false ∧ w.frozen? ⟨g, 1, none⟩ = false := by
  unfold Two at h
  exact ⟨by simp [World.frozen?, h], by simp [World.frozen?, h]⟩
structure HyI (w wr : World) (v0 v1 vA vP : Value) (ac : List Sg.Acc) (ps : List (List Sg.Ent)) : Prop where
  bel : Below w.heap.size w wr
  arg : Two wr w.heap.size v0 v1 36
  res : Two wr (w.heap.size + 1) (.slice none 0 0) (.slice none 0 0) 36
  box : Two wr (w.heap.size + 1 + 1) vA vP 36
  accs : OwnA wr (w.heap.size + 3) vA ac
  pers : OwnPs wr (w.heap.size + 3) vP ps
theorem HyI.below {w wr w' : World} {v0 v1 vA vP : Value} {ac : List Sg.Acc} {ps : List (List Sg.Ent)} (m : HyI w wr v0 v1 vA vP ac ps) (h : Below wr.heap.size wr w') : HyI w w' v0 v1 vA vP ac ps :=
  ⟨m.bel.trans (h.mono m.bel.size), m.arg.below h, m.res.below h, m.box.below h, m.accs.below h, m.pers.below h⟩
theorem HyI.start (w : World) (v0 v1 : Value) : HyI w (((w.alloc (.cells #[v0, v1] 36)).alloc (.cells #[.slice none 0 0, .slice none 0 0] 36)).alloc (.cells #[.slice none 0 0, .slice none 0 0] 36)) v0 v1 (.slice none 0 0) (.slice none 0 0) [] [] := by
  obtain ⟨h1, h2⟩ := PdI.start.three_blk w (.cells #[.slice none 0 0, .slice none 0 0] 36) #[v0, v1] #[.slice none 0 0, .slice none 0 0] 36 36
  refine ⟨(((Below.refl _ _).alloc (Nat.le_refl _) _).alloc (by simp) _).alloc (by simp; omega) _, h1, h2, ?_, World.ownsRow_nil _ _ _ _, OwnPs.nil _ _⟩
  have := heap_alloc_new ((w.alloc (.cells #[v0, v1] 36)).alloc (.cells #[.slice none 0 0, .slice none 0 0] 36)) (.cells #[.slice none 0 0, .slice none 0 0] 36)
  show _ = _
  simpa using this
/-- The accounts are in. -/
theorem HyI.chart {w X w5 : World} {v0 v1 vP v' : Value} {ac : List Sg.Acc} {ps : List (List Sg.Ent)} (m : HyI w X v0 v1 (.slice none 0 0) vP [] ps) (hg : X.grownBy w5 none) (hown : OwnA w5 (w.heap.size + 3) v' ac) :
    Two w5 (w.heap.size + 1 + 1) (.slice none 0 0) vP 36 ∧ HyI w (w5.setCell ⟨w.heap.size + 1 + 1, 0, none⟩ v') v0 v1 v' vP ac ps := by
  have b5 : Below X.heap.size X w5 := (Below.refl _ _).grown hg (Nat.le_refl _) (fun q hq => by simp at hq)
  have m5 := m.below b5
  have hne : ∀ q, q ≠ w.heap.size + 1 + 1 → (w5.setCell ⟨w.heap.size + 1 + 1, 0, none⟩ v').heap[q]? = w5.heap[q]? := fun q hq => heap_setCell_other w5 ⟨w.heap.size + 1 + 1, 0, none⟩ q v' hq
  have hk6 : KeptT 36 w5 (w5.setCell ⟨w.heap.size + 1 + 1, 0, none⟩ v') := keptT_setCell m5.box
  exact ⟨m5.box, m5.bel.setCell (by show _ ≤ w.heap.size + 1 + 1; omega) _, (hne _ (by omega)).trans m5.arg, (hne _ (by omega)).trans m5.res, heap_setCell_same w5 _ 0 _ _ v' m5.box, hown.keptT hk6 (by decide), m5.pers.keptT hk6 (by decide) (by decide) (by decide)⟩
/-- A period more. -/
theorem HyI.push {w X w5 : World} {v0 v1 vA vP v' u : Value} {ac : List Sg.Acc} {ps : List (List Sg.Ent)} {us : List Value} {p : List Sg.Ent} (m : HyI w X v0 v1 vA vP ac ps) (hlen : us.length = ps.length) (hrow : X.ownsRow (w.heap.size + 3) 24 1 vP ps.length us) (hes : ∀ i (h : i < ps.length) (h2 : i < us.length), OwnE X (w.heap.size + 3) us[i] ps[i]) (hu : OwnE X (w.heap.size + 3) u p) (hg : X.grownBy w5 vP.ownBlock) (hown : w5.ownsRow (w.heap.size + 3) 24 1 v' (ps.length + 1) (us ++ [u])) :
    Two w5 (w.heap.size + 1 + 1) vA vP 36 ∧ HyI w (w5.setCell ⟨w.heap.size + 1 + 1, 1, none⟩ v') v0 v1 vA v' ac (ps ++ [p]) := by
  have hk := keptT_append hrow hg
  have hb : Two w5 (w.heap.size + 1 + 1) vA vP 36 := hk _ _ _ _ m.box (by decide)
  have hne : ∀ q, q ≠ w.heap.size + 1 + 1 → (w5.setCell ⟨w.heap.size + 1 + 1, 1, none⟩ v').heap[q]? = w5.heap[q]? := fun q hq => heap_setCell_other w5 ⟨w.heap.size + 1 + 1, 1, none⟩ q v' hq
  have hk6 : KeptT 36 w5 (w5.setCell ⟨w.heap.size + 1 + 1, 1, none⟩ v') := keptT_setCell hb
  refine ⟨hb, ⟨?_, (hne _ (by omega)).trans (hk _ _ _ _ m.arg (by decide)), (hne _ (by omega)).trans (hk _ _ _ _ m.res (by decide)), heap_setCell_same w5 _ 1 _ _ v' hb, (m.accs.keptT hk (by decide)).keptT hk6 (by decide), (OwnPs.push hlen hrow hes hu hg hown).keptT hk6 (by decide) (by decide) (by decide)⟩⟩
  exact (m.bel.grown hg m.bel.size (fun q hq => by have := (World.ownsRow.lt hrow q hq).1; omega)).setCell (by show _ ≤ w.heap.size + 1 + 1; omega) _

set_option maxHeartbeats 3200000 in
theorem history_any (h : Sg.Hist) (aoA aoP : Option Addr) (nA nP capA capP : Nat) (w : World) (hH : HistIn w aoA aoP nA nP h) (hi : Sg.inBounds h = true) :
    Calls Tryz.prog 9 #[.agg #[.slice aoA nA capA, .slice aoP nP capP]] w fun e w' => ∃ vA vP, e = .returned (.agg #[vA, vP]) ∧ OwnA w' w.heap.size vA h.accs ∧ OwnPs w' w.heap.size vP h.pers ∧ Below w.heap.size w w' := by
  obtain ⟨a0, ai, az0, az1, az2⟩ := info_parts Tryz.infoAcc2
  obtain ⟨p0, pi, pz0, pz1, pz2⟩ := info_parts Tryz.infoPer1
  have hbp := Sg.bnd_pers hi
  have hnum : 1 ≤ nA ∧ nA ≤ 8 ∧ nP ≤ 6 := by
    rw [← hH.lenA, ← hH.lenP]
    unfold Sg.inBounds at hi
    simp only [Bool.and_eq_true, decide_eq_true_eq] at hi
    omega
  have hpos : ∀ p ∈ h.pers, ∀ e ∈ p, 1 ≤ e.posts.length := by
    intro p hp e he
    unfold Sg.inBounds at hi
    simp only [Bool.and_eq_true, decide_eq_true_eq, List.all_eq_true] at hi
    have h1 := hi.2 p hp
    unfold Sg.perOk at h1
    simp only [Bool.and_eq_true, List.all_eq_true] at h1
    have h2 := h1.2 e he
    unfold Sg.entOk at h2
    simp only [decide_eq_true_eq] at h2
    omega
  obtain ⟨hn1, hn8, hn6⟩ := hnum
  obtain ⟨bA, oA, eA, hbA, hatA⟩ : ∃ b o, aoA = some ⟨b, o, none⟩ ∧ b < w.heap.size ∧ AccsAt w b o h.accs := by
    rcases hH.accs with h0 | h1
    · have := hH.lenA; omega
    · exact h1
  subst eA
  have HH : Hid (HistIn w (some ⟨bA, oA, none⟩) aoP nA nP h) := hH
  have HB : Hid (∀ p ∈ h.pers, p.length ≤ 12 ∧ ∀ e ∈ p, 1 ≤ e.posts.length ∧ e.posts.length ≤ 6) := fun p hp => ⟨by have := (hbp p hp).1; omega, fun e he => ⟨hpos p hp e he, by have := ((hbp p hp).2 e he).2; omega⟩⟩
  have HI0 := HyI.start w (.slice (some ⟨bA, oA, none⟩) nA capA) (.slice aoP nP capP)
  have hal : (aCells h.accs).length = nA * 2 := by rw [aCells_len, hH.lenA]
  have HNews : Hid (∀ j u, (aCells h.accs)[j]? = some u → (((w.alloc (.cells #[.slice (some ⟨bA, oA, none⟩) nA capA, .slice aoP nP capP] 36)).alloc (.cells #[.slice none 0 0, .slice none 0 0] 36)).alloc (.cells #[.slice none 0 0, .slice none 0 0] 36)).cell? (Addr.add ⟨bA, oA, none⟩ j) = some u) := fun j u hj => by
    have := accs_news hatA j u hj
    have ea : Addr.add ⟨bA, oA, none⟩ j = ⟨bA, oA + j, none⟩ := by cases j <;> simp [Addr.add]
    rw [ea] at this ⊢
    exact (HI0.bel.cell (p := ⟨bA, oA + j, none⟩) hbA).trans this
  have hW0 : (((w.alloc (.cells #[.slice (some ⟨bA, oA, none⟩) nA capA, .slice aoP nP capP] 36)).alloc (.cells #[.slice none 0 0, .slice none 0 0] 36)).alloc (.cells #[.slice none 0 0, .slice none 0 0] 36)).heap.size = w.heap.size + 3 := by simp
  obtain ⟨b0, b1⟩ := HI0.box.cells
  obtain ⟨c0, c1⟩ := HI0.arg.cells
  have HI : Hid (HyI w _ _ _ _ _ _ _) := HI0
  clear hH hi hbp hpos hatA HI0
  go_enter Tryz.func9, Tryz.ntmps9
  go_upto_region 2 with fail
  generalize ((w.alloc (.cells #[.slice (some ⟨bA, oA, none⟩) nA capA, .slice aoP nP capP] 36)).alloc (.cells #[.slice none 0 0, .slice none 0 0] 36)).alloc (.cells #[.slice none 0 0, .slice none 0 0] 36) = W0 at *
  go_wp2_with (at_builtin; (refine wpList_append_lies _ rfl _ _ 33 rfl (w.heap.size + 3) 66 a0 (.agg #[.string ByteArray.empty, .int .i64 0]) 2 24 Tryz.underlying33 ai az0 az1 az2 rfl (by decide) (.slice none 0 0) 0 [] rfl (World.ownsRow_nil _ _ _ _) ⟨bA, oA, none⟩ nA capA (aCells h.accs) rfl hal HNews.out (aCells_ones h.accs) (by omega) (by unfold maxLen; omega) (by omega) (by omega) (w.heap.size + 3) (by omega) ?_))
  intro g cap' w1 hown1 hgrow1 _ hlt1
  obtain ⟨bx1, hI2⟩ := HI.out.chart (ac := h.accs) (v' := .slice (some ⟨g, 0, none⟩) nA cap') hgrow1 (by show World.ownsRow _ _ _ _ _ _ _; rw [HH.out.lenA]; exact hown1)
  have HI2 : Hid (HyI w (w1.setCell ⟨w.heap.size + 1 + 1, 0, none⟩ (.slice (some ⟨g, 0, none⟩) nA cap')) (.slice (some ⟨bA, oA, none⟩) nA capA) (.slice aoP nP capP) (.slice (some ⟨g, 0, none⟩) nA cap') (.slice none 0 0) h.accs []) := hI2
  obtain ⟨d0, d1⟩ := bx1.cells
  obtain ⟨df0, _⟩ := two_fz bx1
  clear hI2 bx1 hown1 hgrow1 HI HNews hal b0 b1 c0 c1 hW0
  go_wp2_with fail
  go_loopw [4] (fun i wr => ∃ k : Nat, k ≤ nP ∧ i = .int .i64 (k : Int) ∧ ∃ vP, Hid (HyI w wr (.slice (some ⟨bA, oA, none⟩) nA capA) (.slice aoP nP capP) (.slice (some ⟨g, 0, none⟩) nA cap') vP h.accs (h.pers.take k))) (fun i _ => nP - (intOf i).toNat)
  case atStart => exact ⟨0, by omega, rfl, .slice none 0 0, HI2⟩
  case round =>
    obtain ⟨k, hk, rfl, vP, HI⟩ := hrel
    obtain ⟨wz, ewz⟩ : ∃ z : World, z = wr := ⟨_, rfl⟩
    subst ewz
    clear HI2
    obtain ⟨x0, x1⟩ := HI.out.arg.cells
    have hz3 : w.heap.size + 3 ≤ wz.heap.size := lt_of_block HI.out.box
    have htk : (h.pers.take k).length = k := by rw [List.length_take, HH.out.lenP]; omega
    by_cases hgo : k < nP
    · have g1 : (k : Int) < (nP : Int) := by omega
      have g0 : (0 : Int) ≤ (k : Int) := by omega
      have hka : k < h.pers.length := by rw [HH.out.lenP]; exact hgo
      have htake : h.pers.take (k + 1) = h.pers.take k ++ [h.pers[k]] := List.take_succ_eq_append_getElem hka
      obtain ⟨b2, off2, e2, hb2, aq, cq, hc2, hp2⟩ := HH.out.pers.cell (k := k) hka
      subst e2
      have hbz := HI.out.bel
      have x2 := (hbz.cell (p := ⟨b2, off2 + k, none⟩) hb2).trans hc2
      have hb12 := HB.out h.pers[k] (List.getElem_mem _)
      have hcall := period_any h.pers[k] aq _ cq wz rfl hb12.1 (hp2.below hbz) hb12.2
      have HTK : Hid (h.pers.take (k + 1) = h.pers.take k ++ [h.pers[k]]) := htake
      generalize h.pers[k] = pk at *
      obtain ⟨m, hm⟩ : ∃ m, pk.length = m := ⟨_, rfl⟩
      rw [hm] at x2 hcall
      clear hc2 htake hp2 hb12 hm
      go_wp2_with fail
      refine hcall.mono ?_
      clear hcall
      rintro e w2 ⟨v, rfl, hOE, hb2'⟩
      obtain ⟨aoE, nE, capE, ev⟩ : ∃ a n c, v = .slice a n c := by
        obtain ⟨ao, cap, e, _⟩ := hOE.in_
        exact ⟨_, _, _, e⟩
      subst ev
      have aB : Below w2.heap.size w2 ((w2.alloc (.cells #[.slice aoE nE capE] 24)).alloc (.cells #[.slice aoE nE capE] 24)) := ((Below.refl _ _).alloc (Nat.le_refl _) _).alloc (by simp) _
      have b3 := hb2'.trans (aB.mono hb2'.size)
      have HOE : Hid (OwnE ((w2.alloc (.cells #[.slice aoE nE capE] 24)).alloc (.cells #[.slice aoE nE capE] 24)) (w.heap.size + 3) (.slice aoE nE capE) pk) := (hOE.mono hz3).below aB
      have HI3 : Hid (HyI w ((w2.alloc (.cells #[.slice aoE nE capE] 24)).alloc (.cells #[.slice aoE nE capE] 24)) (.slice (some ⟨bA, oA, none⟩) nA capA) (.slice (some ⟨b2, off2, none⟩) nP capP) (.slice (some ⟨g, 0, none⟩) nA cap') vP h.accs (h.pers.take k)) := HI.out.below b3
      have hs2 := hb2'.size
      obtain ⟨aoP', capP', hvP, _, _⟩ := HI3.out.pers.in_
      rw [htk] at hvP
      subst hvP
      obtain ⟨us, hul, hrow, hus⟩ := HI3.out.pers
      rw [htk] at hrow
      have HUs : Hid (∀ i (h1 : i < (h.pers.take k).length) (h2 : i < us.length), OwnE ((w2.alloc (.cells #[.slice aoE nE capE] 24)).alloc (.cells #[.slice aoE nE capE] 24)) (w.heap.size + 3) us[i] (h.pers.take k)[i]) := hus
      have HI2b := (HI.out.below hb2').below ((Below.refl _ _).alloc (Nat.le_refl _) (.cells #[.slice aoE nE capE] 24))
      obtain ⟨z0, z1⟩ := HI2b.box.cells
      clear hus hOE b3 aB hb2' HI x0 x1 x2 HI2b
      go_wp2_with (at_builtin; (refine wpList_append_lies _ rfl _ _ 34 rfl (w.heap.size + 3) 24 p0 (.agg #[.slice none 0 0]) 1 24 Tryz.underlying34 pi pz0 pz1 pz2 rfl (by decide) (.slice aoP' k capP') k us rfl hrow ⟨w2.heap.size + 1, 0, none⟩ 1 1 [.slice aoE nE capE] rfl rfl (World.news_of_block (cs := #[.slice aoE nE capE]) (t := 24) (fr := (0, 0)) (by have := heap_alloc_new (w2.alloc (.cells #[.slice aoE nE capE] 24)) (.cells #[.slice aoE nE capE] 24); simpa using this)) (by intro u hu; simp at hu; subst hu; rfl) (by omega) (by unfold maxLen; omega) (by omega) (by simp; omega) (w2.heap.size + 2) (by simp) ?_))
      intro g2 cap2 w5 hown5 hgrow5 _ hlt5
      obtain ⟨bx5, hI6⟩ := HI3.out.push (us := us) (p := pk) hul (by rw [htk]; exact hrow) HUs.out HOE.out hgrow5 (by rw [htk]; exact hown5)
      rw [← HTK.out] at hI6
      have HI6 : Hid (HyI w (w5.setCell ⟨w.heap.size + 1 + 1, 1, none⟩ (.slice (some ⟨g2, 0, none⟩) (k + 1) cap2)) (.slice (some ⟨bA, oA, none⟩) nA capA) (.slice (some ⟨b2, off2, none⟩) nP capP) (.slice (some ⟨g, 0, none⟩) nA cap') (.slice (some ⟨g2, 0, none⟩) (k + 1) cap2) h.accs (h.pers.take (k + 1))) := hI6
      obtain ⟨u0, u1⟩ := bx5.cells
      obtain ⟨_, uf1⟩ := two_fz bx5
      clear hI6 bx5 hown5 hgrow5 hrow HI3 HOE HUs z0 z1
      go_wp2_with fail
      go_roundw
      case rel => exact ⟨k + 1, by omega, by go_num, _, HI6⟩
      case measure => simp [intOf]; omega
    · have hkn : k = nP := by omega
      subst hkn
      have g1 : ¬ (k : Int) < (k : Int) := by omega
      obtain ⟨aoP', capP', hvP, _, _⟩ := HI.out.pers.in_
      rw [htk] at hvP
      subst hvP
      obtain ⟨z0, z1⟩ := HI.out.box.cells
      obtain ⟨r0, r1⟩ := HI.out.res.cells
      obtain ⟨rf0, rf1⟩ := two_fz HI.out.res
      have hR1 := heap_setCell_same wz (w.heap.size + 1) 0 _ _ (.slice (some ⟨g, 0, none⟩) nA cap') HI.out.res
      have hR2 := heap_setCell_same _ (w.heap.size + 1) 1 _ _ (.slice aoP' k capP') hR1
      have hT : Two ((wz.setCell ⟨w.heap.size + 1, 0, none⟩ (.slice (some ⟨g, 0, none⟩) nA cap')).setCell ⟨w.heap.size + 1, 1, none⟩ (.slice aoP' k capP')) (w.heap.size + 1) (.slice (some ⟨g, 0, none⟩) nA cap') (.slice aoP' k capP') 36 := hR2
      have hkT : KeptT 36 wz ((wz.setCell ⟨w.heap.size + 1, 0, none⟩ (.slice (some ⟨g, 0, none⟩) nA cap')).setCell ⟨w.heap.size + 1, 1, none⟩ (.slice aoP' k capP')) := (keptT_setCell HI.out.res).trans (keptT_setCell hR1)
      have e1 : h.pers.take k = h.pers := by rw [← HH.out.lenP]; exact List.take_length
      have HF : Hid (OwnA ((wz.setCell ⟨w.heap.size + 1, 0, none⟩ (.slice (some ⟨g, 0, none⟩) nA cap')).setCell ⟨w.heap.size + 1, 1, none⟩ (.slice aoP' k capP')) w.heap.size (.slice (some ⟨g, 0, none⟩) nA cap') h.accs ∧ OwnPs ((wz.setCell ⟨w.heap.size + 1, 0, none⟩ (.slice (some ⟨g, 0, none⟩) nA cap')).setCell ⟨w.heap.size + 1, 1, none⟩ (.slice aoP' k capP')) w.heap.size (.slice aoP' k capP') h.pers ∧ Below w.heap.size w ((wz.setCell ⟨w.heap.size + 1, 0, none⟩ (.slice (some ⟨g, 0, none⟩) nA cap')).setCell ⟨w.heap.size + 1, 1, none⟩ (.slice aoP' k capP'))) := by
        refine ⟨ownsRow_mono (HI.out.accs.keptT hkT (by decide)) (by omega), ?_, (HI.out.bel.setCell (by show _ ≤ w.heap.size + 1; omega) _).setCell (by show _ ≤ w.heap.size + 1; omega) _⟩
        have h1 := HI.out.pers.keptT hkT (by decide) (by decide) (by decide)
        rw [e1] at h1
        obtain ⟨us, a, b, c⟩ := h1
        exact ⟨us, a, ownsRow_mono b (by omega), fun i hi hi2 => (c i hi hi2).mono (by omega)⟩
      obtain ⟨t0, t1⟩ := hT.cells
      clear HI hR1 hR2 hkT hT e1
      go_wp2_with fail
      generalize (wz.setCell ⟨w.heap.size + 1, 0, none⟩ (.slice (some ⟨g, 0, none⟩) nA cap')).setCell ⟨w.heap.size + 1, 1, none⟩ (.slice aoP' k capP') = WF at *
      refine bodyPost_ret (v := .agg #[.slice (some ⟨g, 0, none⟩) nA cap', .slice aoP' k capP']) (by simp [results, Tryz.results9, go_sem, t0, t1]) rfl ⟨_, _, rfl, HF.out.1, HF.out.2.1, HF.out.2.2⟩
end Go.Proofs.YtpkkhkkkgjhkeaaGreat

/-
  THE WALK of signetlaw.Extends (P7).
-/
namespace Go.Proofs.YtpkkhkkkgjhkeaaGreat
open Go.RowKit
set_option maxRecDepth 100000
attribute [local go_sem ↓] Go.wp_at_zero Go.wp_at_succ

/-- What Extend answers. -/
def Sg.extPk (t : ByteArray) (p : List Sg.Ent) : ByteArray := if Sg.isPk (Sg.pdHist (Sg.tx t)) t then Sg.package (Sg.plus (Sg.opened t) p) else ByteArray.empty
def Sg.extHd (t : ByteArray) (p : List Sg.Ent) : ByteArray := if Sg.isPk (Sg.pdHist (Sg.tx t)) t then Sg.headOf (Sg.plus (Sg.opened t) p) else ByteArray.empty
def Sg.extErr (t : ByteArray) (p : List Sg.Ent) : Int := if Sg.isPk (Sg.pdHist (Sg.tx t)) t then Sg.closeErr (Sg.plus (Sg.opened t) p) else 5
theorem ext_all (t : ByteArray) (p : List Sg.Ent) (aoX : Option Addr) (nX capX : Nat) (w : World) (hE : EntsIn w aoX p) (hn : p.length = nX) (hp : PerSizes p) :
    Calls Tryz.prog 7 #[.string t, .agg #[.slice aoX nX capX]] w fun e w' => e = .returned (.tuple #[.string (Sg.extPk t p), .string (Sg.extHd t p), .int .i64 (Sg.extErr t p)]) ∧ Below w.heap.size w w' := by
  refine (extend_any t p aoX nX capX w hE hn hp).mono ?_
  rintro e w' ⟨hb, ⟨hn', rfl⟩ | ⟨hy, rfl⟩⟩
  · refine ⟨?_, hb⟩
    unfold Sg.extPk Sg.extHd Sg.extErr
    rw [if_neg hn', if_neg hn', if_neg hn']
  · refine ⟨?_, hb⟩
    unfold Sg.extPk Sg.extHd Sg.extErr Sg.opened
    rw [if_pos hy, if_pos hy, if_pos hy, if_pos hy]
theorem ext_cases (t : ByteArray) (p : List Sg.Ent) : (Sg.openErr t = 0 ∧ Sg.extPk t p = Sg.package (Sg.plus (Sg.opened t) p) ∧ Sg.extHd t p = Sg.headOf (Sg.plus (Sg.opened t) p) ∧ Sg.extErr t p = Sg.closeErr (Sg.plus (Sg.opened t) p) ∧ Sg.inBounds (Sg.opened t) = true) ∨ (Sg.openErr t = 5 ∧ Sg.extPk t p = ByteArray.empty ∧ Sg.extHd t p = ByteArray.empty ∧ Sg.extErr t p = 5) := by
  by_cases hy : Sg.isPk (Sg.pdHist (Sg.tx t)) t
  · refine Or.inl ⟨by unfold Sg.openErr; rw [if_pos hy], by unfold Sg.extPk; rw [if_pos hy], by unfold Sg.extHd; rw [if_pos hy], by unfold Sg.extErr; rw [if_pos hy], ?_⟩
    unfold Sg.opened
    rw [if_pos hy]
    have hc := hy.1
    cases hb : Sg.inBounds (Sg.pdHist (Sg.tx t)) with
    | true => rfl
    | false => unfold Sg.closeErr at hc; rw [hb] at hc; simp at hc
  · exact Or.inr ⟨by unfold Sg.openErr; rw [if_neg hy], by unfold Sg.extPk; rw [if_neg hy], by unfold Sg.extHd; rw [if_neg hy], by unfold Sg.extErr; rw [if_neg hy]⟩
/-- What stands: the period's box, what is handed in, what is kept. -/
structure ExI (w w1 wx : World) (v0 vX vL vM : Value) : Prop where
  bel0 : Below w.heap.size w w1
  bel : Below w1.heap.size w1 wx
  pb : wx.heap[w.heap.size]? = some (.cells #[v0] 24 (0, 0))
  ab : wx.heap[w1.heap.size]? = some (.cells #[vX] 24 (0, 0))
  kb : Two wx (w1.heap.size + 1) vL vM 27
theorem ExI.below {w w1 wx w' : World} {v0 vX vL vM : Value} (m : ExI w w1 wx v0 vX vL vM) (h : Below wx.heap.size wx w') : ExI w w1 w' v0 vX vL vM :=
  ⟨m.bel0, m.bel.trans (h.mono m.bel.size), (h.block _ (lt_of_block m.pb)).trans m.pb, (h.block _ (lt_of_block m.ab)).trans m.ab, m.kb.below h⟩
theorem ExI.all {w w1 wx : World} {v0 vX vL vM : Value} (m : ExI w w1 wx v0 vX vL vM) : Below w.heap.size w wx := m.bel0.trans (m.bel.mono m.bel0.size)
theorem ExI.cells {w w1 wx : World} {v0 vX vL vM : Value} (m : ExI w w1 wx v0 vX vL vM) : wx.cell? ⟨w.heap.size, 0, none⟩ = some v0 ∧ wx.cell? ⟨w1.heap.size, 0, none⟩ = some vX ∧ wx.frozen? ⟨w1.heap.size, 0, none⟩ = false ∧ wx.cell? ⟨w1.heap.size + 1, 0, none⟩ = some vL ∧ wx.cell? ⟨w1.heap.size + 1, 1, none⟩ = some vM := by
  refine ⟨?_, ?_, ?_, m.kb.cells.1, m.kb.cells.2⟩
  · rw [cell_of_row wx _ _ _ _ _ m.pb]; rfl
  · rw [cell_of_row wx _ _ _ _ _ m.ab]; rfl
  · simp [World.frozen?, m.ab]
theorem ExI.nil {w w1 wx : World} {v0 vX vL vM u : Value} (m : ExI w w1 wx v0 vX vL vM) (h0 : w.heap.size < w1.heap.size) : ExI w w1 (wx.setCell ⟨w1.heap.size, 0, none⟩ u) v0 u vL vM := by
  refine ⟨m.bel0, m.bel.setCell (Nat.le_refl _) _, ?_, heap_setCell_same wx _ 0 _ _ u m.ab, ?_⟩
  · exact (heap_setCell_other wx ⟨w1.heap.size, 0, none⟩ w.heap.size u (by show w.heap.size ≠ w1.heap.size; omega)).trans m.pb
  · exact (heap_setCell_other wx ⟨w1.heap.size, 0, none⟩ (w1.heap.size + 1) u (by show w1.heap.size + 1 ≠ w1.heap.size; omega)).trans m.kb

set_option maxHeartbeats 3200000 in
theorem extends_any (t : ByteArray) (es : List Sg.Ent) (ao : Option Addr) (n cap : Nat) (w : World) (ht : t.size ≤ 140737488355328) (hE : EntsIn w ao es) (hn : es.length = n) (hmax : n ≤ 3518437208883) (hpp : ∀ e ∈ es, e.posts.length ≤ 8796093022207) (hp : PerSizes es) :
    Calls Tryz.prog 3 #[.string t, .agg #[.slice ao n cap]] w fun e w' => e = .returned (.bool true) ∧ Below w.heap.size w w' := by
  obtain ⟨p0, pi, pz0, pz1, pz2⟩ := info_parts Tryz.infoPer1
  have hq := fun (w : World) (a : Option Addr) (n c : Nat) => Lib.run_eql_slice_nil (P := Tryz.prog) w 22 55 a n c 0 0 Tryz.underlying22
  have HE : Hid (EntsIn w ao es) := hE
  have HN : Hid (es.length = n) := hn
  have HQ : Hid (∀ e ∈ es, e.posts.length ≤ 8796093022207) := hpp
  have HP : Hid (PerSizes es) := hp
  clear hE hn hpp hp
  have a0 : Below w.heap.size w (w.alloc (.cells #[.slice ao n cap] 24)) := (Below.refl _ _).alloc (Nat.le_refl _) _
  have hc0 := spare_any es ao n cap (w.alloc (.cells #[.slice ao n cap] 24)) HN.out hmax (HE.out.below a0) HQ.out
  have hpb : (w.alloc (.cells #[.slice ao n cap] 24)).heap[w.heap.size]? = some (.cells #[.slice ao n cap] 24 (0, 0)) := heap_alloc_new w _
  go_enter Tryz.func3, Tryz.ntmps3
  go_wp2_with fail
  refine hc0.mono ?_
  clear hc0
  rintro e w1 ⟨g, aoM, capM, rfl, hsp, hb1⟩
  have hw1 : w.heap.size < w1.heap.size := Nat.lt_of_lt_of_le (lt_of_block hpb) hb1.size
  have aB : Below w1.heap.size w1 ((w1.alloc (.cells #[.slice (some ⟨g, 0, none⟩) n (n + 2)] 24)).alloc (.cells #[.slice (some ⟨g, 0, none⟩) (n + 2) (n + 2), .slice aoM n capM] 27)) := ((Below.refl _ _).alloc (Nat.le_refl _) _).alloc (by simp) _
  have HX : Hid (ExI w w1 ((w1.alloc (.cells #[.slice (some ⟨g, 0, none⟩) n (n + 2)] 24)).alloc (.cells #[.slice (some ⟨g, 0, none⟩) (n + 2) (n + 2), .slice aoM n capM] 27)) (.slice ao n cap) (.slice (some ⟨g, 0, none⟩) n (n + 2)) (.slice (some ⟨g, 0, none⟩) (n + 2) (n + 2)) (.slice aoM n capM)) := by
    refine ⟨a0.trans (hb1.mono a0.size), aB, ?_, ?_, ?_⟩
    · exact (aB.block _ hw1).trans ((hb1.block _ (lt_of_block hpb)).trans hpb)
    · rw [Below.heap_alloc _ _ _ (by simp)]; exact heap_alloc_new w1 _
    · have := heap_alloc_new (w1.alloc (.cells #[.slice (some ⟨g, 0, none⟩) n (n + 2)] 24)) (.cells #[.slice (some ⟨g, 0, none⟩) (n + 2) (n + 2), .slice aoM n capM] 27)
      show _ = _
      simpa using this
  have HS : Hid (Spared w1 (w.alloc (.cells #[.slice ao n cap] 24)).heap.size g n aoM es) := hsp
  clear hsp hb1 aB a0 hpb
  have HS2 : Hid (EntsIn ((w1.alloc (.cells #[.slice (some ⟨g, 0, none⟩) n (n + 2)] 24)).alloc (.cells #[.slice (some ⟨g, 0, none⟩) (n + 2) (n + 2), .slice aoM n capM] 27)) (some ⟨g, 0, none⟩) es) := (HS.out.below HX.out.bel).ents
  obtain ⟨x0, xA, xF, xL, xM⟩ := HX.out.cells
  go_upto_if 23 with fail
  generalize (w1.alloc (.cells #[.slice (some ⟨g, 0, none⟩) n (n + 2)] 24)).alloc (.cells #[.slice (some ⟨g, 0, none⟩) (n + 2) (n + 2), .slice aoM n capM] 27) = W2 at *
  go_cut [] from 24 to 24 (fun wx => ∃ aoX capX, Hid (ExI w w1 wx (.slice ao n cap) (.slice aoX n capX) (.slice (some ⟨g, 0, none⟩) (n + 2) (n + 2)) (.slice aoM n capM)) ∧ Hid (EntsIn wx aoX es))
  case first =>
    rcases ao with _ | q
    · have h0 : es.length = 0 := by
        rcases HE.out with h | ⟨b, o, e, _⟩
        · exact h
        · simp at e
      have hn0 : n = 0 := by rw [← HN.out]; exact h0
      have H0 : Hid (es.length = 0) := h0
      clear h0
      subst hn0
      go_wp2_with fail
      go_meet
      exact ⟨none, 0, HX.out.nil hw1, Or.inl H0.out⟩
    · go_wp2_with fail
      go_meet
      exact ⟨_, _, HX, HS2⟩
  case rest =>
    obtain ⟨aoX, capX, HX3, HEX⟩ := hcut
    obtain ⟨v3, ev3⟩ : ∃ z : World, z = wc := ⟨_, rfl⟩
    subst ev3
    clear HX HS2 x0 xA xF xL xM
    obtain ⟨x0, xA, xF, xL, xM⟩ := HX3.out.cells
    have c1 := ext_all t es aoX n capX v3 HEX.out HN.out HP.out
    have c2 := fun W => open_all t W ht
    have hcs := ext_cases t es
    generalize Sg.extPk t es = pk at c1 hcs
    generalize Sg.extHd t es = hd at c1 hcs
    generalize Sg.extErr t es = er at c1 hcs
    generalize Sg.opened t = h at c2 hcs
    generalize Sg.openErr t = ee at c2 hcs
    obtain ⟨nA, hnA⟩ : ∃ k, h.accs.length = k := ⟨_, rfl⟩
    obtain ⟨nP, hnP⟩ : ∃ k, h.pers.length = k := ⟨_, rfl⟩
    rw [hnA, hnP] at c2
    have HL : Hid (h.accs.length = nA ∧ h.pers.length = nP) := ⟨hnA, hnP⟩
    have HCS : Hid _ := hcs
    clear hnA hnP hcs
    go_wp2_with fail
    refine c1.mono ?_
    clear c1
    rintro e w4 ⟨rfl, hb4⟩
    have HX4 : Hid (ExI w w1 w4 (.slice ao n cap) (.slice aoX n capX) (.slice (some ⟨g, 0, none⟩) (n + 2) (n + 2)) (.slice aoM n capM)) := HX3.out.below hb4
    clear HX3 HEX hb4 x0 xA xF xL xM
    go_wp2_with fail
    refine (c2 _).mono ?_
    clear c2
    rintro e w5 ⟨aoA, capA, aoP, capP, vB, vT, rfl, ⟨x1, x2, x3, rfl⟩, ⟨x4, x5, x6, rfl⟩, HO, hb5⟩
    have aC : Below w5.heap.size w5 (w5.alloc (.cells #[.slice aoA nA capA, .slice aoP nP capP, .slice x1 x2 x3, .slice x4 x5 x6] 39)) := (Below.refl _ _).alloc (Nat.le_refl _) _
    have hK : (w5.alloc (.cells #[.slice aoA nA capA, .slice aoP nP capP, .slice x1 x2 x3, .slice x4 x5 x6] 39)).heap[w5.heap.size]? = some (.cells #[.slice aoA nA capA, .slice aoP nP capP, .slice x1 x2 x3, .slice x4 x5 x6] 39 (0, 0)) := heap_alloc_new w5 _
    have HX5 : Hid (ExI w w1 (w5.alloc (.cells #[.slice aoA nA capA, .slice aoP nP capP, .slice x1 x2 x3, .slice x4 x5 x6] 39)) (.slice ao n cap) (.slice aoX n capX) (.slice (some ⟨g, 0, none⟩) (n + 2) (n + 2)) (.slice aoM n capM)) := HX4.out.below (hb5.trans (aC.mono hb5.size))
    have HO5 : Hid (HistIn (w5.alloc (.cells #[.slice aoA nA capA, .slice aoP nP capP, .slice x1 x2 x3, .slice x4 x5 x6] 39)) aoA aoP nA nP h) := HO.out.1.below aC
    clear HX4 HO hb5 aC
    obtain ⟨⟨d0, d1, _, _⟩, _, _, _, _⟩ := four_cells hK
    obtain ⟨x0, _, _, xL, xM⟩ := HX5.out.cells
    go_upto_if 38 with fail
    generalize w5.alloc (.cells #[.slice aoA nA capA, .slice aoP nP capP, .slice x1 x2 x3, .slice x4 x5 x6] 39) = W6 at *
    go_cut [11, 12, 13, 14] from 39 to 53 (fun f c s _ wx => f = .int .i64 er ∧ c = .string pk ∧ s = .string hd ∧ Hid (ExI w w1 wx (.slice ao n cap) (.slice aoX n capX) (.slice (some ⟨g, 0, none⟩) (n + 2) (n + 2)) (.slice aoM n capM)))
    case first =>
      rcases HCS.out with ⟨rfl, hpk, hhd, her, hi⟩ | ⟨rfl, rfl, rfl, rfl⟩
      · have hn6 : nP ≤ 6 := by
          have hi' := hi
          unfold Sg.inBounds at hi'
          simp only [Bool.and_eq_true, decide_eq_true_eq] at hi'
          have := HL.out.2
          omega
        have HI : Hid (Sg.inBounds h = true) := hi
        have HPk : Hid (pk = Sg.package (Sg.plus h es) ∧ hd = Sg.headOf (Sg.plus h es) ∧ er = Sg.closeErr (Sg.plus h es)) := ⟨hpk, hhd, her⟩
        clear hi hpk hhd her
        go_wp2_with fail
        refine (history_any h aoA aoP nA nP capA capP W6 HO5.out HI.out).mono ?_
        rintro e w7 ⟨vA, vP, rfl, hoA, hoP, hb7⟩
        obtain ⟨aoB, capB, eB, _, _, iA⟩ := hoA.in_
        obtain ⟨aoQ, capQ, eQ, _, iP⟩ := hoP.in_
        rw [HL.out.1] at eB
        rw [HL.out.2] at eQ
        subst eB eQ
        have hH7 : HistIn w7 aoB aoQ nA nP h := ⟨iA, iP, HO5.out.lenA, HO5.out.lenP, HO5.out.sizA, HO5.out.sizP, HO5.out.sizQ⟩
        obtain ⟨us, hul, hrow, hus⟩ := hoP
        rw [HL.out.2] at hrow
        have HX7 : Hid (ExI w w1 w7 (.slice ao n cap) (.slice aoX n capX) (.slice (some ⟨g, 0, none⟩) (n + 2) (n + 2)) (.slice aoM n capM)) := HX5.out.below hb7
        have aD : Below w7.heap.size w7 ((w7.alloc (.cells #[.slice aoB nA capB, .slice aoQ nP capQ] 36)).alloc (.cells #[.slice ao n cap] 24)) := ((Below.refl _ _).alloc (Nat.le_refl _) _).alloc (by simp) _
        have hbox : Two ((w7.alloc (.cells #[.slice aoB nA capB, .slice aoQ nP capQ] 36)).alloc (.cells #[.slice ao n cap] 24)) w7.heap.size (.slice aoB nA capB) (.slice aoQ nP capQ) 36 := (Two.new w7 _ _ _).below ((Below.refl _ _).alloc (Nat.le_refl _) _)
        have HA : Hid (OwnA ((w7.alloc (.cells #[.slice aoB nA capB, .slice aoQ nP capQ] 36)).alloc (.cells #[.slice ao n cap] 24)) W6.heap.size (.slice aoB nA capB) h.accs) := hoA.below aD
        have HUs : Hid (∀ i (h1 : i < h.pers.length) (h2 : i < us.length), OwnE ((w7.alloc (.cells #[.slice aoB nA capB, .slice aoQ nP capQ] 36)).alloc (.cells #[.slice ao n cap] 24)) W6.heap.size us[i] h.pers[i]) := fun i k1 k2 => (hus i k1 k2).below aD
        have HUL : Hid (us.length = h.pers.length) := hul
        have HH7 : Hid (HistIn w7 aoB aoQ nA nP h) := hH7
        have hs7 : W6.heap.size ≤ w7.heap.size := hb7.size
        have hs7w : w.heap.size < w7.heap.size := lt_of_block HX7.out.pb
        clear hoA hus hul hH7 x0 xL xM d0 d1 iA iP
        obtain ⟨x0, _, _, _, _⟩ := HX7.out.cells
        go_wp2_with (at_builtin; (refine wpList_append_lies _ rfl _ _ 34 rfl W6.heap.size 24 p0 (.agg #[.slice none 0 0]) 1 24 Tryz.underlying34 pi pz0 pz1 pz2 rfl (by decide) (.slice aoQ nP capQ) nP us rfl ((hrow.alloc _).alloc _) ⟨w7.heap.size + 1, 0, none⟩ 1 1 [.slice ao n cap] rfl rfl (World.news_of_block (cs := #[.slice ao n cap]) (t := 24) (fr := (0, 0)) (new_block2 w7 _ _ _)) (by intro u hu; simp at hu; subst hu; rfl) (by omega) (by unfold maxLen; omega) (by omega) (by simp; omega) (w7.heap.size + 2) (by simp) ?_))
        intro g1 cap1 w9 hown9 hgrow _ hlt9
        have b68 := hb7.trans (aD.mono hb7.size)
        have b69 : Below W6.heap.size W6 w9 := b68.grown hgrow b68.size (fun q hq => by have := (World.ownsRow.lt hrow q hq).1; omega)
        have b6A : Below W6.heap.size W6 (w9.setCell ⟨w7.heap.size, 1, none⟩ (.slice (some ⟨g1, 0, none⟩) (nP + 1) cap1)) := b69.setCell (by show _ ≤ w7.heap.size; omega) _
        have HXA : Hid (ExI w w1 (w9.setCell ⟨w7.heap.size, 1, none⟩ (.slice (some ⟨g1, 0, none⟩) (nP + 1) cap1)) (.slice ao n cap) (.slice aoX n capX) (.slice (some ⟨g, 0, none⟩) (n + 2) (n + 2)) (.slice aoM n capM)) := HX5.out.below b6A
        obtain ⟨box9, hH9⟩ := ext_hist (p := es) (capX := cap) (aoX := ao) HH7.out HA.out HUL.out ((hrow.alloc _).alloc _) HUs.out hbox hgrow (by rw [HN.out]; exact hown9) (HE.out.below HXA.out.all) HP.out
        obtain ⟨by0, by1⟩ := box9.cells
        have bf1 := (two_fz box9).2
        have hcall := refSeal_any (Sg.plus h es) aoB (some ⟨g1, 0, none⟩) nA (nP + 1) capB cap1 _ hH9
        clear hown9 hgrow hrow hbox hH9 HA HUs HH7 HUL b68 b69 b6A x0 box9 aD hb7 HX7 HX5 HO5
        rw [← HPk.out.1, ← HPk.out.2.1, ← HPk.out.2.2] at hcall
        go_wp2_with fail
        refine hcall.mono ?_
        clear hcall
        rintro e wB ⟨rfl, hbB⟩
        have HXB : Hid (ExI w w1 wB (.slice ao n cap) (.slice aoX n capX) (.slice (some ⟨g, 0, none⟩) (n + 2) (n + 2)) (.slice aoM n capM)) := HXA.out.below hbB
        clear HXA hbB by0 by1 bf1
        go_wp2_with fail
        go_meet
        exact ⟨rfl, rfl, rfl, HXB⟩
      · go_wp2_with fail
        go_meet
        exact ⟨rfl, rfl, rfl, HX5⟩
    case rest =>
      obtain ⟨ef, ec, es1, HXC⟩ := hcut
      subst ef ec es1
      obtain ⟨vC, evC⟩ : ∃ z : World, z = wc := ⟨_, rfl⟩
      subst evC
      clear HX5 HO5 x0 xL xM d0 d1 hK HCS HL
      obtain ⟨x0, _, _, xL, xM⟩ := HXC.out.cells
      have hS := HS.out.below HXC.out.bel
      have hcall := asItWas_any es g (n + 2) aoM ao n capM cap vC HN.out (by omega) (Nat.le_refl _) hS.lt hS.ents hS.behind hS.kept (HE.out.below HXC.out.all) (fun e he => by have := HQ.out e he; omega)
      have ball := HXC.out.all
      clear hS
      go_wp2_with fail
      refine hcall.mono ?_
      clear hcall
      rintro e wD ⟨rfl, hbD⟩
      have bD := ball.trans (hbD.mono ball.size)
      clear hbD ball HXC x0 xL xM
      go_wp2_with fail
      go_ret
      exact ⟨rfl, bD⟩
end Go.Proofs.YtpkkhkkkgjhkeaaGreat
