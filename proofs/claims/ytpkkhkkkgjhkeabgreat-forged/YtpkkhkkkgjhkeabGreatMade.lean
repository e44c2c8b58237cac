import Derived.Test.YtpkkhkkkgjhkeabGreatMadeInv
/-
  THE WALK of signetkeep.made.
-/
namespace Go.Proofs.YtpkkhkkkgjhkeabGreat
open Go.RowKit
set_option maxRecDepth 100000
attribute [local go_sem ↓] Go.wp_at_zero Go.wp_at_succ

set_option maxHeartbeats 6400000 in
/-- made. -/
theorem made_any (c each : Int) (rs : List Raw) (ao : Option Addr) (nr cap : Nat) (w : World) (hc : -9223372036854775808 ≤ c ∧ c ≤ 9223372036854775807) (he : -9223372036854775808 ≤ each ∧ each ≤ 9223372036854775807) (hl : rs.length = nr) (hnr : nr ≤ 4611686018427387904) (hR : RawsIn w ao rs) (hf : ∀ r ∈ rs, rawFits r) :
    Calls Tryz.prog 5 #[.int .i64 c, .slice ao nr cap, .int .i64 each] w fun e w' => ∃ vA vP, e = .returned (.agg #[vA, vP]) ∧ MadeRes w w' vA vP := by
  obtain ⟨p0, pi, pz0, pz1, pz2⟩ := info_parts Tryz.infoPer1
  obtain ⟨q0, qi, qz0, qz1, qz2⟩ := info_parts Tryz.infoEnt2
  have HN : Hid (rs.length = nr) := hl
  have HR : Hid (RawsIn w ao rs) := hR
  have HF : Hid (∀ r ∈ rs, rawFits r) := hf
  clear hl hR hf
  go_enter Tryz.func5, Tryz.ntmps5
  go_wp2_with fail
  refine (keepChart_any c _ hc).mono ?_
  rintro e w1 ⟨vA, ac, rfl, HA, hCh, hlA, hb1⟩
  have e0 : (w.alloc (.cells #[.slice none 0 0, .slice none 0 0] 26)).heap.size = w.heap.size + 1 := by simp
  rw [e0] at HA
  obtain ⟨aoA, capA, hvA, hlc, hcm, _⟩ := HA.out.in_
  obtain ⟨nA, hnA⟩ : ∃ nA, ac.length = nA := ⟨_, rfl⟩
  rw [hnA] at hvA hlA hlc
  subst hvA
  have R1 : Two w1 w.heap.size (.slice none 0 0) (.slice none 0 0) 26 := (Two.new w _ _ _).below hb1
  have hb01 : Below w.heap.size w w1 := ((Below.refl _ _).alloc (Nat.le_refl _) _).trans (hb1.mono (by simp))
  have HNA : Hid (ac.length = nA) := hnA
  have HCh : Hid (ChartTo ac) := hCh
  have hw1 : w.heap.size < w1.heap.size := lt_of_block R1
  clear hb1 e0 hnA hCh hcm
  go_wp2_with fail
  refine (pick_any each 12 _ he (by omega) (by omega)).mono ?_
  rintro e w2 ⟨j, rfl, hj, hw⟩
  subst hw
  obtain ⟨n, hn⟩ : ∃ n : Nat, n = 1 + j := ⟨_, rfl⟩
  have hwn : IntKind.i64.wrap (1 + (j : Int)) = (n : Int) := by rw [IntWalk.i64_in _ (by omega)]; omega
  have hn1 : 1 ≤ n := by omega
  have hn12 : n ≤ 12 := by omega
  clear hn hj
  have aB : Below w1.heap.size w1 (w1.alloc (.cells #[.slice aoA nA capA, .slice none 0 0] 26)) := (Below.refl _ _).alloc (Nat.le_refl _) _
  have HI0 : Hid (MdInv w (w1.alloc (.cells #[.slice aoA nA capA, .slice none 0 0] 26)) w1.heap.size (.slice aoA nA capA) (.slice none 0 0) ac [] nA) :=
    ⟨hb01.trans (aB.mono hb01.size), R1.below aB, Two.new _ _ _ _, HA.out.below aB, OwnPs.nil _ _, fun p hp => absurd hp (by simp)⟩
  clear aB R1 hb01 HA
  go_wp2_with fail
  go_loopw [9, 10] (fun o i wr => ∃ k q : Nat, k ≤ 6 ∧ i = .int .i64 (k : Int) ∧ o = .int .i64 (q : Int) ∧ q ≤ nr ∧ ∃ vP ps, Hid (MdInv w wr w1.heap.size (.slice aoA nA capA) vP ac ps nA) ∧ ps.length = k ∧ (k = 0 → q = 0)) (fun _ i _ => 6 - (intOf i).toNat)
  case atStart => exact ⟨0, 0, by omega, rfl, rfl, by omega, _, _, HI0, rfl, fun _ => rfl⟩
  case round =>
    obtain ⟨k, q, hk, rfl, rfl, hq, vP, ps, HI, hpl, hk0⟩ := hrel
    obtain ⟨wz, ewz⟩ : ∃ z : World, z = wr := ⟨_, rfl⟩
    subst ewz
    clear HI0
    obtain ⟨aoP, capP, hvP, hpc, _⟩ := HI.out.pers.in_
    rw [hpl] at hvP hpc
    subst hvP
    obtain ⟨hsw, hsb⟩ := HI.out.size
    by_cases hgo : k < 6 ∧ (k = 0 ∨ q < nr)
    · have g1 : (k : Int) < 6 := by omega
      have hcond : ((k : Int) == 0) = true ∨ (((k : Int) == 0) = false ∧ (q : Int) < (nr : Int)) := by
        by_cases h0 : k = 0
        · left; simp [h0]
        · right
          refine ⟨by simp; exact h0, ?_⟩
          rcases hgo.2 with h | h
          · exact absurd h h0
          · omega
      have HI1 := HI
      have HP1 : Hid (PeInv wz (wz.alloc (.cells #[.slice none 0 0] 42)) (.slice none 0 0) [] nA) := PeInv.start wz nA
      have hk6 : k < 6 := hgo.1
      clear hgo HI
      rcases hcond with c1 | ⟨c1, c2⟩
      all_goals
        go_wp2_with fail
        go_loopw [9, 12] (fun o i wr => ∃ q' r : Nat, o = .int .i64 (q' : Int) ∧ i = .int .i64 (r : Int) ∧ r ≤ n ∧ q' ≤ nr ∧ ∃ vE es, Hid (PeInv wz wr vE es nA) ∧ es.length = r) (fun _ i _ => n - (intOf i).toNat)
        case atStart => exact ⟨q, 0, rfl, rfl, by omega, hq, _, _, HP1, rfl⟩
        case round =>
          obtain ⟨q', r, rfl, rfl, hr, hq', vE, es, HP, hel⟩ := hrel
          obtain ⟨wy, ewy⟩ : ∃ z : World, z = wr := ⟨_, rfl⟩
          subst ewy
          have hbzy := HP.out.bel
          have hszy := hbzy.size
          have HJ : Hid (MdInv w wy w1.heap.size (.slice aoA nA capA) (.slice aoP k capP) ac ps nA) := HI1.out.below hbzy
          obtain ⟨aoE, capE, hvE, hec, _, _⟩ := HP.out.ents.in_
          rw [hel] at hvE hec
          subst hvE
          obtain ⟨hsw2, hsb2⟩ := HJ.out.size
          have hpb : wz.heap.size < wy.heap.size := lt_of_block HP.out.box
          obtain ⟨bx0, bx1⟩ := HJ.out.box.cells
          have px0 : wy.cell? ⟨wz.heap.size, 0, none⟩ = some (.slice aoE r capE) := by rw [cell_of_row wy _ 0 _ _ _ HP.out.box]; rfl
          clear HP1
          by_cases hgo2 : r < n ∧ q' < nr
          · have g2 : (r : Int) < (n : Int) := by omega
            have g3 : (q' : Int) < (nr : Int) := by omega
            have hqr : q' < rs.length := by rw [HN.out]; omega
            obtain ⟨rw_, hrw⟩ : ∃ x, x = rs[q'] := ⟨_, rfl⟩
            have HFr : Hid (rawFits rw_) := by rw [hrw]; exact HF.out _ (List.getElem_mem _)
            rcases HR.out with h0 | ⟨bR, offR, haR, hbR, hatR⟩
            · omega
            subst haR
            obtain ⟨t0, t1, t2, t3, t4⟩ := hatR q' hqr
            have hwwy := HJ.out.bel
            rw [← hrw, ← hwwy.cell (p := ⟨bR, offR + q' * 5, none⟩) hbR] at t0
            rw [← hrw, ← hwwy.cell (p := ⟨bR, offR + q' * 5 + 1, none⟩) hbR] at t1
            rw [← hrw, ← hwwy.cell (p := ⟨bR, offR + q' * 5 + 2, none⟩) hbR] at t2
            rw [← hrw, ← hwwy.cell (p := ⟨bR, offR + q' * 5 + 3, none⟩) hbR] at t3
            rw [← hrw, ← hwwy.cell (p := ⟨bR, offR + q' * 5 + 4, none⟩) hbR] at t4
            have hbRy : bR < wy.heap.size := Nat.lt_trans hbR hsw2
            clear hrw hgo2 hwwy hatR hpc hec hlc
            have f1 : -9223372036854775808 ≤ rw_.a ∧ rw_.a ≤ 9223372036854775807 := by have := HFr.out.2.1; simp [Sg.fits] at this; omega
            have f2 : -9223372036854775808 ≤ rw_.b ∧ rw_.b ≤ 9223372036854775807 := by have := HFr.out.2.2.1; simp [Sg.fits] at this; omega
            have f3 : -9223372036854775808 ≤ rw_.c ∧ rw_.c ≤ 9223372036854775807 := by have := HFr.out.2.2.2; simp [Sg.fits] at this; omega
            go_wp2_with fail
            go_region_law (rw [if_pos (by simp [Region.wanted])]; go_simp; go_at_call 15; refine (keepEntry_any _ _ _ _ _ nA _ f1 f2 f3 HFr.out.1 (by omega) (by omega)).mono ?_; rintro e w2 ⟨mm, pv, pp, rfl, HOp, hEf, hb2⟩; obtain ⟨aoX, nX, capX, hX⟩ := OwnP.shape HOp.out; subst hX; first | (have heb := ebox (b := wy.heap.size) hb2 (heap_alloc_new wy _); obtain ⟨eb, ec0, ec1, ef0, ef1⟩ := heb) | skip)
            all_goals first
              | (have HE3 : Hid (EAt wy (w2.alloc (.cells #[.string mm, .slice aoX nX capX] 45)) w2.heap.size mm (.slice aoX nX capX) pp) := EAt.late (((Below.refl _ _).drew).trans hb2) HOp.out (by simp <;> omega)
                 generalize w2.alloc (.cells #[.string mm, .slice aoX nX capX] 45) = w3 at *)
              | (have HE3 : Hid (EAt wy ((w2.setCell ⟨wy.heap.size, 0, none⟩ (.string mm)).setCell ⟨wy.heap.size, 1, none⟩ (.slice aoX nX capX)) wy.heap.size mm (.slice aoX nX capX) pp) := EAt.early ((((Below.refl _ _).alloc (Nat.le_refl _) _).drew).trans (hb2.mono (by simp))) HOp.out (by simp <;> omega) eb
                 generalize (w2.setCell ⟨wy.heap.size, 0, none⟩ (.string mm)).setCell ⟨wy.heap.size, 1, none⟩ (.slice aoX nX capX) = w3 at *)
            all_goals
              have HP3 : Hid (PeInv wz w3 (.slice aoE r capE) es nA) := HP.out.below HE3.out.bel
              have sz3 := HE3.out.bel.size
              have px3 : w3.cell? ⟨wz.heap.size, 0, none⟩ = some (.slice aoE r capE) := by rw [cell_of_row w3 _ 0 _ _ _ HP3.out.box]; rfl
              have x0 := HE3.out.c0
              have x1 := HE3.out.c1
              obtain ⟨us, hul, hrow, hus⟩ := HP3.out.ents
              have hrl := hrow.lt
              have hrowW : w3.ownsRow (wz.heap.size + 1) 45 2 (.slice aoE r capE) r (eCells es us) := by rw [hel] at hrow; exact hrow
              clear t0 t1 t2 t3 t4 px0 bx0 bx1 hb2 HOp
              go_wp2_with (at_builtin; (refine wpList_append_lies _ rfl _ _ 40 rfl (wz.heap.size + 1) 45 q0 (.agg #[.string ByteArray.empty, .slice none 0 0]) 2 40 Tryz.underlying40 qi qz0 qz1 qz2 rfl (by decide) (.slice aoE r capE) r (eCells es us) rfl (hrowW.alloc _) ⟨w3.heap.size, 0, none⟩ 1 1 [.string mm, .slice aoX nX capX] rfl rfl (World.news_of_block (cs := #[.string mm, .slice aoX nX capX]) (t := 45) (fr := (0, 0)) (heap_alloc_new w3 _)) (by intro u hu; simp at hu; rcases hu with rfl | rfl <;> rfl) (by omega) (by unfold maxLen; omega) (by omega) (by simp; omega) (w3.heap.size + 1) (by simp) ?_))
              intro g cap' w5 hown5 hgrow _ hlt5
              have aY : Below w3.heap.size w3 (w3.alloc (.cells #[.string mm, .slice aoX nX capX] 45)) := (Below.refl _ _).alloc (Nat.le_refl _) _
              obtain ⟨box5, M6⟩ := (HP3.out.below aY).push (g := g) (cap' := cap') (e := ⟨mm, pp⟩) hul (by rw [hel]; exact hrowW.alloc _) (fun i h h2 => ownsRow_below (hus i h h2) aY) (ownsRow_below (ownsRow_mono HE3.out.own (by omega)) aY) hEf hgrow (by rw [hel]; exact hown5)
              rw [hel] at M6
              have by0 : w5.cell? ⟨wz.heap.size, 0, none⟩ = some (.slice aoE r capE) := by rw [cell_of_row w5 _ 0 _ _ _ box5]; rfl
              have bf0 : w5.frozen? ⟨wz.heap.size, 0, none⟩ = false := by simp [World.frozen?, box5]
              have HM6 : Hid (PeInv wz (w5.setCell ⟨wz.heap.size, 0, none⟩ (.slice (some ⟨g, 0, none⟩) (r + 1) cap')) (.slice (some ⟨g, 0, none⟩) (r + 1) cap') (es ++ [⟨mm, pp⟩]) nA) := M6
              have HEL : Hid ((es ++ [(⟨mm, pp⟩ : Sg.Ent)]).length = r + 1) := by show _ = _; simp [hel]
              clear M6 hgrow hown5 aY box5 hrow hus hul hrowW px3 x0 x1
              go_wp2_with fail
              go_roundw
              case rel => exact ⟨q' + 1, r + 1, by go_num, by go_num, by omega, by omega, _, _, HM6, HEL.out⟩
              case measure => simp [intOf]; omega
          · have hcond2 : ¬ (r : Int) < (n : Int) ∨ ((r : Int) < (n : Int) ∧ ¬ (q' : Int) < (nr : Int)) := by omega
            obtain ⟨us, hul, hrow, hus⟩ := HJ.out.pers
            have hrl := hrow.lt
            have hrowW : wy.ownsRow (w.heap.size + 1) 42 1 (.slice aoP k capP) k us := by rw [← hpl]; rw [hpl]; rw [hpl] at hrow; exact hrow
            have HRow := HJ
            rcases hcond2 with d1 | ⟨d1, d2⟩
            all_goals
              go_wp2_with (at_builtin; (refine wpList_append_lies _ rfl _ _ 24 rfl (w.heap.size + 1) 42 p0 (.agg #[.slice none 0 0]) 1 24 Tryz.underlying24 pi pz0 pz1 pz2 rfl (by decide) (.slice aoP k capP) k us rfl (hrowW.alloc _) ⟨wy.heap.size, 0, none⟩ 1 1 [.slice aoE r capE] rfl rfl (World.news_of_block (cs := #[.slice aoE r capE]) (t := 42) (fr := (0, 0)) (heap_alloc_new wy _)) (by intro u hu; simp at hu; subst hu; rfl) (by omega) (by unfold maxLen; omega) (by omega) (by simp; omega) (wy.heap.size + 1) (by simp) ?_))
              intro g cap' w5 hown5 hgrow _ hlt5
              have aY : Below wy.heap.size wy (wy.alloc (.cells #[.slice aoE r capE] 42)) := (Below.refl _ _).alloc (Nat.le_refl _) _
              obtain ⟨box5, M6⟩ := (HJ.out.below aY).push (g := g) (cap' := cap') hw1 hul (by rw [hpl]; exact hrowW.alloc _) (fun i h h2 => (hus i h h2).below aY) ((HP.out.ents.mono (by omega)).below aY) (by omega) HP.out.fine hgrow (by rw [hpl]; exact hown5)
              rw [hpl] at M6
              obtain ⟨by0, by1⟩ := box5.cells
              have bf1 : w5.frozen? ⟨w1.heap.size, 1, none⟩ = false := by have := box5; unfold Two at this; simp [World.frozen?, this]
              have HM6 : Hid (MdInv w (w5.setCell ⟨w1.heap.size, 1, none⟩ (.slice (some ⟨g, 0, none⟩) (k + 1) cap')) w1.heap.size (.slice aoA nA capA) (.slice (some ⟨g, 0, none⟩) (k + 1) cap') ac (ps ++ [es]) nA) := M6
              have hpl6 : (ps ++ [es]).length = k + 1 := by simp [hpl]
              have HPL : Hid ((ps ++ [es]).length = k + 1) := hpl6
              clear M6 hgrow hown5 aY box5 hpl6 hrow hus hul hrowW HRow HJ
              go_wp2_with fail
              go_roundw
              case rel => exact ⟨k + 1, q', by omega, by go_num, rfl, hq', _, _, HM6, HPL.out, by omega⟩
              case measure => simp [intOf]; omega
    · have hk1 : 1 ≤ k := by omega
      have HOk : Hid (Sg.MadeOk ⟨ac, ps⟩) := ⟨by show 2 ≤ ac.length ∧ ac.length ≤ 8; rw [HNA.out]; exact hlA, HCh.out.ok (by rw [HNA.out]; exact hlA.2), by show 1 ≤ ps.length ∧ ps.length ≤ 6; omega, by show ∀ p ∈ ps, _; rw [HNA.out]; exact HI.out.fine⟩
      have hcond : ¬ (k : Int) < 6 ∨ ((k : Int) < 6 ∧ ((k : Int) == 0) = false ∧ ¬ (q : Int) < (nr : Int)) := by
        by_cases h6 : k < 6
        · right
          refine ⟨by omega, by simp; omega, ?_⟩
          intro h
          exact hgo ⟨h6, Or.inr (by omega)⟩
        · left; omega
      obtain ⟨b0, b1⟩ := HI.out.box.cells
      obtain ⟨z0, z1⟩ := HI.out.res.cells
      have y0 : wz.frozen? ⟨w.heap.size, 0, none⟩ = false := by have := HI.out.res; unfold Two at this; simp [World.frozen?, this]
      have y1 : wz.frozen? ⟨w.heap.size, 1, none⟩ = false := by have := HI.out.res; unfold Two at this; simp [World.frozen?, this]
      have hK : KeptT 26 wz ((wz.setCell ⟨w.heap.size, 0, none⟩ (.slice aoA nA capA)).setCell ⟨w.heap.size, 1, none⟩ (.slice aoP k capP)) :=
        (keptT_setCell HI.out.res).trans (keptT_setCell (by have := heap_setCell_same wz w.heap.size 0 _ _ (.slice aoA nA capA) HI.out.res; exact this))
      have HRes : Hid (OwnA ((wz.setCell ⟨w.heap.size, 0, none⟩ (.slice aoA nA capA)).setCell ⟨w.heap.size, 1, none⟩ (.slice aoP k capP)) (w.heap.size + 1) (.slice aoA nA capA) ac ∧ OwnPs ((wz.setCell ⟨w.heap.size, 0, none⟩ (.slice aoA nA capA)).setCell ⟨w.heap.size, 1, none⟩ (.slice aoP k capP)) (w.heap.size + 1) (.slice aoP k capP) ps ∧ Below w.heap.size w ((wz.setCell ⟨w.heap.size, 0, none⟩ (.slice aoA nA capA)).setCell ⟨w.heap.size, 1, none⟩ (.slice aoP k capP))) :=
        ⟨HI.out.accs.keptT hK (by decide), HI.out.pers.keptT hK (by decide) (by decide) (by decide), below_put2 HI.out.bel (Nat.le_refl _) _ _⟩
      clear HI hK hgo
      rcases hcond with c1 | ⟨c1, c2, c3⟩
      all_goals
        go_wp2_with fail
        refine bodyPost_ret (v := .agg #[.slice aoA nA capA, .slice aoP k capP]) (by simp [results, Tryz.results5, go_sem, z0, z1]) rfl ⟨_, _, rfl, ac, ps, HRes.out.1, HRes.out.2.1, HOk.out, HRes.out.2.2⟩
end Go.Proofs.YtpkkhkkkgjhkeabGreat
