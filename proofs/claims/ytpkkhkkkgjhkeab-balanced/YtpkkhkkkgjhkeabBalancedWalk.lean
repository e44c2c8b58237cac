import Derived.Test.YtpkkhkkkgjhkeabBalInv
import Derived.Deep.CutRange
/-
  THE WALK of signetkeep.Balanced (P5).
-/
namespace Go.Proofs.Ytpkkhkkkgjhkeab
open Go.RowKit
set_option maxRecDepth 100000
attribute [local go_sem ↓] Go.wp_at_zero Go.wp_at_succ

set_option maxHeartbeats 6400000 in
theorem balanced_any (c each per num : Int) (rs : List Raw) (ao : Option Addr) (nr cap : Nat) (w : World) (hc : -9223372036854775808 ≤ c ∧ c ≤ 9223372036854775807) (he : -9223372036854775808 ≤ each ∧ each ≤ 9223372036854775807) (hp : -9223372036854775808 ≤ per ∧ per ≤ 9223372036854775807) (hn : -9223372036854775808 ≤ num ∧ num ≤ 9223372036854775807) (hl : rs.length = nr) (hnr : nr ≤ 4611686018427387904) (hR : RawsIn w ao rs) (hf : ∀ r ∈ rs, rawFits r) :
    Calls Try.prog 4 #[.int .i64 c, .slice ao nr cap, .int .i64 each, .int .i64 per, .int .i64 num] w fun e w' => e = .returned (.bool true) ∧ Below w.heap.size w w' := by
  obtain ⟨q0, qi, qz0, qz1, qz2⟩ := info_parts Try.infoEnt2
  have hcall := made_any c each rs ao nr cap w hc he hl hnr hR hf
  clear hl hR hf hnr hc he
  go_enter Try.func4, Try.ntmps4
  go_wp2_with fail
  refine hcall.mono ?_
  rintro e w1 ⟨vA, vP, rfl, HM⟩
  clear hcall
  obtain ⟨ac, ps, hA, hP, hok, hb1⟩ := HM
  obtain ⟨aoA, capA, hvA, _, _, _⟩ := hA.in_
  obtain ⟨us0, ul0, hrow0, hx0⟩ := id hP
  obtain ⟨gP, capP, hvP, hgB, hgw⟩ := hrow0.form (by have := hok.pers; simp at this; omega)
  obtain ⟨nA, hnA⟩ : ∃ k, ac.length = k := ⟨_, rfl⟩
  obtain ⟨nP, hnP⟩ : ∃ k, ps.length = k := ⟨_, rfl⟩
  rw [hnA] at hvA
  rw [hnP] at hvP
  subst hvA
  subst hvP
  have hpb : 1 ≤ nP ∧ nP ≤ 6 := by have := hok.pers; simp only [hnP] at this; exact this
  have hab : 2 ≤ nA ∧ nA ≤ 8 := by have := hok.accs; simp only [hnA] at this; exact this
  have HOk : Hid (Sg.MadeOk ⟨ac, ps⟩) := hok
  have HNA : Hid (ac.length = nA) := hnA
  have HNP : Hid (ps.length = nP) := hnP
  have HA : Hid (OwnA w1 (w.heap.size + 1) (.slice aoA nA capA) ac) := hA
  have HP : Hid (OwnPs w1 (w.heap.size + 1) (.slice (some ⟨gP, 0, none⟩) nP capP) ps) := hP
  clear hx0 hok hnA hnP hA hP hrow0 ul0 us0
  have hs1 := hb1.size
  go_wp2_with fail
  refine (pick_any per nP _ hp (by omega) (by omega)).mono ?_
  rintro e w2 ⟨i, rfl, hi, hw⟩
  have hw' := hw.symm
  subst hw'
  clear hw
  have aB : Below w1.heap.size w1 (w1.alloc (.cells #[.slice aoA nA capA, .slice (some ⟨gP, 0, none⟩) nP capP] 26)) := (Below.refl _ _).alloc (Nat.le_refl _) _
  have hT : Two (w1.alloc (.cells #[.slice aoA nA capA, .slice (some ⟨gP, 0, none⟩) nP capP] 26)) w1.heap.size (.slice aoA nA capA) (.slice (some ⟨gP, 0, none⟩) nP capP) 26 := Two.new _ _ _ _
  have hps : i < ps.length := by rw [HNP.out]; exact hi
  obtain ⟨vW, hcW, hfW, hEW, _, _⟩ := (HP.out.below aB).at_ hps
  obtain ⟨aoW, capW, hvW⟩ := hEW.shape
  obtain ⟨nE, hnE⟩ : ∃ k, ps[i].length = k := ⟨_, rfl⟩
  obtain ⟨es, hes⟩ : ∃ k, ps[i] = k := ⟨_, rfl⟩
  rw [hnE] at hvW
  rw [hes] at hEW hnE
  subst hvW
  have HI0 : Hid (BdInv w (w1.alloc (.cells #[.slice aoA nA capA, .slice (some ⟨gP, 0, none⟩) nP capP] 26)) w1.heap.size (w.heap.size + 1) (.slice aoA nA capA) (.slice (some ⟨gP, 0, none⟩) nP capP) (.slice aoW nE capW) ac ps es) :=
    ⟨hb1.trans (aB.mono hs1), hT, Nat.le_succ _, HA.out.below aB, HP.out.below aB, hEW⟩
  have HES : Hid (ps[i] = es) := hes
  have HNE : Hid (es.length = nE) := hnE
  have hs2 : w.heap.size + 1 ≤ (w1.alloc (.cells #[.slice aoA nA capA, .slice (some ⟨gP, 0, none⟩) nP capP] 26)).heap.size := by simp; omega
  have hgw2 : gP < (w1.alloc (.cells #[.slice aoA nA capA, .slice (some ⟨gP, 0, none⟩) nP capP] 26)).heap.size := by simp; omega
  clear HA HP aB hT hfW hEW hes hnE hb1 hs1 hgw hgB
  go_wp2_with fail
  generalize w1.alloc (.cells #[.slice aoA nA capA, .slice (some ⟨gP, 0, none⟩) nP capP] 26) = W at *
  refine (lives_any _).mono ?_
  rintro e w3 ⟨rfl, hb3⟩
  have HI3 : Hid (BdInv w w3 w1.heap.size (w.heap.size + 1) (.slice aoA nA capA) (.slice (some ⟨gP, 0, none⟩) nP capP) (.slice aoW nE capW) ac ps es) := HI0.out.below hb3
  have hcW3 := (hb3.cell (p := ⟨gP, i, none⟩) hgw2).trans hcW
  have hs3 : w.heap.size + 1 ≤ w3.heap.size := Nat.le_trans hs2 hb3.size
  have hg3 : gP < w3.heap.size := Nat.lt_of_lt_of_le hgw2 hb3.size
  obtain ⟨bx0, bx1⟩ := HI3.out.box.cells
  clear HI0 hb3 hcW hs2 hgw2
  go_wp2_with fail
  refine (seal_own (h := ⟨ac, ps⟩) HI3.out.accs HI3.out.pers HOk.out.sizes).mono ?_
  rintro e w4 ⟨rfl, hb4⟩
  rw [HOk.out.sealed]
  generalize Sg.package ⟨ac, ps⟩ = pk0
  generalize Sg.headOf ⟨ac, ps⟩ = hd0
  have HI4 : Hid (BdInv w w4 w1.heap.size (w.heap.size + 1) (.slice aoA nA capA) (.slice (some ⟨gP, 0, none⟩) nP capP) (.slice aoW nE capW) ac ps es) := HI3.out.below hb4
  have hcW4 := (hb4.cell (p := ⟨gP, i, none⟩) hg3).trans hcW3
  have hs4 : w.heap.size + 1 ≤ w4.heap.size := Nat.le_trans hs3 hb4.size
  clear HI3 hb4 hcW3 hs3 hg3 bx0 bx1
  obtain ⟨bx0, bx1⟩ := HI4.out.box.cells
  have i1 : (0 : Int) ≤ (i : Int) := by omega
  have i2 : (i : Int) < (nP : Int) := by omega
  by_cases h12 : nE < 12
  · have g1 : ¬ (12 : Int) ≤ (nE : Int) := by omega
    obtain ⟨vL, w5, us, hrun, hul, hrow, hus, hb5⟩ := copy_ents 33 HI4.out.was (by rw [HNE.out]; omega)
    go_wp2_with (at_builtin; refine wpList_append_known rfl _ _ 33 rfl (.slice none 0 0) (.slice aoW nE capW) vL rfl rfl hrun ?_)
    refine (pick_any num 1099511627776 _ hn (by omega) (by omega)).mono ?_
    rintro e w6 ⟨j, rfl, hj, hw⟩
    have hw' := hw.symm
    subst hw'
    clear hw hrun
    obtain ⟨d, hd⟩ : ∃ d : Nat, d = 1 + j := ⟨_, rfl⟩
    have hwd : IntKind.i64.wrap (1 + (j : Int)) = (d : Int) := by rw [IntWalk.i64_in _ (by omega)]; omega
    have hn1 : IntKind.i64.wrap (-(d : Int)) = -(d : Int) := IntWalk.i64_in _ (by omega)
    have hn2 : IntKind.i64.wrap (-(d : Int) - 1) = -(d : Int) - 1 := IntWalk.i64_in _ (by omega)
    have hd2 : d ≤ 1099511627776 := by omega
    clear hd hj
    have HFa : ∀ x : Sg.Ent, x.memo.size ≤ 20 → 1 ≤ x.posts.length → x.posts.length ≤ 6 → (∀ t ∈ x.posts, Sg.fits t.acct = true ∧ Sg.fits t.amt = true) → HistSizes ⟨ac, ps.set i (es ++ [x])⟩ := fun x h1 _ h3 h4 => by
      have := HOk.out.sizes.more hps (by rw [HES.out, HNE.out]; exact h12) x h1 h3 h4
      rw [HES.out] at this
      exact this
    have HCa : ∀ (x : Sg.Ent) (e : Int), x.memo.size ≤ 20 → 1 ≤ x.posts.length → x.posts.length ≤ 6 → e ≠ 0 → (∀ now b, Sg.Bd b now → 0 ≤ b → b ≤ 4503599627370496 → now.length = nA → Sg.entErr nA x now = e) → Sg.closeErr ⟨ac, ps.set i (es ++ [x])⟩ = e := fun x e h1 h2 h3 h4 h5 => by
      have := HOk.out.spoilt (i := i) hps (by show ps[i].length < 12; rw [HES.out, HNE.out]; exact h12) x (decide_eq_true ⟨h1, h2, h3⟩) e h4 (by show ∀ now b, _ → _ → _ → now.length = ac.length → Sg.entErr ac.length x now = e; rw [HNA.out]; exact h5)
      simp only at this
      rw [HES.out] at this
      exact this
    have HS1 : Hid (HistSizes ⟨ac, ps.set i (es ++ [⟨ByteArray.empty, [⟨0, (d : Int)⟩, ⟨1, -(d : Int) - 1⟩]⟩])⟩) := HFa _ (by show 0 ≤ 20; omega) (by simp) (by simp) (fun t ht => by simp at ht; rcases ht with rfl | rfl <;> exact ⟨decide_eq_true (by simp <;> omega), decide_eq_true (by simp <;> omega)⟩)
    have HC1 : Hid (Sg.closeErr ⟨ac, ps.set i (es ++ [⟨ByteArray.empty, [⟨0, (d : Int)⟩, ⟨1, -(d : Int) - 1⟩]⟩])⟩ = 3) := HCa _ 3 (by show 0 ≤ 20; omega) (by simp) (by simp) (by decide) (fun now b _ _ _ _ => Sg.spoil_balance hab.1 (d : Int) now)
    have HS2 : Hid (HistSizes ⟨ac, ps.set i (es ++ [⟨ByteArray.empty, [⟨0, (d : Int)⟩, ⟨(nA : Int), -(d : Int)⟩]⟩])⟩) := HFa _ (by show 0 ≤ 20; omega) (by simp) (by simp) (fun t ht => by simp at ht; rcases ht with rfl | rfl <;> exact ⟨decide_eq_true (by simp <;> omega), decide_eq_true (by simp <;> omega)⟩)
    have HC2 : Hid (Sg.closeErr ⟨ac, ps.set i (es ++ [⟨ByteArray.empty, [⟨0, (d : Int)⟩, ⟨(nA : Int), -(d : Int)⟩]⟩])⟩ = 2) := HCa _ 2 (by show 0 ≤ 20; omega) (by simp) (by simp) (by decide) (fun now b _ _ _ _ => Sg.spoil_account (d : Int) now)
    have HS3 : Hid (HistSizes ⟨ac, ps.set i (es ++ [⟨ByteArray.empty, [⟨0, 9223372036854775807⟩, ⟨0, 9223372036854775807⟩, ⟨1, -9223372036854775807⟩, ⟨1, -9223372036854775807⟩]⟩])⟩) := HFa _ (by show 0 ≤ 20; omega) (by simp) (by simp) (fun t ht => by simp at ht; rcases ht with rfl | rfl | rfl | rfl <;> exact ⟨by decide, by decide⟩)
    have HC3 : Hid (Sg.closeErr ⟨ac, ps.set i (es ++ [⟨ByteArray.empty, [⟨0, 9223372036854775807⟩, ⟨0, 9223372036854775807⟩, ⟨1, -9223372036854775807⟩, ⟨1, -9223372036854775807⟩]⟩])⟩ = 4) := HCa _ 4 (by show 0 ≤ 20; omega) (by simp) (by simp) (by decide) (fun now b h1 h2 h3 h4 => Sg.spoil_over hab.1 now b h1 h2 h3 h4)
    clear HFa HCa
    obtain ⟨aoL, nL, capL, hvL⟩ : ∃ aoL nL capL, vL = .slice aoL nL capL := by
      rcases hrow.2 with ⟨e, _⟩ | ⟨g, cap, cur, e, _⟩
      · exact ⟨_, _, _, e⟩
      · exact ⟨_, _, _, e⟩
    subst hvL
    have HJ0 : Hid (BdInv w w5 w1.heap.size (w.heap.size + 1) (.slice aoA nA capA) (.slice (some ⟨gP, 0, none⟩) nP capP) (.slice aoW nE capW) ac ps es) := HI4.out.below hb5
    clear bx0 bx1
    obtain ⟨bx0, bx1⟩ := HJ0.out.box.cells
    have hbs : w1.heap.size < w5.heap.size := lt_of_block HJ0.out.box
    have hps0 : i < (ps).length := by exact hps
    obtain ⟨vX, hcX, hfX, _, _, hgX⟩ := HJ0.out.pers.at_ hps0
    have hrow' := hrow
    rw [HNE.out] at hrow
    have hs5 : w4.heap.size ≤ w5.heap.size := hb5.size
    go_upto_region 13 with fail
    go_cut [] from 68 to 83 (fun wx => Hid (BdInv w wx w1.heap.size (w.heap.size + 1) (.slice aoA nA capA) (.slice (some ⟨gP, 0, none⟩) nP capP) (.slice aoW nE capW) ac (ps.set i (es ++ [⟨ByteArray.empty, [⟨0, (d : Int)⟩, ⟨1, -(d : Int) - 1⟩]⟩])) es))
    case first =>
      go_region_law (refine step_append_lies _ (by rfl) _ _ _ (by rfl) w4.heap.size 40 q0 _ 2 40 Try.underlying33 qi qz0 qz1 qz2 rfl (by omega) _ nE (eCells es us) (by rfl) (by first | exact ((hrow.alloc _).alloc _).drew | exact ((hrow.alloc _).drew.alloc _) | exact ((hrow.alloc _).alloc _) | exact ((hrow.drew.alloc _).alloc _)) ⟨w5.heap.size + 1, 0, none⟩ 1 1 [.string ByteArray.empty, .slice (some ⟨w5.heap.size, 0, none⟩) 2 2] (by rfl) (by rfl) (by exact World.news_of_block (cs := #[.string ByteArray.empty, .slice (some ⟨w5.heap.size, 0, none⟩) 2 2]) (t := 40) (fr := (0, 0)) (new_block2 w5 _ _ _)) (by simp [Value.oneCell']) (by omega) (by unfold maxLen; omega) (by omega) (by simp; omega) (w5.heap.size + 2) (by simp) ?_; intro g cap' w7 hown7 hgrow hat7 hlt7; have hso := spoil_out (xs := [⟨0, (d : Int)⟩, ⟨1, -(d : Int) - 1⟩]) (pb := w5.heap.size) (k := 2) HI4.out (by omega) hul hrow' hus hb5 (by first | exact (((Below.refl _ _).alloc (Nat.le_refl _) _).alloc (by simp) _).drew | exact ((Below.refl _ _).alloc (Nat.le_refl _) _).alloc (by simp) _ | exact (((Below.refl _ _).drew.alloc (by simp) _).alloc (by simp) _)) (by exact old_block2 w5 _ _ _) (by omega) rfl (by unfold maxLen; omega) hgrow (by rw [HNE.out]; exact hown7); have hat := hso.1.pers.at_ hps0; obtain ⟨vY, hcY, hfY, _, _, _⟩ := hat; have hbx7 := hso.1.box.cells; obtain ⟨by0, by1⟩ := hbx7)
      all_goals
        have HR : Hid (BdInv w (w7.setCell ⟨gP, i, none⟩ (.slice (some ⟨g, 0, none⟩) (nE + 1) cap')) w1.heap.size (w.heap.size + 1) (.slice aoA nA capA) (.slice (some ⟨gP, 0, none⟩) nP capP) (.slice aoW nE capW) ac (ps.set i (es ++ [⟨ByteArray.empty, [⟨0, (d : Int)⟩, ⟨1, -(d : Int) - 1⟩]⟩])) es) := by
          have := hso.1.set (i := i) hps0 hso.2
          skip
          exact this
        go_wp2_with fail
        go_meet
        exact HR
    case rest =>
      obtain ⟨v80, ev8⟩ : ∃ z : World, z = wc := ⟨_, rfl⟩
      subst ev8
      have HK0 := hcut
      clear hcut hcX hfX hrow hrow' hus hul hb5 bx0 bx1 HJ0 HI4
      have hs80 : w.heap.size + 1 ≤ v80.heap.size := by have := (HK0.out.accs.lt0 (by rw [HNA.out]; omega)); omega
      obtain ⟨bx0, bx1⟩ := HK0.out.box.cells
      go_wp2_with fail
      refine (seal_own (h := ⟨ac, ps.set i (es ++ [⟨ByteArray.empty, [⟨0, (d : Int)⟩, ⟨1, -(d : Int) - 1⟩]⟩])⟩) HK0.out.accs HK0.out.pers HS1.out).mono ?_
      rintro e v90 ⟨rfl, hb9⟩
      rw [HC1.out]
      generalize Sg.package ⟨ac, ps.set i (es ++ [⟨ByteArray.empty, [⟨0, (d : Int)⟩, ⟨1, -(d : Int) - 1⟩]⟩])⟩ = pk1
      generalize Sg.headOf ⟨ac, ps.set i (es ++ [⟨ByteArray.empty, [⟨0, (d : Int)⟩, ⟨1, -(d : Int) - 1⟩]⟩])⟩ = hd1
      have HL0 : Hid (BdInv w v90 w1.heap.size (w.heap.size + 1) (.slice aoA nA capA) (.slice (some ⟨gP, 0, none⟩) nP capP) (.slice aoW nE capW) ac (ps.set i (es ++ [⟨ByteArray.empty, [⟨0, (d : Int)⟩, ⟨1, -(d : Int) - 1⟩]⟩])) es) := HK0.out.below hb9
      have hs90 : w.heap.size + 1 ≤ v90.heap.size := Nat.le_trans hs80 hb9.size
      clear HK0 hb9 HS1 HC1
      obtain ⟨vL, v51, us, hrun, hul, hrow, hus, hb5⟩ := copy_ents 33 HL0.out.was (by rw [HNE.out]; omega)
      go_upto_region 17 with (at_builtin; refine wpList_append_known rfl _ _ 33 rfl (.slice none 0 0) (.slice aoW nE capW) vL rfl rfl hrun ?_)
      clear hrun
      obtain ⟨aoL, nL, capL, hvL⟩ : ∃ aoL nL capL, vL = .slice aoL nL capL := by
        rcases hrow.2 with ⟨e, _⟩ | ⟨g, cap, cur, e, _⟩
        · exact ⟨_, _, _, e⟩
        · exact ⟨_, _, _, e⟩
      subst hvL
      have HJ1 : Hid (BdInv w v51 w1.heap.size (w.heap.size + 1) (.slice aoA nA capA) (.slice (some ⟨gP, 0, none⟩) nP capP) (.slice aoW nE capW) ac (ps.set i (es ++ [⟨ByteArray.empty, [⟨0, (d : Int)⟩, ⟨1, -(d : Int) - 1⟩]⟩])) es) := HL0.out.below hb5
      clear bx0 bx1
      obtain ⟨bx0, bx1⟩ := HJ1.out.box.cells
      have hbs : w1.heap.size < v51.heap.size := lt_of_block HJ1.out.box
      have hps1 : i < ((ps.set i (es ++ [⟨ByteArray.empty, [⟨0, (d : Int)⟩, ⟨1, -(d : Int) - 1⟩]⟩]))).length := by rw [List.length_set]; exact hps
      obtain ⟨vX, hcX, hfX, _, _, hgX⟩ := HJ1.out.pers.at_ hps1
      have hrow' := hrow
      rw [HNE.out] at hrow
      have hs5 : v90.heap.size ≤ v51.heap.size := hb5.size
      go_cut [] from 93 to 110 (fun wx => Hid (BdInv w wx w1.heap.size (w.heap.size + 1) (.slice aoA nA capA) (.slice (some ⟨gP, 0, none⟩) nP capP) (.slice aoW nE capW) ac (ps.set i (es ++ [⟨ByteArray.empty, [⟨0, (d : Int)⟩, ⟨(nA : Int), -(d : Int)⟩]⟩])) es))
      case first =>
        go_region_law (refine step_append_lies _ (by rfl) _ _ _ (by rfl) v90.heap.size 40 q0 _ 2 40 Try.underlying33 qi qz0 qz1 qz2 rfl (by omega) _ nE (eCells es us) (by rfl) (by first | exact ((hrow.alloc _).alloc _).drew | exact ((hrow.alloc _).drew.alloc _) | exact ((hrow.alloc _).alloc _) | exact ((hrow.drew.alloc _).alloc _)) ⟨v51.heap.size + 1, 0, none⟩ 1 1 [.string ByteArray.empty, .slice (some ⟨v51.heap.size, 0, none⟩) 2 2] (by rfl) (by rfl) (by exact World.news_of_block (cs := #[.string ByteArray.empty, .slice (some ⟨v51.heap.size, 0, none⟩) 2 2]) (t := 40) (fr := (0, 0)) (new_block2 v51 _ _ _)) (by simp [Value.oneCell']) (by omega) (by unfold maxLen; omega) (by omega) (by simp; omega) (v51.heap.size + 2) (by simp) ?_; intro g cap' w7 hown7 hgrow hat7 hlt7; have hso := spoil_out (xs := [⟨0, (d : Int)⟩, ⟨(nA : Int), -(d : Int)⟩]) (pb := v51.heap.size) (k := 2) HL0.out (by omega) hul hrow' hus hb5 (by first | exact (((Below.refl _ _).alloc (Nat.le_refl _) _).alloc (by simp) _).drew | exact ((Below.refl _ _).alloc (Nat.le_refl _) _).alloc (by simp) _ | exact (((Below.refl _ _).drew.alloc (by simp) _).alloc (by simp) _)) (by exact old_block2 v51 _ _ _) (by omega) rfl (by unfold maxLen; omega) hgrow (by rw [HNE.out]; exact hown7); have hat := hso.1.pers.at_ hps1; obtain ⟨vY, hcY, hfY, _, _, _⟩ := hat; have hbx7 := hso.1.box.cells; obtain ⟨by0, by1⟩ := hbx7)
        all_goals
          have HR : Hid (BdInv w (w7.setCell ⟨gP, i, none⟩ (.slice (some ⟨g, 0, none⟩) (nE + 1) cap')) w1.heap.size (w.heap.size + 1) (.slice aoA nA capA) (.slice (some ⟨gP, 0, none⟩) nP capP) (.slice aoW nE capW) ac (ps.set i (es ++ [⟨ByteArray.empty, [⟨0, (d : Int)⟩, ⟨(nA : Int), -(d : Int)⟩]⟩])) es) := by
            have := hso.1.set (i := i) hps1 hso.2
            rw [List.set_set] at this
            exact this
          go_wp2_with fail
          go_meet
          exact HR
      case rest =>
        obtain ⟨v81, ev8⟩ : ∃ z : World, z = wc := ⟨_, rfl⟩
        subst ev8
        have HK1 := hcut
        clear hcut hcX hfX hrow hrow' hus hul hb5 bx0 bx1 HJ1 HL0
        have hs81 : w.heap.size + 1 ≤ v81.heap.size := by have := (HK1.out.accs.lt0 (by rw [HNA.out]; omega)); omega
        obtain ⟨bx0, bx1⟩ := HK1.out.box.cells
        go_wp2_with fail
        refine (seal_own (h := ⟨ac, ps.set i (es ++ [⟨ByteArray.empty, [⟨0, (d : Int)⟩, ⟨(nA : Int), -(d : Int)⟩]⟩])⟩) HK1.out.accs HK1.out.pers HS2.out).mono ?_
        rintro e v91 ⟨rfl, hb9⟩
        rw [HC2.out]
        generalize Sg.package ⟨ac, ps.set i (es ++ [⟨ByteArray.empty, [⟨0, (d : Int)⟩, ⟨(nA : Int), -(d : Int)⟩]⟩])⟩ = pk2
        generalize Sg.headOf ⟨ac, ps.set i (es ++ [⟨ByteArray.empty, [⟨0, (d : Int)⟩, ⟨(nA : Int), -(d : Int)⟩]⟩])⟩ = hd2
        have HL1 : Hid (BdInv w v91 w1.heap.size (w.heap.size + 1) (.slice aoA nA capA) (.slice (some ⟨gP, 0, none⟩) nP capP) (.slice aoW nE capW) ac (ps.set i (es ++ [⟨ByteArray.empty, [⟨0, (d : Int)⟩, ⟨(nA : Int), -(d : Int)⟩]⟩])) es) := HK1.out.below hb9
        have hs91 : w.heap.size + 1 ≤ v91.heap.size := Nat.le_trans hs81 hb9.size
        clear HK1 hb9 HS2 HC2
        obtain ⟨vL, v52, us, hrun, hul, hrow, hus, hb5⟩ := copy_ents 33 HL1.out.was (by rw [HNE.out]; omega)
        go_upto_region 21 with (at_builtin; refine wpList_append_known rfl _ _ 33 rfl (.slice none 0 0) (.slice aoW nE capW) vL rfl rfl hrun ?_)
        clear hrun
        obtain ⟨aoL, nL, capL, hvL⟩ : ∃ aoL nL capL, vL = .slice aoL nL capL := by
          rcases hrow.2 with ⟨e, _⟩ | ⟨g, cap, cur, e, _⟩
          · exact ⟨_, _, _, e⟩
          · exact ⟨_, _, _, e⟩
        subst hvL
        have HJ2 : Hid (BdInv w v52 w1.heap.size (w.heap.size + 1) (.slice aoA nA capA) (.slice (some ⟨gP, 0, none⟩) nP capP) (.slice aoW nE capW) ac (ps.set i (es ++ [⟨ByteArray.empty, [⟨0, (d : Int)⟩, ⟨(nA : Int), -(d : Int)⟩]⟩])) es) := HL1.out.below hb5
        clear bx0 bx1
        obtain ⟨bx0, bx1⟩ := HJ2.out.box.cells
        have hbs : w1.heap.size < v52.heap.size := lt_of_block HJ2.out.box
        have hps2 : i < ((ps.set i (es ++ [⟨ByteArray.empty, [⟨0, (d : Int)⟩, ⟨(nA : Int), -(d : Int)⟩]⟩]))).length := by rw [List.length_set]; exact hps
        obtain ⟨vX, hcX, hfX, _, _, hgX⟩ := HJ2.out.pers.at_ hps2
        have hrow' := hrow
        rw [HNE.out] at hrow
        have hs5 : v91.heap.size ≤ v52.heap.size := hb5.size
        go_cut [] from 120 to 133 (fun wx => Hid (BdInv w wx w1.heap.size (w.heap.size + 1) (.slice aoA nA capA) (.slice (some ⟨gP, 0, none⟩) nP capP) (.slice aoW nE capW) ac (ps.set i (es ++ [⟨ByteArray.empty, [⟨0, 9223372036854775807⟩, ⟨0, 9223372036854775807⟩, ⟨1, -9223372036854775807⟩, ⟨1, -9223372036854775807⟩]⟩])) es))
        case first =>
          go_region_law (refine step_append_lies _ (by rfl) _ _ _ (by rfl) v91.heap.size 40 q0 _ 2 40 Try.underlying33 qi qz0 qz1 qz2 rfl (by omega) _ nE (eCells es us) (by rfl) (by first | exact ((hrow.alloc _).alloc _).drew | exact ((hrow.alloc _).drew.alloc _) | exact ((hrow.alloc _).alloc _) | exact ((hrow.drew.alloc _).alloc _)) ⟨v52.heap.size + 1, 0, none⟩ 1 1 [.string ByteArray.empty, .slice (some ⟨v52.heap.size, 0, none⟩) 4 4] (by rfl) (by rfl) (by exact World.news_of_block (cs := #[.string ByteArray.empty, .slice (some ⟨v52.heap.size, 0, none⟩) 4 4]) (t := 40) (fr := (0, 0)) (new_block2 v52 _ _ _)) (by simp [Value.oneCell']) (by omega) (by unfold maxLen; omega) (by omega) (by simp; omega) (v52.heap.size + 2) (by simp) ?_; intro g cap' w7 hown7 hgrow hat7 hlt7; have hso := spoil_out (xs := [⟨0, 9223372036854775807⟩, ⟨0, 9223372036854775807⟩, ⟨1, -9223372036854775807⟩, ⟨1, -9223372036854775807⟩]) (pb := v52.heap.size) (k := 4) HL1.out (by omega) hul hrow' hus hb5 (by first | exact (((Below.refl _ _).alloc (Nat.le_refl _) _).alloc (by simp) _).drew | exact ((Below.refl _ _).alloc (Nat.le_refl _) _).alloc (by simp) _ | exact (((Below.refl _ _).drew.alloc (by simp) _).alloc (by simp) _)) (by exact old_block2 v52 _ _ _) (by omega) rfl (by unfold maxLen; omega) hgrow (by rw [HNE.out]; exact hown7); have hat := hso.1.pers.at_ hps2; obtain ⟨vY, hcY, hfY, _, _, _⟩ := hat; have hbx7 := hso.1.box.cells; obtain ⟨by0, by1⟩ := hbx7)
          all_goals
            have HR : Hid (BdInv w (w7.setCell ⟨gP, i, none⟩ (.slice (some ⟨g, 0, none⟩) (nE + 1) cap')) w1.heap.size (w.heap.size + 1) (.slice aoA nA capA) (.slice (some ⟨gP, 0, none⟩) nP capP) (.slice aoW nE capW) ac (ps.set i (es ++ [⟨ByteArray.empty, [⟨0, 9223372036854775807⟩, ⟨0, 9223372036854775807⟩, ⟨1, -9223372036854775807⟩, ⟨1, -9223372036854775807⟩]⟩])) es) := by
              have := hso.1.set (i := i) hps2 hso.2
              rw [List.set_set] at this
              exact this
            go_wp2_with fail
            go_meet
            exact HR
        case rest =>
          obtain ⟨v82, ev8⟩ : ∃ z : World, z = wc := ⟨_, rfl⟩
          subst ev8
          have HK2 := hcut
          clear hcut hcX hfX hrow hrow' hus hul hb5 bx0 bx1 HJ2 HL1
          have hs82 : w.heap.size + 1 ≤ v82.heap.size := by have := (HK2.out.accs.lt0 (by rw [HNA.out]; omega)); omega
          obtain ⟨bx0, bx1⟩ := HK2.out.box.cells
          go_wp2_with fail
          refine (seal_own (h := ⟨ac, ps.set i (es ++ [⟨ByteArray.empty, [⟨0, 9223372036854775807⟩, ⟨0, 9223372036854775807⟩, ⟨1, -9223372036854775807⟩, ⟨1, -9223372036854775807⟩]⟩])⟩) HK2.out.accs HK2.out.pers HS3.out).mono ?_
          rintro e v92 ⟨rfl, hb9⟩
          rw [HC3.out]
          generalize Sg.package ⟨ac, ps.set i (es ++ [⟨ByteArray.empty, [⟨0, 9223372036854775807⟩, ⟨0, 9223372036854775807⟩, ⟨1, -9223372036854775807⟩, ⟨1, -9223372036854775807⟩]⟩])⟩ = pk3
          generalize Sg.headOf ⟨ac, ps.set i (es ++ [⟨ByteArray.empty, [⟨0, 9223372036854775807⟩, ⟨0, 9223372036854775807⟩, ⟨1, -9223372036854775807⟩, ⟨1, -9223372036854775807⟩]⟩])⟩ = hd3
          have HL2 : Hid (BdInv w v92 w1.heap.size (w.heap.size + 1) (.slice aoA nA capA) (.slice (some ⟨gP, 0, none⟩) nP capP) (.slice aoW nE capW) ac (ps.set i (es ++ [⟨ByteArray.empty, [⟨0, 9223372036854775807⟩, ⟨0, 9223372036854775807⟩, ⟨1, -9223372036854775807⟩, ⟨1, -9223372036854775807⟩]⟩])) es) := HK2.out.below hb9
          have hs92 : w.heap.size + 1 ≤ v92.heap.size := Nat.le_trans hs82 hb9.size
          clear HK2 hb9 HS3 HC3
          go_wp2_with fail
          go_ret
          exact ⟨rfl, HL2.out.bel⟩
  · have g1 : (12 : Int) ≤ (nE : Int) := by omega
    go_wp2_with fail
    go_ret
    exact ⟨rfl, HI4.out.bel⟩
end Go.Proofs.Ytpkkhkkkgjhkeab
