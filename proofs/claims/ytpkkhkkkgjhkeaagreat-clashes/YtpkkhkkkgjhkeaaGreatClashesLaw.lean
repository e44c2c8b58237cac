/-
  THE WALK of signetlaw.Clashes (P11).
-/
import Derived.Test.YtpkkhkkkgjhkeaaGreatClashes
namespace Go.Proofs.YtpkkhkkkgjhkeaaGreat
open Go.RowKit
set_option maxRecDepth 100000
attribute [local go_sem ↓] Go.wp_at_zero Go.wp_at_succ

theorem Sg.clashBErr_rd (p q : ByteArray) : Sg.clashBErr p q = if ¬ Sg.isPk (Sg.rdHist Sg.rdR (Sg.tx p)) p then 5 else if ¬ Sg.isPk (Sg.rdHist Sg.rdR (Sg.tx q)) q then 5 else if p = q ∨ ¬ Sg.headOf (Sg.rdHist Sg.rdR (Sg.tx p)) = Sg.headOf (Sg.rdHist Sg.rdR (Sg.tx q)) then 7 else 0 := by
  obtain ⟨i1, s1⟩ := Sg.read_both p
  obtain ⟨i2, s2⟩ := Sg.read_both q
  unfold Sg.clashBErr
  by_cases h1 : Sg.isPk (Sg.pdHist (Sg.tx p)) p
  · have r1 := s1 h1
    by_cases h2 : Sg.isPk (Sg.pdHist (Sg.tx q)) q
    · rw [r1, s2 h2]
    · have n2 : ¬ Sg.isPk (Sg.rdHist Sg.rdR (Sg.tx q)) q := fun c => h2 (i2.2 c)
      rw [r1]
      simp [h1, h2, n2]
  · have n1 : ¬ Sg.isPk (Sg.rdHist Sg.rdR (Sg.tx p)) p := fun c => h1 (i1.2 c)
    simp [h1, n1]
theorem empty_list {x : ByteArray} (h : x = ByteArray.empty) : x.toList.isEmpty = true := by rw [h, ByteArray.toList_eq]; rfl

set_option maxHeartbeats 12800000 in
/-- signetlaw.Clashes. -/
theorem lawClashes_any (p q : ByteArray) (w : World) (hpz : p.size ≤ 140737488355328) (hqz : q.size ≤ 140737488355328) :
    Calls Tryz.prog 5 #[.string p, .string q] w fun e w' => e = .returned (.bool true) ∧ Below w.heap.size w w' := by
  have hc0 := fun W => clash_any p q W
  have hc1 := fun W => open_any p W hpz
  have hc2 := fun W => open_any q W hqz
  have HE : Hid (Sg.clashBErr p q = if ¬ Sg.isPk (Sg.rdHist Sg.rdR (Sg.tx p)) p then 5 else if ¬ Sg.isPk (Sg.rdHist Sg.rdR (Sg.tx q)) q then 5 else if p = q ∨ ¬ Sg.headOf (Sg.rdHist Sg.rdR (Sg.tx p)) = Sg.headOf (Sg.rdHist Sg.rdR (Sg.tx q)) then 7 else 0) := Sg.clashBErr_rd p q
  generalize Sg.clashBErr p q = er at *
  generalize Sg.rdHist Sg.rdR (Sg.tx p) = h at *
  generalize Sg.rdHist Sg.rdR (Sg.tx q) = k at *
  clear hpz hqz
  go_enter Tryz.func5, Tryz.ntmps5
  go_wp2_with fail
  refine (hc0 _).mono ?_
  rintro e w1 ⟨b1, x, y, rfl, HXY⟩
  clear hc0
  go_wp2_with fail
  refine (hc1 _).mono ?_
  rintro e w2 ⟨b2, hcase1⟩
  have b2' := b1.trans (b2.mono b1.size)
  clear hc1 b1 b2
  rcases hcase1 with ⟨hn, rfl⟩ | ⟨hy, aoA, aoP, aoB, aoT, nA, nP, capA, capP, capB, capT, rfl, h1, hC, _, _⟩
  · have er1 : er = 5 := by rw [HE.out, if_pos hn]
    have hxy := HXY.out.1 (by rw [er1]; decide)
    have hx := empty_list hxy.1
    have hy := empty_list hxy.2
    have b3 : Below w.heap.size w (w2.alloc (.cells #[nilV, nilV, nilV, nilV] 39)) := b2'.alloc b2'.size _
    subst er1
    clear hn HE HXY hxy b2'
    go_wp2_with fail
    refine (hc2 _).mono ?_
    rintro e w4 ⟨b4, hcase2⟩
    have b4' := b3.trans (b4.mono b3.size)
    clear hc2 b3 b4
    rcases hcase2 with ⟨_, rfl⟩ | ⟨_, aoC, aoQ, aoD, aoU, nC, nQ, capC, capQ, capD, capU, rfl, _, _, _, _⟩
    · have b5 : Below w.heap.size w (w4.alloc (.cells #[nilV, nilV, nilV, nilV] 39)) := b4'.alloc b4'.size _
      go_wp2_with fail
      go_ret
      exact ⟨rfl, b5⟩
    · have b5 : Below w.heap.size w (w4.alloc (.cells #[.slice aoC nC capC, .slice aoQ nQ capQ, .slice aoD nQ capD, .slice aoU nQ capU] 39)) := b4'.alloc b4'.size _
      go_wp2_with fail
      go_ret
      exact ⟨rfl, b5⟩
  · have aB : Below w2.heap.size w2 (w2.alloc (.cells #[.slice aoA nA capA, .slice aoP nP capP, .slice aoB nP capB, .slice aoT nP capT] 39)) := (Below.refl _ _).alloc (Nat.le_refl _) _
    have q1 := Quad.new w2 (.slice aoA nA capA) (.slice aoP nP capP) (.slice aoB nP capB) (.slice aoT nP capT) 39
    have hC3 := hC.below aB
    have b3 := b2'.trans (aB.mono b2'.size)
    have HY : Hid (Sg.isPk h p) := hy
    obtain ⟨g1, eg1⟩ : ∃ g1, w2.heap.size = g1 := ⟨_, rfl⟩
    clear hC b2' aB hy
    go_wp2_with fail
    generalize (w2.alloc (.cells #[.slice aoA nA capA, .slice aoP nP capP, .slice aoB nP capB, .slice aoT nP capT] 39)) = w3 at *
    rw [eg1] at q1
    try rw [eg1]
    clear eg1
    refine (hc2 _).mono ?_
    rintro e w4 ⟨b4, hcase2⟩
    have b4' := b3.trans (b4.mono b3.size)
    have q1' := q1.below b4
    have hC4 := hC3.below b4
    clear hc2 b3 b4 q1 hC3
    rcases hcase2 with ⟨hn, rfl⟩ | ⟨hy, aoC, aoQ, aoD, aoU, nC, nQ, capC, capQ, capD, capU, rfl, h2, hD, _, _⟩
    · have er1 : er = 5 := by rw [HE.out, if_neg (fun c => c HY.out), if_pos hn]
      have hxy := HXY.out.1 (by rw [er1]; decide)
      have hx := empty_list hxy.1
      have hy := empty_list hxy.2
      have b5 : Below w.heap.size w (w4.alloc (.cells #[nilV, nilV, nilV, nilV] 39)) := b4'.alloc b4'.size _
      subst er1
      clear hn HE HXY hxy b4' q1' hC4
      go_wp2_with fail
      go_ret
      exact ⟨rfl, b5⟩
    · have aB : Below w4.heap.size w4 (w4.alloc (.cells #[.slice aoC nC capC, .slice aoQ nQ capQ, .slice aoD nQ capD, .slice aoU nQ capU] 39)) := (Below.refl _ _).alloc (Nat.le_refl _) _
      have q2 := Quad.new w4 (.slice aoC nC capC) (.slice aoQ nQ capQ) (.slice aoD nQ capD) (.slice aoU nQ capU) 39
      have q1 := q1'.below aB
      have hC5 := hC4.below aB
      have hD5 := hD.below aB
      have b5 := b4'.trans (aB.mono b4'.size)
      have HZ : Hid (Sg.isPk k q) := hy
      have HE2 : Hid (er = if p = q ∨ ¬ Sg.headOf h = Sg.headOf k then 7 else 0) := by
        show _ = _
        rw [HE.out, if_neg (fun c => c HY.out), if_neg (fun c => c HZ.out)]
      obtain ⟨g2, eg2⟩ : ∃ g2, w4.heap.size = g2 := ⟨_, rfl⟩
      have HH1 : Hid (Sg.headOf h = (Sg.hdTo h (Sg.balances h) (Sg.totals h) nP).2) := by
        show _ = _
        unfold Sg.headOf
        rw [if_pos HY.out.1, hC5.lenP]
      have HH2 : Hid (Sg.headOf k = (Sg.hdTo k (Sg.balances k) (Sg.totals k) nQ).2) := by
        show _ = _
        unfold Sg.headOf
        rw [if_pos HZ.out.1, hD5.lenP]
      clear hC4 hD b4' aB q1' HE hy
      go_upto_region 11 with fail
      generalize (w4.alloc (.cells #[.slice aoC nC capC, .slice aoQ nQ capQ, .slice aoD nQ capD, .slice aoU nQ capU] 39)) = w5 at *
      rw [eg2] at q2
      try rw [eg2]
      clear eg2
      by_cases hpq : p = q
      · have er1 : er = 7 := by rw [HE2.out, if_pos (Or.inl hpq)]
        have hxy := HXY.out.1 (by rw [er1]; decide)
        have hx := empty_list hxy.1
        have hy := empty_list hxy.2
        have hcmp := eq_list' hpq
        subst er1
        clear hpq HE2 HXY hxy hC5 hD5 q1 q2
        go_wp2_with fail
        go_ret
        exact ⟨rfl, b5⟩
      · have hcmp := ne_list' hpq
        have HNE : Hid (¬ p = q) := hpq
        obtain ⟨a0, a1, a2, a3⟩ := q1.cells
        obtain ⟨d0, d1, d2, d3⟩ := q2.cells
        have hcall := head_any h (Sg.balances h) (Sg.totals h) aoA aoP aoB aoT nA nP capA capP capB capT w5 hC5 h1
        have HX2 : Hid (∀ W, Below w5.heap.size w5 W → Calls Tryz.prog 15 #[.agg #[.slice aoC nC capC, .slice aoQ nQ capQ, .slice aoD nQ capD, .slice aoU nQ capU]] W fun e w' => e = .returned (.string (Sg.hdTo k (Sg.balances k) (Sg.totals k) nQ).2) ∧ Below W.heap.size W w') := fun W hb => head_any k (Sg.balances k) (Sg.totals k) aoC aoQ aoD aoU nC nQ capC capQ capD capU W (hD5.below hb) h2
        clear hpq hC5 hD5
        generalize (Sg.hdTo h (Sg.balances h) (Sg.totals h) nP).2 = y1 at *
        generalize (Sg.hdTo k (Sg.balances k) (Sg.totals k) nQ).2 = y2 at *
        go_wp2_with fail
        refine hcall.mono ?_
        rintro e w6 ⟨rfl, hb6⟩
        have b6 := b5.trans (hb6.mono b5.size)
        obtain ⟨e0, e1, e2, e3⟩ := (q2.below hb6).cells
        have hcal2 := HX2.out w6 hb6
        clear hcall HX2 a0 a1 a2 a3 d0 d1 d2 d3 q1 q2 hb6 b5
        go_wp2_with fail
        refine hcal2.mono ?_
        rintro e w7 ⟨rfl, hb7⟩
        have b7 := b6.trans (hb7.mono b6.size)
        clear hcal2 e0 e1 e2 e3 hb7 b6
        by_cases hhd : y1 = y2
        · have er1 : er = 0 := by
            rw [HE2.out, if_neg]
            rintro (c | c)
            · exact HNE.out c
            · exact c (by rw [HH1.out, HH2.out, hhd])
          have hcm2 := eq_list' hhd
          obtain ⟨hne, hsum, hxz, hyz⟩ := HXY.out.2 er1
          have hcm3 := ne_list' hne
          have hcm4 := eq_list' hsum
          have hs1 := fun W => refSum_any x W (by unfold maxLen; omega)
          have hs2 := fun W => refSum_any y W (by unfold maxLen; omega)
          subst er1
          clear hhd HE2 HXY hne hsum hxz hyz
          go_wp2_with fail
          refine (hs1 _).mono ?_
          rintro e w8 ⟨rfl, hb8⟩
          have b8 := b7.trans (hb8.mono b7.size)
          clear hs1 hb8 b7
          go_wp2_with fail
          refine (hs2 _).mono ?_
          rintro e w9 ⟨rfl, hb9⟩
          have b9 := b8.trans (hb9.mono b8.size)
          clear hs2 hb9 b8
          go_wp2_with fail
          go_ret
          exact ⟨rfl, b9⟩
        · have er1 : er = 7 := by rw [HE2.out, if_pos (Or.inr (fun c => hhd (by rw [← HH1.out, ← HH2.out, c])))]
          have hcm2 := ne_list' hhd
          have hxy := HXY.out.1 (by rw [er1]; decide)
          have hx := empty_list hxy.1
          have hy := empty_list hxy.2
          subst er1
          clear hhd HE2 HXY hxy
          go_wp2_with fail
          go_ret
          exact ⟨rfl, b7⟩
end Go.Proofs.YtpkkhkkkgjhkeaaGreat
