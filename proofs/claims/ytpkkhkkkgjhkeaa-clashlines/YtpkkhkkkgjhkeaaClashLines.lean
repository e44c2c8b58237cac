/-
  THE WALK of signetlaw.ClashLines (P12).
-/
import Derived.Test.YtpkkhkkkgjhkeaaClashTwo
import Derived.Test.YtpkkhkkkgjhkeaaRefLook
namespace Go.Proofs.Ytpkkhkkkgjhkeaa
open Go.RowKit
set_option maxRecDepth 100000
attribute [local go_sem ↓] Go.wp_at_zero Go.wp_at_succ

theorem empty_list {x : ByteArray} (h : x = ByteArray.empty) : x.toList.isEmpty = true := by rw [h, ByteArray.toList_eq]; rfl

set_option maxHeartbeats 12800000 in
/-- signetlaw.ClashLines. -/
theorem lawClashLines_any (b c hd : ByteArray) (w : World) (hbz : b.size ≤ 140737488355328) (hcz : c.size ≤ 140737488355328) :
    Calls Try.prog 9 #[.string b, .string c, .string hd] w fun e w' => e = .returned (.bool true) ∧ Below w.heap.size w w' := by
  have hc0 := fun W => clashLine_any b c hd W
  have hc1 := fun W => refLook_any b hd W hbz
  have hc2 := fun W => refLook_any c hd W hcz
  have HF1 : Hid (Sg.lookErr b hd = 0 → (Sg.bunL (Sg.tx b)).Fine) := fun h => Sg.bunL_fine (Sg.lookErr_ok h).1
  have HF2 : Hid (Sg.lookErr c hd = 0 → (Sg.bunL (Sg.tx c)).Fine) := fun h => Sg.bunL_fine (Sg.lookErr_ok h).1
  have HE : Hid (Sg.clashErr b c hd = if Sg.lookErr b hd ≠ 0 then Sg.lookErr b hd else if Sg.lookErr c hd ≠ 0 then Sg.lookErr c hd else
    if ((Sg.bunL (Sg.tx b)).per = (Sg.bunL (Sg.tx c)).per ∧ (Sg.bunL (Sg.tx b)).line = (Sg.bunL (Sg.tx c)).line) ∧ ¬ ((Sg.bunL (Sg.tx b)).total = (Sg.bunL (Sg.tx c)).total ∧ (Sg.bunL (Sg.tx b)).drls = (Sg.bunL (Sg.tx c)).drls) then 0 else 7) := rfl
  generalize Sg.clashErr b c hd = er at *
  generalize Sg.lookErr b hd = e1 at *
  generalize Sg.lookErr c hd = e2 at *
  generalize Sg.bunL (Sg.tx b) = n1 at *
  generalize Sg.bunL (Sg.tx c) = n2 at *
  clear hbz hcz
  go_enter Try.func9, Try.ntmps9
  go_wp2_with fail
  refine (hc0 _).mono ?_
  rintro e w1 ⟨b1, x, y, rfl, HXY⟩
  clear hc0
  go_wp2_with fail
  refine (hc1 _).mono ?_
  rintro e w2 ⟨b2, hcase1⟩
  have b2' := b1.trans (b2.mono b1.size)
  clear hc1 b1 b2
  rcases hcase1 with ⟨hne, rfl⟩ | ⟨h0, vD, rfl, hO⟩
  · have HX : Hid (er = e1) := by show _ = _; rw [HE.out, if_pos hne]
    have hxy := HXY.out.1 (by rw [HX.out]; exact hne)
    have hx := empty_list hxy.1
    have hy := empty_list hxy.2
    have q0 : (e1 == 0) = false := by simp [hne]
    have b3 : Below w.heap.size w (w2.alloc (.cells #[.int .i64 0, .int .i64 0, .int .i64 0, .slice none 0 0] 74)) := b2'.alloc b2'.size _
    have er1 := HX.out
    subst er1
    clear HX hne HE HF1 HF2 HXY hxy b2'
    go_wp2_with fail
    refine (hc2 _).mono ?_
    rintro e w4 ⟨b4, hcase2⟩
    have b4' := b3.trans (b4.mono b3.size)
    clear hc2 b3 b4
    rcases hcase2 with ⟨_, rfl⟩ | ⟨_, vE, rfl, hP⟩
    · have b5 : Below w.heap.size w (w4.alloc (.cells #[.int .i64 0, .int .i64 0, .int .i64 0, .slice none 0 0] 74)) := b4'.alloc b4'.size _
      go_wp2_with fail
      go_ret
      exact ⟨rfl, b5⟩
    · obtain ⟨aoE, capE, eD, _⟩ := hP.shape
      subst eD
      have b5 : Below w.heap.size w (w4.alloc (.cells #[.int .i64 (n2.per : Int), .int .i64 (n2.line : Int), .int .i64 n2.total, .slice aoE n2.drls.length capE] 74)) := b4'.alloc b4'.size _
      clear hP
      go_wp2_with fail
      go_ret
      exact ⟨rfl, b5⟩
  · subst h0
    obtain ⟨aoD, capD, eD, _⟩ := hO.shape
    subst eD
    have aB : Below w2.heap.size w2 (w2.alloc (.cells #[.int .i64 (n1.per : Int), .int .i64 (n1.line : Int), .int .i64 n1.total, .slice aoD n1.drls.length capD] 74)) := (Below.refl _ _).alloc (Nat.le_refl _) _
    have q1 := Quad.new w2 (.int .i64 (n1.per : Int)) (.int .i64 (n1.line : Int)) (.int .i64 n1.total) (.slice aoD n1.drls.length capD) 74
    have o1 := hO.below aB
    have b3 := b2'.trans (aB.mono b2'.size)
    obtain ⟨g1, eg1⟩ : ∃ g1, w2.heap.size = g1 := ⟨_, rfl⟩
    clear hO b2' aB
    go_wp2_with fail
    generalize (w2.alloc (.cells #[.int .i64 (n1.per : Int), .int .i64 (n1.line : Int), .int .i64 n1.total, .slice aoD n1.drls.length capD] 74)) = w3 at *
    rw [eg1] at q1
    try rw [eg1]
    clear eg1
    refine (hc2 _).mono ?_
    rintro e w4 ⟨b4, hcase2⟩
    have b4' := b3.trans (b4.mono b3.size)
    have q1' := q1.below b4
    have o1' := o1.below b4
    clear hc2 b3 b4 q1 o1
    rcases hcase2 with ⟨hne, rfl⟩ | ⟨h0, vE, rfl, hP⟩
    · have HX : Hid (er = e2) := by show _ = _; rw [HE.out, if_neg (by simp), if_pos hne]
      have hxy := HXY.out.1 (by rw [HX.out]; exact hne)
      have hx := empty_list hxy.1
      have hy := empty_list hxy.2
      have q0 : (e2 == 0) = false := by simp [hne]
      have b5 : Below w.heap.size w (w4.alloc (.cells #[.int .i64 0, .int .i64 0, .int .i64 0, .slice none 0 0] 74)) := b4'.alloc b4'.size _
      have er1 := HX.out
      subst er1
      clear HX hne HE HF1 HF2 HXY hxy b4' q1' o1'
      go_wp2_with fail
      go_ret
      exact ⟨rfl, b5⟩
    · subst h0
      obtain ⟨aoE, capE, eD, _⟩ := hP.shape
      subst eD
      have f1 := HF1.out (by first | rfl | trivial)
      have f2 := HF2.out (by first | rfl | trivial)
      have aB : Below w4.heap.size w4 (w4.alloc (.cells #[.int .i64 (n2.per : Int), .int .i64 (n2.line : Int), .int .i64 n2.total, .slice aoE n2.drls.length capE] 74)) := (Below.refl _ _).alloc (Nat.le_refl _) _
      have q2 := Quad.new w4 (.int .i64 (n2.per : Int)) (.int .i64 (n2.line : Int)) (.int .i64 n2.total) (.slice aoE n2.drls.length capE) 74
      have q1 := q1'.below aB
      have o1 := o1'.below aB
      have o2 := hP.below aB
      have b5 := b4'.trans (aB.mono b4'.size)
      obtain ⟨g2, eg2⟩ : ∃ g2, w4.heap.size = g2 := ⟨_, rfl⟩
      have HE2 : Hid (er = if ((n1.per = n2.per ∧ n1.line = n2.line) ∧ ¬ (n1.total = n2.total ∧ n1.drls = n2.drls)) then 0 else 7) := by
        show _ = _
        rw [HE.out, if_neg (by simp), if_neg (by simp)]
      clear hP b4' aB q1' o1' HE HF1 HF2
      go_upto_region 7 with fail
      generalize (w4.alloc (.cells #[.int .i64 (n2.per : Int), .int .i64 (n2.line : Int), .int .i64 n2.total, .slice aoE n2.drls.length capE] 74)) = w5 at *
      rw [eg2] at q2
      try rw [eg2]
      clear eg2
      obtain ⟨a0, a1, a2, a3⟩ := q1.cells
      obtain ⟨d0, d1, d2, d3⟩ := q2.cells
      have in1 : DrlsIn w5 aoD n1.drls := by
        obtain ⟨_, _, e, hi⟩ := o1.shape
        simp only [Value.slice.injEq] at e
        rw [e.1]
        exact hi
      have in2 : DrlsIn w5 aoE n2.drls := by
        obtain ⟨_, _, e, hi⟩ := o2.shape
        simp only [Value.slice.injEq] at e
        rw [e.1]
        exact hi
      obtain ⟨r, hr⟩ : ∃ r : Bool, r = true ↔ n1.drls = n2.drls ∧ (n1.per : Int) = (n2.per : Int) ∧ (n1.line : Int) = (n2.line : Int) ∧ n1.total = n2.total := ⟨decide (n1.drls = n2.drls ∧ (n1.per : Int) = (n2.per : Int) ∧ (n1.line : Int) = (n2.line : Int) ∧ n1.total = n2.total), by rw [decide_eq_true_eq]⟩
      have hcall := sameLine_any (n1.per : Int) (n1.line : Int) n1.total (n2.per : Int) (n2.line : Int) n2.total n1.drls n2.drls aoD aoE n1.drls.length n2.drls.length capD capE w5 rfl rfl (by have := f1.many; omega) (by have := f2.many; omega) in1 in2 r hr
      have HR : Hid (r = true ↔ n1.drls = n2.drls ∧ (n1.per : Int) = (n2.per : Int) ∧ (n1.line : Int) = (n2.line : Int) ∧ n1.total = n2.total) := hr
      clear hr in1 in2 o1 o2 f1 f2
      go_wp2_with fail
      refine hcall.mono ?_
      rintro e w6 ⟨rfl, hb6⟩
      have b6 := b5.trans (hb6.mono b5.size)
      obtain ⟨p0, p1, p2, p3⟩ := (q1.below hb6).cells
      obtain ⟨s0, s1, s2, s3⟩ := (q2.below hb6).cells
      clear hcall q1 q2 hb6 b5 a0 a1 a2 a3 d0 d1 d2 d3
      by_cases one : n1.per = n2.per ∧ n1.line = n2.line
      · by_cases same : n1.total = n2.total ∧ n1.drls = n2.drls
        · have hrt : r = true := HR.out.2 ⟨same.2, by rw [one.1], by rw [one.2], same.1⟩
          have er1 : er = 7 := by rw [HE2.out, if_neg (fun h => h.2 same)]
          have hxy := HXY.out.1 (by rw [er1]; decide)
          have hx := empty_list hxy.1
          have hy := empty_list hxy.2
          subst er1 hrt
          clear HE2 HR HXY hxy one same
          go_wp2_with fail
          go_ret
          exact ⟨rfl, b6⟩
        · have hrt : r = false := bool_of HR.out (fun h => same ⟨h.2.2.2, h.1⟩)
          have er1 : er = 0 := by rw [HE2.out, if_pos ⟨one, same⟩]
          obtain ⟨hne, hsum, hxz, hyz⟩ := HXY.out.2 er1
          have hcmp := ne_list' hne
          have hcm2 := eq_list' hsum
          have hs1 := fun W => refSum_any x W (by unfold maxLen; omega)
          have hs2 := fun W => refSum_any y W (by unfold maxLen; omega)
          rw [one.1] at p0
          rw [one.2] at p1
          subst er1 hrt
          clear HE2 HR HXY one same hne hsum hxz hyz
          go_wp2_with fail
          refine (hs1 _).mono ?_
          rintro e w7 ⟨rfl, hb7⟩
          have b7 := b6.trans (hb7.mono b6.size)
          clear hs1 hb7
          go_wp2_with fail
          refine (hs2 _).mono ?_
          rintro e w8 ⟨rfl, hb8⟩
          have b8 := b7.trans (hb8.mono b7.size)
          clear hs2 hb8
          go_wp2_with fail
          go_ret
          exact ⟨rfl, b8⟩
      · have hrt : r = false := bool_of HR.out (fun h => one ⟨by omega, by omega⟩)
        have er1 : er = 7 := by rw [HE2.out, if_neg (fun h => one h.1)]
        have hxy := HXY.out.1 (by rw [er1]; decide)
        have hx := empty_list hxy.1
        have hy := empty_list hxy.2
        subst er1 hrt
        by_cases hp : n1.per = n2.per
        · have hl : ((n1.line : Int) == (n2.line : Int)) = false := by
            have : ¬ n1.line = n2.line := fun h => one ⟨hp, h⟩
            simp; omega
          rw [hp] at p0
          clear HE2 HR HXY hxy one hp
          go_wp2_with fail
          go_ret
          exact ⟨rfl, b6⟩
        · have hl : ((n1.per : Int) == (n2.per : Int)) = false := by simp; omega
          clear HE2 HR HXY hxy one hp
          go_wp2_with fail
          go_ret
          exact ⟨rfl, b6⟩
end Go.Proofs.Ytpkkhkkkgjhkeaa
