/-
  THE WALK of audit.ClashLine (P12).
-/
import Derived.Test.YtpkkhkkkgjhkeabGreatClashLine
import Derived.Test.YtpkkhkkkgjhkeabGreatClashMath
import Derived.Test.YtpkkhkkkgjhkeabGreatLineSame
namespace Go.Proofs.YtpkkhkkkgjhkeabGreat
open Go.RowKit
set_option maxRecDepth 100000
attribute [local go_sem ↓] Go.wp_at_zero Go.wp_at_succ

theorem Sg.summed_found {n1 n2 : Sg.Bun} {hd : ByteArray} (f1 : n1.Fine) (f2 : n2.Fine) (k1 : Sg.lookOk n1 hd = true) (k2 : Sg.lookOk n2 hd = true) (hp : n1.per = n2.per) (hl : n1.line = n2.line) (hne : ¬ (n1.total = n2.total ∧ n1.drls = n2.drls)) : ∃ x y, Sg.fo (Sg.summedL n1) (Sg.summedL n2) = some (x, y) ∧ x ≠ y ∧ Sg.sumB x = Sg.sumB y ∧ x.size ≤ 140737488355328 ∧ y.size ≤ 140737488355328 := by
  obtain ⟨x, y, h, h1, h2⟩ := Sg.clash_lines f1 f2 k1 k2 hp hl hne
  have hm := Sg.fo_mem _ _ _ _ h
  exact ⟨x, y, h, h1, h2, Sg.summedL_short f1 x hm.1, Sg.summedL_short f2 y hm.2⟩

theorem summedL_len' {n : Sg.Bun} (f : n.Fine) : (Sg.summedL n).length ≤ 140737488355328 := by
  have := Sg.summedL_len f
  omega

set_option maxHeartbeats 12800000 in
/-- audit.ClashLine. -/
theorem clashLine_any (b c hd : ByteArray) (w : World) :
    Calls Tryz.prog 12 #[.string b, .string c, .string hd] w fun e w' => Below w.heap.size w w' ∧ ∃ x y, e = .returned (.tuple #[.string x, .string y, .int .i64 (Sg.clashErr b c hd)]) ∧ Hid ((Sg.clashErr b c hd ≠ 0 → x = ByteArray.empty ∧ y = ByteArray.empty) ∧ (Sg.clashErr b c hd = 0 → x ≠ y ∧ Sg.sumB x = Sg.sumB y ∧ x.size ≤ 140737488355328 ∧ y.size ≤ 140737488355328)) := by
  have hc1 := fun W => lookInto_any b hd W
  have hc2 := fun W => lookInto_any c hd W
  have HF1 : Hid (Sg.lookErr b hd = 0 → (Sg.bunL (Sg.tx b)).Fine ∧ Sg.lookOk (Sg.bunL (Sg.tx b)) hd = true) := fun h => ⟨Sg.bunL_fine (Sg.lookErr_ok h).1, (Sg.lookErr_ok h).2⟩
  have HF2 : Hid (Sg.lookErr c hd = 0 → (Sg.bunL (Sg.tx c)).Fine ∧ Sg.lookOk (Sg.bunL (Sg.tx c)) hd = true) := fun h => ⟨Sg.bunL_fine (Sg.lookErr_ok h).1, (Sg.lookErr_ok h).2⟩
  have HE : Hid (Sg.clashErr b c hd = if Sg.lookErr b hd ≠ 0 then Sg.lookErr b hd else if Sg.lookErr c hd ≠ 0 then Sg.lookErr c hd else
    if ((Sg.bunL (Sg.tx b)).per = (Sg.bunL (Sg.tx c)).per ∧ (Sg.bunL (Sg.tx b)).line = (Sg.bunL (Sg.tx c)).line) ∧ ¬ ((Sg.bunL (Sg.tx b)).total = (Sg.bunL (Sg.tx c)).total ∧ (Sg.bunL (Sg.tx b)).drls = (Sg.bunL (Sg.tx c)).drls) then 0 else 7) := rfl
  generalize Sg.clashErr b c hd = er at *
  generalize Sg.lookErr b hd = e1 at *
  generalize Sg.lookErr c hd = e2 at *
  generalize Sg.bunL (Sg.tx b) = n1 at *
  generalize Sg.bunL (Sg.tx c) = n2 at *
  go_enter Tryz.func12, Tryz.ntmps12
  go_wp2_with fail
  refine (hc1 _).mono ?_
  rintro e w1 ⟨b1, hcase⟩
  clear hc1
  rcases hcase with ⟨hne, rfl⟩ | ⟨h0, vD, vH, vP, rfl, hO⟩
  · have HX : Hid (er = e1 ∧ e1 ≠ 0) := ⟨by rw [HE.out, if_pos hne], hne⟩
    have q0 : (e1 == 0) = false := by simp [hne]
    have bb : Below w.heap.size w (w1.alloc (.cells #[.int .i64 0, .int .i64 0, .int .i64 0, .slice none 0 0, .slice none 0 0, .slice none 0 0, .string { data := #[] }] 73)) := b1.alloc b1.size _
    clear hne HE HF1 HF2 hc2
    go_wp2_with fail
    refine bodyPost_ret (v := .tuple #[.string { data := #[] }, .string { data := #[] }, .int .i64 e1]) (by simp [results, Tryz.results12, go_sem]) rfl ⟨bb, ByteArray.empty, ByteArray.empty, by rw [HX.out.1]; rfl, fun _ => ⟨rfl, rfl⟩, fun h => absurd h ?_⟩
    rw [HX.out.1]; exact HX.out.2
  · subst h0
    obtain ⟨aoD, capD, eD⟩ := hO.drls.len_
    obtain ⟨aoH, capH, eH⟩ := hO.hdrs.len_
    obtain ⟨aoP, capP, eP⟩ := hO.path.len_
    subst eD eH eP
    have aB : Below w1.heap.size w1 (w1.alloc (.cells #[.int .i64 (n1.per : Int), .int .i64 (n1.line : Int), .int .i64 n1.total, .slice aoD n1.drls.length capD, .slice aoH n1.hdrs.length capH, .slice aoP n1.path.length capP, .string hd] 73)) := (Below.refl _ _).alloc (Nat.le_refl _) _
    have hA2 := BBox.new w1 (.int .i64 (n1.per : Int)) (.int .i64 (n1.line : Int)) (.int .i64 n1.total) (.slice aoD n1.drls.length capD) (.slice aoH n1.hdrs.length capH) (.slice aoP n1.path.length capP) (.string hd)
    have hO2 := hO.below aB
    have b2 := b1.trans (aB.mono b1.size)
    obtain ⟨g1, eg1⟩ : ∃ g1, w1.heap.size = g1 := ⟨_, rfl⟩
    clear hO aB b1
    go_wp2_with fail
    generalize (w1.alloc (.cells #[.int .i64 (n1.per : Int), .int .i64 (n1.line : Int), .int .i64 n1.total, .slice aoD n1.drls.length capD, .slice aoH n1.hdrs.length capH, .slice aoP n1.path.length capP, .string hd] 73)) = w2 at *
    rw [eg1] at hA2
    try rw [eg1]
    refine (hc2 _).mono ?_
    rintro e w3 ⟨b3, hcase⟩
    clear hc2
    have hA3 := hA2.below b3
    have hO3 := hO2.below b3
    have b3' := b2.trans (b3.mono b2.size)
    have hg1 := lt_of_block hA2
    have hz3 := b3.size
    clear hA2 hO2 b2 eg1
    rcases hcase with ⟨hne, rfl⟩ | ⟨h0, vE, vG, vQ, rfl, hP⟩
    · have HX : Hid (er = e2 ∧ e2 ≠ 0) := ⟨by rw [HE.out, if_neg (by simp), if_pos hne], hne⟩
      have q0 : (e2 == 0) = false := by simp [hne]
      have bb : Below w.heap.size w (w3.alloc (.cells #[.int .i64 0, .int .i64 0, .int .i64 0, .slice none 0 0, .slice none 0 0, .slice none 0 0, .string { data := #[] }] 73)) := b3'.alloc b3'.size _
      clear hne HE HF1 HF2 hA3 hO3 b3 b3'
      go_wp2_with fail
      refine bodyPost_ret (v := .tuple #[.string { data := #[] }, .string { data := #[] }, .int .i64 e2]) (by simp [results, Tryz.results12, go_sem]) rfl ⟨bb, ByteArray.empty, ByteArray.empty, by rw [HX.out.1]; rfl, fun _ => ⟨rfl, rfl⟩, fun h => absurd h ?_⟩
      rw [HX.out.1]; exact HX.out.2
    · subst h0
      obtain ⟨aoE, capE, eD⟩ := hP.drls.len_
      obtain ⟨aoG, capG, eH⟩ := hP.hdrs.len_
      obtain ⟨aoQ, capQ, eP⟩ := hP.path.len_
      subst eD eH eP
      obtain ⟨f1, k1⟩ := HF1.out (by first | rfl | trivial)
      obtain ⟨f2, k2⟩ := HF2.out (by first | rfl | trivial)
      have aB : Below w3.heap.size w3 (w3.alloc (.cells #[.int .i64 (n2.per : Int), .int .i64 (n2.line : Int), .int .i64 n2.total, .slice aoE n2.drls.length capE, .slice aoG n2.hdrs.length capG, .slice aoQ n2.path.length capQ, .string hd] 73)) := (Below.refl _ _).alloc (Nat.le_refl _) _
      have hB4 := BBox.new w3 (.int .i64 (n2.per : Int)) (.int .i64 (n2.line : Int)) (.int .i64 n2.total) (.slice aoE n2.drls.length capE) (.slice aoG n2.hdrs.length capG) (.slice aoQ n2.path.length capQ) (.string hd)
      have hA4 := hA3.below aB
      have hO4 := hO3.below aB
      have hP4 := hP.below aB
      have b4 := b3'.trans (aB.mono b3'.size)
      obtain ⟨g2, eg2⟩ : ∃ g2, w3.heap.size = g2 := ⟨_, rfl⟩
      have HSall : Hid (∀ W, BBox W g1 (.int .i64 (n1.per : Int)) (.int .i64 (n1.line : Int)) (.int .i64 n1.total) (.slice aoD n1.drls.length capD) (.slice aoH n1.hdrs.length capH) (.slice aoP n1.path.length capP) (.string hd) → BBox W g2 (.int .i64 (n2.per : Int)) (.int .i64 (n2.line : Int)) (.int .i64 n2.total) (.slice aoE n2.drls.length capE) (.slice aoG n2.hdrs.length capG) (.slice aoQ n2.path.length capQ) (.string hd) → W.cell? ⟨g1, 0, none⟩ = some (.int .i64 (n1.per : Int)) ∧ W.cell? ⟨g1, 1, none⟩ = some (.int .i64 (n1.line : Int)) ∧ W.cell? ⟨g1, 2, none⟩ = some (.int .i64 n1.total) ∧ W.cell? ⟨g1, 3, none⟩ = some (.slice aoD n1.drls.length capD) ∧ W.cell? ⟨g1, 4, none⟩ = some (.slice aoH n1.hdrs.length capH) ∧ W.cell? ⟨g1, 5, none⟩ = some (.slice aoP n1.path.length capP) ∧ W.cell? ⟨g1, 6, none⟩ = some (.string hd) ∧ W.cell? ⟨g2, 0, none⟩ = some (.int .i64 (n2.per : Int)) ∧ W.cell? ⟨g2, 1, none⟩ = some (.int .i64 (n2.line : Int)) ∧ W.cell? ⟨g2, 2, none⟩ = some (.int .i64 n2.total) ∧ W.cell? ⟨g2, 3, none⟩ = some (.slice aoE n2.drls.length capE) ∧ W.cell? ⟨g2, 4, none⟩ = some (.slice aoG n2.hdrs.length capG) ∧ W.cell? ⟨g2, 5, none⟩ = some (.slice aoQ n2.path.length capQ) ∧ W.cell? ⟨g2, 6, none⟩ = some (.string hd)) := by
        intro W hA hB
        obtain ⟨a0, a1, a2, a3, a4, a5, a6⟩ := hA.cells
        obtain ⟨d0, d1, d2, d3, d4, d5, d6⟩ := hB.cells
        exact ⟨a0, a1, a2, a3, a4, a5, a6, d0, d1, d2, d3, d4, d5, d6⟩
      have hone := fun W (r : Bool) (hr : r = true ↔ (n1.per : Int) = (n2.per : Int) ∧ (n1.line : Int) = (n2.line : Int)) => isOneLine_any (n1.per : Int) (n1.line : Int) n1.total (n2.per : Int) (n2.line : Int) n2.total (.slice aoD n1.drls.length capD) (.slice aoE n2.drls.length capE) W r hr
      have hsame := fun W (q1 : DrlsIn W aoD n1.drls) (q2 : DrlsIn W aoE n2.drls) (r : Bool) (hr : r = true ↔ n1.total = n2.total ∧ n1.drls = n2.drls) => isSame_any (n1.per : Int) (n1.line : Int) n1.total (n2.per : Int) (n2.line : Int) n2.total n1.drls n2.drls aoD aoE n1.drls.length n2.drls.length capD capE W rfl rfl (by have := f1.many; omega) (by have := f2.many; omega) q1 q2 r hr
      have HE2 : Hid (er = if ((n1.per = n2.per ∧ n1.line = n2.line) ∧ ¬ (n1.total = n2.total ∧ n1.drls = n2.drls)) then 0 else 7) := by
        show _ = _
        rw [HE.out, if_neg (by simp), if_neg (by simp)]
      clear hO3 hA3 aB b3 b3' hP HE HF1 HF2
      go_upto_region 7 with fail
      generalize (w3.alloc (.cells #[.int .i64 (n2.per : Int), .int .i64 (n2.line : Int), .int .i64 n2.total, .slice aoE n2.drls.length capE, .slice aoG n2.hdrs.length capG, .slice aoQ n2.path.length capQ, .string hd] 73)) = w4 at *
      rw [eg2] at hB4
      try rw [eg2]
      have hg2 := lt_of_block hB4
      clear eg2
      obtain ⟨a0, a1, a2, a3, a4, a5, a6, d0, d1, d2, d3, d4, d5, d6⟩ := HSall.out _ hA4 hB4
      by_cases one : n1.per = n2.per ∧ n1.line = n2.line
      · have hc := hone w4 true ⟨fun _ => ⟨by rw [one.1], by rw [one.2]⟩, fun _ => rfl⟩
        have inD : ∀ W, Below w4.heap.size w4 W → DrlsIn W aoD n1.drls ∧ DrlsIn W aoE n2.drls := fun W hb => by
          obtain ⟨_, _, e, hi⟩ := (hO4.below hb).drls.shape
          obtain ⟨_, _, e', hi'⟩ := (hP4.below hb).drls.shape
          simp only [Value.slice.injEq] at e e'
          rw [e.1, e'.1]
          exact ⟨hi, hi'⟩
        clear hone
        by_cases same : n1.total = n2.total ∧ n1.drls = n2.drls
        · have HX : Hid (er = 7) := by show _ = _; rw [HE2.out, if_neg (fun h => h.2 same)]
          have hcs := fun W (hb : Below w4.heap.size w4 W) => hsame W (inD W hb).1 (inD W hb).2 true ⟨fun _ => same, fun _ => rfl⟩
          have HCS : Hid (∀ W, Below w4.heap.size w4 W → Calls Tryz.prog 25 #[.agg #[.int .i64 (n1.per : Int), .int .i64 (n1.line : Int), .int .i64 n1.total, .slice aoD n1.drls.length capD], .agg #[.int .i64 (n2.per : Int), .int .i64 (n2.line : Int), .int .i64 n2.total, .slice aoE n2.drls.length capE]] W fun e w' => e = .returned (.bool true) ∧ Below W.heap.size W w') := hcs
          clear hcs hsame HE2 inD same one
          go_wp2_with fail
          refine hc.mono ?_
          rintro e w5 ⟨rfl, hb5⟩
          obtain ⟨x0, x1, x2, x3, x4, x5, x6, y0, y1, y2, y3, y4, y5, y6⟩ := HSall.out _ (hA4.below hb5) (hB4.below hb5)
          have b5 := b4.trans (hb5.mono b4.size)
          have hcs5 := HCS.out w5 hb5
          clear hc HSall HCS hA4 hB4 hO4 hP4 a0 a1 a2 a3 a4 a5 a6 d0 d1 d2 d3 d4 d5 d6
          go_wp2_with fail
          refine hcs5.mono ?_
          rintro e w6 ⟨rfl, hb6⟩
          have bb := b5.trans (hb6.mono b5.size)
          clear hcs5 hb5 hb6
          go_wp2_with fail
          refine bodyPost_ret (v := .tuple #[.string { data := #[] }, .string { data := #[] }, .int .i64 7]) (by simp [results, Tryz.results12, go_sem]) rfl ⟨bb, ByteArray.empty, ByteArray.empty, by rw [HX.out]; rfl, fun _ => ⟨rfl, rfl⟩, fun h => absurd h ?_⟩
          rw [HX.out]; decide
        · have HX : Hid (er = 0) := by show _ = _; rw [HE2.out, if_pos ⟨one, same⟩]
          obtain ⟨x, y, hfo, hne, hsum, hxz, hyz⟩ := Sg.summed_found f1 f2 k1 k2 one.1 one.2 same
          have HXY : Hid (x ≠ y ∧ Sg.sumB x = Sg.sumB y ∧ x.size ≤ 140737488355328 ∧ y.size ≤ 140737488355328) := ⟨hne, hsum, hxz, hyz⟩
          have hcs := fun W (hb : Below w4.heap.size w4 W) => hsame W (inD W hb).1 (inD W hb).2 false ⟨fun h => by simp at h, fun h => absurd h same⟩
          have HCS : Hid (∀ W, Below w4.heap.size w4 W → Calls Tryz.prog 25 #[.agg #[.int .i64 (n1.per : Int), .int .i64 (n1.line : Int), .int .i64 n1.total, .slice aoD n1.drls.length capD], .agg #[.int .i64 (n2.per : Int), .int .i64 (n2.line : Int), .int .i64 n2.total, .slice aoE n2.drls.length capE]] W fun e w' => e = .returned (.bool false) ∧ Below W.heap.size W w') := hcs
          clear hcs hsame HE2 inD same one hne hsum hxz hyz
          go_wp2_with fail
          refine hc.mono ?_
          rintro e w5 ⟨rfl, hb5⟩
          have hA5 := hA4.below hb5
          have hB5 := hB4.below hb5
          have hO5 := hO4.below hb5
          have hP5 := hP4.below hb5
          obtain ⟨x0, x1, x2, x3, x4, x5, x6, y0, y1, y2, y3, y4, y5, y6⟩ := HSall.out _ hA5 hB5
          have b5 := b4.trans (hb5.mono b4.size)
          have hcs5 := HCS.out w5 hb5
          clear hc HCS hA4 hB4 hO4 hP4 a0 a1 a2 a3 a4 a5 a6 d0 d1 d2 d3 d4 d5 d6 b4 hb5
          go_wp2_with fail
          refine hcs5.mono ?_
          rintro e w6 ⟨rfl, hb6⟩
          have hA6 := hA5.below hb6
          have hB6 := hB5.below hb6
          have hO6 := hO5.below hb6
          have hP6 := hP5.below hb6
          have b6 := b5.trans (hb6.mono b5.size)
          have hS6 := HSall.out _ hA6 hB6
          have hS6d := HSall.out w6.drew hA6 hB6
          have hl1 := summedL_len' f1
          have hl2 := summedL_len' f2
          clear hcs5 hA5 hB5 hO5 hP5 x0 x1 x2 x3 x4 x5 x6 y0 y1 y2 y3 y4 y5 y6 b5 hb6
          go_upto_region 9 with fail
          have HX1 : Hid (∀ W B, BunOwn W B (.slice aoD n1.drls.length capD) (.slice aoH n1.hdrs.length capH) (.slice aoP n1.path.length capP) n1 → Calls Tryz.prog 27 #[.agg #[.int .i64 (n1.per : Int), .int .i64 (n1.line : Int), .int .i64 n1.total, .slice aoD n1.drls.length capD, .slice aoH n1.hdrs.length capH, .slice aoP n1.path.length capP, .string hd]] W fun e w' => ∃ v, e = .returned v ∧ Hid (OwnStrs w' W.heap.size v (Sg.summedL n1)) ∧ Below W.heap.size W w') := fun W B h => bunSummed_any n1 _ _ _ _ B W f1 h
          have HX2 : Hid (∀ W B, BunOwn W B (.slice aoE n2.drls.length capE) (.slice aoG n2.hdrs.length capG) (.slice aoQ n2.path.length capQ) n2 → Calls Tryz.prog 27 #[.agg #[.int .i64 (n2.per : Int), .int .i64 (n2.line : Int), .int .i64 n2.total, .slice aoE n2.drls.length capE, .slice aoG n2.hdrs.length capG, .slice aoQ n2.path.length capQ, .string hd]] W fun e w' => ∃ v, e = .returned v ∧ Hid (OwnStrs w' W.heap.size v (Sg.summedL n2)) ∧ Below W.heap.size W w') := fun W B h => bunSummed_any n2 _ _ _ _ B W f2 h
          have HFO : Hid (Sg.fo (Sg.summedL n1) (Sg.summedL n2) = some (x, y)) := hfo
          clear hfo f1 f2 k1 k2
          go_region_held3 (fun w' => w'.cell? ⟨g1, 0, none⟩ = some (.int .i64 (n1.per : Int)) ∧ w'.cell? ⟨g1, 1, none⟩ = some (.int .i64 (n1.line : Int)) ∧ w'.cell? ⟨g1, 2, none⟩ = some (.int .i64 n1.total) ∧ w'.cell? ⟨g1, 3, none⟩ = some (.slice aoD n1.drls.length capD) ∧ w'.cell? ⟨g1, 4, none⟩ = some (.slice aoH n1.hdrs.length capH) ∧ w'.cell? ⟨g1, 5, none⟩ = some (.slice aoP n1.path.length capP) ∧ w'.cell? ⟨g1, 6, none⟩ = some (.string hd) ∧ w'.cell? ⟨g2, 0, none⟩ = some (.int .i64 (n2.per : Int)) ∧ w'.cell? ⟨g2, 1, none⟩ = some (.int .i64 (n2.line : Int)) ∧ w'.cell? ⟨g2, 2, none⟩ = some (.int .i64 n2.total) ∧ w'.cell? ⟨g2, 3, none⟩ = some (.slice aoE n2.drls.length capE) ∧ w'.cell? ⟨g2, 4, none⟩ = some (.slice aoG n2.hdrs.length capG) ∧ w'.cell? ⟨g2, 5, none⟩ = some (.slice aoQ n2.path.length capQ) ∧ w'.cell? ⟨g2, 6, none⟩ = some (.string hd)) (first | with_reducible assumption | exact hS6d)
            (first
              | (go_at_call 27; refine (HX2.out _ _ hP7).mono ?_; rintro e w8 ⟨v8, rfl, HO8, hb8⟩; have hh8 := HSall.out _ (hA7.below hb8) (hB7.below hb8); have b8 := b7.trans (hb8.mono b7.size); obtain ⟨ao8, cap8, ev8, _, _, hin8⟩ := HO8.out.shape; subst ev8; have hin7' := strsIn_drew hin7 hb8)
              | (go_at_call 27; refine (HX1.out _ _ (by first | exact hO6 | exact hO6.below (Below.refl _ _).drew)).mono ?_; rintro e w7 ⟨v7, rfl, HO7, hb7'⟩; have hb7 : Below w6.heap.size w6 w7 := (by first | exact hb7' | exact ((Below.refl w6.heap.size w6).drew).trans hb7'); have hA7 := hA6.below hb7; have hB7 := hB6.below hb7; have hP7 := hP6.below hb7; have hh7 := HSall.out _ hA7 hB7; have b7 := b6.trans (hb7.mono b6.size); obtain ⟨ao7, cap7, ev7, _, _, hin7⟩ := HO7.out.shape; subst ev7)
              | (go_at_call 26; refine (firstOther_any _ _ x y ao7 ao8 _ _ cap7 cap8 _ rfl rfl hl1 hin7' hin8 HFO.out).mono ?_; rintro e w9 ⟨rfl, hb9⟩; have hh9 := HSall.out _ ((hA7.below hb8).below hb9) ((hB7.below hb8).below hb9); have b9 := b8.trans (hb9.mono b8.size)))
          clear hS6 hS6d HX1 HX2 HFO HSall
          go_wp2_with fail
          refine bodyPost_ret (v := .tuple #[.string x, .string y, .int .i64 0]) (by simp [results, Tryz.results12, go_sem]) rfl ⟨b9, x, y, by rw [HX.out], fun h => absurd HX.out h, fun _ => HXY.out⟩
      · have hc := hone w4 false ⟨fun h => by simp at h, fun h => absurd ⟨by omega, by omega⟩ one⟩
        have HX : Hid (er = 7) := by show _ = _; rw [HE2.out, if_neg (fun h => one h.1)]
        clear hone hsame HSall HE2
        go_wp2_with fail
        refine hc.mono ?_
        rintro e w5 ⟨rfl, hb5⟩
        have bb := b4.trans (hb5.mono b4.size)
        clear hc hA4 hB4 hO4 hP4
        go_wp2_with fail
        refine bodyPost_ret (v := .tuple #[.string { data := #[] }, .string { data := #[] }, .int .i64 7]) (by simp [results, Tryz.results12, go_sem]) rfl ⟨bb, ByteArray.empty, ByteArray.empty, by rw [HX.out]; rfl, fun _ => ⟨rfl, rfl⟩, fun h => absurd h ?_⟩
        rw [HX.out]; decide
end Go.Proofs.YtpkkhkkkgjhkeabGreat
