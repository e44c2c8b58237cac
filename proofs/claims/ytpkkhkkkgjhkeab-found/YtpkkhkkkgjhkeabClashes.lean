/-
  THE WALKS of audit.Clash, signetlaw.Clashes (P11).
-/
import Derived.Test.YtpkkhkkkgjhkeabBookSummed
import Derived.Test.YtpkkhkkkgjhkeabCursor
namespace Go.Proofs.Ytpkkhkkkgjhkeab
namespace Sg
/-- What Clash's error is (P11). -/
def clashBErr (p q : Txt) : Int := if ¬ isPk (pdHist (tx p)) p then 5 else if ¬ isPk (pdHist (tx q)) q then 5 else if p = q ∨ ¬ headOf (pdHist (tx p)) = headOf (pdHist (tx q)) then 7 else 0
theorem clash_found {p q : Txt} (hp : isPk (pdHist (tx p)) p) (hq : isPk (pdHist (tx q)) q) (hne : ¬ p = q) (hh : headOf (pdHist (tx p)) = headOf (pdHist (tx q))) : ∃ x y, fo (summedB (pdHist (tx p))) (summedB (pdHist (tx q))) = some (x, y) ∧ x ≠ y ∧ sumB x = sumB y ∧ x ∈ summedB (pdHist (tx p)) ∧ y ∈ summedB (pdHist (tx q)) := by
  obtain ⟨x, y, h, h1, h2⟩ := clash_books hp.1 hq.1 (pdHist_fits _) (pdHist_fits _) hh (by rw [hp.2, hq.2]; exact hne)
  have hm := fo_mem _ _ _ _ h
  exact ⟨x, y, h, h1, h2, hm.1, hm.2⟩
end Sg
open Go.RowKit
set_option maxRecDepth 100000
attribute [local go_sem ↓] Go.wp_at_zero Go.wp_at_succ

theorem Closed.fine {w : World} {aoA : Option Addr} {nA nP : Nat} {h : Sg.Hist} {A : Value} {ao : Option Addr} {rs : List Rec} {b : Nat} (hC : Closed w aoA nA nP h A ao rs b) (hc : Sg.closeErr h = 0) : ∀ p ∈ h.pers, perFine nA p := by
  intro p hp
  obtain ⟨h1, h2⟩ := Sg.bnd_pers hC.inb p hp
  unfold Sg.closeErr at hc
  rw [if_pos hC.inb] at hc
  refine ⟨h1, fun e he => ⟨(h2 e he).1, (h2 e he).2, fun u hu => ?_⟩⟩
  have h3 := Sg.persTo_ok _ _ _ hc p hp e he u hu
  rw [hC.lenA] at h3
  exact ⟨h3.1, h3.2, (hC.sizQ p hp e he u hu).2⟩
theorem Closed.headOf {w : World} {aoA : Option Addr} {nA nP : Nat} {h : Sg.Hist} {A : Value} {ao : Option Addr} {rs : List Rec} {b : Nat} (hC : Closed w aoA nA nP h A ao rs b) (hc : Sg.closeErr h = 0) : Sg.headOf h = (Sg.hdTo h (Sg.balances h) (Sg.totals h) nP).2 := by
  unfold Sg.headOf
  rw [if_pos hc, hC.lenP]

set_option maxHeartbeats 12800000 in
/-- audit.Clash. -/
theorem clash_any (p q : ByteArray) (w : World) :
    Calls Try.prog 11 #[.string p, .string q] w fun e w' => Below w.heap.size w w' ∧ ∃ x y, e = .returned (.tuple #[.string x, .string y, .int .i64 (Sg.clashBErr p q)]) ∧ Hid ((Sg.clashBErr p q ≠ 0 → x = ByteArray.empty ∧ y = ByteArray.empty) ∧ (Sg.clashBErr p q = 0 → x ≠ y ∧ Sg.sumB x = Sg.sumB y ∧ x.size ≤ 140737488355328 ∧ y.size ≤ 140737488355328)) := by
  have hc1 := fun W => bRead_any p W
  have hc2 := fun W => bRead_any q W
  have HE : Hid (Sg.clashBErr p q = if ¬ Sg.isPk (Sg.pdHist (Sg.tx p)) p then 5 else if ¬ Sg.isPk (Sg.pdHist (Sg.tx q)) q then 5 else if p = q ∨ ¬ Sg.headOf (Sg.pdHist (Sg.tx p)) = Sg.headOf (Sg.pdHist (Sg.tx q)) then 7 else 0) := rfl
  have HFO : Hid (Sg.isPk (Sg.pdHist (Sg.tx p)) p → Sg.isPk (Sg.pdHist (Sg.tx q)) q → ¬ p = q → Sg.headOf (Sg.pdHist (Sg.tx p)) = Sg.headOf (Sg.pdHist (Sg.tx q)) → ∃ x y, Sg.fo (Sg.summedB (Sg.pdHist (Sg.tx p))) (Sg.summedB (Sg.pdHist (Sg.tx q))) = some (x, y) ∧ x ≠ y ∧ Sg.sumB x = Sg.sumB y ∧ x ∈ Sg.summedB (Sg.pdHist (Sg.tx p)) ∧ y ∈ Sg.summedB (Sg.pdHist (Sg.tx q))) := fun a b c d => Sg.clash_found a b c d
  generalize Sg.clashBErr p q = er at *
  generalize Sg.pdHist (Sg.tx p) = h at *
  generalize Sg.pdHist (Sg.tx q) = k at *
  go_enter Try.func11, Try.ntmps11
  go_wp2_with fail
  refine (hc1 _).mono ?_
  rintro e w1 ⟨b1, hcase⟩
  clear hc1
  rcases hcase with ⟨hn, rfl⟩ | ⟨hy, aoA, nA, nP, capA, ao, cap, rs, b, rfl, _, hC, _⟩
  · have HX : Hid (er = 5) := by show _ = _; rw [HE.out, if_pos hn]
    have bb : Below w.heap.size w (w1.alloc (.cells #[nilV, nilV] 55)) := b1.alloc b1.size _
    clear hn HE HFO hc2 b1
    go_wp2_with fail
    exact bodyPost_ret (v := .tuple #[.string { data := #[] }, .string { data := #[] }, .int .i64 5]) (by simp [results, Try.results11, go_sem]) rfl ⟨bb, ByteArray.empty, ByteArray.empty, by rw [HX.out]; rfl, fun _ => ⟨rfl, rfl⟩, fun h => absurd h (by rw [HX.out]; decide)⟩
  · have aB : Below w1.heap.size w1 (w1.alloc (.cells #[.slice aoA nA capA, .slice ao nP cap] 55)) := (Below.refl _ _).alloc (Nat.le_refl _) _
    have hT2 := Two.new w1 (.slice aoA nA capA) (.slice ao nP cap) 55
    have hC2 := hC.below aB
    have b2 := b1.trans (aB.mono b1.size)
    have HY : Hid (Sg.isPk h p) := hy
    obtain ⟨g1, eg1⟩ : ∃ g1, w1.heap.size = g1 := ⟨_, rfl⟩
    clear hC aB b1 hy
    go_wp2_with fail
    generalize (w1.alloc (.cells #[.slice aoA nA capA, .slice ao nP cap] 55)) = w2 at *
    rw [eg1] at hT2
    try rw [eg1]
    clear eg1
    refine (hc2 _).mono ?_
    rintro e w3 ⟨b3, hcase⟩
    clear hc2
    have hT3 := hT2.below b3
    have hC3 := hC2.below b3
    have b3' := b2.trans (b3.mono b2.size)
    clear hT2 hC2 b2 b3
    rcases hcase with ⟨hn, rfl⟩ | ⟨hy, aoC, nC, nQ, capC, aq, cq, rq, bq, rfl, _, hD, _⟩
    · have HX : Hid (er = 5) := by show _ = _; rw [HE.out, if_neg (fun c => c HY.out), if_pos hn]
      have bb : Below w.heap.size w (w3.alloc (.cells #[nilV, nilV] 55)) := b3'.alloc b3'.size _
      clear hn HE HFO b3' hT3 hC3
      go_wp2_with fail
      exact bodyPost_ret (v := .tuple #[.string { data := #[] }, .string { data := #[] }, .int .i64 5]) (by simp [results, Try.results11, go_sem]) rfl ⟨bb, ByteArray.empty, ByteArray.empty, by rw [HX.out]; rfl, fun _ => ⟨rfl, rfl⟩, fun h => absurd h (by rw [HX.out]; decide)⟩
    · have aB : Below w3.heap.size w3 (w3.alloc (.cells #[.slice aoC nC capC, .slice aq nQ cq] 55)) := (Below.refl _ _).alloc (Nat.le_refl _) _
      have hU4 := Two.new w3 (.slice aoC nC capC) (.slice aq nQ cq) 55
      have hT4 := hT3.below aB
      have hC4 := hC3.below aB
      have hD4 := hD.below aB
      have b4 := b3'.trans (aB.mono b3'.size)
      have HZ : Hid (Sg.isPk k q) := hy
      have HE2 : Hid (er = if p = q ∨ ¬ Sg.headOf h = Sg.headOf k then 7 else 0) := by
        show _ = _
        rw [HE.out, if_neg (fun c => c HY.out), if_neg (fun c => c HZ.out)]
      obtain ⟨g2, eg2⟩ : ∃ g2, w3.heap.size = g2 := ⟨_, rfl⟩
      have HSall : Hid (∀ W, Two W g1 (.slice aoA nA capA) (.slice ao nP cap) 55 → Two W g2 (.slice aoC nC capC) (.slice aq nQ cq) 55 → W.cell? ⟨g1, 0, none⟩ = some (.slice aoA nA capA) ∧ W.cell? ⟨g1, 1, none⟩ = some (.slice ao nP cap) ∧ W.cell? ⟨g2, 0, none⟩ = some (.slice aoC nC capC) ∧ W.cell? ⟨g2, 1, none⟩ = some (.slice aq nQ cq)) := by
        intro W hA hB
        exact ⟨hA.cells.1, hA.cells.2, hB.cells.1, hB.cells.2⟩
      have fh := hC4.fine HY.out.1
      have fk := hD4.fine HZ.out.1
      have HH1 : Hid (Sg.headOf h = (Sg.hdTo h (Sg.balances h) (Sg.totals h) nP).2) := hC4.headOf HY.out.1
      have HH2 : Hid (Sg.headOf k = (Sg.hdTo k (Sg.balances k) (Sg.totals k) nQ).2) := hD4.headOf HZ.out.1
      clear hT3 hC3 hD aB b3' hy HE
      go_upto_region 7 with fail
      generalize (w3.alloc (.cells #[.slice aoC nC capC, .slice aq nQ cq] 55)) = w4 at *
      rw [eg2] at hU4
      try rw [eg2]
      clear eg2
      by_cases hpq : p = q
      · have HX : Hid (er = 7) := by show _ = _; rw [HE2.out, if_pos (Or.inl hpq)]
        have bb := b4
        have hcmp := eq_list' hpq
        clear hpq HE2 HFO hC4 hD4 hT4 hU4 fh fk b4 HSall
        go_quiet (fail)
        go_wp2_with fail
        exact bodyPost_ret (v := .tuple #[.string { data := #[] }, .string { data := #[] }, .int .i64 7]) (by simp [results, Try.results11, go_sem]) rfl ⟨below_drewN bb _, ByteArray.empty, ByteArray.empty, by rw [HX.out]; rfl, fun _ => ⟨rfl, rfl⟩, fun h => absurd h (by rw [HX.out]; decide)⟩
      · have hcmp := ne_list' hpq
        have HNE : Hid (¬ p = q) := hpq
        have HX1 : Hid (∀ W, Below w4.heap.size w4 W → Calls Try.prog 18 #[.agg #[.slice aoA nA capA, .slice ao nP cap]] W fun e w' => ∃ y, e = .returned (.string y) ∧ Hid (y = (Sg.hdTo h (Sg.balances h) (Sg.totals h) nP).2) ∧ Below W.heap.size W w') := fun W hb => bHead_any h aoA ao nA nP capA cap b rs W (hC4.below hb) fh
        have HX2 : Hid (∀ W, Below w4.heap.size w4 W → Calls Try.prog 18 #[.agg #[.slice aoC nC capC, .slice aq nQ cq]] W fun e w' => ∃ y, e = .returned (.string y) ∧ Hid (y = (Sg.hdTo k (Sg.balances k) (Sg.totals k) nQ).2) ∧ Below W.heap.size W w') := fun W hb => bHead_any k aoC aq nC nQ capC cq bq rq W (hD4.below hb) fk
        have HX3 : Hid (∀ W, Below w4.heap.size w4 W → Calls Try.prog 23 #[.agg #[.slice aoA nA capA, .slice ao nP cap]] W fun e w' => ∃ v, e = .returned v ∧ Hid (OwnStrs w' W.heap.size v (Sg.summedB h)) ∧ Below W.heap.size W w') := fun W hb => bSummed_any h aoA ao nA nP capA cap b rs W (hC4.below hb) fh
        have HX4 : Hid (∀ W, Below w4.heap.size w4 W → Calls Try.prog 23 #[.agg #[.slice aoC nC capC, .slice aq nQ cq]] W fun e w' => ∃ v, e = .returned v ∧ Hid (OwnStrs w' W.heap.size v (Sg.summedB k)) ∧ Below W.heap.size W w') := fun W hb => bSummed_any k aoC aq nC nQ capC cq bq rq W (hD4.below hb) fk
        have hS4 := HSall.out _ hT4 hU4
        have hS4d := HSall.out w4.drew hT4 hU4
        have hlS : (Sg.summedB h).length ≤ 140737488355328 := by
          have := Sg.sumTo_len h (by rw [hC4.lenP]; exact hC4.nums.2.1) h.pers.length (Nat.le_refl _) (fun p hp => by have := (fh p hp).1; omega)
          rw [Sg.sumTo_all] at this
          have := hC4.nums.2.1
          have := hC4.lenP
          omega
        have HSH : Hid ((∀ t ∈ Sg.summedB h, t.size ≤ 140737488355328) ∧ ∀ t ∈ Sg.summedB k, t.size ≤ 140737488355328) := ⟨Sg.summedB_short hC4.inb (by rw [hC4.lenA]; exact hC4.nums.1), Sg.summedB_short hD4.inb (by rw [hD4.lenA]; exact hD4.nums.1)⟩
        clear hpq hC4 hD4 fh fk
        go_region_held3 (fun w' => w'.cell? ⟨g1, 0, none⟩ = some (.slice aoA nA capA) ∧ w'.cell? ⟨g1, 1, none⟩ = some (.slice ao nP cap) ∧ w'.cell? ⟨g2, 0, none⟩ = some (.slice aoC nC capC) ∧ w'.cell? ⟨g2, 1, none⟩ = some (.slice aq nQ cq)) (first | with_reducible assumption | exact hS4d)
          (first
            | (go_at_call 18; refine (HX2.out _ hb5).mono ?_; rintro e w6 ⟨y2, rfl, hy2, hb6'⟩; have hb6 := hb5.trans (hb6'.mono hb5.size); have hh6 := HSall.out _ (hT4.below hb6) (hU4.below hb6))
            | (go_at_call 18; refine (HX1.out _ (by first | exact Below.refl _ _ | exact (Below.refl _ _).drew)).mono ?_; rintro e w5 ⟨y1, rfl, hy1, hb5'⟩; have hb5 : Below w4.heap.size w4 w5 := (by first | exact hb5' | exact ((Below.refl w4.heap.size w4).drew).trans hb5'); have hh5 := HSall.out _ (hT4.below hb5) (hU4.below hb5)))
        clear hh5 hS4 hS4d HX1 HX2
        have hT6 := hT4.below hb6
        have hU6 := hU4.below hb6
        have b6 := b4.trans (hb6.mono b4.size)
        by_cases hhd : y1 = y2
        · have hcm2 := eq_list' hhd
          have HQ : Hid (Sg.headOf h = Sg.headOf k) := by show _ = _; rw [HH1.out, HH2.out, ← hy1.out, ← hy2.out, hhd]
          have HX : Hid (er = 0) := by
            show _ = _
            rw [HE2.out, if_neg]
            rintro (c | c)
            · exact HNE.out c
            · exact c HQ.out
          obtain ⟨x, y, hfo, hne, hsum, hx, hy⟩ := HFO.out HY.out HZ.out HNE.out HQ.out
          have HXY : Hid (x ≠ y ∧ Sg.sumB x = Sg.sumB y ∧ x.size ≤ 140737488355328 ∧ y.size ≤ 140737488355328) := ⟨hne, hsum, HSH.out.1 x hx, HSH.out.2 y hy⟩
          have HF : Hid (Sg.fo (Sg.summedB h) (Sg.summedB k) = some (x, y)) := hfo
          have hS6d := HSall.out w6.drew hT6 hU6
          clear hhd hfo hne hsum hx hy hy1 hy2 HQ HNE HFO HE2 HH1 HH2 HSH HY HZ hT4 hU4 b4 hb5 hb5' hb6'
          rw [hcm2]
          go_upto_region 9 with fail
          go_region_held3 (fun w' => w'.cell? ⟨g1, 0, none⟩ = some (.slice aoA nA capA) ∧ w'.cell? ⟨g1, 1, none⟩ = some (.slice ao nP cap) ∧ w'.cell? ⟨g2, 0, none⟩ = some (.slice aoC nC capC) ∧ w'.cell? ⟨g2, 1, none⟩ = some (.slice aq nQ cq)) (first | with_reducible assumption | exact hS6d)
            (first
              | (go_at_call 23; refine (HX4.out _ hb7).mono ?_; rintro e w8 ⟨v8, rfl, HO8, hb8'⟩; have hb8 := hb7.trans (hb8'.mono hb7.size); have hh8 := HSall.out _ ((hT6.below hb7x).below hb8') ((hU6.below hb7x).below hb8'); obtain ⟨ao8, cap8, ev8, _, _, hin8⟩ := HO8.out.shape; subst ev8; have hin7' := strsIn_drew hin7 hb8')
              | (go_at_call 23; refine (HX3.out _ (by first | exact hb6 | exact hb6.drew)).mono ?_; rintro e w7 ⟨v7, rfl, HO7, hb7'⟩; have hb7x : Below w6.heap.size w6 w7 := (by first | exact hb7' | exact ((Below.refl w6.heap.size w6).drew).trans hb7'); have hb7 := hb6.trans (hb7x.mono hb6.size); have hh7 := HSall.out _ (hT6.below hb7x) (hU6.below hb7x); obtain ⟨ao7, cap7, ev7, _, _, hin7⟩ := HO7.out.shape; subst ev7)
              | (go_at_call 22; refine (firstOther_any _ _ x y ao7 ao8 _ _ cap7 cap8 _ rfl rfl hlS hin7' hin8 HF.out).mono ?_; rintro e w9 ⟨rfl, hb9⟩; have hh9 := HSall.out _ (((hT6.below hb7x).below hb8').below hb9) (((hU6.below hb7x).below hb8').below hb9); have b9 := (b6.trans (hb7x.mono b6.size)).trans ((hb8'.trans (hb9.mono hb8'.size)).mono (by have := b6.size; have := hb7x.size; omega))))
          clear hh6 hh7 hh8 hh9 HX3 HX4 HSall
          go_wp2_with fail
          exact bodyPost_ret (v := .tuple #[.string x, .string y, .int .i64 0]) (by simp [results, Try.results11, go_sem]) rfl ⟨b9, x, y, by rw [HX.out], fun h => absurd HX.out h, fun _ => HXY.out⟩
        · have hcm2 := ne_list' hhd
          have HX : Hid (er = 7) := by
            show _ = _
            rw [HE2.out, if_pos (Or.inr (fun c => hhd (by rw [hy1.out, hy2.out, ← HH1.out, ← HH2.out, c])))]
          clear hhd HE2 HFO HSall hT4 hU4 hT6 hU6 HX3 HX4 hy1 hy2
          rw [hcm2]
          go_wp2_with fail
          exact bodyPost_ret (v := .tuple #[.string { data := #[] }, .string { data := #[] }, .int .i64 7]) (by simp [results, Try.results11, go_sem]) rfl ⟨b6, ByteArray.empty, ByteArray.empty, by rw [HX.out]; rfl, fun _ => ⟨rfl, rfl⟩, fun h => absurd h (by rw [HX.out]; decide)⟩
end Go.Proofs.Ytpkkhkkkgjhkeab
