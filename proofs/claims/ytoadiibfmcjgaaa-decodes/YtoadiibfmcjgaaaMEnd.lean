import Derived.Test.YtoadiibfmcjgaaaMSp
import Derived.Test.YtoadiibfmcjgaaaMLaw
import Derived.Test.YtoadiibfmcjgaaaMDec
import Derived.Test.YtoadiibfmcjgaaaMCur
import Derived.Test.YtoadiibfmcjgaaaBroot
import Derived.ProofKit
import Derived.OpenShut
import Derived.ShutString
import Derived.ChangeOld
import Derived.SizedLaws
import Derived.SliceStrings
import Derived.Carry
/-
  THE WALK of signetlaw.Decodes (P7).
-/
namespace Go.Proofs.Ytoadiibfmcjgaaa
open Go.RowKit
set_option maxRecDepth 100000
attribute [local go_sem ↓] Go.wp_at_zero Go.wp_at_succ

theorem erow_of {w : World} {B : Nat} {v : Value} {es : List Sg.Ent} (h : OwnE w B v es) (h1 : es.length ≤ 255) (h2 : ∀ e ∈ es, e.posts.length ≤ 255) : ERow w B w.heap.size v es.length := by
  obtain ⟨us, a, b, c⟩ := h
  refine ⟨_, b, ⟨h1, fun g hg => (World.ownsRow.lt b g hg).2⟩, fun j hj => ⟨us[j]'(by omega), (eCells_at es us a j hj).2, es[j].posts.length, _, ⟨h2 _ (List.getElem_mem hj), fun g hg => (World.ownsRow.lt (c j hj (by omega)) g hg).2⟩, c j hj (by omega)⟩⟩
theorem ERow.below {w w' : World} {B M n : Nat} {v : Value} (h : ERow w B M v n) (hb : Below w.heap.size w w') : ERow w' B M v n := by
  obtain ⟨xs, a, b, c⟩ := h
  refine ⟨xs, ownsRow_below a hb, b, fun j hj => ?_⟩
  obtain ⟨u, e, n2, ys, h1, h2⟩ := c j hj
  exact ⟨u, e, n2, ys, h1, ownsRow_below h2 hb⟩
theorem ownsRow_frame {w w' : World} {B M B' : Nat} {e : TypeId} {sz n : Nat} {v : Value} {xs : List Value} (h : w.ownsRow B' e sz v n xs) (hf : FrameM B M w w') (hM : M ≤ B') : w'.ownsRow B' e sz v n xs := by
  refine ⟨h.1, ?_⟩
  rcases h.2 with h0 | ⟨g, cap, cur, h1, h2, h3, h4⟩
  · exact Or.inl h0
  · exact Or.inr ⟨g, cap, cur, h1, h2, (hf.block g (lt_of_block h3) (Or.inr (by omega))).trans h3, h4⟩
theorem OwnPs.frame {w w' : World} {B M B' : Nat} {v : Value} {ps : List (List Sg.Ent)} (h : OwnPs w B' v ps) (hf : FrameM B M w w') (hM : M ≤ B') : OwnPs w' B' v ps := by
  obtain ⟨us, a, b, c⟩ := h
  refine ⟨us, a, ownsRow_frame b hf hM, fun i h1 h2 => ?_⟩
  obtain ⟨vs, x, y, z⟩ := c i h1 h2
  exact ⟨vs, x, ownsRow_frame y hf hM, fun j h3 h4 => ownsRow_frame (z j h3 h4) hf hM⟩
theorem hist_again {W w : World} {B : Nat} {aoA aoP : Option Addr} {nA nP capA capP : Nat} {h : Sg.Hist} (hH : HistIn W aoA aoP nA nP h) (hA : OwnA w B (.slice aoA nA capA) h.accs) (hP : OwnPs w B (.slice aoP nP capP) h.pers) : HistIn w aoA aoP nA nP h := by
  obtain ⟨ao1, c1, e1, _, _, i1⟩ := hA.in_
  obtain ⟨ao2, c2, e2, _, i2⟩ := hP.in_
  simp only [Value.slice.injEq] at e1 e2
  obtain ⟨rfl, _, _⟩ := e1
  obtain ⟨rfl, _, _⟩ := e2
  exact ⟨i1, i2, hH.lenA, hH.lenP, hH.sizA, hH.sizP, hH.sizQ⟩
/-- The history that was read, or none. -/
def Sg.opened (t : ByteArray) : Sg.Hist := if Sg.isPk (Sg.rdHist Sg.rdP (Sg.tx t)) t then Sg.rdHist Sg.rdP (Sg.tx t) else ⟨[], []⟩
def Sg.openErr (t : ByteArray) : Int := if Sg.isPk (Sg.rdHist Sg.rdP (Sg.tx t)) t then 0 else 5
theorem none_in (w : World) : HistIn w none none 0 0 ⟨[], []⟩ := ⟨Or.inl rfl, Or.inl rfl, rfl, rfl, fun a ha => by simp at ha, fun p hp => by simp at hp, fun p hp => by simp at hp⟩
/-- What Decode answers, for spoil: rows. -/
def DecRows (w' : World) (B : Nat) (aoA aoP : Option Addr) (nA nP capA capP : Nat) : Prop := ∃ us axs, w'.ownsRow B 43 2 (.slice aoA nA capA) nA axs ∧ w'.ownsRow B 47 1 (.slice aoP nP capP) nP us ∧ (∀ k, k < nP → ∃ u m, us[k]? = some u ∧ ERow w' B w'.heap.size u m) ∧ Apart us ∧ nA ≤ 255 ∧ nP ≤ 255
theorem decode_all (t : ByteArray) (w : World) :
    Calls Try.prog 29 #[.string t] w fun e w' => ∃ aoA capA aoP capP, e = .returned (.tuple #[.agg #[.slice aoA (Sg.opened t).accs.length capA, .slice aoP (Sg.opened t).pers.length capP], .int .i64 (Sg.openErr t)]) ∧ Hid (HistIn w' aoA aoP (Sg.opened t).accs.length (Sg.opened t).pers.length (Sg.opened t)) ∧ Hid (DecRows w' w.heap.size aoA aoP (Sg.opened t).accs.length (Sg.opened t).pers.length capA capP) ∧ Below w.heap.size w w' := by
  refine (decode_any t w).mono ?_
  rintro e w' ⟨hb, ⟨hn, rfl⟩ | ⟨hy, aoA, nA, capA, aoP, nP, capP, rfl, _, hH, hOA, us, hul, hrow, hus, hap⟩⟩
  · have e1 : Sg.opened t = ⟨[], []⟩ := by unfold Sg.opened; rw [if_neg hn]
    have e2 : Sg.openErr t = 5 := by unfold Sg.openErr; rw [if_neg hn]
    rw [e1, e2]
    exact ⟨none, 0, none, 0, rfl, none_in w', ⟨[], [], World.ownsRow_nil _ _ _ _, World.ownsRow_nil _ _ _ _, fun k hk => absurd hk (by simp), fun i j u v g _ hx => by simp at hx, by simp, by simp⟩, hb⟩
  · have e1 : Sg.opened t = Sg.rdHist Sg.rdP (Sg.tx t) := by unfold Sg.opened; rw [if_pos hy]
    have e2 : Sg.openErr t = 0 := by unfold Sg.openErr; rw [if_pos hy]
    rw [e1, e2]
    have hlA := hH.lenA
    have hlP := hH.lenP
    have hi : Sg.inBounds (Sg.rdHist Sg.rdP (Sg.tx t)) = true := by
      have hc := hy.1
      cases hb : Sg.inBounds (Sg.rdHist Sg.rdP (Sg.tx t)) with
      | true => rfl
      | false => unfold Sg.closeErr at hc; rw [hb] at hc; simp at hc
    have hbp := Sg.bnd_pers hi
    have hnum : (Sg.rdHist Sg.rdP (Sg.tx t)).accs.length ≤ 8 ∧ (Sg.rdHist Sg.rdP (Sg.tx t)).pers.length ≤ 6 := by
      unfold Sg.inBounds at hi
      simp only [Bool.and_eq_true, decide_eq_true_eq] at hi
      omega
    subst hlA hlP
    refine ⟨aoA, capA, aoP, capP, rfl, hH, ⟨us, _, hOA, hrow, fun k hk => ?_, hap, by omega, by omega⟩, hb⟩
    have hku : k < us.length := by omega
    refine ⟨us[k], _, List.getElem?_eq_getElem hku, erow_of (hus k hk hku) (by have := (hbp _ (List.getElem_mem hk)).1; omega) (fun e he => by have := ((hbp _ (List.getElem_mem hk)).2 e he).2; omega)⟩
theorem open_all (t : ByteArray) (w : World) (ht : t.size ≤ 140737488355328) :
    Calls Try.prog 30 #[.string t] w fun e w' => ∃ aoA capA aoP capP vB vT, e = .returned (.tuple #[.agg #[.slice aoA (Sg.opened t).accs.length capA, .slice aoP (Sg.opened t).pers.length capP, vB, vT], .int .i64 (Sg.openErr t)]) ∧ (∃ a n c, vB = .slice a n c) ∧ (∃ a n c, vT = .slice a n c) ∧ Hid (HistIn w' aoA aoP (Sg.opened t).accs.length (Sg.opened t).pers.length (Sg.opened t) ∧ OwnA w' w.heap.size (.slice aoA (Sg.opened t).accs.length capA) (Sg.opened t).accs ∧ OwnPs w' w.heap.size (.slice aoP (Sg.opened t).pers.length capP) (Sg.opened t).pers) ∧ Below w.heap.size w w' := by
  obtain ⟨hiff, hsame⟩ := Sg.read_both t
  refine (open_any t w ht).mono ?_
  rintro e w' ⟨hb, ⟨hn, rfl⟩ | ⟨hy, aoA, aoP, aoB, aoT, nA, nP, capA, capP, capB, capT, rfl, h1, hC, hOA, hOP⟩⟩
  · have hn' : ¬ Sg.isPk (Sg.rdHist Sg.rdP (Sg.tx t)) t := fun h => hn (hiff.1 h)
    have e1 : Sg.opened t = ⟨[], []⟩ := by unfold Sg.opened; rw [if_neg hn']
    have e2 : Sg.openErr t = 5 := by unfold Sg.openErr; rw [if_neg hn']
    rw [e1, e2]
    exact ⟨none, 0, none, 0, _, _, rfl, ⟨_, _, _, rfl⟩, ⟨_, _, _, rfl⟩, ⟨none_in w', World.ownsRow_nil _ _ _ _, OwnPs.nil _ _⟩, hb⟩
  · have hy' := hiff.2 hy
    have e1 : Sg.opened t = Sg.rdHist Sg.rdP (Sg.tx t) := by unfold Sg.opened; rw [if_pos hy']
    have e2 : Sg.openErr t = 0 := by unfold Sg.openErr; rw [if_pos hy']
    rw [hsame hy'] at hC hOA hOP
    rw [e1, e2]
    have hlA := hC.lenA
    have hlP := hC.lenP
    subst hlA hlP
    refine ⟨aoA, capA, aoP, capP, _, _, rfl, ⟨_, _, _, rfl⟩, ⟨_, _, _, rfl⟩, ⟨⟨hC.accs, hC.pers, rfl, rfl, fun a ha => ?_, fun p hp => ?_, Sg.rdHist_fits (fun s => Sg.fits_wrap _) _⟩, hOA, hOP⟩, hb⟩
    · have := hC.accFine a ha
      exact ⟨by omega, decide_eq_true (by omega)⟩
    · have := hC.allFine p hp
      exact ⟨by have := this.1; omega, fun e he => by have := this.2 e he; omega⟩

set_option maxHeartbeats 3200000 in
theorem decodes_any (t : ByteArray) (w : World) (ht : t.size ≤ 140737488355328) :
    Calls Try.prog 6 #[.string t] w fun e w' => e = .returned (.bool true) ∧ Below w.heap.size w w' := by
  have c1 := fun W => decode_all t W
  have c2 := fun W => open_all t W ht
  generalize Sg.opened t = h at c1 c2
  generalize Sg.openErr t = ee at c1 c2
  obtain ⟨nA, hnA⟩ : ∃ k, h.accs.length = k := ⟨_, rfl⟩
  obtain ⟨nP, hnP⟩ : ∃ k, h.pers.length = k := ⟨_, rfl⟩
  rw [hnA, hnP] at c1 c2
  clear hnA hnP
  go_enter Try.func6, Try.ntmps6
  go_wp2_with fail
  refine (c1 _).mono ?_
  rintro e w1 ⟨aoA, capA, aoP, capP, rfl, HH, HD, hb1⟩
  have hnn : nA ≤ 255 ∧ nP ≤ 255 := by obtain ⟨_, _, _, _, _, _, h1, h2⟩ := HD.out; exact ⟨h1, h2⟩
  have aB : Below w1.heap.size w1 (w1.alloc (.cells #[.slice aoA nA capA, .slice aoP nP capP] 41)) := (Below.refl _ _).alloc (Nat.le_refl _) _
  have hT := Two.new w1 (.slice aoA nA capA) (.slice aoP nP capP) 41
  have b1 := hb1.trans (aB.mono hb1.size)
  have hs1 := hb1.size
  go_wp2_with fail
  refine (c2 _).mono ?_
  rintro e w2 ⟨aoB, capB, aoQ, capQ, vB, vT, rfl, ⟨x1, x2, x3, rfl⟩, ⟨x4, x5, x6, rfl⟩, HO, hb2⟩
  clear c2
  have b12 : Below w1.heap.size w1 w2 := aB.trans (hb2.mono (by simp))
  have hT2 := hT.below hb2
  have b2 := b1.trans (hb2.mono b1.size)
  have aC : Below w2.heap.size w2 (w2.alloc (.cells #[.slice aoB nA capB, .slice aoQ nP capQ, .slice x1 x2 x3, .slice x4 x5 x6] 65)) := (Below.refl _ _).alloc (Nat.le_refl _) _
  have hK : (w2.alloc (.cells #[.slice aoB nA capB, .slice aoQ nP capQ, .slice x1 x2 x3, .slice x4 x5 x6] 65)).heap[w2.heap.size]? = some (.cells #[.slice aoB nA capB, .slice aoQ nP capQ, .slice x1 x2 x3, .slice x4 x5 x6] 65 (0, 0)) := heap_alloc_new w2 _
  have hT3 := hT2.below aC
  have b3 := b2.trans (aC.mono b2.size)
  have b13 := b12.trans (aC.mono b12.size)
  have e0 : (w1.alloc (.cells #[.slice aoA nA capA, .slice aoP nP capP] 41)).heap.size = w1.heap.size + 1 := by simp
  rw [e0] at HO
  have HB3 : Hid (HistIn (w2.alloc (.cells #[.slice aoB nA capB, .slice aoQ nP capQ, .slice x1 x2 x3, .slice x4 x5 x6] 65)) aoB aoQ nA nP h ∧ OwnA (w2.alloc (.cells #[.slice aoB nA capB, .slice aoQ nP capQ, .slice x1 x2 x3, .slice x4 x5 x6] 65)) (w1.heap.size + 1) (.slice aoB nA capB) h.accs ∧ OwnPs (w2.alloc (.cells #[.slice aoB nA capB, .slice aoQ nP capQ, .slice x1 x2 x3, .slice x4 x5 x6] 65)) (w1.heap.size + 1) (.slice aoQ nP capQ) h.pers) := ⟨HO.out.1.below aC, HO.out.2.1.below aC, HO.out.2.2.below aC⟩
  have HH3 : Hid (HistIn (w2.alloc (.cells #[.slice aoB nA capB, .slice aoQ nP capQ, .slice x1 x2 x3, .slice x4 x5 x6] 65)) aoA aoP nA nP h) := HH.out.below b13
  have hlt2 : w1.heap.size < w2.heap.size := lt_of_block hT2
  clear hT hT2 b1 b2 b12 aB aC hb1 hb2 HO HH e0
  obtain ⟨bx0, bx1⟩ := hT3.cells
  obtain ⟨⟨d0, d1, _, _⟩, _, _, _, _⟩ := four_cells hK
  go_wp2_with fail
  generalize w2.alloc (.cells #[.slice aoB nA capB, .slice aoQ nP capQ, .slice x1 x2 x3, .slice x4 x5 x6] 65) = W3 at *
  refine (lawSame_any h aoA aoP aoB aoQ nA nP capA capP capB capQ W3 HH3.out HB3.out.1 (by omega) (by omega)).mono ?_
  rintro e w4 ⟨rfl, hb4⟩
  have hT4 := hT3.below hb4
  have hK4 := (hb4.block _ (lt_of_block hK)).trans hK
  have b4 := b3.trans (hb4.mono b3.size)
  have b14 := b13.trans (hb4.mono b13.size)
  have HB4 : Hid (HistIn w4 aoB aoQ nA nP h ∧ OwnA w4 (w1.heap.size + 1) (.slice aoB nA capB) h.accs ∧ OwnPs w4 (w1.heap.size + 1) (.slice aoQ nP capQ) h.pers) := ⟨HB3.out.1.below hb4, HB3.out.2.1.below hb4, HB3.out.2.2.below hb4⟩
  obtain ⟨us, axs, r1, r2, r3, r4, r5, r6⟩ := HD.out
  have hcall := spoil_any aoA aoP nA nP capA capP w.heap.size w1.heap.size w4 us axs (ownsRow_below r1 b14) (ownsRow_below r2 b14) (fun k hk => by
    obtain ⟨u, m, e, hE⟩ := r3 k hk
    exact ⟨u, m, e, hE.below b14⟩) r4 ⟨fun g hg => (World.ownsRow.lt r1 g hg).2, fun g hg => (World.ownsRow.lt r2 g hg).2⟩ b4.size r5 r6
  clear HD r1 r2 r3 r4 HH3 HB3 hT3 hK b3 b13 hb4 bx0 bx1 d0 d1 b14
  obtain ⟨bx0, bx1⟩ := hT4.cells
  go_wp2_with fail
  refine hcall.mono ?_
  clear hcall
  rintro e w5 ⟨rfl, hf5⟩
  have hK5 := (hf5.block _ (lt_of_block hK4) (Or.inr (by omega))).trans hK4
  have b5 : Below w.heap.size w w5 := b4.trans ⟨hf5.os, hf5.tape, hf5.output, hf5.size, fun k hk => hf5.block k (Nat.lt_of_lt_of_le hk b4.size) (Or.inl hk)⟩
  have HB5 : Hid (HistIn w5 aoB aoQ nA nP h) := hist_again HB4.out.1 (ownsRow_frame HB4.out.2.1 hf5 (by omega)) (HB4.out.2.2.frame hf5 (by omega))
  clear hT4 hK4 b4 HB4 hf5 bx0 bx1
  go_wp2_with fail
  refine (c1 _).mono ?_
  clear c1
  rintro e w6 ⟨aoG, capG, aoR, capR, rfl, HG, _, hb6⟩
  have aD : Below w6.heap.size w6 (w6.alloc (.cells #[.slice aoG nA capG, .slice aoR nP capR] 41)) := (Below.refl _ _).alloc (Nat.le_refl _) _
  have hG6 := Two.new w6 (.slice aoG nA capG) (.slice aoR nP capR) 41
  have b57 := hb6.trans (aD.mono hb6.size)
  have hK7 := (b57.block _ (lt_of_block hK5)).trans hK5
  have b7 := b5.trans (b57.mono b5.size)
  have HB7 : Hid (HistIn (w6.alloc (.cells #[.slice aoG nA capG, .slice aoR nP capR] 41)) aoB aoQ nA nP h) := HB5.out.below b57
  have HG7 : Hid (HistIn (w6.alloc (.cells #[.slice aoG nA capG, .slice aoR nP capR] 41)) aoG aoR nA nP h) := HG.out.below aD
  have hlt6 : w2.heap.size < w6.heap.size := Nat.lt_of_lt_of_le (lt_of_block hK5) hb6.size
  clear hK5 b5 HB5 HG b57 hb6 aD
  obtain ⟨gx0, gx1⟩ := hG6.cells
  obtain ⟨⟨d0, d1, _, _⟩, _, _, _, _⟩ := four_cells hK7
  go_wp2_with fail
  generalize w6.alloc (.cells #[.slice aoG nA capG, .slice aoR nP capR] 41) = W7 at *
  refine (lawSame_any h aoG aoR aoB aoQ nA nP capG capR capB capQ W7 HG7.out HB7.out (by omega) (by omega)).mono ?_
  rintro e w8 ⟨rfl, hb8⟩
  have b8 := b7.trans (hb8.mono b7.size)
  clear HB7 HG7 hK7 hG6 hb8 b7 gx0 gx1 d0 d1
  go_wp2_with fail
  go_ret
  exact ⟨rfl, b8⟩
end Go.Proofs.Ytoadiibfmcjgaaa

/-
  THE WALKS of Depth, isPath, and of both climbs (P4).
-/
namespace Go.Proofs.Ytoadiibfmcjgaaa
open Go.RowKit
set_option maxRecDepth 100000
attribute [local go_sem ↓] Go.wp_at_zero Go.wp_at_succ

set_option maxHeartbeats 800000 in
/-- tree.Depth. -/
theorem depth_any (i n : Nat) (w : World) (hin : i < n) (hn : n ≤ 4096) :
    Calls Try.prog 65 #[.int .i64 (i : Int), .int .i64 (n : Int)] w fun e w' => e = .returned (.int .i64 (Sg.depth i n : Int)) ∧ w' = w := by
  go_enter Try.func65, Try.ntmps65
  go_wp2
  go_loop [0, 1, 5] (fun a m d => ∃ j k c : Nat, j < k ∧ k ≤ 4096 ∧ c + k ≤ 4096 ∧ Hid (c + Sg.depth j k = Sg.depth i n) ∧ a = .int .i64 (j : Int) ∧ m = .int .i64 (k : Int) ∧ d = .int .i64 (c : Int)) (fun _ m _ => (intOf m).toNat)
  case atStart => exact ⟨i, n, 0, hin, hn, by omega, by show _ = _; omega, rfl, rfl, rfl⟩
  case round =>
    obtain ⟨j, k, c, hjk, hk, hck, HD, rfl, rfl, rfl⟩ := hrel
    by_cases h1 : k ≤ 1
    · have HZ : Hid (Sg.depth j k = 0) := Sg.depth_one h1
      have h1' : ¬ (1 : Int) < (k : Int) := by omega
      go_wp2_with fail
      go_ret
      refine ⟨ret_int ?_, rfl⟩
      have h1 := HZ.out
      have h2 := HD.out
      omega
    · have h1' : (1 : Int) < (k : Int) := by omega
      have hlt := Sg.halfN_lt (n := k) (by omega)
      have hpos := Sg.halfN_pos k
      by_cases hjl : j < Sg.halfN k
      · have HL : Hid (Sg.depth j k = Sg.depth j (Sg.halfN k) + 1) := Sg.depth_left (by omega) hjl
        obtain ⟨q, hq⟩ : ∃ q, q = Sg.halfN k := ⟨_, rfl⟩
        rw [← hq] at HL hlt hpos hjl
        have HQ : Hid (q = Sg.halfN k) := hq
        clear hq
        have hjl' : (j : Int) < (q : Int) := by omega
        go_wp2_with fail
        refine (split_any (k : Int) _ (by omega) (by omega)).mono ?_
        rintro e w1 ⟨rfl, rfl⟩
        rw [Int.toNat_natCast, ← HQ.out]
        go_wp2_with fail
        go_round
        case rel => exact ⟨j, q, c + 1, hjl, by omega, by omega, by have h1 := HL.out; have h2 := HD.out; show _ = _; omega, rfl, rfl, by go_num⟩
        case measure => simp [intOf]; omega
      · have HL : Hid (Sg.depth j k = Sg.depth (j - Sg.halfN k) (k - Sg.halfN k) + 1) := Sg.depth_right (by omega) hjl
        obtain ⟨q, hq⟩ : ∃ q, q = Sg.halfN k := ⟨_, rfl⟩
        rw [← hq] at HL hlt hpos hjl
        have HQ : Hid (q = Sg.halfN k) := hq
        clear hq
        have hjl' : ¬ (j : Int) < (q : Int) := by omega
        go_wp2_with fail
        refine (split_any (k : Int) _ (by omega) (by omega)).mono ?_
        rintro e w1 ⟨rfl, rfl⟩
        rw [Int.toNat_natCast, ← HQ.out]
        go_wp2_with fail
        go_round
        case rel => exact ⟨j - q, k - q, c + 1, by omega, by omega, by omega, by have h1 := HL.out; have h2 := HD.out; show _ = _; omega, by go_num, by go_num, by go_num⟩
        case measure => simp [intOf]; omega

/-- Has each text two bytes? -/
def twos (ss : List ByteArray) : Bool := ss.all fun s => s.size == 2
/-- Has a path the form of one of this leaf among so many? -/
def okPath (i n : Nat) (ss : List ByteArray) : Bool := decide (ss.length = Sg.depth i n) && twos ss
/-- A slice of texts, which may be nil or empty. -/
def StrsIn (w : World) (ao : Option Addr) (ss : List ByteArray) : Prop := ss.length = 0 ∨ ∃ b off, ao = some ⟨b, off, none⟩ ∧ b < w.heap.size ∧ StrsAt w b off ss

theorem ret_bool {a b : Bool} (h : a = b) : Ending.returned (.bool a) = .returned (.bool b) := by rw [h]
theorem twos_snoc {ss : List ByteArray} {j : Nat} (hj : j < ss.length) : twos (ss.take (j + 1)) = (twos (ss.take j) && (ss.getD j ByteArray.empty).size == 2) := by
  unfold twos
  rw [List.take_succ_eq_append_getElem hj, List.all_append]
  simp [List.getD, hj]
theorem twos_stop {ss : List ByteArray} {j : Nat} (hj : j < ss.length) (h : ((ss.getD j ByteArray.empty).size == 2) = false) : twos ss = false := by
  unfold twos
  rw [List.all_eq_false]
  refine ⟨ss[j], List.getElem_mem hj, ?_⟩
  simp [List.getD, hj] at h
  simpa using h

set_option maxHeartbeats 800000 in
/-- seal.isPath. -/
theorem isPath_any (ss : List ByteArray) (ao : Option Addr) (l cap i n : Nat) (w : World) (hl : ss.length = l) (hin : i < n) (hn : n ≤ 4096) (hmax : l ≤ 1152921504606846976) (hss : StrsIn w ao ss) (hszs : ∀ s ∈ ss, s.size ≤ 140737488355328) :
    Calls Try.prog 46 #[.slice ao l cap, .int .i64 (i : Int), .int .i64 (n : Int)] w fun e w' => e = .returned (.bool (okPath i n ss)) ∧ w' = w := by
  by_cases hd : l = Sg.depth i n
  · have HO : Hid (okPath i n ss = twos ss) := by show _ = _; unfold okPath; rw [hl, hd]; simp
    have HDl : Hid (l = Sg.depth i n) := hd
    clear hd
    have HN : Hid (ss.length = l) := hl
    clear hl
    go_enter Try.func46, Try.ntmps46
    go_wp2_with fail
    refine (depth_any i n _ hin hn).mono ?_
    rintro e w1 ⟨rfl, rfl⟩
    rw [← HDl.out]
    go_wp2_with fail
    go_loop [17] (fun c => ∃ j : Nat, j ≤ l ∧ c = .int .i64 (j : Int) ∧ Hid (twos (ss.take j) = true)) (fun c => l - (intOf c).toNat)
    case atStart => exact ⟨0, by omega, rfl, by show _ = _; simp [twos]⟩
    case round =>
      obtain ⟨j, hj, rfl, HT⟩ := hrel
      by_cases hlt : j < l
      · obtain ⟨b, off, rfl, hbw, hat⟩ : ∃ b off, ao = some ⟨b, off, none⟩ ∧ b < w1.heap.size ∧ StrsAt w1 b off ss := by
          rcases hss with h0 | h
          · have := HN.out; omega
          · exact h
        have hc := hat j (by rw [HN.out]; exact hlt)
        have hz : (ss.getD j ByteArray.empty).size ≤ 140737488355328 := hszs _ (by
          rw [List.getD_eq_getElem?_getD, List.getElem?_eq_getElem (by rw [HN.out]; exact hlt)]; simp)
        have H1 : Hid (twos (ss.take (j + 1)) = (twos (ss.take j) && (ss.getD j ByteArray.empty).size == 2)) := twos_snoc (by rw [HN.out]; exact hlt)
        have H2 : ((ss.getD j ByteArray.empty).size == 2) = false → Hid (twos ss = false) := fun h => twos_stop (by rw [HN.out]; exact hlt) h
        generalize ss.getD j ByteArray.empty = x at *
        clear hss hat hszs
        by_cases h2 : x.size = 2
        · have h2' : ((x.size : Int) != 2) = false := by simp [h2]
          have H3 : Hid (twos (ss.take (j + 1)) = true) := by show _ = _; rw [H1.out, HT.out]; simp [h2]
          clear H1 H2 h2
          go_wp2_with fail
          go_round
          case rel => exact ⟨j + 1, by omega, by go_num, H3⟩
          case measure => simp [intOf]; omega
        · have h2' : ((x.size : Int) != 2) = true := by simp; omega
          have H3 := H2 (by simpa using h2)
          clear H1 H2 h2
          go_wp2_with fail
          go_ret
          exact ⟨ret_bool (by rw [HO.out, H3.out]), rfl⟩
      · go_wp2_with fail
        go_ret
        refine ⟨ret_bool ?_, rfl⟩
        rw [HO.out]
        have h := HT.out
        rw [List.take_of_length_le (by rw [HN.out]; omega)] at h
        rw [h]
  · have HO : Hid (okPath i n ss = false) := by show _ = _; unfold okPath; rw [hl]; simp [hd]
    have hne : ((l : Int) != (Sg.depth i n : Int)) = true := by simp; omega
    clear hd
    go_enter Try.func46, Try.ntmps46
    go_wp2_with fail
    refine (depth_any i n _ hin hn).mono ?_
    rintro e w1 ⟨rfl, rfl⟩
    go_wp2_with fail
    go_ret
    exact ⟨ret_bool (by rw [HO.out]), rfl⟩
end Go.Proofs.Ytoadiibfmcjgaaa

/-
  A slice of texts that came in, opened; what each statement's last step leans on.
-/
namespace Go.Proofs.Ytoadiibfmcjgaaa
set_option maxRecDepth 100000
open Go.ChangeShapes Go.WideShapes Go.ChangeAt Go.RowKit
open Go.ChangeMaps (open_string shut_string)

theorem own' : ownKnob Try.prog.godebug = none := by kernel_rfl
theorem laidOut : laidOutB Try.prog = true := by kernel_rfl
theorem Try.cellsStr : Try.prog.cellsOf 9 = 1 := by kernel_rfl
theorem Try.bytesStr : Try.prog.bytesOf 9 = 16 := by kernel_rfl

theorem weights_strs {H : Type} {e : TypeId} : ∀ (ss : List ByteArray) (s : ByteArray), s ∈ ss → s.size ∈ DataW.weightsAll (H := H) Try.prog e (strs ss)
  | [], s, h => by simp at h
  | x :: r, s, h => by
    have es : s.data.toList.length = s.size := by rw [Array.length_toList]; rfl
    simp only [strs, List.map_cons, DataW.weightsAll, List.mem_append]
    rcases List.mem_cons.1 h with rfl | h
    · exact Or.inl (by simp only [DataW.weights, es]; exact List.mem_singleton.2 rfl)
    · exact Or.inr (weights_strs r s h)

/-- A slice of texts that came in: what the walks ask of it. -/
theorem open_leaves {H : Type} {enc : TypeId × Value → H} {W : World} {v : Value} {d : DataW H} {p : List MemPlace} {base : Nat} {ts : List TypeId} {ds : List (DataW H)} {j : Nat}
    (hv : Value.okWide Try.prog W .any base 24 v) (h : DataW.Trod enc Try.prog W 0 (fun _ => true) true 24 v d p)
    (hsz : (DataW.weightsEach Try.prog ts ds).all (· ≤ reachBytes) = true) (ht : ts[j]? = some 24) (hd : ds[j]? = some d) :
    ∃ ao len cap ss, v = .slice ao len cap ∧ ss.length = len ∧ len ≤ cap ∧ cap ≤ 8796093022000 ∧ (∀ s ∈ ss, s.size ≤ 140737488351232) ∧ StrsIn W ao ss ∧ (ao = none → len = 0 ∧ cap = 0) := by
  obtain ⟨ao, len, cap, rfl⟩ := okWide_slice Try.underlying24 hv
  obtain ⟨fuel, hf⟩ := h
  rcases open_strings Try.underlying24 Try.underlying9 Try.cellsStr hf with ⟨hcs, _⟩ | ⟨a, l', c', ss, hcs, _, hl, _, hlen, hx, hcell, _⟩
  · simp [Value.cells] at hcs
    obtain ⟨rfl, rfl, rfl⟩ := hcs
    exact ⟨none, 0, 0, [], rfl, rfl, Nat.le_refl _, by omega, by simp, Or.inl rfl, fun _ => ⟨rfl, rfl⟩⟩
  · simp [Value.cells] at hcs
    obtain ⟨rfl, rfl, rfl⟩ := hcs
    simp only [if_true] at hlen
    have hx1 : d = .slice (strs (ss.take len)) (strs (ss.drop len)) := by
      have := congrArg Prod.fst hx; simpa using this
    subst hx1
    have hw := sized_slice hsz ht hd Try.underlying24
    rw [Try.bytesStr] at hw
    simp only [strs, List.length_map, List.length_take, List.length_drop, reachBytes] at hw
    have hcap : cap * 16 ≤ 140737488351232 := by omega
    refine ⟨some a, len, cap, ss.take len, rfl, by simp; omega, hl, by omega, ?_, ?_, fun h => by simp at h⟩
    · intro s hs
      have := List.all_eq_true.1 hsz s.size (DataW.weights_mem_each ht hd s.size (by
        simp only [DataW.weights, Try.underlying24]
        exact List.mem_cons_of_mem _ (List.mem_append.2 (Or.inl (weights_strs _ s hs)))))
      exact of_decide_eq_true this
    · by_cases h0 : len = 0
      · exact Or.inl (by simp [h0])
      · right
        obtain ⟨b, off, spot⟩ := a
        have hc0 := hcell 0 (by omega)
        have hspot : spot = none := by simpa [Addr.add] using World.cell?_spot hc0
        subst hspot
        refine ⟨b, off, rfl, World.block_lt_of_cell? W _ hc0, fun i hi => ?_⟩
        have hi' : i < len ∧ i < ss.length := by simp at hi; omega
        have := hcell i hi'.2
        have ea : Addr.add ⟨b, off, none⟩ i = ⟨b, off + i, none⟩ := by cases i <;> simp [Addr.add]
        rw [ea] at this
        rw [this]
        simp [List.getD, hi'.1]

end Go.Proofs.Ytoadiibfmcjgaaa

/-
  THE PROOF OF 'Rows.DecodesSaid' (P7: Decode of any text).
-/
namespace Go.Proofs.Ytoadiibfmcjgaaa
set_option maxRecDepth 100000
open Go.ChangeShapes Go.WideShapes Go.ChangeAt Go.RowKit
open Go.ChangeMaps (open_string shut_string)

set_option maxRecDepth 100000 in
theorem decodes_lifted (os : Os) (started : os.Started) (H : Type) (enc : TypeId × Value → H) :
    ReturnsInHanded {} Try.checked os 6 .any (Rows.decodesSpec.pre6 enc Try.prog Try.f6 Rows.decodesRow.domain false) (Rows.decodesSpec.post enc Try.prog Try.f6 false true false false) := by
  refine returnsInHanded_of_change_sized (C := Try.checked) own' started (by kernel_rfl) Try.func6
    (ChangeSpec.witness6 (enc := enc) (C := Try.checked) false ⟨#[], #[.string .empty], []⟩ 8 (by kernel_rfl) (by kernel_rfl) (by kernel_rfl) (by kernel_rfl)) ?_
  intro W base args ds gs before hval0 hW _ hsz0 _
  have hval : ∀ (j : Nat) t v, Try.f6.params[j]? = some t → args[j]? = some v → Value.okWide Try.prog W .any base t v := hval0
  have hsz : (DataW.weightsEach Try.prog (Try.f6.params.toList ++ Rows.decodesSpec.plain.varTypes Try.prog) (ds ++ gs)).all (· ≤ reachBytes) = true := hsz0
  have hW' := hW
  obtain ⟨p, q, hA0, hV, rfl, _, _⟩ := hW
  have hA : DataW.TrodAll enc Try.prog W 0 (fun _ => true) true Try.f6.params.toList args.toList ds p := hA0
  rw [Try.params6] at hA hval hsz
  obtain ⟨v0, vs0, d0, ds0, p0, q0, hargs, rfl, rfl, h0, r0⟩ := trodAll_cons hA
  obtain ⟨rfl, rfl, rfl⟩ := trodAll_nil r0
  obtain rfl : args = #[v0] := by cases args; simp_all
  obtain ⟨rfl, rfl⟩ := trodVars_none hV
  obtain ⟨s0, rfl, rfl, rfl, hmax0⟩ := open_string Try.underlying9 (hval 0 9 v0 rfl rfl) h0
  have hss := sized_string hsz (j := 0) (t := 9) rfl rfl
  have es : s0.data.toList.length = s0.size := by rw [Array.length_toList]; rfl
  rw [es, reachBytes] at hss
  clear hA0 hval0
  refine (decodes_any s0 W (by omega)).mono fun e W' ⟨he, bel⟩ => ?_
  subst he
  exact ⟨_, rfl, _, _, _, [], _, [], hW', trodAll_mk1 (shut_bool Try.underlying4 _),
    trodAll_cons_mk (shut_string Try.underlying9 hmax0) trodAll_mk0, rfl, bel.frame _, fun h => by cases h⟩

theorem decodes_over : Rows.decodesRow.holds Try.pinned (OpenSpec.ofChange Rows.decodesSpec) :=
  OpenClaim.holds_of_wide 6 Try.f6 rfl rfl rfl rfl rfl rfl rfl ⟨rfl, rfl, rfl, rfl, rfl⟩ rfl rfl rfl rfl rfl (by kernel_rfl) Try.func6 (by kernel_rfl)
    (of_decide_eq_true (by kernel_rfl)) (by unfold Func.isWrapper; first | (rw [if_pos (by decide +kernel)]; kernel_rfl) | (rw [if_neg (by decide +kernel)]; exact ⟨rfl, rfl⟩))
    (fun os started H enc _ => decodes_lifted os started H enc)

/-- The statement. -/
theorem decodes_proved : Rows.DecodesSaid := decodes_over
#print axioms decodes_proved
end Go.Proofs.Ytoadiibfmcjgaaa
