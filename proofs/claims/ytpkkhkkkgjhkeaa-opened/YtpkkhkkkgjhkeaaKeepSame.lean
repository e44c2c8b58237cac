import Derived.Test.YtpkkhkkkgjhkeaaRefSeal
import Derived.Test.YtpkkhkkkgjhkeaaHhead
import Derived.Test.YtpkkhkkkgjhkeaaOpenedSpec
import Derived.Test.YtpkkhkkkgjhkeaaDecode
import Derived.Test.YtpkkhkkkgjhkeaaVerifies
/-
  THE WALK of signetkeep.sameHistory, of two histories that are the same.
-/
namespace Go.Proofs.Ytpkkhkkkgjhkeaa
open Go.RowKit
set_option maxRecDepth 100000
attribute [local go_sem ↓] Go.wp_at_zero Go.wp_at_succ

set_option maxHeartbeats 6400000 in
theorem keepSame_any (h : Sg.Hist) (aoA aoP aoB aoQ : Option Addr) (nA nP capA capP capB capQ : Nat) (w : World) (h1 : HistIn w aoA aoP nA nP h) (h2 : HistIn w aoB aoQ nA nP h) (hnA : nA ≤ 140737488355328) (hnP : nP ≤ 140737488355328) :
    Calls Try.prog 44 #[.agg #[.slice aoA nA capA, .slice aoP nP capP], .agg #[.slice aoB nA capB, .slice aoQ nP capQ]] w fun e w' => e = .returned (.bool true) ∧ Below w.heap.size w w' := by
  have hb0 : Below w.heap.size w ((w.alloc (.cells #[.slice aoA nA capA, .slice aoP nP capP] 41)).alloc (.cells #[.slice aoB nA capB, .slice aoQ nP capQ] 41)) := ((Below.refl _ _).alloc (Nat.le_refl _) _).alloc (by simp) _
  have hT1 : Two ((w.alloc (.cells #[.slice aoA nA capA, .slice aoP nP capP] 41)).alloc (.cells #[.slice aoB nA capB, .slice aoQ nP capQ] 41)) w.heap.size (.slice aoA nA capA) (.slice aoP nP capP) 41 := (Two.new w _ _ _).below ((Below.refl _ _).alloc (Nat.le_refl _) _)
  have hT2 : Two ((w.alloc (.cells #[.slice aoA nA capA, .slice aoP nP capP] 41)).alloc (.cells #[.slice aoB nA capB, .slice aoQ nP capQ] 41)) (w.heap.size + 1) (.slice aoB nA capB) (.slice aoQ nP capQ) 41 := by
    have e := Two.new (w.alloc (.cells #[.slice aoA nA capA, .slice aoP nP capP] 41)) (.slice aoB nA capB) (.slice aoQ nP capQ) 41
    rw [show (w.alloc (.cells #[.slice aoA nA capA, .slice aoP nP capP] 41)).heap.size = w.heap.size + 1 by simp] at e
    exact e
  have k1 := h1.below hb0
  have k2 := h2.below hb0
  clear h1 h2
  go_enter Try.func44, Try.ntmps44
  go_wp2_with fail
  generalize (w.alloc (.cells #[.slice aoA nA capA, .slice aoP nP capP] 41)).alloc (.cells #[.slice aoB nA capB, .slice aoQ nP capQ] 41) = W0 at *
  have HK1 : Hid (HistIn W0 aoA aoP nA nP h) := k1
  have HK2 : Hid (HistIn W0 aoB aoQ nA nP h) := k2
  clear k1 k2
  go_loopw [5] (fun i wr => ∃ k : Nat, k ≤ nA ∧ i = .int .i64 (k : Int) ∧ Below W0.heap.size W0 wr) (fun i _ => nA - (intOf i).toNat)
  case atStart => exact ⟨0, by omega, rfl, Below.refl _ _⟩
  case round =>
    obtain ⟨k, hk, rfl, hbel⟩ := hrel
    obtain ⟨wz, ewz⟩ : ∃ z : World, z = wr := ⟨_, rfl⟩
    subst ewz
    obtain ⟨s0, s1⟩ := (hT1.below hbel).cells
    obtain ⟨t0, t1⟩ := (hT2.below hbel).cells
    by_cases hlt : k < nA
    · have hka : k < h.accs.length := by rw [HK1.out.lenA]; exact hlt
      obtain ⟨b1, o1, e1, _, x1, y1⟩ := (HK1.out.accs.below hbel).cell (k := k) hka
      obtain ⟨b2, o2, e2, _, x2, y2⟩ := (HK2.out.accs.below hbel).cell (k := k) hka
      subst e1
      subst e2
      generalize h.accs[k].name = nm at *
      generalize h.accs[k].line = ln at *
      have i1 : (0 : Int) ≤ (k : Int) := by omega
      have i2 : (k : Int) < (nA : Int) := by omega
      go_wp2_with fail
      go_quiet (fail)
      go_wp2_with fail
      go_roundw
      case rel => exact ⟨k + 1, by omega, by go_num, below_drewN hbel _⟩
      case measure => simp [intOf]; omega
    · have i2 : ¬ (k : Int) < (nA : Int) := by omega
      go_wp2_with fail
      go_loopw [6] (fun i wr => ∃ q : Nat, q ≤ nP ∧ i = .int .i64 (q : Int) ∧ Below W0.heap.size W0 wr) (fun i _ => nP - (intOf i).toNat)
      case atStart => exact ⟨0, by omega, rfl, hbel⟩
      case round =>
        clear s0 s1 t0 t1 hbel
        obtain ⟨q, hq, rfl, hbe⟩ := hrel
        obtain ⟨wy, ewy⟩ : ∃ z : World, z = wr := ⟨_, rfl⟩
        subst ewy
        obtain ⟨s0, s1⟩ := (hT1.below hbe).cells
        obtain ⟨t0, t1⟩ := (hT2.below hbe).cells
        by_cases hlq : q < nP
        · have hqa : q < h.pers.length := by rw [HK1.out.lenP]; exact hlq
          obtain ⟨b1, o1, e1, _, a1, c1, x1, hE1⟩ := (HK1.out.pers.below hbe).cell (k := q) hqa
          obtain ⟨b2, o2, e2, _, a2, c2, x2, hE2⟩ := (HK2.out.pers.below hbe).cell (k := q) hqa
          subst e1
          subst e2
          have hsz := HK1.out.sizP _ (List.getElem_mem hqa)
          obtain ⟨es, hes⟩ : ∃ es, h.pers[q] = es := ⟨_, rfl⟩
          rw [hes] at x1 x2 hE1 hE2 hsz
          clear hes
          obtain ⟨n, hn⟩ : ∃ n, es.length = n := ⟨_, rfl⟩
          rw [hn] at x1 x2 hsz
          have HN : Hid (es.length = n) := hn
          have HSz : Hid (∀ e ∈ es, e.memo.size ≤ 140737488355328 ∧ e.posts.length ≤ 140737488355328) := hsz.2
          have hn47 := hsz.1
          clear hn hsz
          have i1 : (0 : Int) ≤ (q : Int) := by omega
          have i3 : (q : Int) < (nP : Int) := by omega
          go_wp2_with fail
          go_loopw [9] (fun i wr => ∃ j : Nat, j ≤ n ∧ i = .int .i64 (j : Int) ∧ Below wy.heap.size wy wr) (fun i _ => n - (intOf i).toNat)
          case atStart => exact ⟨0, by omega, rfl, Below.refl _ _⟩
          case round =>
            clear s0 s1 t0 t1 x1 x2
            obtain ⟨j, hj, rfl, hbj⟩ := hrel
            obtain ⟨wx, ewx⟩ : ∃ z : World, z = wr := ⟨_, rfl⟩
            subst ewx
            by_cases hlj : j < n
            · have hja : j < es.length := by rw [HN.out]; exact hlj
              obtain ⟨d1, f1, e1, hd1, m1, aq1, cq1, y1, hp1⟩ := (hE1.below hbj).cell (k := j) hja
              obtain ⟨d2, f2, e2, hd2, m2, aq2, cq2, y2, hp2⟩ := (hE2.below hbj).cell (k := j) hja
              subst e1
              subst e2
              have hlp := (HSz.out es[j] (List.getElem_mem _)).2
              obtain ⟨mm, pp, hmp⟩ : ∃ mm pp, es[j] = ⟨mm, pp⟩ := ⟨_, _, rfl⟩
              rw [hmp] at m1 y1 hp1 m2 y2 hp2 hlp
              simp only at m1 y1 hp1 m2 y2 hp2 hlp
              clear hmp
              obtain ⟨np, hnp⟩ : ∃ np, pp.length = np := ⟨_, rfl⟩
              rw [hnp] at y1 y2 hlp
              have HNP : Hid (pp.length = np) := hnp
              clear hnp
              have i4 : (0 : Int) ≤ (j : Int) := by omega
              have i5 : (j : Int) < (n : Int) := by omega
              go_wp2_with fail
              go_quiet (fail)
              go_wp2_with fail
              go_loopw [10] (fun i wr => ∃ z : Nat, z ≤ np ∧ i = .int .i64 (z : Int) ∧ Below wx.heap.size wx wr) (fun i _ => np - (intOf i).toNat)
              case atStart => exact ⟨0, by omega, rfl, below_drewN (Below.refl _ _) _⟩
              case round =>
                obtain ⟨z, hz, rfl, hbz⟩ := hrel
                have y1' := (hbz.cell (p := ⟨d1, f1 + j * 2 + 1, none⟩) hd1).trans y1
                have y2' := (hbz.cell (p := ⟨d2, f2 + j * 2 + 1, none⟩) hd2).trans y2
                by_cases hlz : z < np
                · have hza : z < pp.length := by rw [HNP.out]; exact hlz
                  obtain ⟨u1, v1, e1, _, ha1, hn1⟩ := (hp1.below hbz).cell (k := z) hza
                  obtain ⟨u2, v2, e2, _, ha2, hn2⟩ := (hp2.below hbz).cell (k := z) hza
                  subst e1
                  subst e2
                  generalize pp[z].acct = a at *
                  generalize pp[z].amt = m at *
                  have i6 : (0 : Int) ≤ (z : Int) := by omega
                  have i7 : (z : Int) < (np : Int) := by omega
                  clear m1 m2 y1 y2 hp1 hp2
                  go_wp2_with fail
                  go_quiet (fail)
                  go_wp2_with fail
                  go_roundw
                  case rel => exact ⟨z + 1, by omega, by go_num, below_drewN hbz _⟩
                  case measure => simp [intOf]; omega
                · clear m1 m2 y1 y2
                  have i7 : ¬ (z : Int) < (np : Int) := by omega
                  have hbn := hbj.trans (hbz.mono hbj.size)
                  go_wp2_with fail
                  go_roundw
                  case rel => exact ⟨j + 1, by omega, by go_num, hbn⟩
                  case measure => simp [intOf]; omega
            · have i5 : ¬ (j : Int) < (n : Int) := by omega
              have hbn := hbe.trans (hbj.mono hbe.size)
              go_wp2_with fail
              go_roundw
              case rel => exact ⟨q + 1, by omega, by go_num, hbn⟩
              case measure => simp [intOf]; omega
        · have i3 : ¬ (q : Int) < (nP : Int) := by omega
          go_wp2_with fail
          go_ret
          exact ⟨rfl, hb0.trans (hbe.mono hb0.size)⟩
end Go.Proofs.Ytpkkhkkkgjhkeaa

/-
  THE WALK of signetkeep.Opened (P5 to P8).
-/
namespace Go.Proofs.Ytpkkhkkkgjhkeaa
open Go.RowKit
set_option maxRecDepth 100000
attribute [local go_sem ↓] Go.wp_at_zero Go.wp_at_succ

/-- Decode of a package. -/
theorem decode_pk {h : Sg.Hist} {t : ByteArray} {nA nP : Nat} (hr : Sg.pdHist (Sg.tx t) = h) (hp : Sg.isPk h t) (hA : h.accs.length = nA) (hP : h.pers.length = nP) (w : World) :
    Calls Try.prog 31 #[.string t] w fun e w' => ∃ aoA capA aoP capP, e = .returned (.tuple #[.agg #[.slice aoA nA capA, .slice aoP nP capP], .int .i64 0]) ∧ (nA ≤ capA ∧ capA ≤ 9223372036854775807) ∧ HistIn w' aoA aoP nA nP h ∧ Below w.heap.size w w' := by
  refine (decode_any t w).mono ?_
  rw [hr]
  rintro e w' ⟨hb, ⟨hn, _⟩ | ⟨_, aoA, mA, capA, aoP, mP, capP, rfl, hcc, hH, _, _⟩⟩
  · exact absurd hp hn
  · obtain rfl : nA = mA := by rw [← hA]; exact hH.lenA
    obtain rfl : nP = mP := by rw [← hP]; exact hH.lenP
    exact ⟨aoA, capA, aoP, capP, rfl, hcc, hH, hb⟩
/-- Decode of what is none. -/
theorem decode_no {t : ByteArray} (hn : ¬ Sg.isPk (Sg.pdHist (Sg.tx t)) t) (w : World) :
    Calls Try.prog 31 #[.string t] w fun e w' => e = .returned (.tuple #[.agg #[nilV, nilV], .int .i64 5]) ∧ Below w.heap.size w w' := by
  refine (decode_any t w).mono ?_
  rintro e w' ⟨hb, ⟨_, rfl⟩ | ⟨hp, _⟩⟩
  · exact ⟨rfl, hb⟩
  · exact absurd hp hn
theorem seal_as {h : Sg.Hist} {pk hd : ByteArray} {nA nP : Nat} (h1 : Sg.package h = pk) (h2 : Sg.headOf h = hd) (h3 : Sg.closeErr h = 0) (aoA aoP : Option Addr) (capA capP : Nat) (W : World) (hH : HistIn W aoA aoP nA nP h) (hc : nA ≤ capA ∧ capA ≤ 9223372036854775807) :
    Calls Try.prog 27 #[.agg #[.slice aoA nA capA, .slice aoP nP capP]] W fun e w' => e = .returned (.tuple #[.string pk, .string hd, .int .i64 0]) ∧ Below W.heap.size W w' := by
  have := seal_any h aoA aoP nA nP capA capP W hH hc.1 hc.2
  rw [h1, h2, h3] at this
  exact this

set_option maxHeartbeats 6400000 in
theorem opened_any (c each cut : Int) (other : ByteArray) (rs : List Raw) (ao : Option Addr) (nr cap : Nat) (w : World) (hc : -9223372036854775808 ≤ c ∧ c ≤ 9223372036854775807) (he : -9223372036854775808 ≤ each ∧ each ≤ 9223372036854775807) (hcu : -9223372036854775808 ≤ cut ∧ cut ≤ 9223372036854775807) (hl : rs.length = nr) (hnr : nr ≤ 4611686018427387904) (hR : RawsIn w ao rs) (hf : ∀ r ∈ rs, rawFits r) :
    Calls Try.prog 11 #[.int .i64 c, .slice ao nr cap, .int .i64 each, .string other, .int .i64 cut] w fun e w' => e = .returned (.bool true) ∧ Below w.heap.size w w' := by
  have hcall := made_any c each rs ao nr cap w hc he hl hnr hR hf
  clear hl hR hf hnr hc he
  go_enter Try.func11, Try.ntmps11
  go_wp2_with fail
  refine hcall.mono ?_
  rintro e w1 ⟨vA, vP, rfl, HM⟩
  clear hcall
  obtain ⟨ac, ps, hA, hP, hok, hb1⟩ := HM
  obtain ⟨aoA, capA, aoP, capP, e1, e2, c1, c2, hH⟩ := hist_own (h := ⟨ac, ps⟩) hA hP hok.sizes
  obtain ⟨h, hh⟩ : ∃ h, (⟨ac, ps⟩ : Sg.Hist) = h := ⟨_, rfl⟩
  rw [hh] at e1 e2 c1 hH hok
  obtain ⟨nA, hnA⟩ : ∃ k, h.accs.length = k := ⟨_, rfl⟩
  obtain ⟨nP, hnP⟩ : ∃ k, h.pers.length = k := ⟨_, rfl⟩
  rw [hnA] at e1 c1 hH
  rw [hnP] at e2 hH
  subst e1 e2
  have hc0 := hok.sealed
  obtain ⟨pk, hpk⟩ : ∃ k, Sg.package h = k := ⟨_, rfl⟩
  obtain ⟨hd, hhd⟩ : ∃ k, Sg.headOf h = k := ⟨_, rfl⟩
  have q1 := Sg.isPk_package hc0 hok.fits
  have q2 := Sg.package_pos hc0
  have q3 := Sg.package_small hc0
  have q4 := Sg.headOf_size hc0
  have q5 := Sg.not_cut hc0 hok.fits
  have q6 := Sg.not_more hc0 hok.fits ⟨#[0]⟩ (by decide)
  have q7 : ∀ o, Sg.verAll (Sg.package h) o = if Sg.headOf h = o then 0 else 6 := fun o => by
    unfold Sg.verAll
    rw [q1.1, if_pos q1.2]
    rfl
  rw [hpk] at q1 q2 q3 q5 q6 q7
  rw [hhd] at q4 q7
  have HQ1 : Hid (Sg.pdHist (Sg.tx pk) = h ∧ Sg.isPk h pk) := q1
  have HQ5 : Hid (∀ k < pk.size, ¬ Sg.isPk (Sg.pdHist (Sg.tx (pk.extract 0 k))) (pk.extract 0 k)) := q5
  have HQ6 : Hid (¬ Sg.isPk (Sg.pdHist (Sg.tx (pk ++ ⟨#[0]⟩))) (pk ++ ⟨#[0]⟩)) := q6
  have HQ7 : Hid (∀ o, Sg.verAll pk o = if hd = o then 0 else 6) := q7
  have HS : Hid (∀ (aoA aoP : Option Addr) (capA capP : Nat) (W : World), HistIn W aoA aoP nA nP h → (nA ≤ capA ∧ capA ≤ 9223372036854775807) → Calls Try.prog 27 #[.agg #[.slice aoA nA capA, .slice aoP nP capP]] W fun e w' => e = .returned (.tuple #[.string pk, .string hd, .int .i64 0]) ∧ Below W.heap.size W w') := fun a b c d W hH hc => seal_as hpk hhd hc0 a b c d W hH hc
  have HNA : Hid (h.accs.length = nA) := hnA
  have HNP : Hid (h.pers.length = nP) := hnP
  have hn8 : nA ≤ 8 := by rw [← hnA]; exact hok.accs.2
  have hn6 : nP ≤ 6 := by rw [← hnP]; exact hok.pers.2
  have hcc : nA ≤ capA ∧ capA ≤ 9223372036854775807 := ⟨c1, c2⟩
  have hd2 : ((hd.size : Int) != 2) = false := by rw [q4]; rfl
  have HH1 : Hid (HistIn w1 aoA aoP nA nP h) := hH
  clear hA hP hok hh hH q1 q5 q6 q7 hpk hhd hc0 hnA hnP q4 c1 c2
  have aB : Below w1.heap.size w1 (w1.alloc (.cells #[.slice aoA nA capA, .slice aoP nP capP] 41)) := (Below.refl _ _).alloc (Nat.le_refl _) _
  have hT := Two.new w1 (.slice aoA nA capA) (.slice aoP nP capP) 41
  have b1 := hb1.trans (aB.mono hb1.size)
  have HH2 : Hid (HistIn (w1.alloc (.cells #[.slice aoA nA capA, .slice aoP nP capP] 41)) aoA aoP nA nP h) := HH1.out.below aB
  clear HH1 aB hb1
  go_wp2_with fail
  generalize w1.alloc (.cells #[.slice aoA nA capA, .slice aoP nP capP] 41) = W at *
  refine (lives_any _).mono ?_
  rintro e w2 ⟨rfl, hb2⟩
  have hT2 := hT.below hb2
  have b2 := b1.trans (hb2.mono b1.size)
  have HH3 : Hid (HistIn w2 aoA aoP nA nP h) := HH2.out.below hb2
  clear HH2 hT b1 hb2
  obtain ⟨bx0, bx1⟩ := hT2.cells
  go_wp2_with fail
  refine (HS.out aoA aoP capA capP w2 HH3.out hcc).mono ?_
  rintro e w3 ⟨rfl, hb3⟩
  have hT3 := hT2.below hb3
  have b3 := b2.trans (hb3.mono b2.size)
  have HH4 : Hid (HistIn w3 aoA aoP nA nP h) := HH3.out.below hb3
  clear HH3 hT2 b2 hb3 bx0 bx1
  go_wp2_with fail
  refine (decode_pk HQ1.out.1 HQ1.out.2 HNA.out HNP.out w3).mono ?_
  rintro e w4 ⟨aoG, capG, aoQ, capQ, rfl, hcg, hG, hb4⟩
  have hT4 := hT3.below hb4
  have b4 := b3.trans (hb4.mono b3.size)
  have HH5 : Hid (HistIn w4 aoA aoP nA nP h) := HH4.out.below hb4
  have aB : Below w4.heap.size w4 (w4.alloc (.cells #[.slice aoG nA capG, .slice aoQ nP capQ] 41)) := (Below.refl _ _).alloc (Nat.le_refl _) _
  have hg := Two.new w4 (.slice aoG nA capG) (.slice aoQ nP capQ) 41
  have hT5 := hT4.below aB
  have b5 := b4.trans (aB.mono b4.size)
  have HH6 : Hid (HistIn (w4.alloc (.cells #[.slice aoG nA capG, .slice aoQ nP capQ] 41)) aoA aoP nA nP h ∧ HistIn (w4.alloc (.cells #[.slice aoG nA capG, .slice aoQ nP capQ] 41)) aoG aoQ nA nP h) := ⟨HH5.out.below aB, hG.below aB⟩
  have hlt : w1.heap.size < w4.heap.size := lt_of_block hT4
  clear HH4 HH5 hT3 hT4 b3 b4 hb4 hG aB
  obtain ⟨bx0, bx1⟩ := hT5.cells
  obtain ⟨gx0, gx1⟩ := hg.cells
  go_wp2_with fail
  generalize w4.alloc (.cells #[.slice aoG nA capG, .slice aoQ nP capQ] 41) = W5 at *
  refine (keepSame_any h aoG aoQ aoA aoP nA nP capG capQ capA capP W5 HH6.out.2 HH6.out.1 (by omega) (by omega)).mono ?_
  rintro e w6 ⟨rfl, hb6⟩
  have hg6 := hg.below hb6
  have b6 := b5.trans (hb6.mono b5.size)
  have HH7 : Hid (HistIn w6 aoG aoQ nA nP h) := HH6.out.2.below hb6
  clear HH6 hT5 hg b5 hb6 bx0 bx1 gx0 gx1
  obtain ⟨gx0, gx1⟩ := hg6.cells
  go_wp2_with fail
  refine (HS.out aoG aoQ capG capQ w6 HH7.out hcg).mono ?_
  rintro e w7 ⟨rfl, hb7⟩
  have b7 := b6.trans (hb7.mono b6.size)
  clear HH7 hg6 b6 hb7 gx0 gx1 HS
  go_wp2_with fail
  refine (verify_all pk hd w7).mono ?_
  rintro e w8 ⟨rfl, hb8⟩
  have b8 := b7.trans (hb8.mono b7.size)
  rw [HQ7.out hd, if_pos rfl]
  clear b7 hb8
  go_wp2_with fail
  refine (verify_all pk other w8).mono ?_
  rintro e w9 ⟨rfl, hb9⟩
  have b9 := b8.trans (hb9.mono b8.size)
  obtain ⟨vv, hvv⟩ : ∃ vv, Sg.verAll pk other = vv := ⟨_, rfl⟩
  rw [hvv]
  have HVV : Hid (vv = if hd = other then 0 else 6) := by show _ = _; rw [← hvv]; exact HQ7.out other
  clear b8 hb9 hvv
  go_wp2_with fail
  refine (pick_any cut pk.size w9 hcu (by omega) (by omega)).mono ?_
  rintro e w10 ⟨k, rfl, hk, hw⟩
  have hw' := hw.symm
  subst hw'
  clear hw
  have k1 : (0 : Int) ≤ (k : Int) := by omega
  have k2 : (k : Int) ≤ (pk.size : Int) := by omega
  have hdn := decode_no (HQ5.out k hk)
  go_wp2_with fail
  refine (hdn _).mono ?_
  rintro e w11 ⟨rfl, hb11⟩
  have b11 := b9.trans (hb11.mono b9.size)
  have aC : Below w11.heap.size w11 (w11.alloc (.cells #[nilV, nilV] 41)) := (Below.refl _ _).alloc (Nat.le_refl _) _
  have b12 := b11.trans (aC.mono b11.size)
  have hcat := cat pk ⟨#[0]⟩ (by have : (⟨#[0]⟩ : ByteArray).size = 1 := rfl; omega)
  have hdm := decode_no HQ6.out
  obtain ⟨pm, hpm⟩ : ∃ pm, pk ++ ⟨#[0]⟩ = pm := ⟨_, rfl⟩
  rw [hpm] at hcat hdm
  clear hdn hpm b11 hb11 b9 aC HQ5 HQ6
  go_wp2_with fail
  generalize w11.alloc (.cells #[nilV, nilV] 41) = W12 at *
  refine (hdm _).mono ?_
  rintro e w13 ⟨rfl, hb13⟩
  have b13 := b12.trans (hb13.mono b12.size)
  have HB : Hid (Below w.heap.size w (w13.alloc (.cells #[nilV, nilV] 41))) := b13.alloc b13.size _
  clear hdm b12 hb13 hcat
  by_cases e : other.toList = hd.toList
  · have eo := same_txt e
    subst eo
    have hv0 : vv = 0 := by rw [HVV.out, if_pos rfl]
    subst hv0
    clear HVV
    go_wp2_with fail
    go_ret
    exact ⟨rfl, HB.out⟩
  · have eb : (other.toList == hd.toList) = false := by simp [e]
    have hv6 : vv = 6 := by
      rw [HVV.out, if_neg]
      intro h'
      exact e (by rw [h'])
    subst hv6
    clear HVV
    go_wp2_with fail
    go_ret
    exact ⟨rfl, HB.out⟩
end Go.Proofs.Ytpkkhkkkgjhkeaa
