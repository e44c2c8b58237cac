/-
  THE WALK of signetkeep.Forged (P10, P12, P13).
-/
import Derived.Test.YtpkkhkkkgjhkeabGreatShifted
import Derived.Test.YtpkkhkkkgjhkeabGreatBalInv
import Derived.Deep.CutRange
namespace Go.Proofs.YtpkkhkkkgjhkeabGreat
open Go.RowKit
set_option maxRecDepth 100000
attribute [local go_sem ↓] Go.wp_at_zero Go.wp_at_succ

theorem Sg.bun_made {h : Sg.Hist} (m : Sg.MadeOk h) {i k : Nat} (hi : i < h.pers.length) (hk : k < 4) : Sg.lookOk (Sg.bunOf h i k) (Sg.headOf h) = true ∧ Sg.lookErr (Sg.bunB (Sg.bunOf h i k)) (Sg.headOf h) = 0 ∧ Sg.bunL (Sg.tx (Sg.bunB (Sg.bunOf h i k))) = Sg.bunOf h i k ∧ (∀ d ∈ (Sg.bunOf h i k).drls, d.place ≤ 222) ∧ (Sg.bunOf h i k).Fine := by
  have hf := Sg.bunOf_made m hi hk
  have ho : Sg.lookOk (Sg.bunOf h i k) (Sg.headOf h) = true := by rw [Sg.lookOk_bunOf m.sealed hi hk]; simp
  have he := Sg.lookErr_bun hf (Sg.headOf h)
  rw [if_pos ho] at he
  refine ⟨ho, he, (Sg.bunB_read hf).2, fun d hd => ?_, hf⟩
  have hd' : d ∈ Sg.drillsFrom h.accs (k : Int) 0 (h.pers.getD i []) := hd
  have := Sg.drillsFrom_place 4 h.accs (k : Int) (h.pers.getD i []) 0 (fun e he => by
    rw [List.getD_eq_getElem?_getD, List.getElem?_eq_getElem hi] at he
    exact ((m.ents _ (List.getElem_mem hi)).2 e he).few) d hd'
  omega
theorem Sg.clash_bun {T D hd : ByteArray} {n : Sg.Bun} (h0 : Sg.lookErr T hd = 0) (hr : Sg.bunL (Sg.tx T) = n) : Sg.clashErr T D hd = if Sg.lookErr D hd ≠ 0 then Sg.lookErr D hd else
    if ((n.per = (Sg.bunL (Sg.tx D)).per ∧ n.line = (Sg.bunL (Sg.tx D)).line) ∧ ¬ (n.total = (Sg.bunL (Sg.tx D)).total ∧ n.drls = (Sg.bunL (Sg.tx D)).drls)) then 0 else 7 := by
  unfold Sg.clashErr
  rw [h0, hr, if_neg (by simp)]
/-- The line that was shown lies in its box. -/
structure FgO (w wr : World) (g1 : Nat) (p1 l1 t1 : Int) (aoD : Option Addr) (nd capD : Nat) (ds : List Sg.Drl) : Prop where
  one : Quad wr g1 (.int .i64 p1) (.int .i64 l1) (.int .i64 t1) (.slice aoD nd capD) 37
  drls : DrlsIn wr aoD ds
  bel : Below w.heap.size w wr
theorem FgO.below {w wr w' : World} {g1 : Nat} {p1 l1 t1 : Int} {aoD : Option Addr} {nd capD : Nat} {ds : List Sg.Drl} (h : FgO w wr g1 p1 l1 t1 aoD nd capD ds) (hb : Below wr.heap.size wr w') : FgO w w' g1 p1 l1 t1 aoD nd capD ds :=
  ⟨h.one.below hb, h.drls.below hb, h.bel.trans (hb.mono h.bel.size)⟩
theorem FgO.drewN {w wr : World} {g1 : Nat} {p1 l1 t1 : Int} {aoD : Option Addr} {nd capD : Nat} {ds : List Sg.Drl} (h : FgO w wr g1 p1 l1 t1 aoD nd capD ds) (m : Nat) : FgO w (wr.drewN m) g1 p1 l1 t1 aoD nd capD ds :=
  ⟨h.one, h.drls, below_drewN h.bel m⟩
/-- .. and another one. -/
structure FgI (w wr : World) (g1 g2 : Nat) (p1 l1 t1 p2 l2 t2 : Int) (aoD aoE : Option Addr) (nd capD ne capE : Nat) (ds es : List Sg.Drl) : Prop where
  one : FgO w wr g1 p1 l1 t1 aoD nd capD ds
  two : FgO w wr g2 p2 l2 t2 aoE ne capE es
theorem FgI.below {w wr w' : World} {g1 g2 : Nat} {p1 l1 t1 p2 l2 t2 : Int} {aoD aoE : Option Addr} {nd capD ne capE : Nat} {ds es : List Sg.Drl} (h : FgI w wr g1 g2 p1 l1 t1 p2 l2 t2 aoD aoE nd capD ne capE ds es) (hb : Below wr.heap.size wr w') : FgI w w' g1 g2 p1 l1 t1 p2 l2 t2 aoD aoE nd capD ne capE ds es :=
  ⟨h.one.below hb, h.two.below hb⟩
theorem FgI.drewN {w wr : World} {g1 g2 : Nat} {p1 l1 t1 p2 l2 t2 : Int} {aoD aoE : Option Addr} {nd capD ne capE : Nat} {ds es : List Sg.Drl} (h : FgI w wr g1 g2 p1 l1 t1 p2 l2 t2 aoD aoE nd capD ne capE ds es) (m : Nat) : FgI w (wr.drewN m) g1 g2 p1 l1 t1 p2 l2 t2 aoD aoE nd capD ne capE ds es :=
  ⟨h.one.drewN m, h.two.drewN m⟩
/-- A byte is stored beside the line. -/
theorem fg_put {wr w1 : World} {gB N i : Nat} {l : List UInt8} (hB : BRow wr gB l) (hl : l.length = N) (hi : i < N) (hb : Below w1.heap.size w1 wr) (hg : w1.heap.size ≤ gB) (x y : Int) :
    ∃ l', l'.length = N ∧ BRow (wr.setCell ⟨gB, i, none⟩ (.int .u8 (bits .xor .u8 x y))) gB l' ∧ Below w1.heap.size w1 (wr.setCell ⟨gB, i, none⟩ (.int .u8 (bits .xor .u8 x y))) := by
  have h := hB.put (i := i) (by omega) (xorB x y)
  rw [← xorB_is] at h
  exact ⟨_, by rw [List.length_set]; exact hl, h, hb.setCell (p := ⟨gB, i, none⟩) hg _⟩
theorem run_hist_pers (v : Value) (ao : Option Addr) (n c : Nat) (W : World) : (Instr.field 26 (.agg #[v, .slice ao n c]) 1).run Tryz.prog W = .ok (.slice ao n c) W := by
  simp [Instr.field, run_underlying Tryz.underlying26, asAgg, part, isAgg, run_underlying Tryz.underlying24]

set_option maxHeartbeats 25600000 in
/-- Forged. -/
theorem forged_any (c each per line a1 y1 a2 y2 : Int) (rs : List Raw) (ao : Option Addr) (nr cap : Nat) (w : World) (hc : -9223372036854775808 ≤ c ∧ c ≤ 9223372036854775807) (he : -9223372036854775808 ≤ each ∧ each ≤ 9223372036854775807) (hper : -9223372036854775808 ≤ per ∧ per ≤ 9223372036854775807) (hline : -9223372036854775808 ≤ line ∧ line ≤ 9223372036854775807) (ha1 : -9223372036854775808 ≤ a1 ∧ a1 ≤ 9223372036854775807) (hy1 : -9223372036854775808 ≤ y1 ∧ y1 ≤ 9223372036854775807) (ha2 : -9223372036854775808 ≤ a2 ∧ a2 ≤ 9223372036854775807) (hy2 : -9223372036854775808 ≤ y2 ∧ y2 ≤ 9223372036854775807) (hl : rs.length = nr) (hnr : nr ≤ 4611686018427387904) (hR : RawsIn w ao rs) (hf : ∀ r ∈ rs, rawFits r) :
    Calls Tryz.prog 4 #[.int .i64 c, .slice ao nr cap, .int .i64 each, .int .i64 per, .int .i64 line, .int .i64 a1, .int .i64 y1, .int .i64 a2, .int .i64 y2] w fun e w' => e = .returned (.bool true) ∧ Below w.heap.size w w' := by
  have hmade := fun W (hb : Below w.heap.size w W) => madeX_any c each rs ao nr cap W hc he hl hnr (hR.below hb) hf
  clear hc he hl hR hf hnr
  have hm1 := hmade w (Below.refl _ _)
  go_enter Tryz.func4, Tryz.ntmps4
  go_wp2_with fail
  refine hm1.mono ?_
  rintro e w1 ⟨vA, vP, rfl, ac, ps, hA, hP, hok, hb1, hX1⟩
  have hse := seal_own (h := ⟨ac, ps⟩) hA hP hok.sizes
  rw [hok.sealed] at hse
  obtain ⟨nP, hnP⟩ : ∃ k, ps.length = k := ⟨_, rfl⟩
  have hpb : 1 ≤ nP ∧ nP ≤ 6 := by have := hok.pers; simp only [hnP] at this; exact this
  have hpv := fun (i k : Int) W hik => prove_made hok i k W hik
  have HOk : Hid (Sg.MadeOk ⟨ac, ps⟩) := hok
  have HPV : Hid (∀ (i k : Int) (W : World), (-9223372036854775808 ≤ i ∧ i ≤ 9223372036854775807) → Calls Tryz.prog 9 #[.string (Sg.package ⟨ac, ps⟩), .int .i64 i, .int .i64 k] W fun e w' => ∃ y, e = .returned (.tuple #[.string y, .int .i64 (if 0 ≤ i ∧ i < (nP : Int) ∧ 0 ≤ k ∧ k < 4 then 0 else 1)]) ∧ Hid (0 ≤ i ∧ i < (nP : Int) ∧ 0 ≤ k ∧ k < 4 → y = Sg.bunB (Sg.bunOf ⟨ac, ps⟩ i.toNat k.toNat)) ∧ Below W.heap.size W w') := by
    intro i k W hik
    have := hpv i k W hik
    simp only [hnP] at this
    exact this
  have HX1 : Hid (∃ k, 1 ≤ k ∧ nP = k ∧ k ≤ 6 ∧ (k = 6 ∨ rs.length ≤ k * (1 + pickN each 12)) ∧ ∀ k', 1 ≤ k' → k' < k → k' * (1 + pickN each 12) < rs.length) := by
    obtain ⟨k, _, _, _, k1, k2, k3, k4⟩ := hX1
    exact ⟨k, k1, by omega, by omega, k3, k4⟩
  have HNP : Hid (ps.length = nP) := hnP
  generalize Sg.package ⟨ac, ps⟩ = pk at *
  obtain ⟨hd, ehd⟩ : ∃ hd, Sg.headOf ⟨ac, ps⟩ = hd := ⟨_, rfl⟩
  rw [ehd] at hse
  have HHD : Hid (Sg.headOf ⟨ac, ps⟩ = hd) := ehd
  clear hm1 hA hP hok hX1 hpv ehd hnP
  go_wp2_with fail
  refine hse.mono ?_
  rintro e w2 ⟨rfl, hb2⟩
  have b2 := hb1.trans (hb2.mono hb1.size)
  have hm2 := hmade w2 b2
  clear hse hb1 hb2 hmade
  go_wp2_with fail
  refine hm2.mono ?_
  rintro e w3 ⟨vA2, vP2, rfl, ac2, ps2, hA, hP, hok2, hb3, hX2⟩
  obtain ⟨aoA, capA, aoP, capP, e1, e2, c1, c2, hH⟩ := hist_own (h := ⟨ac2, ps2⟩) hA hP hok2.sizes
  have hnn : ps2.length = nP := by
    obtain ⟨k, k1, rfl, k6, k3, k4⟩ := HX1.out
    obtain ⟨j, _, _, _, j1, j2, j3, j4⟩ := hX2
    have j6 := hok2.pers
    simp only at j6
    rw [j2]
    exact (many_same k1 k6 k3 k4 j1 (by omega) j3 j4).symm
  simp only [hnn] at e2
  subst e1 e2
  have b3 := b2.trans (hb3.mono b2.size)
  have hfld := run_hist_pers (.slice aoA ac2.length capA) aoP nP capP w3
  clear hm2 hA hP hok2 hX2 hH c1 c2 hnn hb3 b2 HX1
  go_wp2_with fail
  refine (pick_any per nP _ hper (by omega) (by omega)).mono ?_
  rintro e w4 ⟨i, rfl, hi, hw⟩
  have hw' := hw.symm
  subst hw'
  clear hw
  go_wp2_with fail
  refine (pick_any line 4 _ hline (by omega) (by omega)).mono ?_
  rintro e w4 ⟨k, rfl, hk, hw⟩
  have hw' := hw.symm
  subst hw'
  clear hw
  have hpr := HPV.out (i : Int) (k : Int) w3 (by omega)
  rw [if_pos (by omega)] at hpr
  go_wp2_with fail
  refine hpr.mono ?_
  rintro e w4 ⟨T, rfl, hT, hb4⟩
  have ey : T = Sg.bunB (Sg.bunOf ⟨ac, ps⟩ i k) := by simpa using hT.out (by omega)
  have hip : i < ps.length := by rw [HNP.out]; exact hi
  have hbm := Sg.bun_made HOk.out (i := i) (k := k) hip hk
  have hlk := fun W => look_made HOk.out (i := i) (k := k) hip hk hd W
  rw [HHD.out, ← ey] at hbm
  rw [HHD.out, ← ey] at hlk
  obtain ⟨n, hn⟩ : ∃ n, Sg.bunOf ⟨ac, ps⟩ i k = n := ⟨_, rfl⟩
  have enp : n.per = i ∧ n.line = k := by rw [← hn]; exact ⟨rfl, rfl⟩
  rw [hn] at hbm hlk ey
  have b4 := b3.trans (hb4.mono b3.size)
  obtain ⟨nd, hnd⟩ : ∃ nd, n.drls.length = nd := ⟨_, rfl⟩
  obtain ⟨ds, hds⟩ : ∃ ds, n.drls = ds := ⟨_, rfl⟩
  obtain ⟨tr, htr⟩ : ∃ tr, n.total = tr := ⟨_, rfl⟩
  rw [hds, htr] at hlk
  have hlook : ∀ W, Calls Tryz.prog 10 #[.string T, .string hd] W fun e w' => Below W.heap.size W w' ∧ ∃ ao cp, e = .returned (.tuple #[.agg #[.int .i64 (i : Int), .int .i64 (k : Int), .int .i64 tr, .slice ao nd cp], .int .i64 0]) ∧ Hid (DrlsIn w' ao ds) := fun W => by
    refine (hlk W).mono ?_
    rintro e w' ⟨hb, ⟨hne, _⟩ | ⟨_, vD, rfl, hO⟩⟩
    · exact absurd rfl hne
    · obtain ⟨ao, cp, rfl, hin⟩ := hO.shape
      refine ⟨hb, ao, cp, ?_, hin⟩
      rw [← hds, hnd]
  have HBM : Hid (Sg.lookOk n hd = true ∧ Sg.lookErr T hd = 0 ∧ Sg.bunL (Sg.tx T) = n ∧ (∀ d ∈ n.drls, d.place ≤ 222) ∧ n.Fine) := hbm
  have HNN : Hid (n.per = i ∧ n.line = k ∧ n.total = tr ∧ n.drls = ds ∧ n.drls.length = nd ∧ T = Sg.bunB n) := ⟨enp.1, enp.2, htr, hds, hnd, ey⟩
  clear hpr hT ey hb4 b3 hbm hlk hn enp hnd hds htr HPV HOk HNP HHD hip
  go_wp2_with fail
  refine (hlook _).mono ?_
  rintro e w5 ⟨hb5, aoD, capD, rfl, HD5⟩
  have aL : Below w5.heap.size w5 (w5.alloc (.cells #[.int .i64 (i : Int), .int .i64 (k : Int), .int .i64 tr, .slice aoD nd capD] 37)) := (Below.refl _ _).alloc (Nat.le_refl _) _
  have hQ6 := Quad.new w5 (.int .i64 (i : Int)) (.int .i64 (k : Int)) (.int .i64 tr) (.slice aoD nd capD) 37
  obtain ⟨g1, eg1⟩ : ∃ g1, w5.heap.size = g1 := ⟨_, rfl⟩
  rw [eg1] at hQ6
  have b5 := b4.trans (hb5.mono b4.size)
  have HO6 : Hid (FgO w (w5.alloc (.cells #[.int .i64 (i : Int), .int .i64 (k : Int), .int .i64 tr, .slice aoD nd capD] 37)) g1 (i : Int) (k : Int) tr aoD nd capD ds) := ⟨hQ6, HD5.out.below aL, b5.trans (aL.mono b5.size)⟩
  clear hlook hb5 HD5 aL hQ6 b4 b5
  go_wp2_with fail
  generalize (w5.alloc (.cells #[.int .i64 (i : Int), .int .i64 (k : Int), .int .i64 tr, .slice aoD nd capD] 37)) = w6 at *
  try rw [eg1]
  clear eg1
  refine (lives_any _).mono ?_
  rintro e w7 ⟨rfl, hb7⟩
  have HO7 : Hid (FgO w w7 g1 (i : Int) (k : Int) tr aoD nd capD ds) := HO6.out.below hb7
  obtain ⟨c0, c1, c2, c3⟩ := HO7.out.one.cells
  have hsh := shifted_any n (i : Int) (k : Int) tr hd aoD nd capD w7 HBM.out.2.2.2.2 HBM.out.1 HBM.out.2.2.2.1 HNN.out.2.2.2.2.1 (by rw [HNN.out.2.2.2.1]; exact HO7.out.drls)
  rw [← HNN.out.2.2.2.2.2] at hsh
  clear hb7 HO6
  go_wp2_with fail
  refine hsh.mono ?_
  rintro e w8 ⟨rfl, hb8⟩
  have HO8 : Hid (FgO w w8 g1 (i : Int) (k : Int) tr aoD nd capD ds) := HO7.out.below hb8
  clear hsh hb8 HO7 c0 c1 c2 c3
  obtain ⟨N, hN⟩ : ∃ N, T.size = N := ⟨_, rfl⟩
  have hNb : 1 ≤ N ∧ N ≤ 1000000 := by
    rw [← hN, HNN.out.2.2.2.2.2]
    have h := (Sg.bunB_read HBM.out.2.2.2.2).1
    unfold Sg.formL at h
    rw [decide_eq_true_eq] at h
    rw [← Sg.tx_length]
    omega
  obtain ⟨cp, w9, hcv, hR9, hb9⟩ := bytes_new T w8
  obtain ⟨gB, egB⟩ : ∃ gB, w8.heap.size = gB := ⟨_, rfl⟩
  rw [hN, egB] at hcv
  rw [egB] at hR9
  have HR9 : Hid (BRow w9 gB (Sg.tx T) ∧ (Sg.tx T).length = N ∧ Below w8.heap.size w8 w9 ∧ w8.heap.size ≤ gB) := ⟨hR9, by rw [Sg.tx_length]; exact hN, hb9, by omega⟩
  clear hR9 hb9 hN egB
  go_wp2_with fail
  refine (pick_any a1 N _ ha1 hNb.1 (by omega)).mono ?_
  rintro e w10 ⟨i1, rfl, hi1, hw⟩
  have hw' := hw.symm
  subst hw'
  clear hw hcv
  go_upto_region 13 with fail
  go_cut [28] from 99 to 228 (fun v wx => v = .bool true ∧ ∃ l : List UInt8, Hid (BRow wx gB l ∧ l.length = N ∧ Below w8.heap.size w8 wx ∧ w8.heap.size ≤ gB))
  case first =>
    have hi1' : i1 < (Sg.tx T).length := by rw [HR9.out.2.1]; exact hi1
    have x1 := HR9.out.1.cell i1 hi1'
    have x2 := HR9.out.1.free i1 hi1'
    obtain ⟨bn, hbn⟩ : ∃ bn : Int, (((Sg.tx T)[i1].toNat : Nat) : Int) = bn := ⟨_, rfl⟩
    rw [hbn] at x1
    have k1 : (0 : Int) ≤ (i1 : Int) := by omega
    have k2 : (i1 : Int) < (N : Int) := by omega
    clear hbn
    go_region_with (first | (go_at_call 8; refine (pick_any y1 255 _ hy1 (by omega) (by omega)).mono ?_; rintro e wq ⟨j, rfl, hj, hwq⟩; have hwq' := hwq.symm; subst hwq'; clear hwq; have hwj : IntKind.i64.wrap (1 + (j : Int)) = 1 + (j : Int) := IntWalk.i64_in _ (by omega); have hw8 : IntKind.u8.wrap (1 + (j : Int)) = 1 + (j : Int) := (by simp [IntKind.wrap, IntKind.bits, IntKind.signed]; omega)))
    all_goals
      obtain ⟨l', h1, h2, h3⟩ := fg_put HR9.out.1 HR9.out.2.1 hi1 HR9.out.2.2.1 HR9.out.2.2.2 bn (1 + (j : Int))
      have HPUT : Hid (∀ m, BRow ((w9.setCell ⟨gB, i1, none⟩ (.int .u8 (bits .xor .u8 bn (1 + (j : Int))))).drewN m) gB l' ∧ l'.length = N ∧ Below w8.heap.size w8 ((w9.setCell ⟨gB, i1, none⟩ (.int .u8 (bits .xor .u8 bn (1 + (j : Int))))).drewN m) ∧ w8.heap.size ≤ gB) := fun m => ⟨h2.drewN m, h1, below_drewN h3 m, HR9.out.2.2.2⟩
      clear h1 h2 h3 HR9 x1 x2
      go_wp2_with fail
      go_meet
      first | exact ⟨rfl, l', HPUT.out _⟩ | exact ⟨rfl, l', HPUT.out 0⟩ | exact ⟨rfl, l', HPUT.out 1⟩ | exact ⟨rfl, l', HPUT.out 2⟩
  case rest =>
    obtain ⟨rfl, lx, HRa⟩ := hcut
    clear HR9 hi1
    obtain ⟨wa, ewa⟩ : ∃ z : World, z = wc := ⟨_, rfl⟩
    subst ewa
    go_wp2_with fail
    refine (pick_any a2 N _ ha2 hNb.1 (by omega)).mono ?_
    rintro e wb ⟨i2, rfl, hi2, hw⟩
    have hw' := hw.symm
    subst hw'
    clear hw
    go_upto_region 15 with fail
    go_cut [28] from 115 to 228 (fun v wx => v = .bool true ∧ ∃ l : List UInt8, Hid (BRow wx gB l ∧ l.length = N ∧ Below w8.heap.size w8 wx ∧ w8.heap.size ≤ gB))
    case first =>
      have hi2' : i2 < lx.length := by rw [HRa.out.2.1]; exact hi2
      have x1 := HRa.out.1.cell i2 hi2'
      have x2 := HRa.out.1.free i2 hi2'
      obtain ⟨bn, hbn⟩ : ∃ bn : Int, ((lx[i2].toNat : Nat) : Int) = bn := ⟨_, rfl⟩
      rw [hbn] at x1
      have k1 : (0 : Int) ≤ (i2 : Int) := by omega
      have k2 : (i2 : Int) < (N : Int) := by omega
      clear hbn
      go_region_with (first | (go_at_call 8; refine (pick_any y2 256 _ hy2 (by omega) (by omega)).mono ?_; rintro e wq ⟨j, rfl, hj, hwq⟩; have hwq' := hwq.symm; subst hwq'; clear hwq; have hw8 : IntKind.u8.wrap (j : Int) = (j : Int) := (by simp [IntKind.wrap, IntKind.bits, IntKind.signed]; omega)))
      all_goals
        obtain ⟨l', h1, h2, h3⟩ := fg_put HRa.out.1 HRa.out.2.1 hi2 HRa.out.2.2.1 HRa.out.2.2.2 bn (j : Int)
        have HPUT : Hid (∀ m, BRow ((wa.setCell ⟨gB, i2, none⟩ (.int .u8 (bits .xor .u8 bn (j : Int)))).drewN m) gB l' ∧ l'.length = N ∧ Below w8.heap.size w8 ((wa.setCell ⟨gB, i2, none⟩ (.int .u8 (bits .xor .u8 bn (j : Int)))).drewN m) ∧ w8.heap.size ≤ gB) := fun m => ⟨h2.drewN m, h1, below_drewN h3 m, HRa.out.2.2.2⟩
        clear h1 h2 h3 HRa x1 x2
        go_wp2_with fail
        go_meet
        first | exact ⟨rfl, l', HPUT.out _⟩ | exact ⟨rfl, l', HPUT.out 0⟩ | exact ⟨rfl, l', HPUT.out 1⟩ | exact ⟨rfl, l', HPUT.out 2⟩
    case rest =>
      obtain ⟨rfl, lz, HRb⟩ := hcut
      clear HRa hi2
      obtain ⟨wb, ewb⟩ : ∃ z : World, z = wc := ⟨_, rfl⟩
      subst ewb
      have hcv := HRb.out.1.back (cap := cp) HRb.out.2.1
      obtain ⟨D, hD⟩ : ∃ D, Sg.ofL lz = D := ⟨_, rfl⟩
      rw [hD] at hcv
      have HOb : Hid (FgO w wb g1 (i : Int) (k : Int) tr aoD nd capD ds) := HO8.out.below HRb.out.2.2.1
      have HCE : Hid (Sg.clashErr T D hd = if Sg.lookErr D hd ≠ 0 then Sg.lookErr D hd else if ((n.per = (Sg.bunL (Sg.tx D)).per ∧ n.line = (Sg.bunL (Sg.tx D)).line) ∧ ¬ (n.total = (Sg.bunL (Sg.tx D)).total ∧ n.drls = (Sg.bunL (Sg.tx D)).drls)) then 0 else 7) := Sg.clash_bun HBM.out.2.1 HBM.out.2.2.1
      have hlk2 := fun W => look_any D hd W
      have hcl := fun W => clashLine_any T D hd W
      have HFD : Hid (Sg.lookErr D hd = 0 → (Sg.bunL (Sg.tx D)).Fine) := fun h => Sg.bunL_fine (Sg.lookErr_ok h).1
      generalize Sg.lookErr D hd = er2 at *
      generalize Sg.bunL (Sg.tx D) = n2 at *
      generalize Sg.clashErr T D hd = er at *
      clear HO8 HRb hD
      go_wp2_with fail
      refine (hlk2 _).mono ?_
      rintro e w11 ⟨hb11, ⟨hne, rfl⟩ | ⟨h0, vE, rfl, hO2⟩⟩
      · have q0 : (er2 == 0) = false := by simp [hne]
        have HX : Hid (er = er2) := by show _ = _; rw [HCE.out, if_pos hne]
        have bb := HOb.out.bel.trans (hb11.mono HOb.out.bel.size)
        have bb2 : Below w.heap.size w (w11.alloc (.cells #[.int .i64 0, .int .i64 0, .int .i64 0, .slice none 0 0] 37)) := bb.alloc bb.size _
        rw [HX.out] at hcl
        have HNE : Hid (er2 ≠ 0) := hne
        clear hlk2 hne HCE HFD HOb hb11 bb hcv
        go_wp2_with fail
        refine (hcl _).mono ?_
        rintro e w12 ⟨hb12, x, y, rfl, HXY⟩
        obtain ⟨ex, ey⟩ := HXY.out.1 HNE.out
        have ex' : x = { data := #[] } := ex
        have ey' : y = { data := #[] } := ey
        subst ex' ey'
        have bb3 := bb2.trans (hb12.mono bb2.size)
        clear hcl HXY ex ey hb12 bb2
        go_wp2_with fail
        go_ret
        exact ⟨rfl, bb3⟩
      · subst h0
        have f2 := HFD.out (by first | rfl | trivial)
        obtain ⟨aoE, capE, eE, hE⟩ := hO2.shape
        obtain ⟨ne, hne⟩ : ∃ ne, n2.drls.length = ne := ⟨_, rfl⟩
        rw [hne] at eE
        subst eE
        have hnd72 : nd ≤ 72 ∧ ne ≤ 72 := ⟨by have := HBM.out.2.2.2.2.many; rw [HNN.out.2.2.2.2.1] at this; exact this, by rw [← hne]; exact f2.many⟩
        obtain ⟨es, hes⟩ : ∃ es, n2.drls = es := ⟨_, rfl⟩
        obtain ⟨p2, hp2⟩ : ∃ p2 : Int, (n2.per : Int) = p2 := ⟨_, rfl⟩
        obtain ⟨l2, hl2⟩ : ∃ l2 : Int, (n2.line : Int) = l2 := ⟨_, rfl⟩
        obtain ⟨t2, ht2⟩ : ∃ t2 : Int, n2.total = t2 := ⟨_, rfl⟩
        obtain ⟨p1, hp1⟩ : ∃ p1 : Int, (i : Int) = p1 := ⟨_, rfl⟩
        obtain ⟨l1, hl1⟩ : ∃ l1 : Int, (k : Int) = l1 := ⟨_, rfl⟩
        have HE2 : Hid (er = if ((p1 = p2 ∧ l1 = l2) ∧ ¬ (tr = t2 ∧ ds = es)) then 0 else 7) := by
          show _ = _
          rw [HCE.out, if_neg (by simp), HNN.out.1, HNN.out.2.1, HNN.out.2.2.1, HNN.out.2.2.2.1, hes, ht2]
          have e1 : (i = n2.per ∧ k = n2.line) ↔ (p1 = p2 ∧ l1 = l2) := by omega
          simp only [e1]
        have HLN : Hid (ds.length = nd ∧ es.length = ne) := ⟨by rw [← HNN.out.2.2.2.1]; exact HNN.out.2.2.2.2.1, by rw [← hes]; exact hne⟩
        rw [hes] at hE
        have aM : Below w11.heap.size w11 (w11.alloc (.cells #[.int .i64 p2, .int .i64 l2, .int .i64 t2, .slice aoE ne capE] 37)) := (Below.refl _ _).alloc (Nat.le_refl _) _
        have hQ2 := Quad.new w11 (.int .i64 p2) (.int .i64 l2) (.int .i64 t2) (.slice aoE ne capE) 37
        obtain ⟨g2, eg2⟩ : ∃ g2, w11.heap.size = g2 := ⟨_, rfl⟩
        rw [eg2] at hQ2
        have hob := HOb.out.below hb11
        rw [hp1, hl1] at hob
        have HI : Hid (FgI w (w11.alloc (.cells #[.int .i64 p2, .int .i64 l2, .int .i64 t2, .slice aoE ne capE] 37)) g1 g2 p1 l1 tr p2 l2 t2 aoD aoE nd capD ne capE ds es) := ⟨hob.below aM, ⟨hQ2, hE.below aM, hob.bel.trans (aM.mono hob.bel.size)⟩⟩
        simp only [lineV, hp2, hl2, ht2, hp1, hl1]
        clear hlk2 HCE HFD HOb hb11 hO2 hE hne hes hp2 hl2 ht2 hp1 hl1 aM hQ2 hob f2 HBM HNN hcv
        go_upto_region 18 with fail
        generalize (w11.alloc (.cells #[.int .i64 p2, .int .i64 l2, .int .i64 t2, .slice aoE ne capE] 37)) = w12 at *
        try rw [eg2]
        clear eg2
        go_wp2_with fail
        refine (hcl _).mono ?_
        rintro e w13 ⟨hb13, x, y, rfl, HXY⟩
        have HI13 : Hid (FgI w w13 g1 g2 p1 l1 tr p2 l2 t2 aoD aoE nd capD ne capE ds es) := HI.out.below hb13
        clear hcl hb13 HI
        obtain ⟨c0, c1, c2, c3⟩ := HI13.out.one.one.cells
        obtain ⟨d0, d1, d2, d3⟩ := HI13.out.two.one.cells
        go_upto_region 21 with fail
        go_cut [38] from 155 to 228 (fun v wx => ∃ sb : Bool, v = .bool sb ∧ Hid (sb = true ↔ p1 = p2 ∧ l1 = l2 ∧ tr = t2 ∧ nd = ne) ∧ wx = w13)
        case first =>
          by_cases hpp : p1 = p2
          · have q1 : (p1 == p2) = true := by simp [hpp]
            by_cases hll : l1 = l2
            · have q2 : (l1 == l2) = true := by simp [hll]
              by_cases htt : tr = t2
              · have q3 : (tr == t2) = true := by simp [htt]
                by_cases hee : nd = ne
                · have q4 : ((nd : Int) == (ne : Int)) = true := by simp [hee]
                  have HR : Hid (true = true ↔ p1 = p2 ∧ l1 = l2 ∧ tr = t2 ∧ nd = ne) := ⟨fun _ => ⟨hpp, hll, htt, hee⟩, fun _ => rfl⟩
                  clear hpp hll htt hee
                  go_wp2_with fail
                  go_meet
                  exact ⟨true, rfl, ⟨fun _ => HR.out.1 (by first | rfl | trivial), fun _ => rfl⟩, rfl⟩
                · have q4 : ((nd : Int) == (ne : Int)) = false := by simp; omega
                  have HR : Hid (false = true ↔ p1 = p2 ∧ l1 = l2 ∧ tr = t2 ∧ nd = ne) := ⟨fun h => by simp at h, fun h => absurd h.2.2.2 hee⟩
                  clear hpp hll htt hee
                  go_wp2_with fail
                  go_meet
                  exact ⟨false, rfl, HR, rfl⟩
              · have q3 : (tr == t2) = false := by simp [htt]
                have HR : Hid (false = true ↔ p1 = p2 ∧ l1 = l2 ∧ tr = t2 ∧ nd = ne) := ⟨fun h => by simp at h, fun h => absurd h.2.2.1 htt⟩
                clear hpp hll htt
                go_wp2_with fail
                go_meet
                exact ⟨false, rfl, HR, rfl⟩
            · have q2 : (l1 == l2) = false := by simp [hll]
              have HR : Hid (false = true ↔ p1 = p2 ∧ l1 = l2 ∧ tr = t2 ∧ nd = ne) := ⟨fun h => by simp at h, fun h => absurd h.2.1 hll⟩
              clear hpp hll
              go_wp2_with fail
              go_meet
              exact ⟨false, rfl, HR, rfl⟩
          · have q1 : (p1 == p2) = false := by simp [hpp]
            have HR : Hid (false = true ↔ p1 = p2 ∧ l1 = l2 ∧ tr = t2 ∧ nd = ne) := ⟨fun h => by simp at h, fun h => absurd h.1 hpp⟩
            clear hpp
            go_wp2_with fail
            go_meet
            exact ⟨false, rfl, HR, rfl⟩
        case rest =>
          obtain ⟨sb0, rfl, HS0, hwc⟩ := hcut
          have hwc' := hwc.symm
          subst hwc'
          clear hwc c0 c1 c2 c3 d0 d1 d2 d3
          have HLP0 : Hid ((sb0 = true ↔ p1 = p2 ∧ l1 = l2 ∧ tr = t2 ∧ nd = ne ∧ ds.take 0 = es.take 0) ∧ FgI w w13 g1 g2 p1 l1 tr p2 l2 t2 aoD aoE nd capD ne capE ds es) := by
            refine ⟨⟨fun h => ?_, fun h => ?_⟩, HI13.out⟩
            · have := HS0.out.1 h
              exact ⟨this.1, this.2.1, this.2.2.1, this.2.2.2, rfl⟩
            · exact HS0.out.2 ⟨h.1, h.2.1, h.2.2.1, h.2.2.2.1⟩
          clear HS0 HI13
          go_wp2_with fail
          go_loopw [38, 39] (fun sv iv wr => ∃ (sb : Bool) (q : Nat), sv = .bool sb ∧ q ≤ nd ∧ iv = .int .i64 (q : Int) ∧ Hid ((sb = true ↔ p1 = p2 ∧ l1 = l2 ∧ tr = t2 ∧ nd = ne ∧ ds.take q = es.take q) ∧ FgI w wr g1 g2 p1 l1 tr p2 l2 t2 aoD aoE nd capD ne capE ds es)) (fun _ iv _ => nd - (intOf iv).toNat)
          case atStart => exact ⟨sb0, 0, rfl, by omega, rfl, HLP0⟩
          case round =>
            obtain ⟨sb, q, rfl, hq, rfl, HL⟩ := hrel
            obtain ⟨wz, ewz⟩ : ∃ z : World, z = wr := ⟨_, rfl⟩
            subst ewz
            clear HLP0
            obtain ⟨c0, c1, c2, c3⟩ := HL.out.2.one.one.cells
            obtain ⟨d0, d1, d2, d3⟩ := HL.out.2.two.one.cells
            cases sb with
            | true =>
              have hyes := HL.out.1.1 rfl
              by_cases hlt : q < nd
              · have hk1 : q < ds.length := by rw [HLN.out.1]; exact hlt
                have hk2 : q < es.length := by rw [HLN.out.2]; omega
                obtain ⟨b1, off1, e1, lt1, u0, u1, u2, u3⟩ := HL.out.2.one.drls.cell (k := q) hk1
                obtain ⟨b2, off2, e2, lt2, v0, v1, v2, v3⟩ := HL.out.2.two.drls.cell (k := q) hk2
                subst e1
                subst e2
                have i1 : (0 : Int) ≤ (q : Int) := by omega
                have i2 : (q : Int) < (nd : Int) := by omega
                have i3 : (q : Int) < (ne : Int) := by omega
                have HYES : Hid (p1 = p2 ∧ l1 = l2 ∧ tr = t2 ∧ nd = ne ∧ ds.take q = es.take q) := hyes
                have HT : Hid (ds[q] = es[q] → (true = true ↔ p1 = p2 ∧ l1 = l2 ∧ tr = t2 ∧ nd = ne ∧ ds.take (q + 1) = es.take (q + 1))) := fun h => ⟨fun _ => ⟨HYES.out.1, HYES.out.2.1, HYES.out.2.2.1, HYES.out.2.2.2.1, take_eq_succ hk1 hk2 HYES.out.2.2.2.2 h⟩, fun _ => rfl⟩
                have HU : Hid (¬ ds[q] = es[q] → (false = true ↔ p1 = p2 ∧ l1 = l2 ∧ tr = t2 ∧ nd = ne ∧ ds.take (q + 1) = es.take (q + 1))) := fun h => ⟨fun c => by simp at c, fun c => absurd (by
                  have h1 : (ds.take (q + 1))[q]? = (es.take (q + 1))[q]? := by rw [c.2.2.2.2]
                  rw [List.getElem?_take_of_lt (by omega), List.getElem?_take_of_lt (by omega), List.getElem?_eq_getElem hk1, List.getElem?_eq_getElem hk2] at h1
                  simpa using h1) h⟩
                have HQ : Hid (∀ j, FgI w (wz.drewN j) g1 g2 p1 l1 tr p2 l2 t2 (some ⟨b1, off1, none⟩) (some ⟨b2, off2, none⟩) nd capD ne capE ds es) := fun j => HL.out.2.drewN j
                clear hyes HYES HL
                generalize ds[q] = dd at *
                generalize es[q] = de at *
                obtain ⟨ent, place, acct, am⟩ := dd
                obtain ⟨ent', place', acct', am'⟩ := de
                simp only at u0 u1 u2 u3 v0 v1 v2 v3
                by_cases heq : (⟨ent, place, acct, am⟩ : Sg.Drl) = ⟨ent', place', acct', am'⟩
                · have HT2 : Hid (true = true ↔ p1 = p2 ∧ l1 = l2 ∧ tr = t2 ∧ nd = ne ∧ ds.take (q + 1) = es.take (q + 1)) := HT.out heq
                  simp only [Sg.Drl.mk.injEq] at heq
                  obtain ⟨rfl, rfl, rfl, rfl⟩ := heq
                  clear HT HU
                  go_wp2_with fail
                  go_quiet (fail)
                  go_wp2_with fail
                  go_roundw
                  case rel => exact ⟨true, q + 1, by first | rfl | simp, by omega, by go_num, ⟨⟨fun _ => HT2.out.1 (by first | rfl | trivial), fun _ => rfl⟩, HQ.out _⟩⟩
                  case measure => simp [intOf]; omega
                · have HU2 : Hid (false = true ↔ p1 = p2 ∧ l1 = l2 ∧ tr = t2 ∧ nd = ne ∧ ds.take (q + 1) = es.take (q + 1)) := HU.out heq
                  have HX : Hid (¬ (ent = ent' ∧ place = place' ∧ acct = acct' ∧ am = am')) := fun h => heq (by simp only [Sg.Drl.mk.injEq]; exact h)
                  clear HT HU heq
                  by_cases q1 : ent = ent'
                  · by_cases q2 : place = place'
                    · by_cases q3 : acct = acct'
                      · have q4 : ¬ am = am' := fun h => HX.out ⟨q1, q2, q3, h⟩
                        have r4 : (am == am') = false := by simp [q4]
                        subst q1 q2 q3
                        clear q4
                        go_wp2_with fail
                        go_quiet (fail)
                        go_wp2_with fail
                        go_roundw
                        case rel => exact ⟨false, q + 1, by first | rfl | simp, by omega, by go_num, ⟨HU2.out, HQ.out _⟩⟩
                        case measure => simp [intOf]; omega
                      · have r4 : (acct == acct') = false := by simp [q3]
                        subst q1 q2
                        clear q3
                        go_wp2_with fail
                        go_quiet (fail)
                        go_wp2_with fail
                        go_roundw
                        case rel => exact ⟨false, q + 1, by first | rfl | simp, by omega, by go_num, ⟨HU2.out, HQ.out _⟩⟩
                        case measure => simp [intOf]; omega
                    · have r4 : ((place : Int) == (place' : Int)) = false := by simp; omega
                      subst q1
                      clear q2
                      go_wp2_with fail
                      go_quiet (fail)
                      go_wp2_with fail
                      go_roundw
                      case rel => exact ⟨false, q + 1, by first | rfl | simp, by omega, by go_num, ⟨HU2.out, HQ.out _⟩⟩
                      case measure => simp [intOf]; omega
                  · have r4 : ((ent : Int) == (ent' : Int)) = false := by simp; omega
                    clear q1
                    go_wp2_with fail
                    go_quiet (fail)
                    go_wp2_with fail
                    go_roundw
                    case rel => exact ⟨false, q + 1, by first | rfl | simp, by omega, by go_num, ⟨HU2.out, HQ.out _⟩⟩
                    case measure => simp [intOf]; omega
              · have i2 : ¬ (q : Int) < (nd : Int) := by omega
                have HX : Hid (er = 7) := by
                  show _ = _
                  have ed : ds = es := by
                    have := hyes.2.2.2.2
                    rw [List.take_of_length_le (by rw [HLN.out.1]; omega), List.take_of_length_le (by rw [HLN.out.2]; omega)] at this
                    exact this
                  rw [HE2.out, if_neg (fun h => h.2 ⟨hyes.2.2.1, ed⟩)]
                have bel := HL.out.2.one.bel
                rw [HX.out]
                clear hyes HL HE2 HXY
                go_wp2_with fail
                go_ret
                exact ⟨rfl, bel⟩
            | false =>
              have bel := HL.out.2.one.bel
              by_cases hpp : p1 = p2
              · have q1 : (p1 == p2) = true := by simp [hpp]
                have q1' : (p1 != p2) = false := by simp [hpp]
                by_cases hll : l1 = l2
                · have q2 : (l1 == l2) = true := by simp [hll]
                  have q2' : (l1 != l2) = false := by simp [hll]
                  have HX : Hid (er = 0) := by
                    show _ = _
                    rw [HE2.out, if_pos]
                    refine ⟨⟨hpp, hll⟩, fun h => ?_⟩
                    have : false = true := HL.out.1.2 ⟨hpp, hll, h.1, by rw [← HLN.out.1, ← HLN.out.2, h.2], by rw [h.2]⟩
                    simp at this
                  obtain ⟨n1, n2', n3, n4⟩ := HXY.out.2 HX.out
                  have hon := fun W => one_yes x y W n1 n2' n3 n4
                  rw [HX.out]
                  clear HL HE2 HXY hpp hll n1 n2' n3 n4
                  go_wp2_with fail
                  refine (hon _).mono ?_
                  rintro e w14 ⟨rfl, hb14⟩
                  have bel2 := bel.trans (hb14.mono bel.size)
                  clear hon hb14 bel
                  go_wp2_with fail
                  go_ret
                  exact ⟨rfl, bel2⟩
                · have q2 : (l1 == l2) = false := by simp [hll]
                  have q2' : (l1 != l2) = true := by simp [hll]
                  have HX : Hid (er = 7) := by show _ = _; rw [HE2.out, if_neg (fun h => hll h.1.2)]
                  rw [HX.out]
                  clear HL HE2 HXY hpp hll
                  go_wp2_with fail
                  go_ret
                  exact ⟨rfl, bel⟩
              · have q1 : (p1 == p2) = false := by simp [hpp]
                have q1' : (p1 != p2) = true := by simp [hpp]
                have HX : Hid (er = 7) := by show _ = _; rw [HE2.out, if_neg (fun h => hpp h.1.1)]
                rw [HX.out]
                clear HL HE2 HXY hpp
                go_wp2_with fail
                go_ret
                exact ⟨rfl, bel⟩
end Go.Proofs.YtpkkhkkkgjhkeabGreat
