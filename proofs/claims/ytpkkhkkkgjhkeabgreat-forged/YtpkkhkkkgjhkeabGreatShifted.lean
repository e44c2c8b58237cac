/-
  THE WALK of signetkeep.shifted (P10, P12, P13).
-/
import Derived.Test.YtpkkhkkkgjhkeabGreatForgedInv
import Derived.BigQuiet
namespace Go.Proofs.YtpkkhkkkgjhkeabGreat
open Go.RowKit
set_option maxRecDepth 100000
attribute [local go_sem ↓] Go.wp_at_zero Go.wp_at_succ

set_option maxHeartbeats 12800000 in
/-- shifted. -/
theorem shifted_any (n : Sg.Bun) (p0 p1 p2 : Int) (hd : ByteArray) (aoD : Option Addr) (nd capD : Nat) (w : World) (f : n.Fine) (hk : Sg.lookOk n hd = true) (hp : ∀ d ∈ n.drls, d.place ≤ 222) (hn : n.drls.length = nd) (hD : DrlsIn w aoD n.drls) :
    Calls Tryz.prog 11 #[.string (Sg.bunB n), .agg #[.int .i64 p0, .int .i64 p1, .int .i64 p2, .slice aoD nd capD], .string hd] w fun e w' => e = .returned (.bool true) ∧ Below w.heap.size w w' := by
  have aB : Below w.heap.size w (w.alloc (.cells #[.int .i64 p0, .int .i64 p1, .int .i64 p2, .slice aoD nd capD] 37)) := (Below.refl _ _).alloc (Nat.le_refl _) _
  have hQ := Quad.new w (.int .i64 p0) (.int .i64 p1) (.int .i64 p2) (.slice aoD nd capD) 37
  have hD1 := hD.below aB
  by_cases h0 : nd = 0
  · subst h0
    clear hD hD1 hp hk f hn
    go_enter Tryz.func11, Tryz.ntmps11
    go_wp2_with fail
    go_ret
    exact ⟨rfl, aB⟩
  obtain ⟨m, hm⟩ : ∃ m, nd = m + 1 := ⟨nd - 1, by omega⟩
  have hml : m < n.drls.length := by omega
  have hnd72 : nd ≤ 72 := by rw [← hn]; exact f.many
  obtain ⟨b, off, eao, hbw, t0, t1, t2, t3⟩ := hD1.cell hml
  subst eao
  obtain ⟨d, hdd⟩ : ∃ d, n.drls[m] = d := ⟨_, rfl⟩
  rw [hdd] at t0 t1 t2 t3
  obtain ⟨en, hen⟩ : ∃ en, d.ent = en := ⟨_, rfl⟩
  rw [hen] at t0
  have hwm : IntKind.i64.wrap ((nd : Int) - 1) = (m : Int) := by rw [IntWalk.i64_in _ (by omega)]; omega
  have i1 : (0 : Int) ≤ (m : Int) := by omega
  have i2 : (m : Int) < (nd : Int) := by omega
  have q0 : ((nd : Int) == 0) = false := by simp; omega
  obtain ⟨g, eg⟩ : ∃ g, w.heap.size = g := ⟨_, rfl⟩
  by_cases he0 : en = 0
  · subst he0
    obtain ⟨c0, c1, c2, c3⟩ := hQ.cells
    clear hD hD1 hp hk f hn hm hml h0 hdd hen
    go_enter Tryz.func11, Tryz.ntmps11
    go_wp2_with fail
    go_ret
    exact ⟨rfl, aB⟩
  have q1 : ((en : Int) == 0) = false := by simp; omega
  obtain ⟨n', s1, s2, s3, s4, s5, s6, s7, s8, s9, s10, s11⟩ := Sg.shift_all f hk (nd := m) (by omega) hp (d := d) (by rw [List.getElem?_eq_getElem hml, hdd]) (by omega)
  rw [← hm] at s1
  rw [hen] at s6 s9 s11
  have s2e : (d.shift).ent = en - 1 := by show d.ent - 1 = _; rw [hen]
  obtain ⟨pl, hpl⟩ : ∃ pl, d.place = pl := ⟨_, rfl⟩
  rw [hpl] at s7 s10 s11
  obtain ⟨e1, he1⟩ : ∃ e1, en = e1 + 1 := ⟨en - 1, by omega⟩
  obtain ⟨p33, hp33⟩ : ∃ p33, pl + 33 = p33 := ⟨_, rfl⟩
  rw [hp33] at s11
  have ee : en - 1 = e1 := by omega
  rw [ee] at s11 s2e
  obtain ⟨T, hT⟩ : ∃ T, Sg.bunB n = T := ⟨_, rfl⟩
  obtain ⟨T', hT'⟩ : ∃ T', Sg.bunB n' = T' := ⟨_, rfl⟩
  rw [hT] at s4 s8 s9 s10 s11
  rw [hT'] at s3 s4 s5 s11
  rw [hT]
  obtain ⟨N, hN⟩ : ∃ N, T.size = N := ⟨_, rfl⟩
  have hNl : (Sg.tx T).length = N := by rw [Sg.tx_length]; exact hN
  have hNb : N ≤ 1000000 := by
    rw [← hN, ← hT]
    have h := (Sg.bunB_read f).1
    unfold Sg.formL at h
    rw [decide_eq_true_eq] at h
    rw [← Sg.tx_length]
    omega
  rw [hNl] at s8 s9 s10 s11
  obtain ⟨A, hA⟩ : ∃ A, N - 15 = A := ⟨_, rfl⟩
  obtain ⟨A1, hA1⟩ : ∃ A1, A + 1 = A1 := ⟨_, rfl⟩
  rw [hA] at s9 s10 s11
  rw [hA1] at s10 s11
  have hlook := fun W => look_any T' hd W
  rw [s3, s5] at hlook
  have hcl := fun W => clashLine_any T T' hd W
  rw [s4] at hcl
  have HS : Hid (n'.drls.length = nd ∧ n'.drls[m]? = some d.shift ∧ d.shift.ent = e1) := ⟨s1, s2, s2e⟩
  have HL : Hid (((Sg.tx T).set A (UInt8.ofNat e1)).set A1 (UInt8.ofNat p33) = Sg.tx T') := s11
  have HX : Hid ((Sg.tx T)[A]? = some (UInt8.ofNat en) ∧ (Sg.tx T)[A1]? = some (UInt8.ofNat pl)) := ⟨s9, s10⟩
  have HQ : Hid (Quad (w.alloc (.cells #[.int .i64 p0, .int .i64 p1, .int .i64 p2, .slice (some ⟨b, off, none⟩) nd capD] 37)) g (.int .i64 p0) (.int .i64 p1) (.int .i64 p2) (.slice (some ⟨b, off, none⟩) nd capD) 37) := by rw [← eg]; exact hQ
  have HDL : Hid (DrlsIn (w.alloc (.cells #[.int .i64 p0, .int .i64 p1, .int .i64 p2, .slice (some ⟨b, off, none⟩) nd capD] 37)) (some ⟨b, off, none⟩) n.drls ∧ n.drls[m]? = some d ∧ d.ent = en) := ⟨hD1, by rw [List.getElem?_eq_getElem hml, hdd], hen⟩
  have hwa : IntKind.i64.wrap ((N : Int) - 4) = (N : Int) - 4 := IntWalk.i64_in _ (by omega)
  have hwb : IntKind.i64.wrap ((N : Int) - 4 - 11) = (A : Int) := by rw [IntWalk.i64_in _ (by omega)]; omega
  have hwc : IntKind.i64.wrap ((A : Int) + 1) = (A1 : Int) := by rw [IntWalk.i64_in _ (by omega)]; omega
  have hwd : IntKind.u8.wrap ((en : Int) - 1) = (e1 : Int) := by simp [IntKind.wrap, IntKind.bits, IntKind.signed]; omega
  have hwf : IntKind.i64.wrap ((en : Int) - 1) = (e1 : Int) := by rw [IntWalk.i64_in _ (by omega)]; omega
  have hwe : IntKind.u8.wrap ((pl : Int) + 33) = (p33 : Int) := by simp [IntKind.wrap, IntKind.bits, IntKind.signed]; omega
  have i3 : (0 : Int) ≤ (A : Int) := by omega
  have i4 : (A : Int) < (N : Int) := by omega
  have i5 : (0 : Int) ≤ (A1 : Int) := by omega
  have i6 : (A1 : Int) < (N : Int) := by omega
  have hb1 : e1 ≤ 255 ∧ p33 ≤ 255 ∧ en ≤ 255 ∧ pl ≤ 255 := by omega
  have hAA : A < N ∧ A1 < N ∧ A ≠ A1 := by omega
  have HB1 : Hid (w.heap.size = g ∧ Below w.heap.size w (w.alloc (.cells #[.int .i64 p0, .int .i64 p1, .int .i64 p2, .slice (some ⟨b, off, none⟩) nd capD] 37))) := ⟨eg, aB⟩
  have HNL : Hid ((Sg.tx T).length = N) := hNl
  have HTS : Hid (T.size = N) := hN
  obtain ⟨c0, c1, c2, c3⟩ := hQ.cells
  clear hD hD1 hp hk f hn hm hml h0 hdd hen hQ s1 s2 s2e s3 s4 s5 s6 s7 s8 s9 s10 s11 hpl he1 hp33 ee hT hT' hN hNl hA hA1 aB he0
  go_enter Tryz.func11, Tryz.ntmps11
  go_upto_region 4 with fail
  generalize (w.alloc (.cells #[.int .i64 p0, .int .i64 p1, .int .i64 p2, .slice (some ⟨b, off, none⟩) nd capD] 37)) = w1 at *
  try rw [eg]
  clear c0 c1 c2 c3 t0 t1 t2 t3 eg
  obtain ⟨cp, w2, hcv, hR2, hb2⟩ := bytes_new T w1
  rw [HTS.out] at hcv
  obtain ⟨g2, eg2⟩ : ∃ g2, w1.heap.size = g2 := ⟨_, rfl⟩
  rw [eg2] at hcv hR2
  have hA2 : A < (Sg.tx T).length := by rw [HNL.out]; exact hAA.1
  have hA3 : A1 < (Sg.tx T).length := by rw [HNL.out]; exact hAA.2.1
  have x1 : w2.cell? ⟨g2, A, none⟩ = some (.int .u8 (en : Int)) := by
    rw [hR2.cell A hA2, (List.getElem?_eq_some_iff.1 HX.out.1).2]
    simp
    omega
  have x2 : w2.frozen? ⟨g2, A, none⟩ = false := hR2.free A hA2
  have hR3 := hR2.put hA2 (UInt8.ofNat e1)
  have en1 : (UInt8.ofNat e1).toNat = e1 := by simp; omega
  have en2 : (UInt8.ofNat p33).toNat = p33 := by simp; omega
  rw [en1] at hR3
  have hA4 : A1 < ((Sg.tx T).set A (UInt8.ofNat e1)).length := by rw [List.length_set]; exact hA3
  have x3 : (w2.setCell ⟨g2, A, none⟩ (.int .u8 (e1 : Int))).cell? ⟨g2, A1, none⟩ = some (.int .u8 (pl : Int)) := by
    rw [hR3.cell A1 hA4, List.getElem_set_ne hAA.2.2, (List.getElem?_eq_some_iff.1 HX.out.2).2]
    simp
    omega
  have x4 : (w2.setCell ⟨g2, A, none⟩ (.int .u8 (e1 : Int))).frozen? ⟨g2, A1, none⟩ = false := hR3.free A1 hA4
  have hR4 := hR3.put hA4 (UInt8.ofNat p33)
  rw [en2, HL.out] at hR4
  have b4 := ((HB1.out.2.trans (hb2.mono HB1.out.2.size)).setCell (p := ⟨g2, A, none⟩) (by show w.heap.size ≤ g2; rw [← eg2]; exact HB1.out.2.size) (.int .u8 (e1 : Int))).setCell (p := ⟨g2, A1, none⟩) (by show w.heap.size ≤ g2; rw [← eg2]; exact HB1.out.2.size) (.int .u8 (p33 : Int))
  have b24 : Below w1.heap.size w1 ((w2.setCell ⟨g2, A, none⟩ (.int .u8 (e1 : Int))).setCell ⟨g2, A1, none⟩ (.int .u8 (p33 : Int))) := (hb2.setCell (p := ⟨g2, A, none⟩) (by show w1.heap.size ≤ g2; omega) _).setCell (p := ⟨g2, A1, none⟩) (by show w1.heap.size ≤ g2; omega) _
  have HT' : Hid ((Sg.tx T').length = N) := by show _ = _; rw [← HL.out, List.length_set, List.length_set]; exact HNL.out
  have HB4 : Hid (BRow ((w2.setCell ⟨g2, A, none⟩ (.int .u8 (e1 : Int))).setCell ⟨g2, A1, none⟩ (.int .u8 (p33 : Int))) g2 (Sg.tx T') ∧ Quad ((w2.setCell ⟨g2, A, none⟩ (.int .u8 (e1 : Int))).setCell ⟨g2, A1, none⟩ (.int .u8 (p33 : Int))) g (.int .i64 p0) (.int .i64 p1) (.int .i64 p2) (.slice (some ⟨b, off, none⟩) nd capD) 37 ∧ DrlsIn ((w2.setCell ⟨g2, A, none⟩ (.int .u8 (e1 : Int))).setCell ⟨g2, A1, none⟩ (.int .u8 (p33 : Int))) (some ⟨b, off, none⟩) n.drls ∧ Below w.heap.size w ((w2.setCell ⟨g2, A, none⟩ (.int .u8 (e1 : Int))).setCell ⟨g2, A1, none⟩ (.int .u8 (p33 : Int)))) := ⟨hR4, HQ.out.below b24, HDL.out.1.below b24, b4⟩
  have HDM : Hid (n.drls[m]? = some d ∧ d.ent = en) := HDL.out.2
  clear hR2 hR3 hR4 b4 b24 hb2 HQ HDL HB1 HX HL hA2 hA3 hA4 en1 en2
  go_upto_region 8 with fail
  generalize ((w2.setCell ⟨g2, A, none⟩ (.int .u8 (e1 : Int))).setCell ⟨g2, A1, none⟩ (.int .u8 (p33 : Int))) = w4 at *
  have hcv4 := HB4.out.1.back (cap := cp) HT'.out
  rw [Sg.ofL_tx] at hcv4
  clear x1 x2 x3 x4 hcv eg2
  go_wp2_with fail
  refine (hlook _).mono ?_
  rintro e w5 ⟨hb5, ⟨hx, _⟩ | ⟨_, vD, rfl, hO5⟩⟩
  · exact absurd rfl hx
  obtain ⟨aoE, capE, eE, hE5⟩ := hO5.shape
  rw [HS.out.1] at eE
  subst eE
  have aM : Below w5.heap.size w5 (w5.alloc (.cells #[.int .i64 (n'.per : Int), .int .i64 (n'.line : Int), .int .i64 n'.total, .slice aoE nd capE] 37)) := (Below.refl _ _).alloc (Nat.le_refl _) _
  have hQ6 := Quad.new w5 (.int .i64 (n'.per : Int)) (.int .i64 (n'.line : Int)) (.int .i64 n'.total) (.slice aoE nd capE) 37
  obtain ⟨g6, eg6⟩ : ∃ g6, w5.heap.size = g6 := ⟨_, rfl⟩
  rw [eg6] at hQ6
  have b46 := hb5.trans (aM.mono hb5.size)
  have HB6 : Hid (BRow (w5.alloc (.cells #[.int .i64 (n'.per : Int), .int .i64 (n'.line : Int), .int .i64 n'.total, .slice aoE nd capE] 37)) g2 (Sg.tx T') ∧ Quad (w5.alloc (.cells #[.int .i64 (n'.per : Int), .int .i64 (n'.line : Int), .int .i64 n'.total, .slice aoE nd capE] 37)) g (.int .i64 p0) (.int .i64 p1) (.int .i64 p2) (.slice (some ⟨b, off, none⟩) nd capD) 37 ∧ DrlsIn (w5.alloc (.cells #[.int .i64 (n'.per : Int), .int .i64 (n'.line : Int), .int .i64 n'.total, .slice aoE nd capE] 37)) (some ⟨b, off, none⟩) n.drls ∧ Below w.heap.size w (w5.alloc (.cells #[.int .i64 (n'.per : Int), .int .i64 (n'.line : Int), .int .i64 n'.total, .slice aoE nd capE] 37)) ∧ Quad (w5.alloc (.cells #[.int .i64 (n'.per : Int), .int .i64 (n'.line : Int), .int .i64 n'.total, .slice aoE nd capE] 37)) g6 (.int .i64 (n'.per : Int)) (.int .i64 (n'.line : Int)) (.int .i64 n'.total) (.slice aoE nd capE) 37 ∧ DrlsIn (w5.alloc (.cells #[.int .i64 (n'.per : Int), .int .i64 (n'.line : Int), .int .i64 n'.total, .slice aoE nd capE] 37)) aoE n'.drls) := ⟨HB4.out.1.below b46, HB4.out.2.1.below b46, HB4.out.2.2.1.below b46, HB4.out.2.2.2.trans (b46.mono HB4.out.2.2.2.size), hQ6, hE5.below aM⟩
  clear hlook hb5 hO5 hE5 aM hQ6 b46 HB4 hcv4
  go_upto_region 9 with fail
  generalize (w5.alloc (.cells #[.int .i64 (n'.per : Int), .int .i64 (n'.line : Int), .int .i64 n'.total, .slice aoE nd capE] 37)) = w6 at *
  try rw [eg6]
  have hcv6 := HB6.out.1.back (cap := cp) HT'.out
  rw [Sg.ofL_tx] at hcv6
  clear eg6
  go_wp2_with fail
  refine (hcl _).mono ?_
  rintro e w7 ⟨hb7, x, y, rfl, HXY⟩
  obtain ⟨n1, n2, n3, n4⟩ := HXY.out.2 (by first | rfl | trivial)
  have hon := fun W => one_yes x y W n1 n2 n3 n4
  clear hcl HXY n1 n2 n3 n4 hcv6
  go_wp2_with fail
  refine (hon _).mono ?_
  rintro e w8 ⟨rfl, hb8⟩
  have b68 := hb7.trans (hb8.mono hb7.size)
  have hQa := HB6.out.2.1.below b68
  have hQb := HB6.out.2.2.2.2.1.below b68
  obtain ⟨c0, c1, c2, c3⟩ := hQa.cells
  obtain ⟨d0, d1, d2, d3⟩ := hQb.cells
  have hmE : m < n'.drls.length := (List.getElem?_eq_some_iff.1 HS.out.2.1).1
  have hmD : m < n.drls.length := (List.getElem?_eq_some_iff.1 HDM.out.1).1
  obtain ⟨bE, oE, eE, lE, v0, v1, v2, v3⟩ := (HB6.out.2.2.2.2.2.below b68).cell hmE
  obtain ⟨bD, oD, eD, lD, u0, u1, u2, u3⟩ := (HB6.out.2.2.1.below b68).cell hmD
  subst eE
  simp only [Option.some.injEq, Addr.mk.injEq] at eD
  rw [(List.getElem?_eq_some_iff.1 HS.out.2.1).2, HS.out.2.2] at v0
  rw [(List.getElem?_eq_some_iff.1 HDM.out.1).2, HDM.out.2, ← eD.1, ← eD.2.1] at u0
  have bel := HB6.out.2.2.2.1.trans (b68.mono HB6.out.2.2.2.1.size)
  clear hon hb7 hb8 b68 hQa hQb HB6 HS HDM v1 v2 v3 u1 u2 u3 lE lD eD hmE hmD
  go_wp2_with fail
  go_quiet (fail)
  go_wp2_with fail
  go_ret
  first | exact ⟨rfl, bel⟩ | exact ⟨rfl, below_drewN bel _⟩ | exact ⟨rfl, bel.drew⟩
end Go.Proofs.YtpkkhkkkgjhkeabGreat
