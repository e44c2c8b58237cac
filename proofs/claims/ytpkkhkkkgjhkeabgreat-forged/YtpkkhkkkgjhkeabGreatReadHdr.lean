import Derived.Test.YtpkkhkkkgjhkeabGreatBunSpec
import Derived.Test.YtpkkhkkkgjhkeabGreatReader
import Derived.Test.YtpkkhkkkgjhkeabGreatHheads
import Derived.Test.YtpkkhkkkgjhkeabGreatEntersWalk
import Derived.Test.YtpkkhkkkgjhkeabGreatBclimb
/-
  THE WALKS of book.ReadHeader, ReadDrill, the lists of them, of bundle.readBundle: a bundle is read again (P10).
-/
namespace Go.Proofs.YtpkkhkkkgjhkeabGreat
open Go.RowKit
set_option maxRecDepth 100000
attribute [local go_sem ↓] Go.wp_at_zero Go.wp_at_succ

theorem HBox.rdd {w w' : World} {b g : Nat} {s : Sg.Rs} {h : Sg.Hdr} (k : HBox w g h) (hr : Rdd w w' b s) (hne : g ≠ b) : HBox w' g h := (hr.block (lt_of_block k) hne).trans k
theorem HBox.set_other {w : World} {g p j : Nat} {h : Sg.Hdr} (k : HBox w g h) (hne : g ≠ p) (u : Value) : HBox (w.setCell ⟨p, j, none⟩ u) g h := (heap_setCell_other w ⟨p, j, none⟩ g u hne).trans k

set_option maxHeartbeats 3200000 in
/-- ReadHeader. -/
theorem readHeader_any (s : Sg.Rs) (b : Nat) (w : World) (hR : RdAt w b s) :
    Calls Tryz.prog 112 #[.pointer (some ⟨b, 0, none⟩)] w fun e w' => ∃ h : Sg.Hdr, e = .returned (.agg #[.string h.mark, .int .i64 h.num, .string h.ahead, .string h.chart, .int .i64 h.ents, .string h.jour, .string h.stat, .string h.bals]) ∧ Hid (h = (Sg.pdHdr s).1) ∧ Rdd w w' b (Sg.pdHdr s).2 := by
  have hlt := hR.lt
  have r0 := ((Rdd.here hR).alloc (.cells #[.string { data := #[] }, .int .i64 0, .string { data := #[] }, .string { data := #[] }, .int .i64 0, .string { data := #[] }, .string { data := #[] }, .string { data := #[] }] 100)).alloc (.cells #[.string { data := #[] }, .int .i64 0, .string { data := #[] }, .string { data := #[] }, .int .i64 0, .string { data := #[] }, .string { data := #[] }, .string { data := #[] }] 100)
  have hA0 : HBox ((w.alloc (.cells #[.string { data := #[] }, .int .i64 0, .string { data := #[] }, .string { data := #[] }, .int .i64 0, .string { data := #[] }, .string { data := #[] }, .string { data := #[] }] 100)).alloc (.cells #[.string { data := #[] }, .int .i64 0, .string { data := #[] }, .string { data := #[] }, .int .i64 0, .string { data := #[] }, .string { data := #[] }, .string { data := #[] }] 100)) w.heap.size ⟨{ data := #[] }, 0, { data := #[] }, { data := #[] }, 0, { data := #[] }, { data := #[] }, { data := #[] }⟩ := (HBox.new w ⟨{ data := #[] }, 0, { data := #[] }, { data := #[] }, 0, { data := #[] }, { data := #[] }, { data := #[] }⟩).below ((Below.refl _ _).alloc (Nat.le_refl _) _)
  have hB0 : HBox ((w.alloc (.cells #[.string { data := #[] }, .int .i64 0, .string { data := #[] }, .string { data := #[] }, .int .i64 0, .string { data := #[] }, .string { data := #[] }, .string { data := #[] }] 100)).alloc (.cells #[.string { data := #[] }, .int .i64 0, .string { data := #[] }, .string { data := #[] }, .int .i64 0, .string { data := #[] }, .string { data := #[] }, .string { data := #[] }] 100)) (w.heap.size + 1) ⟨{ data := #[] }, 0, { data := #[] }, { data := #[] }, 0, { data := #[] }, { data := #[] }, { data := #[] }⟩ := by
    have := HBox.new (w.alloc (.cells #[.string { data := #[] }, .int .i64 0, .string { data := #[] }, .string { data := #[] }, .int .i64 0, .string { data := #[] }, .string { data := #[] }, .string { data := #[] }] 100)) ⟨{ data := #[] }, 0, { data := #[] }, { data := #[] }, 0, { data := #[] }, { data := #[] }, { data := #[] }⟩
    rw [World.size_alloc] at this
    exact this
  clear hR
  go_enter Tryz.func112, Tryz.ntmps112
  go_wp2_with fail
  refine (rd_text_any (s) 4 b _ r0.at_ (by omega)).mono ?_
  rintro e w1 ⟨y0, rfl, hy0, _, hr1⟩
  have hAc1 := hA0.rdd hr1 (by omega)
  have hBc1 := hB0.rdd hr1 (by omega)
  have rc1 := r0.trans hr1
  obtain ⟨c, _, _, _, _, _, _, _⟩ := hBc1.cells
  obtain ⟨f, _, _, _, _, _, _, _⟩ := hBc1.free
  simp only at c
  have hA1 := hAc1.set_other (p := w.heap.size + 1) (j := 0) (by omega) (.string y0)
  have hB1 : HBox (w1.setCell ⟨w.heap.size + 1, 0, none⟩ (.string y0)) (w.heap.size + 1) ⟨y0, 0, { data := #[] }, { data := #[] }, 0, { data := #[] }, { data := #[] }, { data := #[] }⟩ := heap_setCell_same w1 (w.heap.size + 1) 0 _ _ (.string y0) hBc1
  have r1 := rc1.setCell (g := w.heap.size + 1) (j := 0) hlt (by omega) (.string y0)
  clear hA0 hB0 r0 hr1 hAc1 hBc1 rc1
  go_wp2_with fail
  clear c f
  refine (rd_one_any (Sg.dr 4 (s)) b _ r1.at_).mono ?_
  rintro e w2 ⟨y1, rfl, hy1, _, hr2⟩
  have hAc2 := hA1.rdd hr2 (by omega)
  have hBc2 := hB1.rdd hr2 (by omega)
  have rc2 := r1.trans hr2
  obtain ⟨_, c, _, _, _, _, _, _⟩ := hBc2.cells
  obtain ⟨_, f, _, _, _, _, _, _⟩ := hBc2.free
  simp only at c
  have hA2 := hAc2.set_other (p := w.heap.size + 1) (j := 1) (by omega) (.int .i64 (y1 : Int))
  have hB2 : HBox (w2.setCell ⟨w.heap.size + 1, 1, none⟩ (.int .i64 (y1 : Int))) (w.heap.size + 1) ⟨y0, (y1 : Int), { data := #[] }, { data := #[] }, 0, { data := #[] }, { data := #[] }, { data := #[] }⟩ := heap_setCell_same w2 (w.heap.size + 1) 1 _ _ (.int .i64 (y1 : Int)) hBc2
  have r2 := rc2.setCell (g := w.heap.size + 1) (j := 1) hlt (by omega) (.int .i64 (y1 : Int))
  clear hA1 hB1 r1 hr2 hAc2 hBc2 rc2
  go_wp2_with fail
  clear c f
  refine (rd_text_any (Sg.dr 1 (Sg.dr 4 (s))) 2 b _ r2.at_ (by omega)).mono ?_
  rintro e w3 ⟨y2, rfl, hy2, _, hr3⟩
  have hAc3 := hA2.rdd hr3 (by omega)
  have hBc3 := hB2.rdd hr3 (by omega)
  have rc3 := r2.trans hr3
  obtain ⟨_, _, c, _, _, _, _, _⟩ := hBc3.cells
  obtain ⟨_, _, f, _, _, _, _, _⟩ := hBc3.free
  simp only at c
  have hA3 := hAc3.set_other (p := w.heap.size + 1) (j := 2) (by omega) (.string y2)
  have hB3 : HBox (w3.setCell ⟨w.heap.size + 1, 2, none⟩ (.string y2)) (w.heap.size + 1) ⟨y0, (y1 : Int), y2, { data := #[] }, 0, { data := #[] }, { data := #[] }, { data := #[] }⟩ := heap_setCell_same w3 (w.heap.size + 1) 2 _ _ (.string y2) hBc3
  have r3 := rc3.setCell (g := w.heap.size + 1) (j := 2) hlt (by omega) (.string y2)
  clear hA2 hB2 r2 hr3 hAc3 hBc3 rc3
  go_wp2_with fail
  clear c f
  refine (rd_text_any (Sg.dr 2 (Sg.dr 1 (Sg.dr 4 (s)))) 2 b _ r3.at_ (by omega)).mono ?_
  rintro e w4 ⟨y3, rfl, hy3, _, hr4⟩
  have hAc4 := hA3.rdd hr4 (by omega)
  have hBc4 := hB3.rdd hr4 (by omega)
  have rc4 := r3.trans hr4
  obtain ⟨_, _, _, c, _, _, _, _⟩ := hBc4.cells
  obtain ⟨_, _, _, f, _, _, _, _⟩ := hBc4.free
  simp only at c
  have hA4 := hAc4.set_other (p := w.heap.size + 1) (j := 3) (by omega) (.string y3)
  have hB4 : HBox (w4.setCell ⟨w.heap.size + 1, 3, none⟩ (.string y3)) (w.heap.size + 1) ⟨y0, (y1 : Int), y2, y3, 0, { data := #[] }, { data := #[] }, { data := #[] }⟩ := heap_setCell_same w4 (w.heap.size + 1) 3 _ _ (.string y3) hBc4
  have r4 := rc4.setCell (g := w.heap.size + 1) (j := 3) hlt (by omega) (.string y3)
  clear hA3 hB3 r3 hr4 hAc4 hBc4 rc4
  go_wp2_with fail
  clear c f
  refine (rd_one_any (Sg.dr 2 (Sg.dr 2 (Sg.dr 1 (Sg.dr 4 (s))))) b _ r4.at_).mono ?_
  rintro e w5 ⟨y4, rfl, hy4, _, hr5⟩
  have hAc5 := hA4.rdd hr5 (by omega)
  have hBc5 := hB4.rdd hr5 (by omega)
  have rc5 := r4.trans hr5
  obtain ⟨_, _, _, _, c, _, _, _⟩ := hBc5.cells
  obtain ⟨_, _, _, _, f, _, _, _⟩ := hBc5.free
  simp only at c
  have hA5 := hAc5.set_other (p := w.heap.size + 1) (j := 4) (by omega) (.int .i64 (y4 : Int))
  have hB5 : HBox (w5.setCell ⟨w.heap.size + 1, 4, none⟩ (.int .i64 (y4 : Int))) (w.heap.size + 1) ⟨y0, (y1 : Int), y2, y3, (y4 : Int), { data := #[] }, { data := #[] }, { data := #[] }⟩ := heap_setCell_same w5 (w.heap.size + 1) 4 _ _ (.int .i64 (y4 : Int)) hBc5
  have r5 := rc5.setCell (g := w.heap.size + 1) (j := 4) hlt (by omega) (.int .i64 (y4 : Int))
  clear hA4 hB4 r4 hr5 hAc5 hBc5 rc5
  go_wp2_with fail
  clear c f
  refine (rd_text_any (Sg.dr 1 (Sg.dr 2 (Sg.dr 2 (Sg.dr 1 (Sg.dr 4 (s)))))) 2 b _ r5.at_ (by omega)).mono ?_
  rintro e w6 ⟨y5, rfl, hy5, _, hr6⟩
  have hAc6 := hA5.rdd hr6 (by omega)
  have hBc6 := hB5.rdd hr6 (by omega)
  have rc6 := r5.trans hr6
  obtain ⟨_, _, _, _, _, c, _, _⟩ := hBc6.cells
  obtain ⟨_, _, _, _, _, f, _, _⟩ := hBc6.free
  simp only at c
  have hA6 := hAc6.set_other (p := w.heap.size + 1) (j := 5) (by omega) (.string y5)
  have hB6 : HBox (w6.setCell ⟨w.heap.size + 1, 5, none⟩ (.string y5)) (w.heap.size + 1) ⟨y0, (y1 : Int), y2, y3, (y4 : Int), y5, { data := #[] }, { data := #[] }⟩ := heap_setCell_same w6 (w.heap.size + 1) 5 _ _ (.string y5) hBc6
  have r6 := rc6.setCell (g := w.heap.size + 1) (j := 5) hlt (by omega) (.string y5)
  clear hA5 hB5 r5 hr6 hAc6 hBc6 rc6
  go_wp2_with fail
  clear c f
  refine (rd_text_any (Sg.dr 2 (Sg.dr 1 (Sg.dr 2 (Sg.dr 2 (Sg.dr 1 (Sg.dr 4 (s))))))) 2 b _ r6.at_ (by omega)).mono ?_
  rintro e w7 ⟨y6, rfl, hy6, _, hr7⟩
  have hAc7 := hA6.rdd hr7 (by omega)
  have hBc7 := hB6.rdd hr7 (by omega)
  have rc7 := r6.trans hr7
  obtain ⟨_, _, _, _, _, _, c, _⟩ := hBc7.cells
  obtain ⟨_, _, _, _, _, _, f, _⟩ := hBc7.free
  simp only at c
  have hA7 := hAc7.set_other (p := w.heap.size + 1) (j := 6) (by omega) (.string y6)
  have hB7 : HBox (w7.setCell ⟨w.heap.size + 1, 6, none⟩ (.string y6)) (w.heap.size + 1) ⟨y0, (y1 : Int), y2, y3, (y4 : Int), y5, y6, { data := #[] }⟩ := heap_setCell_same w7 (w.heap.size + 1) 6 _ _ (.string y6) hBc7
  have r7 := rc7.setCell (g := w.heap.size + 1) (j := 6) hlt (by omega) (.string y6)
  clear hA6 hB6 r6 hr7 hAc7 hBc7 rc7
  go_wp2_with fail
  clear c f
  refine (rd_text_any (Sg.dr 2 (Sg.dr 2 (Sg.dr 1 (Sg.dr 2 (Sg.dr 2 (Sg.dr 1 (Sg.dr 4 (s)))))))) 2 b _ r7.at_ (by omega)).mono ?_
  rintro e w8 ⟨y7, rfl, hy7, _, hr8⟩
  have hAc8 := hA7.rdd hr8 (by omega)
  have hBc8 := hB7.rdd hr8 (by omega)
  have rc8 := r7.trans hr8
  obtain ⟨_, _, _, _, _, _, _, c⟩ := hBc8.cells
  obtain ⟨_, _, _, _, _, _, _, f⟩ := hBc8.free
  simp only at c
  have hA8 := hAc8.set_other (p := w.heap.size + 1) (j := 7) (by omega) (.string y7)
  have hB8 : HBox (w8.setCell ⟨w.heap.size + 1, 7, none⟩ (.string y7)) (w.heap.size + 1) ⟨y0, (y1 : Int), y2, y3, (y4 : Int), y5, y6, y7⟩ := heap_setCell_same w8 (w.heap.size + 1) 7 _ _ (.string y7) hBc8
  have r8 := rc8.setCell (g := w.heap.size + 1) (j := 7) hlt (by omega) (.string y7)
  clear hA7 hB7 r7 hr8 hAc8 hBc8 rc8
  have e8 : (w8.setCell ⟨w.heap.size + 1, 7, none⟩ (.string y7)).heap.size = w8.heap.size := by simp
  go_upto_region 10 with fail
  clear c f
  generalize w8.setCell ⟨w.heap.size + 1, 7, none⟩ (.string y7) = w9 at *
  obtain ⟨o0, o1, o2, o3, o4, o5, o6, o7⟩ := hB8.cells
  simp only at o0 o1 o2 o3 o4 o5 o6 o7
  have hQ := hstore_run hA8 ⟨y0, (y1 : Int), y2, y3, (y4 : Int), y5, y6, y7⟩
  obtain ⟨u1, u2, u3, u4, u5, u6, u7, w10, ⟨m1, m2, m3⟩, ⟨m4, m5, m6⟩, ⟨m7, m8, m9⟩, ⟨n1, n2, n3⟩, ⟨n4, n5, n6⟩, ⟨n7, n8, n9⟩, ⟨p1, p2, p3⟩, ⟨p4, p5, p6⟩, hX, hBl, hoth⟩ := hQ
  simp only at m1 m3 m4 m6 m7 m9 n1 n3 n4 n6 n7 n9 p1 p3 p4 p6
  have HR : Hid (Rdd w w10 b (Sg.dr 2 (Sg.dr 2 (Sg.dr 2 (Sg.dr 1 (Sg.dr 2 (Sg.dr 2 (Sg.dr 1 (Sg.dr 4 (s)))))))))) := by
    have hz9 := hBl w.heap.size (Nat.le_refl _)
    exact r8.grownRow hlt (row := some w.heap.size) ⟨hz9.os, hz9.tape, hz9.output, hz9.size, fun k _ hk => hoth k (fun e => hk (by simp [e]))⟩ (fun k hk => by simp at hk; omega)
  obtain ⟨q0, q1, q2, q3, q4, q5, q6, q7⟩ := hX.cells
  simp only at q0 q1 q2 q3 q4 q5 q6 q7
  clear hBl hoth hX r8 hA8 hB8 e8
  go_wp2_with fail
  refine bodyPost_ret (v := .agg #[.string y0, .int .i64 (y1 : Int), .string y2, .string y3, .int .i64 (y4 : Int), .string y5, .string y6, .string y7]) (by simp [results, Tryz.results112, go_sem, q0, q1, q2, q3, q4, q5, q6, q7]) rfl ⟨⟨y0, (y1 : Int), y2, y3, (y4 : Int), y5, y6, y7⟩, rfl, ?_, HR.out⟩
  show _ = _
  unfold Sg.pdHdr Sg.pdTxt
  simp only
  rw [← hy0.out, ← hy1.out, ← hy2.out, ← hy3.out, ← hy4.out, ← hy5.out, ← hy6.out, ← hy7.out]
theorem OwnH.len_ {w : World} {B : Nat} {v : Value} {hs : List Sg.Hdr} (h : OwnH w B v hs) : ∃ ao cap, v = .slice ao hs.length cap := ownsRow_len h
abbrev fHdr : Value := .func (.func 112) #[] #[]

set_option maxHeartbeats 3200000 in
/-- List of headers. -/
theorem readHdrs_any (s : Sg.Rs) (n b : Nat) (w : World) (hR : RdAt w b s) (hn8 : n < 65536) :
    Calls Tryz.prog 111 #[.pointer (some ⟨b, 0, none⟩), .int .i64 (n : Int), fHdr] w fun e w' => ∃ v ps, e = .returned v ∧ Hid (OwnH w' w.heap.size v ps) ∧ Hid (ps = (Sg.pdMany Sg.pdHdr n s).1) ∧ Rdd w w' b (Sg.pdMany Sg.pdHdr n s).2 := by
  obtain ⟨p0, pi, pz0, pz1, pz2⟩ := info_parts Tryz.infoHdr
  have hlt := hR.lt
  have HR1 : Hid (Rdd w w b s) := Rdd.here hR
  clear hR
  go_enter Tryz.func111, Tryz.ntmps111
  go_wp2_with fail
  go_loopw [7] (fun o wr => ∃ k : Nat, k ≤ n ∧ lenOf o = k ∧ ∃ v ps, v = o ∧ Hid (OwnH wr w.heap.size v ps) ∧ Hid (ps = (Sg.pdMany Sg.pdHdr k s).1 ∧ ps.length = k) ∧ Hid (Rdd w wr b (Sg.pdMany Sg.pdHdr k s).2)) (fun o _ => n - lenOf o)
  case atStart => exact ⟨0, by omega, rfl, _, [], rfl, OwnH.nil _ _, ⟨rfl, rfl⟩, HR1⟩
  case round =>
    obtain ⟨k, hk, hlo, v, ps, ev, HO, HP, HR⟩ := hrel
    subst ev
    obtain ⟨wz, ewz⟩ : ∃ z : World, z = wr := ⟨_, rfl⟩
    subst ewz
    obtain ⟨aoV, capV, hV⟩ : ∃ ao cap, v = .slice ao k cap := by
      obtain ⟨ao, cap, h⟩ := HO.out.len_
      rw [HP.out.2] at h
      exact ⟨ao, cap, h⟩
    subst hV
    have hfl := HR.out.at_.flag
    have hk8 : k < 65536 := by omega
    by_cases hgo : k < n
    · have g1 : (k : Int) < (n : Int) := by omega
      cases hlk : (Sg.pdMany Sg.pdHdr k s).2.2 with
      | true =>
        rw [hlk] at hfl
        have HE : Hid (Sg.pdMany Sg.pdHdr n s = Sg.pdMany Sg.pdHdr k s) := Sg.pdMany_stop _ k s hlk n hk
        clear hlk
        go_wp2_with fail
        go_ret
        refine ⟨_, ps, rfl, HO, ?_, ?_⟩
        · rw [HE.out]; exact HP.out.1
        · rw [HE.out]; exact HR.out
      | false =>
        rw [hlk] at hfl
        have HS : Hid (Sg.pdMany Sg.pdHdr (k + 1) s = ((Sg.pdMany Sg.pdHdr k s).1 ++ [(Sg.pdHdr (Sg.pdMany Sg.pdHdr k s).2).1], (Sg.pdHdr (Sg.pdMany Sg.pdHdr k s).2).2)) := Sg.pdMany_step _ k s hlk
        clear hlk
        go_wp2_with fail
        refine (readHeader_any _ b wz HR.out.at_).mono ?_
        rintro e w2 ⟨p, rfl, hp, hr2⟩
        have hown : w2.ownsRow w.heap.size 100 8 (.slice aoV k capV) k (hdrCells ps) := by
          have := ownsRow_keptT HO.out (Rdd.kept HR.out.at_ hr2) (by decide)
          rw [HP.out.2] at this; exact this
        have HR2 : Hid (Rdd w w2 b (Sg.pdMany Sg.pdHdr (k + 1) s).2) := by
          rw [HS.out]; exact HR.out.trans hr2
        have HP2 : Hid (ps ++ [p] = (Sg.pdMany Sg.pdHdr (k + 1) s).1 ∧ (ps ++ [p]).length = k + 1) := by
          refine ⟨?_, by rw [List.length_append, HP.out.2]; rfl⟩
          rw [HS.out, hp.out, ← HP.out.1]
        have hsz := HR2.out.size
        have HLEN : Hid (ps.length = k) := HP.out.2
        clear HR HO HP hr2 hp HS hfl
        obtain ⟨qa, qb, qc, qd, qe, qf, qg, qh⟩ := p
        go_wp2_with (at_builtin; (refine wpList_append_lies _ rfl _ _ 70 rfl w.heap.size 100 p0 _ 8 112 Tryz.underlying70 pi pz0 pz1 pz2 rfl (by decide) (.slice aoV k capV) k (hdrCells ps) rfl (hown.alloc _) ⟨w2.heap.size, 0, none⟩ 1 1 [.string qa, .int .i64 qb, .string qc, .string qd, .int .i64 qe, .string qf, .string qg, .string qh] rfl rfl (World.news_of_block (cs := #[.string qa, .int .i64 qb, .string qc, .string qd, .int .i64 qe, .string qf, .string qg, .string qh]) (t := 100) (fr := (0, 0)) (heap_alloc_new w2 _)) (by simp [Value.oneCell']) (by omega) (by unfold maxLen; omega) (by omega) (by simp; omega) (w2.heap.size + 1) (by simp) ?_))
        intro g cap' w5 hown5 hgrow _ hlt5
        have HR5 : Hid (Rdd w w5 b (Sg.pdMany Sg.pdHdr (k + 1) s).2) := (HR2.out.alloc _).grownRow hlt hgrow (fun q hq => (World.ownsRow.lt hown q hq).1)
        have HO5 : Hid (OwnH w5 w.heap.size (.slice (some ⟨g, 0, none⟩) (k + 1) cap') (ps ++ [⟨qa, qb, qc, qd, qe, qf, qg, qh⟩])) := by
          show OwnH _ _ _ _
          unfold OwnH
          rw [hdrCells_snoc, List.length_append, HLEN.out]
          exact hown5
        clear hown5 hgrow hown HR2 hlt5
        go_wp2_with fail
        go_roundw
        case rel => exact ⟨k + 1, by omega, rfl, _, _, rfl, HO5, HP2, HR5⟩
        case measure => simp [lenOf]; omega
    · have hkn : k = n := by omega
      have g1 : ¬ (k : Int) < (n : Int) := by omega
      subst hkn
      go_wp2_with fail
      go_ret
      first | exact ⟨_, ps, rfl, HO, HP.out.1, HR.out⟩ | exact ⟨_, rfl, ps, HO, HP.out.1, HR.out⟩
end Go.Proofs.YtpkkhkkkgjhkeabGreat

/-
  THE WALKS of book.ReadDrill, and the lists of drills and of sums.
-/
namespace Go.Proofs.YtpkkhkkkgjhkeabGreat
open Go.RowKit
set_option maxRecDepth 100000
attribute [local go_sem ↓] Go.wp_at_zero Go.wp_at_succ

/-- Four numbers in a box of their own. -/
def DBox (W : World) (g : Nat) (a b c d : Int) : Prop := W.heap[g]? = some (.cells #[.int .i64 a, .int .i64 b, .int .i64 c, .int .i64 d] 51 (0, 0))
theorem DBox.new (w : World) (a b c d : Int) : DBox (w.alloc (.cells #[.int .i64 a, .int .i64 b, .int .i64 c, .int .i64 d] 51)) w.heap.size a b c d := heap_alloc_new w _
theorem DBox.below {w w' : World} {g : Nat} {a b c d : Int} (k : DBox w g a b c d) (hb : Below w.heap.size w w') : DBox w' g a b c d := (hb.block g (lt_of_block k)).trans k
theorem DBox.rdd {w w' : World} {r g : Nat} {s : Sg.Rs} {a b c d : Int} (k : DBox w g a b c d) (hr : Rdd w w' r s) (hne : g ≠ r) : DBox w' g a b c d := (hr.block (lt_of_block k) hne).trans k
theorem DBox.set_other {w : World} {g p j : Nat} {a b c d : Int} (k : DBox w g a b c d) (hne : g ≠ p) (u : Value) : DBox (w.setCell ⟨p, j, none⟩ u) g a b c d := (heap_setCell_other w ⟨p, j, none⟩ g u hne).trans k
theorem DBox.cells {W : World} {g : Nat} {a b c d : Int} (k : DBox W g a b c d) : W.cell? ⟨g, 0, none⟩ = some (.int .i64 a) ∧ W.cell? ⟨g, 1, none⟩ = some (.int .i64 b) ∧ W.cell? ⟨g, 2, none⟩ = some (.int .i64 c) ∧ W.cell? ⟨g, 3, none⟩ = some (.int .i64 d) :=
  ⟨by rw [cell_of_row W g 0 _ _ _ k]; rfl, by rw [cell_of_row W g 1 _ _ _ k]; rfl, by rw [cell_of_row W g 2 _ _ _ k]; rfl, by rw [cell_of_row W g 3 _ _ _ k]; rfl⟩
theorem DBox.free {W : World} {g : Nat} {a b c d : Int} (k : DBox W g a b c d) : W.frozen? ⟨g, 0, none⟩ = false ∧ W.frozen? ⟨g, 1, none⟩ = false ∧ W.frozen? ⟨g, 2, none⟩ = false ∧ W.frozen? ⟨g, 3, none⟩ = false := by
  unfold DBox at k
  refine ⟨?_, ?_, ?_, ?_⟩ <;> simp [World.frozen?, k]
theorem DBox.lt {W : World} {g : Nat} {a b c d : Int} (k : DBox W g a b c d) : g < W.heap.size := lt_of_block k

set_option maxHeartbeats 3200000 in
/-- ReadDrill. -/
theorem readDrill_any (s : Sg.Rs) (b : Nat) (w : World) (hR : RdAt w b s) :
    Calls Tryz.prog 115 #[.pointer (some ⟨b, 0, none⟩)] w fun e w' => ∃ d : Sg.Drl, e = .returned (.agg #[.int .i64 (d.ent : Int), .int .i64 (d.place : Int), .int .i64 d.acct, .int .i64 d.amt]) ∧ Hid (d = (Sg.pdDrl s).1) ∧ Rdd w w' b (Sg.pdDrl s).2 := by
  have hlt := hR.lt
  have r0 := ((Rdd.here hR).alloc (.cells #[.int .i64 0, .int .i64 0, .int .i64 0, .int .i64 0] 51)).alloc (.cells #[.int .i64 0, .int .i64 0, .int .i64 0, .int .i64 0] 51)
  have hA0 : DBox ((w.alloc (.cells #[.int .i64 0, .int .i64 0, .int .i64 0, .int .i64 0] 51)).alloc (.cells #[.int .i64 0, .int .i64 0, .int .i64 0, .int .i64 0] 51)) w.heap.size 0 0 0 0 := (DBox.new w 0 0 0 0).below ((Below.refl _ _).alloc (Nat.le_refl _) _)
  have hB0 : DBox ((w.alloc (.cells #[.int .i64 0, .int .i64 0, .int .i64 0, .int .i64 0] 51)).alloc (.cells #[.int .i64 0, .int .i64 0, .int .i64 0, .int .i64 0] 51)) (w.heap.size + 1) 0 0 0 0 := by
    have := DBox.new (w.alloc (.cells #[.int .i64 0, .int .i64 0, .int .i64 0, .int .i64 0] 51)) 0 0 0 0
    rw [World.size_alloc] at this
    exact this
  clear hR
  go_enter Tryz.func115, Tryz.ntmps115
  go_wp2_with fail
  refine (rd_one_any (s) b _ r0.at_).mono ?_
  rintro e w1 ⟨y0, rfl, hy0, _, hr1⟩
  have hAc1 := hA0.rdd hr1 (by omega)
  have hBc1 := hB0.rdd hr1 (by omega)
  have rc1 := r0.trans hr1
  obtain ⟨c, _, _, _⟩ := hBc1.cells
  obtain ⟨f, _, _, _⟩ := hBc1.free
  have hA1 := hAc1.set_other (p := w.heap.size + 1) (j := 0) (by omega) (.int .i64 (y0 : Int))
  have hB1 : DBox (w1.setCell ⟨w.heap.size + 1, 0, none⟩ (.int .i64 (y0 : Int))) (w.heap.size + 1) (y0 : Int) 0 0 0 := heap_setCell_same w1 (w.heap.size + 1) 0 _ _ (.int .i64 (y0 : Int)) hBc1
  have r1 := rc1.setCell (g := w.heap.size + 1) (j := 0) hlt (by omega) (.int .i64 (y0 : Int))
  clear hA0 hB0 r0 hr1 hAc1 hBc1 rc1
  go_wp2_with fail
  clear c f
  refine (rd_one_any (Sg.dr 1 (s)) b _ r1.at_).mono ?_
  rintro e w2 ⟨y1, rfl, hy1, _, hr2⟩
  have hAc2 := hA1.rdd hr2 (by omega)
  have hBc2 := hB1.rdd hr2 (by omega)
  have rc2 := r1.trans hr2
  obtain ⟨_, c, _, _⟩ := hBc2.cells
  obtain ⟨_, f, _, _⟩ := hBc2.free
  have hA2 := hAc2.set_other (p := w.heap.size + 1) (j := 1) (by omega) (.int .i64 (y1 : Int))
  have hB2 : DBox (w2.setCell ⟨w.heap.size + 1, 1, none⟩ (.int .i64 (y1 : Int))) (w.heap.size + 1) (y0 : Int) (y1 : Int) 0 0 := heap_setCell_same w2 (w.heap.size + 1) 1 _ _ (.int .i64 (y1 : Int)) hBc2
  have r2 := rc2.setCell (g := w.heap.size + 1) (j := 1) hlt (by omega) (.int .i64 (y1 : Int))
  clear hA1 hB1 r1 hr2 hAc2 hBc2 rc2
  go_wp2_with fail
  clear c f
  refine (rd_one_any (Sg.dr 1 (Sg.dr 1 (s))) b _ r2.at_).mono ?_
  rintro e w3 ⟨y2, rfl, hy2, _, hr3⟩
  have hAc3 := hA2.rdd hr3 (by omega)
  have hBc3 := hB2.rdd hr3 (by omega)
  have rc3 := r2.trans hr3
  obtain ⟨_, _, c, _⟩ := hBc3.cells
  obtain ⟨_, _, f, _⟩ := hBc3.free
  have hA3 := hAc3.set_other (p := w.heap.size + 1) (j := 2) (by omega) (.int .i64 (y2 : Int))
  have hB3 : DBox (w3.setCell ⟨w.heap.size + 1, 2, none⟩ (.int .i64 (y2 : Int))) (w.heap.size + 1) (y0 : Int) (y1 : Int) (y2 : Int) 0 := heap_setCell_same w3 (w.heap.size + 1) 2 _ _ (.int .i64 (y2 : Int)) hBc3
  have r3 := rc3.setCell (g := w.heap.size + 1) (j := 2) hlt (by omega) (.int .i64 (y2 : Int))
  clear hA2 hB2 r2 hr3 hAc3 hBc3 rc3
  go_wp2_with fail
  clear c f
  refine (rd_eight_any (Sg.dr 1 (Sg.dr 1 (Sg.dr 1 (s)))) b _ r3.at_).mono ?_
  rintro e w4 ⟨y3, rfl, hy3, hr4⟩
  have hAc4 := hA3.rdd hr4 (by omega)
  have hBc4 := hB3.rdd hr4 (by omega)
  have rc4 := r3.trans hr4
  obtain ⟨_, _, _, c⟩ := hBc4.cells
  obtain ⟨_, _, _, f⟩ := hBc4.free
  have hA4 := hAc4.set_other (p := w.heap.size + 1) (j := 3) (by omega) (.int .i64 y3)
  have hB4 : DBox (w4.setCell ⟨w.heap.size + 1, 3, none⟩ (.int .i64 y3)) (w.heap.size + 1) (y0 : Int) (y1 : Int) (y2 : Int) y3 := heap_setCell_same w4 (w.heap.size + 1) 3 _ _ (.int .i64 y3) hBc4
  have r4 := rc4.setCell (g := w.heap.size + 1) (j := 3) hlt (by omega) (.int .i64 y3)
  clear hA3 hB3 r3 hr4 hAc4 hBc4 rc4
  go_upto_region 6 with fail
  clear c f
  generalize w4.setCell ⟨w.heap.size + 1, 3, none⟩ (.int .i64 y3) = w9 at *
  obtain ⟨o0, o1, o2, o3⟩ := hB4.cells
  obtain ⟨m0, m1, m2, m3⟩ := hA4.cells
  obtain ⟨n0, n1, n2, n3⟩ := hA4.free
  have HR : Hid (Rdd w ((((w9.setCell ⟨w.heap.size, 0, none⟩ (.int .i64 (y0 : Int))).setCell ⟨w.heap.size, 1, none⟩ (.int .i64 (y1 : Int))).setCell ⟨w.heap.size, 2, none⟩ (.int .i64 (y2 : Int))).setCell ⟨w.heap.size, 3, none⟩ (.int .i64 y3)) b (Sg.dr 8 (Sg.dr 1 (Sg.dr 1 (Sg.dr 1 (s)))))) := (((r4.setCell hlt (Nat.le_refl _) _).setCell hlt (Nat.le_refl _) _).setCell hlt (Nat.le_refl _) _).setCell hlt (Nat.le_refl _) _
  clear r4 hA4 hB4
  go_wp2_with fail
  refine bodyPost_ret (v := .agg #[.int .i64 (y0 : Int), .int .i64 (y1 : Int), .int .i64 (y2 : Int), .int .i64 y3]) (by simp [results, Tryz.results115, go_sem, m0, m1, m2, m3]) rfl ⟨⟨y0, y1, (y2 : Int), y3⟩, rfl, ?_, HR.out⟩
  show _ = _
  unfold Sg.pdDrl
  simp only
  rw [← hy0.out, ← hy1.out, ← hy2.out, ← hy3.out]
theorem OwnDrls.len_ {w : World} {B : Nat} {v : Value} {hs : List Sg.Drl} (h : OwnDrls w B v hs) : ∃ ao cap, v = .slice ao hs.length cap := ownsRow_len h
theorem OwnDrls.nil (w : World) (B : Nat) : OwnDrls w B (.slice none 0 0) [] := World.ownsRow_nil _ _ _ _
abbrev fDrl : Value := .func (.func 115) #[] #[]

set_option maxHeartbeats 3200000 in
/-- List of drills. -/
theorem readDrls_any (s : Sg.Rs) (n b : Nat) (w : World) (hR : RdAt w b s) (hn8 : n < 65536) :
    Calls Tryz.prog 113 #[.pointer (some ⟨b, 0, none⟩), .int .i64 (n : Int), fDrl] w fun e w' => ∃ v ps, e = .returned v ∧ Hid (OwnDrls w' w.heap.size v ps) ∧ Hid (ps = (Sg.pdMany Sg.pdDrl n s).1) ∧ Rdd w w' b (Sg.pdMany Sg.pdDrl n s).2 := by
  obtain ⟨p0, pi, pz0, pz1, pz2⟩ := info_parts Tryz.infoDrl
  have hlt := hR.lt
  have HR1 : Hid (Rdd w w b s) := Rdd.here hR
  clear hR
  go_enter Tryz.func113, Tryz.ntmps113
  go_wp2_with fail
  go_loopw [7] (fun o wr => ∃ k : Nat, k ≤ n ∧ lenOf o = k ∧ ∃ v ps, v = o ∧ Hid (OwnDrls wr w.heap.size v ps) ∧ Hid (ps = (Sg.pdMany Sg.pdDrl k s).1 ∧ ps.length = k) ∧ Hid (Rdd w wr b (Sg.pdMany Sg.pdDrl k s).2)) (fun o _ => n - lenOf o)
  case atStart => exact ⟨0, by omega, rfl, _, [], rfl, OwnDrls.nil _ _, ⟨rfl, rfl⟩, HR1⟩
  case round =>
    obtain ⟨k, hk, hlo, v, ps, ev, HO, HP, HR⟩ := hrel
    subst ev
    obtain ⟨wz, ewz⟩ : ∃ z : World, z = wr := ⟨_, rfl⟩
    subst ewz
    obtain ⟨aoV, capV, hV⟩ : ∃ ao cap, v = .slice ao k cap := by
      obtain ⟨ao, cap, h⟩ := HO.out.len_
      rw [HP.out.2] at h
      exact ⟨ao, cap, h⟩
    subst hV
    have hfl := HR.out.at_.flag
    have hk8 : k < 65536 := by omega
    by_cases hgo : k < n
    · have g1 : (k : Int) < (n : Int) := by omega
      cases hlk : (Sg.pdMany Sg.pdDrl k s).2.2 with
      | true =>
        rw [hlk] at hfl
        have HE : Hid (Sg.pdMany Sg.pdDrl n s = Sg.pdMany Sg.pdDrl k s) := Sg.pdMany_stop _ k s hlk n hk
        clear hlk
        go_wp2_with fail
        go_ret
        refine ⟨_, ps, rfl, HO, ?_, ?_⟩
        · rw [HE.out]; exact HP.out.1
        · rw [HE.out]; exact HR.out
      | false =>
        rw [hlk] at hfl
        have HS : Hid (Sg.pdMany Sg.pdDrl (k + 1) s = ((Sg.pdMany Sg.pdDrl k s).1 ++ [(Sg.pdDrl (Sg.pdMany Sg.pdDrl k s).2).1], (Sg.pdDrl (Sg.pdMany Sg.pdDrl k s).2).2)) := Sg.pdMany_step _ k s hlk
        clear hlk
        go_wp2_with fail
        refine (readDrill_any _ b wz HR.out.at_).mono ?_
        rintro e w2 ⟨p, rfl, hp, hr2⟩
        have hown : w2.ownsRow w.heap.size 51 4 (.slice aoV k capV) k (drlCells ps) := by
          have := ownsRow_keptT HO.out (Rdd.kept HR.out.at_ hr2) (by decide)
          rw [HP.out.2] at this; exact this
        have HR2 : Hid (Rdd w w2 b (Sg.pdMany Sg.pdDrl (k + 1) s).2) := by
          rw [HS.out]; exact HR.out.trans hr2
        have HP2 : Hid (ps ++ [p] = (Sg.pdMany Sg.pdDrl (k + 1) s).1 ∧ (ps ++ [p]).length = k + 1) := by
          refine ⟨?_, by rw [List.length_append, HP.out.2]; rfl⟩
          rw [HS.out, hp.out, ← HP.out.1]
        have hsz := HR2.out.size
        have HLEN : Hid (ps.length = k) := HP.out.2
        clear HR HO HP hr2 hp HS hfl
        obtain ⟨qa, qb, qc, qd⟩ := p
        go_wp2_with (at_builtin; (refine wpList_append_lies _ rfl _ _ 35 rfl w.heap.size 51 p0 _ 4 32 Tryz.underlying35 pi pz0 pz1 pz2 rfl (by decide) (.slice aoV k capV) k (drlCells ps) rfl (hown.alloc _) ⟨w2.heap.size, 0, none⟩ 1 1 [.int .i64 (qa : Int), .int .i64 (qb : Int), .int .i64 qc, .int .i64 qd] rfl rfl (World.news_of_block (cs := #[.int .i64 (qa : Int), .int .i64 (qb : Int), .int .i64 qc, .int .i64 qd]) (t := 51) (fr := (0, 0)) (heap_alloc_new w2 _)) (by simp [Value.oneCell']) (by omega) (by unfold maxLen; omega) (by omega) (by simp; omega) (w2.heap.size + 1) (by simp) ?_))
        intro g cap' w5 hown5 hgrow _ hlt5
        have HR5 : Hid (Rdd w w5 b (Sg.pdMany Sg.pdDrl (k + 1) s).2) := (HR2.out.alloc _).grownRow hlt hgrow (fun q hq => (World.ownsRow.lt hown q hq).1)
        have HO5 : Hid (OwnDrls w5 w.heap.size (.slice (some ⟨g, 0, none⟩) (k + 1) cap') (ps ++ [⟨qa, qb, qc, qd⟩])) := by
          show OwnDrls _ _ _ _
          unfold OwnDrls
          rw [drlCells_snoc, List.length_append, HLEN.out]
          exact hown5
        clear hown5 hgrow hown HR2 hlt5
        go_wp2_with fail
        go_roundw
        case rel => exact ⟨k + 1, by omega, rfl, _, _, rfl, HO5, HP2, HR5⟩
        case measure => simp [lenOf]; omega
    · have hkn : k = n := by omega
      have g1 : ¬ (k : Int) < (n : Int) := by omega
      subst hkn
      go_wp2_with fail
      go_ret
      first | exact ⟨_, ps, rfl, HO, HP.out.1, HR.out⟩ | exact ⟨_, rfl, ps, HO, HP.out.1, HR.out⟩
theorem OwnStrs.len_ {w : World} {B : Nat} {v : Value} {hs : List ByteArray} (h : OwnStrs w B v hs) : ∃ ao cap, v = .slice ao hs.length cap := ownsRow_len h
theorem OwnStrs.nil (w : World) (B : Nat) : OwnStrs w B (.slice none 0 0) [] := World.ownsRow_nil _ _ _ _
abbrev fTwo : Value := .func (.func 117) #[] #[]
set_option maxHeartbeats 800000 in
/-- The closure that reads a sum. -/
theorem readTwo_any (s : Sg.Rs) (b : Nat) (w : World) (hR : RdAt w b s) :
    Calls Tryz.prog 117 #[.pointer (some ⟨b, 0, none⟩)] w fun e w' => ∃ p, e = .returned (.string p) ∧ Hid (p = (Sg.pdSum s).1) ∧ Rdd w w' b (Sg.pdSum s).2 := by
  go_enter Tryz.func117, Tryz.ntmps117
  go_wp2_with fail
  refine (rd_text_any s 2 b _ hR (by omega)).mono ?_
  rintro e w1 ⟨y, rfl, hy, _, hr⟩
  go_wp2_with fail
  go_ret
  exact ⟨_, rfl, hy, hr⟩

set_option maxHeartbeats 3200000 in
/-- List of sums. -/
theorem readSums_any (s : Sg.Rs) (n b : Nat) (w : World) (hR : RdAt w b s) (hn8 : n < 65536) :
    Calls Tryz.prog 116 #[.pointer (some ⟨b, 0, none⟩), .int .i64 (n : Int), fTwo] w fun e w' => ∃ v ps, e = .returned v ∧ Hid (OwnStrs w' w.heap.size v ps) ∧ Hid (ps = (Sg.pdMany Sg.pdSum n s).1) ∧ Rdd w w' b (Sg.pdMany Sg.pdSum n s).2 := by
  obtain ⟨p0, pi, pz0, pz1, pz2⟩ := info_parts Tryz.infoStr
  have hlt := hR.lt
  have HR1 : Hid (Rdd w w b s) := Rdd.here hR
  clear hR
  go_enter Tryz.func116, Tryz.ntmps116
  go_wp2_with fail
  go_loopw [7] (fun o wr => ∃ k : Nat, k ≤ n ∧ lenOf o = k ∧ ∃ v ps, v = o ∧ Hid (OwnStrs wr w.heap.size v ps) ∧ Hid (ps = (Sg.pdMany Sg.pdSum k s).1 ∧ ps.length = k) ∧ Hid (Rdd w wr b (Sg.pdMany Sg.pdSum k s).2)) (fun o _ => n - lenOf o)
  case atStart => exact ⟨0, by omega, rfl, _, [], rfl, OwnStrs.nil _ _, ⟨rfl, rfl⟩, HR1⟩
  case round =>
    obtain ⟨k, hk, hlo, v, ps, ev, HO, HP, HR⟩ := hrel
    subst ev
    obtain ⟨wz, ewz⟩ : ∃ z : World, z = wr := ⟨_, rfl⟩
    subst ewz
    obtain ⟨aoV, capV, hV⟩ : ∃ ao cap, v = .slice ao k cap := by
      obtain ⟨ao, cap, h⟩ := HO.out.len_
      rw [HP.out.2] at h
      exact ⟨ao, cap, h⟩
    subst hV
    have hfl := HR.out.at_.flag
    have hk8 : k < 65536 := by omega
    by_cases hgo : k < n
    · have g1 : (k : Int) < (n : Int) := by omega
      cases hlk : (Sg.pdMany Sg.pdSum k s).2.2 with
      | true =>
        rw [hlk] at hfl
        have HE : Hid (Sg.pdMany Sg.pdSum n s = Sg.pdMany Sg.pdSum k s) := Sg.pdMany_stop _ k s hlk n hk
        clear hlk
        go_wp2_with fail
        go_ret
        refine ⟨_, ps, rfl, HO, ?_, ?_⟩
        · rw [HE.out]; exact HP.out.1
        · rw [HE.out]; exact HR.out
      | false =>
        rw [hlk] at hfl
        have HS : Hid (Sg.pdMany Sg.pdSum (k + 1) s = ((Sg.pdMany Sg.pdSum k s).1 ++ [(Sg.pdSum (Sg.pdMany Sg.pdSum k s).2).1], (Sg.pdSum (Sg.pdMany Sg.pdSum k s).2).2)) := Sg.pdMany_step _ k s hlk
        clear hlk
        go_wp2_with fail
        refine (readTwo_any _ b wz HR.out.at_).mono ?_
        rintro e w2 ⟨p, rfl, hp, hr2⟩
        have hown : w2.ownsRow w.heap.size 9 1 (.slice aoV k capV) k (ps.map Value.string) := by
          have := ownsRow_keptT HO.out (Rdd.kept HR.out.at_ hr2) (by decide)
          rw [HP.out.2] at this; exact this
        have HR2 : Hid (Rdd w w2 b (Sg.pdMany Sg.pdSum (k + 1) s).2) := by
          rw [HS.out]; exact HR.out.trans hr2
        have HP2 : Hid (ps ++ [p] = (Sg.pdMany Sg.pdSum (k + 1) s).1 ∧ (ps ++ [p]).length = k + 1) := by
          refine ⟨?_, by rw [List.length_append, HP.out.2]; rfl⟩
          rw [HS.out, hp.out, ← HP.out.1]
        have hsz := HR2.out.size
        have HLEN : Hid (ps.length = k) := HP.out.2
        clear HR HO HP hr2 hp HS hfl
        go_wp2_with (at_builtin; (refine wpList_append_lies _ rfl _ _ 71 rfl w.heap.size 9 p0 _ 1 16 Tryz.underlying71 pi pz0 pz1 pz2 rfl (by decide) (.slice aoV k capV) k (ps.map Value.string) rfl (hown.alloc _) ⟨w2.heap.size, 0, none⟩ 1 1 [.string p] rfl rfl (World.news_of_block (cs := #[.string p]) (t := 9) (fr := (0, 0)) (heap_alloc_new w2 _)) (by simp [Value.oneCell']) (by omega) (by unfold maxLen; omega) (by omega) (by simp; omega) (w2.heap.size + 1) (by simp) ?_))
        intro g cap' w5 hown5 hgrow _ hlt5
        have HR5 : Hid (Rdd w w5 b (Sg.pdMany Sg.pdSum (k + 1) s).2) := (HR2.out.alloc _).grownRow hlt hgrow (fun q hq => (World.ownsRow.lt hown q hq).1)
        have HO5 : Hid (OwnStrs w5 w.heap.size (.slice (some ⟨g, 0, none⟩) (k + 1) cap') (ps ++ [p])) := by
          show OwnStrs _ _ _ _
          unfold OwnStrs
          rw [List.map_append, List.length_append, HLEN.out]
          exact hown5
        clear hown5 hgrow hown HR2 hlt5
        go_wp2_with fail
        go_roundw
        case rel => exact ⟨k + 1, by omega, rfl, _, _, rfl, HO5, HP2, HR5⟩
        case measure => simp [lenOf]; omega
    · have hkn : k = n := by omega
      have g1 : ¬ (k : Int) < (n : Int) := by omega
      subst hkn
      go_wp2_with fail
      go_ret
      first | exact ⟨_, ps, rfl, HO, HP.out.1, HR.out⟩ | exact ⟨_, rfl, ps, HO, HP.out.1, HR.out⟩
end Go.Proofs.YtpkkhkkkgjhkeabGreat

/-
  THE WALKS of bundle.readBundle, isInBounds, Reader.IsThrough, bundle.Read (P10).
-/
namespace Go.Proofs.YtpkkhkkkgjhkeabGreat
open Go.RowKit
set_option maxRecDepth 100000
attribute [local go_sem ↓] Go.wp_at_zero Go.wp_at_succ

/-- A bundle's seven cells in a box of their own. -/
def BBox (W : World) (g : Nat) (x0 x1 x2 x3 x4 x5 x6 : Value) : Prop := W.heap[g]? = some (.cells #[x0, x1, x2, x3, x4, x5, x6] 73 (0, 0))
theorem BBox.new (w : World) (x0 x1 x2 x3 x4 x5 x6 : Value) : BBox (w.alloc (.cells #[x0, x1, x2, x3, x4, x5, x6] 73)) w.heap.size x0 x1 x2 x3 x4 x5 x6 := heap_alloc_new w _
theorem BBox.below {w w' : World} {g : Nat} {x0 x1 x2 x3 x4 x5 x6 : Value} (k : BBox w g x0 x1 x2 x3 x4 x5 x6) (hb : Below w.heap.size w w') : BBox w' g x0 x1 x2 x3 x4 x5 x6 := (hb.block g (lt_of_block k)).trans k
theorem BBox.rdd {w w' : World} {r g : Nat} {s : Sg.Rs} {x0 x1 x2 x3 x4 x5 x6 : Value} (k : BBox w g x0 x1 x2 x3 x4 x5 x6) (hr : Rdd w w' r s) (hne : g ≠ r) : BBox w' g x0 x1 x2 x3 x4 x5 x6 := (hr.block (lt_of_block k) hne).trans k
theorem BBox.set_other {w : World} {g p j : Nat} {x0 x1 x2 x3 x4 x5 x6 : Value} (k : BBox w g x0 x1 x2 x3 x4 x5 x6) (hne : g ≠ p) (u : Value) : BBox (w.setCell ⟨p, j, none⟩ u) g x0 x1 x2 x3 x4 x5 x6 := (heap_setCell_other w ⟨p, j, none⟩ g u hne).trans k
theorem BBox.lt {W : World} {g : Nat} {x0 x1 x2 x3 x4 x5 x6 : Value} (k : BBox W g x0 x1 x2 x3 x4 x5 x6) : g < W.heap.size := lt_of_block k
theorem BBox.cells {W : World} {g : Nat} {x0 x1 x2 x3 x4 x5 x6 : Value} (k : BBox W g x0 x1 x2 x3 x4 x5 x6) : W.cell? ⟨g, 0, none⟩ = some x0 ∧ W.cell? ⟨g, 1, none⟩ = some x1 ∧ W.cell? ⟨g, 2, none⟩ = some x2 ∧ W.cell? ⟨g, 3, none⟩ = some x3 ∧ W.cell? ⟨g, 4, none⟩ = some x4 ∧ W.cell? ⟨g, 5, none⟩ = some x5 ∧ W.cell? ⟨g, 6, none⟩ = some x6 :=
  ⟨by rw [cell_of_row W g 0 _ _ _ k]; rfl, by rw [cell_of_row W g 1 _ _ _ k]; rfl, by rw [cell_of_row W g 2 _ _ _ k]; rfl, by rw [cell_of_row W g 3 _ _ _ k]; rfl, by rw [cell_of_row W g 4 _ _ _ k]; rfl, by rw [cell_of_row W g 5 _ _ _ k]; rfl, by rw [cell_of_row W g 6 _ _ _ k]; rfl⟩
theorem BBox.free {W : World} {g : Nat} {x0 x1 x2 x3 x4 x5 x6 : Value} (k : BBox W g x0 x1 x2 x3 x4 x5 x6) : W.frozen? ⟨g, 0, none⟩ = false ∧ W.frozen? ⟨g, 1, none⟩ = false ∧ W.frozen? ⟨g, 2, none⟩ = false ∧ W.frozen? ⟨g, 3, none⟩ = false ∧ W.frozen? ⟨g, 4, none⟩ = false ∧ W.frozen? ⟨g, 5, none⟩ = false ∧ W.frozen? ⟨g, 6, none⟩ = false := by
  unfold BBox at k
  refine ⟨?_, ?_, ?_, ?_, ?_, ?_, ?_⟩ <;> simp [World.frozen?, k]
/-- A bundle is stored whole into a box: cell by cell. -/
theorem bstore_run {w : World} {b : Nat} {x0 x1 x2 x3 x4 x5 x6 : Value} (hX : BBox w b x0 x1 x2 x3 x4 x5 x6) (y0 y1 y2 y3 y4 y5 y6 : Value) :
    ∃ u1 u2 u3 u4 u5 u6 u7 : World, (w.cell? ⟨b, 0, none⟩ = some x0 ∧ w.frozen? ⟨b, 0, none⟩ = false ∧ w.setCell ⟨b, 0, none⟩ y0 = u1) ∧
      (u1.cell? ⟨b, 1, none⟩ = some x1 ∧ u1.frozen? ⟨b, 1, none⟩ = false ∧ u1.setCell ⟨b, 1, none⟩ y1 = u2) ∧
      (u2.cell? ⟨b, 2, none⟩ = some x2 ∧ u2.frozen? ⟨b, 2, none⟩ = false ∧ u2.setCell ⟨b, 2, none⟩ y2 = u3) ∧
      (u3.cell? ⟨b, 3, none⟩ = some x3 ∧ u3.frozen? ⟨b, 3, none⟩ = false ∧ u3.setCell ⟨b, 3, none⟩ y3 = u4) ∧
      (u4.cell? ⟨b, 4, none⟩ = some x4 ∧ u4.frozen? ⟨b, 4, none⟩ = false ∧ u4.setCell ⟨b, 4, none⟩ y4 = u5) ∧
      (u5.cell? ⟨b, 5, none⟩ = some x5 ∧ u5.frozen? ⟨b, 5, none⟩ = false ∧ u5.setCell ⟨b, 5, none⟩ y5 = u6) ∧
      (u6.cell? ⟨b, 6, none⟩ = some x6 ∧ u6.frozen? ⟨b, 6, none⟩ = false ∧ u6.setCell ⟨b, 6, none⟩ y6 = u7) ∧
      BBox u7 b y0 y1 y2 y3 y4 y5 y6 ∧ (∀ B, B ≤ b → Below B w u7) ∧ (∀ i, i ≠ b → u7.heap[i]? = w.heap[i]?) := by
  have k0 : w.heap[b]? = some (.cells #[x0, x1, x2, x3, x4, x5, x6] 73 (0, 0)) := hX
  obtain ⟨u1, e1⟩ : ∃ u : World, w.setCell ⟨b, 0, none⟩ y0 = u := ⟨_, rfl⟩
  have k1 : u1.heap[b]? = some (.cells #[y0, x1, x2, x3, x4, x5, x6] 73 (0, 0)) := by rw [← e1]; exact heap_setCell_same _ b 0 _ _ y0 k0
  obtain ⟨u2, e2⟩ : ∃ u : World, u1.setCell ⟨b, 1, none⟩ y1 = u := ⟨_, rfl⟩
  have k2 : u2.heap[b]? = some (.cells #[y0, y1, x2, x3, x4, x5, x6] 73 (0, 0)) := by rw [← e2]; exact heap_setCell_same _ b 1 _ _ y1 k1
  obtain ⟨u3, e3⟩ : ∃ u : World, u2.setCell ⟨b, 2, none⟩ y2 = u := ⟨_, rfl⟩
  have k3 : u3.heap[b]? = some (.cells #[y0, y1, y2, x3, x4, x5, x6] 73 (0, 0)) := by rw [← e3]; exact heap_setCell_same _ b 2 _ _ y2 k2
  obtain ⟨u4, e4⟩ : ∃ u : World, u3.setCell ⟨b, 3, none⟩ y3 = u := ⟨_, rfl⟩
  have k4 : u4.heap[b]? = some (.cells #[y0, y1, y2, y3, x4, x5, x6] 73 (0, 0)) := by rw [← e4]; exact heap_setCell_same _ b 3 _ _ y3 k3
  obtain ⟨u5, e5⟩ : ∃ u : World, u4.setCell ⟨b, 4, none⟩ y4 = u := ⟨_, rfl⟩
  have k5 : u5.heap[b]? = some (.cells #[y0, y1, y2, y3, y4, x5, x6] 73 (0, 0)) := by rw [← e5]; exact heap_setCell_same _ b 4 _ _ y4 k4
  obtain ⟨u6, e6⟩ : ∃ u : World, u5.setCell ⟨b, 5, none⟩ y5 = u := ⟨_, rfl⟩
  have k6 : u6.heap[b]? = some (.cells #[y0, y1, y2, y3, y4, y5, x6] 73 (0, 0)) := by rw [← e6]; exact heap_setCell_same _ b 5 _ _ y5 k5
  obtain ⟨u7, e7⟩ : ∃ u : World, u6.setCell ⟨b, 6, none⟩ y6 = u := ⟨_, rfl⟩
  have k7 : u7.heap[b]? = some (.cells #[y0, y1, y2, y3, y4, y5, y6] 73 (0, 0)) := by rw [← e7]; exact heap_setCell_same _ b 6 _ _ y6 k6
  refine ⟨u1, u2, u3, u4, u5, u6, u7, ⟨by rw [cell_of_row _ b 0 _ _ _ k0]; rfl, by simp [World.frozen?, k0], e1⟩, ⟨by rw [cell_of_row _ b 1 _ _ _ k1]; rfl, by simp [World.frozen?, k1], e2⟩, ⟨by rw [cell_of_row _ b 2 _ _ _ k2]; rfl, by simp [World.frozen?, k2], e3⟩, ⟨by rw [cell_of_row _ b 3 _ _ _ k3]; rfl, by simp [World.frozen?, k3], e4⟩, ⟨by rw [cell_of_row _ b 4 _ _ _ k4]; rfl, by simp [World.frozen?, k4], e5⟩, ⟨by rw [cell_of_row _ b 5 _ _ _ k5]; rfl, by simp [World.frozen?, k5], e6⟩, ⟨by rw [cell_of_row _ b 6 _ _ _ k6]; rfl, by simp [World.frozen?, k6], e7⟩, k7, fun B hB => ?_, fun i hi => ?_⟩
  · rw [← e7]
    rw [← e6]
    rw [← e5]
    rw [← e4]
    rw [← e3]
    rw [← e2]
    rw [← e1]
    exact ((((((((Below.refl B w).setCell (show B ≤ b from hB) _).setCell (show B ≤ b from hB) _).setCell (show B ≤ b from hB) _).setCell (show B ≤ b from hB) _).setCell (show B ≤ b from hB) _).setCell (show B ≤ b from hB) _).setCell (show B ≤ b from hB) _)
  · have k := fun (W : World) (j : Nat) (v : Value) => heap_setCell_other W ⟨b, j, none⟩ i v hi
    rw [← e7, k, ← e6, k, ← e5, k, ← e4, k, ← e3, k, ← e2, k, ← e1, k]

/-- A bundle's lists are the call's own. -/
structure BunOwn (w : World) (B : Nat) (vD vH vP : Value) (b : Sg.Bun) : Prop where
  drls : OwnDrls w B vD b.drls
  hdrs : OwnH w B vH b.hdrs
  path : OwnStrs w B vP b.path
theorem BunOwn.below {w w' : World} {B : Nat} {vD vH vP : Value} {b : Sg.Bun} (h : BunOwn w B vD vH vP b) (hb : Below w.heap.size w w') : BunOwn w' B vD vH vP b := ⟨ownsRow_below h.drls hb, ownsRow_below h.hdrs hb, ownsRow_below h.path hb⟩
theorem BunOwn.mono {w : World} {B B' : Nat} {vD vH vP : Value} {b : Sg.Bun} (h : BunOwn w B vD vH vP b) (hB : B' ≤ B) : BunOwn w B' vD vH vP b := ⟨ownsRow_mono h.drls hB, ownsRow_mono h.hdrs hB, ownsRow_mono h.path hB⟩
theorem ownsRow_offB {w w' : World} {B g : Nat} {e : TypeId} {sz n : Nat} {v : Value} {xs : List Value} (h : w.ownsRow B e sz v n xs) (hg : g < B) (ho : ∀ i, i ≠ g → w'.heap[i]? = w.heap[i]?) : w'.ownsRow B e sz v n xs := by
  obtain ⟨h1, h2⟩ := h
  refine ⟨h1, ?_⟩
  rcases h2 with h2 | ⟨q, cap, cur, hv, hq, hh, r⟩
  · exact Or.inl h2
  · exact Or.inr ⟨q, cap, cur, hv, hq, (ho q (by omega)).trans hh, r⟩

set_option maxHeartbeats 6400000 in
/-- readBundle. -/
theorem readBundle_any (s : Sg.Rs) (b : Nat) (w : World) (hR : RdAt w b s) :
    Calls Tryz.prog 83 #[.pointer (some ⟨b, 0, none⟩)] w fun e w' => ∃ (n : Sg.Bun) (vD vH vP : Value), e = .returned (.agg #[.int .i64 (n.per : Int), .int .i64 (n.line : Int), .int .i64 n.total, vD, vH, vP, .string { data := #[] }]) ∧ Hid (n = (Sg.pdBun s).1) ∧ Hid (BunOwn w' w.heap.size vD vH vP n) ∧ Rdd w w' b (Sg.pdBun s).2 := by
  have hlt := hR.lt
  have r0 := ((Rdd.here hR).alloc (.cells #[.int .i64 0, .int .i64 0, .int .i64 0, .slice none 0 0, .slice none 0 0, .slice none 0 0, .string { data := #[] }] 73)).alloc (.cells #[.int .i64 0, .int .i64 0, .int .i64 0, .slice none 0 0, .slice none 0 0, .slice none 0 0, .string { data := #[] }] 73)
  have hA0 : BBox ((w.alloc (.cells #[.int .i64 0, .int .i64 0, .int .i64 0, .slice none 0 0, .slice none 0 0, .slice none 0 0, .string { data := #[] }] 73)).alloc (.cells #[.int .i64 0, .int .i64 0, .int .i64 0, .slice none 0 0, .slice none 0 0, .slice none 0 0, .string { data := #[] }] 73)) w.heap.size (.int .i64 0) (.int .i64 0) (.int .i64 0) (.slice none 0 0) (.slice none 0 0) (.slice none 0 0) (.string { data := #[] }) := (BBox.new w (.int .i64 0) (.int .i64 0) (.int .i64 0) (.slice none 0 0) (.slice none 0 0) (.slice none 0 0) (.string { data := #[] })).below ((Below.refl _ _).alloc (Nat.le_refl _) _)
  have hB0 : BBox ((w.alloc (.cells #[.int .i64 0, .int .i64 0, .int .i64 0, .slice none 0 0, .slice none 0 0, .slice none 0 0, .string { data := #[] }] 73)).alloc (.cells #[.int .i64 0, .int .i64 0, .int .i64 0, .slice none 0 0, .slice none 0 0, .slice none 0 0, .string { data := #[] }] 73)) (w.heap.size + 1) (.int .i64 0) (.int .i64 0) (.int .i64 0) (.slice none 0 0) (.slice none 0 0) (.slice none 0 0) (.string { data := #[] }) := by
    have := BBox.new (w.alloc (.cells #[.int .i64 0, .int .i64 0, .int .i64 0, .slice none 0 0, .slice none 0 0, .slice none 0 0, .string { data := #[] }] 73)) (.int .i64 0) (.int .i64 0) (.int .i64 0) (.slice none 0 0) (.slice none 0 0) (.slice none 0 0) (.string { data := #[] })
    rw [World.size_alloc] at this
    exact this
  clear hR
  go_enter Tryz.func83, Tryz.ntmps83
  go_wp2_with fail
  refine (rd_one_any s b _ r0.at_).mono ?_
  rintro e w1 ⟨a1, rfl, ha1, _, hr1⟩
  have hAc := hA0.rdd hr1 (by omega)
  have hBc := hB0.rdd hr1 (by omega)
  have rc := r0.trans hr1
  obtain ⟨c, _, _, _, _, _, _⟩ := hBc.cells
  obtain ⟨f, _, _, _, _, _, _⟩ := hBc.free
  have hA1 := hAc.set_other (p := w.heap.size + 1) (j := 0) (by omega) (.int .i64 (a1 : Int))
  have hB1 : BBox (w1.setCell ⟨w.heap.size + 1, 0, none⟩ (.int .i64 (a1 : Int))) (w.heap.size + 1) (.int .i64 (a1 : Int)) (.int .i64 0) (.int .i64 0) (.slice none 0 0) (.slice none 0 0) (.slice none 0 0) (.string { data := #[] }) := heap_setCell_same w1 (w.heap.size + 1) 0 _ _ (.int .i64 (a1 : Int)) hBc
  have r1 := rc.setCell (g := w.heap.size + 1) (j := 0) hlt (by omega) (.int .i64 (a1 : Int))
  clear hA0 hB0 r0 hr1 hAc hBc rc
  go_wp2_with fail
  clear c f
  refine (rd_one_any (Sg.dr 1 s) b _ r1.at_).mono ?_
  rintro e w2 ⟨a2, rfl, ha2, _, hr2⟩
  have hAc := hA1.rdd hr2 (by omega)
  have hBc := hB1.rdd hr2 (by omega)
  have rc := r1.trans hr2
  obtain ⟨_, c, _, _, _, _, _⟩ := hBc.cells
  obtain ⟨_, f, _, _, _, _, _⟩ := hBc.free
  have hA2 := hAc.set_other (p := w.heap.size + 1) (j := 1) (by omega) (.int .i64 (a2 : Int))
  have hB2 : BBox (w2.setCell ⟨w.heap.size + 1, 1, none⟩ (.int .i64 (a2 : Int))) (w.heap.size + 1) (.int .i64 (a1 : Int)) (.int .i64 (a2 : Int)) (.int .i64 0) (.slice none 0 0) (.slice none 0 0) (.slice none 0 0) (.string { data := #[] }) := heap_setCell_same w2 (w.heap.size + 1) 1 _ _ (.int .i64 (a2 : Int)) hBc
  have r2 := rc.setCell (g := w.heap.size + 1) (j := 1) hlt (by omega) (.int .i64 (a2 : Int))
  clear hA1 hB1 r1 hr2 hAc hBc rc
  go_wp2_with fail
  clear c f
  refine (rd_one_any (Sg.dr 1 (Sg.dr 1 s)) b _ r2.at_).mono ?_
  rintro e w3 ⟨a3, rfl, ha3, hk3, hr3⟩
  have hA3 := hA2.rdd hr3 (by omega)
  have hB3 := hB2.rdd hr3 (by omega)
  have r3 := r2.trans hr3
  clear hA2 hB2 r2 hr3
  go_wp2_with fail
  refine (readHdrs_any (Sg.dr 1 (Sg.dr 1 (Sg.dr 1 s))) a3 b _ r3.at_ (by omega)).mono ?_
  rintro e w4 ⟨vH, hs, rfl, HOH, hhs, hr4⟩
  obtain ⟨aoH, capH, eH⟩ := HOH.out.len_
  subst eH
  have hAc := hA3.rdd hr4 (by omega)
  have hBc := hB3.rdd hr4 (by omega)
  have rc := r3.trans hr4
  obtain ⟨_, _, _, _, c, _, _⟩ := hBc.cells
  obtain ⟨_, _, _, _, f, _, _⟩ := hBc.free
  have hA4 := hAc.set_other (p := w.heap.size + 1) (j := 4) (by omega) (.slice aoH hs.length capH)
  have hB4 : BBox (w4.setCell ⟨w.heap.size + 1, 4, none⟩ (.slice aoH hs.length capH)) (w.heap.size + 1) (.int .i64 (a1 : Int)) (.int .i64 (a2 : Int)) (.int .i64 0) (.slice none 0 0) (.slice aoH hs.length capH) (.slice none 0 0) (.string { data := #[] }) := heap_setCell_same w4 (w.heap.size + 1) 4 _ _ (.slice aoH hs.length capH) hBc
  have r4 := rc.setCell (g := w.heap.size + 1) (j := 4) hlt (by omega) (.slice aoH hs.length capH)
  have hl3 := hB3.lt
  have HH4 : Hid (OwnH (w4.setCell ⟨w.heap.size + 1, 4, none⟩ (.slice aoH hs.length capH)) (w.heap.size + 2) (.slice aoH hs.length capH) hs) := ownsRow_setCell_below (ownsRow_mono HOH.out (by omega)) (by show w.heap.size + 1 < _; omega) _
  obtain ⟨s4, hs4⟩ : ∃ s4, (Sg.pdMany Sg.pdHdr a3 (Sg.dr 1 (Sg.dr 1 (Sg.dr 1 s)))).2 = s4 := ⟨_, rfl⟩
  rw [hs4] at r4
  clear hA3 hB3 r3 hr4 hAc hBc rc hl3 HOH
  go_wp2_with fail
  clear c f
  refine (rd_eight_any s4 b _ r4.at_).mono ?_
  rintro e w5 ⟨a5, rfl, ha5, hr5⟩
  have hAc := hA4.rdd hr5 (by omega)
  have hBc := hB4.rdd hr5 (by omega)
  have rc := r4.trans hr5
  obtain ⟨_, _, c, _, _, _, _⟩ := hBc.cells
  obtain ⟨_, _, f, _, _, _, _⟩ := hBc.free
  have hA5 := hAc.set_other (p := w.heap.size + 1) (j := 2) (by omega) (.int .i64 a5)
  have hB5 : BBox (w5.setCell ⟨w.heap.size + 1, 2, none⟩ (.int .i64 a5)) (w.heap.size + 1) (.int .i64 (a1 : Int)) (.int .i64 (a2 : Int)) (.int .i64 a5) (.slice none 0 0) (.slice aoH hs.length capH) (.slice none 0 0) (.string { data := #[] }) := heap_setCell_same w5 (w.heap.size + 1) 2 _ _ (.int .i64 a5) hBc
  have r5 := rc.setCell (g := w.heap.size + 1) (j := 2) hlt (by omega) (.int .i64 a5)
  have HH5 : Hid (OwnH (w5.setCell ⟨w.heap.size + 1, 2, none⟩ (.int .i64 a5)) (w.heap.size + 2) (.slice aoH hs.length capH) hs) := ownsRow_setCell_below (ownsRow_keptT HH4.out (Rdd.kept r4.at_ hr5) (by decide)) (by show w.heap.size + 1 < _; omega) _
  clear hA4 hB4 r4 hr5 hAc hBc rc HH4
  go_wp2_with fail
  clear c f
  refine (rd_two_any (Sg.dr 8 s4) b _ r5.at_).mono ?_
  rintro e w6 ⟨a6, rfl, ha6, hk6, hr6⟩
  have hA6 := hA5.rdd hr6 (by omega)
  have hB6 := hB5.rdd hr6 (by omega)
  have r6 := r5.trans hr6
  have HH6 : Hid (OwnH w6 (w.heap.size + 2) (.slice aoH hs.length capH) hs) := ownsRow_keptT HH5.out (Rdd.kept r5.at_ hr6) (by decide)
  clear hA5 hB5 r5 hr6 HH5
  go_wp2_with fail
  refine (readDrls_any (Sg.dr 2 (Sg.dr 8 s4)) a6 b _ r6.at_ (by omega)).mono ?_
  rintro e w7 ⟨vD, ds, rfl, HOD, hds, hr7⟩
  obtain ⟨aoD, capD, eD⟩ := HOD.out.len_
  subst eD
  have hAc := hA6.rdd hr7 (by omega)
  have hBc := hB6.rdd hr7 (by omega)
  have rc := r6.trans hr7
  obtain ⟨_, _, _, c, _, _, _⟩ := hBc.cells
  obtain ⟨_, _, _, f, _, _, _⟩ := hBc.free
  have hA7 := hAc.set_other (p := w.heap.size + 1) (j := 3) (by omega) (.slice aoD ds.length capD)
  have hB7 : BBox (w7.setCell ⟨w.heap.size + 1, 3, none⟩ (.slice aoD ds.length capD)) (w.heap.size + 1) (.int .i64 (a1 : Int)) (.int .i64 (a2 : Int)) (.int .i64 a5) (.slice aoD ds.length capD) (.slice aoH hs.length capH) (.slice none 0 0) (.string { data := #[] }) := heap_setCell_same w7 (w.heap.size + 1) 3 _ _ (.slice aoD ds.length capD) hBc
  have r7 := rc.setCell (g := w.heap.size + 1) (j := 3) hlt (by omega) (.slice aoD ds.length capD)
  have hl6 := hB6.lt
  have HH7 : Hid (OwnH (w7.setCell ⟨w.heap.size + 1, 3, none⟩ (.slice aoD ds.length capD)) (w.heap.size + 2) (.slice aoH hs.length capH) hs) := ownsRow_setCell_below (ownsRow_keptT HH6.out (Rdd.kept r6.at_ hr7) (by decide)) (by show w.heap.size + 1 < _; omega) _
  have HD7 : Hid (OwnDrls (w7.setCell ⟨w.heap.size + 1, 3, none⟩ (.slice aoD ds.length capD)) (w.heap.size + 2) (.slice aoD ds.length capD) ds) := ownsRow_setCell_below (ownsRow_mono HOD.out (by omega)) (by show w.heap.size + 1 < _; omega) _
  obtain ⟨s7, hs7⟩ : ∃ s7, (Sg.pdMany Sg.pdDrl a6 (Sg.dr 2 (Sg.dr 8 s4))).2 = s7 := ⟨_, rfl⟩
  rw [hs7] at r7
  clear hA6 hB6 r6 hr7 hAc hBc rc hl6 HH6 HOD
  go_wp2_with fail
  clear c f
  refine (readSums_any s7 2 b _ r7.at_ (by omega)).mono ?_
  rintro e w8 ⟨vP, ps, rfl, HOP, hps, hr8⟩
  obtain ⟨aoP, capP, eP⟩ := HOP.out.len_
  subst eP
  have hAc := hA7.rdd hr8 (by omega)
  have hBc := hB7.rdd hr8 (by omega)
  have rc := r7.trans hr8
  obtain ⟨_, _, _, _, _, c, _⟩ := hBc.cells
  obtain ⟨_, _, _, _, _, f, _⟩ := hBc.free
  have hA8 := hAc.set_other (p := w.heap.size + 1) (j := 5) (by omega) (.slice aoP ps.length capP)
  have hB8 : BBox (w8.setCell ⟨w.heap.size + 1, 5, none⟩ (.slice aoP ps.length capP)) (w.heap.size + 1) (.int .i64 (a1 : Int)) (.int .i64 (a2 : Int)) (.int .i64 a5) (.slice aoD ds.length capD) (.slice aoH hs.length capH) (.slice aoP ps.length capP) (.string { data := #[] }) := heap_setCell_same w8 (w.heap.size + 1) 5 _ _ (.slice aoP ps.length capP) hBc
  have r8 := rc.setCell (g := w.heap.size + 1) (j := 5) hlt (by omega) (.slice aoP ps.length capP)
  have hl7 := hB7.lt
  have HH8 : Hid (OwnH (w8.setCell ⟨w.heap.size + 1, 5, none⟩ (.slice aoP ps.length capP)) (w.heap.size + 2) (.slice aoH hs.length capH) hs) := ownsRow_setCell_below (ownsRow_keptT HH7.out (Rdd.kept r7.at_ hr8) (by decide)) (by show w.heap.size + 1 < _; omega) _
  have HD8 : Hid (OwnDrls (w8.setCell ⟨w.heap.size + 1, 5, none⟩ (.slice aoP ps.length capP)) (w.heap.size + 2) (.slice aoD ds.length capD) ds) := ownsRow_setCell_below (ownsRow_keptT HD7.out (Rdd.kept r7.at_ hr8) (by decide)) (by show w.heap.size + 1 < _; omega) _
  have HP8 : Hid (OwnStrs (w8.setCell ⟨w.heap.size + 1, 5, none⟩ (.slice aoP ps.length capP)) (w.heap.size + 2) (.slice aoP ps.length capP) ps) := ownsRow_setCell_below (ownsRow_mono HOP.out (by simp at hl7 ⊢; omega)) (by show w.heap.size + 1 < _; omega) _
  clear hA7 hB7 r7 hr8 hAc hBc rc hl7 HH7 HD7 HOP
  go_upto_region 8 with fail
  clear c f
  generalize w8.setCell ⟨w.heap.size + 1, 5, none⟩ (.slice aoP ps.length capP) = w9 at *
  obtain ⟨o0, o1, o2, o3, o4, o5, o6⟩ := hB8.cells
  have hQ := bstore_run hA8 (.int .i64 (a1 : Int)) (.int .i64 (a2 : Int)) (.int .i64 a5) (.slice aoD ds.length capD) (.slice aoH hs.length capH) (.slice aoP ps.length capP) (.string { data := #[] })
  obtain ⟨u1, u2, u3, u4, u5, u6, w10, ⟨m1, m2, m3⟩, ⟨m4, m5, m6⟩, ⟨m7, m8, m9⟩, ⟨n1, n2, n3⟩, ⟨n4, n5, n6⟩, ⟨n7, n8, n9⟩, ⟨p1, p2, p3⟩, hX, hBl, hoth⟩ := hQ
  have HO : Hid (BunOwn w10 w.heap.size (.slice aoD ds.length capD) (.slice aoH hs.length capH) (.slice aoP ps.length capP) ⟨a1, a2, hs, a5, ds, ps⟩) :=
    ⟨ownsRow_mono (ownsRow_offB HD8.out (by omega) hoth) (by omega), ownsRow_mono (ownsRow_offB HH8.out (by omega) hoth) (by omega), ownsRow_mono (ownsRow_offB HP8.out (by omega) hoth) (by omega)⟩
  have HR : Hid (Rdd w w10 b (Sg.pdMany Sg.pdSum 2 s7).2) := by
    have hz9 := hBl w.heap.size (Nat.le_refl _)
    exact r8.grownRow hlt (row := some w.heap.size) ⟨hz9.os, hz9.tape, hz9.output, hz9.size, fun k _ hk => hoth k (fun e => hk (by simp [e]))⟩ (fun k hk => by simp at hk; omega)
  have HN : Hid ((⟨a1, a2, hs, a5, ds, ps⟩ : Sg.Bun) = (Sg.pdBun s).1 ∧ (Sg.pdMany Sg.pdSum 2 s7).2 = (Sg.pdBun s).2) := by
    show _ ∧ _
    unfold Sg.pdBun Sg.pdHs Sg.pdDs
    simp only
    have h6 : a6 = Sg.pdTwo (Sg.dr 8 s4) := ha6.out
    rw [← ha1.out, ← ha2.out, ← ha3.out, hs4, ← ha5.out, ← h6, hs7, ← hhs.out, ← hds.out, ← hps.out]
    exact ⟨rfl, rfl⟩
  obtain ⟨q0, q1, q2, q3, q4, q5, q6⟩ := hX.cells
  clear hBl hoth hX r8 hA8 hB8 HH8 HD8 HP8 hs4 hs7
  go_wp2_with fail
  refine bodyPost_ret (v := .agg #[.int .i64 (a1 : Int), .int .i64 (a2 : Int), .int .i64 a5, .slice aoD ds.length capD, .slice aoH hs.length capH, .slice aoP ps.length capP, .string { data := #[] }]) (by simp [results, Tryz.results83, go_sem, q0, q1, q2, q3, q4, q5, q6]) rfl ⟨⟨a1, a2, hs, a5, ds, ps⟩, _, _, _, rfl, HN.out.1, HO, by rw [← HN.out.2]; exact HR.out⟩

set_option maxHeartbeats 1600000 in
/-- Bundle.isInBounds. -/
theorem isInBounds_any (per line nh nd : Nat) (tot : Value) (aoD aoH : Option Addr) (capD capH : Nat) (vP vS : Value) (w : World) (h1 : per < 256) (h2 : line < 256) (h3 : nh < 65536) (h4 : nd < 65536) :
    Calls Tryz.prog 84 #[.agg #[.int .i64 (per : Int), .int .i64 (line : Int), tot, .slice aoD nd capD, .slice aoH nh capH, vP, vS]] w fun e w' => e = .returned (.bool (decide (per ≤ 5 ∧ line ≤ 3 ∧ 1 ≤ nh ∧ nh ≤ 6 ∧ nd ≤ 72))) ∧ Below w.heap.size w w' := by
  have hb : Below w.heap.size w (w.alloc (.cells #[.int .i64 (per : Int), .int .i64 (line : Int), tot, .slice aoD nd capD, .slice aoH nh capH, vP, vS] 73)) := (Below.refl _ _).alloc (Nat.le_refl _) _
  by_cases a1 : per ≤ 5
  · have b1 : (per : Int) < 6 := by omega
    by_cases a2 : line ≤ 3
    · have b2 : (line : Int) < 4 := by omega
      by_cases a3 : 1 ≤ nh
      · have b3 : (1 : Int) ≤ (nh : Int) := by omega
        by_cases a4 : nh ≤ 6
        · have b4 : (nh : Int) ≤ 6 := by omega
          by_cases a5 : nd ≤ 72
          · have b5 : (nd : Int) ≤ 72 := by omega
            go_enter Tryz.func84, Tryz.ntmps84
            go_wp2_with fail
            go_ret
            exact ⟨congrArg (fun c => Ending.returned (.bool c)) (decide_eq_true ⟨a1, a2, a3, a4, a5⟩).symm, hb⟩
          · have b5 : ¬ (nd : Int) ≤ 72 := by omega
            go_enter Tryz.func84, Tryz.ntmps84
            go_wp2_with fail
            go_ret
            exact ⟨rfl, hb⟩
        · have b4 : ¬ (nh : Int) ≤ 6 := by omega
          go_enter Tryz.func84, Tryz.ntmps84
          go_wp2_with fail
          go_ret
          exact ⟨rfl, hb⟩
      · have b3 : ¬ (1 : Int) ≤ (nh : Int) := by omega
        go_enter Tryz.func84, Tryz.ntmps84
        go_wp2_with fail
        go_ret
        exact ⟨rfl, hb⟩
    · have b2 : ¬ (line : Int) < 4 := by omega
      go_enter Tryz.func84, Tryz.ntmps84
      go_wp2_with fail
      go_ret
      exact ⟨rfl, hb⟩
  · have b1 : ¬ (per : Int) < 6 := by omega
    go_enter Tryz.func84, Tryz.ntmps84
    go_wp2_with fail
    go_ret
    exact ⟨rfl, hb⟩

set_option maxHeartbeats 1600000 in
/-- Reader.IsThrough. -/
theorem isThrough_any (s : Sg.Rs) (b : Nat) (w : World) (hR : RdAt w b s) :
    Calls Tryz.prog 85 #[.pointer (some ⟨b, 0, none⟩)] w fun e w' => e = .returned (.bool (decide (s.1 = [] ∧ s.2 = false))) ∧ w = w' := by
  obtain ⟨l, f⟩ := s
  have hc := hR.cell
  have hf := hR.flag
  simp only at hc hf
  clear hR
  cases l with
  | nil =>
    have e0 : Sg.ofL [] = ({ data := #[] } : ByteArray) := rfl
    rw [e0] at hc
    clear e0
    cases f with
    | true =>
      go_enter Tryz.func85, Tryz.ntmps85
      go_wp2_with fail
      go_ret
      exact ⟨rfl, rfl⟩
    | false =>
      go_enter Tryz.func85, Tryz.ntmps85
      go_wp2_with fail
      go_ret
      exact ⟨rfl, rfl⟩
  | cons x l =>
    have hn : ((Sg.ofL (x :: l)).toList == []) = false := by
      rw [ByteArray.toList_eq]
      rfl
    obtain ⟨t, ht⟩ : ∃ t, Sg.ofL (x :: l) = t := ⟨_, rfl⟩
    rw [ht] at hc hn
    clear ht
    go_enter Tryz.func85, Tryz.ntmps85
    go_wp2_with fail
    go_ret
    exact ⟨congrArg (fun c => Ending.returned (.bool c)) (decide_eq_false (fun h => by cases h.1)).symm, rfl⟩
end Go.Proofs.YtpkkhkkkgjhkeabGreat

/-
  THE WALK of bundle.Read (P10: the form).
-/
namespace Go.Proofs.YtpkkhkkkgjhkeabGreat
open Go.RowKit
set_option maxRecDepth 100000
attribute [local go_sem ↓] Go.wp_at_zero Go.wp_at_succ

abbrev zBun : Value := .agg #[.int .i64 0, .int .i64 0, .int .i64 0, .slice none 0 0, .slice none 0 0, .slice none 0 0, .string { data := #[] }]
/-- A bundle as it is handed on. -/
abbrev bunV (n : Sg.Bun) (vD vH vP : Value) (hd : ByteArray) : Value := .agg #[.int .i64 (n.per : Int), .int .i64 (n.line : Int), .int .i64 n.total, vD, vH, vP, .string hd]
theorem Sg.pdBun_small (s : Sg.Rs) : (Sg.pdBun s).1.per < 256 ∧ (Sg.pdBun s).1.line < 256 ∧ (Sg.pdBun s).1.hdrs.length < 65536 ∧ (Sg.pdBun s).1.drls.length < 65536 := by
  unfold Sg.pdBun
  refine ⟨Sg.pdOne_lt _, Sg.pdOne_lt _, ?_, ?_⟩
  · show (Sg.pdHs _).1.length < _
    unfold Sg.pdHs
    have h1 := Sg.pdMany_len Sg.pdHdr (Sg.dr 1 (Sg.dr 1 (Sg.dr 1 s))) (Sg.pdOne (Sg.dr 1 (Sg.dr 1 s)))
    have h2 := Sg.pdOne_lt (Sg.dr 1 (Sg.dr 1 s))
    omega
  · show (Sg.pdDs _).1.length < _
    unfold Sg.pdDs
    generalize Sg.dr 8 _ = q
    have h1 := Sg.pdMany_len Sg.pdDrl (Sg.dr 2 q) (Sg.pdTwo q)
    have h2 : Sg.pdTwo q < 256 ^ 2 := Sg.numL_lt _ 2 (by simp; omega)
    omega

set_option maxHeartbeats 6400000 in
/-- bundle.Read. -/
theorem bunRead_any (t hd : ByteArray) (w : World) :
    Calls Tryz.prog 48 #[.string t, .string hd] w fun e w' => Below w.heap.size w w' ∧
      ((Sg.formL (Sg.tx t) = false ∧ e = .returned (.tuple #[zBun, .int .i64 5])) ∨
       (Sg.formL (Sg.tx t) = true ∧ ∃ vD vH vP, e = .returned (.tuple #[bunV (Sg.bunL (Sg.tx t)) vD vH vP hd, .int .i64 0]) ∧ BunOwn w' w.heap.size vD vH vP (Sg.bunL (Sg.tx t)))) := by
  obtain ⟨hsm1, hsm2, hsm3, hsm4⟩ := Sg.pdBun_small (Sg.tx t, false)
  obtain ⟨hform, hbun⟩ := Sg.pdOk_form (Sg.tx t)
  unfold Sg.pdOk at hform
  obtain ⟨n, hn⟩ : ∃ n, (Sg.pdBun (Sg.tx t, false)).1 = n := ⟨_, rfl⟩
  obtain ⟨s', hs'⟩ : ∃ s', (Sg.pdBun (Sg.tx t, false)).2 = s' := ⟨_, rfl⟩
  have HNS : Hid ((Sg.pdBun (Sg.tx t, false)).1 = n ∧ (Sg.pdBun (Sg.tx t, false)).2 = s') := ⟨hn, hs'⟩
  rw [hn] at hsm1 hsm2 hsm3 hsm4 hform hbun
  rw [hs'] at hform
  clear hn hs'
  have HF : Hid (decide (n.per ≤ 5 ∧ n.line ≤ 3 ∧ 1 ≤ n.hdrs.length ∧ n.hdrs.length ≤ 6 ∧ n.drls.length ≤ 72 ∧ s'.1 = [] ∧ s'.2 = false) = Sg.formL (Sg.tx t) ∧ (Sg.formL (Sg.tx t) = true → n = Sg.bunL (Sg.tx t))) := ⟨hform, hbun⟩
  clear hform hbun
  have hA0 := BBox.new w (.int .i64 0) (.int .i64 0) (.int .i64 0) (.slice none 0 0) (.slice none 0 0) (.slice none 0 0) (.string { data := #[] })
  have a0 : Below w.heap.size w (w.alloc (.cells #[.int .i64 0, .int .i64 0, .int .i64 0, .slice none 0 0, .slice none 0 0, .slice none 0 0, .string { data := #[] }] 73)) := (Below.refl _ _).alloc (Nat.le_refl _) _
  go_enter Tryz.func48, Tryz.ntmps48
  go_wp2_with fail
  refine (layRead_any t _).mono ?_
  rintro e w1 ⟨rfl, hR1, hb1, hz1⟩
  have hA1 := hA0.below hb1
  have b1 := a0.trans (hb1.mono a0.size)
  rw [World.size_alloc] at hR1 hz1
  rw [World.size_alloc]
  clear hA0 a0 hb1
  go_wp2_with fail
  refine (readBundle_any (Sg.tx t, false) (w.heap.size + 1) _ hR1).mono ?_
  rintro e w2 ⟨n', vD, vH, vP, rfl, hn', HO, hr2⟩
  have hA2 := hA1.rdd hr2 (by omega)
  have b2 : Below w.heap.size w w2 := b1.grown hr2.grown b1.size (fun k hk => by simp at hk; omega)
  have hR2 := hr2.at_
  have en : n' = n := by rw [hn'.out, HNS.out.1]
  subst en
  rw [HNS.out.2] at hR2
  have hz2 := hr2.size
  have HO2 : Hid (BunOwn w2 (w.heap.size + 1) vD vH vP n') := HO.out.mono (by omega)
  obtain ⟨aoD, capD, eD⟩ := HO2.out.drls.len_
  obtain ⟨aoH, capH, eH⟩ := HO2.out.hdrs.len_
  obtain ⟨aoP, capP, eP⟩ := HO2.out.path.len_
  subst eD eH eP
  obtain ⟨n, en⟩ : ∃ n, n = n' := ⟨_, rfl⟩
  subst en
  have aB : Below w2.heap.size w2 (w2.alloc (.cells #[.int .i64 (n.per : Int), .int .i64 (n.line : Int), .int .i64 n.total, .slice aoD n.drls.length capD, .slice aoH n.hdrs.length capH, .slice aoP n.path.length capP, .string { data := #[] }] 73)) := (Below.refl _ _).alloc (Nat.le_refl _) _
  have hA3 := hA2.below aB
  have hB3 := BBox.new w2 (.int .i64 (n.per : Int)) (.int .i64 (n.line : Int)) (.int .i64 n.total) (.slice aoD n.drls.length capD) (.slice aoH n.hdrs.length capH) (.slice aoP n.path.length capP) (.string { data := #[] })
  have b3 := b2.trans (aB.mono b2.size)
  have hR3 : RdAt (w2.alloc (.cells #[.int .i64 (n.per : Int), .int .i64 (n.line : Int), .int .i64 n.total, .slice aoD n.drls.length capD, .slice aoH n.hdrs.length capH, .slice aoP n.path.length capP, .string { data := #[] }] 73)) (w.heap.size + 1) s' := (aB.block _ (lt_of_block hR2)).trans hR2
  have HO3 : Hid (BunOwn (w2.alloc (.cells #[.int .i64 (n.per : Int), .int .i64 (n.line : Int), .int .i64 n.total, .slice aoD n.drls.length capD, .slice aoH n.hdrs.length capH, .slice aoP n.path.length capP, .string { data := #[] }] 73)) (w.heap.size + 1) (.slice aoD n.drls.length capD) (.slice aoH n.hdrs.length capH) (.slice aoP n.path.length capP) n) := HO2.out.below aB
  have hl2 := lt_of_block hA2
  clear hA1 b1 hr2 hR1 hR2 HO HO2 hn' HNS aB b2 hA2 hz1
  go_wp2_with fail
  refine (isInBounds_any n.per n.line n.hdrs.length n.drls.length _ aoD aoH capD capH _ _ _ hsm1 hsm2 hsm3 hsm4).mono ?_
  rintro e w4 ⟨rfl, hb4⟩
  have hA4 := hA3.below hb4
  have hB4 := hB3.below hb4
  have b4 := b3.trans (hb4.mono b3.size)
  have hR4 : RdAt w4 (w.heap.size + 1) s' := (hb4.block _ (lt_of_block hR3)).trans hR3
  have HO4 : Hid (BunOwn w4 (w.heap.size + 1) (.slice aoD n.drls.length capD) (.slice aoH n.hdrs.length capH) (.slice aoP n.path.length capP) n) := HO3.out.below hb4
  clear hA3 hB3 b3 hR3 HO3 hb4
  by_cases c1 : n.per ≤ 5 ∧ n.line ≤ 3 ∧ 1 ≤ n.hdrs.length ∧ n.hdrs.length ≤ 6 ∧ n.drls.length ≤ 72
  · rw [decide_eq_true c1]
    have HC1 : Hid (n.per ≤ 5 ∧ n.line ≤ 3 ∧ 1 ≤ n.hdrs.length ∧ n.hdrs.length ≤ 6 ∧ n.drls.length ≤ 72) := c1
    clear c1
    go_wp2_with fail
    refine (isThrough_any s' (w.heap.size + 1) _ hR4).mono ?_
    rintro e w5 ⟨rfl, rfl⟩
    by_cases c2 : s'.1 = [] ∧ s'.2 = false
    · rw [decide_eq_true c2]
      have HY : Hid (Sg.formL (Sg.tx t) = true ∧ Sg.bunL (Sg.tx t) = n) := by
        have hf : Sg.formL (Sg.tx t) = true := by
          rw [← HF.out.1, decide_eq_true_eq]
          obtain ⟨k1, k2, k3, k4, k5⟩ := HC1.out
          exact ⟨k1, k2, k3, k4, k5, c2.1, c2.2⟩
        exact ⟨hf, (HF.out.2 hf).symm⟩
      clear c2 hR4
      obtain ⟨_, _, _, _, _, _, c6⟩ := hB4.cells
      obtain ⟨_, _, _, _, _, _, f6⟩ := hB4.free
      have hB5 : BBox (w4.setCell ⟨w2.heap.size, 6, none⟩ (.string hd)) w2.heap.size (.int .i64 (n.per : Int)) (.int .i64 (n.line : Int)) (.int .i64 n.total) (.slice aoD n.drls.length capD) (.slice aoH n.hdrs.length capH) (.slice aoP n.path.length capP) (.string hd) := heap_setCell_same w4 w2.heap.size 6 _ _ (.string hd) hB4
      have hA5 := hA4.set_other (p := w2.heap.size) (j := 6) (by omega) (.string hd)
      have b5 := b4.setCell (p := ⟨w2.heap.size, 6, none⟩) (show w.heap.size ≤ w2.heap.size by omega) (.string hd)
      have HO5 : Hid (BunOwn (w4.setCell ⟨w2.heap.size, 6, none⟩ (.string hd)) (w.heap.size + 1) (.slice aoD n.drls.length capD) (.slice aoH n.hdrs.length capH) (.slice aoP n.path.length capP) n) := by
        have k := keptT_setCell (j := 6) (u := .string hd) hB4
        exact ⟨ownsRow_keptT HO4.out.drls k (by decide), ownsRow_keptT HO4.out.hdrs k (by decide), ownsRow_keptT HO4.out.path k (by decide)⟩
      clear hA4 hB4 b4 HO4
      go_upto_region 6 with fail
      clear c6 f6
      generalize w4.setCell ⟨w2.heap.size, 6, none⟩ (.string hd) = w9 at *
      obtain ⟨o0, o1, o2, o3, o4, o5, o6⟩ := hB5.cells
      have hQ := bstore_run hA5 (.int .i64 (n.per : Int)) (.int .i64 (n.line : Int)) (.int .i64 n.total) (.slice aoD n.drls.length capD) (.slice aoH n.hdrs.length capH) (.slice aoP n.path.length capP) (.string hd)
      obtain ⟨u1, u2, u3, u4, u5, u6, w10, ⟨m1, m2, m3⟩, ⟨m4, m5, m6⟩, ⟨m7, m8, m9⟩, ⟨n1, n2, n3⟩, ⟨n4, n5, n6⟩, ⟨n7, n8, n9⟩, ⟨p1, p2, p3⟩, hX, hBl, hoth⟩ := hQ
      have HB : Hid (Below w.heap.size w w10) := b5.trans (hBl _ (Nat.le_refl _))
      have HO : Hid (BunOwn w10 w.heap.size (.slice aoD n.drls.length capD) (.slice aoH n.hdrs.length capH) (.slice aoP n.path.length capP) n) :=
        ⟨ownsRow_mono (ownsRow_offB HO5.out.drls (by omega) hoth) (by omega), ownsRow_mono (ownsRow_offB HO5.out.hdrs (by omega) hoth) (by omega), ownsRow_mono (ownsRow_offB HO5.out.path (by omega) hoth) (by omega)⟩
      obtain ⟨q0, q1, q2, q3, q4, q5, q6⟩ := hX.cells
      clear hBl hoth hX hA5 hB5 b5 HO5
      go_wp2_with fail
      refine bodyPost_ret (v := .tuple #[.agg #[.int .i64 (n.per : Int), .int .i64 (n.line : Int), .int .i64 n.total, .slice aoD n.drls.length capD, .slice aoH n.hdrs.length capH, .slice aoP n.path.length capP, .string hd], .int .i64 0]) (by simp [results, Tryz.results48, go_sem, q0, q1, q2, q3, q4, q5, q6]) rfl ⟨HB.out, Or.inr ⟨HY.out.1, _, _, _, by rw [HY.out.2], by rw [HY.out.2]; exact HO.out⟩⟩
    · rw [decide_eq_false c2]
      have HN : Hid (Sg.formL (Sg.tx t) = false) := by
        show _ = _
        rw [← HF.out.1, decide_eq_false_iff_not]
        exact fun h => c2 ⟨h.2.2.2.2.2.1, h.2.2.2.2.2.2⟩
      clear c2 hR4
      have hQ := bstore_run hA4 (.int .i64 0) (.int .i64 0) (.int .i64 0) (.slice none 0 0) (.slice none 0 0) (.slice none 0 0) (.string { data := #[] })
      obtain ⟨u1, u2, u3, u4, u5, u6, w10, ⟨m1, m2, m3⟩, ⟨m4, m5, m6⟩, ⟨m7, m8, m9⟩, ⟨n1, n2, n3⟩, ⟨n4, n5, n6⟩, ⟨n7, n8, n9⟩, ⟨p1, p2, p3⟩, hX, hBl, hoth⟩ := hQ
      have HB : Hid (Below w.heap.size w w10) := b4.trans (hBl _ (Nat.le_refl _))
      obtain ⟨q0, q1, q2, q3, q4, q5, q6⟩ := hX.cells
      clear hBl hoth hX hA4
      go_wp2_with fail
      refine bodyPost_ret (v := .tuple #[.agg #[.int .i64 0, .int .i64 0, .int .i64 0, .slice none 0 0, .slice none 0 0, .slice none 0 0, .string { data := #[] }], .int .i64 5]) (by simp [results, Tryz.results48, go_sem, q0, q1, q2, q3, q4, q5, q6]) rfl ⟨HB.out, Or.inl ⟨HN.out, rfl⟩⟩
  · rw [decide_eq_false c1]
    have HN : Hid (Sg.formL (Sg.tx t) = false) := by
      show _ = _
      rw [← HF.out.1, decide_eq_false_iff_not]
      exact fun h => c1 ⟨h.1, h.2.1, h.2.2.1, h.2.2.2.1, h.2.2.2.2.1⟩
    clear c1 hR4
    have hQ := bstore_run hA4 (.int .i64 0) (.int .i64 0) (.int .i64 0) (.slice none 0 0) (.slice none 0 0) (.slice none 0 0) (.string { data := #[] })
    obtain ⟨u1, u2, u3, u4, u5, u6, w10, ⟨m1, m2, m3⟩, ⟨m4, m5, m6⟩, ⟨m7, m8, m9⟩, ⟨n1, n2, n3⟩, ⟨n4, n5, n6⟩, ⟨n7, n8, n9⟩, ⟨p1, p2, p3⟩, hX, hBl, hoth⟩ := hQ
    have HB : Hid (Below w.heap.size w w10) := b4.trans (hBl _ (Nat.le_refl _))
    obtain ⟨q0, q1, q2, q3, q4, q5, q6⟩ := hX.cells
    clear hBl hoth hX hA4
    go_wp2_with fail
    refine bodyPost_ret (v := .tuple #[.agg #[.int .i64 0, .int .i64 0, .int .i64 0, .slice none 0 0, .slice none 0 0, .slice none 0 0, .string { data := #[] }], .int .i64 5]) (by simp [results, Tryz.results48, go_sem, q0, q1, q2, q3, q4, q5, q6]) rfl ⟨HB.out, Or.inl ⟨HN.out, rfl⟩⟩
end Go.Proofs.YtpkkhkkkgjhkeabGreat

/-
  THE WALKS of Bundle.isNumbered, isChained, leadsToHead (P10).
-/
namespace Go.Proofs.YtpkkhkkkgjhkeabGreat
open Go.RowKit
set_option maxRecDepth 100000
attribute [local go_sem ↓] Go.wp_at_zero Go.wp_at_succ

theorem Sg.hG_get {n : Sg.Bun} {k : Nat} (h : k < n.hdrs.length) : Sg.hG n k = n.hdrs[k] := by unfold Sg.hG; rw [List.getD_eq_getElem?_getD, List.getElem?_eq_getElem h]; rfl
theorem same_bytes {x y : ByteArray} (h : x.toList = y.toList) : x = y := by
  rw [ByteArray.toList_eq, ByteArray.toList_eq] at h
  exact Go.WideShapes.bytes_inj h
theorem ne_list {x y : ByteArray} (h : ¬ x = y) : (x.toList == y.toList) = false := by
  have : ¬ x.toList = y.toList := fun e => h (same_bytes e)
  simp [this]

set_option maxHeartbeats 3200000 in
/-- Bundle.isNumbered. -/
theorem isNumbered_any (n : Sg.Bun) (nh : Nat) (x1 x2 x3 x5 x6 : Value) (aoH : Option Addr) (capH : Nat) (w : World) (hper : n.per ≤ 5) (hn : n.hdrs.length = nh) (hnh : nh ≤ 6) (hH : HdrsIn w aoH n.hdrs) :
    Calls Tryz.prog 86 #[.agg #[.int .i64 (n.per : Int), x1, x2, x3, .slice aoH nh capH, x5, x6]] w fun e w' => e = .returned (.bool (Sg.numbered n)) ∧ Below w.heap.size w w' := by
  have hA := BBox.new w (.int .i64 (n.per : Int)) x1 x2 x3 (.slice aoH nh capH) x5 x6
  have aA : Below w.heap.size w (w.alloc (.cells #[.int .i64 (n.per : Int), x1, x2, x3, .slice aoH nh capH, x5, x6] 73)) := (Below.refl _ _).alloc (Nat.le_refl _) _
  have HN : Hid (n.hdrs.length = nh) := hn
  have HH : Hid (HdrsIn w aoH n.hdrs) := hH
  have HI0 : Hid ((∀ j, j < 0 → (Sg.hG n j).mark = Sg.headT ∧ (Sg.hG n j).num = ((n.per + j : Nat) : Int)) ∧ BBox (w.alloc (.cells #[.int .i64 (n.per : Int), x1, x2, x3, .slice aoH nh capH, x5, x6] 73)) w.heap.size (.int .i64 (n.per : Int)) x1 x2 x3 (.slice aoH nh capH) x5 x6 ∧ Below w.heap.size w (w.alloc (.cells #[.int .i64 (n.per : Int), x1, x2, x3, .slice aoH nh capH, x5, x6] 73))) := ⟨fun j hj => absurd hj (by omega), hA, aA⟩
  obtain ⟨r, hr⟩ : ∃ r, Sg.numbered n = r := ⟨_, rfl⟩
  have HR : Hid (Sg.numbered n = r) := hr
  rw [hr]
  clear hr hn hH hA aA
  obtain ⟨per, hp⟩ : ∃ per, n.per = per := ⟨_, rfl⟩
  rw [hp] at hper HI0 ⊢
  have HP : Hid (n.per = per) := hp
  clear hp
  go_enter Tryz.func86, Tryz.ntmps86
  go_wp2_with fail
  go_loopw [8] (fun i wr => ∃ k : Nat, k ≤ nh ∧ i = .int .i64 (k : Int) ∧ Hid ((∀ j, j < k → (Sg.hG n j).mark = Sg.headT ∧ (Sg.hG n j).num = ((per + j : Nat) : Int)) ∧ BBox wr w.heap.size (.int .i64 (per : Int)) x1 x2 x3 (.slice aoH nh capH) x5 x6 ∧ Below w.heap.size w wr)) (fun i _ => nh - (intOf i).toNat)
  case atStart => exact ⟨0, by omega, rfl, HI0⟩
  case round =>
    obtain ⟨k, hk, rfl, HI⟩ := hrel
    obtain ⟨wz, ewz⟩ : ∃ z : World, z = wr := ⟨_, rfl⟩
    subst ewz
    clear HI0
    obtain ⟨hall, hB, hbr⟩ := HI.out
    by_cases hlt : k < nh
    · have hka : k < n.hdrs.length := by rw [HN.out]; exact hlt
      obtain ⟨b, off, hao, hbw, hd⟩ := (HH.out.below hbr).cell (k := k) hka
      have hg := Sg.hG_get hka
      subst hao
      generalize n.hdrs[k] = h0 at *
      obtain ⟨mark, num, ahead, chart, ents, jour, stat, bals⟩ := h0
      obtain ⟨d0, d1, d2, d3, d4, d5, d6, d7⟩ := hd
      simp only at d0 d1 d2 d3 d4 d5 d6 d7
      have HG : Hid (Sg.hG n k = ⟨mark, num, ahead, chart, ents, jour, stat, bals⟩) := hg
      have i1 : (0 : Int) ≤ (k : Int) := by omega
      have i2 : (k : Int) < (nh : Int) := by omega
      have HAll : Hid (∀ j, j < k → (Sg.hG n j).mark = Sg.headT ∧ (Sg.hG n j).num = ((per + j : Nat) : Int)) := hall
      obtain ⟨c0, _, _, _, _, _, _⟩ := hB.cells
      have hBl := hB.lt
      have aN : Below wz.heap.size wz (wz.alloc (.cells #[.string mark, .int .i64 num, .string ahead, .string chart, .int .i64 ents, .string jour, .string stat, .string bals] 100)) := (Below.refl _ _).alloc (Nat.le_refl _) _
      have hBn := hB.below aN
      have bn := hbr.trans (aN.mono hbr.size)
      clear hg hall HI aN hB
      by_cases hm : mark = Sg.headT
      · unfold Sg.headT at hm
        subst hm
        by_cases hq : num = (per : Int) + (k : Int)
        · have q1 : (num == (per : Int) + (k : Int)) = true := by simp [hq]
          have HI2 : Hid ((∀ j, j < k + 1 → (Sg.hG n j).mark = Sg.headT ∧ (Sg.hG n j).num = ((per + j : Nat) : Int)) ∧ BBox (wz.alloc (.cells #[.string { data := #[72, 69, 65, 68] }, .int .i64 num, .string ahead, .string chart, .int .i64 ents, .string jour, .string stat, .string bals] 100)) w.heap.size (.int .i64 (per : Int)) x1 x2 x3 (.slice (some ⟨b, off, none⟩) nh capH) x5 x6 ∧ Below w.heap.size w (wz.alloc (.cells #[.string { data := #[72, 69, 65, 68] }, .int .i64 num, .string ahead, .string chart, .int .i64 ents, .string jour, .string stat, .string bals] 100))) := by
            refine ⟨fun j hj => ?_, hBn, bn⟩
            by_cases ej : j = k
            · subst ej; rw [HG.out]; exact ⟨rfl, by simp only; omega⟩
            · exact HAll.out j (by omega)
          clear hq hBn bn
          go_wp2_with fail
          go_roundw
          case rel => exact ⟨k + 1, by omega, by go_num, HI2⟩
          case measure => simp [intOf]; omega
        · have q1 : (num == (per : Int) + (k : Int)) = false := by simp [hq]
          have HF : Hid (r = false) := by
            show _ = _
            rw [← HR.out]
            unfold Sg.numbered
            rw [decide_eq_false_iff_not]
            intro h
            have := (h k hka).2
            rw [HG.out, HP.out] at this
            exact hq (by simp only at this; omega)
          clear hq
          go_wp2_with fail
          go_ret
          exact ⟨by simp [HF.out], bn⟩
      · have e1 := ne_list hm
        have e2 : (mark.toList == [72, 69, 65, 68]) = false := by rw [← e1, show Sg.headT.toList = [72, 69, 65, 68] from by rw [ByteArray.toList_eq]; rfl]
        have HF : Hid (r = false) := by
          show _ = _
          rw [← HR.out]
          unfold Sg.numbered
          rw [decide_eq_false_iff_not]
          intro h
          have := (h k hka).1
          rw [HG.out] at this
          exact hm this
        clear hm e1
        go_wp2_with fail
        go_ret
        exact ⟨by simp [HF.out], bn⟩
    · have HT : Hid (r = true) := by
        show _ = _
        rw [← HR.out]
        unfold Sg.numbered
        rw [decide_eq_true_eq, HN.out]
        intro j hj
        rw [HP.out]
        exact hall j (by omega)
      clear hall
      go_wp2_with fail
      go_ret
      exact ⟨by simp [HT.out], hbr⟩

theorem eq_list {x y : ByteArray} (h : x = y) : (x.toList == y.toList) = true := by rw [h]; simp
/-- What a look at two headers finds in memory. -/
theorem ten_drew {W : World} {g q b o : Nat} {x0 x1 x2 x3 x4 x5 x6 x7 x8 x9 : Value} (h : W.cell? ⟨g, 2, none⟩ = some x0 ∧ W.cell? ⟨q, 4, none⟩ = some x1 ∧ W.cell? ⟨b, o, none⟩ = some x2 ∧ W.cell? ⟨b, o + 1, none⟩ = some x3 ∧ W.cell? ⟨b, o + 2, none⟩ = some x4 ∧ W.cell? ⟨b, o + 3, none⟩ = some x5 ∧ W.cell? ⟨b, o + 4, none⟩ = some x6 ∧ W.cell? ⟨b, o + 5, none⟩ = some x7 ∧ W.cell? ⟨b, o + 6, none⟩ = some x8 ∧ W.cell? ⟨b, o + 7, none⟩ = some x9) :
    W.drew.cell? ⟨g, 2, none⟩ = some x0 ∧ W.drew.cell? ⟨q, 4, none⟩ = some x1 ∧ W.drew.cell? ⟨b, o, none⟩ = some x2 ∧ W.drew.cell? ⟨b, o + 1, none⟩ = some x3 ∧ W.drew.cell? ⟨b, o + 2, none⟩ = some x4 ∧ W.drew.cell? ⟨b, o + 3, none⟩ = some x5 ∧ W.drew.cell? ⟨b, o + 4, none⟩ = some x6 ∧ W.drew.cell? ⟨b, o + 5, none⟩ = some x7 ∧ W.drew.cell? ⟨b, o + 6, none⟩ = some x8 ∧ W.drew.cell? ⟨b, o + 7, none⟩ = some x9 := by
  simpa using h
theorem ten_call {W w' : World} {g q b o : Nat} {x0 x1 x2 x3 x4 x5 x6 x7 x8 x9 : Value} (h : W.cell? ⟨g, 2, none⟩ = some x0 ∧ W.cell? ⟨q, 4, none⟩ = some x1 ∧ W.cell? ⟨b, o, none⟩ = some x2 ∧ W.cell? ⟨b, o + 1, none⟩ = some x3 ∧ W.cell? ⟨b, o + 2, none⟩ = some x4 ∧ W.cell? ⟨b, o + 3, none⟩ = some x5 ∧ W.cell? ⟨b, o + 4, none⟩ = some x6 ∧ W.cell? ⟨b, o + 5, none⟩ = some x7 ∧ W.cell? ⟨b, o + 6, none⟩ = some x8 ∧ W.cell? ⟨b, o + 7, none⟩ = some x9)
    (hb : Below W.heap.size W w') (k1 : g < W.heap.size) (k2 : q < W.heap.size) (k3 : b < W.heap.size) :
    w'.cell? ⟨g, 2, none⟩ = some x0 ∧ w'.cell? ⟨q, 4, none⟩ = some x1 ∧ w'.cell? ⟨b, o, none⟩ = some x2 ∧ w'.cell? ⟨b, o + 1, none⟩ = some x3 ∧ w'.cell? ⟨b, o + 2, none⟩ = some x4 ∧ w'.cell? ⟨b, o + 3, none⟩ = some x5 ∧ w'.cell? ⟨b, o + 4, none⟩ = some x6 ∧ w'.cell? ⟨b, o + 5, none⟩ = some x7 ∧ w'.cell? ⟨b, o + 6, none⟩ = some x8 ∧ w'.cell? ⟨b, o + 7, none⟩ = some x9 := by
  rw [hb.cell (p := ⟨g, 2, none⟩) k1, hb.cell (p := ⟨q, 4, none⟩) k2, hb.cell (p := ⟨b, o, none⟩) k3, hb.cell (p := ⟨b, o + 1, none⟩) k3, hb.cell (p := ⟨b, o + 2, none⟩) k3, hb.cell (p := ⟨b, o + 3, none⟩) k3, hb.cell (p := ⟨b, o + 4, none⟩) k3, hb.cell (p := ⟨b, o + 5, none⟩) k3, hb.cell (p := ⟨b, o + 6, none⟩) k3, hb.cell (p := ⟨b, o + 7, none⟩) k3]
  exact h

set_option maxHeartbeats 3200000 in
theorem isChained_none (n : Sg.Bun) (x0 x1 x2 x3 x5 x6 : Value) (b off capH : Nat) (w : World) (hn : n.hdrs.length = 1) (hcap : 1 ≤ capH) :
    Calls Tryz.prog 87 #[.agg #[x0, x1, x2, x3, .slice (some ⟨b, off, none⟩) 1 capH, x5, x6]] w fun e w' => e = .returned (.bool (Sg.chained n)) ∧ Below w.heap.size w w' := by
  have aA : Below w.heap.size w (w.alloc (.cells #[x0, x1, x2, x3, .slice (some ⟨b, off, none⟩) 1 capH, x5, x6] 73)) := (Below.refl _ _).alloc (Nat.le_refl _) _
  have HT : Hid (Sg.chained n = true) := by
    show _ = _
    unfold Sg.chained
    rw [decide_eq_true_eq, hn]
    intro i hi
    omega
  clear hn
  have i1 : (1 : Int) ≤ (capH : Int) := by omega
  by_cases hc : capH = 1
  · subst hc
    go_enter Tryz.func87, Tryz.ntmps87
    go_wp2_with fail
    go_loopw [9] (fun i wr => i = .int .i64 0 ∧ Hid (Below w.heap.size w wr)) (fun _ _ => 0)
    case atStart => exact ⟨rfl, aA⟩
    case round =>
      obtain ⟨rfl, HB⟩ := hrel
      go_wp2_with fail
      go_ret
      exact ⟨by simp [HT.out], HB.out⟩
  · go_enter Tryz.func87, Tryz.ntmps87
    go_wp2_with fail
    go_loopw [9] (fun i wr => i = .int .i64 0 ∧ Hid (Below w.heap.size w wr)) (fun _ _ => 0)
    case atStart => exact ⟨rfl, aA⟩
    case round =>
      obtain ⟨rfl, HB⟩ := hrel
      go_wp2_with fail
      go_ret
      exact ⟨by simp [HT.out], HB.out⟩

set_option maxHeartbeats 6400000 in
theorem isChained_some (n : Sg.Bun) (nh : Nat) (x0 x1 x2 x3 x5 x6 : Value) (b off capH : Nat) (w : World) (hn : n.hdrs.length = nh) (hnh : nh ≤ 6) (h2 : 2 ≤ nh) (hcap : nh ≤ capH) (hc63 : capH ≤ 9223372036854775807) (hH : HdrsIn w (some ⟨b, off, none⟩) n.hdrs) (hsm : ∀ h ∈ n.hdrs, h.small) :
    Calls Tryz.prog 87 #[.agg #[x0, x1, x2, x3, .slice (some ⟨b, off, none⟩) nh capH, x5, x6]] w fun e w' => e = .returned (.bool (Sg.chained n)) ∧ Below w.heap.size w w' := by
  have hA := BBox.new w x0 x1 x2 x3 (.slice (some ⟨b, off, none⟩) nh capH) x5 x6
  have aA : Below w.heap.size w (w.alloc (.cells #[x0, x1, x2, x3, .slice (some ⟨b, off, none⟩) nh capH, x5, x6] 73)) := (Below.refl _ _).alloc (Nat.le_refl _) _
  have HN : Hid (n.hdrs.length = nh) := hn
  have HH : Hid (HdrsIn w (some ⟨b, off, none⟩) n.hdrs) := hH
  have HSM : Hid (∀ h ∈ n.hdrs, h.small) := hsm
  have HI0 : Hid ((∀ j, j < 0 → (Sg.hG n (j + 1)).ahead = Sg.sumB (Sg.hdrB (Sg.hG n j))) ∧ BBox (w.alloc (.cells #[x0, x1, x2, x3, .slice (some ⟨b, off, none⟩) nh capH, x5, x6] 73)) w.heap.size x0 x1 x2 x3 (.slice (some ⟨b, off, none⟩) nh capH) x5 x6 ∧ Below w.heap.size w (w.alloc (.cells #[x0, x1, x2, x3, .slice (some ⟨b, off, none⟩) nh capH, x5, x6] 73))) := ⟨fun j hj => absurd hj (by omega), hA, aA⟩
  obtain ⟨r, hr⟩ : ∃ r, Sg.chained n = r := ⟨_, rfl⟩
  have HR : Hid (Sg.chained n = r) := hr
  rw [hr]
  clear hr hn hH hA aA hsm
  have i1 : (1 : Int) ≤ (nh : Int) := by omega
  have i2 : (nh : Int) ≤ (capH : Int) := by omega
  have i3 : (1 : Int) ≤ (capH : Int) := by omega
  have hc : ¬ capH = 1 := by omega
  obtain ⟨m, hm⟩ : ∃ m, nh - 1 = m := ⟨_, rfl⟩
  go_enter Tryz.func87, Tryz.ntmps87
  go_wp2_with fail
  go_loopw [9] (fun i wr => ∃ k : Nat, k ≤ m ∧ i = .int .i64 (k : Int) ∧ Hid ((∀ j, j < k → (Sg.hG n (j + 1)).ahead = Sg.sumB (Sg.hdrB (Sg.hG n j))) ∧ BBox wr w.heap.size x0 x1 x2 x3 (.slice (some ⟨b, off, none⟩) nh capH) x5 x6 ∧ Below w.heap.size w wr)) (fun i _ => m - (intOf i).toNat)
  case atStart => exact ⟨0, by omega, rfl, HI0⟩
  case round =>
    obtain ⟨k, hk, rfl, HI⟩ := hrel
    obtain ⟨wz, ewz⟩ : ∃ z : World, z = wr := ⟨_, rfl⟩
    subst ewz
    clear HI0
    obtain ⟨hall, hB, hbr⟩ := HI.out
    by_cases hlt : k < m
    · have hka : k + 1 < n.hdrs.length := by rw [HN.out]; omega
      have hka0 : k < n.hdrs.length := by omega
      obtain ⟨b', off', hao, hbw, hd⟩ := (HH.out.below hbr).cell (k := k + 1) hka
      obtain ⟨b2, off2, hao2, _, hd2⟩ := (HH.out.below hbr).cell (k := k) hka0
      simp only [Option.some.injEq, Addr.mk.injEq, and_true] at hao hao2
      obtain ⟨rfl, rfl⟩ := hao
      obtain ⟨rfl, rfl⟩ := hao2
      have hg := Sg.hG_get hka
      have hg0 := Sg.hG_get hka0
      have hsum := fun W => hdrSum_any n.hdrs[k] W (HSM.out _ (List.getElem_mem hka0))
      generalize n.hdrs[k + 1] = h1 at *
      generalize n.hdrs[k] = h0 at *
      have eo : off + (k + 1) * 8 = off + 8 + k * 8 := by omega
      rw [eo] at hd
      obtain ⟨mark, num, ahead, chart, ents, jour, stat, bals⟩ := h1
      obtain ⟨d0, d1, d2, d3, d4, d5, d6, d7⟩ := hd
      obtain ⟨e0, e1, e2, e3, e4, e5, e6, e7⟩ := hd2
      have HG : Hid ((Sg.hG n (k + 1)).ahead = ahead ∧ Sg.hG n k = h0) := ⟨by rw [hg], hg0⟩
      obtain ⟨mark0, num0, ahead0, chart0, ents0, jour0, stat0, bals0⟩ := h0
      simp only at d0 d1 d2 d3 d4 d5 d6 d7 e0 e1 e2 e3 e4 e5 e6 e7 hsum
      have j1 : (0 : Int) ≤ (k : Int) := by omega
      have j2 : (k : Int) < (m : Int) := by omega
      have j3 : (k : Int) < (nh : Int) := by omega
      have HAll : Hid (∀ j, j < k → (Sg.hG n (j + 1)).ahead = Sg.sumB (Sg.hdrB (Sg.hG n j))) := hall
      obtain ⟨_, _, _, _, c4, _, _⟩ := hB.cells
      have hBl := hB.lt
      have aN : Below wz.heap.size wz (wz.alloc (.cells #[.string mark, .int .i64 num, .string ahead, .string chart, .int .i64 ents, .string jour, .string stat, .string bals] 100)) := (Below.refl _ _).alloc (Nat.le_refl _) _
      have hBn := hB.below aN
      have bn := hbr.trans (aN.mono hbr.size)
      have hS0 : (wz.alloc (.cells #[.string mark, .int .i64 num, .string ahead, .string chart, .int .i64 ents, .string jour, .string stat, .string bals] 100)).cell? ⟨wz.heap.size, 2, none⟩ = some (.string ahead) ∧ (wz.alloc (.cells #[.string mark, .int .i64 num, .string ahead, .string chart, .int .i64 ents, .string jour, .string stat, .string bals] 100)).cell? ⟨w.heap.size, 4, none⟩ = some (.slice (some ⟨b, off, none⟩) nh capH) ∧ (wz.alloc (.cells #[.string mark, .int .i64 num, .string ahead, .string chart, .int .i64 ents, .string jour, .string stat, .string bals] 100)).cell? ⟨b, off + k * 8, none⟩ = some (.string mark0) ∧ (wz.alloc (.cells #[.string mark, .int .i64 num, .string ahead, .string chart, .int .i64 ents, .string jour, .string stat, .string bals] 100)).cell? ⟨b, off + k * 8 + 1, none⟩ = some (.int .i64 num0) ∧ (wz.alloc (.cells #[.string mark, .int .i64 num, .string ahead, .string chart, .int .i64 ents, .string jour, .string stat, .string bals] 100)).cell? ⟨b, off + k * 8 + 2, none⟩ = some (.string ahead0) ∧ (wz.alloc (.cells #[.string mark, .int .i64 num, .string ahead, .string chart, .int .i64 ents, .string jour, .string stat, .string bals] 100)).cell? ⟨b, off + k * 8 + 3, none⟩ = some (.string chart0) ∧ (wz.alloc (.cells #[.string mark, .int .i64 num, .string ahead, .string chart, .int .i64 ents, .string jour, .string stat, .string bals] 100)).cell? ⟨b, off + k * 8 + 4, none⟩ = some (.int .i64 ents0) ∧ (wz.alloc (.cells #[.string mark, .int .i64 num, .string ahead, .string chart, .int .i64 ents, .string jour, .string stat, .string bals] 100)).cell? ⟨b, off + k * 8 + 5, none⟩ = some (.string jour0) ∧ (wz.alloc (.cells #[.string mark, .int .i64 num, .string ahead, .string chart, .int .i64 ents, .string jour, .string stat, .string bals] 100)).cell? ⟨b, off + k * 8 + 6, none⟩ = some (.string stat0) ∧ (wz.alloc (.cells #[.string mark, .int .i64 num, .string ahead, .string chart, .int .i64 ents, .string jour, .string stat, .string bals] 100)).cell? ⟨b, off + k * 8 + 7, none⟩ = some (.string bals0) := by
        refine ⟨?_, ?_, ?_, ?_, ?_, ?_, ?_, ?_, ?_, ?_⟩
        · exact (HBox.new wz ⟨mark, num, ahead, chart, ents, jour, stat, bals⟩).cells.2.2.1
        · exact (aN.cell (p := ⟨w.heap.size, 4, none⟩) hBl).trans c4
        · exact (aN.cell (p := ⟨b, off + k * 8, none⟩) hbw).trans e0
        · exact (aN.cell (p := ⟨b, off + k * 8 + 1, none⟩) hbw).trans e1
        · exact (aN.cell (p := ⟨b, off + k * 8 + 2, none⟩) hbw).trans e2
        · exact (aN.cell (p := ⟨b, off + k * 8 + 3, none⟩) hbw).trans e3
        · exact (aN.cell (p := ⟨b, off + k * 8 + 4, none⟩) hbw).trans e4
        · exact (aN.cell (p := ⟨b, off + k * 8 + 5, none⟩) hbw).trans e5
        · exact (aN.cell (p := ⟨b, off + k * 8 + 6, none⟩) hbw).trans e6
        · exact (aN.cell (p := ⟨b, off + k * 8 + 7, none⟩) hbw).trans e7
      have hzN : (wz.alloc (.cells #[.string mark, .int .i64 num, .string ahead, .string chart, .int .i64 ents, .string jour, .string stat, .string bals] 100)).heap.size = wz.heap.size + 1 := by simp
      clear hg hg0 hall HI aN hB eo e0 e1 e2 e3 e4 e5 e6 e7 c4
      by_cases heq : ahead = Sg.sumB (Sg.hdrB ⟨mark0, num0, ahead0, chart0, ents0, jour0, stat0, bals0⟩)
      · have HEQ : Hid (ahead = Sg.sumB (Sg.hdrB ⟨mark0, num0, ahead0, chart0, ents0, jour0, stat0, bals0⟩)) := heq
        have HAll2 : Hid (∀ j, j < k + 1 → (Sg.hG n (j + 1)).ahead = Sg.sumB (Sg.hdrB (Sg.hG n j))) := fun j hj => by
          by_cases ej : j = k
          · subst ej; rw [HG.out.1, HG.out.2, HEQ.out]
          · exact HAll.out j (by omega)
        clear heq
        go_upto_region 4 with fail
        clear d0 d1 d2 d3 d4 d5 d6 d7
        generalize (wz.alloc (.cells #[.string mark, .int .i64 num, .string ahead, .string chart, .int .i64 ents, .string jour, .string stat, .string bals] 100)) = W0 at *
        go_region_held3 (fun w' => w'.cell? ⟨wz.heap.size, 2, none⟩ = some (.string ahead) ∧ w'.cell? ⟨w.heap.size, 4, none⟩ = some (.slice (some ⟨b, off, none⟩) nh capH) ∧ w'.cell? ⟨b, off + k * 8, none⟩ = some (.string mark0) ∧ w'.cell? ⟨b, off + k * 8 + 1, none⟩ = some (.int .i64 num0) ∧ w'.cell? ⟨b, off + k * 8 + 2, none⟩ = some (.string ahead0) ∧ w'.cell? ⟨b, off + k * 8 + 3, none⟩ = some (.string chart0) ∧ w'.cell? ⟨b, off + k * 8 + 4, none⟩ = some (.int .i64 ents0) ∧ w'.cell? ⟨b, off + k * 8 + 5, none⟩ = some (.string jour0) ∧ w'.cell? ⟨b, off + k * 8 + 6, none⟩ = some (.string stat0) ∧ w'.cell? ⟨b, off + k * 8 + 7, none⟩ = some (.string bals0)) (first | with_reducible assumption | exact ten_drew hS0)
          (first | (go_at_call 37; refine (hsum _).mono ?_; rintro e w3 ⟨y3, rfl, hy3, hys3, hb3⟩; have hb3' : Below W0.heap.size W0 w3 := (by first | exact hb3 | exact ((Below.refl W0.heap.size W0).drew).trans hb3); have hh3 := ten_call hS0 hb3' (by omega) (by omega) (by omega); have hBe := hBn.below hb3'; have be := bn.trans (hb3'.mono bn.size); have hcmp : (ahead.toList == y3.toList) = true := eq_list (by rw [hy3.out]; exact HEQ.out)))
        have HI2 : Hid ((∀ j, j < k + 1 → (Sg.hG n (j + 1)).ahead = Sg.sumB (Sg.hdrB (Sg.hG n j))) ∧ BBox w3 w.heap.size x0 x1 x2 x3 (.slice (some ⟨b, off, none⟩) nh capH) x5 x6 ∧ Below w.heap.size w w3) := ⟨HAll2.out, hBe, be⟩
        clear hh3 hBe be hy3 hys3 hsum hS0 hBn bn
        go_wp2_with fail
        go_roundw
        case rel => exact ⟨k + 1, by omega, by go_num, HI2⟩
        case measure => simp [intOf]; omega
      · have HNE : Hid (¬ ahead = Sg.sumB (Sg.hdrB ⟨mark0, num0, ahead0, chart0, ents0, jour0, stat0, bals0⟩)) := heq
        have HF : Hid (r = false) := by
          show _ = _
          rw [← HR.out]
          unfold Sg.chained
          rw [decide_eq_false_iff_not]
          intro h
          have := h k (by rw [HN.out]; omega)
          rw [HG.out.1, HG.out.2] at this
          exact heq this
        clear heq
        go_upto_region 4 with fail
        clear d0 d1 d2 d3 d4 d5 d6 d7
        generalize (wz.alloc (.cells #[.string mark, .int .i64 num, .string ahead, .string chart, .int .i64 ents, .string jour, .string stat, .string bals] 100)) = W0 at *
        go_region_held3 (fun w' => w'.cell? ⟨wz.heap.size, 2, none⟩ = some (.string ahead) ∧ w'.cell? ⟨w.heap.size, 4, none⟩ = some (.slice (some ⟨b, off, none⟩) nh capH) ∧ w'.cell? ⟨b, off + k * 8, none⟩ = some (.string mark0) ∧ w'.cell? ⟨b, off + k * 8 + 1, none⟩ = some (.int .i64 num0) ∧ w'.cell? ⟨b, off + k * 8 + 2, none⟩ = some (.string ahead0) ∧ w'.cell? ⟨b, off + k * 8 + 3, none⟩ = some (.string chart0) ∧ w'.cell? ⟨b, off + k * 8 + 4, none⟩ = some (.int .i64 ents0) ∧ w'.cell? ⟨b, off + k * 8 + 5, none⟩ = some (.string jour0) ∧ w'.cell? ⟨b, off + k * 8 + 6, none⟩ = some (.string stat0) ∧ w'.cell? ⟨b, off + k * 8 + 7, none⟩ = some (.string bals0)) (first | with_reducible assumption | exact ten_drew hS0)
          (first | (go_at_call 37; refine (hsum _).mono ?_; rintro e w3 ⟨y3, rfl, hy3, hys3, hb3⟩; have hb3' : Below W0.heap.size W0 w3 := (by first | exact hb3 | exact ((Below.refl W0.heap.size W0).drew).trans hb3); have hh3 := ten_call hS0 hb3' (by omega) (by omega) (by omega); have be := bn.trans (hb3'.mono bn.size); have hcmp : (ahead.toList == y3.toList) = false := ne_list (by rw [hy3.out]; exact HNE.out)))
        have HB3 : Hid (Below w.heap.size w w3) := be
        clear hh3 be hy3 hys3 hsum hS0 hBn bn
        go_wp2_with fail
        go_ret
        exact ⟨by simp [HF.out], HB3.out⟩
    · have HT : Hid (r = true) := by
        show _ = _
        rw [← HR.out]
        unfold Sg.chained
        rw [decide_eq_true_eq, HN.out]
        intro j hj
        exact hall j (by omega)
      clear hall
      go_wp2_with fail
      go_ret
      exact ⟨by simp [HT.out], hbr⟩
end Go.Proofs.YtpkkhkkkgjhkeabGreat

/-
  THE WALKS of Bundle.leadsToHead, leadsToStatement, isTheTotal (P10).
-/
namespace Go.Proofs.YtpkkhkkkgjhkeabGreat
open Go.RowKit
set_option maxRecDepth 100000
attribute [local go_sem ↓] Go.wp_at_zero Go.wp_at_succ

theorem strsIn_below {w w' : World} {ao : Option Addr} {ss : List ByteArray} (h : StrsIn w ao ss) (hb : Below w.heap.size w w') : StrsIn w' ao ss := by
  rcases h with h0 | ⟨b, off, e, hbw, hat⟩
  · exact Or.inl h0
  · exact Or.inr ⟨b, off, e, Nat.lt_of_lt_of_le hbw hb.size, hat.below hb hbw⟩
theorem tin_drew {W : World} {q b o : Nat} {x0 x1 x2 x3 x4 x5 x6 x7 x8 x9 : Value} (h : W.cell? ⟨q, 4, none⟩ = some x0 ∧ W.cell? ⟨q, 6, none⟩ = some x1 ∧ W.cell? ⟨b, o, none⟩ = some x2 ∧ W.cell? ⟨b, o + 1, none⟩ = some x3 ∧ W.cell? ⟨b, o + 2, none⟩ = some x4 ∧ W.cell? ⟨b, o + 3, none⟩ = some x5 ∧ W.cell? ⟨b, o + 4, none⟩ = some x6 ∧ W.cell? ⟨b, o + 5, none⟩ = some x7 ∧ W.cell? ⟨b, o + 6, none⟩ = some x8 ∧ W.cell? ⟨b, o + 7, none⟩ = some x9) : W.drew.cell? ⟨q, 4, none⟩ = some x0 ∧ W.drew.cell? ⟨q, 6, none⟩ = some x1 ∧ W.drew.cell? ⟨b, o, none⟩ = some x2 ∧ W.drew.cell? ⟨b, o + 1, none⟩ = some x3 ∧ W.drew.cell? ⟨b, o + 2, none⟩ = some x4 ∧ W.drew.cell? ⟨b, o + 3, none⟩ = some x5 ∧ W.drew.cell? ⟨b, o + 4, none⟩ = some x6 ∧ W.drew.cell? ⟨b, o + 5, none⟩ = some x7 ∧ W.drew.cell? ⟨b, o + 6, none⟩ = some x8 ∧ W.drew.cell? ⟨b, o + 7, none⟩ = some x9 := by
  simpa using h
theorem tin_call {W w' : World} {q b o : Nat} {x0 x1 x2 x3 x4 x5 x6 x7 x8 x9 : Value} (h : W.cell? ⟨q, 4, none⟩ = some x0 ∧ W.cell? ⟨q, 6, none⟩ = some x1 ∧ W.cell? ⟨b, o, none⟩ = some x2 ∧ W.cell? ⟨b, o + 1, none⟩ = some x3 ∧ W.cell? ⟨b, o + 2, none⟩ = some x4 ∧ W.cell? ⟨b, o + 3, none⟩ = some x5 ∧ W.cell? ⟨b, o + 4, none⟩ = some x6 ∧ W.cell? ⟨b, o + 5, none⟩ = some x7 ∧ W.cell? ⟨b, o + 6, none⟩ = some x8 ∧ W.cell? ⟨b, o + 7, none⟩ = some x9) (hb : Below W.heap.size W w') (k2 : q < W.heap.size) (k3 : b < W.heap.size) : w'.cell? ⟨q, 4, none⟩ = some x0 ∧ w'.cell? ⟨q, 6, none⟩ = some x1 ∧ w'.cell? ⟨b, o, none⟩ = some x2 ∧ w'.cell? ⟨b, o + 1, none⟩ = some x3 ∧ w'.cell? ⟨b, o + 2, none⟩ = some x4 ∧ w'.cell? ⟨b, o + 3, none⟩ = some x5 ∧ w'.cell? ⟨b, o + 4, none⟩ = some x6 ∧ w'.cell? ⟨b, o + 5, none⟩ = some x7 ∧ w'.cell? ⟨b, o + 6, none⟩ = some x8 ∧ w'.cell? ⟨b, o + 7, none⟩ = some x9 := by
  rw [hb.cell (p := ⟨q, 4, none⟩) k2, hb.cell (p := ⟨q, 6, none⟩) k2, hb.cell (p := ⟨b, o, none⟩) k3, hb.cell (p := ⟨b, o + 1, none⟩) k3, hb.cell (p := ⟨b, o + 2, none⟩) k3, hb.cell (p := ⟨b, o + 3, none⟩) k3, hb.cell (p := ⟨b, o + 4, none⟩) k3, hb.cell (p := ⟨b, o + 5, none⟩) k3, hb.cell (p := ⟨b, o + 6, none⟩) k3, hb.cell (p := ⟨b, o + 7, none⟩) k3]
  exact h

set_option maxHeartbeats 3200000 in
/-- Bundle.leadsToHead. -/
theorem leadsToHead_any (n : Sg.Bun) (nh : Nat) (x0 x1 x2 x3 x5 : Value) (hd : ByteArray) (b off capH : Nat) (w : World) (hn : n.hdrs.length = nh) (hnh : 1 ≤ nh ∧ nh ≤ 6) (hH : HdrsIn w (some ⟨b, off, none⟩) n.hdrs) (hsm : ∀ h ∈ n.hdrs, h.small) :
    Calls Tryz.prog 88 #[.agg #[x0, x1, x2, x3, .slice (some ⟨b, off, none⟩) nh capH, x5, .string hd]] w fun e w' => e = .returned (.bool (Sg.leadsHead n hd)) ∧ Below w.heap.size w w' := by
  obtain ⟨k, hk⟩ : ∃ k, nh = k + 1 := ⟨nh - 1, by omega⟩
  have hka : k < n.hdrs.length := by omega
  have hA := BBox.new w x0 x1 x2 x3 (.slice (some ⟨b, off, none⟩) nh capH) x5 (.string hd)
  have aA : Below w.heap.size w (w.alloc (.cells #[x0, x1, x2, x3, .slice (some ⟨b, off, none⟩) nh capH, x5, .string hd] 73)) := (Below.refl _ _).alloc (Nat.le_refl _) _
  obtain ⟨b', off', hao, hbw, hdd⟩ := hH.cell (k := k) hka
  simp only [Option.some.injEq, Addr.mk.injEq, and_true] at hao
  obtain ⟨rfl, rfl⟩ := hao
  have hg := Sg.hG_get hka
  have hsum := fun W => hdrSum_any n.hdrs[k] W (hsm _ (List.getElem_mem hka))
  have HL : Hid (Sg.leadsHead n hd = decide (Sg.sumB (Sg.hdrB n.hdrs[k]) = hd)) := by
    show _ = _
    unfold Sg.leadsHead
    rw [hn, hk, Nat.add_sub_cancel, hg]
  rw [HL.out]
  generalize n.hdrs[k] = h0 at *
  obtain ⟨mark, num, ahead, chart, ents, jour, stat, bals⟩ := h0
  obtain ⟨e0, e1, e2, e3, e4, e5, e6, e7⟩ := hdd
  simp only at e0 e1 e2 e3 e4 e5 e6 e7 hsum
  obtain ⟨_, _, _, _, c4, _, c6⟩ := hA.cells
  have hS0 : (w.alloc (.cells #[x0, x1, x2, x3, .slice (some ⟨b, off, none⟩) nh capH, x5, .string hd] 73)).cell? ⟨w.heap.size, 4, none⟩ = some (.slice (some ⟨b, off, none⟩) nh capH) ∧ (w.alloc (.cells #[x0, x1, x2, x3, .slice (some ⟨b, off, none⟩) nh capH, x5, .string hd] 73)).cell? ⟨w.heap.size, 6, none⟩ = some (.string hd) ∧ (w.alloc (.cells #[x0, x1, x2, x3, .slice (some ⟨b, off, none⟩) nh capH, x5, .string hd] 73)).cell? ⟨b, off + k * 8, none⟩ = some (.string mark) ∧ (w.alloc (.cells #[x0, x1, x2, x3, .slice (some ⟨b, off, none⟩) nh capH, x5, .string hd] 73)).cell? ⟨b, off + k * 8 + 1, none⟩ = some (.int .i64 num) ∧ (w.alloc (.cells #[x0, x1, x2, x3, .slice (some ⟨b, off, none⟩) nh capH, x5, .string hd] 73)).cell? ⟨b, off + k * 8 + 2, none⟩ = some (.string ahead) ∧ (w.alloc (.cells #[x0, x1, x2, x3, .slice (some ⟨b, off, none⟩) nh capH, x5, .string hd] 73)).cell? ⟨b, off + k * 8 + 3, none⟩ = some (.string chart) ∧ (w.alloc (.cells #[x0, x1, x2, x3, .slice (some ⟨b, off, none⟩) nh capH, x5, .string hd] 73)).cell? ⟨b, off + k * 8 + 4, none⟩ = some (.int .i64 ents) ∧ (w.alloc (.cells #[x0, x1, x2, x3, .slice (some ⟨b, off, none⟩) nh capH, x5, .string hd] 73)).cell? ⟨b, off + k * 8 + 5, none⟩ = some (.string jour) ∧ (w.alloc (.cells #[x0, x1, x2, x3, .slice (some ⟨b, off, none⟩) nh capH, x5, .string hd] 73)).cell? ⟨b, off + k * 8 + 6, none⟩ = some (.string stat) ∧ (w.alloc (.cells #[x0, x1, x2, x3, .slice (some ⟨b, off, none⟩) nh capH, x5, .string hd] 73)).cell? ⟨b, off + k * 8 + 7, none⟩ = some (.string bals) := by
    refine ⟨c4, c6, ?_, ?_, ?_, ?_, ?_, ?_, ?_, ?_⟩
    · exact (aA.cell (p := ⟨b, off + k * 8, none⟩) hbw).trans e0
    · exact (aA.cell (p := ⟨b, off + k * 8 + 1, none⟩) hbw).trans e1
    · exact (aA.cell (p := ⟨b, off + k * 8 + 2, none⟩) hbw).trans e2
    · exact (aA.cell (p := ⟨b, off + k * 8 + 3, none⟩) hbw).trans e3
    · exact (aA.cell (p := ⟨b, off + k * 8 + 4, none⟩) hbw).trans e4
    · exact (aA.cell (p := ⟨b, off + k * 8 + 5, none⟩) hbw).trans e5
    · exact (aA.cell (p := ⟨b, off + k * 8 + 6, none⟩) hbw).trans e6
    · exact (aA.cell (p := ⟨b, off + k * 8 + 7, none⟩) hbw).trans e7
  have hwrp : IntKind.i64.wrap ((nh : Int) - 1) = (k : Int) := by rw [IntWalk.i64_in _ (by omega)]; omega
  have j1 : (0 : Int) ≤ (k : Int) := by omega
  have j3 : (k : Int) < (nh : Int) := by omega
  have hz : (w.alloc (.cells #[x0, x1, x2, x3, .slice (some ⟨b, off, none⟩) nh capH, x5, .string hd] 73)).heap.size = w.heap.size + 1 := by simp
  clear hn hk hka hH hsm hg HL e0 e1 e2 e3 e4 e5 e6 e7 c4 c6 hA
  by_cases heq : Sg.sumB (Sg.hdrB ⟨mark, num, ahead, chart, ents, jour, stat, bals⟩) = hd
  · rw [decide_eq_true heq]
    have HE : Hid (Sg.sumB (Sg.hdrB ⟨mark, num, ahead, chart, ents, jour, stat, bals⟩) = hd) := heq
    clear heq
    go_enter Tryz.func88, Tryz.ntmps88
    go_upto_region 1 with fail
    generalize (w.alloc (.cells #[x0, x1, x2, x3, .slice (some ⟨b, off, none⟩) nh capH, x5, .string hd] 73)) = W0 at *
    go_region_held3 (fun w' => w'.cell? ⟨w.heap.size, 4, none⟩ = some (.slice (some ⟨b, off, none⟩) nh capH) ∧ w'.cell? ⟨w.heap.size, 6, none⟩ = some (.string hd) ∧ w'.cell? ⟨b, off + k * 8, none⟩ = some (.string mark) ∧ w'.cell? ⟨b, off + k * 8 + 1, none⟩ = some (.int .i64 num) ∧ w'.cell? ⟨b, off + k * 8 + 2, none⟩ = some (.string ahead) ∧ w'.cell? ⟨b, off + k * 8 + 3, none⟩ = some (.string chart) ∧ w'.cell? ⟨b, off + k * 8 + 4, none⟩ = some (.int .i64 ents) ∧ w'.cell? ⟨b, off + k * 8 + 5, none⟩ = some (.string jour) ∧ w'.cell? ⟨b, off + k * 8 + 6, none⟩ = some (.string stat) ∧ w'.cell? ⟨b, off + k * 8 + 7, none⟩ = some (.string bals)) (first | with_reducible assumption | exact tin_drew hS0)
      (first | (go_at_call 37; refine (hsum _).mono ?_; rintro e w3 ⟨y3, rfl, hy3, hys3, hb3⟩; have hb3' : Below W0.heap.size W0 w3 := (by first | exact hb3 | exact ((Below.refl W0.heap.size W0).drew).trans hb3); have hh3 := tin_call hS0 hb3' (by omega) (by omega); have be := aA.trans (hb3'.mono aA.size); have hcmp : (y3.toList == hd.toList) = true := eq_list (by rw [hy3.out]; exact HE.out)))
    go_wp2_with fail
    go_ret
    exact ⟨rfl, be⟩
  · rw [decide_eq_false heq]
    have HE : Hid (¬ Sg.sumB (Sg.hdrB ⟨mark, num, ahead, chart, ents, jour, stat, bals⟩) = hd) := heq
    clear heq
    go_enter Tryz.func88, Tryz.ntmps88
    go_upto_region 1 with fail
    generalize (w.alloc (.cells #[x0, x1, x2, x3, .slice (some ⟨b, off, none⟩) nh capH, x5, .string hd] 73)) = W0 at *
    go_region_held3 (fun w' => w'.cell? ⟨w.heap.size, 4, none⟩ = some (.slice (some ⟨b, off, none⟩) nh capH) ∧ w'.cell? ⟨w.heap.size, 6, none⟩ = some (.string hd) ∧ w'.cell? ⟨b, off + k * 8, none⟩ = some (.string mark) ∧ w'.cell? ⟨b, off + k * 8 + 1, none⟩ = some (.int .i64 num) ∧ w'.cell? ⟨b, off + k * 8 + 2, none⟩ = some (.string ahead) ∧ w'.cell? ⟨b, off + k * 8 + 3, none⟩ = some (.string chart) ∧ w'.cell? ⟨b, off + k * 8 + 4, none⟩ = some (.int .i64 ents) ∧ w'.cell? ⟨b, off + k * 8 + 5, none⟩ = some (.string jour) ∧ w'.cell? ⟨b, off + k * 8 + 6, none⟩ = some (.string stat) ∧ w'.cell? ⟨b, off + k * 8 + 7, none⟩ = some (.string bals)) (first | with_reducible assumption | exact tin_drew hS0)
      (first | (go_at_call 37; refine (hsum _).mono ?_; rintro e w3 ⟨y3, rfl, hy3, hys3, hb3⟩; have hb3' : Below W0.heap.size W0 w3 := (by first | exact hb3 | exact ((Below.refl W0.heap.size W0).drew).trans hb3); have hh3 := tin_call hS0 hb3' (by omega) (by omega); have be := aA.trans (hb3'.mono aA.size); have hcmp : (y3.toList == hd.toList) = false := ne_list (by rw [hy3.out]; exact HE.out)))
    go_wp2_with fail
    go_ret
    exact ⟨rfl, be⟩


theorem six_drew {W : World} {q : Nat} {x0 x1 x2 x3 x4 x5 : Value} (h : W.cell? ⟨q, 0, none⟩ = some x0 ∧ W.cell? ⟨q, 1, none⟩ = some x1 ∧ W.cell? ⟨q, 2, none⟩ = some x2 ∧ W.cell? ⟨q, 3, none⟩ = some x3 ∧ W.cell? ⟨q, 4, none⟩ = some x4 ∧ W.cell? ⟨q, 5, none⟩ = some x5) : W.drew.cell? ⟨q, 0, none⟩ = some x0 ∧ W.drew.cell? ⟨q, 1, none⟩ = some x1 ∧ W.drew.cell? ⟨q, 2, none⟩ = some x2 ∧ W.drew.cell? ⟨q, 3, none⟩ = some x3 ∧ W.drew.cell? ⟨q, 4, none⟩ = some x4 ∧ W.drew.cell? ⟨q, 5, none⟩ = some x5 := by
  simpa using h
theorem six_call {W w' : World} {q : Nat} {x0 x1 x2 x3 x4 x5 : Value} (h : W.cell? ⟨q, 0, none⟩ = some x0 ∧ W.cell? ⟨q, 1, none⟩ = some x1 ∧ W.cell? ⟨q, 2, none⟩ = some x2 ∧ W.cell? ⟨q, 3, none⟩ = some x3 ∧ W.cell? ⟨q, 4, none⟩ = some x4 ∧ W.cell? ⟨q, 5, none⟩ = some x5) (hb : Below W.heap.size W w') (k2 : q < W.heap.size) : w'.cell? ⟨q, 0, none⟩ = some x0 ∧ w'.cell? ⟨q, 1, none⟩ = some x1 ∧ w'.cell? ⟨q, 2, none⟩ = some x2 ∧ w'.cell? ⟨q, 3, none⟩ = some x3 ∧ w'.cell? ⟨q, 4, none⟩ = some x4 ∧ w'.cell? ⟨q, 5, none⟩ = some x5 := by
  rw [hb.cell (p := ⟨q, 0, none⟩) k2, hb.cell (p := ⟨q, 1, none⟩) k2, hb.cell (p := ⟨q, 2, none⟩) k2, hb.cell (p := ⟨q, 3, none⟩) k2, hb.cell (p := ⟨q, 4, none⟩) k2, hb.cell (p := ⟨q, 5, none⟩) k2]
  exact h
set_option maxHeartbeats 6400000 in
/-- Bundle.leadsToStatement. -/
theorem leadsToStatement_any (n : Sg.Bun) (per tot : Int) (line nd nh : Nat) (x6 : Value) (aoD aoP : Option Addr) (b off capD capH capP : Nat) (w : World) (hf : n.Fine) (hln : n.line = line) (ht : n.total = tot) (hnd : n.drls.length = nd) (hn : n.hdrs.length = nh) (hD : DrlsIn w aoD n.drls) (hH : HdrsIn w (some ⟨b, off, none⟩) n.hdrs) (hP : StrsIn w aoP n.path) (hcP : 2 ≤ capP ∧ capP ≤ 9223372036854775807) :
    Calls Tryz.prog 89 #[.agg #[.int .i64 per, .int .i64 (line : Int), .int .i64 tot, .slice aoD nd capD, .slice (some ⟨b, off, none⟩) nh capH, .slice aoP 2 capP, x6]] w fun e w' => e = .returned (.bool (Sg.leadsStmt n)) ∧ Below w.heap.size w w' := by
  have hA := BBox.new w (.int .i64 per) (.int .i64 (line : Int)) (.int .i64 tot) (.slice aoD nd capD) (.slice (some ⟨b, off, none⟩) nh capH) (.slice aoP 2 capP) x6
  have aA : Below w.heap.size w (w.alloc (.cells #[.int .i64 per, .int .i64 (line : Int), .int .i64 tot, .slice aoD nd capD, .slice (some ⟨b, off, none⟩) nh capH, .slice aoP 2 capP, x6] 73)) := (Below.refl _ _).alloc (Nat.le_refl _) _
  have hka : 0 < n.hdrs.length := by have := hf.hdrs.1; omega
  obtain ⟨b', off', hao, hbw, hdd⟩ := hH.cell (k := 0) hka
  simp only [Option.some.injEq, Addr.mk.injEq, and_true] at hao
  obtain ⟨rfl, rfl⟩ := hao
  rw [Nat.zero_mul, Nat.add_zero] at hdd
  have e6 := hdd.2.2.2.2.2.2.1
  clear hdd
  have hg := Sg.hG_get hka
  rw [← hg] at e6
  have hfits : ∀ d ∈ n.drls, drlFits d := fun d hd => by
    obtain ⟨k1, k2, k3, k4⟩ := hf.drls d hd
    exact ⟨k1, k2, by unfold Sg.fits; rw [decide_eq_true_eq]; omega, k4⟩
  have hleaf := fun W (hb : Below w.heap.size w W) => leafOf_any per (line : Int) tot n.drls aoD nd capD W hnd (by have := hf.many; omega) hfits (hD.below hb) (by rw [← ht]; exact hf.total)
  obtain ⟨p, q, ep, hp2, hq2⟩ := hf.path
  have hl3 : line ≤ 3 := by rw [← hln]; exact hf.line
  have hclimb : ∀ (leaf : ByteArray) (_ : leaf.size ≤ 32) (g : Nat) (W : World) (_ : OfAt W g) (_ : Below w.heap.size w W), Calls Tryz.prog 93 #[.agg #[fLeaf g, fNode g], .string leaf, .int .i64 (line : Int), .int .i64 4, .slice aoP 2 capP] W fun e w' => e = .returned (.string (Sg.climb leaf line 4 n.path)) ∧ Below W.heap.size W w' := fun leaf hs g W hg hb => bClimb_any (leaf := leaf) (by omega) g n.path aoP 2 line 4 capP W hg (by rw [ep]; rfl) (Sg.depth4 hl3).symm (by omega) (by omega) hcP.1 hcP.2 (by rw [ep]; intro s hs; simp at hs; rcases hs with rfl | rfl <;> assumption) (strsIn_below hP hb)
  have HL : Hid (Sg.leadsStmt n = decide (Sg.climb (Sg.lineB (line : Int) tot n.drls) line 4 n.path = (Sg.hG n 0).stat)) := by
    show _ = _
    unfold Sg.leadsStmt Sg.lineT
    rw [hln, ht]
  rw [HL.out]
  have hnh1 : 1 ≤ nh := by omega
  have j3 : (0 : Int) < (nh : Int) := by omega
  obtain ⟨c0, c1, c2, c3, c4, c5, _⟩ := hA.cells
  have hS0 : (w.alloc (.cells #[.int .i64 per, .int .i64 (line : Int), .int .i64 tot, .slice aoD nd capD, .slice (some ⟨b, off, none⟩) nh capH, .slice aoP 2 capP, x6] 73)).cell? ⟨w.heap.size, 0, none⟩ = some (.int .i64 per) ∧ (w.alloc (.cells #[.int .i64 per, .int .i64 (line : Int), .int .i64 tot, .slice aoD nd capD, .slice (some ⟨b, off, none⟩) nh capH, .slice aoP 2 capP, x6] 73)).cell? ⟨w.heap.size, 1, none⟩ = some (.int .i64 (line : Int)) ∧ (w.alloc (.cells #[.int .i64 per, .int .i64 (line : Int), .int .i64 tot, .slice aoD nd capD, .slice (some ⟨b, off, none⟩) nh capH, .slice aoP 2 capP, x6] 73)).cell? ⟨w.heap.size, 2, none⟩ = some (.int .i64 tot) ∧ (w.alloc (.cells #[.int .i64 per, .int .i64 (line : Int), .int .i64 tot, .slice aoD nd capD, .slice (some ⟨b, off, none⟩) nh capH, .slice aoP 2 capP, x6] 73)).cell? ⟨w.heap.size, 3, none⟩ = some (.slice aoD nd capD) ∧ (w.alloc (.cells #[.int .i64 per, .int .i64 (line : Int), .int .i64 tot, .slice aoD nd capD, .slice (some ⟨b, off, none⟩) nh capH, .slice aoP 2 capP, x6] 73)).cell? ⟨w.heap.size, 4, none⟩ = some (.slice (some ⟨b, off, none⟩) nh capH) ∧ (w.alloc (.cells #[.int .i64 per, .int .i64 (line : Int), .int .i64 tot, .slice aoD nd capD, .slice (some ⟨b, off, none⟩) nh capH, .slice aoP 2 capP, x6] 73)).cell? ⟨w.heap.size, 5, none⟩ = some (.slice aoP 2 capP) := ⟨c0, c1, c2, c3, c4, c5⟩
  have hz : (w.alloc (.cells #[.int .i64 per, .int .i64 (line : Int), .int .i64 tot, .slice aoD nd capD, .slice (some ⟨b, off, none⟩) nh capH, .slice aoP 2 capP, x6] 73)).heap.size = w.heap.size + 1 := by simp
  have e6' : ∀ W, Below w.heap.size w W → W.cell? ⟨b, off + 6, none⟩ = some (.string (Sg.hG n 0).stat) := fun W hb => (hb.cell (p := ⟨b, off + 6, none⟩) hbw).trans e6
  clear hf hln ht hnd hn hD hH hP hka hg hA HL c0 c1 c2 c3 c4 c5 hfits e6
  generalize (Sg.hG n 0).stat = st at *
  obtain ⟨rt, hrt⟩ : ∃ rt, Sg.climb (Sg.lineB (line : Int) tot n.drls) line 4 n.path = rt := ⟨_, rfl⟩
  have HRT : Hid (Sg.climb (Sg.lineB (line : Int) tot n.drls) line 4 n.path = rt) := hrt
  rw [hrt]
  obtain ⟨r, hr⟩ : ∃ r, decide (rt = st) = r := ⟨_, rfl⟩
  have HR : Hid (decide (rt = st) = r) := hr
  rw [hr]
  clear hrt hr ep
  go_enter Tryz.func89, Tryz.ntmps89
  go_upto_region 1 with fail
  generalize (w.alloc (.cells #[.int .i64 per, .int .i64 (line : Int), .int .i64 tot, .slice aoD nd capD, .slice (some ⟨b, off, none⟩) nh capH, .slice aoP 2 capP, x6] 73)) = W0 at *
  go_region_held3 (fun w' => w'.cell? ⟨w.heap.size, 0, none⟩ = some (.int .i64 per) ∧ w'.cell? ⟨w.heap.size, 1, none⟩ = some (.int .i64 (line : Int)) ∧ w'.cell? ⟨w.heap.size, 2, none⟩ = some (.int .i64 tot) ∧ w'.cell? ⟨w.heap.size, 3, none⟩ = some (.slice aoD nd capD) ∧ w'.cell? ⟨w.heap.size, 4, none⟩ = some (.slice (some ⟨b, off, none⟩) nh capH) ∧ w'.cell? ⟨w.heap.size, 5, none⟩ = some (.slice aoP 2 capP)) (first | with_reducible assumption | exact six_drew hS0)
    (first
      | (go_at_call 41; refine (sums_any _).mono ?_; rintro e w1 ⟨g, rfl, hgw, hg, hb1⟩; have hb1' : Below W0.heap.size W0 w1 := (by first | exact hb1 | exact ((Below.refl W0.heap.size W0).drew).trans hb1); have hh1 := six_call hS0 hb1' (by omega); have be1 := aA.trans (hb1'.mono aA.size); have hl1 : w.heap.size < w1.heap.size := (by have := hb1'.size; omega))
      | (go_at_call 53; refine (hleaf _ be1).mono ?_; rintro e w2 ⟨y2, rfl, hy2, hys2, hb2⟩; have hh2 := six_call hh1 hb2 hl1; have be2 := be1.trans (hb2.mono be1.size); have hg2 := hg.below hg.lt hb2; have hl2 : w.heap.size < w2.heap.size := (by have := hb2.size; omega))
      | (go_at_call 93; refine (hclimb y2 hys2 g _ hg2 be2).mono ?_; rintro e w3 ⟨rfl, hb3⟩; have hh3 := six_call hh2 hb3 hl2; have be3 := be2.trans (hb3.mono be2.size)))
  have q6 := e6' _ be3
  obtain ⟨_, _, _, _, d4, _⟩ := hh3
  have hyr : Sg.climb y2 line 4 n.path = rt := by rw [hy2.out]; exact HRT.out
  rw [hyr]
  clear hh1 hh2 hleaf hclimb e6' hS0 hy2 hyr
  by_cases heq : rt = st
  · have hcmp := eq_list heq
    have HX : Hid (r = true) := by show _ = _; rw [← HR.out]; exact decide_eq_true heq
    clear heq
    go_wp2_with fail
    go_ret
    exact ⟨by simp [HX.out], be3⟩
  · have hcmp := ne_list heq
    have HX : Hid (r = false) := by show _ = _; rw [← HR.out]; exact decide_eq_false heq
    clear heq
    go_wp2_with fail
    go_ret
    exact ⟨by simp [HX.out], be3⟩

theorem Sg.amtsD_snoc (l : List Sg.Drl) (d : Sg.Drl) : Sg.amtsD (l ++ [d]) = Sg.amtsD l + d.amt := by unfold Sg.amtsD; rw [List.foldl_append]; rfl
theorem Sg.amtsD_from : ∀ (l : List Sg.Drl) (s : Int), (∀ d ∈ l, Sg.fits d.amt = true) → s - 9223372036854775808 * (l.length : Int) ≤ l.foldl (fun s d => s + d.amt) s ∧ l.foldl (fun s d => s + d.amt) s ≤ s + 9223372036854775807 * (l.length : Int)
  | [], s, _ => by simp
  | d :: l, s, h => by
    have i := Sg.amtsD_from l (s + d.amt) (fun x hx => h x (by simp [hx]))
    have f : -9223372036854775808 ≤ d.amt ∧ d.amt ≤ 9223372036854775807 := of_decide_eq_true (h d (by simp))
    simp only [List.foldl_cons, List.length_cons]
    omega
theorem Sg.amtsD_bound (l : List Sg.Drl) (h : ∀ d ∈ l, Sg.fits d.amt = true) : -9223372036854775808 * (l.length : Int) ≤ Sg.amtsD l ∧ Sg.amtsD l ≤ 9223372036854775807 * (l.length : Int) := by
  have := Sg.amtsD_from l 0 h
  unfold Sg.amtsD
  omega
theorem num_eq {v t : Int} (hv : -700000000000000000000 ≤ v ∧ v ≤ 700000000000000000000) (ht : -9223372036854775808 ≤ t ∧ t ≤ 9223372036854775807) : ((nHi v == nHi (0 + t)) && (nLo v == nLo (0 + t))) = decide (v = t) := by
  rw [Bool.eq_iff_iff]
  simp only [Bool.and_eq_true, beq_iff_eq, decide_eq_true_eq]
  unfold nHi nLo
  omega

set_option maxHeartbeats 3200000 in
/-- Bundle.isTheTotal. -/
theorem isTheTotal_any (n : Sg.Bun) (x0 x1 x4 x5 x6 : Value) (tot : Int) (nd : Nat) (aoD : Option Addr) (capD : Nat) (w : World) (hf : n.Fine) (ht : n.total = tot) (hnd : n.drls.length = nd) (hD : DrlsIn w aoD n.drls) :
    Calls Tryz.prog 90 #[.agg #[x0, x1, .int .i64 tot, .slice aoD nd capD, x4, x5, x6]] w fun e w' => e = .returned (.bool (Sg.isTotal n)) ∧ Below w.heap.size w w' := by
  have hm := hf.many
  have hft : -9223372036854775808 ≤ tot ∧ tot ≤ 9223372036854775807 := by rw [← ht]; exact of_decide_eq_true hf.total
  have HFD : Hid (∀ d ∈ n.drls, Sg.fits d.amt = true) := fun d hd => (hf.drls d hd).2.2.2
  have HR : Hid (Sg.isTotal n = decide (Sg.amtsD n.drls = tot)) := by show _ = _; unfold Sg.isTotal; rw [ht]
  rw [HR.out]
  obtain ⟨r, hr⟩ : ∃ r, decide (Sg.amtsD n.drls = tot) = r := ⟨_, rfl⟩
  have HRR : Hid (decide (Sg.amtsD n.drls = tot) = r) := hr
  rw [hr]
  clear hr
  have HND : Hid (n.drls.length = nd) := hnd
  have HD : Hid (DrlsIn w aoD n.drls) := hD
  have hd72 : nd ≤ 72 := by omega
  have hB0 := BBox.new w x0 x1 (.int .i64 tot) (.slice aoD nd capD) x4 x5 x6
  have aA : Below w.heap.size w (w.alloc (.cells #[x0, x1, .int .i64 tot, .slice aoD nd capD, x4, x5, x6] 73)) := (Below.refl _ _).alloc (Nat.le_refl _) _
  have aN : Below (w.alloc (.cells #[x0, x1, .int .i64 tot, .slice aoD nd capD, x4, x5, x6] 73)).heap.size (w.alloc (.cells #[x0, x1, .int .i64 tot, .slice aoD nd capD, x4, x5, x6] 73)) ((w.alloc (.cells #[x0, x1, .int .i64 tot, .slice aoD nd capD, x4, x5, x6] 73)).alloc (.cells #[.int .u64 0, .int .u64 0] 84)) := (Below.refl _ _).alloc (Nat.le_refl _) _
  have hN0 : NumBox ((w.alloc (.cells #[x0, x1, .int .i64 tot, .slice aoD nd capD, x4, x5, x6] 73)).alloc (.cells #[.int .u64 0, .int .u64 0] 84)) (w.heap.size + 1) (Sg.amtsD (n.drls.take 0)) := by
    have := heap_alloc_new (w.alloc (.cells #[x0, x1, .int .i64 tot, .slice aoD nd capD, x4, x5, x6] 73)) (.cells #[.int .u64 0, .int .u64 0] 84)
    rw [World.size_alloc] at this
    exact this
  have HI0 : Hid (NumBox ((w.alloc (.cells #[x0, x1, .int .i64 tot, .slice aoD nd capD, x4, x5, x6] 73)).alloc (.cells #[.int .u64 0, .int .u64 0] 84)) (w.heap.size + 1) (Sg.amtsD (n.drls.take 0)) ∧ BBox ((w.alloc (.cells #[x0, x1, .int .i64 tot, .slice aoD nd capD, x4, x5, x6] 73)).alloc (.cells #[.int .u64 0, .int .u64 0] 84)) w.heap.size x0 x1 (.int .i64 tot) (.slice aoD nd capD) x4 x5 x6 ∧ Below w.heap.size w ((w.alloc (.cells #[x0, x1, .int .i64 tot, .slice aoD nd capD, x4, x5, x6] 73)).alloc (.cells #[.int .u64 0, .int .u64 0] 84))) := ⟨hN0, hB0.below aN, aA.trans (aN.mono aA.size)⟩
  clear hf ht hnd hD hB0 aA aN hN0 HR
  go_enter Tryz.func90, Tryz.ntmps90
  go_wp2_with fail
  go_loopw [10] (fun i wr => ∃ k : Nat, k ≤ nd ∧ i = .int .i64 (k : Int) ∧ Hid (NumBox wr (w.heap.size + 1) (Sg.amtsD (n.drls.take k)) ∧ BBox wr w.heap.size x0 x1 (.int .i64 tot) (.slice aoD nd capD) x4 x5 x6 ∧ Below w.heap.size w wr)) (fun i _ => nd - (intOf i).toNat)
  case atStart => exact ⟨0, by omega, rfl, HI0⟩
  case round =>
    obtain ⟨k, hk, rfl, HI⟩ := hrel
    obtain ⟨wz, ewz⟩ : ∃ z : World, z = wr := ⟨_, rfl⟩
    subst ewz
    clear HI0
    obtain ⟨hN, hB, hbr⟩ := HI.out
    by_cases hlt : k < nd
    · have hka : k < n.drls.length := by rw [HND.out]; exact hlt
      obtain ⟨b, off, hao, hbw, hd0, hd1, hd2, hd3⟩ := (HD.out.below hbr).cell (k := k) hka
      subst hao
      have hfd := HFD.out _ (List.getElem_mem hka)
      have hfm' : -9223372036854775808 ≤ n.drls[k].amt ∧ n.drls[k].amt ≤ 9223372036854775807 := of_decide_eq_true hfd
      have HS : Hid (Sg.amtsD (n.drls.take (k + 1)) = Sg.amtsD (n.drls.take k) + n.drls[k].amt) := by show _ = _; rw [List.take_succ_eq_append_getElem hka, Sg.amtsD_snoc]
      generalize Sg.amtsD (n.drls.take k) = s at *
      generalize n.drls[k] = d0 at *
      obtain ⟨ent, place, acct, am⟩ := d0
      simp only at hd0 hd1 hd2 hd3 hfm' HS
      have i1 : (0 : Int) ≤ (k : Int) := by omega
      have i2 : (k : Int) < (nd : Int) := by omega
      have hNl := hN.lt
      have aD : Below wz.heap.size wz (wz.alloc (.cells #[.int .i64 (ent : Int), .int .i64 (place : Int), .int .i64 acct, .int .i64 am] 51)) := (Below.refl _ _).alloc (Nat.le_refl _) _
      have hN1 : NumBox (wz.alloc (.cells #[.int .i64 (ent : Int), .int .i64 (place : Int), .int .i64 acct, .int .i64 am] 51)) (w.heap.size + 1) s := hN.block (aD.block _ hNl)
      have hB1 := hB.below aD
      have b1 := hbr.trans (aD.mono hbr.size)
      have c0 := hN.hi
      have c1 := hN.lo
      clear hfd HI hN hB aD
      go_wp2_with fail
      refine (plus_any s am _ hfm').mono ?_
      rintro e w2 ⟨rfl, hb2⟩
      have hN2 : NumBox w2 (w.heap.size + 1) s := hN1.block (hb2.block _ hN1.lt)
      have hB2 := hB1.below hb2
      have b2 := b1.trans (hb2.mono b1.size)
      have e0 := hN2.hi
      have e1 := hN2.lo
      have f0 := hN2.free 0
      have f1 := hN2.free 1
      have HI2 : Hid (NumBox ((w2.setCell ⟨w.heap.size + 1, 0, none⟩ (.int .u64 (nHi (s + am)))).setCell ⟨w.heap.size + 1, 1, none⟩ (.int .u64 (nLo (s + am)))) (w.heap.size + 1) (Sg.amtsD (n.drls.take (k + 1))) ∧ BBox ((w2.setCell ⟨w.heap.size + 1, 0, none⟩ (.int .u64 (nHi (s + am)))).setCell ⟨w.heap.size + 1, 1, none⟩ (.int .u64 (nLo (s + am)))) w.heap.size x0 x1 (.int .i64 tot) (.slice (some ⟨b, off, none⟩) nd capD) x4 x5 x6 ∧ Below w.heap.size w ((w2.setCell ⟨w.heap.size + 1, 0, none⟩ (.int .u64 (nHi (s + am)))).setCell ⟨w.heap.size + 1, 1, none⟩ (.int .u64 (nLo (s + am))))) := by
        refine ⟨?_, (hB2.set_other (by omega) _).set_other (by omega) _, (b2.setCell (show w.heap.size ≤ w.heap.size + 1 by omega) _).setCell (show w.heap.size ≤ w.heap.size + 1 by omega) _⟩
        rw [HS.out]
        exact hN2.set (s + am)
      clear hN1 hN2 hB1 hB2 b1 b2 hb2 HS c0 c1 hd0 hd1 hd2 hd3
      go_wp2_with fail
      go_roundw
      case rel => exact ⟨k + 1, by omega, by go_num, HI2⟩
      case measure => simp [intOf]; omega
    · have hkn : n.drls.take k = n.drls := List.take_of_length_le (by rw [HND.out]; omega)
      rw [hkn] at hN
      have hbd := Sg.amtsD_bound n.drls HFD.out
      rw [HND.out] at hbd
      have HEQ : Hid (((nHi (Sg.amtsD n.drls) == nHi (0 + tot)) && (nLo (Sg.amtsD n.drls) == nLo (0 + tot))) = decide (Sg.amtsD n.drls = tot)) := num_eq (by omega) hft
      have HRX : Hid (r = ((nHi (Sg.amtsD n.drls) == nHi (0 + tot)) && (nLo (Sg.amtsD n.drls) == nLo (0 + tot)))) := by show _ = _; rw [HEQ.out, HRR.out]
      clear hbd hkn HI HEQ HRR
      generalize Sg.amtsD n.drls = v at *
      have hPl : ∀ W, Calls Tryz.prog 99 #[.agg #[.int .u64 0, .int .u64 0], .int .i64 tot] W fun e w' => e = .returned (.agg #[.int .u64 (nHi (0 + tot)), .int .u64 (nLo (0 + tot))]) ∧ Below W.heap.size W w' := fun W => plus_any 0 tot W hft
      have c0 := hN.hi
      have c1 := hN.lo
      obtain ⟨_, _, c2, _, _, _, _⟩ := hB.cells
      have hBl := hB.lt
      have hNl := hN.lt
      clear hN hB
      generalize nHi (0 + tot) = h2 at *
      generalize nLo (0 + tot) = l2 at *
      generalize nHi v = h1 at *
      generalize nLo v = l1 at *
      obtain ⟨x, hx⟩ : ∃ x, (h1 == h2) = x := ⟨_, rfl⟩
      obtain ⟨y, hy⟩ : ∃ y, (l1 == l2) = y := ⟨_, rfl⟩
      rw [hx, hy] at HRX
      have hS0 : wz.cell? ⟨w.heap.size + 1, 0, none⟩ = some (.int .u64 h1) ∧ wz.cell? ⟨w.heap.size + 1, 1, none⟩ = some (.int .u64 l1) ∧ wz.cell? ⟨w.heap.size, 2, none⟩ = some (.int .i64 tot) := ⟨c0, c1, c2⟩
      have hS1 : wz.drew.cell? ⟨w.heap.size + 1, 0, none⟩ = some (.int .u64 h1) ∧ wz.drew.cell? ⟨w.heap.size + 1, 1, none⟩ = some (.int .u64 l1) ∧ wz.drew.cell? ⟨w.heap.size, 2, none⟩ = some (.int .i64 tot) := by simpa using hS0
      clear c0 c1 c2
      have g1 : ¬ (k : Int) < (nd : Int) := by omega
      cases x <;> cases y
      all_goals
        go_wp2_with fail
        go_region_held3 (fun w' => w'.cell? ⟨w.heap.size + 1, 0, none⟩ = some (.int .u64 h1) ∧ w'.cell? ⟨w.heap.size + 1, 1, none⟩ = some (.int .u64 l1) ∧ w'.cell? ⟨w.heap.size, 2, none⟩ = some (.int .i64 tot)) (first | with_reducible assumption | exact hS1)
          (first | (go_at_call 99; refine (hPl _).mono ?_; rintro e w2 ⟨rfl, hb2⟩; have hb2' : Below wz.heap.size wz w2 := (by first | exact hb2 | exact ((Below.refl wz.heap.size wz).drew).trans hb2); have hh2 : w2.cell? ⟨w.heap.size + 1, 0, none⟩ = some (.int .u64 h1) ∧ w2.cell? ⟨w.heap.size + 1, 1, none⟩ = some (.int .u64 l1) ∧ w2.cell? ⟨w.heap.size, 2, none⟩ = some (.int .i64 tot) := ⟨(hb2'.cell (p := ⟨w.heap.size + 1, 0, none⟩) hNl).trans hS0.1, (hb2'.cell (p := ⟨w.heap.size + 1, 1, none⟩) hNl).trans hS0.2.1, (hb2'.cell (p := ⟨w.heap.size, 2, none⟩) hBl).trans hS0.2.2⟩; have be := hbr.trans (hb2'.mono hbr.size)))
        go_wp2_with fail
        go_ret
        exact ⟨by rw [HRX.out]; rfl, be⟩
end Go.Proofs.YtpkkhkkkgjhkeabGreat
