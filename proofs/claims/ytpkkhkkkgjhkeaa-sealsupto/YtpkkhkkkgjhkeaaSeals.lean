import Derived.Test.YtpkkhkkkgjhkeaaSealsInv
/-
  THE WALK of signetlaw.Seals (P5, P6).
-/
namespace Go.Proofs.Ytpkkhkkkgjhkeaa
open Go.RowKit
set_option maxRecDepth 100000
attribute [local go_sem ↓] Go.wp_at_zero Go.wp_at_succ

theorem Try.infoLent : (Try.prog.info? 50).map (fun i => (i.zero, i.size, i.bytes)) = some (some (.agg #[.slice none 0 0, .slice none 0 0]), 2, 48) := by kernel_rfl
theorem Try.infoPerS : (Try.prog.info? 47).map (fun i => (i.zero, i.size, i.bytes)) = some (some (.agg #[.slice none 0 0]), 1, 24) := by kernel_rfl
theorem SeW.start {w W3 : World} {n m : Nat} {v0 v1 : Value} {ac : List Sg.Acc} {ps : List (List Sg.Ent)} (hb : Below w.heap.size w W3) (hT : Two W3 w.heap.size v0 v1 41) (hr : ARow W3 (w.heap.size + 1) n ac (.string beyondT)) (hs : W3.heap.size = w.heap.size + 2) :
    SeW w (W3.alloc (.cells (madeCells #[.slice none 0 0] (m + 2)) 47)) n m 0 0 v0 v1 ac ps [] [] (.slice none 0 0) := by
  have a : Below W3.heap.size W3 (W3.alloc (.cells (madeCells #[.slice none 0 0] (m + 2)) 47)) := (Below.refl _ _).alloc (Nat.le_refl _) _
  have hl := LPer.make W3 m
  rw [hs] at hl
  exact ⟨hb.trans (a.mono hb.size), hT.below a, hr.block (a.block _ hr.lt), hl, World.ownsRow_nil _ _ _ _, rfl, fun i _ h => absurd h (by omega)⟩

/-- The box of what is handed in. -/
structure SeB (WB wx : World) (vX vY : Value) : Prop where
  bel : Below WB.heap.size WB wx
  box : Two wx WB.heap.size vX vY 41
theorem SeB.below {WB wx w' : World} {vX vY : Value} (s : SeB WB wx vX vY) (h : Below wx.heap.size wx w') : SeB WB w' vX vY := ⟨s.bel.trans (h.mono s.bel.size), s.box.below h⟩
theorem SeB.start (WB : World) (vX vY : Value) : SeB WB (WB.alloc (.cells #[vX, vY] 41)).drew vX vY := ⟨((Below.refl _ _).alloc (Nat.le_refl _) _).drew, Two.new WB _ _ _⟩
theorem SeB.set0 {WB wx : World} {vX vY : Value} (u : Value) (s : SeB WB wx vX vY) : SeB WB (wx.setCell ⟨WB.heap.size, 0, none⟩ u) u vY := ⟨s.bel.setCell (Nat.le_refl _) _, heap_setCell_same wx _ 0 _ _ u s.box⟩
theorem SeB.set1 {WB wx : World} {vX vY : Value} (u : Value) (s : SeB WB wx vX vY) : SeB WB (wx.setCell ⟨WB.heap.size, 1, none⟩ u) vX u := ⟨s.bel.setCell (Nat.le_refl _) _, heap_setCell_same wx _ 1 _ _ u s.box⟩
theorem two_froz {w : World} {g : Nat} {x y : Value} {t : TypeId} (h : Two w g x y t) : w.frozen? ⟨g, 0, none⟩ = false ∧ w.frozen? ⟨g, 1, none⟩ = false := by
  unfold Two at h
  exact ⟨by simp [World.frozen?, h], by simp [World.frozen?, h]⟩

set_option maxHeartbeats 6400000 in
theorem lawSeals_any (h : Sg.Hist) (aoA aoP : Option Addr) (n m capA capP : Nat) (w : World) (hH : HistIn w aoA aoP n m h) (hn : n ≤ 1048576) (hm : m ≤ 1048576) (hp : ∀ p ∈ h.pers, p.length ≤ 3518437208780 ∧ ∀ e ∈ p, e.posts.length ≤ 8796093021952) :
    Calls Try.prog 5 #[.agg #[.slice aoA n capA, .slice aoP m capP]] w fun e w' => e = .returned (.bool true) ∧ Below w.heap.size w w' := by
  obtain ⟨a0, ai, az0, az1, az2⟩ := info_parts Try.infoAcc2
  obtain ⟨p0, pi, pz0, pz1, pz2⟩ := info_parts Try.infoPerS
  obtain ⟨l0, li, lz0, lz1, lz2⟩ := info_parts Try.infoLent
  have hqA := fun (w : World) (a : Option Addr) (n c : Nat) => Lib.run_eql_slice_nil (P := Try.prog) w 38 43 a n c 0 0 Try.underlying38
  have hqP := fun (w : World) (a : Option Addr) (n c : Nat) => Lib.run_eql_slice_nil (P := Try.prog) w 39 47 a n c 0 0 Try.underlying39
  have HH : Hid (HistIn w aoA aoP n m h) := hH
  have HP : Hid (∀ p ∈ h.pers, p.length ≤ 3518437208780 ∧ ∀ e ∈ p, e.posts.length ≤ 8796093021952) := hp
  clear hH hp
  have hmkA : ∀ W : World, (Instr.makeSlice 38 (.int .i64 ((n : Int) + 2)) (.int .i64 ((n : Int) + 2))).run Try.prog W = .ok (.slice (some ⟨W.heap.size, 0, none⟩) (n + 2) (n + 2)) (W.alloc (.cells (madeCells #[.string ByteArray.empty, .int .i64 0] ((n + 2) * 2)) 43)) := fun W => by
    have h := run_make (P := Try.prog) W 38 43 a0 (.agg #[.string ByteArray.empty, .int .i64 0]) Try.underlying38 ai az0 .i64 .i64 ((n + 2 : Nat) : Int) ((n + 2 : Nat) : Int) (by omega) (by omega) (by rw [az2]; omega) (by omega)
    rw [az1, Int.toNat_natCast] at h
    rw [show (n : Int) + 2 = ((n + 2 : Nat) : Int) by omega]
    exact h
  have hmkP : ∀ W : World, (Instr.makeSlice 39 (.int .i64 ((m : Int) + 2)) (.int .i64 ((m : Int) + 2))).run Try.prog W = .ok (.slice (some ⟨W.heap.size, 0, none⟩) (m + 2) (m + 2)) (W.alloc (.cells (madeCells #[.slice none 0 0] (m + 2)) 47)) := fun W => by
    have h := run_make (P := Try.prog) W 39 47 p0 (.agg #[.slice none 0 0]) Try.underlying39 pi pz0 .i64 .i64 ((m + 2 : Nat) : Int) ((m + 2 : Nat) : Int) (by omega) (by omega) (by rw [pz2]; omega) (by omega)
    rw [pz1, Int.toNat_natCast, Nat.mul_one] at h
    rw [show (m : Int) + 2 = ((m + 2 : Nat) : Int) by omega]
    exact h
  have aX : Below w.heap.size w ((w.alloc (.cells #[.slice aoA n capA, .slice aoP m capP] 41)).alloc (.cells (madeCells #[.string ByteArray.empty, .int .i64 0] ((n + 2) * 2)) 43)) := ((Below.refl _ _).alloc (Nat.le_refl _) _).alloc (by simp) _
  have hnew : ((w.alloc (.cells #[.slice aoA n capA, .slice aoP m capP] 41)).alloc (.cells (madeCells #[.string ByteArray.empty, .int .i64 0] ((n + 2) * 2)) 43)).heap[w.heap.size + 1]? = some (.cells (madeCells #[.string ByteArray.empty, .int .i64 0] ((n + 2) * 2)) 43 (0, 0)) := by
    have := heap_alloc_new (w.alloc (.cells #[.slice aoA n capA, .slice aoP m capP] 41)) (.cells (madeCells #[.string ByteArray.empty, .int .i64 0] ((n + 2) * 2)) 43)
    simpa using this
  have hT : Two ((w.alloc (.cells #[.slice aoA n capA, .slice aoP m capP] 41)).alloc (.cells (madeCells #[.string ByteArray.empty, .int .i64 0] ((n + 2) * 2)) 43)) w.heap.size (.slice aoA n capA) (.slice aoP m capP) 41 := (Two.new w _ _ _).below ((Below.refl _ _).alloc (Nat.le_refl _) _)
  obtain ⟨w2, hrun, hrow2, hb2, hgr, hs2⟩ := copy_accs h.accs aoA n capA (w.heap.size + 1) w.heap.size w _ HH.out.lenA (HH.out.accs.below aX) hnew aX (by omega)
  have hT2 : Two w2 w.heap.size (.slice aoA n capA) (.slice aoP m capP) 41 := (hgr.block w.heap.size (lt_of_block hT) (by simp)).trans hT
  have b3 : Below w.heap.size w ((w2.setCell ⟨w.heap.size + 1, n * 2, none⟩ (.string beyondT)).setCell ⟨w.heap.size + 1, (n + 1) * 2, none⟩ (.string beyondT)) := (hb2.setCell (by show _ ≤ w.heap.size + 1; omega) _).setCell (by show _ ≤ w.heap.size + 1; omega) _
  have hT3 : Two ((w2.setCell ⟨w.heap.size + 1, n * 2, none⟩ (.string beyondT)).setCell ⟨w.heap.size + 1, (n + 1) * 2, none⟩ (.string beyondT)) w.heap.size (.slice aoA n capA) (.slice aoP m capP) 41 := by
    show _ = _
    rw [heap_setCell_other _ ⟨w.heap.size + 1, (n + 1) * 2, none⟩ w.heap.size _ (by show w.heap.size ≠ w.heap.size + 1; omega), heap_setCell_other _ ⟨w.heap.size + 1, n * 2, none⟩ w.heap.size _ (by show w.heap.size ≠ w.heap.size + 1; omega)]
    exact hT2
  have HS0 : Hid (SeW w (((w2.setCell ⟨w.heap.size + 1, n * 2, none⟩ (.string beyondT)).setCell ⟨w.heap.size + 1, (n + 1) * 2, none⟩ (.string beyondT)).alloc (.cells (madeCells #[.slice none 0 0] (m + 2)) 47)) n m 0 0 (.slice aoA n capA) (.slice aoP m capP) h.accs h.pers [] [] (.slice none 0 0)) := SeW.start b3 hT3 (hrow2.mark HH.out.lenA) (by simp [hs2])
  have hs3 : ((w2.setCell ⟨w.heap.size + 1, n * 2, none⟩ (.string beyondT)).setCell ⟨w.heap.size + 1, (n + 1) * 2, none⟩ (.string beyondT)).heap.size = w.heap.size + 2 := by simp [hs2]
  obtain ⟨t0, t1⟩ := hT.cells
  obtain ⟨u0, u1⟩ := hT2.cells
  obtain ⟨c0, _, f0⟩ := hrow2.cells (i := n) (Nat.le_refl _) (by omega)
  obtain ⟨c1, _, f1⟩ := hrow2.cells (i := n + 1) (by omega) (by omega)
  have j2 : (n : Int) < ((n + 2 : Nat) : Int) := by omega
  have j3 : ((n + 1 : Nat) : Int) < ((n + 2 : Nat) : Int) := by omega
  have j4 : (0 : Int) ≤ ((n + 1 : Nat) : Int) := by omega
  have j5 : (0 : Int) ≤ (n : Int) := by omega
  clear aX hnew hT hrow2 hb2 hgr hs2 hT2 b3
  go_enter Try.func5, Try.ntmps5
  go_upto_region 6 with fail
  generalize (w2.setCell ⟨w.heap.size + 1, n * 2, none⟩ (.string beyondT)).setCell ⟨w.heap.size + 1, (n + 1) * 2, none⟩ (.string beyondT) = W3 at *
  clear hrun t0 t1 u0 u1 c0 c1 f0 f1 hmkA
  obtain ⟨s0, s1⟩ := hT3.cells
  go_wp2_with fail
  go_loopw [7, 8] (fun kv i wr => ∃ k : Nat, k ≤ m ∧ i = .int .i64 (k : Int) ∧ ∃ ls ms aoK capK, kv = .slice aoK k capK ∧ Hid (SeW w wr n m k k (.slice aoA n capA) (.slice aoP m capP) h.accs h.pers ls ms (.slice aoK k capK))) (fun _ i _ => m - (intOf i).toNat)
  case atStart => exact ⟨0, by omega, rfl, [], [], none, 0, rfl, HS0⟩
  case round =>
    obtain ⟨k, hk, rfl, ls, ms, aoK, capK, rfl, HS⟩ := hrel
    obtain ⟨wz, ewz⟩ : ∃ z : World, z = wr := ⟨_, rfl⟩
    subst ewz
    clear hmkP HS0 s0 s1 hT3 hs3
    by_cases hgo : k < m
    · have g1 : (k : Int) < (m : Int) := by omega
      have g0 : (0 : Int) ≤ (k : Int) := by omega
      have g2 : (k : Int) < ((m + 2 : Nat) : Int) := by omega
      have hka : k < h.pers.length := by rw [HH.out.lenP]; exact hgo
      obtain ⟨b2, off2, e2, hb2, aq, cq, hc2, hp2⟩ := HH.out.pers.cell (k := k) hka
      subst e2
      have hbz := HS.out.bel
      have x2 := (hbz.cell (p := ⟨b2, off2 + k, none⟩) hb2).trans hc2
      have hpk := HP.out h.pers[k] (List.getElem_mem _)
      have hcall := spare_any h.pers[k] aq h.pers[k].length cq wz rfl (by omega) (hp2.below hbz) (fun e he => by have := hpk.2 e he; omega)
      obtain ⟨pp, hpp⟩ : ∃ q, h.pers[k] = q := ⟨_, rfl⟩
      rw [hpp] at x2 hcall hpk
      obtain ⟨np, hnp⟩ : ∃ q, pp.length = q := ⟨_, rfl⟩
      rw [hnp] at x2 hcall hpk
      have HK : Hid (h.pers[k] = pp ∧ pp.length = np) := ⟨hpp, hnp⟩
      clear hpp hnp hp2 hc2 hbz
      obtain ⟨s0, s1⟩ := HS.out.arg.cells
      go_wp2_with fail
      refine hcall.mono ?_
      clear hcall
      rintro e w1 ⟨g, aoM, capM, rfl, hsp, hb1⟩
      have aB : Below w1.heap.size w1 ((w1.alloc (.cells #[.slice (some ⟨g, 0, none⟩) np (np + 2)] 47)).alloc (.cells #[.slice (some ⟨g, 0, none⟩) (np + 2) (np + 2), .slice aoM np capM] 50)) := ((Below.refl _ _).alloc (Nat.le_refl _) _).alloc (by simp) _
      have HSX : Hid (SeW w ((w1.alloc (.cells #[.slice (some ⟨g, 0, none⟩) np (np + 2)] 47)).alloc (.cells #[.slice (some ⟨g, 0, none⟩) (np + 2) (np + 2), .slice aoM np capM] 50)) n m k k (.slice aoA n capA) (.slice (some ⟨b2, off2, none⟩) m capP) h.accs h.pers ls ms (.slice aoK k capK)) := HS.out.below (hb1.trans (aB.mono hb1.size))
      have HSp : Hid (Spared ((w1.alloc (.cells #[.slice (some ⟨g, 0, none⟩) np (np + 2)] 47)).alloc (.cells #[.slice (some ⟨g, 0, none⟩) (np + 2) (np + 2), .slice aoM np capM] 50)) wz.heap.size g np aoM pp) := hsp.below aB
      have hz3 : w.heap.size + 2 < w1.heap.size := Nat.lt_of_lt_of_le HS.out.per.lt hb1.size
      have hbx : Two ((w1.alloc (.cells #[.slice (some ⟨g, 0, none⟩) np (np + 2)] 47)).alloc (.cells #[.slice (some ⟨g, 0, none⟩) (np + 2) (np + 2), .slice aoM np capM] 50)) (w1.heap.size + 1) (.slice (some ⟨g, 0, none⟩) (np + 2) (np + 2)) (.slice aoM np capM) 50 := by
        have := heap_alloc_new (w1.alloc (.cells #[.slice (some ⟨g, 0, none⟩) np (np + 2)] 47)) (.cells #[.slice (some ⟨g, 0, none⟩) (np + 2) (np + 2), .slice aoM np capM] 50)
        show _ = _
        simpa using this
      have hq0 : ((w1.alloc (.cells #[.slice (some ⟨g, 0, none⟩) np (np + 2)] 47)).alloc (.cells #[.slice (some ⟨g, 0, none⟩) (np + 2) (np + 2), .slice aoM np capM] 50)).cell? ⟨w1.heap.size, 0, none⟩ = some (.slice (some ⟨g, 0, none⟩) np (np + 2)) := by
        have hb : ((w1.alloc (.cells #[.slice (some ⟨g, 0, none⟩) np (np + 2)] 47)).alloc (.cells #[.slice (some ⟨g, 0, none⟩) (np + 2) (np + 2), .slice aoM np capM] 50)).heap[w1.heap.size]? = some (.cells #[.slice (some ⟨g, 0, none⟩) np (np + 2)] 47 (0, 0)) := by
          rw [Below.heap_alloc _ _ _ (by simp)]; exact heap_alloc_new w1 _
        rw [cell_of_row _ _ _ _ _ _ hb]; rfl
      obtain ⟨lc, lf⟩ := HSX.out.per.cells (i := k) (Nat.le_refl _) (by omega)
      have HS4 : Hid (SeW w (((w1.alloc (.cells #[.slice (some ⟨g, 0, none⟩) np (np + 2)] 47)).alloc (.cells #[.slice (some ⟨g, 0, none⟩) (np + 2) (np + 2), .slice aoM np capM] 50)).setCell ⟨w.heap.size + 2, k, none⟩ (.slice (some ⟨g, 0, none⟩) np (np + 2))) n m (k + 1) k (.slice aoA n capA) (.slice (some ⟨b2, off2, none⟩) m capP) h.accs h.pers (ls ++ [.slice (some ⟨g, 0, none⟩) np (np + 2)]) ms (.slice aoK k capK)) := HSX.out.put (.slice (some ⟨g, 0, none⟩) np (np + 2)) (by omega) (Nat.le_refl _)
      have hk4 : KeptT 47 ((w1.alloc (.cells #[.slice (some ⟨g, 0, none⟩) np (np + 2)] 47)).alloc (.cells #[.slice (some ⟨g, 0, none⟩) (np + 2) (np + 2), .slice aoM np capM] 50)) (((w1.alloc (.cells #[.slice (some ⟨g, 0, none⟩) np (np + 2)] 47)).alloc (.cells #[.slice (some ⟨g, 0, none⟩) (np + 2) (np + 2), .slice aoM np capM] 50)).setCell ⟨w.heap.size + 2, k, none⟩ (.slice (some ⟨g, 0, none⟩) np (np + 2))) := HSX.out.per.kept
      have hbx4 : Two (((w1.alloc (.cells #[.slice (some ⟨g, 0, none⟩) np (np + 2)] 47)).alloc (.cells #[.slice (some ⟨g, 0, none⟩) (np + 2) (np + 2), .slice aoM np capM] 50)).setCell ⟨w.heap.size + 2, k, none⟩ (.slice (some ⟨g, 0, none⟩) np (np + 2))) (w1.heap.size + 1) (.slice (some ⟨g, 0, none⟩) (np + 2) (np + 2)) (.slice aoM np capM) 50 := hk4 _ _ _ _ hbx (by decide)
      have HSp4 : Hid (Spared (((w1.alloc (.cells #[.slice (some ⟨g, 0, none⟩) np (np + 2)] 47)).alloc (.cells #[.slice (some ⟨g, 0, none⟩) (np + 2) (np + 2), .slice aoM np capM] 50)).setCell ⟨w.heap.size + 2, k, none⟩ (.slice (some ⟨g, 0, none⟩) np (np + 2))) wz.heap.size g np aoM pp) := HSp.out.keptS (KeptS.of hk4 (by decide) (by decide) (by decide))
      have hcomm : ((w1.alloc (.cells #[.slice (some ⟨g, 0, none⟩) np (np + 2)] 47)).alloc (.cells #[.slice (some ⟨g, 0, none⟩) (np + 2) (np + 2), .slice aoM np capM] 50)).setCell ⟨w.heap.size + 2, k, none⟩ (.slice (some ⟨g, 0, none⟩) np (np + 2)) = ((w1.setCell ⟨w.heap.size + 2, k, none⟩ (.slice (some ⟨g, 0, none⟩) np (np + 2))).alloc (.cells #[.slice (some ⟨g, 0, none⟩) np (np + 2)] 47)).alloc (.cells #[.slice (some ⟨g, 0, none⟩) (np + 2) (np + 2), .slice aoM np capM] 50) := by
        rw [World.setCell_alloc_past _ _ _ _ (by simp; omega), World.setCell_alloc_past _ _ _ _ hz3]
      rw [hcomm] at HS4 hbx4 HSp4
      clear hsp hb1 aB HSX HSp hk4 HS s0 s1 x2 hcomm
      obtain ⟨bx0, bx1⟩ := hbx.cells
      go_upto_region 14 with fail
      generalize ((w1.setCell ⟨w.heap.size + 2, k, none⟩ (.slice (some ⟨g, 0, none⟩) np (np + 2))).alloc (.cells #[.slice (some ⟨g, 0, none⟩) np (np + 2)] 47)).alloc (.cells #[.slice (some ⟨g, 0, none⟩) (np + 2) (np + 2), .slice aoM np capM] 50) = W4 at *
      clear bx0 bx1 hbx hq0 lc lf
      obtain ⟨by0, by1⟩ := hbx4.cells
      have hmsr := HS4.out.msr
      have hsz : w.heap.size + 3 ≤ W4.heap.size := HS4.out.per.lt
      go_wp2_with (at_builtin; (refine wpList_append_lies _ rfl _ _ 44 rfl (w.heap.size + 3) 50 l0 (.agg #[.slice none 0 0, .slice none 0 0]) 2 48 Try.underlying44 li lz0 lz1 lz2 rfl (by decide) (.slice aoK k capK) k ms rfl (hmsr.alloc _) ⟨W4.heap.size, 0, none⟩ 1 1 [.slice (some ⟨g, 0, none⟩) (np + 2) (np + 2), .slice aoM np capM] rfl rfl (World.news_of_block (cs := #[.slice (some ⟨g, 0, none⟩) (np + 2) (np + 2), .slice aoM np capM]) (t := 50) (fr := (0, 0)) (heap_alloc_new W4 _)) (by intro u hu; simp at hu; rcases hu with rfl | rfl <;> rfl) (by omega) (by unfold maxLen; omega) (by omega) (by simp; omega) (W4.heap.size + 1) (by simp) ?_; intro g1 cap1 w5 hown5 hgrow _ hlt5))
      have aW : Below W4.heap.size W4 (W4.alloc (.cells #[.slice (some ⟨g, 0, none⟩) (np + 2) (np + 2), .slice aoM np capM] 50)) := (Below.refl _ _).alloc (Nat.le_refl _) _
      have HS5 : Hid (SeW w w5 n m (k + 1) (k + 1) (.slice aoA n capA) (.slice (some ⟨b2, off2, none⟩) m capP) h.accs h.pers (ls ++ [.slice (some ⟨g, 0, none⟩) np (np + 2)]) (ms ++ [.slice (some ⟨g, 0, none⟩) (np + 2) (np + 2), .slice aoM np capM]) (.slice (some ⟨g1, 0, none⟩) (k + 1) cap1)) := (HS4.out.below aW).push hgrow hown5 hka ⟨g, aoM, capM, by rw [HK.out.1, HK.out.2, List.getElem?_append_right (by have := HS4.out.lens; simp at this; omega)]; have := HS4.out.lens; simp at this; simp [this], by rw [HK.out.1, HK.out.2], by rw [HK.out.1, HK.out.2], by rw [HK.out.1, HK.out.2]; exact ⟨Nat.zero_le _, (HSp4.out.below aW).lt, (HSp4.out.below aW).ents, (HSp4.out.below aW).behind, (HSp4.out.below aW).kept, (HSp4.out.below aW).keep⟩⟩
      clear hown5 hgrow HS4 HSp4 hmsr by0 by1 hbx4 aW
      go_roundw
      case rel => exact ⟨k + 1, by omega, by go_num, _, _, _, _, rfl, HS5⟩
      case measure => simp [intOf]; omega
    · have hkm : k = m := by omega
      subst hkm
      have g1 : ¬ (k : Int) < (k : Int) := by omega
      obtain ⟨lc0, lf0⟩ := HS.out.per.cells (i := k) (Nat.le_refl _) (by omega)
      obtain ⟨lc1, lf1⟩ := HS.out.per.cells (i := k + 1) (by omega) (by omega)
      have hz3 : w.heap.size + 2 < wz.heap.size := HS.out.per.lt
      have i2 : (k : Int) < ((k + 2 : Nat) : Int) := by omega
      have i3 : ((k + 1 : Nat) : Int) < ((k + 2 : Nat) : Int) := by omega
      have i4 : (0 : Int) ≤ ((k + 1 : Nat) : Int) := by omega
      have i5 : (0 : Int) ≤ (k : Int) := by omega
      have i6 : (k : Int) ≤ ((k + 2 : Nat) : Int) := by omega
      have i7 : (n : Int) ≤ ((n + 2 : Nat) : Int) := by omega
      have hcomm : (((wz.alloc (.cells #[.string beyondT, .slice none 0 0] 55)).setCell ⟨w.heap.size + 2, k, none⟩ (.slice (some ⟨wz.heap.size, 0, none⟩) 1 1)).alloc (.cells #[.string beyondT, .slice none 0 0] 55)).setCell ⟨w.heap.size + 2, k + 1, none⟩ (.slice (some ⟨wz.heap.size + 1, 0, none⟩) 1 1) = (((wz.setCell ⟨w.heap.size + 2, k, none⟩ (.slice (some ⟨wz.heap.size, 0, none⟩) 1 1)).setCell ⟨w.heap.size + 2, k + 1, none⟩ (.slice (some ⟨wz.heap.size + 1, 0, none⟩) 1 1)).alloc (.cells #[.string beyondT, .slice none 0 0] 55)).alloc (.cells #[.string beyondT, .slice none 0 0] 55) := by
        rw [World.setCell_alloc_past _ _ _ _ hz3, World.setCell_alloc_past _ _ _ _ (by simp; omega), World.setCell_alloc_past _ _ _ _ (by simp; omega)]
      have HF : Hid (SeF w ((((wz.setCell ⟨w.heap.size + 2, k, none⟩ (.slice (some ⟨wz.heap.size, 0, none⟩) 1 1)).setCell ⟨w.heap.size + 2, k + 1, none⟩ (.slice (some ⟨wz.heap.size + 1, 0, none⟩) 1 1)).alloc (.cells #[.string beyondT, .slice none 0 0] 55)).alloc (.cells #[.string beyondT, .slice none 0 0] 55)) n k wz.heap.size (wz.heap.size + 1) (.slice aoA n capA) (.slice aoP k capP) h.accs h.pers ls ms (.slice aoK k capK)) := by
        have := HS.out.fill
        rw [hcomm] at this
        exact this
      clear hcomm
      go_upto_region 17 with fail
      clear HS lc0 lf0 lc1 lf1
      generalize (((wz.setCell ⟨w.heap.size + 2, k, none⟩ (.slice (some ⟨wz.heap.size, 0, none⟩) 1 1)).setCell ⟨w.heap.size + 2, k + 1, none⟩ (.slice (some ⟨wz.heap.size + 1, 0, none⟩) 1 1)).alloc (.cells #[.string beyondT, .slice none 0 0] 55)).alloc (.cells #[.string beyondT, .slice none 0 0] 55) = WB at *
      obtain ⟨x1, hx1⟩ : ∃ q, wz.heap.size = q := ⟨_, rfl⟩
      rw [hx1] at HF
      clear hx1
      go_region
      have HB0 : Hid (SeB WB ((WB.alloc (.cells #[.slice (some ⟨w.heap.size + 1, 0, none⟩) n (n + 2), .slice (some ⟨w.heap.size + 2, 0, none⟩) k (k + 2)] 41)).drew) (.slice (some ⟨w.heap.size + 1, 0, none⟩) n (n + 2)) (.slice (some ⟨w.heap.size + 2, 0, none⟩) k (k + 2))) := SeB.start WB _ _
      generalize (WB.alloc (.cells #[.slice (some ⟨w.heap.size + 1, 0, none⟩) n (n + 2), .slice (some ⟨w.heap.size + 2, 0, none⟩) k (k + 2)] 41)).drew = WC at *
      obtain ⟨s0, s1⟩ := (HF.out.below HB0.out.bel).all.arg.cells
      obtain ⟨y0, _⟩ := HB0.out.box.cells
      obtain ⟨yf, _⟩ := two_froz HB0.out.box
      go_upto_if 93 with fail
      go_cut [] from 94 to 94 (fun wx => ∃ aoX capX, Hid (SeB WB wx (.slice aoX n capX) (.slice (some ⟨w.heap.size + 2, 0, none⟩) k (k + 2)) ∧ n ≤ capX ∧ capX ≤ 9223372036854775807 ∧ (aoX = some ⟨w.heap.size + 1, 0, none⟩ ∨ n = 0)))
      case first =>
        rcases aoA with _ | ad
        · have hn0 : n = 0 := by
            rcases HH.out.accs with h0 | ⟨b, o, e, _⟩
            · rw [← HH.out.lenA]; exact h0
            · simp at e
          subst hn0
          go_wp2_with fail
          go_meet
          exact ⟨none, 0, HB0.out.set0 _, by omega, by omega, Or.inr (by simp)⟩
        · go_wp2_with fail
          go_meet
          exact ⟨_, _, HB0.out, by omega, by omega, Or.inl rfl⟩
      case rest =>
        obtain ⟨aoX, capX, HB1⟩ := hcut
        obtain ⟨WD, eWD⟩ : ∃ z : World, z = wc := ⟨_, rfl⟩
        subst eWD
        clear HB0 s0 s1 y0 yf
        obtain ⟨s0, s1⟩ := (HF.out.below HB1.out.1.bel).all.arg.cells
        obtain ⟨_, y1⟩ := HB1.out.1.box.cells
        obtain ⟨_, yf⟩ := two_froz HB1.out.1.box
        go_upto_if 97 with fail
        go_cut [] from 98 to 98 (fun wx => ∃ aoY capY, Hid (SeB WB wx (.slice aoX n capX) (.slice aoY k capY) ∧ (aoY = some ⟨w.heap.size + 2, 0, none⟩ ∨ k = 0)))
        case first =>
          rcases aoP with _ | ad
          · have hk0 : k = 0 := by
              rcases HH.out.pers with h0 | ⟨b, o, e, _⟩
              · rw [← HH.out.lenP]; exact h0
              · simp at e
            subst hk0
            go_wp2_with fail
            go_meet
            exact ⟨none, 0, HB1.out.1.set1 _, Or.inr (by simp)⟩
          · go_wp2_with fail
            go_meet
            exact ⟨_, _, HB1.out.1, Or.inl rfl⟩
        case rest =>
          obtain ⟨aoY, capY, HB2⟩ := hcut
          obtain ⟨WE, eWE⟩ : ∃ z : World, z = wc := ⟨_, rfl⟩
          subst eWE
          have HFE := HF.out.below HB2.out.1.bel
          have hHg : HistIn WE aoX aoY n k h := by
            refine ⟨?_, ?_, HH.out.lenA, HH.out.lenP, HH.out.sizA, HH.out.sizP, HH.out.sizQ⟩
            · rcases HB1.out.2.2.2 with rfl | h0
              · exact HFE.all.row.in_
              · exact Or.inl (by rw [HH.out.lenA]; exact h0)
            · rcases HB2.out.2 with rfl | h0
              · exact HFE.in_ HH.out.lenP
              · exact Or.inl (by rw [HH.out.lenP]; exact h0)
          have c1 := seal_any h aoX aoY n k capX capY WE hHg HB1.out.2.1 HB1.out.2.2.1
          have c2 := fun W (hb : Below WB.heap.size WB W) => refSeal_any h aoA aoP n k capA capP W (HH.out.below (HF.out.all.bel.trans (hb.mono HF.out.all.bel.size)))
          generalize Sg.package h = pk at c1 c2
          generalize Sg.headOf h = hd at c1 c2
          generalize Sg.closeErr h = er at c1 c2
          have hbE := HB2.out.1.bel
          clear s0 s1 y1 yf hHg HFE
          obtain ⟨z0, z1⟩ := HB2.out.1.box.cells
          go_wp2_with fail
          refine c1.mono ?_
          clear c1
          rintro e w6 ⟨rfl, hb6⟩
          have hbF := hbE.trans (hb6.mono hbE.size)
          clear hbE hb6 z0 z1
          obtain ⟨s0, s1⟩ := (HF.out.below hbF).all.arg.cells
          go_wp2_with fail
          refine (c2 _ hbF).mono ?_
          clear c2
          rintro e w7 ⟨rfl, hb7⟩
          have hbG := hbF.trans (hb7.mono hbF.size)
          clear hbF hb7 s0 s1 HB1 HB2
          go_wp2_with fail
          have HHb : Hid (∀ W, Below WB.heap.size WB W → Below w.heap.size w W) := fun W hb => HF.out.all.bel.trans (hb.mono HF.out.all.bel.size)
          go_loopw [18] (fun i wr => ∃ q : Nat, q ≤ n ∧ i = .int .i64 (q : Int) ∧ Below WB.heap.size WB wr) (fun i _ => n - (intOf i).toNat)
          case atStart => exact ⟨0, by omega, rfl, hbG⟩
          case round =>
            obtain ⟨q, hq, rfl, hbel⟩ := hrel
            obtain ⟨wy, ewy⟩ : ∃ z : World, z = wr := ⟨_, rfl⟩
            subst ewy
            clear hbG
            obtain ⟨s0, s1⟩ := (HF.out.below hbel).all.arg.cells
            by_cases hlt : q < n
            · have hqa : q < h.accs.length := by rw [HH.out.lenA]; exact hlt
              obtain ⟨b1, o1, e1, _, x1, y1⟩ := (HH.out.accs.below (HHb.out _ hbel)).cell (k := q) hqa
              obtain ⟨x2, y2⟩ := (HF.out.below hbel).all.row.cell hqa
              subst e1
              generalize h.accs[q].name = nm at *
              generalize h.accs[q].line = ln at *
              have q1 : (0 : Int) ≤ (q : Int) := by omega
              have q2 : (q : Int) < (n : Int) := by omega
              have q3 : (q : Int) < ((n + 2 : Nat) : Int) := by omega
              go_wp2_with fail
              go_quiet (fail)
              go_wp2_with fail
              go_roundw
              case rel => exact ⟨q + 1, by omega, by go_num, below_drewN hbel _⟩
              case measure => simp [intOf]; omega
            · have q2 : ¬ (q : Int) < (n : Int) := by omega
              go_wp2_with fail
              clear s0 s1 q2 hlt hq
              go_loopw [19] (fun i wr => ∃ q : Nat, q ≤ k ∧ i = .int .i64 (q : Int) ∧ Below WB.heap.size WB wr) (fun i _ => k - (intOf i).toNat)
              case atStart => exact ⟨0, by omega, rfl, hbel⟩
              case round =>
                clear hbel
                obtain ⟨r, hr, rfl, hbe⟩ := hrel
                obtain ⟨wu, ewu⟩ : ∃ z : World, z = wr := ⟨_, rfl⟩
                subst ewu
                obtain ⟨s0, s1⟩ := (HF.out.below hbe).all.arg.cells
                by_cases hlr : r < k
                · have hra : r < h.pers.length := by rw [HH.out.lenP]; exact hlr
                  obtain ⟨b1, o1, e1, hb1w, a1, cq, x1, hE1⟩ := HH.out.pers.cell (k := r) hra
                  subst e1
                  have hsz := HP.out _ (List.getElem_mem hra)
                  obtain ⟨g, aoM, capM, c1, m1, m2, hsp⟩ := HF.out.period hra hlr
                  obtain ⟨gK, cK, eK, _, hgK⟩ := HF.out.all.msr.form (by omega)
                  simp only [Value.slice.injEq, true_and] at eK
                  obtain ⟨rfl, rfl⟩ := eK
                  have k0 := (World.ownsRow.cellAt HF.out.all.msr (r * 2) (by omega)).trans m1
                  have k1 := (World.ownsRow.cellAt HF.out.all.msr (r * 2 + 1) (by omega)).trans m2
                  have x1B := (HF.out.all.bel.cell (p := ⟨b1, o1 + r, none⟩) hb1w).trans x1
                  have hb1B : b1 < WB.heap.size := Nat.lt_of_lt_of_le hb1w HF.out.all.bel.size
                  have hlB : w.heap.size + 2 < WB.heap.size := HF.out.all.per.lt
                  obtain ⟨pp, hpp⟩ : ∃ z, h.pers[r] = z := ⟨_, rfl⟩
                  rw [hpp] at hE1 hsz c1 k0 k1 hsp x1B
                  obtain ⟨np, hnp⟩ : ∃ z, pp.length = z := ⟨_, rfl⟩
                  rw [hnp] at hsz c1 k0 k1 hsp x1B
                  have hcA := fun W (hb : Below WB.heap.size WB W) => asItWas_any pp g (np + 2) aoM a1 np capM cq W hnp (by omega) (Nat.le_refl _) (hsp.below hb).lt (hsp.below hb).ents (hsp.below hb).behind (hsp.below hb).kept (hE1.below (HHb.out W hb)) (fun e he => by have := hsz.2 e he; omega)
                  have hcS := fun W (hb : Below WB.heap.size WB W) => sameEnts_any pp (some ⟨g, 0, none⟩) a1 np (np + 2) cq W hnp (by omega) (hsp.below hb).ents (hE1.below (HHb.out W hb)) (fun e he => by have := hsz.2 e he; omega)
                  have HALL : Hid (∀ W, Below WB.heap.size WB W → W.cell? ⟨w.heap.size, 1, none⟩ = some (.slice (some ⟨b1, o1, none⟩) k capP) ∧ W.cell? ⟨b1, o1 + r, none⟩ = some (.slice a1 np cq) ∧ W.cell? ⟨gK, r * 2, none⟩ = some (.slice (some ⟨g, 0, none⟩) (np + 2) (np + 2)) ∧ W.cell? ⟨gK, r * 2 + 1, none⟩ = some (.slice aoM np capM) ∧ W.cell? ⟨w.heap.size + 2, r, none⟩ = some (.slice (some ⟨g, 0, none⟩) np (np + 2))) := fun W hb => ⟨(HF.out.below hb).all.arg.cells.2, (hb.cell (p := ⟨b1, o1 + r, none⟩) hb1B).trans x1B, (hb.cell (p := ⟨gK, r * 2, none⟩) hgK).trans k0, (hb.cell (p := ⟨gK, r * 2 + 1, none⟩) hgK).trans k1, (hb.cell (p := ⟨w.heap.size + 2, r, none⟩) hlB).trans c1⟩
                  clear hsp hE1 hsz hnp hpp x1 x1B k0 k1 c1 m1 m2 s0 s1 hb1w hb1B hgK
                  have q1 : (0 : Int) ≤ (r : Int) := by omega
                  have q2 : (r : Int) < (k : Int) := by omega
                  have q3 : (r : Int) < (k : Int) + 2 := by omega
                  obtain ⟨f1, f2, f3, f4, f5⟩ := HALL.out wu hbe
                  go_upto_region 32 with fail
                  go_cut [20] from 126 to 158 (fun c wx => c = .bool true ∧ Below WB.heap.size WB wx)
                  case first =>
                    go_region_law (rw [if_pos (by simp [Region.wanted])]; go_simp; go_at_call 29; refine (hcA _ (by first | exact hbe | exact hbe.drew)).mono ?_; rintro e w8 ⟨rfl, hb8⟩)
                    all_goals
                      have hb9 : Below WB.heap.size WB w8 := (by first | exact hbe.drew.trans (hb8.mono hbe.size) | exact hbe.trans (hb8.mono hbe.size))
                      clear f1 f2 f3 f4 f5 hb8
                      go_wp2_with fail
                      go_meet
                      exact ⟨rfl, hb9⟩
                  case rest =>
                    obtain ⟨ec, hb9⟩ := hcut
                    subst ec
                    obtain ⟨w8, ew8⟩ : ∃ z : World, z = wc := ⟨_, rfl⟩
                    subst ew8
                    clear f1 f2 f3 f4 f5 hbe
                    obtain ⟨f1, f2, f3, f4, f5⟩ := HALL.out w8 hb9
                    go_upto_region 33 with fail
                    go_cut [21] from 126 to 158 (fun c wx => c = .bool true ∧ Below WB.heap.size WB wx)
                    case first =>
                      go_region_law (rw [if_pos (by simp [Region.wanted])]; go_simp; go_at_call 30; refine (hcS _ (by first | exact hb9 | exact hb9.drew)).mono ?_; rintro e w9 ⟨rfl, hb10⟩)
                      all_goals
                        have hb11 : Below WB.heap.size WB w9 := (by first | exact hb9.drew.trans (hb10.mono hb9.size) | exact hb9.trans (hb10.mono hb9.size))
                        clear f1 f2 f3 f4 f5 hb10
                        go_wp2_with fail
                        go_meet
                        exact ⟨rfl, hb11⟩
                    case rest =>
                      obtain ⟨ec, hb12⟩ := hcut
                      subst ec
                      clear f1 f2 f3 f4 f5 hb9
                      go_wp2_with fail
                      go_roundw
                      case rel => exact ⟨r + 1, by omega, by go_num, hb12⟩
                      case measure => simp [intOf]; omega
                · have q2 : ¬ (r : Int) < (k : Int) := by omega
                  go_wp2_with fail
                  clear s0 s1 q2 hlr hr
                  go_loopw [22] (fun i wr => ∃ q : Nat, q ≤ 2 ∧ i = .int .i64 (q : Int) ∧ Below WB.heap.size WB wr) (fun i _ => 2 - (intOf i).toNat)
                  case atStart => exact ⟨0, by omega, rfl, hbe⟩
                  case round =>
                    clear hbe
                    obtain ⟨d, hd2, rfl, hbd⟩ := hrel
                    obtain ⟨wv, ewv⟩ : ∃ z : World, z = wr := ⟨_, rfl⟩
                    subst ewv
                    by_cases hld : d < 2
                    · obtain ⟨xb, z0, z1, z2, z3, z4⟩ : ∃ xb, wv.cell? ⟨w.heap.size + 2, k + d, none⟩ = some (.slice (some ⟨xb, 0, none⟩) 1 1) ∧ wv.cell? ⟨xb, 0, none⟩ = some (.string beyondT) ∧ wv.cell? ⟨xb, 1, none⟩ = some (.slice none 0 0) ∧ wv.cell? ⟨w.heap.size + 1, (n + d) * 2, none⟩ = some (.string beyondT) ∧ wv.cell? ⟨w.heap.size + 1, (n + d) * 2 + 1, none⟩ = some (.int .i64 0) := (HF.out.below hbd).room hld
                      have q1 : (0 : Int) ≤ (d : Int) := by omega
                      have q2 : (d : Int) < 2 := by omega
                      have q3 : ((k + d : Nat) : Int) < ((k + 2 : Nat) : Int) := by omega
                      have q4 : (0 : Int) ≤ ((k + d : Nat) : Int) := by omega
                      have q5 : ((n + d : Nat) : Int) < ((n + 2 : Nat) : Int) := by omega
                      have q6 : (0 : Int) ≤ ((n + d : Nat) : Int) := by omega
                      go_wp2_with fail
                      go_roundw
                      case rel => exact ⟨d + 1, by omega, by go_num, hbd⟩
                      case measure => simp [intOf]; omega
                    · have q2 : ¬ (d : Int) < 2 := by omega
                      go_wp2_with fail
                      go_ret
                      exact ⟨rfl, HHb.out _ hbd⟩
end Go.Proofs.Ytpkkhkkkgjhkeaa
