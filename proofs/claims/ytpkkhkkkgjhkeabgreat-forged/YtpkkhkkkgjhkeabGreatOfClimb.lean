/-
  THE WALK of sum.OfClimb (P12): the texts that are summed while one climbs, from the root down.
-/
import Derived.Test.YtpkkhkkkgjhkeabGreatSumTs
import Derived.Test.YtpkkhkkkgjhkeabGreatPick
namespace Go.Proofs.YtpkkhkkkgjhkeabGreat
open Go.RowKit
set_option maxRecDepth 100000
attribute [local go_sem ↓] Go.wp_at_zero Go.wp_at_succ

theorem strsIn_cell {w : World} {ao : Option Addr} {ss : List ByteArray} (h : StrsIn w ao ss) {k : Nat} (hk : k < ss.length) : ∃ b off, ao = some ⟨b, off, none⟩ ∧ w.cell? ⟨b, off + k, none⟩ = some (.string ss[k]) := by
  rcases h with h0 | ⟨b, off, e, _, hat⟩
  · omega
  · refine ⟨b, off, e, ?_⟩
    have := hat k hk
    rw [List.getD_eq_getElem?_getD, List.getElem?_eq_getElem hk] at this
    exact this
theorem strsIn_drew {w w' : World} {ao : Option Addr} {ss : List ByteArray} (h : StrsIn w ao ss) (hb : Below w.heap.size w w') : StrsIn w' ao ss := by
  rcases h with h0 | ⟨b, off, e, hbw, hat⟩
  · exact Or.inl h0
  · exact Or.inr ⟨b, off, e, Nat.lt_of_lt_of_le hbw hb.size, hat.below hb hbw⟩

set_option maxHeartbeats 1600000 in
/-- What sum.OfClimb has built. -/
theorem climbBuild_any {g B : Nat} {I : List ByteArray → World → Prop} (S : SumsN g B 8192 I) {leaf : ByteArray} (hs : leaf.size ≤ 140737488355328) (ss : List ByteArray) (ao : Option Addr) (l i n cap qa qb qc qd : Nat) (w : World) (hl : ss.length = l) (hd : l = Sg.depth i n) (hin : i < n) (hn : n ≤ 4096) (hlc : l ≤ cap) (hcap : cap ≤ 9223372036854775807)
    (h2 : ∀ s ∈ ss, s.size = 2) (hI : I [] w) (hss : ss.length = 0 ∨ ∃ b off, ao = some ⟨b, off, none⟩ ∧ b < B ∧ StrsAt w b off ss)
    (ca : w.cell? ⟨qa, 0, none⟩ = some (.string leaf)) (cb : w.cell? ⟨qb, 0, none⟩ = some (.int .i64 (i : Int))) (cc : w.cell? ⟨qc, 0, none⟩ = some (.int .i64 (n : Int))) (cd : w.cell? ⟨qd, 0, none⟩ = some (.slice ao l cap)) (la : qa < w.heap.size) (lb : qb < w.heap.size) (lc : qc < w.heap.size) (ld : qd < w.heap.size) :
    Calls Tryz.prog 92 #[.agg #[fLeaf g, fNode g], .pointer (some ⟨qa, 0, none⟩), .pointer (some ⟨qb, 0, none⟩), .pointer (some ⟨qc, 0, none⟩), .pointer (some ⟨qd, 0, none⟩)] w fun e w' => e = .returned (.tuple #[]) ∧ I (Sg.climbTs leaf i n ss) w' ∧ Kp B w w' := by
  have hBs := S.size _ _ hI
  have aN : Below w.heap.size w (w.alloc (.cells #[fLeaf g, fNode g] 107)) := (Below.refl _ _).alloc (Nat.le_refl _) _
  have I1 := S.alloc _ _ (.cells #[fLeaf g, fNode g] 107) hI
  have K1 : Kp B w (w.alloc (.cells #[fLeaf g, fNode g] 107)) := Kp.of_below hBs aN
  have hcall := nClimb_any S hs ss ao l i n cap [] _ hl hd hin hn hlc hcap h2 I1 (by simp; omega) (by
    rcases hss with h0 | ⟨b, off, e, hb, hat⟩
    · exact Or.inl h0
    · exact Or.inr ⟨b, off, e, hb, hat.kp K1 hb⟩)
  clear hI hss h2 hl hd
  go_enter Tryz.func92, Tryz.ntmps92
  go_wp2_with fail
  refine hcall.mono ?_
  rintro e w2 ⟨rfl, hI2, hk2⟩
  rw [List.nil_append] at hI2
  have HX : Hid (I (Sg.climbTs leaf i n ss) w2 ∧ Kp B w w2) := ⟨hI2, K1.trans hk2⟩
  clear hcall I1 K1 hI2 hk2
  go_wp2_with fail
  exact bodyPost_end (v := .tuple #[]) (by simp [results, Tryz.results92, go_sem]) rfl ⟨rfl, HX.out.1, HX.out.2⟩

set_option maxHeartbeats 3200000 in
/-- sum.summed, of a climb. -/
theorem summedClimb_any {leaf : ByteArray} (hs : leaf.size ≤ 140737488355328) (ss : List ByteArray) (ao : Option Addr) (l i n cap qa qb qc qd : Nat) (w : World) (hl : ss.length = l) (hd : l = Sg.depth i n) (hin : i < n) (hn : n ≤ 4096) (hlc : l ≤ cap) (hcap : cap ≤ 9223372036854775807)
    (h2 : ∀ s ∈ ss, s.size = 2) (hss : StrsIn w ao ss)
    (ca : w.cell? ⟨qa, 0, none⟩ = some (.string leaf)) (cb : w.cell? ⟨qb, 0, none⟩ = some (.int .i64 (i : Int))) (cc : w.cell? ⟨qc, 0, none⟩ = some (.int .i64 (n : Int))) (cd : w.cell? ⟨qd, 0, none⟩ = some (.slice ao l cap)) (la : qa < w.heap.size) (lb : qb < w.heap.size) (lc : qc < w.heap.size) (ld : qd < w.heap.size) :
    Calls Tryz.prog 91 #[.func (.func 92) #[] #[.pointer (some ⟨qa, 0, none⟩), .pointer (some ⟨qb, 0, none⟩), .pointer (some ⟨qc, 0, none⟩), .pointer (some ⟨qd, 0, none⟩)]] w fun e w' => ∃ v, e = .returned v ∧ Hid (OwnStrs w' w.heap.size v (Sg.climbTs leaf i n ss).reverse) ∧ Below w.heap.size w w' := by
  have aN : Below w.heap.size w (w.alloc (.cells #[.slice none 0 0] 71)) := (Below.refl _ _).alloc (Nat.le_refl _) _
  have hT0 : TxBox (w.alloc (.cells #[.slice none 0 0] 71)) w.heap.size (.slice none 0 0) := heap_alloc_new w _
  have HLN : Hid ((Sg.climbTs leaf i n ss).length ≤ 8192) := by
    show _ ≤ _
    have := Sg.climbTs_len leaf n i n ss (Nat.le_refl _) (by omega)
    omega
  have hbuild := fun (g : Nat) W (hI : RecI w g w.heap.size w.heap.size [] W) (hb : Below w.heap.size w W) => climbBuild_any (rec_sums w g w.heap.size w.heap.size) hs ss ao l i n cap qa qb qc qd W hl hd hin hn hlc hcap h2 hI (by
    rcases hss with h0 | ⟨b, off, e, hbw, hat⟩
    · exact Or.inl h0
    · exact Or.inr ⟨b, off, e, hbw, hat.below hb hbw⟩) ((hb.cell (p := ⟨qa, 0, none⟩) la).trans ca) ((hb.cell (p := ⟨qb, 0, none⟩) lb).trans cb) ((hb.cell (p := ⟨qc, 0, none⟩) lc).trans cc) ((hb.cell (p := ⟨qd, 0, none⟩) ld).trans cd) (Nat.lt_of_lt_of_le la hb.size) (Nat.lt_of_lt_of_le lb hb.size) (Nat.lt_of_lt_of_le lc hb.size) (Nat.lt_of_lt_of_le ld hb.size)
  clear hl hd h2 hss ca cb cc cd
  obtain ⟨ts, ets⟩ : ∃ ts, Sg.climbTs leaf i n ss = ts := ⟨_, rfl⟩
  rw [ets] at HLN hbuild ⊢
  clear ets
  go_enter Tryz.func91, Tryz.ntmps91
  go_wp2_with fail
  refine (treesBy_any 118 #[.pointer (some ⟨w.heap.size, 0, none⟩)] _).mono ?_
  rintro e w1 ⟨g, rfl, hgw, hg, hb1⟩
  have hT1 : TxBox w1 w.heap.size (.slice none 0 0) := (hb1.block _ (lt_of_block hT0)).trans hT0
  have b1 := aN.trans (hb1.mono aN.size)
  have I1 : RecI w g w.heap.size w.heap.size [] w1 := ⟨hg, ⟨_, hT1, World.ownsRow_nil _ _ _ _⟩, b1, Nat.le_refl _, Nat.le_refl _⟩
  clear hT0 hT1 hg hb1 hgw aN
  go_wp2_with fail
  refine (hbuild g _ I1 b1).mono ?_
  rintro e w2 ⟨rfl, I2, _⟩
  clear hbuild I1 b1
  obtain ⟨v, hT2, hO2⟩ := I2.row
  have b2 := I2.bel
  obtain ⟨c2, _⟩ := hT2.cell
  obtain ⟨ao2, cap2, ev⟩ := ownsRow_len' hO2
  obtain ⟨m, hm⟩ : ∃ m, ts.length = m := ⟨_, rfl⟩
  rw [hm] at ev
  subst ev
  have hrev := reverse_own hO2 (by have := HLN.out; omega)
  have HT : Hid (TxBox w2 w.heap.size (.slice ao2 m cap2) ∧ OwnStrs w2 w.heap.size (.slice ao2 m cap2) ts) := ⟨hT2, hO2⟩
  clear I2 hT2 hO2 hm HLN
  go_wp2_with fail
  refine hrev.mono ?_
  rintro e w3 ⟨rfl, HO3, hg3⟩
  have hT3 : TxBox w3 w.heap.size (.slice ao2 m cap2) := (hg3.block _ (lt_of_block HT.out.1) (fun e => own_type HT.out.2 HT.out.1 (by decide) e.symm)).trans HT.out.1
  have b3 : Below w.heap.size w w3 := b2.grown hg3 b2.size (fun j hj => (World.ownsRow.lt HT.out.2 j hj).1)
  obtain ⟨c3, _⟩ := hT3.cell
  clear hrev hg3 HT c2 hT3 b2
  go_wp2_with fail
  go_ret
  exact ⟨_, rfl, HO3, b3⟩

theorem box_cell (w : World) (v : Value) (t : TypeId) : (w.alloc (.cells #[v] t)).cell? ⟨w.heap.size, 0, none⟩ = some v := by
  rw [cell_of_row _ w.heap.size 0 _ _ _ (heap_alloc_new w _)]; rfl
theorem ofClimb_any {leaf : ByteArray} (hs : leaf.size ≤ 140737488355328) (ss : List ByteArray) (ao : Option Addr) (l i n cap : Nat) (w : World) (hl : ss.length = l) (hd : l = Sg.depth i n) (hin : i < n) (hn : n ≤ 4096) (hlc : l ≤ cap) (hcap : cap ≤ 9223372036854775807)
    (h2 : ∀ s ∈ ss, s.size = 2) (hss : StrsIn w ao ss) :
    Calls Tryz.prog 52 #[.string leaf, .int .i64 (i : Int), .int .i64 (n : Int), .slice ao l cap] w fun e w' => ∃ v, e = .returned v ∧ Hid (OwnStrs w' w.heap.size v (Sg.climbTs leaf i n ss).reverse) ∧ Below w.heap.size w w' := by
  have b1 : Below w.heap.size w (w.alloc (.cells #[.string leaf] 9)) := (Below.refl _ _).alloc (Nat.le_refl _) _
  have s1 : (w.alloc (.cells #[.string leaf] 9)).heap.size = w.heap.size + 1 := by simp
  have c1 := box_cell w (.string leaf) 9
  generalize eW1 : (w.alloc (.cells #[.string leaf] 9)) = w1 at *
  have b2 : Below w1.heap.size w1 (w1.alloc (.cells #[.int .i64 (i : Int)] 3)) := (Below.refl _ _).alloc (Nat.le_refl _) _
  have s2 : (w1.alloc (.cells #[.int .i64 (i : Int)] 3)).heap.size = w1.heap.size + 1 := by simp
  have c2 := box_cell w1 (.int .i64 (i : Int)) 3
  generalize eW2 : (w1.alloc (.cells #[.int .i64 (i : Int)] 3)) = w2 at *
  have b3 : Below w2.heap.size w2 (w2.alloc (.cells #[.int .i64 (n : Int)] 3)) := (Below.refl _ _).alloc (Nat.le_refl _) _
  have s3 : (w2.alloc (.cells #[.int .i64 (n : Int)] 3)).heap.size = w2.heap.size + 1 := by simp
  have c3 := box_cell w2 (.int .i64 (n : Int)) 3
  generalize eW3 : (w2.alloc (.cells #[.int .i64 (n : Int)] 3)) = w3 at *
  have b4 : Below w3.heap.size w3 (w3.alloc (.cells #[.slice ao l cap] 71)) := (Below.refl _ _).alloc (Nat.le_refl _) _
  have s4 : (w3.alloc (.cells #[.slice ao l cap] 71)).heap.size = w3.heap.size + 1 := by simp
  have c4 := box_cell w3 (.slice ao l cap) 71
  generalize eW4 : (w3.alloc (.cells #[.slice ao l cap] 71)) = w4 at *
  have e1 : w1.heap.size = w.heap.size + 1 := s1
  have e2 : w2.heap.size = w.heap.size + 2 := by omega
  have e3 : w3.heap.size = w.heap.size + 3 := by omega
  have bb : Below w.heap.size w w4 := ((b1.trans (b2.mono (by omega))).trans (b3.mono (by omega))).trans (b4.mono (by omega))
  have k1 : w4.cell? ⟨w.heap.size, 0, none⟩ = some (.string leaf) := ((b4.cell (p := ⟨w.heap.size, 0, none⟩) (by show w.heap.size < _; omega)).trans ((b3.cell (p := ⟨w.heap.size, 0, none⟩) (by show w.heap.size < _; omega)).trans ((b2.cell (p := ⟨w.heap.size, 0, none⟩) (by show w.heap.size < _; omega)).trans c1)))
  have k2 : w4.cell? ⟨w.heap.size + 1, 0, none⟩ = some (.int .i64 (i : Int)) := by
    rw [e1] at c2
    exact ((b4.cell (p := ⟨w.heap.size + 1, 0, none⟩) (by show w.heap.size + 1 < _; omega)).trans ((b3.cell (p := ⟨w.heap.size + 1, 0, none⟩) (by show w.heap.size + 1 < _; omega)).trans c2))
  have k3 : w4.cell? ⟨w.heap.size + 2, 0, none⟩ = some (.int .i64 (n : Int)) := by
    rw [e2] at c3
    exact (b4.cell (p := ⟨w.heap.size + 2, 0, none⟩) (by show w.heap.size + 2 < _; omega)).trans c3
  have k4 : w4.cell? ⟨w.heap.size + 3, 0, none⟩ = some (.slice ao l cap) := by
    rw [e3] at c4
    exact c4
  have hcall := summedClimb_any hs ss ao l i n cap w.heap.size (w.heap.size + 1) (w.heap.size + 2) (w.heap.size + 3) w4 hl hd hin hn hlc hcap h2 (strsIn_drew hss bb) k1 k2 k3 k4 (by omega) (by omega) (by omega) (by omega)
  clear hl hd h2 hss b1 b2 b3 b4 c1 c2 c3 c4 k1 k2 k3 k4 s1 s2 s3 e1 e2 e3
  subst eW1
  subst eW2
  subst eW3
  go_enter Tryz.func52, Tryz.ntmps52
  go_wp2_with fail
  try rw [eW4]
  refine hcall.mono ?_
  rintro e w1 ⟨v, rfl, HO, hb1⟩
  have HO1 : Hid (OwnStrs w1 w.heap.size v (Sg.climbTs leaf i n ss).reverse) := HO.out.base bb.size
  clear hcall HO
  go_wp2_with fail
  go_ret
  exact ⟨_, rfl, HO1, bb.trans (hb1.mono bb.size)⟩
end Go.Proofs.YtpkkhkkkgjhkeabGreat
