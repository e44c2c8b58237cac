/-
  THE WALKS of signetlaw.sameLine, signetlaw.Looks (P10).
-/
import Derived.Test.YtpkkhkkkgjhkeaaRefLook
namespace Go.Proofs.Ytpkkhkkkgjhkeaa
open Go.RowKit
set_option maxRecDepth 100000
attribute [local go_sem ↓] Go.wp_at_zero Go.wp_at_succ

set_option maxHeartbeats 3200000 in
/-- signetlaw.sameLine of two lines that are the same. -/
theorem sameLine_same (per line tot : Int) (ds : List Sg.Drl) (ao1 ao2 : Option Addr) (n cap1 cap2 : Nat) (w : World) (hn : ds.length = n) (hmax : n ≤ 140737488355328) (h1 : DrlsIn w ao1 ds) (h2 : DrlsIn w ao2 ds) :
    Calls Try.prog 39 #[.agg #[.int .i64 per, .int .i64 line, .int .i64 tot, .slice ao1 n cap1], .agg #[.int .i64 per, .int .i64 line, .int .i64 tot, .slice ao2 n cap2]] w fun e w' => e = .returned (.bool true) ∧ Below w.heap.size w w' := by
  have HN : Hid (ds.length = n) := hn
  have HD : Hid (DrlsIn w ao1 ds ∧ DrlsIn w ao2 ds) := ⟨h1, h2⟩
  have e1 : (w.alloc (.cells #[.int .i64 per, .int .i64 line, .int .i64 tot, .slice ao1 n cap1] 74)).heap.size = w.heap.size + 1 := by simp
  have a1 : Below w.heap.size w (w.alloc (.cells #[.int .i64 per, .int .i64 line, .int .i64 tot, .slice ao1 n cap1] 74)) := (Below.refl _ _).alloc (Nat.le_refl _) _
  have a2 : Below (w.alloc (.cells #[.int .i64 per, .int .i64 line, .int .i64 tot, .slice ao1 n cap1] 74)).heap.size (w.alloc (.cells #[.int .i64 per, .int .i64 line, .int .i64 tot, .slice ao1 n cap1] 74)) ((w.alloc (.cells #[.int .i64 per, .int .i64 line, .int .i64 tot, .slice ao1 n cap1] 74)).alloc (.cells #[.int .i64 per, .int .i64 line, .int .i64 tot, .slice ao2 n cap2] 74)) := (Below.refl _ _).alloc (Nat.le_refl _) _
  have q1 := (Quad.new w (.int .i64 per) (.int .i64 line) (.int .i64 tot) (.slice ao1 n cap1) 74).below a2
  have q2 : Quad ((w.alloc (.cells #[.int .i64 per, .int .i64 line, .int .i64 tot, .slice ao1 n cap1] 74)).alloc (.cells #[.int .i64 per, .int .i64 line, .int .i64 tot, .slice ao2 n cap2] 74)) (w.heap.size + 1) (.int .i64 per) (.int .i64 line) (.int .i64 tot) (.slice ao2 n cap2) 74 := by
    have := Quad.new (w.alloc (.cells #[.int .i64 per, .int .i64 line, .int .i64 tot, .slice ao1 n cap1] 74)) (.int .i64 per) (.int .i64 line) (.int .i64 tot) (.slice ao2 n cap2) 74
    rw [e1] at this
    exact this
  have HI0 : Hid (Quad ((w.alloc (.cells #[.int .i64 per, .int .i64 line, .int .i64 tot, .slice ao1 n cap1] 74)).alloc (.cells #[.int .i64 per, .int .i64 line, .int .i64 tot, .slice ao2 n cap2] 74)) w.heap.size (.int .i64 per) (.int .i64 line) (.int .i64 tot) (.slice ao1 n cap1) 74 ∧ Quad ((w.alloc (.cells #[.int .i64 per, .int .i64 line, .int .i64 tot, .slice ao1 n cap1] 74)).alloc (.cells #[.int .i64 per, .int .i64 line, .int .i64 tot, .slice ao2 n cap2] 74)) (w.heap.size + 1) (.int .i64 per) (.int .i64 line) (.int .i64 tot) (.slice ao2 n cap2) 74 ∧ Below w.heap.size w ((w.alloc (.cells #[.int .i64 per, .int .i64 line, .int .i64 tot, .slice ao1 n cap1] 74)).alloc (.cells #[.int .i64 per, .int .i64 line, .int .i64 tot, .slice ao2 n cap2] 74))) := ⟨q1, q2, a1.trans (a2.mono (by omega))⟩
  clear hn h1 h2 q1 q2 a1 a2 e1
  go_enter Try.func39, Try.ntmps39
  go_wp2_with fail
  go_loopw [5] (fun i wr => ∃ k : Nat, k ≤ n ∧ i = .int .i64 (k : Int) ∧ Hid (Quad wr w.heap.size (.int .i64 per) (.int .i64 line) (.int .i64 tot) (.slice ao1 n cap1) 74 ∧ Quad wr (w.heap.size + 1) (.int .i64 per) (.int .i64 line) (.int .i64 tot) (.slice ao2 n cap2) 74 ∧ Below w.heap.size w wr)) (fun i _ => n - (intOf i).toNat)
  case atStart => exact ⟨0, by omega, rfl, HI0⟩
  case round =>
    obtain ⟨k, hk, rfl, HI⟩ := hrel
    obtain ⟨wz, ewz⟩ : ∃ z : World, z = wr := ⟨_, rfl⟩
    subst ewz
    clear HI0
    obtain ⟨hq1, hq2, hbr⟩ := HI.out
    obtain ⟨c0, c1, c2, c3⟩ := hq1.cells
    obtain ⟨d0, d1, d2, d3⟩ := hq2.cells
    by_cases hlt : k < n
    · have hka : k < ds.length := by rw [HN.out]; exact hlt
      obtain ⟨b1, off1, e1, _, x0, x1, x2, x3⟩ := (HD.out.1.below hbr).cell (k := k) hka
      obtain ⟨b2, off2, e2, _, y0, y1, y2, y3⟩ := (HD.out.2.below hbr).cell (k := k) hka
      subst e1
      subst e2
      generalize ds[k] = d at *
      obtain ⟨ent, place, acct, am⟩ := d
      simp only at x0 x1 x2 x3 y0 y1 y2 y3
      have i1 : (0 : Int) ≤ (k : Int) := by omega
      have i2 : (k : Int) < (n : Int) := by omega
      have HQ : Hid (∀ m, Quad (wz.drewN m) w.heap.size (.int .i64 per) (.int .i64 line) (.int .i64 tot) (.slice (some ⟨b1, off1, none⟩) n cap1) 74 ∧ Quad (wz.drewN m) (w.heap.size + 1) (.int .i64 per) (.int .i64 line) (.int .i64 tot) (.slice (some ⟨b2, off2, none⟩) n cap2) 74 ∧ Below w.heap.size w (wz.drewN m)) := fun m => ⟨hq1, hq2, below_drewN hbr m⟩
      clear HI hq1 hq2
      go_wp2_with fail
      go_quiet (fail)
      go_wp2_with fail
      go_roundw
      case rel => exact ⟨k + 1, by omega, by go_num, HQ.out _⟩
      case measure => simp [intOf]; omega
    · have i2 : ¬ (k : Int) < (n : Int) := by omega
      clear HI hq1 hq2
      go_wp2_with fail
      go_ret
      exact ⟨rfl, hbr⟩

/-- What audit.Look and signetref.Look answer, in one form: the same line's numbers, the same drills, the same error. -/
theorem look_alike (t hd : ByteArray) (ht : t.size ≤ 140737488355328) : ∃ (per line tot er : Int) (ds : List Sg.Drl), ds.length ≤ 72 ∧
    (∀ w : World, Calls Try.prog 37 #[.string t, .string hd] w fun e w' => Below w.heap.size w w' ∧ ∃ vD, e = .returned (.tuple #[.agg #[.int .i64 per, .int .i64 line, .int .i64 tot, vD], .int .i64 er]) ∧ OwnDrls w' w.heap.size vD ds) ∧
    (∀ w : World, Calls Try.prog 38 #[.string t, .string hd] w fun e w' => Below w.heap.size w w' ∧ ∃ vD, e = .returned (.tuple #[.agg #[.int .i64 per, .int .i64 line, .int .i64 tot, vD], .int .i64 er]) ∧ OwnDrls w' w.heap.size vD ds) := by
  by_cases h : Sg.lookErr t hd = 0
  · have hf : Sg.formL (Sg.tx t) = true := by
      unfold Sg.lookErr at h
      by_cases hf : Sg.formL (Sg.tx t) = true
      · exact hf
      · rw [if_neg hf] at h
        exact absurd h (by decide)
    refine ⟨((Sg.bunL (Sg.tx t)).per : Int), ((Sg.bunL (Sg.tx t)).line : Int), (Sg.bunL (Sg.tx t)).total, 0, (Sg.bunL (Sg.tx t)).drls, (Sg.bunL_fine hf).many, fun w => ?_, fun w => ?_⟩
    · refine (look_any t hd w).mono ?_
      rintro e w' ⟨hb, ⟨hne, _⟩ | ⟨_, vD, rfl, hO⟩⟩
      · exact absurd h hne
      · exact ⟨hb, vD, rfl, hO⟩
    · refine (refLook_any t hd w ht).mono ?_
      rintro e w' ⟨hb, ⟨hne, _⟩ | ⟨_, vD, rfl, hO⟩⟩
      · exact absurd h hne
      · exact ⟨hb, vD, rfl, hO⟩
  · refine ⟨0, 0, 0, Sg.lookErr t hd, [], by simp, fun w => ?_, fun w => ?_⟩
    · refine (look_any t hd w).mono ?_
      rintro e w' ⟨hb, ⟨_, rfl⟩ | ⟨h0, _⟩⟩
      · exact ⟨hb, _, rfl, World.ownsRow_nil _ _ _ _⟩
      · exact absurd h0 h
    · refine (refLook_any t hd w ht).mono ?_
      rintro e w' ⟨hb, ⟨_, rfl⟩ | ⟨h0, _⟩⟩
      · exact ⟨hb, _, rfl, World.ownsRow_nil _ _ _ _⟩
      · exact absurd h0 h

theorem drlCells_put : ∀ (ds : List Sg.Drl) (k : Nat) (d : Sg.Drl), ((((drlCells ds).set (k * 4) (.int .i64 (d.ent : Int))).set (k * 4 + 1) (.int .i64 (d.place : Int))).set (k * 4 + 2) (.int .i64 d.acct)).set (k * 4 + 3) (.int .i64 d.amt) = drlCells (ds.set k d)
  | [], k, d => by simp [drlCells]
  | c :: ds, 0, d => by simp [drlCells]
  | c :: ds, k + 1, d => by
    have ih := drlCells_put ds k d
    have e1 : drlCells (c :: ds) = [.int .i64 (c.ent : Int), .int .i64 (c.place : Int), .int .i64 c.acct, .int .i64 c.amt] ++ drlCells ds := rfl
    have e2 : drlCells ((c :: ds).set (k + 1) d) = [.int .i64 (c.ent : Int), .int .i64 (c.place : Int), .int .i64 c.acct, .int .i64 c.amt] ++ drlCells (ds.set k d) := rfl
    rw [e1, e2, ← ih]
    have q0 : (k + 1) * 4 = k * 4 + 1 + 1 + 1 + 1 := by omega
    rw [q0]
    rfl

/-- A drill stored into a row of drills that lies whole. -/
theorem OwnDrls.put {w : World} {B g n cap : Nat} {ds : List Sg.Drl} (h : OwnDrls w B (.slice (some ⟨g, 0, none⟩) n cap) ds) (hn : ds.length = n) (k : Nat) (d : Sg.Drl) :
    OwnDrls ((((w.setCell ⟨g, k * 4, none⟩ (.int .i64 (d.ent : Int))).setCell ⟨g, k * 4 + 1, none⟩ (.int .i64 (d.place : Int))).setCell ⟨g, k * 4 + 2, none⟩ (.int .i64 d.acct)).setCell ⟨g, k * 4 + 3, none⟩ (.int .i64 d.amt)) B (.slice (some ⟨g, 0, none⟩) n cap) (ds.set k d) ∧
    ∀ i, i ≠ g → ((((w.setCell ⟨g, k * 4, none⟩ (.int .i64 (d.ent : Int))).setCell ⟨g, k * 4 + 1, none⟩ (.int .i64 (d.place : Int))).setCell ⟨g, k * 4 + 2, none⟩ (.int .i64 d.acct)).setCell ⟨g, k * 4 + 3, none⟩ (.int .i64 d.amt)).heap[i]? = w.heap[i]? := by
  subst hn
  have s1 := World.ownsRow.stored h (k * 4) (.int .i64 (d.ent : Int))
  have s2 := World.ownsRow.stored s1.1 (k * 4 + 1) (.int .i64 (d.place : Int))
  have s3 := World.ownsRow.stored s2.1 (k * 4 + 2) (.int .i64 d.acct)
  have s4 := World.ownsRow.stored s3.1 (k * 4 + 3) (.int .i64 d.amt)
  refine ⟨?_, fun i hi => ?_⟩
  · have := s4.1
    rw [drlCells_put] at this
    unfold OwnDrls
    rw [List.length_set]
    exact this
  · have q := fun (W : World) (j : Nat) (v : Value) => heap_setCell_other W ⟨g, j, none⟩ i v hi
    rw [q, q, q, q]

theorem ownsRow_grownB {w w' : World} {B : Nat} {o : Option Nat} {e : TypeId} {sz n : Nat} {v : Value} {xs : List Value} (h : w.ownsRow B e sz v n xs) (hg : w.grownBy w' o) (ho : ∀ g, o = some g → g < B) : w'.ownsRow B e sz v n xs := by
  obtain ⟨h1, h2⟩ := h
  refine ⟨h1, ?_⟩
  rcases h2 with h2 | ⟨q, cap, cur, hv, hq, hh, r⟩
  · exact Or.inl h2
  · refine Or.inr ⟨q, cap, cur, hv, hq, (hg.block q (lt_of_block hh) (fun he => ?_)).trans hh, r⟩
    have := ho q (by first | exact he | exact he.symm)
    omega
/-- How far signetlaw.Looks has come: the two lines' boxes, the first's drills (xs: they are being overwritten), the second's. -/
def LkS (w0 wr : World) (g h n : Nat) (per line tot : Int) (ao1 ao2 : Option Addr) (cap1 cap2 : Nat) (ds xs : List Sg.Drl) : Prop :=
  Quad wr g (.int .i64 per) (.int .i64 line) (.int .i64 tot) (.slice ao1 n cap1) 74 ∧ Quad wr h (.int .i64 per) (.int .i64 line) (.int .i64 tot) (.slice ao2 n cap2) 74 ∧ OwnDrls wr w0.heap.size (.slice ao1 n cap1) xs ∧ xs.length = n ∧ OwnDrls wr (g + 1) (.slice ao2 n cap2) ds ∧ Below w0.heap.size w0 wr
theorem LkS.below {w0 wr w' : World} {g h n : Nat} {per line tot : Int} {ao1 ao2 : Option Addr} {cap1 cap2 : Nat} {ds xs : List Sg.Drl} (s : LkS w0 wr g h n per line tot ao1 ao2 cap1 cap2 ds xs) (hb : Below wr.heap.size wr w') : LkS w0 w' g h n per line tot ao1 ao2 cap1 cap2 ds xs :=
  ⟨s.1.below hb, s.2.1.below hb, s.2.2.1.below hb, s.2.2.2.1, s.2.2.2.2.1.below hb, s.2.2.2.2.2.trans (hb.mono s.2.2.2.2.2.size)⟩
theorem LkS.put {w0 wr : World} {g h n g1 : Nat} {per line tot : Int} {ao2 : Option Addr} {cap1 cap2 : Nat} {ds xs : List Sg.Drl} (s : LkS w0 wr g h n per line tot (some ⟨g1, 0, none⟩) ao2 cap1 cap2 ds xs) (hg1 : g1 < g) (hgh : g < h) (k : Nat) (d : Sg.Drl) :
    LkS w0 ((((wr.setCell ⟨g1, k * 4, none⟩ (.int .i64 (d.ent : Int))).setCell ⟨g1, k * 4 + 1, none⟩ (.int .i64 (d.place : Int))).setCell ⟨g1, k * 4 + 2, none⟩ (.int .i64 d.acct)).setCell ⟨g1, k * 4 + 3, none⟩ (.int .i64 d.amt)) g h n per line tot (some ⟨g1, 0, none⟩) ao2 cap1 cap2 ds (xs.set k d) := by
  obtain ⟨a, b, c, hl, f, bel⟩ := s
  have hB : w0.heap.size ≤ g1 := by
    rcases c.2 with ⟨h0, _⟩ | ⟨gg, cc, cur, h0, hb, _⟩
    · simp at h0
    · simp only [Value.slice.injEq, Option.some.injEq, Addr.mk.injEq] at h0
      rw [h0.1.1]
      exact hb
  obtain ⟨p, ho⟩ := c.put hl k d
  refine ⟨(ho g (by omega)).trans a, (ho h (by omega)).trans b, p, by rw [List.length_set]; exact hl, ownsRow_offB f (g := g1) (by omega) ho, (((bel.setCell (show w0.heap.size ≤ g1 from hB) _).setCell (show w0.heap.size ≤ g1 from hB) _).setCell (show w0.heap.size ≤ g1 from hB) _).setCell (show w0.heap.size ≤ g1 from hB) _⟩

set_option maxHeartbeats 6400000 in
/-- signetlaw.Looks. -/
theorem lawLooks_any (t hd : ByteArray) (w : World) (ht : t.size ≤ 140737488355328) :
    Calls Try.prog 8 #[.string t, .string hd] w fun e w' => e = .returned (.bool true) ∧ Below w.heap.size w w' := by
  obtain ⟨per, line, tot, er, ds, hlen, hprog, href⟩ := look_alike t hd ht
  have HL : Hid (ds.length ≤ 72) := hlen
  go_enter Try.func8, Try.ntmps8
  go_wp2_with fail
  refine (hprog _).mono ?_
  rintro e w1 ⟨hb1, vD1, rfl, hO1⟩
  obtain ⟨ao1, cap1, e1, _⟩ := hO1.shape
  subst e1
  have z1 := hb1.size
  have b1 : Below w1.heap.size w1 (w1.alloc (.cells #[.int .i64 per, .int .i64 line, .int .i64 tot, .slice ao1 ds.length cap1] 74)) := (Below.refl _ _).alloc (Nat.le_refl _) _
  have qa := Quad.new w1 (.int .i64 per) (.int .i64 line) (.int .i64 tot) (.slice ao1 ds.length cap1) 74
  have oa := hO1.below b1
  have hg1 : ∀ q, ao1 = some q → q.block < w1.heap.size := by
    intro q hq
    subst hq
    rcases hO1.2 with ⟨h0, _⟩ | ⟨gg, cc, cur, h0, _, hh, _⟩
    · simp at h0
    · simp only [Value.slice.injEq, Option.some.injEq] at h0
      rw [h0.1]
      exact lt_of_block hh
  have sz2 : (w1.alloc (.cells #[.int .i64 per, .int .i64 line, .int .i64 tot, .slice ao1 ds.length cap1] 74)).heap.size = w1.heap.size + 1 := by simp
  have bw2 := hb1.trans (b1.mono hb1.size)
  clear hO1 hb1
  go_wp2_with fail
  generalize (w1.alloc (.cells #[.int .i64 per, .int .i64 line, .int .i64 tot, .slice ao1 ds.length cap1] 74)) = w2 at *
  refine (href _).mono ?_
  rintro e w3 ⟨hb3, vD2, rfl, hO2⟩
  clear href
  obtain ⟨ao2, cap2, e2, _⟩ := hO2.shape
  subst e2
  have z3 := hb3.size
  rw [sz2] at hO2
  have b3 : Below w3.heap.size w3 (w3.alloc (.cells #[.int .i64 per, .int .i64 line, .int .i64 tot, .slice ao2 ds.length cap2] 74)) := (Below.refl _ _).alloc (Nat.le_refl _) _
  have qb := Quad.new w3 (.int .i64 per) (.int .i64 line) (.int .i64 tot) (.slice ao2 ds.length cap2) 74
  have ob := hO2.below b3
  have qa3 := (qa.below hb3).below b3
  have oa3 := (oa.below hb3).below b3
  have sz4 : (w3.alloc (.cells #[.int .i64 per, .int .i64 line, .int .i64 tot, .slice ao2 ds.length cap2] 74)).heap.size = w3.heap.size + 1 := by simp
  have hgh : w1.heap.size < w3.heap.size := by omega
  obtain ⟨g, eg⟩ : ∃ g, w1.heap.size = g := ⟨_, rfl⟩
  obtain ⟨h, eh⟩ : ∃ h, w3.heap.size = h := ⟨_, rfl⟩
  have bw3 := bw2.trans (hb3.mono bw2.size)
  have bw4 := bw3.trans (b3.mono bw3.size)
  clear hO2 qa oa b1 hb3 b3 bw2 bw3
  go_upto_region 3 with fail
  generalize (w3.alloc (.cells #[.int .i64 per, .int .i64 line, .int .i64 tot, .slice ao2 ds.length cap2] 74)) = w4 at *
  rw [eg] at hg1 hgh ob qa3
  rw [eh] at hgh qb
  have S4 : LkS w w4 g h ds.length per line tot ao1 ao2 cap1 cap2 ds ds := ⟨qa3, qb, oa3, rfl, ob, bw4⟩
  obtain ⟨c0, c1, c2, c3⟩ := qa3.cells
  obtain ⟨d0, d1, d2, d3⟩ := qb.cells
  have hsame := fun (W : World) (cp1 cp2 : Nat) (x1 x2 : Option Addr) (y1 : DrlsIn W x1 ds) (y2 : DrlsIn W x2 ds) => sameLine_same per line tot ds x1 x2 ds.length cp1 cp2 W rfl (by have := HL.out; omega) y1 y2
  have in1 : DrlsIn w4 ao1 ds := by
    obtain ⟨_, _, e, hi⟩ := oa3.shape
    simp only [Value.slice.injEq] at e
    rw [e.1]
    exact hi
  have in2 : DrlsIn w4 ao2 ds := by
    obtain ⟨_, _, e, hi⟩ := ob.shape
    simp only [Value.slice.injEq] at e
    rw [e.1]
    exact hi
  have HM : Hid (∀ W, Calls Try.prog 37 #[.string t, .string hd] W fun e w' => Below W.heap.size W w' ∧ ∃ vD, e = .returned (.tuple #[.agg #[.int .i64 per, .int .i64 line, .int .i64 tot, vD], .int .i64 er]) ∧ OwnDrls w' W.heap.size vD ds) := hprog
  have hBg : w.heap.size ≤ g := by omega
  have HS4 : Hid (LkS w w4 g h ds.length per line tot ao1 ao2 cap1 cap2 ds ds) := S4
  try rw [eg]
  try rw [eh]
  clear hprog S4 bw4 qa3 qb oa3 ob z1 z3 sz2 sz4 eg eh
  go_wp2_with fail
  refine (hsame _ _ _ _ _ in1 in2).mono ?_
  rintro e w5 ⟨rfl, hb5⟩
  have HS5 : Hid (LkS w w5 g h ds.length per line tot ao1 ao2 cap1 cap2 ds ds) := HS4.out.below hb5
  obtain ⟨p0, p1, p2, p3⟩ := HS5.out.1.cells
  clear in1 in2 HS4 c0 c1 c2 c3 d0 d1 d2 d3 hb5
  go_wp2_with fail
  clear p0 p1 p2 p3
  obtain ⟨n, hn⟩ : ∃ n, ds.length = n := ⟨_, rfl⟩
  rw [hn] at HS5 HL hsame ⊢
  go_loopw [11] (fun i wr => ∃ k : Nat, k ≤ n ∧ i = .int .i64 (k : Int) ∧ Hid (∃ xs, LkS w wr g h n per line tot ao1 ao2 cap1 cap2 ds xs ∧ ∀ j, j < k → xs[j]? = some ⟨77, 0, 0, 0⟩)) (fun i _ => n - (intOf i).toNat)
  case atStart => exact ⟨0, by omega, rfl, ds, HS5.out, fun j hj => absurd hj (by omega)⟩
  case round =>
    obtain ⟨k, hk, rfl, HI⟩ := hrel
    obtain ⟨wz, ewz⟩ : ∃ z : World, z = wr := ⟨_, rfl⟩
    subst ewz
    clear HS5
    obtain ⟨xs, hs, h77⟩ := HI.out
    by_cases hlt : k < n
    · have hown := hs.2.2.1
      have hxl := hs.2.2.2.1
      obtain ⟨g1, e1⟩ : ∃ g1, ao1 = some ⟨g1, 0, none⟩ := by
        rcases hown.2 with ⟨_, h0⟩ | ⟨gg, cc, cur, h0, _⟩
        · omega
        · simp only [Value.slice.injEq] at h0
          exact ⟨gg, h0.1⟩
      subst e1
      have hlow : g1 < g := hg1 _ rfl
      have hown' := hown
      unfold OwnDrls at hown'
      rw [hxl] at hown'
      obtain ⟨a1, a2, a3, a4⟩ := drlCells_get xs k (by omega)
      have c0 := World.ownsRow.cellAt hown' (k * 4) (by omega)
      have c1 := World.ownsRow.cellAt hown' (k * 4 + 1) (by omega)
      have c2 := World.ownsRow.cellAt hown' (k * 4 + 2) (by omega)
      have c3 := World.ownsRow.cellAt hown' (k * 4 + 3) (by omega)
      rw [a1] at c0
      rw [a2] at c1
      rw [a3] at c2
      rw [a4] at c3
      have f0 := World.ownsRow.frozenAt hown' (k * 4)
      have f1 := World.ownsRow.frozenAt hown' (k * 4 + 1)
      have f2 := World.ownsRow.frozenAt hown' (k * 4 + 2)
      have f3 := World.ownsRow.frozenAt hown' (k * 4 + 3)
      have HP : Hid (∃ ys, LkS w ((((wz.setCell ⟨g1, k * 4, none⟩ (.int .i64 77)).setCell ⟨g1, k * 4 + 1, none⟩ (.int .i64 0)).setCell ⟨g1, k * 4 + 2, none⟩ (.int .i64 0)).setCell ⟨g1, k * 4 + 3, none⟩ (.int .i64 0)) g h n per line tot (some ⟨g1, 0, none⟩) ao2 cap1 cap2 ds ys ∧ ∀ j, j < k + 1 → ys[j]? = some ⟨77, 0, 0, 0⟩) := by
        refine ⟨xs.set k ⟨77, 0, 0, 0⟩, hs.put hlow hgh k ⟨77, 0, 0, 0⟩, fun j hj => ?_⟩
        by_cases hjk : j = k
        · subst hjk
          rw [List.getElem?_set_self (by omega)]
        · rw [List.getElem?_set_ne (by omega)]
          exact h77 j (by omega)
      have i1 : (0 : Int) ≤ (k : Int) := by omega
      have i2 : (k : Int) < (n : Int) := by omega
      clear HI hs hown hown' a1 a2 a3 a4 h77 HM hsame
      go_wp2_with fail
      go_roundw
      case rel => exact ⟨k + 1, by omega, by go_num, HP.out⟩
      case measure => simp [intOf]; omega
    · have i2 : ¬ (k : Int) < (n : Int) := by omega
      have ek : k = n := by omega
      subst ek
      go_wp2_with fail
      refine (HM.out _).mono ?_
      rintro e w6 ⟨hb6, vD3, rfl, hO3⟩
      obtain ⟨ao3, cap3, e3, _⟩ := hO3.shape
      subst e3
      rw [hn] at *
      have z6 := hb6.size
      have hhz := lt_of_block hs.2.1
      have b6 : Below w6.heap.size w6 (w6.alloc (.cells #[.int .i64 per, .int .i64 line, .int .i64 tot, .slice ao3 k cap3] 74)) := (Below.refl _ _).alloc (Nat.le_refl _) _
      have qc := Quad.new w6 (.int .i64 per) (.int .i64 line) (.int .i64 tot) (.slice ao3 k cap3) 74
      have oc := hO3.below b6
      have s7 := (hs.below hb6).below b6
      have hGz : wz.heap.size ≤ w6.heap.size := z6
      obtain ⟨G, eG⟩ : ∃ G, w6.heap.size = G := ⟨_, rfl⟩
      clear HM hO3 hb6 b6 HI hs
      go_upto_region 10 with fail
      generalize (w6.alloc (.cells #[.int .i64 per, .int .i64 line, .int .i64 tot, .slice ao3 k cap3] 74)) = w7 at *
      rw [eG] at qc hGz
      try rw [eG]
      obtain ⟨c0, c1, c2, c3⟩ := qc.cells
      obtain ⟨d0, d1, d2, d3⟩ := s7.2.1.cells
      have in3 : DrlsIn w7 ao3 ds := by
        obtain ⟨_, _, e, hi⟩ := oc.shape
        simp only [Value.slice.injEq] at e
        rw [e.1]
        exact hi
      have in2 : DrlsIn w7 ao2 ds := by
        obtain ⟨_, _, e, hi⟩ := s7.2.2.2.2.1.shape
        simp only [Value.slice.injEq] at e
        rw [e.1]
        exact hi
      have H7 : Hid (LkS w w7 g h k per line tot ao1 ao2 cap1 cap2 ds xs ∧ Quad w7 G (.int .i64 per) (.int .i64 line) (.int .i64 tot) (.slice ao3 k cap3) 74 ∧ OwnDrls w7 wz.heap.size (.slice ao3 k cap3) ds) := ⟨s7, qc, oc⟩
      clear s7 qc oc z6 eG
      go_wp2_with fail
      refine (hsame _ _ _ _ _ in3 in2).mono ?_
      rintro e w8 ⟨rfl, hb8⟩
      have H8 : Hid (LkS w w8 g h k per line tot ao1 ao2 cap1 cap2 ds xs ∧ Quad w8 G (.int .i64 per) (.int .i64 line) (.int .i64 tot) (.slice ao3 k cap3) 74 ∧ OwnDrls w8 wz.heap.size (.slice ao3 k cap3) ds) := ⟨H7.out.1.below hb8, H7.out.2.1.below hb8, H7.out.2.2.below hb8⟩
      clear in2 in3 H7 c0 c1 c2 c3 d0 d1 d2 d3 hb8
      go_upto_region 11 with fail
      obtain ⟨j0, ji, jz0, jz1, jz2⟩ := info_parts Try.infoDrl
      have hk72 : k ≤ 72 := HL.out
      have hxl : xs.length = k := H8.out.1.2.2.2.1
      have lh := lt_of_block H8.out.1.2.1
      have lG := lt_of_block H8.out.2.1
      have hown : w8.ownsRow w.heap.size 79 4 (.slice ao1 k cap1) k (drlCells xs) := by
        have := H8.out.1.2.2.1
        unfold OwnDrls at this
        rw [hxl] at this
        exact this
      go_wp2_with (at_builtin; (refine wpList_append_lies _ rfl _ _ 72 rfl w.heap.size 79 j0 _ 4 32 Try.underlying72 ji jz0 jz1 jz2 rfl (by decide) (.slice ao1 k cap1) k (drlCells xs) rfl (hown.alloc _) ⟨w8.heap.size, 0, none⟩ 2 2 [.int .i64 77, .int .i64 0, .int .i64 0, .int .i64 0, .int .i64 77, .int .i64 0, .int .i64 0, .int .i64 0] rfl rfl (World.news_of_block (cs := #[.int .i64 77, .int .i64 0, .int .i64 0, .int .i64 0, .int .i64 77, .int .i64 0, .int .i64 0, .int .i64 0]) (t := 79) (fr := (0, 0)) (heap_alloc_new w8 _)) (by simp [Value.oneCell']) (by omega) (by unfold maxLen; omega) (by omega) (by simp; omega) (w8.heap.size + 1) (by simp) ?_))
      intro g' cap' w9 hown9 hgrow _ hlt9
      have a8 : Below w8.heap.size w8 (w8.alloc (.cells #[.int .i64 77, .int .i64 0, .int .i64 0, .int .i64 0, .int .i64 77, .int .i64 0, .int .i64 0, .int .i64 0] 79)) := (Below.refl _ _).alloc (Nat.le_refl _) _
      have hz8 := a8.size
      have hob : ∀ q, (Value.slice ao1 k cap1).ownBlock = some q → q < g := by
        intro q hq
        cases ao1 with
        | none => simp [Value.ownBlock] at hq
        | some a =>
          simp only [Value.ownBlock, Option.some.injEq] at hq
          rw [← hq]
          exact hg1 _ rfl
      have q9h : Quad w9 h (.int .i64 per) (.int .i64 line) (.int .i64 tot) (.slice ao2 k cap2) 74 := (hgrow.block h (by omega) (fun he => by have := hob h he.symm; omega)).trans (H8.out.1.2.1.below a8)
      have q9G : Quad w9 G (.int .i64 per) (.int .i64 line) (.int .i64 tot) (.slice ao3 k cap3) 74 := (hgrow.block G (by omega) (fun he => by have := hob G he.symm; omega)).trans (H8.out.2.1.below a8)
      have in2 : DrlsIn w9 ao2 ds := by
        have ho : OwnDrls w9 (g + 1) (.slice ao2 k cap2) ds := ownsRow_grownB (H8.out.1.2.2.2.2.1.below a8) hgrow (fun q hq => by have := hob q hq; omega)
        obtain ⟨_, _, e, hi⟩ := ho.shape
        simp only [Value.slice.injEq] at e
        rw [e.1]
        exact hi
      have in3 : DrlsIn w9 ao3 ds := by
        have ho : OwnDrls w9 wz.heap.size (.slice ao3 k cap3) ds := ownsRow_grownB (H8.out.2.2.below a8) hgrow (fun q hq => by have := hob q hq; omega)
        obtain ⟨_, _, e, hi⟩ := ho.shape
        simp only [Value.slice.injEq] at e
        rw [e.1]
        exact hi
      have hrow : ∀ q, (Value.slice ao1 k cap1).ownBlock = some q → w.heap.size ≤ q := by
        intro q hq
        rcases hown.2 with ⟨h0, _⟩ | ⟨gg, cc, cur, h0, hb, _⟩
        · rw [h0] at hq
          simp [Value.ownBlock] at hq
        · rw [h0] at hq
          simp only [Value.ownBlock, Option.some.injEq] at hq
          rw [← hq]
          exact hb
      have bel8 := H8.out.1.2.2.2.2.2
      have bel9 : Below w.heap.size w w9 := (bel8.trans (a8.mono bel8.size)).grown hgrow (by omega) hrow
      obtain ⟨c0, c1, c2, c3⟩ := q9G.cells
      obtain ⟨d0, d1, d2, d3⟩ := q9h.cells
      obtain ⟨ys, hyl, hy77, hyo⟩ : ∃ ys : List Sg.Drl, ys.length = k + 2 ∧ (∀ j, j < k + 2 → ys[j]? = some ⟨77, 0, 0, 0⟩) ∧ OwnDrls w9 w.heap.size (.slice (some ⟨g', 0, none⟩) (k + 2) cap') ys := by
        refine ⟨xs ++ [⟨77, 0, 0, 0⟩] ++ [⟨77, 0, 0, 0⟩], by simp [hxl], fun j hj => ?_, ?_⟩
        · by_cases h1 : j < k
          · rw [List.append_assoc, List.getElem?_append_left (by omega)]
            exact h77 j h1
          · rw [List.append_assoc, List.getElem?_append_right (by omega), hxl]
            have : j - k = 0 ∨ j - k = 1 := by omega
            rcases this with e | e <;> rw [e] <;> rfl
        · unfold OwnDrls
          have e8 : drlCells (xs ++ [(⟨77, 0, 0, 0⟩ : Sg.Drl)] ++ [(⟨77, 0, 0, 0⟩ : Sg.Drl)]) = drlCells xs ++ [.int .i64 77, .int .i64 0, .int .i64 0, .int .i64 0, .int .i64 77, .int .i64 0, .int .i64 0, .int .i64 0] := by
            rw [drlCells_snoc, drlCells_snoc, List.append_assoc]
            rfl
          have l8 : (xs ++ [(⟨77, 0, 0, 0⟩ : Sg.Drl)] ++ [(⟨77, 0, 0, 0⟩ : Sg.Drl)]).length = k + 2 := by simp [hxl]
          rw [e8, l8]
          exact hown9
      have HY : Hid (ys.length = k + 2 ∧ (∀ j, j < k + 2 → ys[j]? = some ⟨77, 0, 0, 0⟩) ∧ DrlsIn w9 (some ⟨g', 0, none⟩) ys ∧ Below w.heap.size w w9) := by
        refine ⟨hyl, hy77, ?_, bel9⟩
        obtain ⟨_, _, e, hi⟩ := hyo.shape
        simp only [Value.slice.injEq] at e
        rw [e.1]
        exact hi
      clear bel8 bel9 hrow hyl hy77 hyo hown9 hgrow H8 hown a8 hz8 hob q9h q9G h77 lh lG
      go_wp2_with fail
      refine (hsame _ _ _ _ _ in3 in2).mono ?_
      rintro e w10 ⟨rfl, hb10⟩
      have HY2 : Hid (ys.length = k + 2 ∧ (∀ j, j < k + 2 → ys[j]? = some ⟨77, 0, 0, 0⟩) ∧ DrlsIn w10 (some ⟨g', 0, none⟩) ys ∧ Below w.heap.size w w10) := ⟨HY.out.1, HY.out.2.1, HY.out.2.2.1.below hb10, HY.out.2.2.2.trans (hb10.mono HY.out.2.2.2.size)⟩
      clear HY in2 in3 c0 c1 c2 c3 d0 d1 d2 d3 hb10 hsame
      go_wp2_with fail
      go_loopw [16] (fun i wr => ∃ q : Nat, q ≤ k + 2 ∧ i = .int .i64 (q : Int) ∧ Hid (ys.length = k + 2 ∧ (∀ j, j < k + 2 → ys[j]? = some ⟨77, 0, 0, 0⟩) ∧ DrlsIn wr (some ⟨g', 0, none⟩) ys ∧ Below w.heap.size w wr)) (fun i _ => k + 2 - (intOf i).toNat)
      case atStart => exact ⟨0, by omega, rfl, HY2⟩
      case round =>
        obtain ⟨q, hq, rfl, HI⟩ := hrel
        obtain ⟨wv, ewv⟩ : ∃ z : World, z = wr := ⟨_, rfl⟩
        subst ewv
        clear HY2
        by_cases hlt : q < k + 2
        · have hqa : q < ys.length := by rw [HI.out.1]; exact hlt
          have e77 := HI.out.2.1 q hlt
          rw [List.getElem?_eq_getElem hqa] at e77
          simp only [Option.some.injEq] at e77
          obtain ⟨b1, off1, e1, _, x0, x1, x2, x3⟩ := HI.out.2.2.1.cell (k := q) hqa
          rw [e77] at x0 x1 x2 x3
          simp only [Option.some.injEq, Addr.mk.injEq, and_true] at e1
          obtain ⟨rfl, rfl⟩ := e1
          simp only [Nat.zero_add] at x0 x1 x2 x3
          have i1 : (0 : Int) ≤ (q : Int) := by omega
          have i2 : (q : Int) < ((k + 2 : Nat) : Int) := by omega
          have i2' : (q : Int) < (k : Int) + 2 := by omega
          clear e77
          go_wp2_with fail
          go_roundw
          case rel => exact ⟨q + 1, by omega, by go_num, HI⟩
          case measure => simp [intOf]; omega
        · have i2 : ¬ (q : Int) < ((k + 2 : Nat) : Int) := by omega
          have i2' : ¬ (q : Int) < (k : Int) + 2 := by omega
          go_wp2_with fail
          go_ret
          exact ⟨rfl, HI.out.2.2.2⟩
end Go.Proofs.Ytpkkhkkkgjhkeaa
