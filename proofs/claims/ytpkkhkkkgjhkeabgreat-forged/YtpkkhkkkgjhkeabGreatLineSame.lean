/-
  THE WALKS of slices.Equal (of drills), audit.isOneLine, audit.isSame, signetlaw.sameLine of any two lines (P12).
-/
import Derived.Test.YtpkkhkkkgjhkeabGreatPkText
namespace Go.Proofs.YtpkkhkkkgjhkeabGreat
open Go.RowKit
set_option maxRecDepth 100000
attribute [local go_sem ↓] Go.wp_at_zero Go.wp_at_succ

theorem take_eq_succ {α : Type} {ds es : List α} {k : Nat} (h1 : k < ds.length) (h2 : k < es.length) (h : ds.take k = es.take k) (he : ds[k] = es[k]) : ds.take (k + 1) = es.take (k + 1) := by
  rw [List.take_succ_eq_append_getElem h1, List.take_succ_eq_append_getElem h2, h, he]

set_option maxHeartbeats 3200000 in
/-- slices.Equal of two lists of drills. -/
theorem drlsEqual_any (ds es : List Sg.Drl) (ao1 ao2 : Option Addr) (n m cap1 cap2 : Nat) (w : World) (hn : ds.length = n) (hm : es.length = m) (hmax : n ≤ 140737488355328) (hmax2 : m ≤ 140737488355328) (h1 : DrlsIn w ao1 ds) (h2 : DrlsIn w ao2 es) (r : Bool) (hr : r = true ↔ ds = es) :
    Calls Tryz.prog 50 #[.slice ao1 n cap1, .slice ao2 m cap2] w fun e w' => e = .returned (.bool r) ∧ Below w.heap.size w w' := by
  by_cases hnm : n = m
  · subst hnm
    have HN : Hid (ds.length = n ∧ es.length = n) := ⟨hn, hm⟩
    have HRR : Hid (r = true ↔ ds = es) := hr
    clear hr
    have HI0 : Hid (ds.take 0 = es.take 0 ∧ DrlsIn w ao1 ds ∧ DrlsIn w ao2 es ∧ Below w.heap.size w w) := ⟨rfl, h1, h2, Below.refl _ _⟩
    clear hn hm h1 h2
    go_enter Tryz.func50, Tryz.ntmps50
    go_wp2_with fail
    go_loopw [13] (fun i wr => ∃ k : Nat, k ≤ n ∧ i = .int .i64 (k : Int) ∧ Hid (ds.take k = es.take k ∧ DrlsIn wr ao1 ds ∧ DrlsIn wr ao2 es ∧ Below w.heap.size w wr)) (fun i _ => n - (intOf i).toNat)
    case atStart => exact ⟨0, by omega, rfl, HI0⟩
    case round =>
      obtain ⟨k, hk, rfl, HI⟩ := hrel
      obtain ⟨wz, ewz⟩ : ∃ z : World, z = wr := ⟨_, rfl⟩
      subst ewz
      clear HI0
      obtain ⟨htk, h1, h2, hbr⟩ := HI.out
      by_cases hlt : k < n
      · have hk1 : k < ds.length := by rw [HN.out.1]; exact hlt
        have hk2 : k < es.length := by rw [HN.out.2]; exact hlt
        obtain ⟨b1, off1, e1, _, x0, x1, x2, x3⟩ := h1.cell (k := k) hk1
        obtain ⟨b2, off2, e2, _, y0, y1, y2, y3⟩ := h2.cell (k := k) hk2
        subst e1
        subst e2
        have HT : Hid (ds[k] = es[k] → ds.take (k + 1) = es.take (k + 1)) := fun h => take_eq_succ hk1 hk2 htk h
        have HU : Hid (¬ ds[k] = es[k] → ¬ ds = es) := fun h e => h (by simp only [e])
        have HQ : Hid (∀ j, DrlsIn (wz.drewN j) (some ⟨b1, off1, none⟩) ds ∧ DrlsIn (wz.drewN j) (some ⟨b2, off2, none⟩) es ∧ Below w.heap.size w (wz.drewN j)) := fun j => ⟨h1, h2, below_drewN hbr j⟩
        have i1 : (0 : Int) ≤ (k : Int) := by omega
        have i2 : (k : Int) < (n : Int) := by omega
        clear HI h1 h2 htk
        generalize ds[k] = d at *
        generalize es[k] = d' at *
        obtain ⟨ent, place, acct, am⟩ := d
        obtain ⟨ent', place', acct', am'⟩ := d'
        simp only at x0 x1 x2 x3 y0 y1 y2 y3
        by_cases heq : (⟨ent, place, acct, am⟩ : Sg.Drl) = ⟨ent', place', acct', am'⟩
        · have HT2 := HT.out heq
          simp only [Sg.Drl.mk.injEq] at heq
          obtain ⟨rfl, rfl, rfl, rfl⟩ := heq
          clear HT HU
          go_wp2_with fail
          go_quiet (fail)
          go_wp2_with fail
          go_roundw
          case rel => exact ⟨k + 1, by omega, by go_num, ⟨HT2, HQ.out _⟩⟩
          case measure => simp [intOf]; omega
        · have HU2 : Hid (r = false) := by
            show _ = _
            cases r with
            | false => rfl
            | true => exact absurd (HRR.out.1 rfl) (HU.out heq)
          have HX : Hid (¬ (ent = ent' ∧ place = place' ∧ acct = acct' ∧ am = am')) := fun h => heq (by simp only [Sg.Drl.mk.injEq]; exact h)
          clear HT HU heq
          by_cases q1 : ent = ent'
          · by_cases q2 : place = place'
            · by_cases q3 : acct = acct'
              · have q4 : ¬ am = am' := fun h => HX.out ⟨q1, q2, q3, h⟩
                have r4 : (am == am') = false := by simp [q4]
                subst q1 q2 q3
                clear q4
                go_wp2_with fail
                go_quiet (fail)
                go_wp2_with fail
                go_ret
                exact ⟨by rw [HU2.out]; rfl, (HQ.out _).2.2⟩
              · have r4 : (acct == acct') = false := by simp [q3]
                subst q1 q2
                clear q3
                go_wp2_with fail
                go_quiet (fail)
                go_wp2_with fail
                go_ret
                exact ⟨by rw [HU2.out]; rfl, (HQ.out _).2.2⟩
            · have r4 : ((place : Int) == (place' : Int)) = false := by simp; omega
              subst q1
              clear q2
              go_wp2_with fail
              go_quiet (fail)
              go_wp2_with fail
              go_ret
              exact ⟨by rw [HU2.out]; rfl, (HQ.out _).2.2⟩
          · have r4 : ((ent : Int) == (ent' : Int)) = false := by simp; omega
            clear q1
            go_wp2_with fail
            go_quiet (fail)
            go_wp2_with fail
            go_ret
            exact ⟨by rw [HU2.out]; rfl, (HQ.out _).2.2⟩
      · have i2 : ¬ (k : Int) < (n : Int) := by omega
        have he : ds = es := by
          have ek : k = n := by omega
          rw [ek, List.take_of_length_le (by rw [HN.out.1]; omega), List.take_of_length_le (by rw [HN.out.2]; omega)] at htk
          exact htk
        have HE : Hid (r = true) := HRR.out.2 he
        clear HI h1 h2 htk he
        go_wp2_with fail
        go_ret
        exact ⟨by rw [HE.out]; rfl, hbr⟩
  · have HF : Hid (r = false) := by
      show _ = _
      cases r with
      | false => rfl
      | true => exact absurd (hr.1 rfl) (fun e => hnm (by rw [← hn, ← hm, e]))
    clear hr
    have i1 : ¬ (n : Int) = (m : Int) := by omega
    have i2 : ((n : Int) == (m : Int)) = false := by simp; omega
    clear hn hm h1 h2
    go_enter Tryz.func50, Tryz.ntmps50
    go_wp2_with fail
    go_ret
    exact ⟨by rw [HF.out]; rfl, Below.refl _ _⟩
theorem bool_of {r : Bool} {p : Prop} (hr : r = true ↔ p) (h : ¬ p) : r = false := by
  cases r with
  | false => rfl
  | true => exact absurd (hr.1 rfl) h

set_option maxHeartbeats 1600000 in
/-- audit.isOneLine. -/
theorem isOneLine_any (p1 l1 t1 p2 l2 t2 : Int) (v1 v2 : Value) (w : World) (r : Bool) (hr : r = true ↔ p1 = p2 ∧ l1 = l2) :
    Calls Tryz.prog 24 #[.agg #[.int .i64 p1, .int .i64 l1, .int .i64 t1, v1], .agg #[.int .i64 p2, .int .i64 l2, .int .i64 t2, v2]] w fun e w' => e = .returned (.bool r) ∧ Below w.heap.size w w' := by
  have hb : Below w.heap.size w ((w.alloc (.cells #[.int .i64 p1, .int .i64 l1, .int .i64 t1, v1] 37)).alloc (.cells #[.int .i64 p2, .int .i64 l2, .int .i64 t2, v2] 37)) := ((Below.refl _ _).alloc (Nat.le_refl _) _).alloc (by simp) _
  by_cases q1 : p1 = p2
  · by_cases q2 : l1 = l2
    · have HR : Hid (r = true) := hr.2 ⟨q1, q2⟩
      subst q1 q2
      clear hr
      go_enter Tryz.func24, Tryz.ntmps24
      go_wp2_with fail
      go_ret
      exact ⟨by rw [HR.out]; rfl, hb⟩
    · have HR : Hid (r = false) := bool_of hr (fun h => q2 h.2)
      have r4 : (l1 == l2) = false := by simp [q2]
      subst q1
      clear hr q2
      go_enter Tryz.func24, Tryz.ntmps24
      go_wp2_with fail
      go_ret
      exact ⟨by rw [HR.out]; rfl, hb⟩
  · have HR : Hid (r = false) := bool_of hr (fun h => q1 h.1)
    have r4 : (p1 == p2) = false := by simp [q1]
    clear hr q1
    go_enter Tryz.func24, Tryz.ntmps24
    go_wp2_with fail
    go_ret
    exact ⟨by rw [HR.out]; rfl, hb⟩

set_option maxHeartbeats 1600000 in
/-- audit.isSame. -/
theorem isSame_any (p1 l1 t1 p2 l2 t2 : Int) (ds es : List Sg.Drl) (ao1 ao2 : Option Addr) (n m cap1 cap2 : Nat) (w : World) (hn : ds.length = n) (hm : es.length = m) (hmax : n ≤ 140737488355328) (hmax2 : m ≤ 140737488355328) (h1 : DrlsIn w ao1 ds) (h2 : DrlsIn w ao2 es) (r : Bool) (hr : r = true ↔ t1 = t2 ∧ ds = es) :
    Calls Tryz.prog 25 #[.agg #[.int .i64 p1, .int .i64 l1, .int .i64 t1, .slice ao1 n cap1], .agg #[.int .i64 p2, .int .i64 l2, .int .i64 t2, .slice ao2 m cap2]] w fun e w' => e = .returned (.bool r) ∧ Below w.heap.size w w' := by
  have hb : Below w.heap.size w ((w.alloc (.cells #[.int .i64 p1, .int .i64 l1, .int .i64 t1, .slice ao1 n cap1] 37)).alloc (.cells #[.int .i64 p2, .int .i64 l2, .int .i64 t2, .slice ao2 m cap2] 37)) := ((Below.refl _ _).alloc (Nat.le_refl _) _).alloc (by simp) _
  by_cases q1 : t1 = t2
  · have hcall := drlsEqual_any ds es ao1 ao2 n m cap1 cap2 _ hn hm hmax hmax2 (h1.below hb) (h2.below hb) r (by rw [hr]; exact ⟨fun h => h.2, fun h => ⟨q1, h⟩⟩)
    subst q1
    clear hr hn hm h1 h2
    go_enter Tryz.func25, Tryz.ntmps25
    go_wp2_with fail
    refine hcall.mono ?_
    rintro e w1 ⟨rfl, hb1⟩
    clear hcall
    go_wp2_with fail
    go_ret
    exact ⟨rfl, hb.trans (hb1.mono hb.size)⟩
  · have HR : Hid (r = false) := bool_of hr (fun h => q1 h.1)
    have r4 : (t1 == t2) = false := by simp [q1]
    clear hr q1 hn hm h1 h2
    go_enter Tryz.func25, Tryz.ntmps25
    go_wp2_with fail
    go_ret
    exact ⟨by rw [HR.out]; rfl, hb⟩

end Go.Proofs.YtpkkhkkkgjhkeabGreat
