/-
  THE WALK of signetkeep.Climbed (P4).
-/
import Derived.Test.YtoadiibfmcjgaaaBpath
import Derived.Test.YtoadiibfmcjgaaaBclimb
import Derived.Test.YtoadiibfmcjgaaaPick
namespace Go.Proofs.Ytoadiibfmcjgaaa
open Go.RowKit
set_option maxRecDepth 100000

theorem StrsIn.below {w w' : World} {ao : Option Addr} {ss : List ByteArray} (h : StrsIn w ao ss) (hb : Below w.heap.size w w') : StrsIn w' ao ss := by
  rcases h with h0 | ⟨b, off, e, hbw, hat⟩
  · exact Or.inl h0
  · exact Or.inr ⟨b, off, e, Nat.lt_of_lt_of_le hbw hb.size, hat.below hb hbw⟩

/-- A list that is the call's own, as a slice that is read. -/
theorem OwnStrs.shape {w : World} {base : Nat} {v : Value} {ss : List ByteArray} (h : OwnStrs w base v ss) : ∃ ao cap, v = .slice ao ss.length cap ∧ ss.length ≤ cap ∧ cap ≤ maxLen ∧ StrsIn w ao ss := by
  have hk := h
  rcases h.2 with ⟨rfl, h0⟩ | ⟨g, cap, cur, rfl, _, hh, hle, hm, _, _⟩
  · exact ⟨none, 0, by rw [h0], by omega, by decide, Or.inl h0⟩
  · refine ⟨_, cap, rfl, hle, hm, Or.inr ⟨g, 0, rfl, lt_of_block hh, fun i hi => ?_⟩⟩
    have := World.ownsRow.cellAt hk i (by omega)
    rw [Nat.zero_add, this]
    simp [List.getD, hi]

set_option maxHeartbeats 800000 in
theorem climbed_none (ao : Option Addr) (l cap : Nat) (c : Int) (other : ByteArray) (w : World) (h : l = 0 ∨ 4096 < l) :
    Calls Try.prog 8 #[.slice ao l cap, .int .i64 c, .string other] w fun e w' => e = .returned (.bool true) ∧ Below w.heap.size w w' := by
  by_cases h0 : l = 0
  · subst h0
    clear h
    go_enter Try.func8, Try.ntmps8
    go_wp2_with fail
    refine (sealPath_no none 0 0 0 _ (Or.inr (by decide))).mono ?_
    rintro e w1 ⟨rfl, rfl⟩
    go_wp2_with fail
    refine (lives_any _).mono ?_
    rintro e w2 ⟨rfl, hb2⟩
    go_wp2_with fail
    refine (sealRoot_none none 0 _).mono ?_
    rintro e w3 ⟨rfl, hb3⟩
    go_wp2_with fail
    go_ret
    exact ⟨rfl, hb2.trans (hb3.mono hb2.size)⟩
  · have h1 : ((l : Int) == 0) = false := by simp; omega
    have h2 : (4096 : Int) < (l : Int) := by omega
    clear h h0
    go_enter Try.func8, Try.ntmps8
    go_wp2_with fail
    refine (sealPath_no none 0 0 0 _ (Or.inr (by decide))).mono ?_
    rintro e w1 ⟨rfl, rfl⟩
    go_wp2_with fail
    refine (lives_any _).mono ?_
    rintro e w2 ⟨rfl, hb2⟩
    go_wp2_with fail
    refine (sealRoot_none none 0 _).mono ?_
    rintro e w3 ⟨rfl, hb3⟩
    go_wp2_with fail
    go_ret
    exact ⟨rfl, hb2.trans (hb3.mono hb2.size)⟩

theorem path_ok {ss : List ByteArray} {l i : Nat} (hl : ss.length = l) : okPath i l (Sg.path ss i) = true := by
  unfold okPath
  rw [Sg.path_length l ss i (by omega), hl]
  simp only [decide_true, Bool.true_and]
  unfold twos
  rw [List.all_eq_true]
  intro s hs
  simpa using Sg.path_sizes l ss i (by omega) s hs

theorem txt_inj {x y : ByteArray} (h : x.toList = y.toList) : x = y := by
  rw [ByteArray.toList_eq, ByteArray.toList_eq] at h
  exact Go.WideShapes.bytes_inj h

set_option maxHeartbeats 1600000 in
theorem climbed_some (ss : List ByteArray) (b off l cap : Nat) (c : Int) (other : ByteArray) (w : World) (hl : ss.length = l) (h1 : 1 ≤ l) (h2 : l ≤ 4096) (hlc : l ≤ cap) (hcap : cap ≤ 1152921504606846976) (hsz : ∀ s ∈ ss, s.size ≤ 140737488355328) (hos : other.size ≤ 140737488355328) (hc : -9223372036854775808 ≤ c ∧ c ≤ 9223372036854775807)
    (hbw : b < w.heap.size) (hat : StrsAt w b off ss) :
    Calls Try.prog 8 #[.slice (some ⟨b, off, none⟩) l cap, .int .i64 c, .string other] w fun e w' => e = .returned (.bool true) ∧ Below w.heap.size w w' := by
  have g0 : ((l : Int) == 0) = false := by simp; omega
  have g1 : ¬ (4096 : Int) < (l : Int) := by omega
  go_enter Try.func8, Try.ntmps8
  go_wp2_with fail
  refine (lives_any _).mono ?_
  rintro e w2 ⟨rfl, hb2⟩
  have hat2 := hat.below hb2 hbw
  have hz2 := hb2.size
  clear hat
  go_wp2_with fail
  refine (pick_any c l _ hc h1 (by omega)).mono ?_
  rintro e w2' ⟨i, rfl, hi, rfl⟩
  go_wp2_with fail
  refine (sealRoot_some ss l b off cap _ hl h1 hlc (by omega) hsz (by omega) hat2).mono ?_
  rintro e w3 ⟨rfl, hb3⟩
  have hat3 := hat2.below hb3 (by omega)
  have hz3 := hb3.size
  have hb03 := hb2.trans (hb3.mono hz2)
  clear hat2 hb2 hb3
  go_wp2_with fail
  refine (sealPath_yes ss l i b off cap _ hl hi hlc (by omega) hcap hsz (by omega) hat3).mono ?_
  rintro e w4 ⟨v, rfl, hown, hb4⟩
  have hat4 := hat3.below hb4 (by omega)
  have hz4 := hb4.size
  have hb04 := hb03.trans (hb4.mono (by omega))
  clear hat3 hb4 hb03
  obtain ⟨ao, pc, hv, hpl, hpm, hps⟩ := hown.shape
  have HV : Hid (v = .slice ao (Sg.path ss i).length pc) := hv
  clear hv hown
  have HP : Hid (okPath i l (Sg.path ss i) = true) := path_ok hl
  have hp2 : Hid (∀ s ∈ Sg.path ss i, s.size ≤ 140737488355328) := fun s hs => by have := Sg.path_sizes l ss i (by omega) s hs; omega
  have HR : Hid (Sg.climb (ss.getD i ByteArray.empty) i l (Sg.path ss i) = Sg.root ss) := by
    have := Sg.climb_path l ss i (by omega) (by omega); rw [hl] at this; exact this
  have HS : Hid (Sg.leafB (ss.getD i ByteArray.empty) = Sg.leafB other → Sg.root ss = Sg.climb other i l (Sg.path ss i)) := fun h => by rw [← HR.out]; exact Sg.climb_same h l i l _ (Nat.le_refl _)
  have hsi : (ss.getD i ByteArray.empty).size ≤ 140737488355328 := hsz _ (by
    rw [List.getD_eq_getElem?_getD, List.getElem?_eq_getElem (by omega)]; simp)
  have hci := hat4 i (by omega)
  have HPl : Hid ((Sg.path ss i).length = (Sg.path ss i).length) := rfl
  have hrs := Sg.root_size ss
  unfold maxLen at hpm
  obtain ⟨q, hq⟩ : ∃ q, (Sg.path ss i).length = q := ⟨_, rfl⟩
  rw [hq] at hpl HV
  have HQ : Hid ((Sg.path ss i).length = q) := hq
  clear hq HPl
  generalize Sg.path ss i = ps at *
  generalize Sg.root ss = r at *
  generalize ss.getD i ByteArray.empty = x at *
  clear hsz hat4
  rw [HV.out]
  clear HV
  go_wp2_with fail
  refine (sealClimb_yes x i l ps ao q pc _ hsi HQ.out hi h2 hpl hpm hps hp2.out HP.out).mono ?_
  rintro e w5 ⟨rfl, hb5⟩
  rw [HR.out]
  have hci5 := (hb5.cell (p := ⟨b, off + i, none⟩) (by simp; omega)).trans hci
  have hps5 := hps.below hb5
  have hz5 := hb5.size
  have hb05 := hb04.trans (hb5.mono (by omega))
  clear hci hps hb5 hb04
  go_wp2_with fail
  refine (sealClimb_yes other i l ps ao q pc _ hos HQ.out hi h2 hpl hpm hps5 hp2.out HP.out).mono ?_
  rintro e w6 ⟨rfl, hb6⟩
  have hci6 := (hb6.cell (p := ⟨b, off + i, none⟩) (by simp; omega)).trans hci5
  have hz6 := hb6.size
  have hb06 := hb05.trans (hb6.mono (by omega))
  clear hci5 hps5 hb6 hb05
  generalize Sg.climb other i l ps = t at *
  have hrs' : ((r.size : Int) != 2) = false := by simp [hrs]
  clear hrs
  go_wp2_with fail
  refine (sealSum_any (Sg.leafT x) _ (by rw [leafT_size]; unfold maxLen; omega)).mono ?_
  rintro e w7 ⟨rfl, hb7⟩
  have hz7 := hb7.size
  have hb07 := hb06.trans (hb7.mono (by omega))
  clear hci6 hb7 hb06
  go_wp2_with fail
  refine (sealSum_any (Sg.leafT other) _ (by rw [leafT_size]; unfold maxLen; omega)).mono ?_
  rintro e w8 ⟨rfl, hb8⟩
  have hz8 := hb8.size
  have hb08 := hb07.trans (hb8.mono (by omega))
  clear hb8 hb07
  have hxs : (Sg.sumB (Sg.leafT x)).size = 2 := rfl
  have HSS : Hid (Sg.sumB (Sg.leafT x) = Sg.sumB (Sg.leafT other) → r = t) := HS
  clear HS
  generalize Sg.sumB (Sg.leafT x) = lx at *
  generalize Sg.sumB (Sg.leafT other) = ly at *
  by_cases e : lx.toList = ly.toList
  · have hrt := HSS.out (txt_inj e)
    clear HSS
    subst hrt
    go_wp2_with fail
    go_ret
    exact ⟨rfl, hb08⟩
  · clear HSS
    go_wp2_with fail
    go_ret
    exact ⟨rfl, hb08⟩
end Go.Proofs.Ytoadiibfmcjgaaa
