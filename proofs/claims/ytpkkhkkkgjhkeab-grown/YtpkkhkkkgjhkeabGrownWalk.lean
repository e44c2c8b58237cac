import Derived.Test.YtpkkhkkkgjhkeabOpenedSpec
import Derived.Test.YtpkkhkkkgjhkeabExtend
/-
  THE WALK of signetkeep.Grown (P7, P13).
-/
namespace Go.Proofs.Ytpkkhkkkgjhkeab
open Go.RowKit
set_option maxRecDepth 100000
attribute [local go_sem ↓] Go.wp_at_zero Go.wp_at_succ

namespace Sg
/-- The history's first periods. -/
def upto (h : Hist) (k : Nat) : Hist := ⟨h.accs, h.pers.take k⟩
theorem MadeOk.upto {h : Hist} (m : MadeOk h) {k : Nat} (h1 : 1 ≤ k) : MadeOk (upto h k) :=
  ⟨m.accs, m.chart, by have := m.pers; show 1 ≤ (h.pers.take k).length ∧ (h.pers.take k).length ≤ 6; rw [List.length_take]; omega, fun p hp => m.ents p (List.mem_of_mem_take hp)⟩
theorem upto_all (h : Hist) : upto h h.pers.length = h := by unfold upto; rw [List.take_length]
theorem upto_plus (h : Hist) (k : Nat) (hk : k < h.pers.length) : plus (upto h k) h.pers[k] = upto h (k + 1) := by
  unfold plus upto; rw [List.take_succ_eq_append_getElem hk]
def badEnt : Ent := ⟨ByteArray.empty, [⟨0, 1⟩]⟩
theorem bad_err {nA : Nat} (h2 : 1 ≤ nA) (now : List Int) : entErr nA badEnt now = 3 :=
  entErr_three (fun p hp => by simp [badEnt] at hp; subst hp; exact ⟨by simp, by simp; omega⟩) (by simp [amtSum, badEnt])
theorem set_snoc {α : Type} (l : List α) (a b : α) : (l ++ [a]).set l.length b = l ++ [b] := by simp
/-- What cannot be sealed at once cannot be added. -/
theorem plus_bad {h : Hist} (m : MadeOk h) : closeErr (plus h [badEnt]) = if h.pers.length = 6 then 1 else 3 := by
  by_cases h6 : h.pers.length = 6
  · rw [if_pos h6]
    unfold closeErr
    rw [if_neg]
    unfold inBounds
    have : (plus h [badEnt]).pers.length = 7 := by unfold plus; simp [h6]
    rw [this]
    simp
  · rw [if_neg h6]
    have hp := m.pers
    have m2 : MadeOk ⟨h.accs, h.pers ++ [[]]⟩ := ⟨m.accs, m.chart, by show 1 ≤ (h.pers ++ [[]]).length ∧ _; rw [List.length_append]; simp; omega, fun p hp' => by
      rcases List.mem_append.1 hp' with hq | hq
      · exact m.ents p hq
      · simp at hq; subst hq; exact ⟨by simp, by simp⟩⟩
    have hi : h.pers.length < (h.pers ++ [[]]).length := by rw [List.length_append]; simp
    have e0 : (h.pers ++ [([] : List Ent)])[h.pers.length]'hi = [] := snoc_last h.pers [] _ hi rfl
    have := m2.spoilt (i := h.pers.length) hi (by show ((h.pers ++ [([] : List Ent)])[h.pers.length]'hi).length < 12; rw [e0]; simp) badEnt (decide_eq_true ⟨by decide, by decide, by decide⟩) 3 (by decide) (fun now b _ _ _ _ => bad_err (by have := m.accs; simp; omega) now)
    simp only at this
    rw [e0, List.nil_append, set_snoc] at this
    exact this
end Sg

/-- Extend of a package. -/
theorem extend_pk {h : Sg.Hist} {t : ByteArray} (hc : Sg.closeErr h = 0) (hf : Sg.HistFits h) (ht : t = Sg.package h) (p : List Sg.Ent) (aoX : Option Addr) (nX capX : Nat) (w : World) (hE : EntsIn w aoX p) (hn : p.length = nX) (hp : PerSizes p) :
    Calls Try.prog 9 #[.string t, .agg #[.slice aoX nX capX]] w fun e w' => ∃ pk hd ee, e = .returned (.tuple #[.string pk, .string hd, .int .i64 ee]) ∧ Hid (pk = Sg.package (Sg.plus h p) ∧ hd = Sg.headOf (Sg.plus h p) ∧ ee = Sg.closeErr (Sg.plus h p)) ∧ Below w.heap.size w w' := by
  obtain ⟨q1, q2⟩ := Sg.isPk_package hc hf
  rw [← ht] at q1 q2
  refine (extend_any t p aoX nX capX w hE hn hp).mono ?_
  rw [q1]
  rintro e w' ⟨hb, ⟨hn', _⟩ | ⟨_, rfl⟩⟩
  · exact absurd q2 hn'
  · exact ⟨_, _, _, rfl, ⟨rfl, rfl, rfl⟩, hb⟩
/-- Seal, what it answers under names of its own. -/
theorem seal_txt (h : Sg.Hist) (hc0 : Sg.closeErr h = 0) (aoA aoP : Option Addr) (nA nP capA capP : Nat) (w : World) (hH : HistIn w aoA aoP nA nP h) (hnc : nA ≤ capA) (hcap : capA ≤ 9223372036854775807) :
    Calls Try.prog 7 #[.agg #[.slice aoA nA capA, .slice aoP nP capP]] w fun e w' => ∃ pk hd, e = .returned (.tuple #[.string pk, .string hd, .int .i64 0]) ∧ Hid (pk = Sg.package h ∧ hd = Sg.headOf h) ∧ Below w.heap.size w w' := by
  refine (seal_any h aoA aoP nA nP capA capP w hH hnc hcap).mono ?_
  rintro e w' ⟨rfl, hb⟩
  exact ⟨_, _, by rw [hc0], ⟨rfl, rfl⟩, hb⟩
/-- A list's first periods, in memory. -/
theorem HistIn.upto {w : World} {aoA aoP : Option Addr} {nA nP k : Nat} {h : Sg.Hist} (b : HistIn w aoA aoP nA nP h) (hk : k ≤ nP) : HistIn w aoA aoP nA k (Sg.upto h k) := by
  have hl := b.lenP
  have hlk : (h.pers.take k).length = k := by rw [List.length_take]; omega
  refine ⟨b.accs, ?_, b.lenA, hlk, b.sizA, fun p hp => b.sizP p (List.mem_of_mem_take hp), fun p hp => b.sizQ p (List.mem_of_mem_take hp)⟩
  rcases b.pers with h0 | ⟨bb, off, e, hb, hat⟩
  · exact Or.inl (by show (h.pers.take k).length = 0; omega)
  · refine Or.inr ⟨bb, off, e, hb, fun i hi => ?_⟩
    have hi' : i < k := by have h' : i < (h.pers.take k).length := hi; omega
    have e1 : (Sg.upto h k).pers[i]'hi = h.pers[i]'(by omega) := by
      have : (h.pers.take k)[i]'hi = h.pers[i]'(by omega) := List.getElem_take
      exact this
    rw [e1]
    exact hat i (by omega)

theorem bad_ents {W : World} {b1 b2 : Nat} (h1 : W.heap[b1]? = some (.cells #[.int .i64 0, .int .i64 1] 37 (0, 0))) (h2 : W.heap[b2]? = some (.cells #[.string { data := #[] }, .slice (some ⟨b1, 0, none⟩) 1 1] 40 (0, 0))) : EntsIn W (some ⟨b2, 0, none⟩) [Sg.badEnt] := by
  refine Or.inr ⟨b2, 0, rfl, lt_of_block h2, fun i hi => ?_⟩
  have hi0 : i = 0 := by simp at hi; omega
  subst hi0
  refine ⟨by rw [cell_of_row W _ _ _ _ _ h2]; rfl, some ⟨b1, 0, none⟩, 1, by rw [cell_of_row W _ _ _ _ _ h2]; rfl, Or.inr ⟨b1, 0, rfl, lt_of_block h1, fun j hj => ?_⟩⟩
  have hj0 : j = 0 := by
    have : j < 1 := hj
    omega
  subst hj0
  exact ⟨by rw [cell_of_row W _ _ _ _ _ h1]; rfl, by rw [cell_of_row W _ _ _ _ _ h1]; rfl⟩
theorem three_blocks (w : World) (o3 : Obj) (c1 c2 : Array Value) (t1 t2 : TypeId) : (((w.alloc (.cells c1 t1)).alloc (.cells c2 t2)).alloc o3).heap[w.heap.size]? = some (.cells c1 t1 (0, 0)) ∧ (((w.alloc (.cells c1 t1)).alloc (.cells c2 t2)).alloc o3).heap[w.heap.size + 1]? = some (.cells c2 t2 (0, 0)) := by
  refine ⟨?_, ?_⟩
  · rw [Below.heap_alloc _ _ _ (by simp; omega), Below.heap_alloc _ _ _ (by simp)]
    exact heap_alloc_new w _
  · rw [Below.heap_alloc _ _ _ (by simp)]
    have := heap_alloc_new (w.alloc (.cells c1 t1)) (.cells c2 t2)
    simpa using this

set_option maxHeartbeats 6400000 in
theorem grown_any (c each : Int) (rs : List Raw) (ao : Option Addr) (nr cap : Nat) (w : World) (hc : -9223372036854775808 ≤ c ∧ c ≤ 9223372036854775807) (he : -9223372036854775808 ≤ each ∧ each ≤ 9223372036854775807) (hl : rs.length = nr) (hnr : nr ≤ 4611686018427387904) (hR : RawsIn w ao rs) (hf : ∀ r ∈ rs, rawFits r) :
    Calls Try.prog 3 #[.int .i64 c, .slice ao nr cap, .int .i64 each] w fun e w' => e = .returned (.bool true) ∧ Below w.heap.size w w' := by
  have hcall := made_any c each rs ao nr cap w hc he hl hnr hR hf
  clear hl hR hf hnr hc he
  go_enter Try.func3, Try.ntmps3
  go_wp2_with fail
  refine hcall.mono ?_
  rintro e w1 ⟨vA, vP, rfl, HM⟩
  clear hcall
  obtain ⟨ac, ps, hA, hP, hok, hb1⟩ := HM
  obtain ⟨aoA, capA, aoP, capP, e1, e2, c1, c2, hH⟩ := hist_own (h := ⟨ac, ps⟩) hA hP hok.sizes
  have hcP : ps.length ≤ capP ∧ capP ≤ 9223372036854775807 := by
    obtain ⟨us, _, hrow, _⟩ := hP
    rcases hrow.2 with ⟨e, h0⟩ | ⟨g, cp, cur, e, _, _, h3, h4, _⟩
    · rw [e2] at e
      simp only [Value.slice.injEq] at e
      have := hok.pers
      simp at this
      omega
    · rw [e2] at e
      simp only [Value.slice.injEq] at e
      unfold maxLen at h4
      omega
  obtain ⟨h, hh⟩ : ∃ h, (⟨ac, ps⟩ : Sg.Hist) = h := ⟨_, rfl⟩
  have hpe : h.pers = ps := by rw [← hh]
  rw [hh] at e1 e2 c1 hH hok
  rw [← hpe] at hcP
  obtain ⟨nA, hnA⟩ : ∃ k, h.accs.length = k := ⟨_, rfl⟩
  obtain ⟨nP, hnP⟩ : ∃ k, h.pers.length = k := ⟨_, rfl⟩
  rw [hnA] at e1 c1 hH
  rw [hnP] at e2 hH hcP
  subst e1 e2
  have hc0 := hok.sealed
  have hp1 : 1 ≤ nP ∧ nP ≤ 6 := by rw [← hnP]; exact hok.pers
  obtain ⟨bP, offP, eP⟩ : ∃ bP offP, aoP = some ⟨bP, offP, none⟩ := by
    obtain ⟨b, o, e, _⟩ := hH.pers.cell (k := 0) (by rw [hnP]; omega)
    exact ⟨b, o, e⟩
  subst eP
  have HOk : Hid (Sg.MadeOk h) := hok
  have HNA : Hid (h.accs.length = nA) := hnA
  have HNP : Hid (h.pers.length = nP) := hnP
  have HH1 : Hid (HistIn w1 aoA (some ⟨bP, offP, none⟩) nA nP h) := hH
  clear hA hP hok hh hpe hH hnA hnP
  have aB : Below w1.heap.size w1 (w1.alloc (.cells #[.slice aoA nA capA, .slice (some ⟨bP, offP, none⟩) nP capP] 26)) := (Below.refl _ _).alloc (Nat.le_refl _) _
  have hT := Two.new w1 (.slice aoA nA capA) (.slice (some ⟨bP, offP, none⟩) nP capP) 26
  have b1 := hb1.trans (aB.mono hb1.size)
  have HH2 : Hid (HistIn (w1.alloc (.cells #[.slice aoA nA capA, .slice (some ⟨bP, offP, none⟩) nP capP] 26)) aoA (some ⟨bP, offP, none⟩) nA nP h) := HH1.out.below aB
  have hcall := seal_txt h hc0 aoA (some ⟨bP, offP, none⟩) nA nP capA capP _ HH2.out c1 c2
  clear HH1 aB hb1 hc0
  go_wp2_with fail
  generalize w1.alloc (.cells #[.slice aoA nA capA, .slice (some ⟨bP, offP, none⟩) nP capP] 26) = W at *
  refine hcall.mono ?_
  rintro e w2 ⟨pk, hd, rfl, HPk, hb2⟩
  have hT2 := hT.below hb2
  have b2 := b1.trans (hb2.mono b1.size)
  have HH3 : Hid (HistIn w2 aoA (some ⟨bP, offP, none⟩) nA nP h) := HH2.out.below hb2
  clear HH2 hT b1 hb2 hcall
  obtain ⟨bx0, bx1⟩ := hT2.cells
  have hlt2 : w1.heap.size < w2.heap.size := lt_of_block hT2
  have aC : Below w2.heap.size w2 (w2.alloc (.cells #[.slice aoA nA capA, .slice (some ⟨bP, offP, none⟩) 1 capP] 26)) := (Below.refl _ _).alloc (Nat.le_refl _) _
  have hT3 := hT2.below aC
  have b3 := b2.trans (aC.mono b2.size)
  have HH4 : Hid (HistIn (w2.alloc (.cells #[.slice aoA nA capA, .slice (some ⟨bP, offP, none⟩) 1 capP] 26)) aoA (some ⟨bP, offP, none⟩) nA nP h) := HH3.out.below aC
  have hcall := seal_txt (Sg.upto h 1) (HOk.out.upto (Nat.le_refl _)).sealed aoA (some ⟨bP, offP, none⟩) nA 1 capA capP _ (HH4.out.upto (k := 1) (by omega)) c1 c2
  have i1 : (1 : Int) ≤ (capP : Int) := by omega
  clear hT2 HH3 aC b2
  go_wp2_with fail
  generalize w2.alloc (.cells #[.slice aoA nA capA, .slice (some ⟨bP, offP, none⟩) 1 capP] 26) = W3 at *
  refine hcall.mono ?_
  rintro e w4 ⟨pk1, hd1, rfl, HPk1, hb4⟩
  have hT4 := hT3.below hb4
  have b4 := b3.trans (hb4.mono b3.size)
  have HH5 : Hid (HistIn w4 aoA (some ⟨bP, offP, none⟩) nA nP h) := HH4.out.below hb4
  clear hT3 b3 HH4 hb4 hcall bx0 bx1
  go_wp2_with fail
  refine (lives_any _).mono ?_
  rintro e w5 ⟨rfl, hb5⟩
  have HI0 : Hid (Two w5 w1.heap.size (.slice aoA nA capA) (.slice (some ⟨bP, offP, none⟩) nP capP) 26 ∧ HistIn w5 aoA (some ⟨bP, offP, none⟩) nA nP h ∧ Below w.heap.size w w5) := ⟨hT4.below hb5, HH5.out.below hb5, b4.trans (hb5.mono b4.size)⟩
  clear hT4 b4 HH5 hb5
  go_wp2_with fail
  go_loopw [12, 13, 16] (fun q t i wr => ∃ k : Nat, 1 ≤ k ∧ k ≤ nP ∧ i = .int .i64 (k : Int) ∧ ∃ qq tt, q = .string qq ∧ t = .string tt ∧ Hid (qq = Sg.package (Sg.upto h k) ∧ tt = Sg.headOf (Sg.upto h k)) ∧ Hid (Two wr w1.heap.size (.slice aoA nA capA) (.slice (some ⟨bP, offP, none⟩) nP capP) 26 ∧ HistIn wr aoA (some ⟨bP, offP, none⟩) nA nP h ∧ Below w.heap.size w wr)) (fun _ _ i _ => nP - (intOf i).toNat)
  case atStart => exact ⟨1, by omega, by omega, rfl, _, _, rfl, rfl, HPk1, HI0⟩
  case round =>
    obtain ⟨k, hk1, hk, rfl, qq, tt, rfl, rfl, HQ, HI⟩ := hrel
    obtain ⟨wz, ewz⟩ : ∃ z : World, z = wr := ⟨_, rfl⟩
    subst ewz
    clear HI0
    obtain ⟨bx0, bx1⟩ := HI.out.1.cells
    by_cases hgo : k < nP
    · have g1 : (k : Int) < (nP : Int) := by omega
      have g0 : (0 : Int) ≤ (k : Int) := by omega
      have hka : k < h.pers.length := by rw [HNP.out]; exact hgo
      obtain ⟨bQ, offQ, eQ, _, aoE, capE, hx, hE⟩ := HI.out.2.1.pers.cell (k := k) hka
      simp only [Option.some.injEq, Addr.mk.injEq, and_true] at eQ
      obtain ⟨rfl, rfl⟩ := eQ
      have hps : PerSizes h.pers[k] := ⟨HI.out.2.1.sizP _ (List.getElem_mem hka), HI.out.2.1.sizQ _ (List.getElem_mem hka)⟩
      have mk := HOk.out.upto hk1
      have hcall := extend_pk (h := Sg.upto h k) mk.sealed mk.fits HQ.out.1 h.pers[k] aoE h.pers[k].length capE wz hE rfl hps
      rw [Sg.upto_plus h k hka] at hcall
      have HC : Hid (Sg.closeErr (Sg.upto h (k + 1)) = 0) := (HOk.out.upto (by omega : 1 ≤ k + 1)).sealed
      generalize h.pers[k].length = nE at *
      clear hE hps mk
      go_wp2_with fail
      refine hcall.mono ?_
      clear hcall
      rintro e w7 ⟨u, v, g, rfl, HU, hb7⟩
      have hg0 : g = 0 := by rw [HU.out.2.2]; exact HC.out
      subst hg0
      have HI7 : Hid (Two w7 w1.heap.size (.slice aoA nA capA) (.slice (some ⟨bP, offP, none⟩) nP capP) 26 ∧ HistIn w7 aoA (some ⟨bP, offP, none⟩) nA nP h ∧ Below w.heap.size w w7) := ⟨HI.out.1.below hb7, HI.out.2.1.below hb7, HI.out.2.2.trans (hb7.mono HI.out.2.2.size)⟩
      have HU2 : Hid (u = Sg.package (Sg.upto h (k + 1)) ∧ v = Sg.headOf (Sg.upto h (k + 1))) := ⟨HU.out.1, HU.out.2.1⟩
      clear HI hb7 HU HC bx0 bx1 hx
      go_wp2_with fail
      go_roundw
      case rel => exact ⟨k + 1, by omega, by omega, by go_num, _, _, rfl, rfl, HU2, HI7⟩
      case measure => simp [intOf]; omega
    · have g1 : ¬ (k : Int) < (nP : Int) := by omega
      have hkn : k = nP := by omega
      have hall : Sg.upto h k = h := by rw [hkn, ← HNP.out]; exact Sg.upto_all h
      have hqq : qq = pk := by rw [HQ.out.1, hall, HPk.out.1]
      have htt : tt = hd := by rw [HQ.out.2, hall, HPk.out.2]
      subst hqq htt
      have aZ : Below wz.heap.size wz (((wz.alloc (.cells #[.int .i64 0, .int .i64 1] 37)).alloc (.cells #[.string { data := #[] }, .slice (some ⟨wz.heap.size, 0, none⟩) 1 1] 40)).alloc (.cells #[.slice (some ⟨wz.heap.size + 1, 0, none⟩) 1 1] 35)) := (((Below.refl _ _).alloc (Nat.le_refl _) _).alloc (by simp) _).alloc (by simp; omega) _
      have hE : EntsIn (((wz.alloc (.cells #[.int .i64 0, .int .i64 1] 37)).alloc (.cells #[.string { data := #[] }, .slice (some ⟨wz.heap.size, 0, none⟩) 1 1] 40)).alloc (.cells #[.slice (some ⟨wz.heap.size + 1, 0, none⟩) 1 1] 35)) (some ⟨wz.heap.size + 1, 0, none⟩) [Sg.badEnt] := by
        exact bad_ents (three_blocks wz _ _ _ _ _).1 (three_blocks wz _ _ _ _ _).2
      have hps : PerSizes [Sg.badEnt] := ⟨⟨by simp, fun e he => by simp at he; subst he; exact ⟨by decide, by decide⟩⟩, fun e he t ht => by simp at he; subst he; simp [Sg.badEnt] at ht; subst ht; exact ⟨by decide, by decide⟩⟩
      have hcall := extend_pk (h := h) HOk.out.sealed HOk.out.fits HPk.out.1 [Sg.badEnt] (some ⟨wz.heap.size + 1, 0, none⟩) 1 1 _ hE rfl hps
      have HBad : Hid (Sg.closeErr (Sg.plus h [Sg.badEnt]) = if nP = 6 then 1 else 3) := by show _ = _; rw [Sg.plus_bad HOk.out, HNP.out]
      have hT9 := HI.out.1.below aZ
      have b9 := HI.out.2.2.trans (aZ.mono HI.out.2.2.size)
      clear hE hps HI aZ hall hkn HQ
      go_wp2_with fail
      refine hcall.mono ?_
      clear hcall
      rintro e w9 ⟨u, v, g, rfl, HU, hb9⟩
      clear bx0 bx1
      obtain ⟨bx0, bx1⟩ := (hT9.below hb9).cells
      have b10 := b9.trans (hb9.mono b9.size)
      have hg : g = if nP = 6 then 1 else 3 := by rw [HU.out.2.2, HBad.out]
      by_cases h6 : nP = 6
      · rw [if_pos h6] at hg
        subst hg
        have q6 : ((nP : Int) == 6) = true := by rw [h6]; rfl
        clear HU HBad hT9 h6
        go_wp2_with fail
        go_ret
        exact ⟨rfl, b10⟩
      · rw [if_neg h6] at hg
        subst hg
        have q6 : ((nP : Int) == 6) = false := by simp; omega
        clear HU HBad hT9
        go_wp2_with fail
        go_ret
        exact ⟨rfl, b10⟩
end Go.Proofs.Ytpkkhkkkgjhkeab
