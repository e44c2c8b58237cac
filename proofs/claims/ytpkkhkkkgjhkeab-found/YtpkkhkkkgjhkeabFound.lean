/-
  THE WALK of signetkeep.Found (P11, P13).
-/
import Derived.Test.YtpkkhkkkgjhkeabFoundInv
import Derived.Deep.CutRange
namespace Go.Proofs.Ytpkkhkkkgjhkeab
open Go.RowKit
set_option maxRecDepth 100000
attribute [local go_sem ↓] Go.wp_at_zero Go.wp_at_succ

set_option maxHeartbeats 1600000 in
/-- one, of two texts that have one sum. -/
theorem one_true (x y : ByteArray) (w : World) (hne : x ≠ y) (hs : Sg.sumB x = Sg.sumB y) (hx : x.size ≤ 140737488355328) (hy : y.size ≤ 140737488355328) :
    Calls Try.prog 12 #[.string x, .string y] w fun e w' => e = .returned (.bool true) ∧ Below w.heap.size w w' := by
  have h1 := fun W => sealSum_any x W (by unfold maxLen; omega)
  have h2 := fun W => sealSum_any y W (by unfold maxLen; omega)
  have c1 := ne_list' hne
  have c2 := eq_list' hs
  clear hne hs hx hy
  go_enter Try.func12, Try.ntmps12
  go_wp2_with fail
  refine (h1 _).mono ?_
  rintro e w1 ⟨rfl, b1⟩
  clear h1
  go_wp2_with fail
  refine (h2 _).mono ?_
  rintro e w2 ⟨rfl, b2⟩
  clear h2
  go_wp2_with fail
  go_ret
  exact ⟨rfl, b1.trans (b2.mono b1.size)⟩

theorem Sg.clash_made {h g : Sg.Hist} (m : Sg.MadeOk h) (n : Sg.MadeOk g) : Sg.clashBErr (Sg.package h) (Sg.package g) = if Sg.package h = Sg.package g ∨ ¬ Sg.headOf h = Sg.headOf g then 7 else 0 := by
  have h1 := Sg.isPk_package m.sealed m.fits
  have h2 := Sg.isPk_package n.sealed n.fits
  unfold Sg.clashBErr
  rw [h1.1, h2.1, if_neg (fun c => c h1.2), if_neg (fun c => c h2.2)]
theorem Sg.clash_any_made {g : Sg.Hist} {t : ByteArray} (n : Sg.MadeOk g) (hp : Sg.isPk (Sg.pdHist (Sg.tx t)) t) (hh : Sg.headOf (Sg.pdHist (Sg.tx t)) = Sg.headOf g) (hne : ¬ t = Sg.package g) : Sg.clashBErr t (Sg.package g) = 0 := by
  have h2 := Sg.isPk_package n.sealed n.fits
  unfold Sg.clashBErr
  rw [h2.1, if_neg (fun c => c hp), if_neg (fun c => c h2.2), if_neg]
  rintro (c | c)
  · exact hne c
  · exact c hh
/-- Two histories of raw entries that differ in one memo, as Found has them. -/
theorem found_pair {c each : Int} {l : List Raw} {x : Raw} {i p : Nat} {ac bc : List Sg.Acc} {ps qs : List (List Sg.Ent)} (hx : l[i]? = some x) (hi6 : i < 6 * (1 + pickN each 12)) (hp : p < 50)
    (ha : ∃ k, CX c ac ∧ ac.length = 2 + pickN c 7 ∧ ps = perX ac.length (1 + pickN each 12) (l.set i (x.to (memoA p))) k ∧ 1 ≤ k ∧ ps.length = k ∧ (k = 6 ∨ (l.set i (x.to (memoA p))).length ≤ k * (1 + pickN each 12)) ∧ ∀ k', 1 ≤ k' → k' < k → k' * (1 + pickN each 12) < (l.set i (x.to (memoA p))).length)
    (hb : ∃ k, CX c bc ∧ bc.length = 2 + pickN c 7 ∧ qs = perX bc.length (1 + pickN each 12) (l.set i (x.to (memoB p))) k ∧ 1 ≤ k ∧ qs.length = k ∧ (k = 6 ∨ (l.set i (x.to (memoB p))).length ≤ k * (1 + pickN each 12)) ∧ ∀ k', 1 ≤ k' → k' < k → k' * (1 + pickN each 12) < (l.set i (x.to (memoB p))).length)
    (ma : Sg.MadeOk ⟨ac, ps⟩) (mb : Sg.MadeOk ⟨bc, qs⟩) : Sg.headOf ⟨ac, ps⟩ = Sg.headOf ⟨bc, qs⟩ ∧ Sg.package ⟨ac, ps⟩ ≠ Sg.package ⟨bc, qs⟩ := by
  obtain ⟨k, a1, a2, a3, a4, a5, a6, a7⟩ := ha
  obtain ⟨j, b1, b2, b3, b4, b5, b6, b7⟩ := hb
  rw [List.length_set] at a6 a7 b6 b7
  have k6 : k ≤ 6 := by have := ma.pers.2; simp only at this; omega
  have j6 : j ≤ 6 := by have := mb.pers.2; simp only at this; omega
  have ekj : k = j := many_one a4 k6 a6 a7 b4 j6 b6 b7
  have hil := (List.getElem?_eq_some_iff.1 hx).1
  subst ekj
  have hik : i < k * (1 + pickN each 12) := by
    rcases a6 with h | h
    · subst h; omega
    · omega
  have eac : ac = bc := a1.same b1 (by omega)
  subst eac
  obtain ⟨t1, t2⟩ := found_twins (nA := ac.length) (n := 1 + pickN each 12) (k := k) hx hik (memo_ne p) (memo_leaf p hp)
  rw [← a3, ← b3] at t1 t2
  refine ⟨Sg.headOf_key ma.sealed mb.sealed rfl t1, fun e => t2 ?_⟩
  have e1 := (Sg.isPk_package ma.sealed ma.fits).1
  have e2 := (Sg.isPk_package mb.sealed mb.fits).1
  rw [e, e2] at e1
  exact (congrArg Sg.Hist.pers e1).symm

set_option maxHeartbeats 25600000 in
/-- Found. -/
theorem found_any (c each wh x : Int) (any : ByteArray) (rs : List Raw) (ao : Option Addr) (nr cap : Nat) (w : World) (hc : -9223372036854775808 ≤ c ∧ c ≤ 9223372036854775807) (he : -9223372036854775808 ≤ each ∧ each ≤ 9223372036854775807) (hwh : -9223372036854775808 ≤ wh ∧ wh ≤ 9223372036854775807) (hx : -9223372036854775808 ≤ x ∧ x ≤ 9223372036854775807) (hl : rs.length = nr) (hnr : nr ≤ 2932031007317) (hR : RawsIn w ao rs) (hf : ∀ r ∈ rs, rawFits r) :
    Calls Try.prog 5 #[.int .i64 c, .slice ao nr cap, .int .i64 each, .int .i64 wh, .int .i64 x, .string any] w fun e w' => e = .returned (.bool true) ∧ Below w.heap.size w w' := by
  obtain ⟨q0, qi, qz0, qz1, qz2⟩ := info_parts Try.infoRaw
  obtain ⟨v1, w1, hrun, hO1, hb1⟩ := copy_raws (cap := cap) 22 hl hR hnr
  obtain ⟨ao1, cap1, ev1⟩ := ownsRow_len' hO1
  rw [hl] at ev1
  subst ev1
  have HL : Hid (rs.length = nr) := hl
  have HF : Hid (∀ r ∈ rs, rawFits r) := hf
  have hown1 : w1.ownsRow w.heap.size 45 5 (.slice ao1 nr cap1) nr (rCells rs) := by
    have := hO1
    unfold OwnR at this
    rw [hl] at this
    exact this
  have hrl1 := World.ownsRow.lt hown1
  have hs1 := hb1.size
  clear hl hR hf hO1
  go_enter Try.func5, Try.ntmps5
  go_upto_region 3 with (at_builtin; refine wpList_append_known rfl _ _ 22 rfl (.slice none 0 0) (.slice ao nr cap) (.slice ao1 nr cap1) rfl rfl hrun ?_)
  clear hrun
  go_upto_region 4 with (at_builtin; (refine wpList_append_lies _ rfl _ _ 22 rfl w.heap.size 45 q0 (.agg #[.string ByteArray.empty, .int .i64 0, .int .i64 0, .int .i64 0, .int .i64 0]) 5 48 Try.underlying22 qi qz0 qz1 qz2 rfl (by decide) (.slice ao1 nr cap1) nr (rCells rs) rfl (hown1.alloc _) ⟨w1.heap.size, 0, none⟩ 1 1 [.string { data := #[116, 119, 111, 32, 108, 101, 116, 116, 101, 114, 115] }, .int .i64 0, .int .i64 0, .int .i64 0, .int .i64 0] rfl rfl (World.news_of_block (cs := #[.string { data := #[116, 119, 111, 32, 108, 101, 116, 116, 101, 114, 115] }, .int .i64 0, .int .i64 0, .int .i64 0, .int .i64 0]) (t := 45) (fr := (0, 0)) (heap_alloc_new w1 _)) (by simp [Value.oneCell']) (by omega) (by unfold maxLen; omega) (by omega) (by simp; omega) (w1.heap.size + 1) (by simp) ?_))
  intro g cap2 w2 hown2 hgrow2 _ hlt2
  have aY : Below w1.heap.size w1 (w1.alloc (.cells #[.string { data := #[116, 119, 111, 32, 108, 101, 116, 116, 101, 114, 115] }, .int .i64 0, .int .i64 0, .int .i64 0, .int .i64 0] 45)) := (Below.refl _ _).alloc (Nat.le_refl _) _
  have hs1' := aY.size
  have b2 : Below w.heap.size w w2 := (hb1.trans (aY.mono hb1.size)).grown hgrow2 (by omega) (fun j hj => (hrl1 j hj).1)
  obtain ⟨l, el⟩ : ∃ l : List Raw, rs ++ [⟨{ data := #[116, 119, 111, 32, 108, 101, 116, 116, 101, 114, 115] }, 0, 0, 0, 0⟩] = l := ⟨_, rfl⟩
  obtain ⟨nl, enl⟩ : ∃ nl : Nat, nr + 1 = nl := ⟨_, rfl⟩
  have hll : l.length = nl := by rw [← el, List.length_append, HL.out, ← enl]; rfl
  have hlf : ∀ r ∈ l, rawFits r := by
    rw [← el]
    intro r hr
    rcases List.mem_append.1 hr with hr | hr
    · exact HF.out r hr
    · simp only [List.mem_singleton] at hr
      subst hr
      exact ⟨by unfold maxLen; decide, by decide, by decide, by decide⟩
  have HO2 : Hid (OwnR w2 w.heap.size (.slice (some ⟨g, 0, none⟩) nl cap2) l) := by
    show OwnR _ _ _ _
    unfold OwnR
    rw [hll, ← el, rCells_append, ← enl]
    exact hown2
  have HLF : Hid (∀ r ∈ l, rawFits r) := hlf
  have HLL : Hid (l.length = nl) := hll
  rw [enl]
  have hnl : 1 ≤ nl ∧ nl ≤ 2932031007318 := by omega
  clear el enl hll hlf hown2 hgrow2 aY hown1 hrl1 HF HL hb1
  go_wp2_with fail
  refine (pick_is wh nl _ hwh (by omega) (by omega)).mono ?_
  rintro e w3 ⟨i0, rfl, hi0, hw3, _⟩
  have hw3' := hw3.symm
  subst hw3'
  clear hw3
  go_wp2_with fail
  refine (pick_is each 12 _ he (by omega) (by omega)).mono ?_
  rintro e w3 ⟨j, rfl, hj, hw3, ej⟩
  have hw3' := hw3.symm
  subst hw3'
  clear hw3
  have hwj : IntKind.i64.wrap (1 + (j : Int)) = 1 + (j : Int) := IntWalk.i64_in _ (by omega)
  have hwj2 : IntKind.i64.wrap (6 * (1 + (j : Int))) = 6 * (1 + (j : Int)) := IntWalk.i64_in _ (by omega)
  go_upto_if 46 with fail
  go_cut [14] from 47 to 161 (fun iv wx => ∃ i : Nat, iv = .int .i64 (i : Int) ∧ i < nl ∧ i < 6 * (1 + j) ∧ wx = w2)
  case first =>
    by_cases hbig : 6 * (1 + (j : Int)) ≤ (i0 : Int)
    · go_wp2_with fail
      go_meet
      exact ⟨0, rfl, by omega, by omega, rfl⟩
    · go_wp2_with fail
      go_meet
      exact ⟨i0, rfl, by omega, by omega, rfl⟩
  case rest =>
    obtain ⟨i, rfl, hi, hi6, hwc⟩ := hcut
    have hwc' := hwc.symm
    subst hwc'
    clear hwc hi0 hwj hwj2
    have hilt : i < l.length := by rw [HLL.out]; exact hi
    obtain ⟨x0, ex0⟩ : ∃ x0, l[i]? = some x0 := ⟨_, List.getElem?_eq_getElem hilt⟩
    have ex1 : l[i] = x0 := (List.getElem?_eq_some_iff.1 ex0).2
    have hi1 : (0 : Int) ≤ (i : Int) := by omega
    have hi2 : (i : Int) < (nl : Int) := by omega
    have hx0 : rawFits x0 := by rw [← ex1]; exact HLF.out _ (List.getElem_mem hilt)
    have hfit : ∀ m : ByteArray, m.size ≤ 5 → ∀ r ∈ l.set i (x0.to m), rawFits r := fun m hm r hr => by
      rcases List.mem_or_eq_of_mem_set hr with hr | rfl
      · exact HLF.out r hr
      · exact ⟨by show m.size ≤ _; unfold maxLen; omega, hx0.2⟩
    have HFT : Hid (∀ m : ByteArray, m.size ≤ 5 → ∀ r ∈ l.set i (x0.to m), rawFits r) := hfit
    clear hfit hx0
    go_wp2_with fail
    refine (pick_is x 50 _ hx (by omega) (by omega)).mono ?_
    rintro e w3 ⟨p, rfl, hp, hw3, ep⟩
    have hw3' := hw3.symm
    subst hw3'
    clear hw3
    have HA : Hid (OwnR w2 w.heap.size (.slice (some ⟨g, 0, none⟩) nl cap2) l ∧ Below w.heap.size w w2) := ⟨HO2.out, b2⟩
    have hgB := World.ownsRow.lt HO2.out g rfl
    have hw40 : IntKind.i64.wrap (40 + (p : Int)) = 40 + (p : Int) := IntWalk.i64_in _ (by omega)
    have hw8 : IntKind.u8.wrap (40 + (p : Int)) = 40 + (p : Int) := by simp [IntKind.wrap, IntKind.bits, IntKind.signed]; omega
    obtain ⟨kb, hkb⟩ : ∃ kb, kb = UInt8.ofNat (40 + p) := ⟨_, rfl⟩
    have hkn : kb.toNat = 40 + p := by rw [hkb]; simp; omega
    have hcv : (convert 46 9 (.slice (some ⟨w2.heap.size, 0, none⟩) 3 3)).run Try.prog (w2.alloc (.cells #[.int .u8 (40 + (p : Int)), .int .u8 122, .int .u8 122] 5)) = .ok (.string ⟨#[kb, 122, 122]⟩) (w2.alloc (.cells #[.int .u8 (40 + (p : Int)), .int .u8 122, .int .u8 122] 5)) := by
      refine run_convert_bytes_back (P := Try.prog) _ 46 9 5 ⟨w2.heap.size, 0, none⟩ 3 [kb, 122, 122] Try.underlying46 Try.underlying5 Try.underlying9 ?_
      intro j hj
      match j, hj with
      | 0, _ => simp only [List.getElem_cons_zero, hkn]; simp [Addr.add]
      | 1, _ => simp [Addr.add]
      | 2, _ => simp [Addr.add]
    have hcat := cat ({ data := #[97, 97] } : ByteArray) ⟨#[kb, 122, 122]⟩ (by show 2 + 3 ≤ _; omega)
    have hme : ({ data := #[97, 97] } : ByteArray) ++ ⟨#[kb, 122, 122]⟩ = memoA p := by rw [hkb]; rfl
    rw [hme] at hcat
    have a3 : Below w2.heap.size w2 (w2.alloc (.cells #[.int .u8 (40 + (p : Int)), .int .u8 122, .int .u8 122] 5)) := (Below.refl _ _).alloc (Nat.le_refl _) _
    have hO3 := HA.out.1.below a3
    have b3 := HA.out.2.trans (a3.mono HA.out.2.size)
    have ex2 : l[i].to (memoA p) = x0.to (memoA p) := by rw [ex1]
    have hO4 := hO3.put HLL.out hilt (memoA p)
    rw [ex2] at hO4
    have b4 := b3.setCell (p := ⟨g, i * 5, none⟩) (show w.heap.size ≤ g from hgB.1) (.string (memoA p))
    have hcell : (w2.alloc (.cells #[.int .u8 (40 + (p : Int)), .int .u8 122, .int .u8 122] 5)).cell? ⟨g, i * 5, none⟩ = some (.string x0.memo) := by
      have h5 := hO3
      unfold OwnR at h5
      rw [HLL.out] at h5
      have := World.ownsRow.cellAt h5 (i * 5) (by omega)
      rw [this, (rCells_at l i hilt).1, ex1]
    have hfz : (w2.alloc (.cells #[.int .u8 (40 + (p : Int)), .int .u8 122, .int .u8 122] 5)).frozen? ⟨g, i * 5, none⟩ = false := by
      have h5 := hO3
      unfold OwnR at h5
      rw [HLL.out] at h5
      exact World.ownsRow.frozenAt h5 (i * 5)
    rw [World.setCell_alloc_past _ _ _ _ hgB.2] at hO4 b4
    clear hkb hkn hO3 b3 a3 hme HO2 b2
    go_upto_region 8 with fail
    generalize ((w2.setCell ⟨g, i * 5, none⟩ (.string (memoA p))).alloc (.cells #[.int .u8 (40 + (p : Int)), .int .u8 122, .int .u8 122] 5)) = w4 at *
    have hls : ∀ r, (l.set i r).length = nl := fun r => by rw [List.length_set]; exact HLL.out
    have hm1 := madeX_any c each (l.set i (x0.to (memoA p))) (some ⟨g, 0, none⟩) nl cap2 w4 hc he (hls _) (by omega) (hO4.in_ (hls _)) (HFT.out (memoA p) (Nat.le_refl 5))
    have HO4 : Hid (OwnR w4 w.heap.size (.slice (some ⟨g, 0, none⟩) nl cap2) (l.set i (x0.to (memoA p))) ∧ Below w.heap.size w w4) := ⟨hO4, b4⟩
    clear hcv hcat hcell hfz hO4 b4 hw40 hw8 HA
    go_wp2_with fail
    refine hm1.mono ?_
    rintro e w5 ⟨vA, vP, rfl, ac, ps, hA, hP, hok, hb5, hX1⟩
    have hse := seal_own (h := ⟨ac, ps⟩) hA hP hok.sizes
    rw [hok.sealed] at hse
    have HM1 : Hid (Sg.MadeOk ⟨ac, ps⟩) := hok
    have HX1 : Hid (∃ k, CX c ac ∧ ac.length = 2 + pickN c 7 ∧ ps = perX ac.length (1 + pickN each 12) (l.set i (x0.to (memoA p))) k ∧ 1 ≤ k ∧ ps.length = k ∧ (k = 6 ∨ (l.set i (x0.to (memoA p))).length ≤ k * (1 + pickN each 12)) ∧ ∀ k', 1 ≤ k' → k' < k → k' * (1 + pickN each 12) < (l.set i (x0.to (memoA p))).length) := hX1
    obtain ⟨pk1, epk1⟩ : ∃ t, Sg.package ⟨ac, ps⟩ = t := ⟨_, rfl⟩
    obtain ⟨hd1, ehd1⟩ : ∃ t, Sg.headOf ⟨ac, ps⟩ = t := ⟨_, rfl⟩
    rw [epk1, ehd1] at hse
    have HP1 : Hid (Sg.package ⟨ac, ps⟩ = pk1 ∧ Sg.headOf ⟨ac, ps⟩ = hd1) := ⟨epk1, ehd1⟩
    clear hm1 hA hP hok hX1 epk1 ehd1
    go_wp2_with fail
    refine hse.mono ?_
    rintro e w6 ⟨rfl, hb6⟩
    have hb46 := hb5.trans (hb6.mono hb5.size)
    have HO6 : Hid (OwnR w6 w.heap.size (.slice (some ⟨g, 0, none⟩) nl cap2) (l.set i (x0.to (memoA p))) ∧ Below w.heap.size w w6) := ⟨HO4.out.1.below hb46, HO4.out.2.trans (hb46.mono HO4.out.2.size)⟩
    clear hse hb5 hb6 hb46 HO4
    go_wp2_with fail
    refine (pick_is x 50 _ hx (by omega) (by omega)).mono ?_
    rintro e w7 ⟨p2, rfl, hp2, hw7, ep2⟩
    have hw7' := hw7.symm
    subst hw7'
    have epp : p2 = p := by rw [ep2.out, ep.out]
    subst epp
    clear hw7 hp2 ep2
    have hw40 : IntKind.i64.wrap (41 + (p2 : Int)) = 41 + (p2 : Int) := IntWalk.i64_in _ (by omega)
    have hw8 : IntKind.u8.wrap (41 + (p2 : Int)) = 41 + (p2 : Int) := by simp [IntKind.wrap, IntKind.bits, IntKind.signed]; omega
    obtain ⟨kb, hkb⟩ : ∃ kb, kb = UInt8.ofNat (41 + p2) := ⟨_, rfl⟩
    have hkn : kb.toNat = 41 + p2 := by rw [hkb]; simp; omega
    have hcv : (convert 46 9 (.slice (some ⟨w6.heap.size, 0, none⟩) 3 3)).run Try.prog (w6.alloc (.cells #[.int .u8 (41 + (p2 : Int)), .int .u8 89, .int .u8 122] 5)) = .ok (.string ⟨#[kb, 89, 122]⟩) (w6.alloc (.cells #[.int .u8 (41 + (p2 : Int)), .int .u8 89, .int .u8 122] 5)) := by
      refine run_convert_bytes_back (P := Try.prog) _ 46 9 5 ⟨w6.heap.size, 0, none⟩ 3 [kb, 89, 122] Try.underlying46 Try.underlying5 Try.underlying9 ?_
      intro j hj
      match j, hj with
      | 0, _ => simp only [List.getElem_cons_zero, hkn]; simp [Addr.add]
      | 1, _ => simp [Addr.add]
      | 2, _ => simp [Addr.add]
    have hcat := cat ({ data := #[97, 97] } : ByteArray) ⟨#[kb, 89, 122]⟩ (by show 2 + 3 ≤ _; omega)
    have hme : ({ data := #[97, 97] } : ByteArray) ++ ⟨#[kb, 89, 122]⟩ = memoB p2 := by rw [hkb]; rfl
    rw [hme] at hcat
    have a7 : Below w6.heap.size w6 (w6.alloc (.cells #[.int .u8 (41 + (p2 : Int)), .int .u8 89, .int .u8 122] 5)) := (Below.refl _ _).alloc (Nat.le_refl _) _
    have hO7 := HO6.out.1.below a7
    have b7 := HO6.out.2.trans (a7.mono HO6.out.2.size)
    have hil2 : i < (l.set i (x0.to (memoA p2))).length := by rw [hls]; exact hi
    have eg1 : (l.set i (x0.to (memoA p2)))[i] = x0.to (memoA p2) := List.getElem_set_self hil2
    have hO8 := hO7.put (hls _) hil2 (memoB p2)
    have e8 : (l.set i (x0.to (memoA p2))).set i (((l.set i (x0.to (memoA p2)))[i]).to (memoB p2)) = l.set i (x0.to (memoB p2)) := by rw [eg1, List.set_set]; rfl
    rw [e8] at hO8
    have b8 := b7.setCell (p := ⟨g, i * 5, none⟩) (show w.heap.size ≤ g from hgB.1) (.string (memoB p2))
    have hcell : (w6.alloc (.cells #[.int .u8 (41 + (p2 : Int)), .int .u8 89, .int .u8 122] 5)).cell? ⟨g, i * 5, none⟩ = some (.string (memoA p2)) := by
      have h5 := hO7
      unfold OwnR at h5
      rw [hls] at h5
      have := World.ownsRow.cellAt h5 (i * 5) (by omega)
      rw [this, (rCells_at _ i hil2).1, eg1]
      rfl
    have hfz : (w6.alloc (.cells #[.int .u8 (41 + (p2 : Int)), .int .u8 89, .int .u8 122] 5)).frozen? ⟨g, i * 5, none⟩ = false := by
      have h5 := hO7
      unfold OwnR at h5
      rw [hls] at h5
      exact World.ownsRow.frozenAt h5 (i * 5)
    have hgB6 := (World.ownsRow.lt HO6.out.1 g rfl).2
    rw [World.setCell_alloc_past _ _ _ _ hgB6] at hO8 b8
    clear hkb hkn hO7 b7 a7 hme HO6 eg1 e8 hil2
    go_upto_region 10 with fail
    generalize ((w6.setCell ⟨g, i * 5, none⟩ (.string (memoB p2))).alloc (.cells #[.int .u8 (41 + (p2 : Int)), .int .u8 89, .int .u8 122] 5)) = w8 at *
    have hm2 := madeX_any c each (l.set i (x0.to (memoB p2))) (some ⟨g, 0, none⟩) nl cap2 w8 hc he (hls _) (by omega) (hO8.in_ (hls _)) (HFT.out (memoB p2) (Nat.le_refl 5))
    clear hcv hcat hcell hfz hO8 hw40 hw8
    go_wp2_with fail
    refine hm2.mono ?_
    rintro e w9 ⟨vB, vQ, rfl, bc, qs, hA, hP, hok, hb9, hX2⟩
    have hse := seal_own (h := ⟨bc, qs⟩) hA hP hok.sizes
    rw [hok.sealed] at hse
    have hpair := found_pair ex0 (by rw [← ej.out]; exact hi6) hp HX1.out hX2 HM1.out hok
    obtain ⟨pk2, epk2⟩ : ∃ t, Sg.package ⟨bc, qs⟩ = t := ⟨_, rfl⟩
    have HM2 : Hid (Sg.MadeOk ⟨bc, qs⟩) := hok
    rw [epk2, ← hpair.1, HP1.out.2] at hse
    have hpne : ¬ pk1 = pk2 := fun e => hpair.2 (by rw [HP1.out.1, epk2, e])
    have hC12 : Sg.clashBErr pk1 pk2 = 0 := by
      rw [← HP1.out.1, ← epk2, Sg.clash_made HM1.out hok, if_neg]
      rintro (e | e)
      · exact hpair.2 e
      · exact e hpair.1
    have hC11 : Sg.clashBErr pk1 pk1 = 7 := by
      rw [← HP1.out.1, Sg.clash_made HM1.out HM1.out, if_pos (Or.inl rfl)]
    have hc12 := fun W => clash_any pk1 pk2 W
    rw [hC12] at hc12
    have hc11 := fun W => clash_any pk1 pk1 W
    rw [hC11] at hc11
    have hcn := ne_list' hpne
    have bel9 := b8.trans (hb9.mono b8.size)
    have HAN : Hid (∀ t, Sg.isPk (Sg.pdHist (Sg.tx t)) t → Sg.headOf (Sg.pdHist (Sg.tx t)) = hd1 → ¬ t = pk1 → Sg.clashBErr t pk1 = 0) := fun t h1 h2 h3 => by
      have := Sg.clash_any_made (g := ⟨ac, ps⟩) (t := t) HM1.out h1 (by rw [h2, HP1.out.2]) (by rw [HP1.out.1]; exact h3)
      rw [HP1.out.1] at this
      exact this
    clear hm2 hA hP hok hX2 hpair hC12 hC11 hpne HX1 HM1 HM2 epk2 b8 hb9 HP1
    go_wp2_with fail
    refine hse.mono ?_
    rintro e w10 ⟨rfl, hb10⟩
    have bel10 := bel9.trans (hb10.mono bel9.size)
    clear hse hb10 bel9
    go_wp2_with fail
    refine (lives_any _).mono ?_
    rintro e w11 ⟨rfl, hb11⟩
    have bel11 := bel10.trans (hb11.mono bel10.size)
    clear hb11 bel10
    go_wp2_with fail
    refine (hc12 _).mono ?_
    rintro e w12 ⟨hb12, x1, y1, rfl, HXY⟩
    have bel12 := bel11.trans (hb12.mono bel11.size)
    obtain ⟨n1, n2, n3, n4⟩ := HXY.out.2 (by first | rfl | trivial)
    have hon := fun W => one_true x1 y1 W n1 n2 n3 n4
    clear hc12 hb12 bel11 HXY n1 n2 n3 n4
    go_wp2_with fail
    refine (hon _).mono ?_
    rintro e w13 ⟨rfl, hb13⟩
    have bel13 := bel12.trans (hb13.mono bel12.size)
    clear hon hb13 bel12
    go_wp2_with fail
    refine (hc11 _).mono ?_
    rintro e w14 ⟨hb14, x2, y2, rfl, _⟩
    have bel14 := bel13.trans (hb14.mono bel13.size)
    clear hc11 hb14 bel13
    go_wp2_with fail
    refine (verify_any any hd1 _).mono ?_
    rintro e w15 ⟨hb15, hv⟩
    have bel15 := bel14.trans (hb15.mono bel14.size)
    clear hb15 bel14
    rcases hv with ⟨_, rfl⟩ | ⟨hpk, rfl⟩
    · go_wp2_with fail
      go_ret
      exact ⟨rfl, bel15⟩
    · by_cases hhd : Sg.headOf (Sg.pdHist (Sg.tx any)) = hd1
      · have ev0 : Sg.verErr (Sg.pdHist (Sg.tx any)) hd1 = 0 := by unfold Sg.verErr; rw [if_pos hhd]
        rw [ev0]
        by_cases hap : any = pk1
        · have hcm := eq_list' hap
          clear hap hhd hpk ev0 HAN
          go_wp2_with fail
          go_ret
          exact ⟨rfl, bel15⟩
        · have hcm := ne_list' hap
          have hca := fun W => clash_any any pk1 W
          rw [HAN.out any hpk hhd hap] at hca
          clear hap hhd hpk ev0 HAN
          go_wp2_with fail
          refine (hca _).mono ?_
          rintro e w16 ⟨hb16, x3, y3, rfl, HXY⟩
          have bel16 := bel15.trans (hb16.mono bel15.size)
          obtain ⟨n1, n2, n3, n4⟩ := HXY.out.2 (by first | rfl | trivial)
          have hon := fun W => one_true x3 y3 W n1 n2 n3 n4
          clear hca hb16 bel15 HXY n1 n2 n3 n4
          go_wp2_with fail
          refine (hon _).mono ?_
          rintro e w17 ⟨rfl, hb17⟩
          have bel17 := bel16.trans (hb17.mono bel16.size)
          clear hon hb17 bel16
          go_wp2_with fail
          go_ret
          exact ⟨rfl, bel17⟩
      · have ev6 : Sg.verErr (Sg.pdHist (Sg.tx any)) hd1 = 6 := by unfold Sg.verErr; rw [if_neg hhd]
        rw [ev6]
        clear hhd hpk ev6 HAN
        go_wp2_with fail
        go_ret
        exact ⟨rfl, bel15⟩
end Go.Proofs.Ytpkkhkkkgjhkeab
