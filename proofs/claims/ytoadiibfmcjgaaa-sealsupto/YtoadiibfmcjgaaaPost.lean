/-
  THE WALK of (*book.Period).post.
-/
import Derived.Test.YtoadiibfmcjgaaaBal
import Derived.Test.YtoadiibfmcjgaaaEntersWalk
namespace Go.Proofs.Ytoadiibfmcjgaaa
open Go.RowKit Go.Maps
set_option maxRecDepth 100000
attribute [local go_sem ↓] Go.wp_at_zero Go.wp_at_succ

theorem near_tame2 {c : Nat} {v : Int} (h : Sg.Near c v) (hc : c ≤ 1000) : Tame v := by
  obtain ⟨h1, h2⟩ := h; unfold Tame; omega
theorem num_zero {s : Int} (h : Tame s) : s = 0 ↔ (nHi s == 0) = true ∧ (nLo s == 0) = true := by
  unfold Tame at h
  simp only [beq_iff_eq]
  unfold nHi nLo
  omega
theorem getElem_getD {l : List Int} {i : Nat} (h : i < l.length) : l[i] = l.getD i 0 := by
  rw [List.getD_eq_getElem?_getD, List.getElem?_eq_getElem h]; rfl

/-- What is loaded while the balances turn: the map, the posting. -/
theorem mid_new {wy : World} {g : Nat} {mv x y : Value} {t : TypeId} (h : wy.cell? ⟨g, 2, none⟩ = some mv) (n : Nat) :
    ((wy.alloc (.cells #[x, y] t)).drewN n).cell? ⟨g, 2, none⟩ = some mv ∧ ((wy.alloc (.cells #[x, y] t)).drewN n).cell? ⟨wy.heap.size, 0, none⟩ = some x ∧ ((wy.alloc (.cells #[x, y] t)).drewN n).cell? ⟨wy.heap.size, 1, none⟩ = some y :=
  ⟨by simpa using past_alloc_cell h, by simp, by simp⟩
theorem mid_drew {s g : Nat} {W : World} {mv x y : Value} (h : W.cell? ⟨g, 2, none⟩ = some mv ∧ W.cell? ⟨s, 0, none⟩ = some x ∧ W.cell? ⟨s, 1, none⟩ = some y) :
    W.drew.cell? ⟨g, 2, none⟩ = some mv ∧ W.drew.cell? ⟨s, 0, none⟩ = some x ∧ W.drew.cell? ⟨s, 1, none⟩ = some y := ⟨by simpa using h.1, by simpa using h.2.1, by simpa using h.2.2⟩
theorem mid_call {s g : Nat} {W w2 : World} {mv x y : Value} (h : W.cell? ⟨g, 2, none⟩ = some mv ∧ W.cell? ⟨s, 0, none⟩ = some x ∧ W.cell? ⟨s, 1, none⟩ = some y) (hb : Below W.heap.size W w2) :
    w2.cell? ⟨g, 2, none⟩ = some mv ∧ w2.cell? ⟨s, 0, none⟩ = some x ∧ w2.cell? ⟨s, 1, none⟩ = some y :=
  ⟨(hb.cell (p := ⟨g, 2, none⟩) (World.block_lt_of_cell? W _ h.1)).trans h.1, (hb.cell (p := ⟨s, 0, none⟩) (World.block_lt_of_cell? W _ h.2.1)).trans h.2.1, (hb.cell (p := ⟨s, 1, none⟩) (World.block_lt_of_cell? W _ h.2.2)).trans h.2.2⟩
theorem mid_put {s g m : Nat} {W w3 : World} {mv x y : Value} (h : W.cell? ⟨g, 2, none⟩ = some mv ∧ W.cell? ⟨s, 0, none⟩ = some x ∧ W.cell? ⟨s, 1, none⟩ = some y) (hg : W.grownBy w3 (some m)) (h1 : g ≠ m) (h2 : s ≠ m) :
    w3.cell? ⟨g, 2, none⟩ = some mv ∧ w3.cell? ⟨s, 0, none⟩ = some x ∧ w3.cell? ⟨s, 1, none⟩ = some y :=
  ⟨(hg.cell_far ⟨g, 2, none⟩ (World.block_lt_of_cell? W _ h.1) (by simpa using h1)).trans h.1, (hg.cell_far ⟨s, 0, none⟩ (World.block_lt_of_cell? W _ h.2.1) (by simpa using h2)).trans h.2.1, (hg.cell_far ⟨s, 1, none⟩ (World.block_lt_of_cell? W _ h.2.2) (by simpa using h2)).trans h.2.2⟩

set_option maxHeartbeats 6400000 in
/-- post. -/
theorem post_any (x : ByteArray) (ac : List Sg.Acc) (ps : List Sg.Pst) (now tot : List Int) (aoA ao : Option Addr) (nA capA np cap g m c B : Nat) (eV : Value) (w0 w : World) (hb0 : Below w0.heap.size w0 w) (h0B : w0.heap.size ≤ B) (hBg : B ≤ g) (hBm : B ≤ m) (hgm : g ≠ m)
    (hlA : ac.length = nA) (hA : AccsIn w0 aoA ac) (hlines : ∀ a ∈ ac, 0 ≤ a.line ∧ a.line ≤ 3)
    (hnp : ps.length = np) (hmax : np ≤ 6) (hnA : now.length = nA) (hn8 : nA ≤ 8) (hl : PstsIn w0 ao ps) (hok : ∀ p ∈ ps, Sg.fits p.acct = true ∧ Sg.fits p.amt = true) (hnow : ∀ v ∈ now, Sg.fits v = true)
    (ht4 : tot.length = 4) (hper : PerAt w g (.slice aoA nA capA) eV (.map (some m)) tot) (hbal : BalIn w m c now) (hc : c ≤ 900) :
    Calls Try.prog 88 #[.pointer (some ⟨g, 0, none⟩), .slice ao np cap] w fun e w' =>
      e = .returned (.int .i64 (Sg.entErr nA ⟨x, ps⟩ now)) ∧ Below B w w' ∧ (Sg.entErr nA ⟨x, ps⟩ now = 0 → PerAt w' g (.slice aoA nA capA) eV (.map (some m)) (Sg.linesAll ac ps tot) ∧ BalIn w' m (c + np) (Sg.comesAll ps now)) := by
  have HNP : Hid (ps.length = np) := hnp
  have HNA : Hid (now.length = nA) := hnA
  have HLA : Hid (ac.length = nA) := hlA
  have HOK : Hid (∀ p ∈ ps, Sg.fits p.acct = true ∧ Sg.fits p.amt = true) := hok
  have HNOW : Hid (∀ v ∈ now, Sg.fits v = true) := hnow
  have HLN : Hid (∀ a ∈ ac, 0 ≤ a.line ∧ a.line ≤ 3) := hlines
  have HT4 : Hid (tot.length = 4) := ht4
  have HP : Hid (PerAt w g (.slice aoA nA capA) eV (.map (some m)) tot) := hper
  have HB : Hid (BalIn w m c now) := hbal
  have hgw := hper.lt
  have hmw := hbal.lt
  clear hnp hnA hlA hok hnow hlines ht4 hper hbal
  go_enter Try.func88, Try.ntmps88
  go_wp2_with fail
  go_loopw [15] (fun i wr => ∃ k : Nat, k ≤ np ∧ i = .int .i64 (k : Int) ∧ Hid (∀ j (h : j < ps.length), j < k → Sg.acctOk nA ps[j]) ∧ Hid (NumBox wr w.heap.size (Sg.amtSum (ps.take k))) ∧ Below w.heap.size w wr) (fun i _ => np - (intOf i).toNat)
  case atStart => exact ⟨0, by omega, rfl, fun j _ hj => by omega, heap_alloc_new w _, (Below.refl _ _).alloc (Nat.le_refl _) _⟩
  case round =>
    obtain ⟨k, hk, rfl, HK, HS, hbr⟩ := hrel
    obtain ⟨wz, ewz⟩ : ∃ z : World, z = wr := ⟨_, rfl⟩
    subst ewz
    have hsz := hbr.size
    have hgz : g < wz.heap.size := by omega
    by_cases hlt : k < np
    · have hka : k < ps.length := by rw [HNP.out]; exact hlt
      have hl0 : PstsIn wz ao ps := hl.below (hb0.trans (hbr.mono hb0.size))
      obtain ⟨b, off, hao, hbw, hc0, hc1⟩ := hl0.cell (k := k) hka
      subst hao
      have i1 : (0 : Int) ≤ (k : Int) := by omega
      have i2 : (k : Int) < (np : Int) := by omega
      have pA : wz.cell? ⟨g, 0, none⟩ = some (.slice aoA nA capA) := (hbr.cell (p := ⟨g, 0, none⟩) hgw).trans HP.out.accs
      have n0 := HS.out.hi
      have n1 := HS.out.lo
      have n2 := HS.out.free 0
      have n3 := HS.out.free 1
      have n4 := HS.out.lt
      have HB2 : Hid (¬ Sg.acctOk nA ps[k] → Sg.entErr nA ⟨x, ps⟩ now = 2) := fun h => Sg.entErr_two (e := ⟨x, ps⟩) hka h
      have HGo : Hid (Sg.acctOk nA ps[k] → ∀ j (h : j < ps.length), j < k + 1 → Sg.acctOk nA ps[j]) := fun e j hj hjk => by
        by_cases e' : j = k
        · subst e'; exact e
        · exact HK.out j hj (by omega)
      obtain ⟨hfa, hfm⟩ := HOK.out ps[k] (List.getElem_mem _)
      have HSu : Hid (Sg.amtSum (ps.take (k + 1)) = Sg.amtSum (ps.take k) + ps[k].amt) := Sg.sum_take_succ ps k hka
      have hfa' : -9223372036854775808 ≤ ps[k].acct ∧ ps[k].acct ≤ 9223372036854775807 := of_decide_eq_true hfa
      have hfm' : -9223372036854775808 ≤ ps[k].amt ∧ ps[k].amt ≤ 9223372036854775807 := of_decide_eq_true hfm
      unfold Sg.acctOk at HB2
      have HAc : Hid (0 ≤ ps[k].acct ∧ ps[k].acct < (nA : Int) → Sg.acctOk nA ps[k]) := fun h => h
      generalize Sg.amtSum (ps.take k) = s at *
      generalize ps[k].acct = a at *
      generalize ps[k].amt = am at *
      clear hl hl0 HK hfa hfm
      have hwrp : IntKind.i64.wrap ((nA : Int) - 1) = (nA : Int) - 1 := IntWalk.i64_in _ (by omega)
      by_cases ok : 0 ≤ a ∧ a < (nA : Int)
      · have hw1 := fun W => within_yes a 0 ((nA : Int) - 1) W (by omega)
        have HGk := HGo.out (HAc.out ok)
        have HGK : Hid (∀ j (h : j < ps.length), j < k + 1 → Sg.acctOk nA ps[j]) := HGk
        clear HGk HGo HAc HB2 ok
        go_wp2_with fail
        go_quiet (first | (go_at_call 103; exact Calls.quiet_of_same ((hw1 _).mono fun _ _ h => ⟨h.1, h.2.symm⟩)))
        go_wp2_with (go_at_call 107; refine (plus_any s am _ hfm').mono ?_; rintro e w2 ⟨rfl, hb2⟩; have e0 : w2.cell? ⟨w.heap.size, 0, none⟩ = some (.int .u64 (nHi s)) := (hb2.cell (p := ⟨w.heap.size, 0, none⟩) (by simp; omega)).trans (by simpa using past_alloc_cell n0); have e1 : w2.cell? ⟨w.heap.size, 1, none⟩ = some (.int .u64 (nLo s)) := (hb2.cell (p := ⟨w.heap.size, 1, none⟩) (by simp; omega)).trans (by simpa using past_alloc_cell n1); have e2 : w2.frozen? ⟨w.heap.size, 0, none⟩ = false := (hb2.frozen (p := ⟨w.heap.size, 0, none⟩) (by simp; omega)).trans (by simpa using (World.frozen?_alloc_past _ _ _ n4).trans n2); have e3 : w2.frozen? ⟨w.heap.size, 1, none⟩ = false := (hb2.frozen (p := ⟨w.heap.size, 1, none⟩) (by simp; omega)).trans (by simpa using (World.frozen?_alloc_past _ _ _ n4).trans n3))
        have HS2 : Hid (NumBox ((w2.setCell ⟨w.heap.size, 0, none⟩ (.int .u64 (nHi (s + am)))).setCell ⟨w.heap.size, 1, none⟩ (.int .u64 (nLo (s + am)))) w.heap.size (Sg.amtSum (ps.take (k + 1)))) := by
          have hx : NumBox w2 w.heap.size s := (HS.out.block (Below.heap_alloc wz _ _ n4)).block (hb2.block _ (by simp; omega))
          have := hx.set (s + am)
          rw [HSu.out]
          exact this
        have HBe : Hid (Below w.heap.size w ((w2.setCell ⟨w.heap.size, 0, none⟩ (.int .u64 (nHi (s + am)))).setCell ⟨w.heap.size, 1, none⟩ (.int .u64 (nLo (s + am))))) :=
          below_put2 ((below_drewN (hbr.alloc hsz _) _).trans (hb2.mono (by simp; omega))) (Nat.le_refl _) _ _
        clear HS HSu hb2 e0 e1 e2 e3 n0 n1 n2 n3 pA
        go_wp2_with fail
        go_roundw
        case rel => exact ⟨k + 1, by omega, by go_num, HGK, HS2, HBe.out⟩
        case measure => simp [intOf]; omega
      · have hw1 := fun W => within_no a 0 ((nA : Int) - 1) W (by omega)
        have HF : Hid (2 = Sg.entErr nA ⟨x, ps⟩ now) := (HB2.out ok).symm
        clear HGo HAc HB2 ok HS HSu n0 n1 n2 n3
        go_wp2_with fail
        go_quiet (first | (go_at_call 103; exact Calls.quiet_of_same ((hw1 _).mono fun _ _ h => ⟨h.1, h.2.symm⟩)))
        go_wp2_with fail
        go_ret
        refine ⟨ret_num HF.out, below_drewN ((hbr.mono (by omega)).alloc (by omega) _) _, fun h => ?_⟩
        rw [← HF.out] at h
        simp at h
    · have HAll : Hid (∀ p ∈ ps, Sg.acctOk nA p) := by
        intro p hp
        obtain ⟨j, hj, rfl⟩ := List.getElem_of_mem hp
        exact HK.out j hj (by have := HNP.out; omega)
      have HSS : Hid (NumBox wz w.heap.size (Sg.amtSum ps)) := by
        have := HS.out
        rw [List.take_of_length_le (by rw [HNP.out]; omega)] at this
        exact this
      have hTs : Tame (Sg.amtSum ps) := by
        have := Sg.sum_near ps (fun p hp => (HOK.out p hp).2) ps.length (Nat.le_refl _)
        rw [List.take_length] at this
        exact near_tame2 this (by rw [HNP.out]; omega)
      have HZ : Hid (Sg.amtSum ps = 0 ↔ (nHi (Sg.amtSum ps) == 0) = true ∧ (nLo (Sg.amtSum ps) == 0) = true) := num_zero hTs
      have HE3 : Hid (Sg.amtSum ps ≠ 0 → Sg.entErr nA ⟨x, ps⟩ now = 3) := fun h => Sg.entErr_three (e := ⟨x, ps⟩) HAll.out h
      have hpz : Hid (PerAt wz g (.slice aoA nA capA) eV (.map (some m)) tot) := HP.out.block (hbr.block g hgw)
      have hbz : Hid (BalIn wz m c now) := HB.out.block (hbr.block m hmw)
      have n0 := HSS.out.hi
      have n1 := HSS.out.lo
      have hBz : Below B w wz := hbr.mono (by omega)
      clear HS HK HP HB hTs HSS
      by_cases hs0 : Sg.amtSum ps = 0
      · obtain ⟨z0, z1⟩ := HZ.out.1 hs0
        have HS0 : Hid (Sg.amtSum ps = 0) := hs0
        clear hs0 HZ HE3
        generalize nHi (Sg.amtSum ps) = sh at *
        generalize nLo (Sg.amtSum ps) = sl at *
        go_wp2_with fail
        clear z0 z1 n0 n1
        have HL : Hid (PstsIn w0 ao ps) := hl
        have HAA : Hid (AccsIn w0 aoA ac) := hA
        have hBg' : B ≤ w.heap.size := by omega
        clear hl hA
        go_loopw [39] (fun i wr => ∃ k : Nat, k ≤ np ∧ i = .int .i64 (k : Int) ∧ Hid (PerAt wr g (.slice aoA nA capA) eV (.map (some m)) (Sg.linesTo ac ps tot k)) ∧ Hid (BalIn wr m (c + k) (Sg.comesTo ps now k)) ∧ Below B w wr) (fun i _ => np - (intOf i).toNat)
        case atStart => exact ⟨0, by omega, rfl, hpz, hbz, hBz⟩
        case round =>
          obtain ⟨q, hq, rfl, HPq, HBq, hbq⟩ := hrel
          obtain ⟨wy, ewy⟩ : ∃ z : World, z = wr := ⟨_, rfl⟩
          subst ewy
          have h0y : Below w0.heap.size w0 wy := hb0.trans (hbq.mono h0B)
          have hgy : g < wy.heap.size := HPq.out.lt
          have hmy : m < wy.heap.size := HBq.out.lt
          by_cases hlq : q < np
          · have hqa : q < ps.length := by rw [HNP.out]; exact hlq
            obtain ⟨b, off, hao, hbw, hc0, hc1⟩ := (HL.out.below h0y).cell (k := q) hqa
            subst hao
            obtain ⟨ha0, ha1⟩ := HAll.out ps[q] (List.getElem_mem _)
            obtain ⟨ai, hai⟩ := Int.eq_ofNat_of_zero_le ha0
            have hain : ai < nA := by omega
            have hfm' : -9223372036854775808 ≤ ps[q].amt ∧ ps[q].amt ≤ 9223372036854775807 := of_decide_eq_true (HOK.out ps[q] (List.getElem_mem _)).2
            have hac : ai < ac.length := by rw [HLA.out]; exact hain
            obtain ⟨bA, offA, eA, hbA, _, hln⟩ := (HAA.out.below h0y).cell (k := ai) hac
            obtain ⟨hl0, hl1⟩ := HLN.out ac[ai] (List.getElem_mem _)
            have HS1 : Hid (Sg.comesTo ps now (q + 1) = (Sg.comesTo ps now q).set ai ((Sg.comesTo ps now q).getD ai 0 + ps[q].amt)) := by
              show _ = _
              rw [Sg.comesTo_succ ps now q hqa, hai]; rfl
            have HS2 : Hid (Sg.linesTo ac ps tot (q + 1) = (Sg.linesTo ac ps tot q).set ac[ai].line.toNat ((Sg.linesTo ac ps tot q).getD ac[ai].line.toNat 0 + ps[q].amt)) := by
              show _ = _
              rw [Sg.linesTo_succ ac ps tot q hqa, hai]
              have : Sg.lineOf ac (ai : Int) = ac[ai].line := by
                unfold Sg.lineOf
                rw [Int.toNat_natCast, List.getD_eq_getElem?_getD, List.getElem?_map, List.getElem?_eq_getElem hac]; rfl
              rw [this]; rfl
            have hL1 : (Sg.comesTo ps now q).length = nA := (Sg.comesTo_length ps now q (by omega)).trans HNA.out
            have hL2 : (Sg.linesTo ac ps tot q).length = 4 := (Sg.linesTo_length ac ps tot q (by omega)).trans HT4.out
            rw [hai] at hc0
            have hc0' : wy.cell? ⟨b, off + q * 2, none⟩ = some (.int .i64 (ai : Int)) := hc0
            generalize ps[q].amt = am at *
            generalize ac[ai].line = ln at *
            obtain ⟨li, rfl⟩ := Int.eq_ofNat_of_zero_le hl0
            have HS2' : Hid (Sg.linesTo ac ps tot (q + 1) = (Sg.linesTo ac ps tot q).set li ((Sg.linesTo ac ps tot q).getD li 0 + am)) := HS2
            have hln' : wy.cell? ⟨bA, offA + ai * 2 + 1, none⟩ = some (.int .i64 (li : Int)) := hln
            have hli : li < 4 := by have : ((li : Nat) : Int) ≤ 3 := hl1; omega
            clear hc0 hln HS2 hl0 hl1 ha0 ha1 hai
            generalize Sg.comesTo ps now q = cs at *
            generalize Sg.linesTo ac ps tot q = ls at *
            obtain ⟨v, hv⟩ : ∃ v, cs.getD ai 0 = v := ⟨_, rfl⟩
            obtain ⟨u, hu⟩ : ∃ u, ls.getD li 0 = u := ⟨_, rfl⟩
            have HV : Hid (cs.getD ai 0 = v) := hv
            have HU : Hid (ls.getD li 0 = u) := hu
            rw [hv] at HS1
            rw [hu] at HS2'
            clear hv hu
            subst eA
            have pA := HPq.out.accs
            have pM := HPq.out.bals
            have i1 : (0 : Int) ≤ (q : Int) := by omega
            have i2 : (q : Int) < (np : Int) := by omega
            have i3 : (0 : Int) ≤ (ai : Int) := by omega
            have i4 : (ai : Int) < (nA : Int) := by omega
            have i5 : (0 : Int) ≤ (li : Int) := by omega
            have i6 : (li : Int) < 4 := by omega
            go_wp2_with fail
            go_quiet (fail)
            go_wp2_with fail
            have hA15 : ∀ n, Below wy.heap.size wy ((wy.alloc (.cells #[.int .i64 (ai : Int), .int .i64 am] 90)).drewN n) := fun n => below_drewN ((Below.refl _ _).alloc (Nat.le_refl _) _) n
            have hlk := fun n => (HBq.out.below (hA15 n)).seek HV.out (by omega) (by omega)
            go_region_held3 (fun w' => w'.cell? ⟨g, 2, none⟩ = some (.map (some m)) ∧ w'.cell? ⟨wy.heap.size, 0, none⟩ = some (.int .i64 (ai : Int)) ∧ w'.cell? ⟨wy.heap.size, 1, none⟩ = some (.int .i64 am)) (first | assumption | exact mid_new pM _ | exact mid_drew (mid_new pM _) | exact mid_drew (mv := .map (some m)) (x := .int .i64 (ai : Int)) (y := .int .i64 am) (by assumption) | exact mid_put hh2 hg3 hgm (by omega))
              (first
                | (go_at_call 107; refine (plus_any v am _ hfm').mono ?_; rintro e w2 ⟨rfl, hb2⟩; have hh2 := mid_call (mv := .map (some m)) (x := .int .i64 (ai : Int)) (y := .int .i64 am) (by assumption) hb2; obtain ⟨w3, hrun3, hb3, hg3⟩ := BalIn.update (i := ai) (((HBq.out.below (by first | exact hA15 _ | exact (hA15 _).drew)).below hb2)) (by omega) (by omega) (by omega) (v + am)))
            have hsz2 := hb2.size
            have ewg : w2.heap[g]? = wy.heap[g]? := (hb2.block g (by simp; omega)).trans ((hA15 _).block g hgy)
            have HP3 : Hid (PerAt w3 g (.slice (some ⟨bA, offA, none⟩) nA capA) eV (.map (some m)) ls) := (HPq.out.block ewg).block (hg3.block g (by simp at hsz2; omega) (by simpa using hgm))
            have HB3 : Hid (BalIn w3 m (c + (q + 1)) (Sg.comesTo ps now (q + 1))) := by rw [HS1.out]; exact hb3
            have hB3 : Below B w w3 := ((hbq.trans ((hA15 _).mono (by omega))).trans (hb2.mono (by simp; omega))).grown hg3 (by simp at hsz2; omega) (fun k hk => by simp at hk; omega)
            have d0 := HP3.out.hi (i := li) (by omega)
            have d1 := HP3.out.lo (i := li) (by omega)
            have d2 := HP3.out.free (3 + li * 2)
            have d3 := HP3.out.free (3 + li * 2 + 1)
            rw [HU.out] at d0 d1
            have d4 := (mid_put hh2 hg3 hgm (by omega)).2.2
            have hg3z := HP3.out.lt
            have hsz3 := hg3.size
            clear hb2 hrun3 hb3 hg3 hh2 hlk hA15 HPq HBq pA pM HS1 ewg hc0' hc1 hln'
            go_wp2_with fail
            go_region_with (first | (go_at_call 107; refine (plus_any u am _ hfm').mono ?_; rintro e w4 ⟨rfl, hb4⟩; have c0 : w4.cell? ⟨g, 3 + li * 2, none⟩ = some (.int .u64 (nHi u)) := (hb4.cell (p := ⟨g, 3 + li * 2, none⟩) (by simpa using hg3z)).trans (by simpa using d0); have c1 : w4.cell? ⟨g, 3 + li * 2 + 1, none⟩ = some (.int .u64 (nLo u)) := (hb4.cell (p := ⟨g, 3 + li * 2 + 1, none⟩) (by simpa using hg3z)).trans (by simpa using d1); have c2 : w4.frozen? ⟨g, 3 + li * 2, none⟩ = false := (hb4.frozen (p := ⟨g, 3 + li * 2, none⟩) (by simpa using hg3z)).trans (by simpa using d2); have c3 : w4.frozen? ⟨g, 3 + li * 2 + 1, none⟩ = false := (hb4.frozen (p := ⟨g, 3 + li * 2 + 1, none⟩) (by simpa using hg3z)).trans (by simpa using d3)))
            all_goals
              have hb5 : Below w3.heap.size w3 w4 := by first | exact hb4 | exact ((Below.refl _ _).drew).trans hb4 | exact (below_drewN (Below.refl _ _) _).trans hb4
              have HPn : Hid (PerAt ((w4.setCell ⟨g, 3 + li * 2, none⟩ (.int .u64 (nHi (u + am)))).setCell ⟨g, 3 + li * 2 + 1, none⟩ (.int .u64 (nLo (u + am)))) g (.slice (some ⟨bA, offA, none⟩) nA capA) eV (.map (some m)) (Sg.linesTo ac ps tot (q + 1))) := by
                rw [HS2'.out]
                exact (HP3.out.block (hb5.block g hg3z)).set (by omega) (u + am)
              have HBn : Hid (BalIn ((w4.setCell ⟨g, 3 + li * 2, none⟩ (.int .u64 (nHi (u + am)))).setCell ⟨g, 3 + li * 2 + 1, none⟩ (.int .u64 (nLo (u + am)))) m (c + (q + 1)) (Sg.comesTo ps now (q + 1))) :=
                (HB3.out.below hb5).block ((Below.heap_setCell _ _ _ _ (fun e => hgm e.symm)).trans (Below.heap_setCell _ _ _ _ (fun e => hgm e.symm)))
              have HBe : Hid (Below B w ((w4.setCell ⟨g, 3 + li * 2, none⟩ (.int .u64 (nHi (u + am)))).setCell ⟨g, 3 + li * 2 + 1, none⟩ (.int .u64 (nLo (u + am))))) :=
                below_put2 (hB3.trans (hb5.mono (by omega))) hBg _ _
              clear hb5 hb4 c0 c1 c2 c3 d0 d1 d2 d3 d4 HP3 HB3 hB3
              go_wp2_with fail
              go_roundw
              case rel => exact ⟨q + 1, by omega, by go_num, HPn, HBn, HBe.out⟩
              case measure => simp [intOf]; omega
          · have HPy : Hid (PerAt wy g (.slice aoA nA capA) eV (.map (some m)) (Sg.linesAll ac ps tot)) := by
              have := HPq.out
              rw [show q = ps.length by rw [HNP.out]; omega, Sg.linesTo_all] at this
              exact this
            have HBy : Hid (BalIn wy m (c + np) (Sg.comesAll ps now)) := by
              have := HBq.out
              rw [show q = ps.length by rw [HNP.out]; omega, Sg.comesTo_all, HNP.out] at this
              exact this
            have HNr : Hid (∀ v ∈ Sg.comesAll ps now, Sg.Near 10 v) := by
              intro v hv
              rw [← Sg.comesTo_all] at hv
              have := Sg.comesTo_near ps now 1 (fun v hv => Sg.near_fits (HNOW.out v hv)) (fun p hp => (HOK.out p hp).2) (fun p hp => by rw [HNA.out]; exact HAll.out p hp) ps.length (Nat.le_refl _) v hv
              exact this.mono (by rw [HNP.out]; omega)
            have HLc : Hid ((Sg.comesAll ps now).length = nA) := by
              show _ = _
              rw [← Sg.comesTo_all]
              exact (Sg.comesTo_length ps now ps.length (Nat.le_refl _)).trans HNA.out
            clear HPq HBq
            go_wp2_with fail
            go_loopw [85] (fun i wr => ∃ r : Nat, r ≤ np ∧ i = .int .i64 (r : Int) ∧ Hid (∀ j (h : j < ps.length), j < r → Sg.fits ((Sg.comesAll ps now).getD ps[j].acct.toNat 0) = true) ∧ Below wy.heap.size wy wr) (fun i _ => np - (intOf i).toNat)
            case atStart => exact ⟨0, by omega, rfl, fun j _ hj => by omega, Below.refl _ _⟩
            case round =>
              obtain ⟨r, hr, rfl, HR, hbr3⟩ := hrel
              obtain ⟨wv, ewv⟩ : ∃ z : World, z = wr := ⟨_, rfl⟩
              subst ewv
              have hszv := hbr3.size
              by_cases hlr : r < np
              · have hra : r < ps.length := by rw [HNP.out]; exact hlr
                obtain ⟨b, off, hao, hbw, hc0, hc1⟩ := ((HL.out.below h0y).below hbr3).cell (k := r) hra
                subst hao
                obtain ⟨ha0, ha1⟩ := HAll.out ps[r] (List.getElem_mem _)
                obtain ⟨ai, hai⟩ := Int.eq_ofNat_of_zero_le ha0
                have hain : ai < nA := by omega
                have HB4 : Hid (Sg.fits ((Sg.comesAll ps now).getD ps[r].acct.toNat 0) = false → Sg.entErr nA ⟨x, ps⟩ now = 4) := fun h => by
                  have hi : ai < (Sg.comesAll ps now).length := by rw [HLc.out]; exact hain
                  refine Sg.entErr_four (e := ⟨x, ps⟩) HAll.out HS0.out (i := ai) hi ?_
                  rw [hai] at h
                  rw [getElem_getD hi]
                  exact h
                have HGo : Hid (Sg.fits ((Sg.comesAll ps now).getD ps[r].acct.toNat 0) = true → ∀ j (h : j < ps.length), j < r + 1 → Sg.fits ((Sg.comesAll ps now).getD ps[j].acct.toNat 0) = true) := fun e j hj hjk => by
                  by_cases e' : j = r
                  · subst e'; exact e
                  · exact HR.out j hj (by omega)
                obtain ⟨v, hv⟩ : ∃ v, (Sg.comesAll ps now).getD ai 0 = v := ⟨_, rfl⟩
                have hT : Tame v := by
                  have hi : ai < (Sg.comesAll ps now).length := by rw [HLc.out]; exact hain
                  refine near_tame2 (HNr.out v ?_) (by omega)
                  rw [← hv, List.getD_eq_getElem?_getD, List.getElem?_eq_getElem hi]; simp
                have HV : Hid ((Sg.comesAll ps now).getD ai 0 = v) := hv
                have ev : (Sg.comesAll ps now).getD ps[r].acct.toNat 0 = v := by rw [hai]; exact hv
                rw [ev] at HB4 HGo
                rw [hai] at hc0
                have hc0' : wv.cell? ⟨b, off + r * 2, none⟩ = some (.int .i64 (ai : Int)) := hc0
                generalize ps[r].amt = am at *
                clear hc0 hai ha0 ha1 ev hv HR
                have HByv : Hid (BalIn wv m (c + np) (Sg.comesAll ps now)) := HBy.out.below hbr3
                have pM : wv.cell? ⟨g, 2, none⟩ = some (.map (some m)) := (hbr3.cell (p := ⟨g, 2, none⟩) hgy).trans HPy.out.bals
                have i1 : (0 : Int) ≤ (r : Int) := by omega
                have i2 : (r : Int) < (np : Int) := by omega
                have hlen := HLc.out
                have hA15 : ∀ n, Below wv.heap.size wv ((wv.alloc (.cells #[.int .i64 (ai : Int), .int .i64 am] 90)).drewN n) := fun n => below_drewN ((Below.refl _ _).alloc (Nat.le_refl _) _) n
                have hlk := (HByv.out.below (((Below.refl wv.heap.size wv).alloc (Nat.le_refl _) (.cells #[.int .i64 (ai : Int), .int .i64 am] 90)).drew)).seek HV.out (by omega) (by omega)
                clear hlen
                have hff := fun W => numFits_any v W hT
                by_cases hf : Sg.fits v = true
                · rw [hf] at hff
                  have HGk : Hid (∀ j (h : j < ps.length), j < r + 1 → Sg.fits ((Sg.comesAll ps now).getD ps[j].acct.toNat 0) = true) := HGo.out hf
                  clear HGo HB4 hf
                  go_wp2_with fail
                  go_region_held3 (fun w' => w'.cell? ⟨g, 2, none⟩ = some (.map (some m)) ∧ w'.cell? ⟨wv.heap.size, 0, none⟩ = some (.int .i64 (ai : Int)) ∧ w'.cell? ⟨wv.heap.size, 1, none⟩ = some (.int .i64 am)) (first | assumption | exact mid_new pM 0 | exact mid_drew (mid_new pM 0) | exact mid_drew (mv := .map (some m)) (x := .int .i64 (ai : Int)) (y := .int .i64 am) (by assumption))
                    (first
                      | (go_at_call 89; refine (hff _).mono ?_; rintro e w2 ⟨rfl, hb2⟩; have hh2 := mid_call (mv := .map (some m)) (x := .int .i64 (ai : Int)) (y := .int .i64 am) (by assumption) hb2))
                  have hb5 : Below wv.heap.size wv w2 := ((hA15 0).drew).trans (hb2.mono (by simp))
                  clear hh2 hlk hff hb2 pM
                  go_wp2_with fail
                  go_roundw
                  case rel => exact ⟨r + 1, by omega, by go_num, HGk, hbr3.trans (hb5.mono (by omega))⟩
                  case measure => simp [intOf]; omega
                · have hf' : Sg.fits v = false := Bool.eq_false_iff.2 hf
                  rw [hf'] at hff
                  have HF : Hid (4 = Sg.entErr nA ⟨x, ps⟩ now) := (HB4.out hf').symm
                  clear HGo HB4 hf hf'
                  go_wp2_with fail
                  go_region_held3 (fun w' => w'.cell? ⟨g, 2, none⟩ = some (.map (some m)) ∧ w'.cell? ⟨wv.heap.size, 0, none⟩ = some (.int .i64 (ai : Int)) ∧ w'.cell? ⟨wv.heap.size, 1, none⟩ = some (.int .i64 am)) (first | assumption | exact mid_new pM 0 | exact mid_drew (mid_new pM 0) | exact mid_drew (mv := .map (some m)) (x := .int .i64 (ai : Int)) (y := .int .i64 am) (by assumption))
                    (first
                      | (go_at_call 89; refine (hff _).mono ?_; rintro e w2 ⟨rfl, hb2⟩; have hh2 := mid_call (mv := .map (some m)) (x := .int .i64 (ai : Int)) (y := .int .i64 am) (by assumption) hb2))
                  have hb5 : Below wv.heap.size wv w2 := ((hA15 0).drew).trans (hb2.mono (by simp))
                  clear hh2 hlk hff hb2 pM
                  go_wp2_with fail
                  go_ret
                  refine ⟨ret_num HF.out, hbq.trans ((hbr3.trans (hb5.mono (by omega))).mono (by omega)), fun h => ?_⟩
                  rw [← HF.out] at h
                  simp at h
              · have HF : Hid (0 = Sg.entErr nA ⟨x, ps⟩ now) := (Sg.entErr_zero (e := ⟨x, ps⟩) HAll.out HS0.out HNOW.out (fun p hp => by
                  obtain ⟨j, hj, rfl⟩ := List.getElem_of_mem hp
                  have hj' : j < ps.length := hj
                  exact HR.out j hj (by have := HNP.out; omega))).symm
                clear HR
                go_wp2_with fail
                go_ret
                exact ⟨ret_num HF.out, hbq.trans (hbr3.mono (by omega)), fun _ => ⟨HPy.out.block (hbr3.block g hgy), HBy.out.below hbr3⟩⟩
      · have hzz : (nHi (Sg.amtSum ps) == 0) = false ∨ ((nHi (Sg.amtSum ps) == 0) = true ∧ (nLo (Sg.amtSum ps) == 0) = false) := by
          by_cases q0 : (nHi (Sg.amtSum ps) == 0) = true
          · by_cases q1 : (nLo (Sg.amtSum ps) == 0) = true
            · exact absurd (HZ.out.2 ⟨q0, q1⟩) hs0
            · exact Or.inr ⟨q0, Bool.eq_false_iff.2 q1⟩
          · exact Or.inl (Bool.eq_false_iff.2 q0)
        have HF : Hid (3 = Sg.entErr nA ⟨x, ps⟩ now) := (HE3.out hs0).symm
        clear hs0 HZ HE3
        generalize nHi (Sg.amtSum ps) = sh at *
        generalize nLo (Sg.amtSum ps) = sl at *
        rcases hzz with z0 | ⟨z0, z1⟩
        all_goals
          go_wp2_with fail
          go_ret
          refine ⟨ret_num HF.out, hBz, fun h => ?_⟩
          rw [← HF.out] at h
          simp at h
end Go.Proofs.Ytoadiibfmcjgaaa
