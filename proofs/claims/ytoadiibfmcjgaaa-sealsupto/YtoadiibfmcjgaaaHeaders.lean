/-
  THE WALK of signetref.Books.Headers, Head.
-/
import Derived.Test.YtoadiibfmcjgaaaPackageWalk
namespace Go.Proofs.Ytoadiibfmcjgaaa
open Go.RowKit
set_option maxRecDepth 100000
attribute [local go_sem ↓] Go.wp_at_zero Go.wp_at_succ

namespace Sg
/-- The headers so far, and the sum of the last. -/
def hdTo (h : Hist) (bal tot : List (List Int)) : Nat → List ByteArray × ByteArray
  | 0 => ([], { data := #[0, 0] })
  | k + 1 => ((hdTo h bal tot k).1 ++ [headerB h.accs k (hdTo h bal tot k).2 (h.pers.getD k []) (bal.getD k []) (tot.getD k [])], sumB (headerB h.accs k (hdTo h bal tot k).2 (h.pers.getD k []) (bal.getD k []) (tot.getD k [])))
theorem hdTo_len (h : Hist) (bal tot : List (List Int)) : ∀ k, (hdTo h bal tot k).1.length = k
  | 0 => rfl
  | k + 1 => by simp [hdTo, hdTo_len h bal tot k]
theorem hdTo_last (h : Hist) (bal tot : List (List Int)) : ∀ k, (hdTo h bal tot k).2.size = 2
  | 0 => rfl
  | _ + 1 => rfl
theorem headerB_size (ac : List Acc) (i : Nat) (last : ByteArray) (p : List Ent) (b t : List Int) (hl : last.size = 2) : (headerB ac i last p b t).size = 16 := by
  unfold headerB
  rw [ByteArray.size_append, ByteArray.size_append, ByteArray.size_append, ByteArray.size_append, ByteArray.size_append, ByteArray.size_append, ByteArray.size_append, beB_size, beB_size, sumB_size, sumB_size, root_size, root_size, hl]
  rfl
theorem hdTo_get (h : Hist) (bal tot : List (List Int)) (k : Nat) : (hdTo h bal tot (k + 1)).2 = sumB ((hdTo h bal tot (k + 1)).1.getD k ByteArray.empty) ∧ ((hdTo h bal tot (k + 1)).1.getD k ByteArray.empty).size = 16 := by
  have e : (hdTo h bal tot (k + 1)).1.getD k ByteArray.empty = headerB h.accs k (hdTo h bal tot k).2 (h.pers.getD k []) (bal.getD k []) (tot.getD k []) := by
    have hl := hdTo_len h bal tot k
    simp only [hdTo]
    rw [List.getD_eq_getElem?_getD, List.getElem?_append_right (by omega)]
    simp [hl]
  rw [e]
  exact ⟨rfl, headerB_size _ _ _ _ _ _ (hdTo_last h bal tot k)⟩
end Sg

theorem five_keep {W w' : World} {n bT oT : Nat} {a b c d x : Value} (hbT : bT < W.heap.size) (hn : n < W.heap.size)
    (h : W.cell? ⟨n, 0, none⟩ = some a ∧ W.cell? ⟨n, 1, none⟩ = some b ∧ W.cell? ⟨n, 2, none⟩ = some c ∧ W.cell? ⟨n, 3, none⟩ = some d ∧ W.cell? ⟨bT, oT, none⟩ = some x) (hb : Below W.heap.size W w') :
    w'.cell? ⟨n, 0, none⟩ = some a ∧ w'.cell? ⟨n, 1, none⟩ = some b ∧ w'.cell? ⟨n, 2, none⟩ = some c ∧ w'.cell? ⟨n, 3, none⟩ = some d ∧ w'.cell? ⟨bT, oT, none⟩ = some x ∧ Below W.heap.size W w' :=
  ⟨(hb.cell (p := ⟨n, 0, none⟩) hn).trans h.1, (hb.cell (p := ⟨n, 1, none⟩) hn).trans h.2.1, (hb.cell (p := ⟨n, 2, none⟩) hn).trans h.2.2.1, (hb.cell (p := ⟨n, 3, none⟩) hn).trans h.2.2.2.1, (hb.cell (p := ⟨bT, oT, none⟩) hbT).trans h.2.2.2.2, hb⟩

/-- signetref.Sum, the text under a name of its own. -/
theorem sum_txt (s : ByteArray) (w : World) (hs : s.size ≤ 1000000) :
    Calls Try.prog 11 #[.string s] w fun e w' => ∃ y : ByteArray, e = .returned (.string y) ∧ Hid (y = Sg.sumB s) ∧ y.size ≤ 8 ∧ Below w.heap.size w w' := by
  refine (refSum_any s w (by unfold maxLen; omega)).mono ?_
  rintro e w' ⟨rfl, hb⟩
  exact ⟨_, rfl, rfl, by rw [Sg.sumB_size]; decide, hb⟩
/-- Root of a list of the call's own, likewise. -/
theorem root_txt {w : World} {base : Nat} {v : Value} {ss : List ByteArray} (h : OwnStrs w base v ss) (hs : ∀ s ∈ ss, s.size ≤ 140737488355328) (hmax : ss.length ≤ 4096) :
    Calls Try.prog 15 #[v] w fun e w' => ∃ y : ByteArray, e = .returned (.string y) ∧ Hid (y = Sg.root ss) ∧ y.size ≤ 8 ∧ Below w.heap.size w w' := by
  refine (refRoot_own h hs hmax).mono ?_
  rintro e w' ⟨rfl, hb⟩
  exact ⟨_, rfl, rfl, by rw [Sg.root_size]; decide, hb⟩
/-- chart, likewise. -/
theorem chart_txt (ac : List Sg.Acc) (ao aoP : Option Addr) (n cap nP capP : Nat) (w : World) (hn : ac.length = n) (hmax : n ≤ 8) (hok : ∀ a ∈ ac, a.name.size ≤ 12 ∧ 0 ≤ a.line ∧ a.line ≤ 3) (hl : AccsIn w ao ac) :
    Calls Try.prog 79 #[.agg #[.slice ao n cap, .slice aoP nP capP]] w fun e w' => ∃ y : ByteArray, e = .returned (.string y) ∧ Hid (y = Sg.chartB ac) ∧ y.size ≤ 200 ∧ Below w.heap.size w w' := by
  refine (chart_any ac ao aoP n cap nP capP w hn hmax hok hl).mono ?_
  rintro e w' ⟨rfl, hb⟩
  exact ⟨_, rfl, rfl, by have := Sg.chartB_size ac (fun a ha => (hok a ha).1); omega, hb⟩
/-- amounts, likewise. -/
theorem amounts_txt (l : List Int) (ao : Option Addr) (n cap : Nat) (w : World) (hn : l.length = n) (hmax : n ≤ 8) (hl : IntsIn w ao l) (hf : ∀ x ∈ l, Sg.fits x = true) :
    Calls Try.prog 81 #[.slice ao n cap] w fun e w' => ∃ y : ByteArray, e = .returned (.string y) ∧ Hid (y = Sg.amountsB l) ∧ y.size ≤ 200 ∧ Below w.heap.size w w' := by
  refine (amounts_any l ao n cap w hn (by omega) hl hf).mono ?_
  rintro e w' ⟨rfl, hb⟩
  exact ⟨_, rfl, rfl, by rw [Sg.amountsB_size]; omega, hb⟩

theorem stmt_sizes (ac : List Sg.Acc) (p : List Sg.Ent) (t : List Int) : (Sg.stmt ac p t).length = 4 ∧ ∀ s ∈ Sg.stmt ac p t, s.size ≤ 140737488355328 := by
  refine ⟨by simp [Sg.stmt], fun s hs => ?_⟩
  unfold Sg.stmt at hs
  obtain ⟨k, _, rfl⟩ := List.mem_map.1 hs
  unfold Sg.lineB
  rw [ByteArray.size_append, ByteArray.size_append, ByteArray.size_append, Sg.beB_size, Sg.beB_size, Sg.beB_size, Sg.root_size]
  decide

set_option maxHeartbeats 12800000 in
/-- Books.Headers. -/
theorem headers_any (h : Sg.Hist) (bal tot : List (List Int)) (aoA aoP aoB aoT : Option Addr) (nA nP capA capP capB capT : Nat) (w : World) (hB : BksAt w aoA aoP aoB aoT nA nP h bal tot) :
    Calls Try.prog 82 #[.agg #[.slice aoA nA capA, .slice aoP nP capP, .slice aoB nP capB, .slice aoT nP capT]] w fun e w' => ∃ v, e = .returned v ∧ OwnStrs w' w.heap.size v (Sg.hdTo h bal tot nP).1 ∧ Below w.heap.size w w' := by
  obtain ⟨i0, hi, hz0, hz1, hz2⟩ := info_parts Try.infoStr
  have HB : Hid (BksAt w aoA aoP aoB aoT nA nP h bal tot) := hB
  obtain ⟨f8, f6⟩ := hB.few
  clear hB
  go_enter Try.func82, Try.ntmps82
  go_wp2_with fail
  go_loopw [3, 4, 5] (fun o la i wr => ∃ k : Nat, k ≤ nP ∧ i = .int .i64 (k : Int) ∧ OwnStrs wr (w.heap.size + 1) o (Sg.hdTo h bal tot k).1 ∧ (∃ ll, la = .string ll ∧ Hid (ll = (Sg.hdTo h bal tot k).2)) ∧ Below (w.heap.size + 1) (bkBox w (.slice aoA nA capA) (.slice aoP nP capP) (.slice aoB nP capB) (.slice aoT nP capT)) wr) (fun _ _ i _ => nP - (intOf i).toNat)
  case atStart => exact ⟨0, by omega, rfl, World.ownsRow_nil _ _ _ _, ⟨_, rfl, rfl⟩, bkBox_refl _ _ _ _ _⟩
  case round =>
    obtain ⟨k, hk, rfl, hown, ⟨ll, rfl, hll⟩, hbel⟩ := hrel
    obtain ⟨x0, x1, x2, x3, hbw, hsz⟩ := bkBox_facts hbel
    by_cases hlt : k < nP
    · have l1 : k < h.pers.length := by rw [HB.out.lenP]; exact hlt
      have l2 : k < bal.length := by rw [HB.out.lenB]; exact hlt
      have l3 : k < tot.length := by rw [HB.out.lenT]; exact hlt
      have HS : Hid ((Sg.hdTo h bal tot (k + 1)).1 = (Sg.hdTo h bal tot k).1 ++ [Sg.headerB h.accs k ll h.pers[k] bal[k] tot[k]] ∧ (Sg.hdTo h bal tot (k + 1)).2 = Sg.sumB (Sg.headerB h.accs k ll h.pers[k] bal[k] tot[k])) := by
        show _ ∧ _
        have e1 : h.pers.getD k [] = h.pers[k] := by simp [List.getD, l1]
        have e2 : bal.getD k [] = bal[k] := by simp [List.getD, l2]
        have e3 : tot.getD k [] = tot[k] := by simp [List.getD, l3]
        simp only [Sg.hdTo, e1, e2, e3, ← hll.out]
        exact ⟨trivial, trivial⟩
      have hlz : ll.size ≤ 2 := by rw [hll.out, Sg.hdTo_last]; exact Nat.le_refl _
      have HOL : Hid ((Sg.hdTo h bal tot k).1.length ≤ 6) := by show _ ≤ _; rw [Sg.hdTo_len]; omega
      have hfine := HB.out.allFine _ (List.getElem_mem l1)
      obtain ⟨hbl, hbf⟩ := HB.out.balFine _ (List.getElem_mem l2)
      obtain ⟨htl, htf⟩ := HB.out.totFine _ (List.getElem_mem l3)
      have HLV : Hid (∀ W : World, Below w.heap.size w W → Calls Try.prog 96 #[.agg #[.slice aoA nA capA, .slice aoP nP capP, .slice aoB nP capB, .slice aoT nP capT], .int .i64 (k : Int)] W fun e w' => ∃ v, e = .returned v ∧ OwnStrs w' W.heap.size v (Sg.stmt h.accs h.pers[k] tot[k]) ∧ Below W.heap.size W w') :=
        fun W hW => leaves_any h.accs h.pers tot k aoA aoP aoT nA capA nP capP nP capT _ W (HB.out.accs.below hW) HB.out.lenA (HB.out.pers.below hW) HB.out.lenP l1 (HB.out.tots.below hW) HB.out.lenT l3 htl htf f8 f6 hfine
      obtain ⟨bP, offP, eP, hbP, aoE, capE, hcE, hE⟩ := (HB.out.pers).cell (k := k) l1
      subst eP
      obtain ⟨bB, offB, eB, hbB, aoI, capI, hcI, hI⟩ := (HB.out.bals).cell (k := k) l2
      subst eB
      rw [hbl] at hcI
      generalize h.pers[k] = es at *
      generalize bal[k] = bl at *
      generalize tot[k] = tl at *
      generalize (Sg.hdTo h bal tot k).1 = hs at *
      obtain ⟨ne, hne⟩ : ∃ ne, es.length = ne := ⟨_, rfl⟩
      rw [hne] at hcE
      have HNE : Hid (es.length = ne) := hne
      have hes : ne ≤ 12 := by have := hfine.1; omega
      have HFI : Hid (perFine nA es) := hfine
      have HBL : Hid (bl.length = nA ∧ ∀ v ∈ bl, Sg.fits v = true) := ⟨hbl, hbf⟩
      have hcE' := (hbw.cell (p := ⟨bP, offP + k, none⟩) hbP).trans hcE
      have i1 : (0 : Int) ≤ (k : Int) := by omega
      have i2 : (k : Int) < (nP : Int) := by omega
      clear hfine hbl hbf htl htf hne l1 l2 l3 hll
      obtain ⟨wz, ewz⟩ : ∃ z : World, z = wr := ⟨_, rfl⟩
      subst ewz
      go_wp2_with fail
      go_loopw [7, 8] (fun o j wr => ∃ r : Nat, r ≤ ne ∧ j = .int .i64 (r : Int) ∧ OwnStrs wr wz.heap.size o ((es.take r).map Sg.entB) ∧ Below wz.heap.size wz wr) (fun _ j _ => ne - (intOf j).toNat)
      case atStart => exact ⟨0, by omega, rfl, World.ownsRow_nil _ _ _ _, Below.refl _ _⟩
      case round =>
        obtain ⟨r, hr, rfl, hot, hbz⟩ := hrel
        have hbwr := hbw.trans (hbz.mono hbw.size)
        have hzz := hbz.size
        have HTL : Hid (((es.take r).map Sg.entB).length ≤ 12) := by show _ ≤ _; simp; omega
        by_cases hlr : r < ne
        · have hra : r < es.length := by rw [HNE.out]; exact hlr
          obtain ⟨bE, offE, eE, hbE, hm, aoQ, capQ, hcQ, hPs⟩ := (hE.below hbwr).cell (k := r) hra
          subst eE
          have HSu : Hid ((es.take (r + 1)).map Sg.entB = (es.take r).map Sg.entB ++ [Sg.entB es[r]]) := by
            show _ = _
            rw [List.take_succ_eq_append_getElem hra, List.map_append]; rfl
          obtain ⟨g1, g2, g3⟩ := HFI.out.2 es[r] (List.getElem_mem _)
          have HPo : Hid (∀ p ∈ es[r].posts, Sg.fits p.acct = true ∧ Sg.fits p.amt = true) := fun p hp => ⟨decide_eq_true (by have := g3 p hp; omega), (g3 p hp).2.2⟩
          obtain ⟨mm, pp, hmp⟩ : ∃ mm pp, es[r] = ⟨mm, pp⟩ := ⟨_, _, rfl⟩
          rw [hmp] at hm hcQ hPs g1 g2 HPo HSu
          simp only at hm hcQ hPs g1 g2 HPo
          obtain ⟨np, hnp⟩ : ∃ np, pp.length = np := ⟨_, rfl⟩
          rw [hnp] at hcQ g2
          have HNP : Hid (pp.length = np) := hnp
          have i3 : (0 : Int) ≤ (r : Int) := by omega
          have i4 : (r : Int) < (ne : Int) := by omega
          generalize (es.take r).map Sg.entB = ts at *
          clear hmp hnp g3
          go_wp2_with fail
          refine (entry_any mm pp aoQ np capQ _ HNP.out g2 g1 HPo.out hPs).mono ?_
          rintro e w5 ⟨rfl, hb5⟩
          have hot5 := hot.below hb5
          unfold OwnStrs at hot5
          have hbz5 := hbz.trans (hb5.mono hbz.size)
          have hz5 := hbz5.size
          have htl := HTL.out
          generalize Sg.entB ⟨mm, pp⟩ = et at *
          clear hb5 hPs hot hbz
          go_wp2_with (at_builtin; refine wpList_append_own _ rfl _ _ 24 rfl wz.heap.size 9 i0 (.string ByteArray.empty) 1 16 Try.underlying24 hi hz0 hz1 hz2 rfl (by decide) _ _ _ rfl (hot5.alloc _) ⟨w5.heap.size, 0, none⟩ 1 1 [.string et] rfl rfl ?c1 ?c2 ?c3 ?c4 ?c5 ?_)
          case c1 =>
            intro j u hj
            match j, hj with
            | 0, hj => simp at hj; subst hj; simp [Addr.add]
          case c2 => intro u hu; simp at hu; subst hu; rfl
          case c3 => unfold maxLen; omega
          case c4 => omega
          case c5 => simp; omega
          intro v' w6 hown' hgrow _
          have hb6 := below_push (by omega) hot5 hbz5 hgrow
          have HO : Hid (OwnStrs w6 wz.heap.size v' ((es.take (r + 1)).map Sg.entB)) := by
            show OwnStrs _ _ _ _
            rw [HSu.out]
            exact OwnStrs.push hown'
          clear hgrow hot5 hown' HSu
          go_wp2_with fail
          go_roundw
          case rel => exact ⟨r + 1, by omega, by go_num, HO.out, hb6⟩
          case measure => simp [intOf]; omega
        · have hrn : r = es.length := by rw [HNE.out]; omega
          rw [hrn, List.take_length] at hot
          have hotl : (es.map Sg.entB).length ≤ 4096 := by rw [List.length_map, HNE.out]; omega
          have HTS : Hid (∀ s ∈ es.map Sg.entB, s.size ≤ 140737488355328) := fun s hs' => by
            obtain ⟨e, he, rfl⟩ := List.mem_map.1 hs'
            have := HFI.out.2 e he
            rw [Sg.entB_size]; omega
          have hbel2 := bk_call hbel hbz
          obtain ⟨z0, z1, z2, z3, _, hsz2⟩ := bkBox_facts hbel2
          have hcI2 := (hbwr.cell (p := ⟨bB, offB + k, none⟩) hbB).trans hcI
          have hI2 := hI.below hbwr
          have hown2 := hown.below hbz
          have hw2s := hbwr.size
          clear hrn hE hown HTL
          have hol := HOL.out
          obtain ⟨wy, ewy⟩ : ∃ z : World, z = wr := ⟨_, rfl⟩
          subst ewy
          have hS := five_keep (W := wy) (w' := wy) (Nat.lt_of_lt_of_le hbB hw2s) hsz2 ⟨z0, z1, z2, z3, hcI2⟩ (Below.refl _ _)
          have hSd := five_keep (W := wy) (w' := wy.drew) (Nat.lt_of_lt_of_le hbB hw2s) hsz2 ⟨z0, z1, z2, z3, hcI2⟩ (Below.refl _ _).drew
          go_wp2_with fail
          go_region_held3 (fun w' => w'.cell? ⟨w.heap.size, 0, none⟩ = some (.slice aoA nA capA) ∧ w'.cell? ⟨w.heap.size, 1, none⟩ = some (.slice (some ⟨bP, offP, none⟩) nP capP) ∧ w'.cell? ⟨w.heap.size, 2, none⟩ = some (.slice (some ⟨bB, offB, none⟩) nP capB) ∧ w'.cell? ⟨w.heap.size, 3, none⟩ = some (.slice aoT nP capT) ∧ w'.cell? ⟨bB, offB + k, none⟩ = some (.slice aoI nA capI) ∧ Below wy.heap.size wy w')
            (first | assumption)
            (first
              | (go_at_call_of 40 (Value.int IntKind.i64 (k : Int)); refine (bytes_txt (k : Int) 1 _ (by omega) (by decide) (by decide)).mono ?_; rintro e w1' ⟨y1, rfl, hy1, hys1, hb1⟩; have kb1 := ((Below.refl wy.heap.size wy).drew).trans hb1; have hh1 := five_keep (W := wy) (w' := w1') (Nat.lt_of_lt_of_le hbB hw2s) hsz2 ⟨z0, z1, z2, z3, hcI2⟩ kb1; have q43 := cat ({ data := #[72, 69, 65, 68] } : ByteArray) y1 (by show 4 + y1.size ≤ _; omega); have e43 := cat_size ({ data := #[72, 69, 65, 68] } : ByteArray) y1; have q45 := cat (({ data := #[72, 69, 65, 68] } : ByteArray) ++ y1) ll (by rw [e43]; show 4 + y1.size + _ ≤ _; omega))
              | (go_at_call 79; refine (chart_txt h.accs aoA _ nA capA nP capP _ HB.out.lenA f8 HB.out.accFine (HB.out.accs.below (hbwr.trans (kb1.mono hw2s)))).mono ?_; rintro e w2' ⟨ct, rfl, hct, hcz, hb2⟩; have kb2 := kb1.trans (hb2.mono kb1.size); have hh2 := five_keep (W := wy) (w' := w2') (Nat.lt_of_lt_of_le hbB hw2s) hsz2 ⟨z0, z1, z2, z3, hcI2⟩ kb2)
              | (go_at_call_of 11 (Value.string ct); refine (sum_txt ct _ (by omega)).mono ?_; rintro e w3' ⟨s1, rfl, hs1, hss1, hb3⟩; have kb3 := kb2.trans (hb3.mono kb2.size); have hh3 := five_keep (W := wy) (w' := w3') (Nat.lt_of_lt_of_le hbB hw2s) hsz2 ⟨z0, z1, z2, z3, hcI2⟩ kb3; have q50 := cat (({ data := #[72, 69, 65, 68] } : ByteArray) ++ y1 ++ ll) s1 (by rw [cat_size, cat_size]; show 4 + y1.size + _ + _ ≤ _; omega))
              | (go_at_call 40; refine (bytes_txt (ne : Int) 1 _ (by omega) (by decide) (by decide)).mono ?_; rintro e w4' ⟨y2, rfl, hy2, hys2, hb4⟩; have kb4 := kb3.trans (hb4.mono kb3.size); have hh4 := five_keep (W := wy) (w' := w4') (Nat.lt_of_lt_of_le hbB hw2s) hsz2 ⟨z0, z1, z2, z3, hcI2⟩ kb4; have q54 := cat (({ data := #[72, 69, 65, 68] } : ByteArray) ++ y1 ++ ll ++ s1) y2 (by rw [cat_size, cat_size, cat_size]; show 4 + y1.size + _ + _ + _ ≤ _; omega))
              | (go_at_call_of 15 (u7); refine (root_txt (hot.below kb4) HTS.out hotl).mono ?_; rintro e w5' ⟨r1, rfl, hr1, hrs1, hb5⟩; have kb5 := kb4.trans (hb5.mono kb4.size); have hh5 := five_keep (W := wy) (w' := w5') (Nat.lt_of_lt_of_le hbB hw2s) hsz2 ⟨z0, z1, z2, z3, hcI2⟩ kb5; have q57 := cat (({ data := #[72, 69, 65, 68] } : ByteArray) ++ y1 ++ ll ++ s1 ++ y2) r1 (by rw [cat_size, cat_size, cat_size, cat_size]; show 4 + y1.size + _ + _ + _ + _ ≤ _; omega))
              | (go_at_call 96; refine (HLV.out _ (hbwr.trans (kb5.mono hw2s))).mono ?_; rintro e w6' ⟨vL, rfl, hoL, hb6⟩; have kb6 := kb5.trans (hb6.mono kb5.size); have hh6 := five_keep (W := wy) (w' := w6') (Nat.lt_of_lt_of_le hbB hw2s) hsz2 ⟨z0, z1, z2, z3, hcI2⟩ kb6)
              | (go_at_call 15; refine (root_txt hoL (stmt_sizes _ _ _).2 (by rw [(stmt_sizes _ _ _).1]; omega)).mono ?_; rintro e w7' ⟨r2, rfl, hr2, hrs2, hb7⟩; have kb7 := kb6.trans (hb7.mono kb6.size); have hh7 := five_keep (W := wy) (w' := w7') (Nat.lt_of_lt_of_le hbB hw2s) hsz2 ⟨z0, z1, z2, z3, hcI2⟩ kb7; have q62 := cat (({ data := #[72, 69, 65, 68] } : ByteArray) ++ y1 ++ ll ++ s1 ++ y2 ++ r1) r2 (by rw [cat_size, cat_size, cat_size, cat_size, cat_size]; show 4 + y1.size + _ + _ + _ + _ + _ ≤ _; omega))
              | (go_at_call 81; refine (amounts_txt bl aoI nA capI _ HBL.out.1 f8 (hI2.below kb7) HBL.out.2).mono ?_; rintro e w8' ⟨ya, rfl, hya, hyz, hb8⟩; have kb8 := kb7.trans (hb8.mono kb7.size); have hh8 := five_keep (W := wy) (w' := w8') (Nat.lt_of_lt_of_le hbB hw2s) hsz2 ⟨z0, z1, z2, z3, hcI2⟩ kb8)
              | (go_at_call 11; refine (sum_txt ya _ (by omega)).mono ?_; rintro e w9' ⟨s2, rfl, hs2, hss2, hb9⟩; have kb9 := kb8.trans (hb9.mono kb8.size); have hh9 := five_keep (W := wy) (w' := w9') (Nat.lt_of_lt_of_le hbB hw2s) hsz2 ⟨z0, z1, z2, z3, hcI2⟩ kb9; have q70 := cat (({ data := #[72, 69, 65, 68] } : ByteArray) ++ y1 ++ ll ++ s1 ++ y2 ++ r1 ++ r2) s2 (by rw [cat_size, cat_size, cat_size, cat_size, cat_size, cat_size]; show 4 + y1.size + _ + _ + _ + _ + _ + _ ≤ _; omega)))
          have HH : Hid (({ data := #[72, 69, 65, 68] } : ByteArray) ++ y1 ++ ll ++ s1 ++ y2 ++ r1 ++ r2 ++ s2 = Sg.headerB h.accs k ll es bl tl) := by
            show _ = _
            unfold Sg.headerB Sg.headT
            rw [hy1.out, hs1.out, hct.out, hy2.out, hr1.out, hr2.out, hs2.out, hya.out, HNE.out]
          have HZ : Hid ((({ data := #[72, 69, 65, 68] } : ByteArray) ++ y1 ++ ll ++ s1 ++ y2 ++ r1 ++ r2 ++ s2).size ≤ 100) := by
            show _ ≤ _
            rw [cat_size, cat_size, cat_size, cat_size, cat_size, cat_size, cat_size]
            show 4 + y1.size + _ + _ + _ + _ + _ + _ ≤ _
            omega
          have ho9 := hown2.below kb9
          unfold OwnStrs at ho9
          have hb9' := bk_call hbel2 kb9
          have hs9 := kb9.size
          rw [← HH.out] at HS
          have HS' : Hid ((Sg.hdTo h bal tot (k + 1)).1 = hs ++ [({ data := #[72, 69, 65, 68] } : ByteArray) ++ y1 ++ ll ++ s1 ++ y2 ++ r1 ++ r2 ++ s2] ∧ (Sg.hdTo h bal tot (k + 1)).2 = Sg.sumB (({ data := #[72, 69, 65, 68] } : ByteArray) ++ y1 ++ ll ++ s1 ++ y2 ++ r1 ++ r2 ++ s2)) := HS
          generalize (({ data := #[72, 69, 65, 68] } : ByteArray) ++ y1 ++ ll ++ s1 ++ y2 ++ r1 ++ r2 ++ s2) = ht at *
          clear hh1 hh2 hh3 hh4 hh5 hh6 hh7 hh8 hh9 kb1 kb2 kb3 kb4 kb5 kb6 kb7 kb8 hb1 hb2 hb3 hb4 hb5 hb6 hb7 hb8 hb9 q43 q45 q50 q54 q57 q62 q70 e43 hS hSd hy1 hct hs1 hy2 hr1 hoL hr2 hya hs2 HH HS hot hown2 hbel2 hbel hbz kb9
          go_wp2_with (at_builtin; refine wpList_append_own _ rfl _ _ 24 rfl (w.heap.size + 1) 9 i0 (.string ByteArray.empty) 1 16 Try.underlying24 hi hz0 hz1 hz2 rfl (by decide) _ _ _ rfl (ho9.alloc _) ⟨w9'.heap.size, 0, none⟩ 1 1 [.string ht] rfl rfl ?d1 ?d2 ?d3 ?d4 ?d5 ?_)
          case d1 =>
            intro j u hj
            match j, hj with
            | 0, hj => simp at hj; subst hj; simp [Addr.add]
          case d2 => intro u hu; simp at hu; subst hu; rfl
          case d3 => unfold maxLen; omega
          case d4 => omega
          case d5 => simp; omega
          intro v' wa hown' hgrow _
          have hba := below_push (by omega) ho9 hb9' hgrow
          have HO : Hid (OwnStrs wa (w.heap.size + 1) v' (Sg.hdTo h bal tot (k + 1)).1) := by
            show OwnStrs _ _ _ _
            rw [HS'.out.1]
            exact OwnStrs.push hown'
          clear hgrow ho9 hown' hb9'
          go_wp2_with fail
          refine (sum_txt ht _ (by have := HZ.out; omega)).mono ?_
          rintro e wb ⟨yl, rfl, hyl, hyls, hbb⟩
          have HOb := HO.out.below hbb
          have hbb' := bk_call hba hbb
          have HYL : Hid (yl = (Sg.hdTo h bal tot (k + 1)).2) := by show _ = _; rw [hyl.out, HS'.out.2]
          clear hbb hba HO hyl
          go_wp2_with fail
          go_roundw
          case rel => exact ⟨k + 1, by omega, by go_num, HOb, ⟨_, rfl, HYL⟩, hbb'⟩
          case measure => simp [intOf]; omega
    · have hkn : k = nP := by omega
      rw [hkn] at hown
      go_wp2_with fail
      go_ret
      exact ⟨_, rfl, ownsRow_base hown (by omega), hbw⟩

set_option maxHeartbeats 1600000 in
/-- Books.Head. -/
theorem head_any (h : Sg.Hist) (bal tot : List (List Int)) (aoA aoP aoB aoT : Option Addr) (nA nP capA capP capB capT : Nat) (w : World) (hB : BksAt w aoA aoP aoB aoT nA nP h bal tot) (h1 : 1 ≤ nP) :
    Calls Try.prog 54 #[.agg #[.slice aoA nA capA, .slice aoP nP capP, .slice aoB nP capB, .slice aoT nP capT]] w fun e w' => e = .returned (.string (Sg.hdTo h bal tot nP).2) ∧ Below w.heap.size w w' := by
  have hB1 := hB.below (bkBox_facts (bkBox_refl w (.slice aoA nA capA) (.slice aoP nP capP) (.slice aoB nP capB) (.slice aoT nP capT))).2.2.2.2.1
  have HB1 : Hid (BksAt (bkBox w (.slice aoA nA capA) (.slice aoP nP capP) (.slice aoB nP capB) (.slice aoT nP capT)) aoA aoP aoB aoT nA nP h bal tot) := hB1
  obtain ⟨_, f6⟩ := hB.few
  clear hB hB1
  go_enter Try.func54, Try.ntmps54
  go_wp2_with fail
  refine (headers_any h bal tot aoA aoP aoB aoT nA nP capA capP capB capT _ HB1.out).mono ?_
  rintro e w1 ⟨v, rfl, hown, hb1⟩
  obtain ⟨ao, cap, hv, hle, hm, hin⟩ := own_strs_shape hown
  have hlen := Sg.hdTo_len h bal tot nP
  obtain ⟨g, hao, hg, hat⟩ := hin (by omega)
  have hc := hat (nP - 1) (by omega)
  rw [hao, hlen] at hv
  rw [hv]
  have HX : Hid ((Sg.hdTo h bal tot nP).2 = Sg.sumB ((Sg.hdTo h bal tot nP).1.getD (nP - 1) ByteArray.empty) ∧ ((Sg.hdTo h bal tot nP).1.getD (nP - 1) ByteArray.empty).size ≤ 1000000) := by
    obtain ⟨q, rfl⟩ : ∃ q, nP = q + 1 := ⟨nP - 1, by omega⟩
    obtain ⟨e1, e2⟩ := Sg.hdTo_get h bal tot q
    show _ ∧ _
    rw [Nat.add_sub_cancel]
    exact ⟨e1, by omega⟩
  obtain ⟨q, hq⟩ : ∃ q, nP = q + 1 := ⟨nP - 1, by omega⟩
  subst hq
  simp only [Nat.add_sub_cancel] at hc HX
  generalize (Sg.hdTo h bal tot (q + 1)).1.getD q ByteArray.empty = lt at *
  rw [Nat.zero_add] at hc
  have hb01 := ((bkBox_facts (bkBox_refl w (.slice aoA (nA) capA) (.slice aoP (q + 1) capP) (.slice aoB (q + 1) capB) (.slice aoT (q + 1) capT))).2.2.2.2.1).trans (hb1.mono (by rw [bkBox_size]; omega))
  clear hat hown hin hv hb1
  go_wp2_with fail
  refine (sum_txt lt _ HX.out.2).mono ?_
  rintro e w2 ⟨y, rfl, hy, hys, hb2⟩
  go_wp2_with fail
  go_ret
  exact ⟨ret_str2 (by rw [HX.out.1, hy.out]), hb01.trans (hb2.mono hb01.size)⟩
end Go.Proofs.Ytoadiibfmcjgaaa
