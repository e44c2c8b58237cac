/-
  THE WALK of signetref.Books.leaves.
-/
import Derived.Test.YtoadiibfmcjgaaaBdrills
namespace Go.Proofs.Ytoadiibfmcjgaaa
open Go.RowKit
set_option maxRecDepth 100000
attribute [local go_sem ↓] Go.wp_at_zero Go.wp_at_succ

/-- A slice of slices of numbers. -/
def IntssIn (w : World) (ao : Option Addr) (ll : List (List Int)) : Prop := ll.length = 0 ∨ ∃ b off, ao = some ⟨b, off, none⟩ ∧ b < w.heap.size ∧ ∀ i (h : i < ll.length), ∃ ao' cap', w.cell? ⟨b, off + i, none⟩ = some (.slice ao' ll[i].length cap') ∧ IntsIn w ao' ll[i]
theorem IntssIn.below {w w' : World} {ao : Option Addr} {ll : List (List Int)} (h : IntssIn w ao ll) (hb : Below w.heap.size w w') : IntssIn w' ao ll := by
  rcases h with h0 | ⟨b, off, e, hbw, hat⟩
  · exact Or.inl h0
  · refine Or.inr ⟨b, off, e, Nat.lt_of_lt_of_le hbw hb.size, fun i hi => ?_⟩
    rw [hb.cell (p := ⟨b, off + i, none⟩) hbw]
    obtain ⟨ao', cap', h2, h3⟩ := hat i hi
    exact ⟨ao', cap', h2, h3.below hb⟩
theorem IntssIn.cell {w : World} {ao : Option Addr} {ll : List (List Int)} (h : IntssIn w ao ll) {k : Nat} (hk : k < ll.length) : ∃ b off, ao = some ⟨b, off, none⟩ ∧ b < w.heap.size ∧ ∃ ao' cap', w.cell? ⟨b, off + k, none⟩ = some (.slice ao' ll[k].length cap') ∧ IntsIn w ao' ll[k] := by
  rcases h with h0 | ⟨b, off, e, hbw, hat⟩
  · omega
  · exact ⟨b, off, e, hbw, hat k hk⟩
theorem IntsIn.cell' {w : World} {ao : Option Addr} {l : List Int} (h : IntsIn w ao l) {k : Nat} (hk : k < l.length) : ∃ b off, ao = some ⟨b, off, none⟩ ∧ b < w.heap.size ∧ w.cell? ⟨b, off + k, none⟩ = some (.int .i64 (l.getD k 0)) := by
  rcases h with h0 | ⟨b, off, e, hbw, hat⟩
  · omega
  · exact ⟨b, off, e, hbw, hat k hk⟩

/-- What the walks ask of a period of closed books. -/
def perFine (nA : Nat) (p : List Sg.Ent) : Prop := p.length ≤ 12 ∧ ∀ e ∈ p, e.memo.size ≤ 20 ∧ e.posts.length ≤ 6 ∧ ∀ t ∈ e.posts, 0 ≤ t.acct ∧ t.acct < (nA : Int) ∧ Sg.fits t.amt = true
namespace Sg
theorem drillsIn_fits (ac : List Acc) (line : Int) (i : Nat) (hi : i ≤ 255) : ∀ (ps : List Pst) (j : Nat), j + ps.length ≤ 255 → (∀ t ∈ ps, fits t.acct = true ∧ fits t.amt = true) → ∀ d ∈ drillsIn ac line i j ps, d.ent ≤ 255 ∧ d.place ≤ 255 ∧ fits d.acct = true ∧ fits d.amt = true
  | [], _, _, _ => by simp [drillsIn]
  | p :: ps, j, hj, h => by
    have ih := drillsIn_fits ac line i hi ps (j + 1) (by simp at hj; omega) (fun t ht => h t (by simp [ht]))
    have hp := h p (by simp)
    intro d hd
    simp only [drillsIn] at hd
    split at hd
    · rcases List.mem_cons.1 hd with rfl | hd
      · exact ⟨hi, by simp at hj; show j ≤ 255; omega, hp.1, hp.2⟩
      · exact ih d hd
    · exact ih d hd
theorem drillsFrom_fits (ac : List Acc) (line : Int) : ∀ (es : List Ent) (i : Nat), i + es.length ≤ 255 → (∀ e ∈ es, e.posts.length ≤ 6 ∧ ∀ t ∈ e.posts, fits t.acct = true ∧ fits t.amt = true) → ∀ d ∈ drillsFrom ac line i es, d.ent ≤ 255 ∧ d.place ≤ 255 ∧ fits d.acct = true ∧ fits d.amt = true
  | [], _, _, _ => by simp [drillsFrom]
  | e :: es, i, hi, h => by
    intro d hd
    simp only [drillsFrom, List.mem_append] at hd
    have he := h e (by simp)
    rcases hd with hd | hd
    · exact drillsIn_fits ac line i (by simp at hi; omega) e.posts 0 (by omega) he.2 d hd
    · exact drillsFrom_fits ac line es (i + 1) (by simp at hi; omega) (fun x hx => h x (by simp [hx])) d hd
end Sg
theorem perFine_drills {nA : Nat} {p : List Sg.Ent} (hA : nA ≤ 8) (h : perFine nA p) (ac : List Sg.Acc) (line : Int) : (∀ d ∈ Sg.drillsOf ac p line, drlFits d) ∧ (Sg.drillsOf ac p line).length ≤ 72 := by
  refine ⟨fun d hd => ?_, ?_⟩
  · refine Sg.drillsFrom_fits ac line p 0 (by have := h.1; omega) (fun e he => ⟨(h.2 e he).2.1, fun t ht => ⟨?_, ((h.2 e he).2.2 t ht).2.2⟩⟩) d hd
    have := (h.2 e he).2.2 t ht
    exact decide_eq_true (by omega)
  · have := Sg.drillsFrom_len ac line p 0 (fun e he => (h.2 e he).2.1)
    have := h.1
    unfold Sg.drillsOf
    omega

/-- The leaves of a statement so far. -/
def stmtTo (ac : List Sg.Acc) (p : List Sg.Ent) (t : List Int) (k : Nat) : List ByteArray := (List.range k).map fun (i : Nat) => Sg.lineB (i : Int) (t.getD i 0) (Sg.drillsOf ac p (i : Int))
theorem stmtTo_succ (ac : List Sg.Acc) (p : List Sg.Ent) (t : List Int) (k : Nat) : stmtTo ac p t (k + 1) = stmtTo ac p t k ++ [Sg.lineB (k : Int) (t.getD k 0) (Sg.drillsOf ac p (k : Int))] := by
  unfold stmtTo; rw [List.range_succ, List.map_append]; rfl

theorem six_keep {W w' : World} {n bT oT bI oI : Nat} {a b c d x y : Value} (hbT : bT < W.heap.size) (hbI : bI < W.heap.size) (hn : n < W.heap.size)
    (h : W.cell? ⟨n, 0, none⟩ = some a ∧ W.cell? ⟨n, 1, none⟩ = some b ∧ W.cell? ⟨n, 2, none⟩ = some c ∧ W.cell? ⟨n, 3, none⟩ = some d ∧ W.cell? ⟨bT, oT, none⟩ = some x ∧ W.cell? ⟨bI, oI, none⟩ = some y) (hb : Below W.heap.size W w') :
    w'.cell? ⟨n, 0, none⟩ = some a ∧ w'.cell? ⟨n, 1, none⟩ = some b ∧ w'.cell? ⟨n, 2, none⟩ = some c ∧ w'.cell? ⟨n, 3, none⟩ = some d ∧ w'.cell? ⟨bT, oT, none⟩ = some x ∧ w'.cell? ⟨bI, oI, none⟩ = some y ∧ Below W.heap.size W w' :=
  ⟨(hb.cell (p := ⟨n, 0, none⟩) hn).trans h.1, (hb.cell (p := ⟨n, 1, none⟩) hn).trans h.2.1, (hb.cell (p := ⟨n, 2, none⟩) hn).trans h.2.2.1, (hb.cell (p := ⟨n, 3, none⟩) hn).trans h.2.2.2.1, (hb.cell (p := ⟨bT, oT, none⟩) hbT).trans h.2.2.2.2.1, (hb.cell (p := ⟨bI, oI, none⟩) hbI).trans h.2.2.2.2.2, hb⟩

set_option maxHeartbeats 6400000 in
/-- Books.leaves. -/
theorem leaves_any (ac : List Sg.Acc) (pers : List (List Sg.Ent)) (tot : List (List Int)) (q : Nat) (aoA aoP aoT : Option Addr) (nA capA nP capP nT capT : Nat) (vB : Value) (w : World) (hA : AccsIn w aoA ac) (hnA : ac.length = nA) (hP : PersIn w aoP pers) (hnP : pers.length = nP) (hq : q < pers.length)
    (hT : IntssIn w aoT tot) (hnT : tot.length = nT) (hqT : q < tot.length) (ht4 : tot[q].length = 4) (htf : ∀ v ∈ tot[q], Sg.fits v = true) (hsm : nA ≤ 8) (hnP6 : nP ≤ 6) (hper : perFine nA pers[q]) :
    Calls Try.prog 96 #[.agg #[.slice aoA nA capA, .slice aoP nP capP, vB, .slice aoT nT capT], .int .i64 (q : Int)] w fun e w' => ∃ v, e = .returned v ∧ OwnStrs w' w.heap.size v (Sg.stmt ac pers[q] tot[q]) ∧ Below w.heap.size w w' := by
  obtain ⟨i0, hi, hz0, hz1, hz2⟩ := info_parts Try.infoStr
  obtain ⟨bT, offT, rfl, hbT, aoI, capI, hcI, hI⟩ := hT.cell (k := q) hqT
  have hq1 : (q : Int) < (nT : Int) := by omega
  have hq0 : (0 : Int) ≤ (q : Int) := by omega
  have HST : Hid (Sg.stmt ac pers[q] tot[q] = stmtTo ac pers[q] tot[q] 4) := rfl
  have HDR : Hid (∀ line : Int, ∀ (W : World), Below w.heap.size w W → Calls Try.prog 115 #[.agg #[.slice aoA nA capA, .slice aoP nP capP, vB, .slice (some ⟨bT, offT, none⟩) nT capT], .int .i64 (q : Int), .int .i64 line] W fun e w' => ∃ v, e = .returned v ∧ OwnDrls w' W.heap.size v (Sg.drillsOf ac pers[q] line) ∧ Below W.heap.size W w') :=
    fun line W hW => bDrills_any ac pers q line aoA aoP nA capA nP capP vB _ W (hA.below hW) hnA (hP.below hW) hnP hq hsm hnP6 ⟨hper.1, fun e he => (hper.2 e he).2⟩
  have HFit := fun line : Int => perFine_drills hsm hper ac line
  have HFIT : Hid (∀ line : Int, (∀ d ∈ Sg.drillsOf ac pers[q] line, drlFits d) ∧ (Sg.drillsOf ac pers[q] line).length ≤ 72) := HFit
  clear HFit hper hA hP
  generalize pers[q] = es at *
  generalize tot[q] = tt at *
  rw [ht4] at hcI
  have HT4 : Hid (tt.length = 4) := ht4
  have HTF : Hid (∀ v ∈ tt, Sg.fits v = true) := htf
  clear ht4 htf hT hnT hqT hnP hq hnA
  go_enter Try.func96, Try.ntmps96
  go_wp2_with fail
  go_loopw [5, 6] (fun o i wr => ∃ k : Nat, k ≤ 4 ∧ i = .int .i64 (k : Int) ∧ OwnStrs wr (w.heap.size + 1) o (stmtTo ac es tt k) ∧ Below (w.heap.size + 1) (bkBox w (.slice aoA nA capA) (.slice aoP nP capP) vB (.slice (some ⟨bT, offT, none⟩) nT capT)) wr) (fun _ i _ => 4 - (intOf i).toNat)
  case atStart => exact ⟨0, by omega, rfl, World.ownsRow_nil _ _ _ _, bkBox_refl _ _ _ _ _⟩
  case round =>
    obtain ⟨k, hk, rfl, hown, hbel⟩ := hrel
    obtain ⟨x0, x1, x2, x3, hbw, hsz⟩ := bkBox_facts hbel
    by_cases hlt : k < 4
    · have i1 : (k : Int) < 4 := by omega
      have i3 : (0 : Int) ≤ (k : Int) := by omega
      obtain ⟨bI, offI, hao, hbI, hcT⟩ := hI.cell' (k := k) (by rw [HT4.out]; exact hlt)
      subst hao
      have hcI' := (hbw.cell (p := ⟨bT, offT + q, none⟩) hbT).trans hcI
      have hcT' := (hbw.cell (p := ⟨bI, offI + k, none⟩) hbI).trans hcT
      have hft : Sg.fits (tt.getD k 0) = true := HTF.out _ (by rw [List.getD_eq_getElem?_getD, List.getElem?_eq_getElem (by rw [HT4.out]; exact hlt)]; simp)
      have HS : Hid (stmtTo ac es tt (k + 1) = stmtTo ac es tt k ++ [Sg.lineB (k : Int) (tt.getD k 0) (Sg.drillsOf ac es (k : Int))]) := stmtTo_succ ac es tt k
      have HLL : Hid ((stmtTo ac es tt k).length ≤ 4) := by show _ ≤ _; unfold stmtTo; simp; exact hk
      obtain ⟨hds, hdl⟩ := HFIT.out (k : Int)
      have HDS : Hid (∀ d ∈ Sg.drillsOf ac es (k : Int), drlFits d) := hds
      generalize hdd : Sg.drillsOf ac es (k : Int) = dd at *
      have HDD : Hid (Sg.drillsOf ac es (k : Int) = dd) := hdd
      generalize tt.getD k 0 = tv at *
      generalize stmtTo ac es tt k = ss at *
      have hS := six_keep (W := wr) (w' := wr) (Nat.lt_of_lt_of_le hbT hbw.size) (Nat.lt_of_lt_of_le hbI hbw.size) hsz ⟨x0, x1, x2, x3, hcI', hcT'⟩ (Below.refl _ _)
      have hSd := six_keep (W := wr) (w' := wr.drew) (Nat.lt_of_lt_of_le hbT hbw.size) (Nat.lt_of_lt_of_le hbI hbw.size) hsz ⟨x0, x1, x2, x3, hcI', hcT'⟩ (Below.refl _ _).drew
      clear hdd hds
      go_wp2_with fail
      go_region_held3 (fun w' => w'.cell? ⟨w.heap.size, 0, none⟩ = some (.slice aoA nA capA) ∧ w'.cell? ⟨w.heap.size, 1, none⟩ = some (.slice aoP nP capP) ∧ w'.cell? ⟨w.heap.size, 2, none⟩ = some vB ∧ w'.cell? ⟨w.heap.size, 3, none⟩ = some (.slice (some ⟨bT, offT, none⟩) nT capT) ∧ w'.cell? ⟨bT, offT + q, none⟩ = some (.slice (some ⟨bI, offI, none⟩) 4 capI) ∧ w'.cell? ⟨bI, offI + k, none⟩ = some (.int .i64 tv) ∧ Below wr.heap.size wr w')
        (first | assumption)
        (first
          | (go_at_call 115; refine (HDR.out (k : Int) _ hbw.drew).mono ?_; rintro e w1 ⟨v, rfl, hod, hb1⟩; rw [HDD.out] at hod; have kb1 := ((Below.refl wr.heap.size wr).drew).trans hb1; have hh1 := six_keep (W := wr) (w' := w1) (Nat.lt_of_lt_of_le hbT hbw.size) (Nat.lt_of_lt_of_le hbI hbw.size) hsz ⟨x0, x1, x2, x3, hcI', hcT'⟩ kb1; obtain ⟨aoD, capD, hvD, hinD⟩ := hod.shape; rw [hvD]; clear hod)
          | (go_at_call 114; refine (leaf_any2 (k : Int) tv dd aoD dd.length capD _ rfl (by omega) HDS.out hinD (by omega) hft).mono ?_; rintro e w2 ⟨rfl, hb2⟩; have kb2 := kb1.trans (hb2.mono kb1.size); have hh2 := six_keep (W := wr) (w' := w2) (Nat.lt_of_lt_of_le hbT hbw.size) (Nat.lt_of_lt_of_le hbI hbw.size) hsz ⟨x0, x1, x2, x3, hcI', hcT'⟩ kb2))
      have hown2 := hown.below kb2
      unfold OwnStrs at hown2
      have hbel2 := hbel.trans (kb2.mono (by omega))
      have hz2s := kb2.size
      have hll := HLL.out
      generalize Sg.lineB (k : Int) tv dd = tx at *
      clear hh1 hh2 kb1 hb1 hb2 hown hbel hS hSd hinD hcI' hcT' hcT HLL hvD
      go_wp2_with (at_builtin; refine wpList_append_own _ rfl _ _ 24 rfl (w.heap.size + 1) 9 i0 (.string ByteArray.empty) 1 16 Try.underlying24 hi hz0 hz1 hz2 rfl (by decide) _ _ _ rfl (hown2.alloc _) ⟨w2.heap.size, 0, none⟩ 1 1 [.string tx] rfl rfl ?c1 ?c2 ?c3 ?c4 ?c5 ?_)
      case c1 =>
        intro j u hj
        match j, hj with
        | 0, hj => simp at hj; subst hj; simp [Addr.add]
      case c2 => intro u hu; simp at hu; subst hu; rfl
      case c3 => unfold maxLen; omega
      case c4 => omega
      case c5 => simp; omega
      intro v' w4 hown' hgrow _
      have hb' := below_push (by omega) hown2 hbel2 hgrow
      have HO : Hid (OwnStrs w4 (w.heap.size + 1) v' (stmtTo ac es tt (k + 1))) := by
        show OwnStrs _ _ _ _
        rw [HS.out]
        exact OwnStrs.push hown'
      clear hgrow hown2 hown' HS
      go_wp2_with fail
      go_roundw
      case rel => exact ⟨k + 1, by omega, by go_num, HO.out, hb'⟩
      case measure => simp [intOf]; omega
    · have hk4 : k = 4 := by omega
      subst hk4
      go_wp2_with fail
      go_ret
      exact ⟨_, rfl, by rw [HST.out]; exact ownsRow_base hown (by omega), hbw⟩
end Go.Proofs.Ytoadiibfmcjgaaa
