import Derived.Test.YtpkkhkkkgjhkeaaGreatEntersWalk
import Derived.Test.YtpkkhkkkgjhkeaaGreatSpec
/-
  THE WALK of signetref.Books.leaves.
-/
namespace Go.Proofs.YtpkkhkkkgjhkeaaGreat
open Go.RowKit
set_option maxRecDepth 100000
attribute [local go_sem ↓] Go.wp_at_zero Go.wp_at_succ

/-- A slice of slices of numbers. -/
def IntssIn (w : World) (ao : Option Addr) (ll : List (List Int)) : Prop := ll.length = 0 ∨ ∃ b off, ao = some ⟨b, off, none⟩ ∧ b < w.heap.size ∧ ∀ i (h : i < ll.length), ∃ ao' cap', w.cell? ⟨b, off + i, none⟩ = some (.slice ao' ll[i].length cap') ∧ IntsIn w ao' ll[i]
theorem IntssIn.below {w w' : World} {ao : Option Addr} {ll : List (List Int)} (h : IntssIn w ao ll) (hb : Below w.heap.size w w') : IntssIn w' ao ll := by
  rcases h with h0 | ⟨b, off, e, hbw, hat⟩
  · exact Or.inl h0
  · refine Or.inr ⟨b, off, e, Nat.lt_of_lt_of_le hbw hb.size, fun i hi => ?_⟩
    rw [hb.cell (p := ⟨b, off + i, none⟩) hbw]
    obtain ⟨ao', cap', h2, h3⟩ := hat i hi
    exact ⟨ao', cap', h2, h3.below hb⟩
theorem IntssIn.cell {w : World} {ao : Option Addr} {ll : List (List Int)} (h : IntssIn w ao ll) {k : Nat} (hk : k < ll.length) : ∃ b off, ao = some ⟨b, off, none⟩ ∧ b < w.heap.size ∧ ∃ ao' cap', w.cell? ⟨b, off + k, none⟩ = some (.slice ao' ll[k].length cap') ∧ IntsIn w ao' ll[k] := by
  rcases h with h0 | ⟨b, off, e, hbw, hat⟩
  · omega
  · exact ⟨b, off, e, hbw, hat k hk⟩
theorem IntsIn.cell' {w : World} {ao : Option Addr} {l : List Int} (h : IntsIn w ao l) {k : Nat} (hk : k < l.length) : ∃ b off, ao = some ⟨b, off, none⟩ ∧ b < w.heap.size ∧ w.cell? ⟨b, off + k, none⟩ = some (.int .i64 (l.getD k 0)) := by
  rcases h with h0 | ⟨b, off, e, hbw, hat⟩
  · omega
  · exact ⟨b, off, e, hbw, hat k hk⟩

/-- What the walks ask of a period of closed books. -/
def perFine (nA : Nat) (p : List Sg.Ent) : Prop := p.length ≤ 12 ∧ ∀ e ∈ p, e.memo.size ≤ 20 ∧ e.posts.length ≤ 6 ∧ ∀ t ∈ e.posts, 0 ≤ t.acct ∧ t.acct < (nA : Int) ∧ Sg.fits t.amt = true
namespace Sg
theorem drillsIn_fits (ac : List Acc) (line : Int) (i : Nat) (hi : i ≤ 255) : ∀ (ps : List Pst) (j : Nat), j + ps.length ≤ 255 → (∀ t ∈ ps, fits t.acct = true ∧ fits t.amt = true) → ∀ d ∈ drillsIn ac line i j ps, d.ent ≤ 255 ∧ d.place ≤ 255 ∧ fits d.acct = true ∧ fits d.amt = true
  | [], _, _, _ => by simp [drillsIn]
  | p :: ps, j, hj, h => by
    have ih := drillsIn_fits ac line i hi ps (j + 1) (by simp at hj; omega) (fun t ht => h t (by simp [ht]))
    have hp := h p (by simp)
    intro d hd
    simp only [drillsIn] at hd
    split at hd
    · rcases List.mem_cons.1 hd with rfl | hd
      · exact ⟨hi, by simp at hj; show j ≤ 255; omega, hp.1, hp.2⟩
      · exact ih d hd
    · exact ih d hd
theorem drillsFrom_fits (ac : List Acc) (line : Int) : ∀ (es : List Ent) (i : Nat), i + es.length ≤ 255 → (∀ e ∈ es, e.posts.length ≤ 6 ∧ ∀ t ∈ e.posts, fits t.acct = true ∧ fits t.amt = true) → ∀ d ∈ drillsFrom ac line i es, d.ent ≤ 255 ∧ d.place ≤ 255 ∧ fits d.acct = true ∧ fits d.amt = true
  | [], _, _, _ => by simp [drillsFrom]
  | e :: es, i, hi, h => by
    intro d hd
    simp only [drillsFrom, List.mem_append] at hd
    have he := h e (by simp)
    rcases hd with hd | hd
    · exact drillsIn_fits ac line i (by simp at hi; omega) e.posts 0 (by omega) he.2 d hd
    · exact drillsFrom_fits ac line es (i + 1) (by simp at hi; omega) (fun x hx => h x (by simp [hx])) d hd
end Sg
theorem perFine_drills {nA : Nat} {p : List Sg.Ent} (hA : nA ≤ 8) (h : perFine nA p) (ac : List Sg.Acc) (line : Int) : (∀ d ∈ Sg.drillsOf ac p line, drlFits d) ∧ (Sg.drillsOf ac p line).length ≤ 72 := by
  refine ⟨fun d hd => ?_, ?_⟩
  · refine Sg.drillsFrom_fits ac line p 0 (by have := h.1; omega) (fun e he => ⟨(h.2 e he).2.1, fun t ht => ⟨?_, ((h.2 e he).2.2 t ht).2.2⟩⟩) d hd
    have := (h.2 e he).2.2 t ht
    exact decide_eq_true (by omega)
  · have := Sg.drillsFrom_len ac line p 0 (fun e he => (h.2 e he).2.1)
    have := h.1
    unfold Sg.drillsOf
    omega

/-- The leaves of a statement so far. -/
def stmtTo (ac : List Sg.Acc) (p : List Sg.Ent) (t : List Int) (k : Nat) : List ByteArray := (List.range k).map fun (i : Nat) => Sg.lineB (i : Int) (t.getD i 0) (Sg.drillsOf ac p (i : Int))
theorem stmtTo_succ (ac : List Sg.Acc) (p : List Sg.Ent) (t : List Int) (k : Nat) : stmtTo ac p t (k + 1) = stmtTo ac p t k ++ [Sg.lineB (k : Int) (t.getD k 0) (Sg.drillsOf ac p (k : Int))] := by
  unfold stmtTo; rw [List.range_succ, List.map_append]; rfl

theorem six_keep {W w' : World} {n bT oT bI oI : Nat} {a b c d x y : Value} (hbT : bT < W.heap.size) (hbI : bI < W.heap.size) (hn : n < W.heap.size)
    (h : W.cell? ⟨n, 0, none⟩ = some a ∧ W.cell? ⟨n, 1, none⟩ = some b ∧ W.cell? ⟨n, 2, none⟩ = some c ∧ W.cell? ⟨n, 3, none⟩ = some d ∧ W.cell? ⟨bT, oT, none⟩ = some x ∧ W.cell? ⟨bI, oI, none⟩ = some y) (hb : Below W.heap.size W w') :
    w'.cell? ⟨n, 0, none⟩ = some a ∧ w'.cell? ⟨n, 1, none⟩ = some b ∧ w'.cell? ⟨n, 2, none⟩ = some c ∧ w'.cell? ⟨n, 3, none⟩ = some d ∧ w'.cell? ⟨bT, oT, none⟩ = some x ∧ w'.cell? ⟨bI, oI, none⟩ = some y ∧ Below W.heap.size W w' :=
  ⟨(hb.cell (p := ⟨n, 0, none⟩) hn).trans h.1, (hb.cell (p := ⟨n, 1, none⟩) hn).trans h.2.1, (hb.cell (p := ⟨n, 2, none⟩) hn).trans h.2.2.1, (hb.cell (p := ⟨n, 3, none⟩) hn).trans h.2.2.2.1, (hb.cell (p := ⟨bT, oT, none⟩) hbT).trans h.2.2.2.2.1, (hb.cell (p := ⟨bI, oI, none⟩) hbI).trans h.2.2.2.2.2, hb⟩

set_option maxHeartbeats 6400000 in
/-- Books.leaves. -/
theorem leaves_any (ac : List Sg.Acc) (pers : List (List Sg.Ent)) (tot : List (List Int)) (q : Nat) (aoA aoP aoT : Option Addr) (nA capA nP capP nT capT : Nat) (vB : Value) (w : World) (hA : AccsIn w aoA ac) (hnA : ac.length = nA) (hP : PersIn w aoP pers) (hnP : pers.length = nP) (hq : q < pers.length)
    (hT : IntssIn w aoT tot) (hnT : tot.length = nT) (hqT : q < tot.length) (ht4 : tot[q].length = 4) (htf : ∀ v ∈ tot[q], Sg.fits v = true) (hsm : nA ≤ 8) (hnP6 : nP ≤ 6) (hper : perFine nA pers[q]) :
    Calls Tryz.prog 33 #[.agg #[.slice aoA nA capA, .slice aoP nP capP, vB, .slice aoT nT capT], .int .i64 (q : Int)] w fun e w' => ∃ v, e = .returned v ∧ OwnStrs w' w.heap.size v (Sg.stmt ac pers[q] tot[q]) ∧ Below w.heap.size w w' := by
  obtain ⟨i0, hi, hz0, hz1, hz2⟩ := info_parts Tryz.infoStr
  obtain ⟨bT, offT, rfl, hbT, aoI, capI, hcI, hI⟩ := hT.cell (k := q) hqT
  have hq1 : (q : Int) < (nT : Int) := by omega
  have hq0 : (0 : Int) ≤ (q : Int) := by omega
  have HST : Hid (Sg.stmt ac pers[q] tot[q] = stmtTo ac pers[q] tot[q] 4) := rfl
  have HDR : Hid (∀ line : Int, ∀ (W : World), Below w.heap.size w W → Calls Tryz.prog 30 #[.agg #[.slice aoA nA capA, .slice aoP nP capP, vB, .slice (some ⟨bT, offT, none⟩) nT capT], .int .i64 (q : Int), .int .i64 line] W fun e w' => ∃ v, e = .returned v ∧ OwnDrls w' W.heap.size v (Sg.drillsOf ac pers[q] line) ∧ Below W.heap.size W w') :=
    fun line W hW => bDrills_any ac pers q line aoA aoP nA capA nP capP vB _ W (hA.below hW) hnA (hP.below hW) hnP hq hsm hnP6 ⟨hper.1, fun e he => (hper.2 e he).2⟩
  have HFit := fun line : Int => perFine_drills hsm hper ac line
  have HFIT : Hid (∀ line : Int, (∀ d ∈ Sg.drillsOf ac pers[q] line, drlFits d) ∧ (Sg.drillsOf ac pers[q] line).length ≤ 72) := HFit
  clear HFit hper hA hP
  generalize pers[q] = es at *
  generalize tot[q] = tt at *
  rw [ht4] at hcI
  have HT4 : Hid (tt.length = 4) := ht4
  have HTF : Hid (∀ v ∈ tt, Sg.fits v = true) := htf
  clear ht4 htf hT hnT hqT hnP hq hnA
  go_enter Tryz.func33, Tryz.ntmps33
  go_wp2_with fail
  go_loopw [5, 6] (fun o i wr => ∃ k : Nat, k ≤ 4 ∧ i = .int .i64 (k : Int) ∧ OwnStrs wr (w.heap.size + 1) o (stmtTo ac es tt k) ∧ Below (w.heap.size + 1) (bkBox w (.slice aoA nA capA) (.slice aoP nP capP) vB (.slice (some ⟨bT, offT, none⟩) nT capT)) wr) (fun _ i _ => 4 - (intOf i).toNat)
  case atStart => exact ⟨0, by omega, rfl, World.ownsRow_nil _ _ _ _, bkBox_refl _ _ _ _ _⟩
  case round =>
    obtain ⟨k, hk, rfl, hown, hbel⟩ := hrel
    obtain ⟨x0, x1, x2, x3, hbw, hsz⟩ := bkBox_facts hbel
    by_cases hlt : k < 4
    · have i1 : (k : Int) < 4 := by omega
      have i3 : (0 : Int) ≤ (k : Int) := by omega
      obtain ⟨bI, offI, hao, hbI, hcT⟩ := hI.cell' (k := k) (by rw [HT4.out]; exact hlt)
      subst hao
      have hcI' := (hbw.cell (p := ⟨bT, offT + q, none⟩) hbT).trans hcI
      have hcT' := (hbw.cell (p := ⟨bI, offI + k, none⟩) hbI).trans hcT
      have hft : Sg.fits (tt.getD k 0) = true := HTF.out _ (by rw [List.getD_eq_getElem?_getD, List.getElem?_eq_getElem (by rw [HT4.out]; exact hlt)]; simp)
      have HS : Hid (stmtTo ac es tt (k + 1) = stmtTo ac es tt k ++ [Sg.lineB (k : Int) (tt.getD k 0) (Sg.drillsOf ac es (k : Int))]) := stmtTo_succ ac es tt k
      have HLL : Hid ((stmtTo ac es tt k).length ≤ 4) := by show _ ≤ _; unfold stmtTo; simp; exact hk
      obtain ⟨hds, hdl⟩ := HFIT.out (k : Int)
      have HDS : Hid (∀ d ∈ Sg.drillsOf ac es (k : Int), drlFits d) := hds
      generalize hdd : Sg.drillsOf ac es (k : Int) = dd at *
      have HDD : Hid (Sg.drillsOf ac es (k : Int) = dd) := hdd
      generalize tt.getD k 0 = tv at *
      generalize stmtTo ac es tt k = ss at *
      have hS := six_keep (W := wr) (w' := wr) (Nat.lt_of_lt_of_le hbT hbw.size) (Nat.lt_of_lt_of_le hbI hbw.size) hsz ⟨x0, x1, x2, x3, hcI', hcT'⟩ (Below.refl _ _)
      have hSd := six_keep (W := wr) (w' := wr.drew) (Nat.lt_of_lt_of_le hbT hbw.size) (Nat.lt_of_lt_of_le hbI hbw.size) hsz ⟨x0, x1, x2, x3, hcI', hcT'⟩ (Below.refl _ _).drew
      clear hdd hds
      go_wp2_with fail
      go_region_held3 (fun w' => w'.cell? ⟨w.heap.size, 0, none⟩ = some (.slice aoA nA capA) ∧ w'.cell? ⟨w.heap.size, 1, none⟩ = some (.slice aoP nP capP) ∧ w'.cell? ⟨w.heap.size, 2, none⟩ = some vB ∧ w'.cell? ⟨w.heap.size, 3, none⟩ = some (.slice (some ⟨bT, offT, none⟩) nT capT) ∧ w'.cell? ⟨bT, offT + q, none⟩ = some (.slice (some ⟨bI, offI, none⟩) 4 capI) ∧ w'.cell? ⟨bI, offI + k, none⟩ = some (.int .i64 tv) ∧ Below wr.heap.size wr w')
        (first | assumption)
        (first
          | (go_at_call 30; refine (HDR.out (k : Int) _ hbw.drew).mono ?_; rintro e w1 ⟨v, rfl, hod, hb1⟩; rw [HDD.out] at hod; have kb1 := ((Below.refl wr.heap.size wr).drew).trans hb1; have hh1 := six_keep (W := wr) (w' := w1) (Nat.lt_of_lt_of_le hbT hbw.size) (Nat.lt_of_lt_of_le hbI hbw.size) hsz ⟨x0, x1, x2, x3, hcI', hcT'⟩ kb1; obtain ⟨aoD, capD, hvD, hinD⟩ := hod.shape; rw [hvD]; clear hod)
          | (go_at_call 64; refine (leaf_any2 (k : Int) tv dd aoD dd.length capD _ rfl (by omega) HDS.out hinD (by omega) hft).mono ?_; rintro e w2 ⟨rfl, hb2⟩; have kb2 := kb1.trans (hb2.mono kb1.size); have hh2 := six_keep (W := wr) (w' := w2) (Nat.lt_of_lt_of_le hbT hbw.size) (Nat.lt_of_lt_of_le hbI hbw.size) hsz ⟨x0, x1, x2, x3, hcI', hcT'⟩ kb2))
      have hown2 := hown.below kb2
      unfold OwnStrs at hown2
      have hbel2 := hbel.trans (kb2.mono (by omega))
      have hz2s := kb2.size
      have hll := HLL.out
      generalize Sg.lineB (k : Int) tv dd = tx at *
      clear hh1 hh2 kb1 hb1 hb2 hown hbel hS hSd hinD hcI' hcT' hcT HLL hvD
      go_wp2_with (at_builtin; refine wpList_append_own _ rfl _ _ 79 rfl (w.heap.size + 1) 9 i0 (.string ByteArray.empty) 1 16 Tryz.underlying79 hi hz0 hz1 hz2 rfl (by decide) _ _ _ rfl (hown2.alloc _) ⟨w2.heap.size, 0, none⟩ 1 1 [.string tx] rfl rfl ?c1 ?c2 ?c3 ?c4 ?c5 ?_)
      case c1 =>
        intro j u hj
        match j, hj with
        | 0, hj => simp at hj; subst hj; simp [Addr.add]
      case c2 => intro u hu; simp at hu; subst hu; rfl
      case c3 => unfold maxLen; omega
      case c4 => omega
      case c5 => simp; omega
      intro v' w4 hown' hgrow _
      have hb' := below_push (by omega) hown2 hbel2 hgrow
      have HO : Hid (OwnStrs w4 (w.heap.size + 1) v' (stmtTo ac es tt (k + 1))) := by
        show OwnStrs _ _ _ _
        rw [HS.out]
        exact OwnStrs.push hown'
      clear hgrow hown2 hown' HS
      go_wp2_with fail
      go_roundw
      case rel => exact ⟨k + 1, by omega, by go_num, HO.out, hb'⟩
      case measure => simp [intOf]; omega
    · have hk4 : k = 4 := by omega
      subst hk4
      go_wp2_with fail
      go_ret
      exact ⟨_, rfl, by rw [HST.out]; exact ownsRow_base hown (by omega), hbw⟩
end Go.Proofs.YtpkkhkkkgjhkeaaGreat

/-
  THE WALK of signetref.Books.Package.
-/
namespace Go.Proofs.YtpkkhkkkgjhkeaaGreat
open Go.RowKit
set_option maxRecDepth 100000
attribute [local go_sem ↓] Go.wp_at_zero Go.wp_at_succ

/-- Closed books, as they lie in memory. -/
structure BksAt (w : World) (aoA aoP aoB aoT : Option Addr) (nA nP : Nat) (h : Sg.Hist) (bal tot : List (List Int)) : Prop where
  accs : AccsIn w aoA h.accs
  pers : PersIn w aoP h.pers
  bals : IntssIn w aoB bal
  tots : IntssIn w aoT tot
  lenA : h.accs.length = nA
  lenP : h.pers.length = nP
  lenB : bal.length = nP
  lenT : tot.length = nP
  few : nA ≤ 8 ∧ nP ≤ 6
  accFine : ∀ a ∈ h.accs, a.name.size ≤ 12 ∧ 0 ≤ a.line ∧ a.line ≤ 3
  allFine : ∀ p ∈ h.pers, perFine nA p
  balFine : ∀ l ∈ bal, l.length = nA ∧ ∀ v ∈ l, Sg.fits v = true
  totFine : ∀ l ∈ tot, l.length = 4 ∧ ∀ v ∈ l, Sg.fits v = true
theorem BksAt.below {w w' : World} {aoA aoP aoB aoT : Option Addr} {nA nP : Nat} {h : Sg.Hist} {bal tot : List (List Int)} (b : BksAt w aoA aoP aoB aoT nA nP h bal tot) (hb : Below w.heap.size w w') : BksAt w' aoA aoP aoB aoT nA nP h bal tot :=
  ⟨b.accs.below hb, b.pers.below hb, b.bals.below hb, b.tots.below hb, b.lenA, b.lenP, b.lenB, b.lenT, b.few, b.accFine, b.allFine, b.balFine, b.totFine⟩

namespace Sg
theorem persText_append : ∀ (o : ByteArray) (ps : List (List Ent)) (bs ts : List (List Int)) (p : List Ent) (b t : List Int), ps.length = bs.length → ps.length = ts.length →
    persText o (ps ++ [p]) (bs ++ [b]) (ts ++ [t]) = perText (persText o ps bs ts) p b t
  | o, [], [], [], p, b, t, _, _ => rfl
  | o, q :: ps, c :: bs, u :: ts, p, b, t, h1, h2 => by
    simp only [List.cons_append, persText]
    exact persText_append _ ps bs ts p b t (by simpa using h1) (by simpa using h2)
/-- A package's text so far. -/
def pkTo (h : Hist) (bal tot : List (List Int)) (k : Nat) : ByteArray := persText (signT ++ chartB h.accs ++ beB h.pers.length 1) (h.pers.take k) (bal.take k) (tot.take k)
theorem pkTo_succ (h : Hist) (bal tot : List (List Int)) (k : Nat) (h1 : k < h.pers.length) (h2 : k < bal.length) (h3 : k < tot.length) : pkTo h bal tot (k + 1) = perText (pkTo h bal tot k) h.pers[k] bal[k] tot[k] := by
  unfold pkTo
  rw [List.take_succ_eq_append_getElem h1, List.take_succ_eq_append_getElem h2, List.take_succ_eq_append_getElem h3, persText_append _ _ _ _ _ _ _ (by simp; omega) (by simp; omega)]
/-- A period's entries so far. -/
def peTo (o : ByteArray) (p : List Ent) (j : Nat) : ByteArray := (p.take j).foldl (fun o e => o ++ entB e) (o ++ beB p.length 1)
theorem peTo_succ (o : ByteArray) (p : List Ent) (j : Nat) (h : j < p.length) : peTo o p (j + 1) = peTo o p j ++ entB p[j] := by
  unfold peTo; rw [List.take_succ_eq_append_getElem h, List.foldl_append]; rfl
theorem peTo_size (o : ByteArray) (p : List Ent) (hp : ∀ e ∈ p, e.memo.size ≤ 20 ∧ e.posts.length ≤ 6) : ∀ j, j ≤ p.length → (peTo o p j).size ≤ o.size + 1 + 76 * j
  | 0, _ => by unfold peTo; simp only [List.take_zero, List.foldl_nil]; rw [ByteArray.size_append, beB_size]; omega
  | j + 1, h => by
    rw [peTo_succ o p j (by omega), ByteArray.size_append, entB_size]
    have := peTo_size o p hp j (by omega)
    have := hp p[j] (List.getElem_mem _)
    omega
theorem perText_peTo (o : ByteArray) (p : List Ent) (b t : List Int) : perText o p b t = peTo o p p.length ++ amountsB b ++ amountsB t := by
  unfold perText peTo; rw [List.take_length]
theorem perText_size (o : ByteArray) (p : List Ent) (b t : List Int) (hp : ∀ e ∈ p, e.memo.size ≤ 20 ∧ e.posts.length ≤ 6) (h12 : p.length ≤ 12) (hb : b.length ≤ 8) (ht : t.length ≤ 4) : (perText o p b t).size ≤ o.size + 1100 := by
  rw [perText_peTo, ByteArray.size_append, ByteArray.size_append, amountsB_size, amountsB_size]
  have := peTo_size o p hp p.length (Nat.le_refl _)
  omega
end Sg

theorem pkTo_size {w : World} {aoA aoP aoB aoT : Option Addr} {nA nP : Nat} {h : Sg.Hist} {bal tot : List (List Int)} (b : BksAt w aoA aoP aoB aoT nA nP h bal tot) : ∀ k, k ≤ nP → (Sg.pkTo h bal tot k).size ≤ 200 + 1100 * k
  | 0, _ => by
    unfold Sg.pkTo
    simp only [List.take_zero, Sg.persText]
    rw [ByteArray.size_append, ByteArray.size_append, Sg.beB_size]
    have h1 := Sg.chartB_size h.accs (fun a ha => (b.accFine a ha).1)
    have h2 := b.lenA
    have h3 := b.few.1
    have h4 : Sg.signT.size = 4 := rfl
    omega
  | k + 1, hk => by
    have h1 := b.lenP
    have h2 := b.lenB
    have h3 := b.lenT
    rw [Sg.pkTo_succ h bal tot k (by omega) (by omega) (by omega)]
    have ih := pkTo_size b k (by omega)
    have hf := b.allFine _ (List.getElem_mem (l := h.pers) (n := k) (by omega))
    have hb := (b.balFine _ (List.getElem_mem (l := bal) (n := k) (by omega))).1
    have ht := (b.totFine _ (List.getElem_mem (l := tot) (n := k) (by omega))).1
    have := Sg.perText_size (Sg.pkTo h bal tot k) h.pers[k] bal[k] tot[k] (fun e he => ⟨(hf.2 e he).1, (hf.2 e he).2.1⟩) hf.1 (by rw [hb]; exact b.few.1) (by omega)
    omega
end Go.Proofs.YtpkkhkkkgjhkeaaGreat

/-
  THE WALK of signetref.Books.Package.
-/
namespace Go.Proofs.YtpkkhkkkgjhkeaaGreat
open Go.RowKit
set_option maxRecDepth 100000
attribute [local go_sem ↓] Go.wp_at_zero Go.wp_at_succ

theorem bk_keep {w w' : World} {a b c d : Value} (h : Below (w.heap.size + 1) (bkBox w a b c d) w') :
    w'.cell? ⟨w.heap.size, 0, none⟩ = some a ∧ w'.cell? ⟨w.heap.size, 1, none⟩ = some b ∧ w'.cell? ⟨w.heap.size, 2, none⟩ = some c ∧ w'.cell? ⟨w.heap.size, 3, none⟩ = some d ∧ Below (w.heap.size + 1) (bkBox w a b c d) w' := by
  obtain ⟨h0, h1, h2, h3, _, _⟩ := bkBox_facts h
  exact ⟨h0, h1, h2, h3, h⟩
theorem bk_call {w W w' : World} {a b c d : Value} (h : Below (w.heap.size + 1) (bkBox w a b c d) W) (hb : Below W.heap.size W w') : Below (w.heap.size + 1) (bkBox w a b c d) w' :=
  h.trans (hb.mono (by have := h.size; rw [bkBox_size] at this; omega))

set_option maxHeartbeats 6400000 in
/-- Books.Package. -/
theorem package_any (h : Sg.Hist) (bal tot : List (List Int)) (aoA aoP aoB aoT : Option Addr) (nA nP capA capP capB capT : Nat) (w : World) (hB : BksAt w aoA aoP aoB aoT nA nP h bal tot) :
    Calls Tryz.prog 22 #[.agg #[.slice aoA nA capA, .slice aoP nP capP, .slice aoB nP capB, .slice aoT nP capT]] w fun e w' => e = .returned (.string (Sg.pkTo h bal tot nP)) ∧ Below w.heap.size w w' := by
  have HB : Hid (BksAt w aoA aoP aoB aoT nA nP h bal tot) := hB
  obtain ⟨f8, f6⟩ := hB.few
  clear hB
  go_enter Tryz.func22, Tryz.ntmps22
  go_wp2_with fail
  go_region_held3 (fun w' => w'.cell? ⟨w.heap.size, 0, none⟩ = some (.slice aoA nA capA) ∧ w'.cell? ⟨w.heap.size, 1, none⟩ = some (.slice aoP nP capP) ∧ w'.cell? ⟨w.heap.size, 2, none⟩ = some (.slice aoB nP capB) ∧ w'.cell? ⟨w.heap.size, 3, none⟩ = some (.slice aoT nP capT) ∧ Below (w.heap.size + 1) (bkBox w (.slice aoA nA capA) (.slice aoP nP capP) (.slice aoB nP capB) (.slice aoT nP capT)) w')
    (first | assumption | exact bk_keep (Below.refl _ _) | exact bk_keep (Below.refl _ _).drew)
    (first
      | (go_at_call 45; refine (chart_any h.accs aoA aoP nA capA nP capP _ HB.out.lenA f8 HB.out.accFine (HB.out.accs.below ((bkBox_facts (Below.refl (w.heap.size + 1) (bkBox w (.slice aoA nA capA) (.slice aoP nP capP) (.slice aoB nP capB) (.slice aoT nP capT)))).2.2.2.2.1.drew))).mono ?_; rintro e w1 ⟨rfl, hb1⟩; have kb1 := bk_call ((Below.refl (w.heap.size + 1) (bkBox w (.slice aoA nA capA) (.slice aoP nP capP) (.slice aoB nP capB) (.slice aoT nP capT))).drew) hb1; have hh1 := bk_keep kb1; have hcz := Sg.chartB_size h.accs (fun a ha => (HB.out.accFine a ha).1); have hlA := HB.out.lenA; obtain ⟨ct, hct⟩ : ∃ ct, ct = Sg.chartB h.accs := ⟨_, rfl⟩; rw [← hct] at hcz; rw [← hct]; have HCT : Hid (ct = Sg.chartB h.accs) := hct; clear hct; have q1 := cat { data := #[83, 73, 71, 78] } ct (by show 4 + ct.size ≤ _; omega))
      | (go_at_call 29; refine (bytes_txt (nP : Int) 1 _ (by omega) (by decide) (by decide)).mono ?_; rintro e w2 ⟨y2, rfl, hy2, hys2, hb2⟩; have q2 := cat ({ data := #[83, 73, 71, 78] } ++ ct) y2 (by rw [cat_size]; show 4 + ct.size + _ ≤ _; omega); have kb2 := bk_call kb1 hb2; have hh2 := bk_keep kb2))
  have H0 : Hid ({ data := #[83, 73, 71, 78] } ++ ct ++ y2 = Sg.pkTo h bal tot 0) := by
    show _ = _
    rw [HCT.out, hy2.out]
    unfold Sg.pkTo
    rw [HB.out.lenP]
    rfl
  generalize ({ data := #[83, 73, 71, 78] } ++ ct ++ y2 : ByteArray) = o0 at *
  clear hh1 hh2 kb1 hb1 hb2 q1 q2 hy2 hys2 HCT hcz hlA
  go_wp2_with fail
  go_loopw [3, 4] (fun o i wr => ∃ k : Nat, k ≤ nP ∧ i = .int .i64 (k : Int) ∧ (∃ oo, o = .string oo ∧ Hid (oo = Sg.pkTo h bal tot k)) ∧ Below (w.heap.size + 1) (bkBox w (.slice aoA nA capA) (.slice aoP nP capP) (.slice aoB nP capB) (.slice aoT nP capT)) wr) (fun _ i _ => nP - (intOf i).toNat)
  case atStart => exact ⟨0, by omega, rfl, ⟨_, rfl, H0⟩, kb2⟩
  case round =>
    obtain ⟨k, hk, rfl, ⟨oo, rfl, hoo⟩, hbel⟩ := hrel
    obtain ⟨x0, x1, x2, x3, hbw, hsz⟩ := bkBox_facts hbel
    by_cases hlt : k < nP
    · have l1 : k < h.pers.length := by rw [HB.out.lenP]; exact hlt
      have l2 : k < bal.length := by rw [HB.out.lenB]; exact hlt
      have l3 : k < tot.length := by rw [HB.out.lenT]; exact hlt
      have HS : Hid (Sg.pkTo h bal tot (k + 1) = Sg.peTo oo h.pers[k] h.pers[k].length ++ Sg.amountsB bal[k] ++ Sg.amountsB tot[k]) := by
        show _ = _
        rw [Sg.pkTo_succ h bal tot k l1 l2 l3, Sg.perText_peTo, ← hoo.out]
      have hoz : oo.size ≤ 7000 := by
        rw [hoo.out]
        have := pkTo_size HB.out k (by omega)
        omega
      have hfine := HB.out.allFine _ (List.getElem_mem l1)
      obtain ⟨hbl, hbf⟩ := HB.out.balFine _ (List.getElem_mem l2)
      obtain ⟨htl, htf⟩ := HB.out.totFine _ (List.getElem_mem l3)
      obtain ⟨bP, offP, eP, hbP, aoE, capE, hcE, hE⟩ := (HB.out.pers).cell (k := k) l1
      subst eP
      obtain ⟨bB, offB, eB, hbB, aoI, capI, hcI, hI⟩ := (HB.out.bals).cell (k := k) l2
      subst eB
      obtain ⟨bT, offT, eT, hbT, aoJ, capJ, hcJ, hJ⟩ := (HB.out.tots).cell (k := k) l3
      subst eT
      rw [hbl] at hcI
      rw [htl] at hcJ
      generalize h.pers[k] = es at *
      generalize bal[k] = bl at *
      generalize tot[k] = tl at *
      obtain ⟨ne, hne⟩ : ∃ ne, es.length = ne := ⟨_, rfl⟩
      rw [hne] at hcE HS
      have HNE : Hid (es.length = ne) := hne
      have hes : ne ≤ 12 := by have := hfine.1; omega
      have HFI : Hid (perFine nA es) := hfine
      have HBL : Hid (bl.length = nA ∧ ∀ v ∈ bl, Sg.fits v = true) := ⟨hbl, hbf⟩
      have HTL : Hid (tl.length = 4 ∧ ∀ v ∈ tl, Sg.fits v = true) := ⟨htl, htf⟩
      have hcE' := (hbw.cell (p := ⟨bP, offP + k, none⟩) hbP).trans hcE
      have i1 : (0 : Int) ≤ (k : Int) := by omega
      have i2 : (k : Int) < (nP : Int) := by omega
      clear hfine hbl hbf htl htf hne l1 l2 l3
      go_wp2_with fail
      refine (bytes_txt (ne : Int) 1 _ (by omega) (by decide) (by decide)).mono ?_
      rintro e w3 ⟨y3, rfl, hy3, hys3, hb3⟩
      have kb3 := bk_call hbel hb3
      have HP0 : Hid (oo ++ y3 = Sg.peTo oo es 0) := by show _ = _; rw [hy3.out]; unfold Sg.peTo; rw [HNE.out]; rfl
      clear hb3 hy3 hbel
      go_wp2_with fail
      generalize oo ++ y3 = o3 at *
      go_loopw [3, 6] (fun o j wr => ∃ r : Nat, r ≤ ne ∧ j = .int .i64 (r : Int) ∧ (∃ op, o = .string op ∧ Hid (op = Sg.peTo oo es r)) ∧ Below (w.heap.size + 1) (bkBox w (.slice aoA nA capA) (.slice (some ⟨bP, offP, none⟩) nP capP) (.slice (some ⟨bB, offB, none⟩) nP capB) (.slice (some ⟨bT, offT, none⟩) nP capT)) wr) (fun _ j _ => ne - (intOf j).toNat)
      case atStart => exact ⟨0, by omega, rfl, ⟨_, rfl, HP0⟩, kb3⟩
      case round =>
        obtain ⟨r, hr, rfl, ⟨op, rfl, hop⟩, hbel2⟩ := hrel
        obtain ⟨z0, z1, z2, z3, hbw2, hsz2⟩ := bkBox_facts hbel2
        have hpz : op.size ≤ 8000 := by
          rw [hop.out]
          have := Sg.peTo_size oo es (fun e he => ⟨(HFI.out.2 e he).1, (HFI.out.2 e he).2.1⟩) r (by rw [HNE.out]; exact hr)
          omega
        by_cases hlr : r < ne
        · have hra : r < es.length := by rw [HNE.out]; exact hlr
          obtain ⟨bE, offE, eE, hbE, hm, aoQ, capQ, hcQ, hPs⟩ := (hE.below hbw2).cell (k := r) hra
          subst eE
          have HSu : Hid (Sg.peTo oo es (r + 1) = op ++ Sg.entB es[r]) := by show _ = _; rw [Sg.peTo_succ oo es r hra, ← hop.out]
          obtain ⟨g1, g2, g3⟩ := HFI.out.2 es[r] (List.getElem_mem _)
          have HPo : Hid (∀ p ∈ es[r].posts, Sg.fits p.acct = true ∧ Sg.fits p.amt = true) := fun p hp => ⟨decide_eq_true (by have := g3 p hp; omega), (g3 p hp).2.2⟩
          obtain ⟨mm, pp, hmp⟩ : ∃ mm pp, es[r] = ⟨mm, pp⟩ := ⟨_, _, rfl⟩
          rw [hmp] at hm hcQ hPs g1 g2 HPo HSu
          simp only at hm hcQ hPs g1 g2 HPo
          have hez : (Sg.entB ⟨mm, pp⟩).size ≤ 100 := by
            rw [Sg.entB_size]
            show 2 + mm.size + 9 * pp.length ≤ 100
            omega
          obtain ⟨np, hnp⟩ : ∃ np, pp.length = np := ⟨_, rfl⟩
          rw [hnp] at hcQ g2
          have HNP : Hid (pp.length = np) := hnp
          have i3 : (0 : Int) ≤ (r : Int) := by omega
          have i4 : (r : Int) < (ne : Int) := by omega
          clear hmp hnp g3 hop
          go_wp2_with fail
          refine (entry_any mm pp aoQ np capQ _ HNP.out g2 g1 HPo.out hPs).mono ?_
          rintro e w5 ⟨rfl, hb5⟩
          have kb5 := bk_call hbel2 hb5
          generalize Sg.entB ⟨mm, pp⟩ = et at *
          clear hb5 hbel2 hPs
          go_wp2_with fail
          go_roundw
          case rel => exact ⟨r + 1, by omega, by go_num, ⟨_, rfl, HSu.out.symm⟩, kb5⟩
          case measure => simp [intOf]; omega
        · have hrn : r = ne := by omega
          have HOP : Hid (op = Sg.peTo oo es ne) := by show _ = _; rw [hop.out, hrn]
          have hcI2 := (hbw2.cell (p := ⟨bB, offB + k, none⟩) hbB).trans hcI
          have hcJ2 := (hbw2.cell (p := ⟨bT, offT + k, none⟩) hbT).trans hcJ
          have hI2 := hI.below hbw2
          have hJ2 := hJ.below hbw2
          have hw2s := hbw2.size
          clear hop hrn hE
          obtain ⟨wz, ewz⟩ : ∃ z : World, z = wr := ⟨_, rfl⟩
          subst ewz
          have hS := six_keep (W := wz) (w' := wz) (Nat.lt_of_lt_of_le hbB hw2s) (Nat.lt_of_lt_of_le hbT hw2s) hsz2 ⟨z0, z1, z2, z3, hcI2, hcJ2⟩ (Below.refl _ _)
          have hSd := six_keep (W := wz) (w' := wz.drew) (Nat.lt_of_lt_of_le hbB hw2s) (Nat.lt_of_lt_of_le hbT hw2s) hsz2 ⟨z0, z1, z2, z3, hcI2, hcJ2⟩ (Below.refl _ _).drew
          go_wp2_with fail
          go_region_held3 (fun w' => w'.cell? ⟨w.heap.size, 0, none⟩ = some (.slice aoA nA capA) ∧ w'.cell? ⟨w.heap.size, 1, none⟩ = some (.slice (some ⟨bP, offP, none⟩) nP capP) ∧ w'.cell? ⟨w.heap.size, 2, none⟩ = some (.slice (some ⟨bB, offB, none⟩) nP capB) ∧ w'.cell? ⟨w.heap.size, 3, none⟩ = some (.slice (some ⟨bT, offT, none⟩) nP capT) ∧ w'.cell? ⟨bB, offB + k, none⟩ = some (.slice aoI nA capI) ∧ w'.cell? ⟨bT, offT + k, none⟩ = some (.slice aoJ 4 capJ) ∧ Below wz.heap.size wz w')
            (first | assumption)
            (first
              | (go_at_call_of 47 (Value.slice aoI nA capI); refine (amounts_any bl aoI nA capI _ HBL.out.1 (by omega) (hI2.below (Below.refl wz.heap.size wz).drew) HBL.out.2).mono ?_; rintro e w6 ⟨rfl, hb6⟩; have kb6 := ((Below.refl wz.heap.size wz).drew).trans hb6; have hh6 := six_keep (W := wz) (w' := w6) (Nat.lt_of_lt_of_le hbB hw2s) (Nat.lt_of_lt_of_le hbT hw2s) hsz2 ⟨z0, z1, z2, z3, hcI2, hcJ2⟩ kb6; have haz := Sg.amountsB_size bl; have hbl8 := HBL.out.1; obtain ⟨ya, hya⟩ : ∃ ya, ya = Sg.amountsB bl := ⟨_, rfl⟩; rw [← hya] at haz; rw [← hya]; have HYA : Hid (ya = Sg.amountsB bl) := hya; clear hya; have q6 := cat op ya (by omega))
              | (go_at_call 47; refine (amounts_any tl aoJ 4 capJ _ HTL.out.1 (by omega) (hJ2.below kb6) HTL.out.2).mono ?_; rintro e w7 ⟨rfl, hb7⟩; have kb7 := kb6.trans (hb7.mono kb6.size); have hh7 := six_keep (W := wz) (w' := w7) (Nat.lt_of_lt_of_le hbB hw2s) (Nat.lt_of_lt_of_le hbT hw2s) hsz2 ⟨z0, z1, z2, z3, hcI2, hcJ2⟩ kb7; have hcz := Sg.amountsB_size tl; have htl4 := HTL.out.1; obtain ⟨yb, hyb⟩ : ∃ yb, yb = Sg.amountsB tl := ⟨_, rfl⟩; rw [← hyb] at hcz; rw [← hyb]; have HYB : Hid (yb = Sg.amountsB tl) := hyb; clear hyb; have q7 := cat (op ++ ya) yb (by rw [cat_size]; omega)))
          have HE7 : Hid (Sg.pkTo h bal tot (k + 1) = op ++ ya ++ yb) := by show _ = _; rw [HS.out, HYA.out, HYB.out, ← HOP.out]
          have kb8 := bk_call hbel2 kb7
          clear hh6 hh7 kb6 kb7 hb6 hb7 q6 q7 HYA HYB hS hSd haz hcz hbl8 htl4 hbel2
          go_wp2_with fail
          go_roundw
          case rel => exact ⟨k + 1, by omega, by go_num, ⟨_, rfl, HE7.out.symm⟩, kb8⟩
          case measure => simp [intOf]; omega
    · have hkn : k = nP := by omega
      go_wp2_with fail
      go_ret
      exact ⟨ret_str2 (by rw [hoo.out, hkn]), hbw⟩
end Go.Proofs.YtpkkhkkkgjhkeaaGreat

/-
  THE WALK of signetref.Books.Headers, Head.
-/
namespace Go.Proofs.YtpkkhkkkgjhkeaaGreat
open Go.RowKit
set_option maxRecDepth 100000
attribute [local go_sem ↓] Go.wp_at_zero Go.wp_at_succ

namespace Sg
/-- The headers so far, and the sum of the last. -/
def hdTo (h : Hist) (bal tot : List (List Int)) : Nat → List ByteArray × ByteArray
  | 0 => ([], { data := #[0, 0] })
  | k + 1 => ((hdTo h bal tot k).1 ++ [headerB h.accs k (hdTo h bal tot k).2 (h.pers.getD k []) (bal.getD k []) (tot.getD k [])], sumB (headerB h.accs k (hdTo h bal tot k).2 (h.pers.getD k []) (bal.getD k []) (tot.getD k [])))
theorem hdTo_len (h : Hist) (bal tot : List (List Int)) : ∀ k, (hdTo h bal tot k).1.length = k
  | 0 => rfl
  | k + 1 => by simp [hdTo, hdTo_len h bal tot k]
theorem hdTo_last (h : Hist) (bal tot : List (List Int)) : ∀ k, (hdTo h bal tot k).2.size = 2
  | 0 => rfl
  | _ + 1 => rfl
theorem headerB_size (ac : List Acc) (i : Nat) (last : ByteArray) (p : List Ent) (b t : List Int) (hl : last.size = 2) : (headerB ac i last p b t).size = 16 := by
  unfold headerB
  rw [ByteArray.size_append, ByteArray.size_append, ByteArray.size_append, ByteArray.size_append, ByteArray.size_append, ByteArray.size_append, ByteArray.size_append, beB_size, beB_size, sumB_size, sumB_size, root_size, root_size, hl]
  rfl
theorem hdTo_get (h : Hist) (bal tot : List (List Int)) (k : Nat) : (hdTo h bal tot (k + 1)).2 = sumB ((hdTo h bal tot (k + 1)).1.getD k ByteArray.empty) ∧ ((hdTo h bal tot (k + 1)).1.getD k ByteArray.empty).size = 16 := by
  have e : (hdTo h bal tot (k + 1)).1.getD k ByteArray.empty = headerB h.accs k (hdTo h bal tot k).2 (h.pers.getD k []) (bal.getD k []) (tot.getD k []) := by
    have hl := hdTo_len h bal tot k
    simp only [hdTo]
    rw [List.getD_eq_getElem?_getD, List.getElem?_append_right (by omega)]
    simp [hl]
  rw [e]
  exact ⟨rfl, headerB_size _ _ _ _ _ _ (hdTo_last h bal tot k)⟩
end Sg

theorem five_keep {W w' : World} {n bT oT : Nat} {a b c d x : Value} (hbT : bT < W.heap.size) (hn : n < W.heap.size)
    (h : W.cell? ⟨n, 0, none⟩ = some a ∧ W.cell? ⟨n, 1, none⟩ = some b ∧ W.cell? ⟨n, 2, none⟩ = some c ∧ W.cell? ⟨n, 3, none⟩ = some d ∧ W.cell? ⟨bT, oT, none⟩ = some x) (hb : Below W.heap.size W w') :
    w'.cell? ⟨n, 0, none⟩ = some a ∧ w'.cell? ⟨n, 1, none⟩ = some b ∧ w'.cell? ⟨n, 2, none⟩ = some c ∧ w'.cell? ⟨n, 3, none⟩ = some d ∧ w'.cell? ⟨bT, oT, none⟩ = some x ∧ Below W.heap.size W w' :=
  ⟨(hb.cell (p := ⟨n, 0, none⟩) hn).trans h.1, (hb.cell (p := ⟨n, 1, none⟩) hn).trans h.2.1, (hb.cell (p := ⟨n, 2, none⟩) hn).trans h.2.2.1, (hb.cell (p := ⟨n, 3, none⟩) hn).trans h.2.2.2.1, (hb.cell (p := ⟨bT, oT, none⟩) hbT).trans h.2.2.2.2, hb⟩

/-- signetref.Sum, the text under a name of its own. -/
theorem sum_txt (s : ByteArray) (w : World) (hs : s.size ≤ 1000000) :
    Calls Tryz.prog 16 #[.string s] w fun e w' => ∃ y : ByteArray, e = .returned (.string y) ∧ Hid (y = Sg.sumB s) ∧ y.size ≤ 8 ∧ Below w.heap.size w w' := by
  refine (refSum_any s w (by unfold maxLen; omega)).mono ?_
  rintro e w' ⟨rfl, hb⟩
  exact ⟨_, rfl, rfl, by rw [Sg.sumB_size]; decide, hb⟩
/-- Root of a list of the call's own, likewise. -/
theorem root_txt {w : World} {base : Nat} {v : Value} {ss : List ByteArray} (h : OwnStrs w base v ss) (hs : ∀ s ∈ ss, s.size ≤ 140737488355328) (hmax : ss.length ≤ 4096) :
    Calls Tryz.prog 62 #[v] w fun e w' => ∃ y : ByteArray, e = .returned (.string y) ∧ Hid (y = Sg.root ss) ∧ y.size ≤ 8 ∧ Below w.heap.size w w' := by
  refine (refRoot_own h hs hmax).mono ?_
  rintro e w' ⟨rfl, hb⟩
  exact ⟨_, rfl, rfl, by rw [Sg.root_size]; decide, hb⟩
/-- chart, likewise. -/
theorem chart_txt (ac : List Sg.Acc) (ao aoP : Option Addr) (n cap nP capP : Nat) (w : World) (hn : ac.length = n) (hmax : n ≤ 8) (hok : ∀ a ∈ ac, a.name.size ≤ 12 ∧ 0 ≤ a.line ∧ a.line ≤ 3) (hl : AccsIn w ao ac) :
    Calls Tryz.prog 45 #[.agg #[.slice ao n cap, .slice aoP nP capP]] w fun e w' => ∃ y : ByteArray, e = .returned (.string y) ∧ Hid (y = Sg.chartB ac) ∧ y.size ≤ 200 ∧ Below w.heap.size w w' := by
  refine (chart_any ac ao aoP n cap nP capP w hn hmax hok hl).mono ?_
  rintro e w' ⟨rfl, hb⟩
  exact ⟨_, rfl, rfl, by have := Sg.chartB_size ac (fun a ha => (hok a ha).1); omega, hb⟩
/-- amounts, likewise. -/
theorem amounts_txt (l : List Int) (ao : Option Addr) (n cap : Nat) (w : World) (hn : l.length = n) (hmax : n ≤ 8) (hl : IntsIn w ao l) (hf : ∀ x ∈ l, Sg.fits x = true) :
    Calls Tryz.prog 47 #[.slice ao n cap] w fun e w' => ∃ y : ByteArray, e = .returned (.string y) ∧ Hid (y = Sg.amountsB l) ∧ y.size ≤ 200 ∧ Below w.heap.size w w' := by
  refine (amounts_any l ao n cap w hn (by omega) hl hf).mono ?_
  rintro e w' ⟨rfl, hb⟩
  exact ⟨_, rfl, rfl, by rw [Sg.amountsB_size]; omega, hb⟩

theorem stmt_sizes (ac : List Sg.Acc) (p : List Sg.Ent) (t : List Int) : (Sg.stmt ac p t).length = 4 ∧ ∀ s ∈ Sg.stmt ac p t, s.size ≤ 140737488355328 := by
  refine ⟨by simp [Sg.stmt], fun s hs => ?_⟩
  unfold Sg.stmt at hs
  obtain ⟨k, _, rfl⟩ := List.mem_map.1 hs
  unfold Sg.lineB
  rw [ByteArray.size_append, ByteArray.size_append, ByteArray.size_append, Sg.beB_size, Sg.beB_size, Sg.beB_size, Sg.root_size]
  decide

set_option maxHeartbeats 12800000 in
/-- Books.Headers. -/
theorem headers_any (h : Sg.Hist) (bal tot : List (List Int)) (aoA aoP aoB aoT : Option Addr) (nA nP capA capP capB capT : Nat) (w : World) (hB : BksAt w aoA aoP aoB aoT nA nP h bal tot) :
    Calls Tryz.prog 28 #[.agg #[.slice aoA nA capA, .slice aoP nP capP, .slice aoB nP capB, .slice aoT nP capT]] w fun e w' => ∃ v, e = .returned v ∧ OwnStrs w' w.heap.size v (Sg.hdTo h bal tot nP).1 ∧ Below w.heap.size w w' := by
  obtain ⟨i0, hi, hz0, hz1, hz2⟩ := info_parts Tryz.infoStr
  have HB : Hid (BksAt w aoA aoP aoB aoT nA nP h bal tot) := hB
  obtain ⟨f8, f6⟩ := hB.few
  clear hB
  go_enter Tryz.func28, Tryz.ntmps28
  go_wp2_with fail
  go_loopw [3, 4, 5] (fun o la i wr => ∃ k : Nat, k ≤ nP ∧ i = .int .i64 (k : Int) ∧ OwnStrs wr (w.heap.size + 1) o (Sg.hdTo h bal tot k).1 ∧ (∃ ll, la = .string ll ∧ Hid (ll = (Sg.hdTo h bal tot k).2)) ∧ Below (w.heap.size + 1) (bkBox w (.slice aoA nA capA) (.slice aoP nP capP) (.slice aoB nP capB) (.slice aoT nP capT)) wr) (fun _ _ i _ => nP - (intOf i).toNat)
  case atStart => exact ⟨0, by omega, rfl, World.ownsRow_nil _ _ _ _, ⟨_, rfl, rfl⟩, bkBox_refl _ _ _ _ _⟩
  case round =>
    obtain ⟨k, hk, rfl, hown, ⟨ll, rfl, hll⟩, hbel⟩ := hrel
    obtain ⟨x0, x1, x2, x3, hbw, hsz⟩ := bkBox_facts hbel
    by_cases hlt : k < nP
    · have l1 : k < h.pers.length := by rw [HB.out.lenP]; exact hlt
      have l2 : k < bal.length := by rw [HB.out.lenB]; exact hlt
      have l3 : k < tot.length := by rw [HB.out.lenT]; exact hlt
      have HS : Hid ((Sg.hdTo h bal tot (k + 1)).1 = (Sg.hdTo h bal tot k).1 ++ [Sg.headerB h.accs k ll h.pers[k] bal[k] tot[k]] ∧ (Sg.hdTo h bal tot (k + 1)).2 = Sg.sumB (Sg.headerB h.accs k ll h.pers[k] bal[k] tot[k])) := by
        show _ ∧ _
        have e1 : h.pers.getD k [] = h.pers[k] := by simp [List.getD, l1]
        have e2 : bal.getD k [] = bal[k] := by simp [List.getD, l2]
        have e3 : tot.getD k [] = tot[k] := by simp [List.getD, l3]
        simp only [Sg.hdTo, e1, e2, e3, ← hll.out]
        exact ⟨trivial, trivial⟩
      have hlz : ll.size ≤ 2 := by rw [hll.out, Sg.hdTo_last]; exact Nat.le_refl _
      have HOL : Hid ((Sg.hdTo h bal tot k).1.length ≤ 6) := by show _ ≤ _; rw [Sg.hdTo_len]; omega
      have hfine := HB.out.allFine _ (List.getElem_mem l1)
      obtain ⟨hbl, hbf⟩ := HB.out.balFine _ (List.getElem_mem l2)
      obtain ⟨htl, htf⟩ := HB.out.totFine _ (List.getElem_mem l3)
      have HLV : Hid (∀ W : World, Below w.heap.size w W → Calls Tryz.prog 33 #[.agg #[.slice aoA nA capA, .slice aoP nP capP, .slice aoB nP capB, .slice aoT nP capT], .int .i64 (k : Int)] W fun e w' => ∃ v, e = .returned v ∧ OwnStrs w' W.heap.size v (Sg.stmt h.accs h.pers[k] tot[k]) ∧ Below W.heap.size W w') :=
        fun W hW => leaves_any h.accs h.pers tot k aoA aoP aoT nA capA nP capP nP capT _ W (HB.out.accs.below hW) HB.out.lenA (HB.out.pers.below hW) HB.out.lenP l1 (HB.out.tots.below hW) HB.out.lenT l3 htl htf f8 f6 hfine
      obtain ⟨bP, offP, eP, hbP, aoE, capE, hcE, hE⟩ := (HB.out.pers).cell (k := k) l1
      subst eP
      obtain ⟨bB, offB, eB, hbB, aoI, capI, hcI, hI⟩ := (HB.out.bals).cell (k := k) l2
      subst eB
      rw [hbl] at hcI
      generalize h.pers[k] = es at *
      generalize bal[k] = bl at *
      generalize tot[k] = tl at *
      generalize (Sg.hdTo h bal tot k).1 = hs at *
      obtain ⟨ne, hne⟩ : ∃ ne, es.length = ne := ⟨_, rfl⟩
      rw [hne] at hcE
      have HNE : Hid (es.length = ne) := hne
      have hes : ne ≤ 12 := by have := hfine.1; omega
      have HFI : Hid (perFine nA es) := hfine
      have HBL : Hid (bl.length = nA ∧ ∀ v ∈ bl, Sg.fits v = true) := ⟨hbl, hbf⟩
      have hcE' := (hbw.cell (p := ⟨bP, offP + k, none⟩) hbP).trans hcE
      have i1 : (0 : Int) ≤ (k : Int) := by omega
      have i2 : (k : Int) < (nP : Int) := by omega
      clear hfine hbl hbf htl htf hne l1 l2 l3 hll
      obtain ⟨wz, ewz⟩ : ∃ z : World, z = wr := ⟨_, rfl⟩
      subst ewz
      go_wp2_with fail
      go_loopw [7, 8] (fun o j wr => ∃ r : Nat, r ≤ ne ∧ j = .int .i64 (r : Int) ∧ OwnStrs wr wz.heap.size o ((es.take r).map Sg.entB) ∧ Below wz.heap.size wz wr) (fun _ j _ => ne - (intOf j).toNat)
      case atStart => exact ⟨0, by omega, rfl, World.ownsRow_nil _ _ _ _, Below.refl _ _⟩
      case round =>
        obtain ⟨r, hr, rfl, hot, hbz⟩ := hrel
        have hbwr := hbw.trans (hbz.mono hbw.size)
        have hzz := hbz.size
        have HTL : Hid (((es.take r).map Sg.entB).length ≤ 12) := by show _ ≤ _; simp; omega
        by_cases hlr : r < ne
        · have hra : r < es.length := by rw [HNE.out]; exact hlr
          obtain ⟨bE, offE, eE, hbE, hm, aoQ, capQ, hcQ, hPs⟩ := (hE.below hbwr).cell (k := r) hra
          subst eE
          have HSu : Hid ((es.take (r + 1)).map Sg.entB = (es.take r).map Sg.entB ++ [Sg.entB es[r]]) := by
            show _ = _
            rw [List.take_succ_eq_append_getElem hra, List.map_append]; rfl
          obtain ⟨g1, g2, g3⟩ := HFI.out.2 es[r] (List.getElem_mem _)
          have HPo : Hid (∀ p ∈ es[r].posts, Sg.fits p.acct = true ∧ Sg.fits p.amt = true) := fun p hp => ⟨decide_eq_true (by have := g3 p hp; omega), (g3 p hp).2.2⟩
          obtain ⟨mm, pp, hmp⟩ : ∃ mm pp, es[r] = ⟨mm, pp⟩ := ⟨_, _, rfl⟩
          rw [hmp] at hm hcQ hPs g1 g2 HPo HSu
          simp only at hm hcQ hPs g1 g2 HPo
          obtain ⟨np, hnp⟩ : ∃ np, pp.length = np := ⟨_, rfl⟩
          rw [hnp] at hcQ g2
          have HNP : Hid (pp.length = np) := hnp
          have i3 : (0 : Int) ≤ (r : Int) := by omega
          have i4 : (r : Int) < (ne : Int) := by omega
          generalize (es.take r).map Sg.entB = ts at *
          clear hmp hnp g3
          go_wp2_with fail
          refine (entry_any mm pp aoQ np capQ _ HNP.out g2 g1 HPo.out hPs).mono ?_
          rintro e w5 ⟨rfl, hb5⟩
          have hot5 := hot.below hb5
          unfold OwnStrs at hot5
          have hbz5 := hbz.trans (hb5.mono hbz.size)
          have hz5 := hbz5.size
          have htl := HTL.out
          generalize Sg.entB ⟨mm, pp⟩ = et at *
          clear hb5 hPs hot hbz
          go_wp2_with (at_builtin; refine wpList_append_own _ rfl _ _ 79 rfl wz.heap.size 9 i0 (.string ByteArray.empty) 1 16 Tryz.underlying79 hi hz0 hz1 hz2 rfl (by decide) _ _ _ rfl (hot5.alloc _) ⟨w5.heap.size, 0, none⟩ 1 1 [.string et] rfl rfl ?c1 ?c2 ?c3 ?c4 ?c5 ?_)
          case c1 =>
            intro j u hj
            match j, hj with
            | 0, hj => simp at hj; subst hj; simp [Addr.add]
          case c2 => intro u hu; simp at hu; subst hu; rfl
          case c3 => unfold maxLen; omega
          case c4 => omega
          case c5 => simp; omega
          intro v' w6 hown' hgrow _
          have hb6 := below_push (by omega) hot5 hbz5 hgrow
          have HO : Hid (OwnStrs w6 wz.heap.size v' ((es.take (r + 1)).map Sg.entB)) := by
            show OwnStrs _ _ _ _
            rw [HSu.out]
            exact OwnStrs.push hown'
          clear hgrow hot5 hown' HSu
          go_wp2_with fail
          go_roundw
          case rel => exact ⟨r + 1, by omega, by go_num, HO.out, hb6⟩
          case measure => simp [intOf]; omega
        · have hrn : r = es.length := by rw [HNE.out]; omega
          rw [hrn, List.take_length] at hot
          have hotl : (es.map Sg.entB).length ≤ 4096 := by rw [List.length_map, HNE.out]; omega
          have HTS : Hid (∀ s ∈ es.map Sg.entB, s.size ≤ 140737488355328) := fun s hs' => by
            obtain ⟨e, he, rfl⟩ := List.mem_map.1 hs'
            have := HFI.out.2 e he
            rw [Sg.entB_size]; omega
          have hbel2 := bk_call hbel hbz
          obtain ⟨z0, z1, z2, z3, _, hsz2⟩ := bkBox_facts hbel2
          have hcI2 := (hbwr.cell (p := ⟨bB, offB + k, none⟩) hbB).trans hcI
          have hI2 := hI.below hbwr
          have hown2 := hown.below hbz
          have hw2s := hbwr.size
          clear hrn hE hown HTL
          have hol := HOL.out
          obtain ⟨wy, ewy⟩ : ∃ z : World, z = wr := ⟨_, rfl⟩
          subst ewy
          have hS := five_keep (W := wy) (w' := wy) (Nat.lt_of_lt_of_le hbB hw2s) hsz2 ⟨z0, z1, z2, z3, hcI2⟩ (Below.refl _ _)
          have hSd := five_keep (W := wy) (w' := wy.drew) (Nat.lt_of_lt_of_le hbB hw2s) hsz2 ⟨z0, z1, z2, z3, hcI2⟩ (Below.refl _ _).drew
          go_wp2_with fail
          go_region_held3 (fun w' => w'.cell? ⟨w.heap.size, 0, none⟩ = some (.slice aoA nA capA) ∧ w'.cell? ⟨w.heap.size, 1, none⟩ = some (.slice (some ⟨bP, offP, none⟩) nP capP) ∧ w'.cell? ⟨w.heap.size, 2, none⟩ = some (.slice (some ⟨bB, offB, none⟩) nP capB) ∧ w'.cell? ⟨w.heap.size, 3, none⟩ = some (.slice aoT nP capT) ∧ w'.cell? ⟨bB, offB + k, none⟩ = some (.slice aoI nA capI) ∧ Below wy.heap.size wy w')
            (first | assumption)
            (first
              | (go_at_call_of 29 (Value.int IntKind.i64 (k : Int)); refine (bytes_txt (k : Int) 1 _ (by omega) (by decide) (by decide)).mono ?_; rintro e w1' ⟨y1, rfl, hy1, hys1, hb1⟩; have kb1 := ((Below.refl wy.heap.size wy).drew).trans hb1; have hh1 := five_keep (W := wy) (w' := w1') (Nat.lt_of_lt_of_le hbB hw2s) hsz2 ⟨z0, z1, z2, z3, hcI2⟩ kb1; have q43 := cat ({ data := #[72, 69, 65, 68] } : ByteArray) y1 (by show 4 + y1.size ≤ _; omega); have e43 := cat_size ({ data := #[72, 69, 65, 68] } : ByteArray) y1; have q45 := cat (({ data := #[72, 69, 65, 68] } : ByteArray) ++ y1) ll (by rw [e43]; show 4 + y1.size + _ ≤ _; omega))
              | (go_at_call 45; refine (chart_txt h.accs aoA _ nA capA nP capP _ HB.out.lenA f8 HB.out.accFine (HB.out.accs.below (hbwr.trans (kb1.mono hw2s)))).mono ?_; rintro e w2' ⟨ct, rfl, hct, hcz, hb2⟩; have kb2 := kb1.trans (hb2.mono kb1.size); have hh2 := five_keep (W := wy) (w' := w2') (Nat.lt_of_lt_of_le hbB hw2s) hsz2 ⟨z0, z1, z2, z3, hcI2⟩ kb2)
              | (go_at_call_of 16 (Value.string ct); refine (sum_txt ct _ (by omega)).mono ?_; rintro e w3' ⟨s1, rfl, hs1, hss1, hb3⟩; have kb3 := kb2.trans (hb3.mono kb2.size); have hh3 := five_keep (W := wy) (w' := w3') (Nat.lt_of_lt_of_le hbB hw2s) hsz2 ⟨z0, z1, z2, z3, hcI2⟩ kb3; have q50 := cat (({ data := #[72, 69, 65, 68] } : ByteArray) ++ y1 ++ ll) s1 (by rw [cat_size, cat_size]; show 4 + y1.size + _ + _ ≤ _; omega))
              | (go_at_call 29; refine (bytes_txt (ne : Int) 1 _ (by omega) (by decide) (by decide)).mono ?_; rintro e w4' ⟨y2, rfl, hy2, hys2, hb4⟩; have kb4 := kb3.trans (hb4.mono kb3.size); have hh4 := five_keep (W := wy) (w' := w4') (Nat.lt_of_lt_of_le hbB hw2s) hsz2 ⟨z0, z1, z2, z3, hcI2⟩ kb4; have q54 := cat (({ data := #[72, 69, 65, 68] } : ByteArray) ++ y1 ++ ll ++ s1) y2 (by rw [cat_size, cat_size, cat_size]; show 4 + y1.size + _ + _ + _ ≤ _; omega))
              | (go_at_call_of 62 (u7); refine (root_txt (hot.below kb4) HTS.out hotl).mono ?_; rintro e w5' ⟨r1, rfl, hr1, hrs1, hb5⟩; have kb5 := kb4.trans (hb5.mono kb4.size); have hh5 := five_keep (W := wy) (w' := w5') (Nat.lt_of_lt_of_le hbB hw2s) hsz2 ⟨z0, z1, z2, z3, hcI2⟩ kb5; have q57 := cat (({ data := #[72, 69, 65, 68] } : ByteArray) ++ y1 ++ ll ++ s1 ++ y2) r1 (by rw [cat_size, cat_size, cat_size, cat_size]; show 4 + y1.size + _ + _ + _ + _ ≤ _; omega))
              | (go_at_call 33; refine (HLV.out _ (hbwr.trans (kb5.mono hw2s))).mono ?_; rintro e w6' ⟨vL, rfl, hoL, hb6⟩; have kb6 := kb5.trans (hb6.mono kb5.size); have hh6 := five_keep (W := wy) (w' := w6') (Nat.lt_of_lt_of_le hbB hw2s) hsz2 ⟨z0, z1, z2, z3, hcI2⟩ kb6)
              | (go_at_call 62; refine (root_txt hoL (stmt_sizes _ _ _).2 (by rw [(stmt_sizes _ _ _).1]; omega)).mono ?_; rintro e w7' ⟨r2, rfl, hr2, hrs2, hb7⟩; have kb7 := kb6.trans (hb7.mono kb6.size); have hh7 := five_keep (W := wy) (w' := w7') (Nat.lt_of_lt_of_le hbB hw2s) hsz2 ⟨z0, z1, z2, z3, hcI2⟩ kb7; have q62 := cat (({ data := #[72, 69, 65, 68] } : ByteArray) ++ y1 ++ ll ++ s1 ++ y2 ++ r1) r2 (by rw [cat_size, cat_size, cat_size, cat_size, cat_size]; show 4 + y1.size + _ + _ + _ + _ + _ ≤ _; omega))
              | (go_at_call 47; refine (amounts_txt bl aoI nA capI _ HBL.out.1 f8 (hI2.below kb7) HBL.out.2).mono ?_; rintro e w8' ⟨ya, rfl, hya, hyz, hb8⟩; have kb8 := kb7.trans (hb8.mono kb7.size); have hh8 := five_keep (W := wy) (w' := w8') (Nat.lt_of_lt_of_le hbB hw2s) hsz2 ⟨z0, z1, z2, z3, hcI2⟩ kb8)
              | (go_at_call 16; refine (sum_txt ya _ (by omega)).mono ?_; rintro e w9' ⟨s2, rfl, hs2, hss2, hb9⟩; have kb9 := kb8.trans (hb9.mono kb8.size); have hh9 := five_keep (W := wy) (w' := w9') (Nat.lt_of_lt_of_le hbB hw2s) hsz2 ⟨z0, z1, z2, z3, hcI2⟩ kb9; have q70 := cat (({ data := #[72, 69, 65, 68] } : ByteArray) ++ y1 ++ ll ++ s1 ++ y2 ++ r1 ++ r2) s2 (by rw [cat_size, cat_size, cat_size, cat_size, cat_size, cat_size]; show 4 + y1.size + _ + _ + _ + _ + _ + _ ≤ _; omega)))
          have HH : Hid (({ data := #[72, 69, 65, 68] } : ByteArray) ++ y1 ++ ll ++ s1 ++ y2 ++ r1 ++ r2 ++ s2 = Sg.headerB h.accs k ll es bl tl) := by
            show _ = _
            unfold Sg.headerB Sg.headT
            rw [hy1.out, hs1.out, hct.out, hy2.out, hr1.out, hr2.out, hs2.out, hya.out, HNE.out]
          have HZ : Hid ((({ data := #[72, 69, 65, 68] } : ByteArray) ++ y1 ++ ll ++ s1 ++ y2 ++ r1 ++ r2 ++ s2).size ≤ 100) := by
            show _ ≤ _
            rw [cat_size, cat_size, cat_size, cat_size, cat_size, cat_size, cat_size]
            show 4 + y1.size + _ + _ + _ + _ + _ + _ ≤ _
            omega
          have ho9 := hown2.below kb9
          unfold OwnStrs at ho9
          have hb9' := bk_call hbel2 kb9
          have hs9 := kb9.size
          rw [← HH.out] at HS
          have HS' : Hid ((Sg.hdTo h bal tot (k + 1)).1 = hs ++ [({ data := #[72, 69, 65, 68] } : ByteArray) ++ y1 ++ ll ++ s1 ++ y2 ++ r1 ++ r2 ++ s2] ∧ (Sg.hdTo h bal tot (k + 1)).2 = Sg.sumB (({ data := #[72, 69, 65, 68] } : ByteArray) ++ y1 ++ ll ++ s1 ++ y2 ++ r1 ++ r2 ++ s2)) := HS
          generalize (({ data := #[72, 69, 65, 68] } : ByteArray) ++ y1 ++ ll ++ s1 ++ y2 ++ r1 ++ r2 ++ s2) = ht at *
          clear hh1 hh2 hh3 hh4 hh5 hh6 hh7 hh8 hh9 kb1 kb2 kb3 kb4 kb5 kb6 kb7 kb8 hb1 hb2 hb3 hb4 hb5 hb6 hb7 hb8 hb9 q43 q45 q50 q54 q57 q62 q70 e43 hS hSd hy1 hct hs1 hy2 hr1 hoL hr2 hya hs2 HH HS hot hown2 hbel2 hbel hbz kb9
          go_wp2_with (at_builtin; refine wpList_append_own _ rfl _ _ 79 rfl (w.heap.size + 1) 9 i0 (.string ByteArray.empty) 1 16 Tryz.underlying79 hi hz0 hz1 hz2 rfl (by decide) _ _ _ rfl (ho9.alloc _) ⟨w9'.heap.size, 0, none⟩ 1 1 [.string ht] rfl rfl ?d1 ?d2 ?d3 ?d4 ?d5 ?_)
          case d1 =>
            intro j u hj
            match j, hj with
            | 0, hj => simp at hj; subst hj; simp [Addr.add]
          case d2 => intro u hu; simp at hu; subst hu; rfl
          case d3 => unfold maxLen; omega
          case d4 => omega
          case d5 => simp; omega
          intro v' wa hown' hgrow _
          have hba := below_push (by omega) ho9 hb9' hgrow
          have HO : Hid (OwnStrs wa (w.heap.size + 1) v' (Sg.hdTo h bal tot (k + 1)).1) := by
            show OwnStrs _ _ _ _
            rw [HS'.out.1]
            exact OwnStrs.push hown'
          clear hgrow ho9 hown' hb9'
          go_wp2_with fail
          refine (sum_txt ht _ (by have := HZ.out; omega)).mono ?_
          rintro e wb ⟨yl, rfl, hyl, hyls, hbb⟩
          have HOb := HO.out.below hbb
          have hbb' := bk_call hba hbb
          have HYL : Hid (yl = (Sg.hdTo h bal tot (k + 1)).2) := by show _ = _; rw [hyl.out, HS'.out.2]
          clear hbb hba HO hyl
          go_wp2_with fail
          go_roundw
          case rel => exact ⟨k + 1, by omega, by go_num, HOb, ⟨_, rfl, HYL⟩, hbb'⟩
          case measure => simp [intOf]; omega
    · have hkn : k = nP := by omega
      rw [hkn] at hown
      go_wp2_with fail
      go_ret
      exact ⟨_, rfl, ownsRow_base hown (by omega), hbw⟩

set_option maxHeartbeats 1600000 in
/-- Books.Head. -/
theorem head_any (h : Sg.Hist) (bal tot : List (List Int)) (aoA aoP aoB aoT : Option Addr) (nA nP capA capP capB capT : Nat) (w : World) (hB : BksAt w aoA aoP aoB aoT nA nP h bal tot) (h1 : 1 ≤ nP) :
    Calls Tryz.prog 15 #[.agg #[.slice aoA nA capA, .slice aoP nP capP, .slice aoB nP capB, .slice aoT nP capT]] w fun e w' => e = .returned (.string (Sg.hdTo h bal tot nP).2) ∧ Below w.heap.size w w' := by
  have hB1 := hB.below (bkBox_facts (bkBox_refl w (.slice aoA nA capA) (.slice aoP nP capP) (.slice aoB nP capB) (.slice aoT nP capT))).2.2.2.2.1
  have HB1 : Hid (BksAt (bkBox w (.slice aoA nA capA) (.slice aoP nP capP) (.slice aoB nP capB) (.slice aoT nP capT)) aoA aoP aoB aoT nA nP h bal tot) := hB1
  obtain ⟨_, f6⟩ := hB.few
  clear hB hB1
  go_enter Tryz.func15, Tryz.ntmps15
  go_wp2_with fail
  refine (headers_any h bal tot aoA aoP aoB aoT nA nP capA capP capB capT _ HB1.out).mono ?_
  rintro e w1 ⟨v, rfl, hown, hb1⟩
  obtain ⟨ao, cap, hv, hle, hm, hin⟩ := own_strs_shape hown
  have hlen := Sg.hdTo_len h bal tot nP
  obtain ⟨g, hao, hg, hat⟩ := hin (by omega)
  have hc := hat (nP - 1) (by omega)
  rw [hao, hlen] at hv
  rw [hv]
  have HX : Hid ((Sg.hdTo h bal tot nP).2 = Sg.sumB ((Sg.hdTo h bal tot nP).1.getD (nP - 1) ByteArray.empty) ∧ ((Sg.hdTo h bal tot nP).1.getD (nP - 1) ByteArray.empty).size ≤ 1000000) := by
    obtain ⟨q, rfl⟩ : ∃ q, nP = q + 1 := ⟨nP - 1, by omega⟩
    obtain ⟨e1, e2⟩ := Sg.hdTo_get h bal tot q
    show _ ∧ _
    rw [Nat.add_sub_cancel]
    exact ⟨e1, by omega⟩
  obtain ⟨q, hq⟩ : ∃ q, nP = q + 1 := ⟨nP - 1, by omega⟩
  subst hq
  simp only [Nat.add_sub_cancel] at hc HX
  generalize (Sg.hdTo h bal tot (q + 1)).1.getD q ByteArray.empty = lt at *
  rw [Nat.zero_add] at hc
  have hb01 := ((bkBox_facts (bkBox_refl w (.slice aoA (nA) capA) (.slice aoP (q + 1) capP) (.slice aoB (q + 1) capB) (.slice aoT (q + 1) capT))).2.2.2.2.1).trans (hb1.mono (by rw [bkBox_size]; omega))
  clear hat hown hin hv hb1
  go_wp2_with fail
  refine (sum_txt lt _ HX.out.2).mono ?_
  rintro e w2 ⟨y, rfl, hy, hys, hb2⟩
  go_wp2_with fail
  go_ret
  exact ⟨ret_str2 (by rw [HX.out.1, hy.out]), hb01.trans (hb2.mono hb01.size)⟩
end Go.Proofs.YtpkkhkkkgjhkeaaGreat

/-
  WHAT signetref.Close holds on its way.
-/
namespace Go.Proofs.YtpkkhkkkgjhkeaaGreat
open Go.RowKit
set_option maxRecDepth 100000

theorem Tryz.infoInt : (Tryz.prog.info? 3).map (fun i => (i.zero, i.size, i.bytes)) = some (some (.int .i64 0), 1, 8) := by kernel_rfl
theorem Tryz.infoInts : (Tryz.prog.info? 86).map (fun i => (i.zero, i.size, i.bytes)) = some (some (.slice none 0 0), 1, 24) := by kernel_rfl
theorem Tryz.infoWide : (Tryz.prog.info? 98).map (fun i => (i.zero, i.size, i.bytes)) = some (some (.agg #[.int .i64 0, .int .i64 0]), 2, 16) := by kernel_rfl

/-- A list of numbers that was made. -/
def RowI (w : World) (v : Value) (l : List Int) : Prop := w.ownsRow 0 3 1 v l.length (l.map (Value.int .i64))
theorem RowI.in_ {w : World} {v : Value} {l : List Int} (h : RowI w v l) : ∃ ao cap, v = .slice ao l.length cap ∧ IntsIn w ao l := by
  have hk := h
  rcases h.2 with ⟨rfl, h0⟩ | ⟨g, cap, cur, rfl, _, hh, hle, hm, _, _⟩
  · exact ⟨none, 0, by rw [h0], Or.inl h0⟩
  · refine ⟨_, cap, rfl, Or.inr ⟨g, 0, rfl, lt_of_block hh, fun i hi => ?_⟩⟩
    rw [Nat.zero_add, World.ownsRow.cellAt hk i (by omega)]
    simp [List.getD, hi]
theorem RowI.kept {w w' : World} {v : Value} {l : List Int} {row : Option Nat} (h : RowI w v l) (hg : w.grownBy w' row) (hne : v.ownBlock = none ∨ v.ownBlock ≠ row) : RowI w' v l := World.ownsRow.kept h hg hne
theorem RowI.below {w w' : World} {v : Value} {l : List Int} (h : RowI w v l) (hb : Below w.heap.size w w') : RowI w' v l := ownsRow_below h hb
/-- A list of such lists. -/
def RowS (w : World) (base : Nat) (v : Value) (ll : List (List Int)) (vs : List Value) : Prop := vs.length = ll.length ∧ w.ownsRow base 86 1 v ll.length vs ∧ ∀ i (h : i < ll.length), ∃ u, vs[i]? = some u ∧ RowI w u ll[i]
theorem RowS.in_ {w : World} {base : Nat} {v : Value} {ll : List (List Int)} {vs : List Value} (h : RowS w base v ll vs) : ∃ ao cap, v = .slice ao ll.length cap ∧ IntssIn w ao ll := by
  obtain ⟨h1, h2, h3⟩ := h
  have hk := h2
  rcases h2.2 with ⟨rfl, h0⟩ | ⟨g, cap, cur, rfl, _, hh, hle, hm, _, _⟩
  · exact ⟨none, 0, by rw [h0], Or.inl h0⟩
  · refine ⟨_, cap, rfl, Or.inr ⟨g, 0, rfl, lt_of_block hh, fun i hi => ?_⟩⟩
    obtain ⟨u, hu, hr⟩ := h3 i hi
    obtain ⟨ao', cap', e, hin⟩ := hr.in_
    refine ⟨ao', cap', ?_, hin⟩
    rw [Nat.zero_add, World.ownsRow.cellAt hk i (by omega), hu, e]
theorem rows_apart {w : World} {e e' : TypeId} {b b' sz sz' n n' : Nat} {v v' : Value} {xs xs' : List Value} (h : w.ownsRow b e sz v n xs) (h' : w.ownsRow b' e' sz' v' n' xs') (hne : e ≠ e') : v.ownBlock = none ∨ v.ownBlock ≠ v'.ownBlock := by
  rcases h.2 with ⟨rfl, _⟩ | ⟨g1, c1, cur1, rfl, _, hh1, _⟩
  · exact Or.inl rfl
  · right
    rcases h'.2 with ⟨rfl, _⟩ | ⟨g2, c2, cur2, rfl, _, hh2, _⟩
    · simp [Value.ownBlock]
    · simp only [Value.ownBlock, ne_eq, Option.some.injEq]
      rintro rfl
      rw [hh1] at hh2
      simp only [Option.some.injEq, Obj.cells.injEq] at hh2
      exact hne hh2.2.1
theorem RowS.below {w w' : World} {base : Nat} {v : Value} {ll : List (List Int)} {vs : List Value} (h : RowS w base v ll vs) (hb : Below w.heap.size w w') : RowS w' base v ll vs :=
  ⟨h.1, ownsRow_below h.2.1 hb, fun i hi => by obtain ⟨u, hu, hr⟩ := h.2.2 i hi; exact ⟨u, hu, hr.below hb⟩⟩
/-- While a block is written that is of another kind. -/
theorem RowS.other {w w' : World} {base g : Nat} {v : Value} {ll : List (List Int)} {vs : List Value} {t : TypeId} {cur : Array Value} (h : RowS w base v ll vs) (hg : w.grownBy w' (some g)) (hh : w.heap[g]? = some (.cells cur t (0, 0))) (h1 : t ≠ 86) (h2 : t ≠ 3) : RowS w' base v ll vs := by
  have key : ∀ {e : TypeId} {b sz n : Nat} {u : Value} {xs : List Value}, w.ownsRow b e sz u n xs → t ≠ e → u.ownBlock = none ∨ u.ownBlock ≠ some g := by
    intro e b sz n u xs hu hte
    rcases hu.2 with ⟨rfl, _⟩ | ⟨g1, c1, cur1, rfl, _, hh1, _⟩
    · exact Or.inl rfl
    · right
      simp only [Value.ownBlock, ne_eq, Option.some.injEq]
      rintro rfl
      rw [hh1] at hh
      simp only [Option.some.injEq, Obj.cells.injEq] at hh
      exact hte hh.2.1.symm
  exact ⟨h.1, h.2.1.kept hg (key h.2.1 h1), fun i hi => by obtain ⟨u, hu, hr⟩ := h.2.2 i hi; exact ⟨u, hu, hr.kept hg (key hr h2)⟩⟩

namespace Sg
/-- The totals behind the first k postings. -/
def linesTo (ac : List Acc) (ps : List Pst) (tot : List Int) (k : Nat) : List Int := linesAll ac (ps.take k) tot
theorem linesTo_succ (ac : List Acc) (ps : List Pst) (tot : List Int) (k : Nat) (h : k < ps.length) : linesTo ac ps tot (k + 1) = comes (linesTo ac ps tot k) (lineOf ac ps[k].acct).toNat ps[k].amt := by
  unfold linesTo linesAll; rw [List.take_succ_eq_append_getElem h, List.foldl_append]; rfl
theorem linesTo_length (ac : List Acc) (ps : List Pst) (tot : List Int) : ∀ k, k ≤ ps.length → (linesTo ac ps tot k).length = tot.length
  | 0, _ => rfl
  | k + 1, h => by rw [linesTo_succ ac ps tot k (by omega)]; unfold comes; rw [List.length_set]; exact linesTo_length ac ps tot k (by omega)
theorem linesTo_all (ac : List Acc) (ps : List Pst) (tot : List Int) : linesTo ac ps tot ps.length = linesAll ac ps tot := by unfold linesTo; rw [List.take_length]
theorem linesTo_near (ac : List Acc) (ps : List Pst) (tot : List Int) (c : Nat) (h : ∀ v ∈ tot, Near c v) (hf : ∀ p ∈ ps, fits p.amt = true) (h4 : tot.length = 4) (hl : ∀ p ∈ ps, 0 ≤ lineOf ac p.acct ∧ lineOf ac p.acct ≤ 3) : ∀ k, k ≤ ps.length → ∀ v ∈ linesTo ac ps tot k, Near (c + k) v
  | 0, _ => h
  | k + 1, hk => by
    rw [linesTo_succ ac ps tot k (by omega)]
    have hp := List.getElem_mem (l := ps) (n := k) (by omega)
    refine comes_near (linesTo_near ac ps tot c h hf h4 hl k (by omega)) ?_ (of_decide_eq_true (hf _ hp))
    rw [linesTo_length ac ps tot k (by omega), h4]
    have := hl _ hp
    omega
theorem entErr_ok {n : Nat} {e : Ent} {now : List Int} (h : entErr n e now = 0) : (∀ p ∈ e.posts, 0 ≤ p.acct ∧ p.acct < (n : Int)) ∧ ∀ v ∈ comesAll e.posts now, fits v = true := by
  unfold entErr at h
  by_cases h1 : e.posts.any (fun p => decide (p.acct < 0 ∨ (n : Int) ≤ p.acct)) = true
  · rw [if_pos h1] at h; omega
  rw [if_neg h1] at h
  by_cases h2 : amtSum e.posts ≠ 0
  · rw [if_pos h2] at h; omega
  rw [if_neg h2] at h
  by_cases h3 : (comesAll e.posts now).any (fun v => !fits v) = true
  · rw [if_pos h3] at h; omega
  refine ⟨fun p hp => ?_, fun v hv => ?_⟩
  · rw [List.any_eq_true] at h1
    by_cases e' : 0 ≤ p.acct ∧ p.acct < (n : Int)
    · exact e'
    · exact absurd ⟨p, hp, decide_eq_true (by omega)⟩ h1
  · rw [List.any_eq_true] at h3
    cases e' : fits v with
    | true => rfl
    | false => exact absurd ⟨v, hv, by rw [e']; rfl⟩ h3
theorem comesAll_length (ps : List Pst) (now : List Int) : (comesAll ps now).length = now.length := by rw [← comesTo_all, comesTo_length ps now _ (Nat.le_refl _)]
theorem lineOf_fine {ac : List Acc} {n : Nat} (hn : ac.length = n) (hok : ∀ a ∈ ac, 0 ≤ a.line ∧ a.line ≤ 3) {i : Int} (h0 : 0 ≤ i) (h1 : i < (n : Int)) : 0 ≤ lineOf ac i ∧ lineOf ac i ≤ 3 := by
  obtain ⟨k, rfl⟩ := Int.eq_ofNat_of_zero_le h0
  have hk : k < ac.length := by omega
  rw [lineOf_get hk]
  exact hok _ (List.getElem_mem _)
end Sg
end Go.Proofs.YtpkkhkkkgjhkeaaGreat
