/-
  THE WALK of Book.Text.
-/
import Derived.Test.YtoadiibfmcjgaaaPkText
import Derived.Test.YtoadiibfmcjgaaaPackage
namespace Go.Proofs.Ytoadiibfmcjgaaa
open Go.RowKit Go.Maps
set_option maxRecDepth 100000
attribute [local go_sem ↓] Go.wp_at_zero Go.wp_at_succ

/-- What the walks ask of a history that was closed. -/
structure Closed (w : World) (aoA : Option Addr) (nA nP : Nat) (h : Sg.Hist) (A : Value) (ao : Option Addr) (rs : List Rec) (b : Nat) : Prop where
  accs : AccsIn w aoA h.accs
  lenA : h.accs.length = nA
  lenP : h.pers.length = nP
  inb : Sg.inBounds h = true
  sizQ : ∀ p ∈ h.pers, ∀ e ∈ p, ∀ t ∈ e.posts, Sg.fits t.acct = true ∧ Sg.fits t.amt = true
  bk : BkIn w A ao nP h rs b
theorem RecsOk.below {w w' : World} {ps : List (List Sg.Ent)} {bal tot : List (List Int)} {rs : List Rec} (h : RecsOk w w ps bal tot rs) (hb : Below w.heap.size w w') : RecsOk w' w' ps bal tot rs :=
  RecsOk.world (h.kept (fun _ _ _ g => g.below hb)) hb
theorem BkIn.below {w w' : World} {A : Value} {ao : Option Addr} {nP : Nat} {h : Sg.Hist} {rs : List Rec} {b : Nat} (k : BkIn w A ao nP h rs b) (hb : Below w.heap.size w w') : BkIn w' A ao nP h rs b :=
  ⟨k.at_, Nat.lt_of_lt_of_le k.lt hb.size, fun i hi j hj => (hb.cell (p := ⟨b, i * 11 + j, none⟩) k.lt).trans (k.cells i hi j hj), k.len, k.recs.below hb, k.fineB, k.fineT⟩
theorem Closed.below {w w' : World} {aoA : Option Addr} {nA nP : Nat} {h : Sg.Hist} {A : Value} {ao : Option Addr} {rs : List Rec} {b : Nat} (c : Closed w aoA nA nP h A ao rs b) (hb : Below w.heap.size w w') : Closed w' aoA nA nP h A ao rs b :=
  ⟨c.accs.below hb, c.lenA, c.lenP, c.inb, c.sizQ, c.bk.below hb⟩
/-- One period of it. -/
structure PerOf (w : World) (h : Sg.Hist) (k nA : Nat) (r : Rec) (es : List Sg.Ent) (aoE : Option Addr) (ne capE : Nat) : Prop where
  eV : r.eV = .slice aoE ne capE
  len : es.length = ne
  le12 : ne ≤ 12
  ents : EntsIn w aoE es
  ok : ∀ e ∈ es, e.memo.size ≤ 20 ∧ e.posts.length ≤ 6 ∧ ∀ p ∈ e.posts, Sg.fits p.acct = true ∧ Sg.fits p.amt = true
  lenN : r.now.length = nA
  fitN : ∀ v ∈ r.now, Sg.fits v = true
  bal : BalIn w r.m 600 r.now
  fitT : ∀ v ∈ [r.t0, r.t1, r.t2, r.t3], Sg.fits v = true
theorem Closed.per {w : World} {aoA : Option Addr} {nA nP : Nat} {h : Sg.Hist} {A : Value} {ao : Option Addr} {rs : List Rec} {b k : Nat} (c : Closed w aoA nA nP h A ao rs b) (hk : k < nP) :
    ∃ (h1 : k < h.pers.length) (h2 : k < (Sg.balances h).length) (h3 : k < (Sg.totals h).length) (h4 : k < rs.length) (aoE : Option Addr) (ne capE : Nat), (Sg.balances h)[k] = rs[k].now ∧ (Sg.totals h)[k] = [rs[k].t0, rs[k].t1, rs[k].t2, rs[k].t3] ∧ PerOf w h k nA rs[k] h.pers[k] aoE ne capE := by
  have hr : k < rs.length := by rw [c.bk.len]; exact hk
  obtain ⟨h1, h2, h3, g1, g2, g3, aoE, capE, g4, g5⟩ := c.bk.recs k hr
  obtain ⟨p1, p2⟩ := Sg.bnd_pers c.inb h.pers[k] (List.getElem_mem h1)
  have fb := c.bk.fineB _ (List.getElem_mem h2)
  have ft := c.bk.fineT _ (List.getElem_mem h3)
  rw [g2, c.lenA] at fb
  rw [g3] at ft
  exact ⟨h1, h2, h3, hr, aoE, h.pers[k].length, capE, g2, g3, ⟨g4, rfl, p1, g5, fun e he => ⟨(p2 e he).1, (p2 e he).2, fun p hp => c.sizQ _ (List.getElem_mem h1) e he p hp⟩, fb.1, fb.2, g1, ft⟩⟩
theorem Closed.nums {w : World} {aoA : Option Addr} {nA nP : Nat} {h : Sg.Hist} {A : Value} {ao : Option Addr} {rs : List Rec} {b : Nat} (c : Closed w aoA nA nP h A ao rs b) : nA ≤ 8 ∧ nP ≤ 6 ∧ 1 ≤ nP := by
  have := Sg.bnd_nums c.inb
  rw [c.lenA, c.lenP] at this
  omega
/-- The eleven cells of a period of it. -/
theorem BkIn.eleven {w : World} {A : Value} {ao : Option Addr} {nP : Nat} {h : Sg.Hist} {rs : List Rec} {b : Nat} (c : BkIn w A ao nP h rs b) {k : Nat} (hk : k < rs.length) :
    w.cell? ⟨b, k * 11, none⟩ = some A ∧ w.cell? ⟨b, k * 11 + 1, none⟩ = some rs[k].eV ∧ w.cell? ⟨b, k * 11 + 2, none⟩ = some (.map (some rs[k].m)) ∧ w.cell? ⟨b, k * 11 + 3, none⟩ = some (.int .u64 (nHi rs[k].t0)) ∧ w.cell? ⟨b, k * 11 + 4, none⟩ = some (.int .u64 (nLo rs[k].t0)) ∧
    w.cell? ⟨b, k * 11 + 5, none⟩ = some (.int .u64 (nHi rs[k].t1)) ∧ w.cell? ⟨b, k * 11 + 6, none⟩ = some (.int .u64 (nLo rs[k].t1)) ∧ w.cell? ⟨b, k * 11 + 7, none⟩ = some (.int .u64 (nHi rs[k].t2)) ∧ w.cell? ⟨b, k * 11 + 8, none⟩ = some (.int .u64 (nLo rs[k].t2)) ∧
    w.cell? ⟨b, k * 11 + 9, none⟩ = some (.int .u64 (nHi rs[k].t3)) ∧ w.cell? ⟨b, k * 11 + 10, none⟩ = some (.int .u64 (nLo rs[k].t3)) := by
  refine ⟨c.cells k hk 0 (by omega), c.cells k hk 1 (by omega), c.cells k hk 2 (by omega), c.cells k hk 3 (by omega), c.cells k hk 4 (by omega), c.cells k hk 5 (by omega), c.cells k hk 6 (by omega), c.cells k hk 7 (by omega), c.cells k hk 8 (by omega), c.cells k hk 9 (by omega), c.cells k hk 10 (by omega)⟩

set_option maxHeartbeats 6400000 in
/-- Book.Text. -/
theorem bText_any (h : Sg.Hist) (aoA ao : Option Addr) (nA nP capA cap b : Nat) (rs : List Rec) (w : World) (hC : Closed w aoA nA nP h (.slice aoA nA capA) ao rs b) :
    Calls Try.prog 50 #[.agg #[.slice aoA nA capA, .slice ao nP cap]] w fun e w' => ∃ y, e = .returned (.string y) ∧ Hid (y = Sg.pkTo h (Sg.balances h) (Sg.totals h) nP) ∧ Below w.heap.size w w' := by
  obtain ⟨hn8, hn6, hn1⟩ := hC.nums
  have HC : Hid (Closed w aoA nA nP h (.slice aoA nA capA) ao rs b) := hC
  have hao := hC.bk.at_
  subst hao
  have hch := fun W (hb : Below w.heap.size w W) => bChart_any h.accs aoA nA capA (.slice (some ⟨b, 0, none⟩) nP cap) W hC.lenA hn8 (hC.accs.below hb) (fun a ha => (Sg.bnd_accs hC.inb a ha).1)
  have aB : Below w.heap.size w ((w.alloc (.cells #[.slice aoA nA capA, .slice (some ⟨b, 0, none⟩) nP cap] 93)).alloc (.cells #[.pointer none, .slice none 0 0] 121)) := ((Below.refl _ _).alloc (Nat.le_refl _) _).alloc (by simp) _
  have hB0 : Two ((w.alloc (.cells #[.slice aoA nA capA, .slice (some ⟨b, 0, none⟩) nP cap] 93)).alloc (.cells #[.pointer none, .slice none 0 0] 121)) w.heap.size (.slice aoA nA capA) (.slice (some ⟨b, 0, none⟩) nP cap) 93 := (Two.new w _ _ _).below ((Below.refl _ _).alloc (Nat.le_refl _) _)
  have ht0 : TB ((w.alloc (.cells #[.slice aoA nA capA, .slice (some ⟨b, 0, none⟩) nP cap] 93)).alloc (.cells #[.pointer none, .slice none 0 0] 121)) (w.heap.size + 1) ByteArray.empty := by
    have := TB.new (w.alloc (.cells #[.slice aoA nA capA, .slice (some ⟨b, 0, none⟩) nP cap] 93))
    have e : (w.alloc (.cells #[.slice aoA nA capA, .slice (some ⟨b, 0, none⟩) nP cap] 93)).heap.size = w.heap.size + 1 := by simp
    rw [e] at this
    exact this
  have HLP : Hid (h.pers.length = nP) := hC.lenP
  clear hC
  have hsg : ({ data := #[83, 73, 71, 78] } : ByteArray).size = 4 := rfl
  have hse : ByteArray.empty.size = 0 := rfl
  go_enter Try.func50, Try.ntmps50
  go_wp2_with fail
  go_region_held3 (fun w' => w'.cell? ⟨w.heap.size, 0, none⟩ = some (.slice aoA nA capA) ∧ w'.cell? ⟨w.heap.size, 1, none⟩ = some (.slice (some ⟨b, 0, none⟩) nP cap)) (first | assumption | exact hB0.cells | exact two_drew hB0.cells | exact two_drew (x := .slice aoA nA capA) (y := .slice (some ⟨b, 0, none⟩) nP cap) (by assumption))
    (first
      | (go_at_call 70; refine (one_txt (nP : Int) _).mono ?_; rintro e w4 ⟨y2, rfl, hy2, hys2, hb4⟩; have q3 := cat (({ data := #[83, 73, 71, 78] } : ByteArray) ++ y1) y2 (by rw [cat_size, hsg]; omega); have hT4 : Two w4 w.heap.size (.slice aoA nA capA) (.slice (some ⟨b, 0, none⟩) nP cap) 93 := (by first | exact hT3.below hb4 | exact hT3.drew.below hb4); have tb4 : TB w4 (w.heap.size + 1) ByteArray.empty := (by first | exact tb3.below hb4 | exact tb3.drew.below hb4); have hh4 := hT4.cells; have b4 : Below w.heap.size w w4 := (by first | exact b3.trans (hb4.mono b3.size) | exact b3.drew.trans (hb4.mono b3.size)))
      | (go_at_call 69; refine (hch _ (by first | exact aB | exact aB.drew)).mono ?_; rintro e w3 ⟨y1, rfl, hy1, hys1, hb3⟩; have q2 := cat ({ data := #[83, 73, 71, 78] } : ByteArray) y1 (by rw [hsg]; omega); have hT3 : Two w3 w.heap.size (.slice aoA nA capA) (.slice (some ⟨b, 0, none⟩) nP cap) 93 := Two.below (by first | exact hB0.drew | exact hB0) hb3; have tb3 : TB w3 (w.heap.size + 1) ByteArray.empty := TB.below (by first | exact ht0.drew | exact ht0) hb3; have hh3 := hT3.cells; have b3 : Below w.heap.size w w3 := (by first | exact aB.drew.trans (hb3.mono (by simp; omega)) | exact aB.trans (hb3.mono (by simp; omega))))
      | (go_at_call 68; refine (write_any (w.heap.size + 1) ByteArray.empty (({ data := #[83, 73, 71, 78] } : ByteArray) ++ y1 ++ y2) _ tb4 (by rw [cat_size, cat_size, hsg, hse]; omega)).mono ?_; rintro e w5 ⟨rfl, tb5, hb5, hk5⟩; have hT5 := hT4.kept hk5 (by omega) (by decide); have hh5 := hT5.cells; have b5 : Below w.heap.size w w5 := b4.trans (hb5.mono (by omega))))
  have HT0 : Hid (TB w5 (w.heap.size + 1) (Sg.pkTo h (Sg.balances h) (Sg.totals h) 0)) := by
    have e : ByteArray.empty ++ (({ data := #[83, 73, 71, 78] } : ByteArray) ++ y1 ++ y2) = Sg.pkTo h (Sg.balances h) (Sg.totals h) 0 := by
      unfold Sg.pkTo
      simp only [List.take_zero]
      rw [hy1.out, hy2.out, HLP.out]
      simp [Sg.persText, Sg.signT]
    rw [← e]
    exact tb5
  have hsz0 : (Sg.pkTo h (Sg.balances h) (Sg.totals h) 0).size ≤ 200 := by
    have e : Sg.pkTo h (Sg.balances h) (Sg.totals h) 0 = ({ data := #[83, 73, 71, 78] } : ByteArray) ++ y1 ++ y2 := by
      unfold Sg.pkTo
      simp only [List.take_zero]
      rw [hy1.out, hy2.out, HLP.out]
      simp [Sg.persText, Sg.signT]
    rw [e, cat_size, cat_size, hsg]
    omega
  have HZ0 : Hid ((Sg.pkTo h (Sg.balances h) (Sg.totals h) 0).size ≤ 200 + 3840 * 0) := by show _ ≤ _; omega
  obtain ⟨_, c1⟩ := hT5.cells
  clear hh3 hh4 hh5 hb3 hb4 hb5 hk5 tb3 tb4 tb5 hT3 hT4 hT5 q2 q3 b3 b4 aB hB0 ht0 hch hsz0 hy1 hy2
  go_wp2_with fail
  clear c1
  go_loopw [18] (fun i wr => ∃ k : Nat, k ≤ nP ∧ i = .int .i64 (k : Int) ∧ Hid (TB wr (w.heap.size + 1) (Sg.pkTo h (Sg.balances h) (Sg.totals h) k)) ∧ Hid ((Sg.pkTo h (Sg.balances h) (Sg.totals h) k).size ≤ 200 + 3840 * k) ∧ Below w.heap.size w wr) (fun i _ => nP - (intOf i).toNat)
  case atStart => exact ⟨0, by omega, rfl, HT0, HZ0, b5⟩
  case round =>
    obtain ⟨k, hk, rfl, HT, HZ, hbr⟩ := hrel
    obtain ⟨wz, ewz⟩ : ∃ z : World, z = wr := ⟨_, rfl⟩
    subst ewz
    have hsz := hbr.size
    have htl := HT.out.lt
    clear HT0 HZ0 b5
    by_cases hlt : k < nP
    · obtain ⟨h1, h2, h3, h4, aoE, ne, capE, g1, g2, hper⟩ := (HC.out.below hbr).per hlt
      obtain ⟨x0, x1, x2, x3, x4, x5, x6, x7, x8, x9, x10⟩ := (HC.out.below hbr).bk.eleven h4
      have hbz := (HC.out.below hbr).bk.lt
      have HS : Hid (Sg.pkTo h (Sg.balances h) (Sg.totals h) (k + 1) = Sg.pkTo h (Sg.balances h) (Sg.totals h) k ++ Sg.perB h.pers[k] rs[k].now [rs[k].t0, rs[k].t1, rs[k].t2, rs[k].t3]) := by
        show _ = _
        rw [Sg.pkTo_succ _ _ _ k h1 h2 h3, Sg.perText_eq, g1, g2]
      have hcall := fun W (hb : Below wz.heap.size wz W) => perText_any h.pers[k] rs[k].now rs[k].t0 rs[k].t1 rs[k].t2 rs[k].t3 aoA aoE nA capA ne capE rs[k].m 600 W hper.len hper.le12 (hper.ents.below hb) hper.ok hper.lenN hn8 hper.fitN (hper.bal.below hb) hper.fitT
      rw [hper.eV] at x1
      have hos := HZ.out
      have HPs : Hid (∀ y : ByteArray, y = Sg.perB h.pers[k] rs[k].now [rs[k].t0, rs[k].t1, rs[k].t2, rs[k].t3] → y.size ≤ 3840 → (Sg.pkTo h (Sg.balances h) (Sg.totals h) (k + 1)).size ≤ 200 + 3840 * (k + 1)) := fun y hy hys => by
        rw [HS.out, ← hy, cat_size]
        have := HZ.out
        omega
      generalize Sg.pkTo h (Sg.balances h) (Sg.totals h) k = oo at *
      generalize rs[k].m = m at *
      generalize rs[k].now = now at *
      generalize rs[k].t0 = t0 at *
      generalize rs[k].t1 = t1 at *
      generalize rs[k].t2 = t2 at *
      generalize rs[k].t3 = t3 at *
      have i1 : (0 : Int) ≤ (k : Int) := by omega
      have i2 : (k : Int) < (nP : Int) := by omega
      clear hper g1 g2
      go_wp2_with fail
      refine (hcall _ ((Below.refl _ _).alloc (Nat.le_refl _) _)).mono ?_
      rintro e w4 ⟨y, rfl, hy, hys, hb4⟩
      have b4 : Below wz.heap.size wz w4 := ((Below.refl _ _).alloc (Nat.le_refl _) _).trans (hb4.mono (by simp))
      go_wp2_with fail
      refine (write_any (w.heap.size + 1) oo y _ (HT.out.below b4) (by omega)).mono ?_
      rintro e w5 ⟨rfl, tb5, hb5, hk5⟩
      have HTn : Hid (TB w5 (w.heap.size + 1) (Sg.pkTo h (Sg.balances h) (Sg.totals h) (k + 1))) := by
        show TB _ _ _
        rw [HS.out, ← hy.out]
        exact tb5
      have HZn : Hid ((Sg.pkTo h (Sg.balances h) (Sg.totals h) (k + 1)).size ≤ 200 + 3840 * (k + 1)) := HPs.out y hy.out hys
      have hs4 := b4.size
      have hbe : Below w.heap.size w w5 := (hbr.trans (b4.mono hsz)).trans (hb5.mono (by omega))
      clear tb5 hb5 hk5 hb4 b4 HS HT HZ hos HPs hcall x0 x1 x2 x3 x4 x5 x6 x7 x8 x9 x10
      go_wp2_with fail
      go_roundw
      case rel => exact ⟨k + 1, by omega, by go_num, HTn, HZn, hbe⟩
      case measure => simp [intOf]; omega
    · have HE : Hid (Sg.pkTo h (Sg.balances h) (Sg.totals h) k = Sg.pkTo h (Sg.balances h) (Sg.totals h) nP) := by show _ = _; rw [show k = nP by omega]
      generalize Sg.pkTo h (Sg.balances h) (Sg.totals h) k = oo at *
      go_wp2_with fail
      refine (string_any _ _ _ HT.out).mono ?_
      rintro e w3 ⟨rfl, hb3⟩
      go_wp2_with fail
      go_ret
      exact ⟨_, rfl, HE, hbr.trans (hb3.mono (by omega))⟩
end Go.Proofs.Ytoadiibfmcjgaaa
