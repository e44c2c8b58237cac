/-
  WHAT Shown and Forged stand on (P9, P10): Prove and Look of what was sealed; what stands at the head of Shown's loops.
-/
import Derived.Test.YtpkkhkkkgjhkeabGreatOpenedSpec
import Derived.Test.YtpkkhkkkgjhkeabGreatProve
import Derived.Test.YtpkkhkkkgjhkeabGreatLookInto
import Derived.Test.YtpkkhkkkgjhkeabGreatShownSpec
namespace Go.Proofs.YtpkkhkkkgjhkeabGreat
open Go.RowKit
set_option maxRecDepth 100000
attribute [local go_sem ↓] Go.wp_at_zero Go.wp_at_succ

theorem Sg.bunOf_made {h : Sg.Hist} (m : Sg.MadeOk h) {i k : Nat} (hi : i < h.pers.length) (hk : k < 4) : (Sg.bunOf h i k).Fine := by
  have hc := m.sealed
  refine Sg.bunOf_fine (nA := h.accs.length) hi m.pers.2 hk m.accs.2 (fun p hp => ?_) (Sg.total_is hc hi hk).2
  obtain ⟨h1, h2⟩ := m.ents p hp
  refine ⟨h1, fun e he => ⟨(h2 e he).memo, by have := (h2 e he).few; omega, fun t ht => ?_⟩⟩
  have h3 := (h2 e he).accts t ht
  have h4 := (h2 e he).small t ht
  unfold Sg.acctOk at h3
  exact ⟨h3.1, h3.2, by unfold Sg.fits; rw [decide_eq_true_eq]; omega⟩
/-- audit.Prove of what was sealed. -/
theorem prove_made {h : Sg.Hist} (m : Sg.MadeOk h) (i k : Int) (w : World) (hik : -9223372036854775808 ≤ i ∧ i ≤ 9223372036854775807) :
    Calls Tryz.prog 9 #[.string (Sg.package h), .int .i64 i, .int .i64 k] w fun e w' => ∃ y, e = .returned (.tuple #[.string y, .int .i64 (if 0 ≤ i ∧ i < (h.pers.length : Int) ∧ 0 ≤ k ∧ k < 4 then 0 else 1)]) ∧ Hid (0 ≤ i ∧ i < (h.pers.length : Int) ∧ 0 ≤ k ∧ k < 4 → y = Sg.bunB (Sg.bunOf h i.toNat k.toNat)) ∧ Below w.heap.size w w' := by
  have hb := Sg.isPk_package m.sealed m.fits
  have hc := prove_any (Sg.package h) i k w hik
  rw [hb.1] at hc
  refine hc.mono ?_
  rintro e w' ⟨y, rfl, hy, hbl⟩
  have e1 : Sg.proveErr h (Sg.package h) i k = if 0 ≤ i ∧ i < (h.pers.length : Int) ∧ 0 ≤ k ∧ k < 4 then 0 else 1 := by unfold Sg.proveErr; rw [if_pos hb.2]
  refine ⟨y, by rw [e1], fun hok => ?_, hbl⟩
  rw [hy.out]
  unfold Sg.proveTxt
  rw [e1, if_pos hok, if_pos rfl]
/-- audit.Look of what was shown. -/
theorem look_made {h : Sg.Hist} (m : Sg.MadeOk h) {i k : Nat} (hi : i < h.pers.length) (hk : k < 4) (hd : ByteArray) (w : World) :
    Calls Tryz.prog 10 #[.string (Sg.bunB (Sg.bunOf h i k)), .string hd] w fun e w' => Below w.heap.size w w' ∧
      ((¬ Sg.headOf h = hd ∧ e = .returned (.tuple #[zLine, .int .i64 6])) ∨
       (Sg.headOf h = hd ∧ ∃ vD, e = .returned (.tuple #[.agg #[.int .i64 (i : Int), .int .i64 (k : Int), .int .i64 (Sg.bunOf h i k).total, vD], .int .i64 0]) ∧ OwnDrls w' w.heap.size vD (Sg.bunOf h i k).drls)) := by
  have hf := Sg.bunOf_made m hi hk
  have hl := Sg.lookErr_bun hf hd
  rw [Sg.lookOk_bunOf m.sealed hi hk hd] at hl
  have hr := (Sg.bunB_read hf).2
  refine (look_any (Sg.bunB (Sg.bunOf h i k)) hd w).mono ?_
  rintro e w' ⟨hb, ⟨hne, rfl⟩ | ⟨h0, vD, rfl, hO⟩⟩
  · refine ⟨hb, Or.inl ?_⟩
    by_cases c : Sg.headOf h = hd
    · rw [hl, if_pos (by simpa using c)] at hne
      exact absurd rfl hne
    · refine ⟨c, ?_⟩
      rw [hl, if_neg (by simpa using c)]
  · refine ⟨hb, Or.inr ?_⟩
    rw [hr] at hO ⊢
    by_cases c : Sg.headOf h = hd
    · exact ⟨c, vD, rfl, hO⟩
    · rw [hl, if_neg (by simpa using c)] at h0
      exact absurd h0 (by decide)

/-- What stands at the head of Shown's outer loop. -/
structure ShI (w wr : World) (g : Nat) (vA vP vE : Value) (bP o : Nat) (aoA aoE : Option Addr) (ac : List Sg.Acc) (es : List Sg.Ent) : Prop where
  box : Two wr g vA vP 26
  accs : AccsIn wr aoA ac
  per : wr.cell? ⟨bP, o, none⟩ = some vE
  lt : bP < wr.heap.size
  ents : EntsIn wr aoE es
  bel : Below w.heap.size w wr
theorem ShI.below {w wr w' : World} {g : Nat} {vA vP vE : Value} {bP o : Nat} {aoA aoE : Option Addr} {ac : List Sg.Acc} {es : List Sg.Ent} (h : ShI w wr g vA vP vE bP o aoA aoE ac es) (hb : Below wr.heap.size wr w') : ShI w w' g vA vP vE bP o aoA aoE ac es :=
  ⟨h.box.below hb, h.accs.below hb, (hb.cell (p := ⟨bP, o, none⟩) h.lt).trans h.per, Nat.lt_of_lt_of_le h.lt hb.size, h.ents.below hb, h.bel.trans (hb.mono h.bel.size)⟩
/-- .. and of the loops within: the line that was looked at lies there, too. -/
structure ShL (w wr : World) (g gL : Nat) (vA vP vE : Value) (bP o : Nat) (aoA aoE aoD : Option Addr) (nd capD : Nat) (ac : List Sg.Acc) (es : List Sg.Ent) (x0 x1 x2 : Value) (ds : List Sg.Drl) : Prop where
  hist : ShI w wr g vA vP vE bP o aoA aoE ac es
  line : Quad wr gL x0 x1 x2 (.slice aoD nd capD) 37
  drls : DrlsIn wr aoD ds
theorem ShL.drewN {w wr : World} {g gL : Nat} {vA vP vE : Value} {bP o : Nat} {aoA aoE aoD : Option Addr} {nd capD : Nat} {ac : List Sg.Acc} {es : List Sg.Ent} {x0 x1 x2 : Value} {ds : List Sg.Drl} (h : ShL w wr g gL vA vP vE bP o aoA aoE aoD nd capD ac es x0 x1 x2 ds) (m : Nat) : ShL w (wr.drewN m) g gL vA vP vE bP o aoA aoE aoD nd capD ac es x0 x1 x2 ds :=
  ⟨⟨h.hist.box, h.hist.accs, h.hist.per, h.hist.lt, h.hist.ents, below_drewN h.hist.bel m⟩, h.line, h.drls⟩
/-- audit.Look of what was shown, under any head: in one form. -/
theorem look_made2 {h : Sg.Hist} (m : Sg.MadeOk h) {i k : Nat} (hi : i < h.pers.length) (hk : k < 4) (hd : ByteArray) (w : World) :
    Calls Tryz.prog 10 #[.string (Sg.bunB (Sg.bunOf h i k)), .string hd] w fun e w' => Below w.heap.size w w' ∧ ∃ (x0 x1 x2 : Int) (ao : Option Addr) (n cp : Nat), e = .returned (.tuple #[.agg #[.int .i64 x0, .int .i64 x1, .int .i64 x2, .slice ao n cp], .int .i64 (if Sg.headOf h = hd then 0 else 6)]) := by
  refine (look_made m hi hk hd w).mono ?_
  rintro e w' ⟨hb, ⟨hne, rfl⟩ | ⟨h0, vD, rfl, hO⟩⟩
  · exact ⟨hb, 0, 0, 0, none, 0, 0, by rw [if_neg hne]⟩
  · obtain ⟨ao, cp, rfl, _⟩ := hO.shape
    exact ⟨hb, _, _, _, ao, _, cp, by rw [if_pos h0]⟩
namespace Sg
/-- The drills so far are the first ones. -/
theorem drTo_front (ac : List Acc) (line : Int) (es : List Ent) {i : Nat} (hi : i < es.length) (j : Nat) : ∃ r, drillsOf ac es line = drTo ac line es i j es[i].posts ++ r := by
  have e1 : es = es.take i ++ (es[i] :: es.drop (i + 1)) := by rw [← List.drop_eq_getElem_cons hi, List.take_append_drop]
  have e2 : es[i].posts = es[i].posts.take j ++ es[i].posts.drop j := (List.take_append_drop _ _).symm
  refine ⟨drillsIn ac line i (0 + (es[i].posts.take j).length) (es[i].posts.drop j) ++ drillsFrom ac line (i + 1) (es.drop (i + 1)), ?_⟩
  have hl : (es.take i).length = i := by rw [List.length_take]; omega
  have : drillsOf ac es line = drillsFrom ac line 0 (es.take i ++ (es[i] :: es.drop (i + 1))) := by rw [← e1]; rfl
  rw [this, drillsFrom_append, Nat.zero_add, hl, drillsFrom_cons]
  have h3 : drillsIn ac line i 0 es[i].posts = drillsIn ac line i 0 (es[i].posts.take j) ++ drillsIn ac line i (0 + (es[i].posts.take j).length) (es[i].posts.drop j) := by rw [← drillsIn_append, ← e2]
  rw [h3]
  unfold drTo
  simp only [List.append_assoc]
theorem drTo_at (ac : List Acc) (line : Int) (es : List Ent) {i : Nat} (hi : i < es.length) {j : Nat} (hj : j < es[i].posts.length) (hl : lineOf ac es[i].posts[j].acct = line) : (drillsOf ac es line)[(drTo ac line es i j es[i].posts).length]? = some ⟨i, j, es[i].posts[j].acct, es[i].posts[j].amt⟩ := by
  obtain ⟨r, hr⟩ := drTo_front ac line es hi (j + 1)
  rw [hr, drTo_succ ac line es i j _ hj, if_pos hl, List.append_assoc, List.getElem?_append_right (Nat.le_refl _), Nat.sub_self]
  rfl
theorem amtsD_bd (b : Int) (l : List Drl) (h : ∀ d ∈ l, -b ≤ d.amt ∧ d.amt ≤ b) : -(b * l.length) ≤ amtsD l ∧ amtsD l ≤ b * l.length := by
  induction l with
  | nil => unfold amtsD; simp
  | cons d l ih =>
    have ih' := ih (fun x hx => h x (List.mem_cons_of_mem _ hx))
    have hd := h d List.mem_cons_self
    rw [amtsD_cons, List.length_cons]
    have e : b * ((l.length + 1 : Nat) : Int) = b * (l.length : Int) + b := by rw [Int.natCast_add, Int.mul_add]; simp
    rw [e]
    omega
theorem drillsFrom_amt (P : Int → Prop) (ac : List Acc) (line : Int) : ∀ (es : List Ent) (i : Nat), (∀ e ∈ es, ∀ t ∈ e.posts, P t.amt) → ∀ d ∈ drillsFrom ac line i es, P d.amt
  | [], _, _ => by simp [drillsFrom]
  | e :: es, i, h => by
    have hin : ∀ (ps : List Pst) (j : Nat), (∀ t ∈ ps, P t.amt) → ∀ d ∈ drillsIn ac line i j ps, P d.amt := by
      intro ps
      induction ps with
      | nil => intro j _; simp [drillsIn]
      | cons p ps ih =>
        intro j hp d hd
        unfold drillsIn at hd
        have ih' := ih (j + 1) (fun t ht => hp t (List.mem_cons_of_mem _ ht))
        split at hd
        · rcases List.mem_cons.1 hd with rfl | hd
          · exact hp p List.mem_cons_self
          · exact ih' d hd
        · exact ih' d hd
    intro d hd
    rw [drillsFrom_cons] at hd
    rcases List.mem_append.1 hd with hd | hd
    · exact hin e.posts 0 (h e List.mem_cons_self) d hd
    · exact drillsFrom_amt P ac line es (i + 1) (fun e he => h e (List.mem_cons_of_mem _ he)) d hd
/-- What came to the lines so far. -/
def allTo (ac : List Acc) (es : List Ent) : Nat → Int
  | 0 => 0
  | r + 1 => allTo ac es r + amtsD (drillsOf ac es (r : Int))
end Sg
end Go.Proofs.YtpkkhkkkgjhkeabGreat
