import Derived.Test.YtpkkhkkkgjhkeaaGreatSameEnts
import Derived.Laws.MakeOwn
import Derived.Test.YtpkkhkkkgjhkeaaGreatMadeSpec
import Derived.Deep.CutRange
import Derived.Test.YtpkkhkkkgjhkeaaGreatCloseWalk
import Derived.Test.YtpkkhkkkgjhkeaaGreatOpen
import Derived.Deep.Slices
/-
  THE WALK of signetlaw.asItWas.
-/
namespace Go.Proofs.YtpkkhkkkgjhkeaaGreat
open Go.RowKit
set_option maxRecDepth 100000
attribute [local go_sem ↓] Go.wp_at_zero Go.wp_at_succ

/-- What lies behind a list of postings that is handed in. -/
def spareP : List Sg.Pst := [⟨77, 0⟩, ⟨77, 0⟩]
/-- The lists of postings that are kept, each with its spare room. -/
def MsAt (w : World) (b off : Nat) (es : List Sg.Ent) : Prop := ∀ i (h : i < es.length), ∃ ao cap, w.cell? ⟨b, off + i, none⟩ = some (.slice ao (es[i].posts.length + 2) cap) ∧ PstsIn w ao (es[i].posts ++ spareP)
def MsIn (w : World) (ao : Option Addr) (es : List Sg.Ent) : Prop := es.length = 0 ∨ ∃ b off, ao = some ⟨b, off, none⟩ ∧ b < w.heap.size ∧ MsAt w b off es
theorem MsIn.below {w w' : World} {ao : Option Addr} {es : List Sg.Ent} (h : MsIn w ao es) (hb : Below w.heap.size w w') : MsIn w' ao es := by
  rcases h with h0 | ⟨b, off, e, hbw, hat⟩
  · exact Or.inl h0
  · refine Or.inr ⟨b, off, e, Nat.lt_of_lt_of_le hbw hb.size, fun i hi => ?_⟩
    rw [hb.cell (p := ⟨b, off + i, none⟩) hbw]
    obtain ⟨ao', cap', h2, h3⟩ := hat i hi
    exact ⟨ao', cap', h2, h3.below hb⟩
theorem MsIn.cell {w : World} {ao : Option Addr} {es : List Sg.Ent} (h : MsIn w ao es) {k : Nat} (hk : k < es.length) : ∃ b off, ao = some ⟨b, off, none⟩ ∧ b < w.heap.size ∧ ∃ ao' cap', w.cell? ⟨b, off + k, none⟩ = some (.slice ao' (es[k].posts.length + 2) cap') ∧ PstsIn w ao' (es[k].posts ++ spareP) := by
  rcases h with h0 | ⟨b, off, e, hbw, hat⟩
  · omega
  · exact ⟨b, off, e, hbw, hat k hk⟩

/-- 'beyond'. -/
abbrev beyondT : ByteArray := { data := #[98, 101, 121, 111, 110, 100] }
/-- What stands behind the entries that are handed in. -/
structure Behind (w : World) (g n : Nat) : Prop where
  m0 : w.cell? ⟨g, n * 2, none⟩ = some (.string beyondT)
  p0 : w.cell? ⟨g, n * 2 + 1, none⟩ = some (.slice none 0 0)
  m1 : w.cell? ⟨g, (n + 1) * 2, none⟩ = some (.string beyondT)
  p1 : w.cell? ⟨g, (n + 1) * 2 + 1, none⟩ = some (.slice none 0 0)

/-- The boxes that asItWas makes first. -/
def asBox (w : World) (a b c : Value) : World := (w.alloc (.cells #[a, b] 27)).alloc (.cells #[c] 24)
theorem asBox_below (w : World) (a b c : Value) : Below w.heap.size w (asBox w a b c) := ((Below.refl _ _).alloc (Nat.le_refl _) _).alloc (by simp) _
/-- What a world behind them has. -/
structure AsAt (w w' : World) (a b c : Value) : Prop where
  bel : Below (w.heap.size + 2) (asBox w a b c) w'
theorem AsAt.facts {w w' : World} {a b c : Value} (h : AsAt w w' a b c) : w'.cell? ⟨w.heap.size, 0, none⟩ = some a ∧ w'.cell? ⟨w.heap.size, 1, none⟩ = some b ∧ w'.cell? ⟨w.heap.size + 1, 0, none⟩ = some c ∧ Below w.heap.size w w' := by
  refine ⟨?_, ?_, ?_, (asBox_below w a b c).trans (h.bel.mono (by omega))⟩
  · rw [h.bel.cell (p := ⟨w.heap.size, 0, none⟩) (by simp)]; unfold asBox; rw [World.cell?_alloc_past _ _ _ (by simp)]; simp
  · rw [h.bel.cell (p := ⟨w.heap.size, 1, none⟩) (by simp)]; unfold asBox; rw [World.cell?_alloc_past _ _ _ (by simp)]; simp
  · rw [h.bel.cell (p := ⟨w.heap.size + 1, 0, none⟩) (by simp)]; unfold asBox; simp
theorem AsAt.next {w w' w'' : World} {a b c : Value} (h : AsAt w w' a b c) (hb : Below w'.heap.size w' w'') : AsAt w w'' a b c :=
  ⟨h.bel.trans (hb.mono (by have := h.bel.size; unfold asBox at this; simp at this; omega))⟩
theorem AsAt.drewN {w w' : World} {a b c : Value} (h : AsAt w w' a b c) (q : Nat) : AsAt w (w'.drewN q) a b c := ⟨below_drewN h.bel q⟩

set_option maxHeartbeats 3200000 in
/-- signetlaw.asItWas of what is as it was. -/
theorem asItWas_any (es : List Sg.Ent) (g cap : Nat) (aoM ao : Option Addr) (n capM capP : Nat) (w : World) (hn : es.length = n) (hmax : n ≤ 70368744177664) (hcap : n + 2 ≤ cap) (hgw : g < w.heap.size) (h1 : EntsIn w (some ⟨g, 0, none⟩) es) (hB : Behind w g n) (hM : MsIn w aoM es) (h2 : EntsIn w ao es) (hp : ∀ e ∈ es, e.posts.length ≤ 70368744177664) :
    Calls Tryz.prog 11 #[.agg #[.slice (some ⟨g, 0, none⟩) (n + 2) cap, .slice aoM n capM], .agg #[.slice ao n capP]] w fun e w' => e = .returned (.bool true) ∧ Below w.heap.size w w' := by
  have HN : Hid (es.length = n) := hn
  have HP : Hid (∀ e ∈ es, e.posts.length ≤ 70368744177664) := hp
  clear hn hp
  go_enter Tryz.func11, Tryz.ntmps11
  go_wp2_with fail
  have HA0 : AsAt w (asBox w (.slice (some ⟨g, 0, none⟩) (n + 2) cap) (.slice aoM n capM) (.slice ao n capP)) (.slice (some ⟨g, 0, none⟩) (n + 2) cap) (.slice aoM n capM) (.slice ao n capP) := ⟨Below.refl _ _⟩
  have HA1 : AsAt w (asBox w (.slice (some ⟨g, 0, none⟩) (n + 2) cap) (.slice aoM n capM) (.slice ao n capP)).drew (.slice (some ⟨g, 0, none⟩) (n + 2) cap) (.slice aoM n capM) (.slice ao n capP) := ⟨(Below.refl _ _).drew⟩
  have f0 := HA0.facts.2.2.1
  have f1 := HA1.facts.2.2.1
  have j0 : (0 : Int) ≤ (n : Int) := by omega
  have j1 : (n : Int) ≤ (cap : Int) := by omega
  go_region_held3 (fun w' => w'.cell? ⟨w.heap.size + 1, 0, none⟩ = some (.slice ao n capP))
    (first | assumption)
    (first
      | (go_at_call 24; refine (sameEnts_any es (some ⟨g, 0, none⟩) ao n _ capP _ HN.out (by omega) (h1.below HA1.facts.2.2.2) (h2.below HA1.facts.2.2.2) (fun e he => Nat.le_trans (HP.out e he) (by omega))).mono ?_; rintro e w1 ⟨rfl, hb1⟩; have HA2 := HA1.next hb1; have f2 := HA2.facts.2.2.1))
  have hbw := HA2.facts.2.2.2
  have m0 := (hbw.cell (p := ⟨g, n * 2, none⟩) hgw).trans hB.m0
  have p0 := (hbw.cell (p := ⟨g, n * 2 + 1, none⟩) hgw).trans hB.p0
  have m1 := (hbw.cell (p := ⟨g, (n + 1) * 2, none⟩) hgw).trans hB.m1
  have p1 := (hbw.cell (p := ⟨g, (n + 1) * 2 + 1, none⟩) hgw).trans hB.p1
  have j2 : (n : Int) < ((n + 2 : Nat) : Int) := by omega
  have j3 : ((n + 1 : Nat) : Int) < ((n + 2 : Nat) : Int) := by omega
  have j4 : (0 : Int) ≤ ((n + 1 : Nat) : Int) := by omega
  clear f0 f1 f2 hb1 HA0 HA1 hB h1
  go_wp2_with fail
  clear m0 p0 m1 p1 hbw
  go_loopw [8] (fun i wr => ∃ k : Nat, k ≤ n ∧ i = .int .i64 (k : Int) ∧ AsAt w wr (.slice (some ⟨g, 0, none⟩) (n + 2) cap) (.slice aoM n capM) (.slice ao n capP)) (fun i _ => n - (intOf i).toNat)
  case atStart => exact ⟨0, by omega, rfl, HA2⟩
  case round =>
    obtain ⟨k, hk, rfl, hat⟩ := hrel
    obtain ⟨a0, a1, a2, hbe⟩ := hat.facts
    by_cases hlt : k < n
    · have hka : k < es.length := by rw [HN.out]; exact hlt
      obtain ⟨b2, off2, e2, hb2, hm2, aq2, cq2, hc2, hp2⟩ := h2.cell (k := k) hka
      obtain ⟨bM, offM, eM, hbM, aoX, capX, hcM, hpM⟩ := hM.cell (k := k) hka
      subst e2
      subst eM
      have hlp := HP.out es[k] (List.getElem_mem _)
      generalize es[k].posts = pp at *
      obtain ⟨np, hnp⟩ : ∃ np, pp.length = np := ⟨_, rfl⟩
      rw [hnp] at hc2 hcM hlp
      have HNP : Hid (pp.length = np) := hnp
      have hc2' := (hbe.cell (p := ⟨b2, off2 + k * 2 + 1, none⟩) hb2).trans hc2
      have hcM' := (hbe.cell (p := ⟨bM, offM + k, none⟩) hbM).trans hcM
      obtain ⟨x, o, eX, hx, hs0, hs1⟩ := hpM.cell (k := np) (by rw [List.length_append, hnp]; show np < np + 2; omega)
      obtain ⟨_, _, eX', _, ht0, ht1⟩ := hpM.cell (k := np + 1) (by rw [List.length_append, hnp]; show np + 1 < np + 2; omega)
      subst eX
      simp only [Option.some.injEq, Addr.mk.injEq, and_true] at eX'
      obtain ⟨rfl, rfl⟩ := eX'
      have q0 : (pp ++ spareP)[np]'(by rw [List.length_append, hnp]; show np < np + 2; omega) = ⟨77, 0⟩ := by subst hnp; simp [spareP]
      have q1 : (pp ++ spareP)[np + 1]'(by rw [List.length_append, hnp]; show np + 1 < np + 2; omega) = ⟨77, 0⟩ := by subst hnp; simp [spareP]
      rw [q0] at hs0 hs1
      rw [q1] at ht0 ht1
      simp only at hs0 hs1 ht0 ht1
      have hs0' := (hbe.cell (p := ⟨x, o + np * 2, none⟩) hx).trans hs0
      have hs1' := (hbe.cell (p := ⟨x, o + np * 2 + 1, none⟩) hx).trans hs1
      have ht0' := (hbe.cell (p := ⟨x, o + (np + 1) * 2, none⟩) hx).trans ht0
      have ht1' := (hbe.cell (p := ⟨x, o + (np + 1) * 2 + 1, none⟩) hx).trans ht1
      have i1 : (0 : Int) ≤ (k : Int) := by omega
      have i2 : (k : Int) < (n : Int) := by omega
      have i3 : (0 : Int) ≤ (np : Int) := by omega
      have i4 : (np : Int) < ((np + 2 : Nat) : Int) := by omega
      have i5 : ((np + 1 : Nat) : Int) < ((np + 2 : Nat) : Int) := by omega
      have i6 : (0 : Int) ≤ ((np + 1 : Nat) : Int) := by omega
      clear hnp q0 q1 hs0 hs1 ht0 ht1 hm2
      go_wp2_with fail
      go_loopw [11] (fun i wr => ∃ q : Nat, q ≤ np ∧ i = .int .i64 (q : Int) ∧ AsAt w wr (.slice (some ⟨g, 0, none⟩) (n + 2) cap) (.slice (some ⟨bM, offM, none⟩) n capM) (.slice (some ⟨b2, off2, none⟩) n capP)) (fun i _ => np - (intOf i).toNat)
      case atStart => exact ⟨0, by omega, rfl, hat⟩
      case round =>
        obtain ⟨q, hq, rfl, hau⟩ := hrel
        obtain ⟨d0, d1, d2, hbf⟩ := hau.facts
        have hd2 := (hbf.cell (p := ⟨b2, off2 + k * 2 + 1, none⟩) hb2).trans hc2
        by_cases hlq : q < np
        · have hqa : q < pp.length := by rw [HNP.out]; exact hlq
          obtain ⟨x2, o2, e2, _, ha2, hn2⟩ := (hp2.below hbf).cell (k := q) hqa
          obtain ⟨x3, o3, e3, _, ha3, hn3⟩ := (hpM.below hbf).cell (k := q) (by rw [List.length_append]; omega)
          simp only [Option.some.injEq, Addr.mk.injEq, and_true] at e3
          obtain ⟨rfl, rfl⟩ := e3
          subst e2
          rw [List.getElem_append_left hqa] at ha3 hn3
          generalize pp[q].acct = a at *
          generalize pp[q].amt = m at *
          have i7 : (0 : Int) ≤ (q : Int) := by omega
          have i8 : (q : Int) < (np : Int) := by omega
          have i9 : (q : Int) < ((np + 2 : Nat) : Int) := by omega
          clear hs0' hs1' ht0' ht1' hc2' hcM' hpM hp2
          go_wp2_with fail
          go_quiet (fail)
          go_wp2_with fail
          go_roundw
          case rel => exact ⟨q + 1, by omega, by go_num, hau.drewN _⟩
          case measure => simp [intOf]; omega
        · go_wp2_with fail
          go_roundw
          case rel => exact ⟨k + 1, by omega, by go_num, hau⟩
          case measure => simp [intOf]; omega
    · go_wp2_with fail
      go_ret
      exact ⟨rfl, hbe⟩
end Go.Proofs.YtpkkhkkkgjhkeaaGreat

/-
  WHAT signetlaw.spare makes: copies with room behind.
-/
namespace Go.Proofs.YtpkkhkkkgjhkeaaGreat
open Go.RowKit
set_option maxRecDepth 100000

/-- A copy of elements of two cells each. -/
theorem run_copy_two {P : Program} (w : World) (dT sT ty elem : TypeId) (g dLen dCap : Nat) (a : Addr) (sLen sCap : Nat) (cur : Array Value) (t : TypeId) (cs : List Value)
    (hu : P.underlying dT = some (.slice elem)) (hs : (P.info? elem).map (·.size) = some 2)
    (hg : w.heap[g]? = some (.cells cur t (0, 0))) (hn : cs.length = Nat.min sLen dLen * 2)
    (hsrc : ∀ j v, cs[j]? = some v → w.cell? (a.add j) = some v) (hfit : cs.length ≤ cur.size) (h1 : ∀ v ∈ cs, v.oneCell' = true) :
    (Builtin.copy_ #[dT, sT] ty #[.slice (some ⟨g, 0, none⟩) dLen dCap, .slice (some a) sLen sCap]).run P w =
      .ok (goInt (Nat.min sLen dLen)) (w.setRow g (cs ++ cur.toList.drop cs.length).toArray) := by
  have hl := run_loadCells_list (P := P) w a cs hsrc
  have hst := run_storeCells_at P g 0 t cs 0 cur w hg (by simpa using hfit) h1
  cases hq : P.info? elem with
  | none => simp [hq] at hs
  | some i =>
    have hi : i.size = 2 := by simpa [hq] using hs
    simp [Builtin.copy_, run_underlying hu, Builtin.lenOf, Builtin.firstCells, sizeOf, typeInfo, hq, hi, ← hn, hl]
    have hst' : (storeCells ⟨g, 0, none⟩ cs).run P w = .ok () (w.setRow g (cs ++ cur.toList.drop cs.length).toArray) := by simpa using hst
    rw [hst']
    rfl
theorem run_copy_two_none {P : Program} (w : World) (dT sT ty elem : TypeId) (d a : Option Addr) (dLen dCap sLen sCap : Nat) (hu : P.underlying dT = some (.slice elem)) (hs : (P.info? elem).map (·.size) = some 2) (hn : Nat.min sLen dLen = 0) :
    (Builtin.copy_ #[dT, sT] ty #[.slice d dLen dCap, .slice a sLen sCap]).run P w = .ok (goInt 0) w := by
  cases hq : P.info? elem with
  | none => simp [hq] at hs
  | some i =>
    have hl : ∀ (x : Addr), (loadCells x 0).run P w = .ok #[] w := fun x => by simpa using run_loadCells_list (P := P) w x [] (by simp)
    cases d <;> cases a <;> simp [Builtin.copy_, run_underlying hu, Builtin.lenOf, Builtin.firstCells, sizeOf, typeInfo, hq, hn, storeCells, hl]

/-- The cells of postings. -/
def pstCells (l : List Sg.Pst) : List Value := l.flatMap fun p => [.int .i64 p.acct, .int .i64 p.amt]
theorem pstCells_length : ∀ l, (pstCells l).length = l.length * 2
  | [] => rfl
  | p :: l => by
    show ([Value.int .i64 p.acct, .int .i64 p.amt] ++ pstCells l).length = _
    rw [List.length_append, pstCells_length l]; simp; omega
theorem pstCells_append (l m : List Sg.Pst) : pstCells (l ++ m) = pstCells l ++ pstCells m := by unfold pstCells; rw [List.flatMap_append]
theorem pstCells_get : ∀ (l : List Sg.Pst) (i : Nat) (h : i < l.length), (pstCells l)[i * 2]? = some (.int .i64 l[i].acct) ∧ (pstCells l)[i * 2 + 1]? = some (.int .i64 l[i].amt)
  | p :: l, 0, _ => ⟨rfl, rfl⟩
  | p :: l, i + 1, h => by
    have ih := pstCells_get l i (by simpa using h)
    have e : pstCells (p :: l) = Value.int .i64 p.acct :: .int .i64 p.amt :: pstCells l := rfl
    rw [e, show (i + 1) * 2 = i * 2 + 1 + 1 by omega, show i * 2 + 1 + 1 + 1 = (i * 2 + 1) + 1 + 1 by omega]
    simp only [List.getElem?_cons_succ, List.getElem_cons_succ]
    exact ih
theorem psts_block {w : World} {g : Nat} {l : List Sg.Pst} {t : TypeId} (h : w.heap[g]? = some (.cells (pstCells l).toArray t (0, 0))) : PstsIn w (some ⟨g, 0, none⟩) l := by
  refine Or.inr ⟨g, 0, rfl, lt_of_block h, fun i hi => ?_⟩
  have := pstCells_get l i hi
  constructor
  · rw [Nat.zero_add, cell_of_row w g _ _ _ _ h]; simpa using this.1
  · rw [Nat.zero_add, cell_of_row w g _ _ _ _ h]; simpa using this.2
theorem pstCells_one (l : List Sg.Pst) : ∀ c ∈ pstCells l, c.oneCell' = true := by
  intro c hc
  unfold pstCells at hc
  simp only [List.mem_flatMap, List.mem_cons, List.not_mem_nil, or_false] at hc
  obtain ⟨p, _, rfl | rfl⟩ := hc <;> rfl
theorem Tryz.sizePst : (Tryz.prog.info? 57).map (·.size) = some 2 := by kernel_rfl
theorem Tryz.infoPst : (Tryz.prog.info? 57).map (fun i => (i.zero, i.size, i.bytes)) = some (some (.agg #[.int .i64 0, .int .i64 0]), 2, 16) := by kernel_rfl
/-- The cells that make gives. -/
theorem made_psts (n : Nat) : (madeCells #[Value.int .i64 0, Value.int .i64 0] (n * 2)).toList = pstCells (List.replicate n ⟨0, 0⟩) := by
  rw [made_wides]
  induction n with
  | zero => rfl
  | succ n ih =>
    rw [List.replicate_succ, List.replicate_succ]
    show [Value.int .i64 (wHi 0), .int .i64 (wLo 0)] ++ wideCells (List.replicate n 0) = [Value.int .i64 0, .int .i64 0] ++ pstCells (List.replicate n ⟨0, 0⟩)
    rw [ih]
    rfl
/-- Postings are copied into a list that was made, with two places behind. -/
theorem copy_psts (pp : List Sg.Pst) (ao : Option Addr) (n cap g B : Nat) (w0 w : World) (hn : pp.length = n) (hp : PstsIn w ao pp) (hg : w.heap[g]? = some (.cells (pstCells (List.replicate (n + 2) ⟨0, 0⟩)).toArray 57 (0, 0))) (hb : Below B w0 w) (hB : B ≤ g) :
    ∃ w2, (Builtin.copy_ #[53, 53] 3 #[.slice (some ⟨g, 0, none⟩) (n + 2) (n + 2), .slice ao n cap]).run Tryz.prog w = .ok (.int .i64 (n : Int)) w2 ∧
      w2.heap[g]? = some (.cells (pstCells (pp ++ [⟨0, 0⟩, ⟨0, 0⟩])).toArray 57 (0, 0)) ∧ Below B w0 w2 ∧ w.grownBy w2 (some g) := by
  by_cases h0 : n = 0
  · subst h0
    have e : pp = [] := List.eq_nil_of_length_eq_zero hn
    subst e
    exact ⟨w, run_copy_two_none (P := Tryz.prog) w _ _ _ 57 _ _ _ _ _ _ Tryz.underlying53 Tryz.sizePst (by simp), hg, hb, World.grownBy.refl _ _⟩
  · rcases hp with h | ⟨b, off, rfl, _, hat⟩
    · omega
    · have hmin : Nat.min n (n + 2) = n := Nat.min_eq_left (by omega)
      have hl : (pstCells pp).length = n * 2 := by rw [pstCells_length, hn]
      have hrun := run_copy_two (P := Tryz.prog) w 53 53 3 57 g (n + 2) (n + 2) ⟨b, off, none⟩ n cap (pstCells (List.replicate (n + 2) ⟨0, 0⟩)).toArray 57 (pstCells pp) Tryz.underlying53 Tryz.sizePst hg (by rw [hmin, hl]) (fun j v hj => by
        have hj' : j < n * 2 := by
          by_cases h : j < n * 2
          · exact h
          · rw [List.getElem?_eq_none (by omega)] at hj; simp at hj
        have ea : Addr.add ⟨b, off, none⟩ j = ⟨b, off + j, none⟩ := by cases j <;> simp [Addr.add]
        rw [ea]
        have hh : j / 2 < pp.length := by omega
        have h2 := hat (j / 2) hh
        have h3 := pstCells_get pp (j / 2) hh
        have e : j = j / 2 * 2 ∨ j = j / 2 * 2 + 1 := by omega
        rcases e with e | e
        · rw [e] at hj ⊢
          rw [h3.1] at hj
          rw [h2.1]; exact hj
        · rw [e] at hj ⊢
          rw [h3.2] at hj
          rw [← Nat.add_assoc, h2.2]; exact hj) (by rw [hl]; simp [pstCells_length]; omega) (pstCells_one pp)
      rw [hmin, hl] at hrun
      have hgr : w.grownBy (w.setRow g (pstCells pp ++ (pstCells (List.replicate (n + 2) ⟨0, 0⟩)).toArray.toList.drop (n * 2)).toArray) (some g) :=
        ⟨rfl, rfl, rfl, by simp [World.setRow], fun k _ hk => by simp at hk; simp [World.setRow, Array.getElem?_modify, Ne.symm hk]⟩
      refine ⟨_, hrun, ?_, hb.grown hgr (by have := lt_of_block hg; omega) (fun k hk => by simp at hk; omega), hgr⟩
      rw [setRow_heap w g _ _ _ _ hg]
      · have e : (List.replicate (n + 2) (⟨0, 0⟩ : Sg.Pst)) = List.replicate n ⟨0, 0⟩ ++ [⟨0, 0⟩, ⟨0, 0⟩] := by
          rw [List.replicate_succ', List.replicate_succ', List.append_assoc]; rfl
        have e2 : (pstCells (List.replicate (n + 2) ⟨0, 0⟩)).drop (n * 2) = pstCells [⟨0, 0⟩, ⟨0, 0⟩] := by
          rw [e, pstCells_append]
          exact List.drop_left' (by rw [pstCells_length]; simp)
        rw [pstCells_append]
        simp [e2]
end Go.Proofs.YtpkkhkkkgjhkeaaGreat

/-
  WHAT STANDS at the head of signetlaw.spare's loop: the list of entries that is made, by its cells.
-/
namespace Go.Proofs.YtpkkhkkkgjhkeaaGreat
open Go.RowKit
set_option maxRecDepth 100000

/-- The entries that were laid so far; behind them there is nothing yet. -/
def LRow (w : World) (g n k : Nat) (es : List Sg.Ent) (ls : List Value) : Prop := ∃ cur : Array Value, w.heap[g]? = some (.cells cur 55 (0, 0)) ∧ cur.size = (n + 2) * 2 ∧ (∀ i (h : i < es.length), i < k → cur[i * 2]? = some (.string es[i].memo) ∧ cur[i * 2 + 1]? = ls[i]?) ∧ ∀ i, k ≤ i → i < n + 2 → cur[i * 2]? = some (.string ByteArray.empty) ∧ cur[i * 2 + 1]? = some (.slice none 0 0)
theorem made_pair (a b : Value) (m i : Nat) (h : i < m) : (madeCells #[a, b] (m * 2))[i * 2]? = some a ∧ (madeCells #[a, b] (m * 2))[i * 2 + 1]? = some b := by
  unfold madeCells
  refine ⟨?_, ?_⟩
  · rw [Array.getElem?_map, Array.getElem?_range, if_pos (by omega)]
    simp
  · rw [Array.getElem?_map, Array.getElem?_range, if_pos (by omega)]
    have : (i * 2 + 1) % 2 = 1 := by omega
    simp [this]
theorem LRow.make (w : World) (n : Nat) (es : List Sg.Ent) : LRow (w.alloc (.cells (madeCells #[.string ByteArray.empty, .slice none 0 0] ((n + 2) * 2)) 55)) w.heap.size n 0 es [] :=
  ⟨_, heap_alloc_new w _, size_madeCells _ _, fun i _ h0 => absurd h0 (by omega), fun i _ h => made_pair _ _ _ i h⟩
theorem LRow.block {w w' : World} {g n k : Nat} {es : List Sg.Ent} {ls : List Value} (h : LRow w g n k es ls) (hb : w'.heap[g]? = w.heap[g]?) : LRow w' g n k es ls := by
  obtain ⟨cur, a, b⟩ := h
  exact ⟨cur, hb.trans a, b⟩
theorem LRow.lt {w : World} {g n k : Nat} {es : List Sg.Ent} {ls : List Value} (h : LRow w g n k es ls) : g < w.heap.size := by
  obtain ⟨cur, a, _⟩ := h
  exact lt_of_block a
theorem LRow.cells {w : World} {g n k i : Nat} {es : List Sg.Ent} {ls : List Value} (h : LRow w g n k es ls) (h1 : k ≤ i) (h2 : i < n + 2) : w.cell? ⟨g, i * 2, none⟩ = some (.string ByteArray.empty) ∧ w.cell? ⟨g, i * 2 + 1, none⟩ = some (.slice none 0 0) ∧ w.frozen? ⟨g, i * 2, none⟩ = false ∧ w.frozen? ⟨g, i * 2 + 1, none⟩ = false := by
  obtain ⟨cur, a, _, _, d⟩ := h
  obtain ⟨d1, d2⟩ := d i h1 h2
  refine ⟨?_, ?_, ?_, ?_⟩
  · rw [cell_of_row w _ _ _ _ _ a]; exact d1
  · rw [cell_of_row w _ _ _ _ _ a]; exact d2
  · simp [World.frozen?, a]
  · simp [World.frozen?, a]
/-- An entry more. -/
theorem LRow.put {w : World} {g n k : Nat} {es : List Sg.Ent} {ls : List Value} {v : Value} (h : LRow w g n k es ls) (hk : k < es.length) (hn : es.length = n) (hls : ls.length = k) : LRow ((w.setCell ⟨g, k * 2, none⟩ (.string es[k].memo)).setCell ⟨g, k * 2 + 1, none⟩ v) g n (k + 1) es (ls ++ [v]) := by
  obtain ⟨cur, a, b, c, d⟩ := h
  have h1 := heap_setCell_same w g (k * 2) cur _ (.string es[k].memo) a
  have h2 := heap_setCell_same _ g (k * 2 + 1) _ _ v h1
  refine ⟨_, h2, by simpa using b, fun i hi hik => ?_, fun i h3 h4 => ?_⟩
  · by_cases e : i = k
    · subst e
      refine ⟨?_, ?_⟩
      · rw [Array.getElem?_setIfInBounds_ne (by omega), Array.getElem?_setIfInBounds_self_of_lt (by omega)]
      · rw [Array.getElem?_setIfInBounds_self_of_lt (by simp; omega), List.getElem?_append_right (by omega), hls, Nat.sub_self]
        rfl
    · obtain ⟨c1, c2⟩ := c i hi (by omega)
      refine ⟨?_, ?_⟩
      · rw [Array.getElem?_setIfInBounds_ne (by omega), Array.getElem?_setIfInBounds_ne (by omega)]; exact c1
      · rw [Array.getElem?_setIfInBounds_ne (by omega), Array.getElem?_setIfInBounds_ne (by omega), List.getElem?_append_left (by omega)]; exact c2
  · obtain ⟨d1, d2⟩ := d i (by omega) h4
    refine ⟨?_, ?_⟩
    · rw [Array.getElem?_setIfInBounds_ne (by omega), Array.getElem?_setIfInBounds_ne (by omega)]; exact d1
    · rw [Array.getElem?_setIfInBounds_ne (by omega), Array.getElem?_setIfInBounds_ne (by omega)]; exact d2
/-- The last entry's list stays nil. -/
theorem LRow.last {w : World} {g n k : Nat} {es : List Sg.Ent} {ls : List Value} {v u : Value} (h : LRow w g n (k + 1) es (ls ++ [v])) (hk : k < es.length) (hn : es.length = n) (hls : ls.length = k) : LRow (w.setCell ⟨g, k * 2 + 1, none⟩ u) g n (k + 1) es (ls ++ [u]) := by
  obtain ⟨cur, a, b, c, d⟩ := h
  have h1 := heap_setCell_same w g (k * 2 + 1) cur _ u a
  refine ⟨_, h1, by simpa using b, fun i hi hik => ?_, fun i h3 h4 => ?_⟩
  · obtain ⟨c1, c2⟩ := c i hi hik
    refine ⟨by rw [Array.getElem?_setIfInBounds_ne (by omega)]; exact c1, ?_⟩
    by_cases e : i = k
    · subst e
      rw [Array.getElem?_setIfInBounds_self_of_lt (by omega), List.getElem?_append_right (by omega), hls, Nat.sub_self]
      rfl
    · rw [Array.getElem?_setIfInBounds_ne (by omega), c2, List.getElem?_append_left (by omega), List.getElem?_append_left (by omega)]
  · obtain ⟨d1, d2⟩ := d i h3 h4
    exact ⟨by rw [Array.getElem?_setIfInBounds_ne (by omega)]; exact d1, by rw [Array.getElem?_setIfInBounds_ne (by omega)]; exact d2⟩
/-- Both places behind are marked: the entries, and what stands behind them. -/
theorem LRow.done {w : World} {g n : Nat} {es : List Sg.Ent} {ls : List Value} (h : LRow w g n n es ls) (hn : es.length = n) : LRow w g n n es ls ∧ Behind ((w.setCell ⟨g, n * 2, none⟩ (.string beyondT)).setCell ⟨g, (n + 1) * 2, none⟩ (.string beyondT)) g n ∧ (∀ i (hi : i < es.length), ((w.setCell ⟨g, n * 2, none⟩ (.string beyondT)).setCell ⟨g, (n + 1) * 2, none⟩ (.string beyondT)).cell? ⟨g, i * 2, none⟩ = some (.string es[i].memo) ∧ ((w.setCell ⟨g, n * 2, none⟩ (.string beyondT)).setCell ⟨g, (n + 1) * 2, none⟩ (.string beyondT)).cell? ⟨g, i * 2 + 1, none⟩ = ls[i]?) := by
  have h0 := h
  obtain ⟨cur, a, b, c, d⟩ := h
  have h1 := heap_setCell_same w g (n * 2) cur _ (.string beyondT) a
  have h2 := heap_setCell_same _ g ((n + 1) * 2) _ _ (.string beyondT) h1
  refine ⟨h0, ⟨?_, ?_, ?_, ?_⟩, fun i hi => ⟨?_, ?_⟩⟩
  · rw [cell_of_row _ _ _ _ _ _ h2, Array.getElem?_setIfInBounds_ne (by omega), Array.getElem?_setIfInBounds_self_of_lt (by omega)]
  · rw [cell_of_row _ _ _ _ _ _ h2, Array.getElem?_setIfInBounds_ne (by omega), Array.getElem?_setIfInBounds_ne (by omega)]; exact (d n (Nat.le_refl _) (by omega)).2
  · rw [cell_of_row _ _ _ _ _ _ h2, Array.getElem?_setIfInBounds_self_of_lt (by simp; omega)]
  · rw [cell_of_row _ _ _ _ _ _ h2, Array.getElem?_setIfInBounds_ne (by omega), Array.getElem?_setIfInBounds_ne (by omega)]; exact (d (n + 1) (by omega) (by omega)).2
  · rw [cell_of_row _ _ _ _ _ _ h2, Array.getElem?_setIfInBounds_ne (by omega), Array.getElem?_setIfInBounds_ne (by omega)]; exact (c i hi (by omega)).1
  · rw [cell_of_row _ _ _ _ _ _ h2, Array.getElem?_setIfInBounds_ne (by omega), Array.getElem?_setIfInBounds_ne (by omega)]; exact (c i hi (by omega)).2
end Go.Proofs.YtpkkhkkkgjhkeaaGreat

/-
  THE WALK of signetlaw.spare.
-/
namespace Go.Proofs.YtpkkhkkkgjhkeaaGreat
open Go.RowKit
set_option maxRecDepth 100000
attribute [local go_sem ↓] Go.wp_at_zero Go.wp_at_succ

/-- A list of postings that is kept, and what is handed in of it. -/
def SpE (wr : World) (B : Nat) (e : Sg.Ent) (l m : Option Value) : Prop := ∃ g, B ≤ g ∧ m = some (.slice (some ⟨g, 0, none⟩) (e.posts.length + 2) (e.posts.length + 2)) ∧ (l = some (.slice (some ⟨g, 0, none⟩) e.posts.length (e.posts.length + 2)) ∨ (e.posts.length = 0 ∧ l = some (.slice none 0 0))) ∧ wr.heap[g]? = some (.cells (pstCells (e.posts ++ spareP)).toArray 57 (0, 0))
theorem SpE.keptT {w w' : World} {B : Nat} {e : Sg.Ent} {l m : Option Value} {t : TypeId} (h : SpE w B e l m) (hk : KeptT t w w') (hne : 57 ≠ t) : SpE w' B e l m := by
  obtain ⟨g, a, b, c, d⟩ := h
  exact ⟨g, a, b, c, hk _ _ _ _ d hne⟩
/-- What stands at the head of spare's loop: kl entries are laid, k lists are kept. -/
structure SpW (w wr : World) (n kl k : Nat) (v0 : Value) (es : List Sg.Ent) (ls ms : List Value) (vM : Value) : Prop where
  bel : Below w.heap.size w wr
  arg : wr.heap[w.heap.size]? = some (.cells #[v0] 24 (0, 0))
  res1 : wr.heap[w.heap.size + 1]? = some (.cells #[.slice none 0 0] 24 (0, 0))
  res2 : Two wr (w.heap.size + 2) (.slice none 0 0) (.slice none 0 0) 27
  row : LRow wr (w.heap.size + 3) n kl es ls
  box : Two wr (w.heap.size + 4) (.slice none 0 0) vM 27
  msr : wr.ownsRow (w.heap.size + 5) 53 1 vM k ms
  lens : ls.length = kl
  each : ∀ i (h : i < es.length), i < k → SpE wr (w.heap.size + 5) es[i] ls[i]? ms[i]?
theorem SpW.below {w wr w' : World} {n kl k : Nat} {v0 vM : Value} {es : List Sg.Ent} {ls ms : List Value} (m : SpW w wr n kl k v0 es ls ms vM) (h : Below wr.heap.size wr w') : SpW w w' n kl k v0 es ls ms vM :=
  ⟨m.bel.trans (h.mono m.bel.size), (h.block _ (lt_of_block m.arg)).trans m.arg, (h.block _ (lt_of_block m.res1)).trans m.res1, m.res2.below h, m.row.block (h.block _ m.row.lt), m.box.below h, ownsRow_below m.msr h, m.lens, fun i hi hk => (m.each i hi hk).keptT (keptT_below 3 h) (by decide)⟩
theorem SpW.put {w wr : World} {n k : Nat} {v0 vM : Value} {es : List Sg.Ent} {ls ms : List Value} (m : SpW w wr n k k v0 es ls ms vM) (hk : k < es.length) (hn : es.length = n) (v : Value) : SpW w ((wr.setCell ⟨w.heap.size + 3, k * 2, none⟩ (.string es[k].memo)).setCell ⟨w.heap.size + 3, k * 2 + 1, none⟩ v) n (k + 1) k v0 es (ls ++ [v]) ms vM := by
  have hr := m.row.put (v := v) hk hn m.lens
  obtain ⟨cur, a, _⟩ := m.row
  have h1 := heap_setCell_same wr _ (k * 2) cur _ (.string es[k].memo) a
  have hk1 : KeptT 55 wr (wr.setCell ⟨w.heap.size + 3, k * 2, none⟩ (.string es[k].memo)) := keptT_setCell a
  have hk2 := hk1.trans (keptT_setCell (j := k * 2 + 1) (u := v) h1)
  refine ⟨(m.bel.setCell (by show _ ≤ w.heap.size + 3; omega) _).setCell (by show _ ≤ w.heap.size + 3; omega) _, hk2 _ _ _ _ m.arg (by decide), hk2 _ _ _ _ m.res1 (by decide), hk2 _ _ _ _ m.res2 (by decide), hr, hk2 _ _ _ _ m.box (by decide), ownsRow_keptT m.msr hk2 (by decide), by rw [List.length_append, m.lens]; rfl, fun i hi hik => ?_⟩
  rw [List.getElem?_append_left (by rw [m.lens]; exact hik)]
  exact (m.each i hi hik).keptT hk2 (by decide)
theorem SpW.last {w wr : World} {n k : Nat} {v0 vM v : Value} {es : List Sg.Ent} {ls ms : List Value} (m : SpW w wr n (k + 1) k v0 es (ls ++ [v]) ms vM) (hk : k < es.length) (hn : es.length = n) (hl : ls.length = k) (u : Value) : SpW w (wr.setCell ⟨w.heap.size + 3, k * 2 + 1, none⟩ u) n (k + 1) k v0 es (ls ++ [u]) ms vM := by
  have hr := m.row.last (u := u) hk hn hl
  obtain ⟨cur, a, _⟩ := m.row
  have hk2 : KeptT 55 wr (wr.setCell ⟨w.heap.size + 3, k * 2 + 1, none⟩ u) := keptT_setCell a
  refine ⟨m.bel.setCell (by show _ ≤ w.heap.size + 3; omega) _, hk2 _ _ _ _ m.arg (by decide), hk2 _ _ _ _ m.res1 (by decide), hk2 _ _ _ _ m.res2 (by decide), hr, hk2 _ _ _ _ m.box (by decide), ownsRow_keptT m.msr hk2 (by decide), by rw [List.length_append, hl]; rfl, fun i hi hik => ?_⟩
  have := m.each i hi hik
  rw [List.getElem?_append_left (by omega)] at this
  rw [List.getElem?_append_left (by omega)]
  exact this.keptT hk2 (by decide)
/-- A list more is kept. -/
theorem SpW.push {w W X w5 : World} {n k : Nat} {v0 vM v' mv : Value} {es : List Sg.Ent} {ls ms : List Value} (m : SpW w W n (k + 1) k v0 es ls ms vM) (hX : Below W.heap.size W X) (hg : X.grownBy w5 vM.ownBlock) (hown : w5.ownsRow (w.heap.size + 5) 53 1 v' (k + 1) (ms ++ [mv])) (hk : k < es.length) (hE : SpE X (w.heap.size + 5) es[k] ls[k]? (some mv)) :
    Two w5 (w.heap.size + 4) (.slice none 0 0) vM 27 ∧ SpW w (w5.setCell ⟨w.heap.size + 4, 1, none⟩ v') n (k + 1) (k + 1) v0 es ls (ms ++ [mv]) v' := by
  have mX := m.below hX
  have hk5 := keptT_append mX.msr hg
  have hb5 := hk5 _ _ _ _ mX.box (by decide)
  have hne : ∀ q, q ≠ w.heap.size + 4 → (w5.setCell ⟨w.heap.size + 4, 1, none⟩ v').heap[q]? = w5.heap[q]? := fun q hq => heap_setCell_other w5 ⟨w.heap.size + 4, 1, none⟩ q v' hq
  have hk6 : KeptT 27 w5 (w5.setCell ⟨w.heap.size + 4, 1, none⟩ v') := keptT_setCell hb5
  have hml : ms.length = k := by have := m.msr.1; omega
  refine ⟨hb5, ⟨?_, hk6 _ _ _ _ (hk5 _ _ _ _ mX.arg (by decide)) (by decide), hk6 _ _ _ _ (hk5 _ _ _ _ mX.res1 (by decide)) (by decide), (hne _ (by omega)).trans (hk5 _ _ _ _ mX.res2 (by decide)), mX.row.block ?_, ?_, ownsRow_keptT hown hk6 (by decide), m.lens, fun i hi hik => ?_⟩⟩
  · exact (mX.bel.grown hg mX.bel.size (fun q hq => by have := (World.ownsRow.lt mX.msr q hq).1; omega)).setCell (by show _ ≤ w.heap.size + 4; omega) _
  · rw [hne _ (by omega)]
    obtain ⟨cur, a, _⟩ := mX.row
    rw [a]
    exact hk5 _ _ _ _ a (by decide)
  · have := heap_setCell_same w5 (w.heap.size + 4) 1 _ _ v' hb5
    exact this
  · by_cases e : i = k
    · subst e
      have e2 : (ms ++ [mv])[i]? = some mv := by rw [List.getElem?_append_right (by omega), hml, Nat.sub_self]; rfl
      rw [e2]
      exact (hE.keptT hk5 (by decide)).keptT hk6 (by decide)
    · rw [List.getElem?_append_left (by omega)]
      exact ((mX.each i hi (by omega)).keptT hk5 (by decide)).keptT hk6 (by decide)
/-- Rows of entries, of postings, of lists of postings stay as they are. -/
def KeptS (W W' : World) : Prop := ∀ (q : Nat) (cs : Array Value) (t : TypeId), t = 55 ∨ t = 57 ∨ t = 53 → W.heap[q]? = some (.cells cs t (0, 0)) → W'.heap[q]? = some (.cells cs t (0, 0))
theorem KeptS.below {W W' : World} (hb : Below W.heap.size W W') : KeptS W W' := fun q _ _ _ h => (hb.block q (lt_of_block h)).trans h
theorem KeptS.of {W W' : World} {t : TypeId} (hk : KeptT t W W') (h1 : 55 ≠ t) (h2 : 57 ≠ t) (h3 : 53 ≠ t) : KeptS W W' := fun q cs t' ht h => by
  rcases ht with rfl | rfl | rfl
  · exact hk _ _ _ _ h h1
  · exact hk _ _ _ _ h h2
  · exact hk _ _ _ _ h h3
theorem KeptS.trans {W W' W2 : World} (a : KeptS W W') (b : KeptS W' W2) : KeptS W W2 := fun q cs t ht h => b q cs t ht (a q cs t ht h)
/-- What spare answers, in memory. -/
structure Spared (W : World) (B g n : Nat) (aoM : Option Addr) (es : List Sg.Ent) : Prop where
  lo : B ≤ g
  lt : g < W.heap.size
  ents : EntsIn W (some ⟨g, 0, none⟩) es
  behind : Behind W g n
  kept : MsIn W aoM es
  keep : ∀ W' : World, KeptS W W' → g < W'.heap.size ∧ EntsIn W' (some ⟨g, 0, none⟩) es ∧ Behind W' g n ∧ MsIn W' aoM es
theorem Spared.keptS {W W' : World} {B g n : Nat} {aoM : Option Addr} {es : List Sg.Ent} (h : Spared W B g n aoM es) (hk : KeptS W W') : Spared W' B g n aoM es := by
  obtain ⟨a, b, c, d⟩ := h.keep W' hk
  exact ⟨h.lo, a, b, c, d, fun W2 h2 => h.keep W2 (fun q cs t ht hq => h2 q cs t ht (hk q cs t ht hq))⟩
theorem Spared.below {W W' : World} {B g n : Nat} {aoM : Option Addr} {es : List Sg.Ent} (h : Spared W B g n aoM es) (hb : Below W.heap.size W W') : Spared W' B g n aoM es := h.keptS (KeptS.below hb)
theorem cell_block {w w' : World} {g j : Nat} (h : w'.heap[g]? = w.heap[g]?) : w'.cell? ⟨g, j, none⟩ = w.cell? ⟨g, j, none⟩ := by
  unfold World.cell?
  simp only [h]
theorem SpW.core {w wr W : World} {n : Nat} {v0 : Value} {aoM : Option Addr} {capM : Nat} {es : List Sg.Ent} {ls ms : List Value} (m : SpW w wr n n n v0 es ls ms (.slice aoM n capM)) (hn : es.length = n) (hb : KeptS ((wr.setCell ⟨w.heap.size + 3, n * 2, none⟩ (.string beyondT)).setCell ⟨w.heap.size + 3, (n + 1) * 2, none⟩ (.string beyondT)) W) :
    w.heap.size + 3 < W.heap.size ∧ EntsIn W (some ⟨w.heap.size + 3, 0, none⟩) es ∧ Behind W (w.heap.size + 3) n ∧ MsIn W aoM es := by
  obtain ⟨_, hB, hC⟩ := m.row.done hn
  obtain ⟨cur, a, _⟩ := m.row
  have h1 := heap_setCell_same wr _ (n * 2) cur _ (.string beyondT) a
  have hk2 : KeptT 55 wr ((wr.setCell ⟨w.heap.size + 3, n * 2, none⟩ (.string beyondT)).setCell ⟨w.heap.size + 3, (n + 1) * 2, none⟩ (.string beyondT)) := (keptT_setCell a).trans (keptT_setCell h1)
  have h3 := heap_setCell_same _ _ ((n + 1) * 2) _ _ (.string beyondT) h1
  have hW3 := hb _ _ _ (Or.inl rfl) h3
  have c3 : ∀ j, W.cell? ⟨w.heap.size + 3, j, none⟩ = _ := fun j => cell_block (j := j) (hW3.trans h3.symm)
  have hlt : w.heap.size + 3 < W.heap.size := lt_of_block hW3
  have hE : ∀ i (h : i < es.length), ∃ g, w.heap.size + 5 ≤ g ∧ ms[i]? = some (.slice (some ⟨g, 0, none⟩) (es[i].posts.length + 2) (es[i].posts.length + 2)) ∧ (ls[i]? = some (.slice (some ⟨g, 0, none⟩) es[i].posts.length (es[i].posts.length + 2)) ∨ (es[i].posts.length = 0 ∧ ls[i]? = some (.slice none 0 0))) ∧ W.heap[g]? = some (.cells (pstCells (es[i].posts ++ spareP)).toArray 57 (0, 0)) := fun i hi => by
    obtain ⟨g, a1, a2, a3, a4⟩ := m.each i hi (by omega)
    exact ⟨g, a1, a2, a3, hb _ _ _ (Or.inr (Or.inl rfl)) (hk2 _ _ _ _ a4 (by decide))⟩
  have hents : EntsIn W (some ⟨w.heap.size + 3, 0, none⟩) es := by
    refine Or.inr ⟨w.heap.size + 3, 0, rfl, hlt, fun i hi => ?_⟩
    obtain ⟨c1, c2⟩ := hC i hi
    rw [Nat.zero_add, c3, c3, c1, c2]
    obtain ⟨g, a1, a2, a3, a4⟩ := hE i hi
    refine ⟨rfl, ?_⟩
    rcases a3 with a3 | ⟨a5, a3⟩
    · refine ⟨some ⟨g, 0, none⟩, _, a3, ?_⟩
      have := psts_block a4
      rcases this with h0 | ⟨b, off, e, hbl, hat⟩
      · simp [spareP] at h0
      · refine Or.inr ⟨b, off, e, hbl, fun j hj => ?_⟩
        have := hat j (by rw [List.length_append]; omega)
        rw [List.getElem_append_left hj] at this
        exact this
    · exact ⟨none, 0, by rw [a5]; exact a3, Or.inl a5⟩
  have hmsl : ms.length = n := by have := m.msr.1; omega
  have hM : MsIn W aoM es := by
    rcases m.msr.2 with ⟨e1, e2⟩ | ⟨g, cap, cu, e1, b1, b2, b3, b4, b5, b6⟩
    · exact Or.inl (by omega)
    · simp only [Value.slice.injEq] at e1
      obtain ⟨rfl, _, _⟩ := e1
      have hgW : W.heap[g]? = some (.cells cu 53 (0, 0)) := hb _ _ _ (Or.inr (Or.inr rfl)) (hk2 _ _ _ _ b2 (by decide))
      refine Or.inr ⟨g, 0, rfl, lt_of_block hgW, fun i hi => ?_⟩
      obtain ⟨g', a1, a2, a3, a4⟩ := hE i hi
      refine ⟨some ⟨g', 0, none⟩, es[i].posts.length + 2, ?_, psts_block a4⟩
      rw [Nat.zero_add, cell_of_row W g i _ _ _ hgW, ← Array.getElem?_toList, ← List.getElem?_take_of_lt (j := n * 1) (by omega), b6]
      exact a2
  exact ⟨hlt, hents, ⟨(c3 _).trans hB.m0, (c3 _).trans hB.p0, (c3 _).trans hB.m1, (c3 _).trans hB.p1⟩, hM⟩
theorem SpW.done {w wr W : World} {n : Nat} {v0 vM : Value} {es : List Sg.Ent} {ls ms : List Value} (m : SpW w wr n n n v0 es ls ms vM) (hn : es.length = n) (hb : ∀ q, q ≠ w.heap.size + 1 → q ≠ w.heap.size + 2 → q ≠ w.heap.size + 4 → W.heap[q]? = ((wr.setCell ⟨w.heap.size + 3, n * 2, none⟩ (.string beyondT)).setCell ⟨w.heap.size + 3, (n + 1) * 2, none⟩ (.string beyondT)).heap[q]?) :
    ∃ aoM capM, vM = .slice aoM n capM ∧ Spared W w.heap.size (w.heap.size + 3) n aoM es := by
  obtain ⟨aoM, capM, rfl⟩ : ∃ aoM capM, vM = .slice aoM n capM := by
    rcases m.msr.2 with ⟨e1, e2⟩ | ⟨g, cap, cu, e1, _⟩
    · exact ⟨none, 0, by rw [e1, e2]⟩
    · exact ⟨_, cap, e1⟩
  have hk : KeptS ((wr.setCell ⟨w.heap.size + 3, n * 2, none⟩ (.string beyondT)).setCell ⟨w.heap.size + 3, (n + 1) * 2, none⟩ (.string beyondT)) W := fun q cs t ht h => by
    have n3 : ∀ q, q ≠ w.heap.size + 3 → ((wr.setCell ⟨w.heap.size + 3, n * 2, none⟩ (.string beyondT)).setCell ⟨w.heap.size + 3, (n + 1) * 2, none⟩ (.string beyondT)).heap[q]? = wr.heap[q]? := fun q hq => by
      rw [heap_setCell_other _ ⟨w.heap.size + 3, (n + 1) * 2, none⟩ q _ hq, heap_setCell_other _ ⟨w.heap.size + 3, n * 2, none⟩ q _ hq]
    have h' := h
    by_cases q1 : q = w.heap.size + 1
    · subst q1; rw [n3 _ (by omega), m.res1] at h'; simp at h'; obtain ⟨_, rfl⟩ := h'; exact absurd ht (by decide)
    · by_cases q2 : q = w.heap.size + 2
      · subst q2; rw [n3 _ (by omega), m.res2] at h'; simp at h'; obtain ⟨_, rfl⟩ := h'; exact absurd ht (by decide)
      · by_cases q4 : q = w.heap.size + 4
        · subst q4; rw [n3 _ (by omega), m.box] at h'; simp at h'; obtain ⟨_, rfl⟩ := h'; exact absurd ht (by decide)
        · exact (hb q q1 q2 q4).trans h
  obtain ⟨a, b, c, d⟩ := m.core hn hk
  exact ⟨aoM, capM, rfl, ⟨by omega, a, b, c, d, fun W2 h2 => m.core hn (hk.trans h2)⟩⟩
end Go.Proofs.YtpkkhkkkgjhkeaaGreat

/-
  THE WALK of signetlaw.spare, itself.
-/
namespace Go.Proofs.YtpkkhkkkgjhkeaaGreat
open Go.RowKit
set_option maxRecDepth 100000
attribute [local go_sem ↓] Go.wp_at_zero Go.wp_at_succ

theorem Tryz.infoPsts : (Tryz.prog.info? 53).map (fun i => (i.zero, i.size, i.bytes)) = some (some (.slice none 0 0), 1, 24) := by kernel_rfl
theorem Tryz.infoEnt3 : (Tryz.prog.info? 55).map (fun i => (i.zero, i.size, i.bytes)) = some (some (.agg #[.string ByteArray.empty, .slice none 0 0]), 2, 40) := by kernel_rfl

/-- The two places behind the postings are marked. -/
theorem spare_marks {w2 : World} {g np : Nat} {pp : List Sg.Pst} (hnp : pp.length = np) (h : w2.heap[g]? = some (.cells (pstCells (pp ++ [⟨0, 0⟩, ⟨0, 0⟩])).toArray 57 (0, 0))) :
    (w2.cell? ⟨g, np * 2, none⟩ = some (.int .i64 0) ∧ w2.frozen? ⟨g, np * 2, none⟩ = false) ∧ (w2.cell? ⟨g, (np + 1) * 2, none⟩ = some (.int .i64 0) ∧ w2.frozen? ⟨g, (np + 1) * 2, none⟩ = false) ∧
      ((w2.setCell ⟨g, np * 2, none⟩ (.int .i64 77)).setCell ⟨g, (np + 1) * 2, none⟩ (.int .i64 77)).heap[g]? = some (.cells (pstCells (pp ++ spareP)).toArray 57 (0, 0)) := by
  have hl : (pstCells pp).length = np * 2 := by rw [pstCells_length, hnp]
  have e0 : pstCells (pp ++ [⟨0, 0⟩, ⟨0, 0⟩]) = pstCells pp ++ [.int .i64 0, .int .i64 0, .int .i64 0, .int .i64 0] := pstCells_append _ _
  have e1 : pstCells (pp ++ spareP) = pstCells pp ++ [.int .i64 77, .int .i64 0, .int .i64 77, .int .i64 0] := pstCells_append _ _
  have h1 := heap_setCell_same w2 g (np * 2) _ _ (.int .i64 77) h
  have h2 := heap_setCell_same _ g ((np + 1) * 2) _ _ (.int .i64 77) h1
  refine ⟨⟨?_, by simp [World.frozen?, h]⟩, ⟨?_, by simp [World.frozen?, h]⟩, ?_⟩
  · rw [cell_of_row w2 g _ _ _ _ h, e0, List.getElem?_toArray, List.getElem?_append_right (by omega), hl, Nat.sub_self]; rfl
  · rw [cell_of_row w2 g _ _ _ _ h, e0, List.getElem?_toArray, List.getElem?_append_right (by omega), hl, show (np + 1) * 2 - np * 2 = 2 by omega]; rfl
  · rw [h2, e1, e0, List.setIfInBounds_toArray, List.setIfInBounds_toArray, List.set_append_right _ _ (by omega), List.set_append_right _ _ (by omega), hl, Nat.sub_self, show (np + 1) * 2 - np * 2 = 2 by omega]
    rfl

theorem SpW.start (w : World) (v0 : Value) (n : Nat) (es : List Sg.Ent) : SpW w (((((w.alloc (.cells #[v0] 24)).alloc (.cells #[.slice none 0 0] 24)).alloc (.cells #[.slice none 0 0, .slice none 0 0] 27)).alloc (.cells (madeCells #[.string ByteArray.empty, .slice none 0 0] ((n + 2) * 2)) 55)).alloc (.cells #[.slice none 0 0, .slice none 0 0] 27)) n 0 0 v0 es [] [] (.slice none 0 0) := by
  have a1 : Below w.heap.size w (w.alloc (.cells #[v0] 24)) := (Below.refl _ _).alloc (Nat.le_refl _) _
  have a2 := a1.alloc (by simp) (.cells #[.slice none 0 0] 24)
  have a3 := a2.alloc (by simp; omega) (.cells #[.slice none 0 0, .slice none 0 0] 27)
  have a4 := a3.alloc (by simp; omega) (.cells (madeCells #[.string ByteArray.empty, .slice none 0 0] ((n + 2) * 2)) 55)
  have a5 := a4.alloc (by simp; omega) (.cells #[.slice none 0 0, .slice none 0 0] 27)
  have s1 : (w.alloc (.cells #[v0] 24)).heap.size = w.heap.size + 1 := by simp
  have n1 := heap_alloc_new w (.cells #[v0] 24)
  generalize w.alloc (.cells #[v0] 24) = w1 at *
  have n2 := heap_alloc_new w1 (.cells #[.slice none 0 0] 24)
  have o2 : ∀ k, k < w1.heap.size → _ := fun k hk => Below.heap_alloc w1 (.cells #[.slice none 0 0] 24) k hk
  have s2 : (w1.alloc (.cells #[.slice none 0 0] 24)).heap.size = w1.heap.size + 1 := by simp
  generalize w1.alloc (.cells #[.slice none 0 0] 24) = w2 at *
  have n3 := heap_alloc_new w2 (.cells #[.slice none 0 0, .slice none 0 0] 27)
  have o3 : ∀ k, k < w2.heap.size → _ := fun k hk => Below.heap_alloc w2 (.cells #[.slice none 0 0, .slice none 0 0] 27) k hk
  have s3 : (w2.alloc (.cells #[.slice none 0 0, .slice none 0 0] 27)).heap.size = w2.heap.size + 1 := by simp
  generalize w2.alloc (.cells #[.slice none 0 0, .slice none 0 0] 27) = w3 at *
  have r4 := LRow.make w3 n es
  have o4 : ∀ k, k < w3.heap.size → _ := fun k hk => Below.heap_alloc w3 (.cells (madeCells #[.string ByteArray.empty, .slice none 0 0] ((n + 2) * 2)) 55) k hk
  have s4 : (w3.alloc (.cells (madeCells #[.string ByteArray.empty, .slice none 0 0] ((n + 2) * 2)) 55)).heap.size = w3.heap.size + 1 := by simp
  generalize w3.alloc (.cells (madeCells #[.string ByteArray.empty, .slice none 0 0] ((n + 2) * 2)) 55) = w4 at *
  have n5 := heap_alloc_new w4 (.cells #[.slice none 0 0, .slice none 0 0] 27)
  have o5 : ∀ k, k < w4.heap.size → _ := fun k hk => Below.heap_alloc w4 (.cells #[.slice none 0 0, .slice none 0 0] 27) k hk
  have t2 : w1.heap.size = w.heap.size + 1 := s1
  have t3 : w2.heap.size = w.heap.size + 2 := by omega
  have t4 : w3.heap.size = w.heap.size + 3 := by omega
  have t5 : w4.heap.size = w.heap.size + 4 := by omega
  rw [t2] at n2
  rw [t3] at n3
  rw [t4] at r4
  rw [t5] at n5
  refine ⟨a5, ?_, ?_, ?_, r4.block (o5 _ (by omega)), n5, World.ownsRow_nil _ _ _ _, rfl, fun i _ h => absurd h (by omega)⟩
  · rw [o5 _ (by omega), o4 _ (by omega), o3 _ (by omega), o2 _ (by omega)]; exact n1
  · rw [o5 _ (by omega), o4 _ (by omega), o3 _ (by omega)]; exact n2
  · show _ = _
    rw [o5 _ (by omega), o4 _ (by omega)]; exact n3
/-- The end of it. -/
theorem SpW.fin {w wz : World} {k capM : Nat} {v0 : Value} {aoM : Option Addr} {es : List Sg.Ent} {ls ms : List Value} (m : SpW w wz k k k v0 es ls ms (.slice aoM k capM)) (hn : es.length = k) :
    Spared (((((((wz.setCell ⟨w.heap.size + 1 + 1 + 1, k * 2, none⟩ (.string beyondT)).setCell ⟨w.heap.size + 1 + 1 + 1, (k + 1) * 2, none⟩ (.string beyondT)).setCell ⟨w.heap.size + 1 + 1 + 1 + 1, 0, none⟩ (.slice (some ⟨w.heap.size + 1 + 1 + 1, 0, none⟩) (k + 2) (k + 2))).setCell ⟨w.heap.size + 1, 0, none⟩ (.slice (some ⟨w.heap.size + 1 + 1 + 1, 0, none⟩) k (k + 2))).setCell ⟨w.heap.size + 1 + 1, 0, none⟩ (.slice (some ⟨w.heap.size + 1 + 1 + 1, 0, none⟩) (k + 2) (k + 2))).setCell ⟨w.heap.size + 1 + 1, 1, none⟩ (.slice aoM k capM)).drew) w.heap.size (w.heap.size + 1 + 1 + 1) k aoM es ∧ Below w.heap.size w (((((((wz.setCell ⟨w.heap.size + 1 + 1 + 1, k * 2, none⟩ (.string beyondT)).setCell ⟨w.heap.size + 1 + 1 + 1, (k + 1) * 2, none⟩ (.string beyondT)).setCell ⟨w.heap.size + 1 + 1 + 1 + 1, 0, none⟩ (.slice (some ⟨w.heap.size + 1 + 1 + 1, 0, none⟩) (k + 2) (k + 2))).setCell ⟨w.heap.size + 1, 0, none⟩ (.slice (some ⟨w.heap.size + 1 + 1 + 1, 0, none⟩) k (k + 2))).setCell ⟨w.heap.size + 1 + 1, 0, none⟩ (.slice (some ⟨w.heap.size + 1 + 1 + 1, 0, none⟩) (k + 2) (k + 2))).setCell ⟨w.heap.size + 1 + 1, 1, none⟩ (.slice aoM k capM)).drew) ∧ (((((((wz.setCell ⟨w.heap.size + 1 + 1 + 1, k * 2, none⟩ (.string beyondT)).setCell ⟨w.heap.size + 1 + 1 + 1, (k + 1) * 2, none⟩ (.string beyondT)).setCell ⟨w.heap.size + 1 + 1 + 1 + 1, 0, none⟩ (.slice (some ⟨w.heap.size + 1 + 1 + 1, 0, none⟩) (k + 2) (k + 2))).setCell ⟨w.heap.size + 1, 0, none⟩ (.slice (some ⟨w.heap.size + 1 + 1 + 1, 0, none⟩) k (k + 2))).setCell ⟨w.heap.size + 1 + 1, 0, none⟩ (.slice (some ⟨w.heap.size + 1 + 1 + 1, 0, none⟩) (k + 2) (k + 2))).setCell ⟨w.heap.size + 1 + 1, 1, none⟩ (.slice aoM k capM)).drew).cell? ⟨w.heap.size + 1, 0, none⟩ = some (.slice (some ⟨w.heap.size + 1 + 1 + 1, 0, none⟩) k (k + 2)) ∧ (((((((wz.setCell ⟨w.heap.size + 1 + 1 + 1, k * 2, none⟩ (.string beyondT)).setCell ⟨w.heap.size + 1 + 1 + 1, (k + 1) * 2, none⟩ (.string beyondT)).setCell ⟨w.heap.size + 1 + 1 + 1 + 1, 0, none⟩ (.slice (some ⟨w.heap.size + 1 + 1 + 1, 0, none⟩) (k + 2) (k + 2))).setCell ⟨w.heap.size + 1, 0, none⟩ (.slice (some ⟨w.heap.size + 1 + 1 + 1, 0, none⟩) k (k + 2))).setCell ⟨w.heap.size + 1 + 1, 0, none⟩ (.slice (some ⟨w.heap.size + 1 + 1 + 1, 0, none⟩) (k + 2) (k + 2))).setCell ⟨w.heap.size + 1 + 1, 1, none⟩ (.slice aoM k capM)).drew).cell? ⟨w.heap.size + 1 + 1, 0, none⟩ = some (.slice (some ⟨w.heap.size + 1 + 1 + 1, 0, none⟩) (k + 2) (k + 2)) ∧ (((((((wz.setCell ⟨w.heap.size + 1 + 1 + 1, k * 2, none⟩ (.string beyondT)).setCell ⟨w.heap.size + 1 + 1 + 1, (k + 1) * 2, none⟩ (.string beyondT)).setCell ⟨w.heap.size + 1 + 1 + 1 + 1, 0, none⟩ (.slice (some ⟨w.heap.size + 1 + 1 + 1, 0, none⟩) (k + 2) (k + 2))).setCell ⟨w.heap.size + 1, 0, none⟩ (.slice (some ⟨w.heap.size + 1 + 1 + 1, 0, none⟩) k (k + 2))).setCell ⟨w.heap.size + 1 + 1, 0, none⟩ (.slice (some ⟨w.heap.size + 1 + 1 + 1, 0, none⟩) (k + 2) (k + 2))).setCell ⟨w.heap.size + 1 + 1, 1, none⟩ (.slice aoM k capM)).drew).cell? ⟨w.heap.size + 1 + 1, 1, none⟩ = some (.slice aoM k capM) := by
  have hdr : ∀ X : World, X.drew.heap = X.heap := fun _ => rfl
  have hd := m.done (W := ((((((wz.setCell ⟨w.heap.size + 1 + 1 + 1, k * 2, none⟩ (.string beyondT)).setCell ⟨w.heap.size + 1 + 1 + 1, (k + 1) * 2, none⟩ (.string beyondT)).setCell ⟨w.heap.size + 1 + 1 + 1 + 1, 0, none⟩ (.slice (some ⟨w.heap.size + 1 + 1 + 1, 0, none⟩) (k + 2) (k + 2))).setCell ⟨w.heap.size + 1, 0, none⟩ (.slice (some ⟨w.heap.size + 1 + 1 + 1, 0, none⟩) k (k + 2))).setCell ⟨w.heap.size + 1 + 1, 0, none⟩ (.slice (some ⟨w.heap.size + 1 + 1 + 1, 0, none⟩) (k + 2) (k + 2))).setCell ⟨w.heap.size + 1 + 1, 1, none⟩ (.slice aoM k capM)).drew) hn (fun q h1 h2 h4 => by
    rw [hdr, heap_setCell_other _ ⟨w.heap.size + 1 + 1, 1, none⟩ q _ h2, heap_setCell_other _ ⟨w.heap.size + 1 + 1, 0, none⟩ q _ h2, heap_setCell_other _ ⟨w.heap.size + 1, 0, none⟩ q _ h1, heap_setCell_other _ ⟨w.heap.size + 1 + 1 + 1 + 1, 0, none⟩ q _ h4])
  have b1 : Below w.heap.size w (wz.setCell ⟨w.heap.size + 1 + 1 + 1, k * 2, none⟩ (.string beyondT)) := m.bel.setCell (by show _ ≤ w.heap.size + 1 + 1 + 1; omega) _
  have b2 := b1.setCell (p := ⟨w.heap.size + 1 + 1 + 1, (k + 1) * 2, none⟩) (by show _ ≤ w.heap.size + 1 + 1 + 1; omega) (.string beyondT)
  have b3 := b2.setCell (p := ⟨w.heap.size + 1 + 1 + 1 + 1, 0, none⟩) (by show _ ≤ w.heap.size + 1 + 1 + 1 + 1; omega) (.slice (some ⟨w.heap.size + 1 + 1 + 1, 0, none⟩) (k + 2) (k + 2))
  have b4 := b3.setCell (p := ⟨w.heap.size + 1, 0, none⟩) (by show _ ≤ w.heap.size + 1; omega) (.slice (some ⟨w.heap.size + 1 + 1 + 1, 0, none⟩) k (k + 2))
  have b5 := b4.setCell (p := ⟨w.heap.size + 1 + 1, 0, none⟩) (by show _ ≤ w.heap.size + 1 + 1; omega) (.slice (some ⟨w.heap.size + 1 + 1 + 1, 0, none⟩) (k + 2) (k + 2))
  have b6 := b5.setCell (p := ⟨w.heap.size + 1 + 1, 1, none⟩) (by show _ ≤ w.heap.size + 1 + 1; omega) (.slice aoM k capM)
  obtain ⟨aoM', capM', e, hsp⟩ := hd
  simp only [Value.slice.injEq, true_and] at e
  obtain ⟨rfl, rfl⟩ := e
  have q1 : (((wz.setCell ⟨w.heap.size + 1 + 1 + 1, k * 2, none⟩ (.string beyondT)).setCell ⟨w.heap.size + 1 + 1 + 1, (k + 1) * 2, none⟩ (.string beyondT)).setCell ⟨w.heap.size + 1 + 1 + 1 + 1, 0, none⟩ (.slice (some ⟨w.heap.size + 1 + 1 + 1, 0, none⟩) (k + 2) (k + 2))).heap[w.heap.size + 1]? = some (.cells #[.slice none 0 0] 24 (0, 0)) := by
    rw [heap_setCell_other _ ⟨w.heap.size + 1 + 1 + 1 + 1, 0, none⟩ (w.heap.size + 1) _ (by show w.heap.size + 1 ≠ w.heap.size + 1 + 1 + 1 + 1; omega), heap_setCell_other _ ⟨w.heap.size + 1 + 1 + 1, (k + 1) * 2, none⟩ (w.heap.size + 1) _ (by show w.heap.size + 1 ≠ w.heap.size + 1 + 1 + 1; omega), heap_setCell_other _ ⟨w.heap.size + 1 + 1 + 1, k * 2, none⟩ (w.heap.size + 1) _ (by show w.heap.size + 1 ≠ w.heap.size + 1 + 1 + 1; omega)]
    exact m.res1
  have q2 : (((wz.setCell ⟨w.heap.size + 1 + 1 + 1, k * 2, none⟩ (.string beyondT)).setCell ⟨w.heap.size + 1 + 1 + 1, (k + 1) * 2, none⟩ (.string beyondT)).setCell ⟨w.heap.size + 1 + 1 + 1 + 1, 0, none⟩ (.slice (some ⟨w.heap.size + 1 + 1 + 1, 0, none⟩) (k + 2) (k + 2))).heap[w.heap.size + 1 + 1]? = some (.cells #[.slice none 0 0, .slice none 0 0] 27 (0, 0)) := by
    rw [heap_setCell_other _ ⟨w.heap.size + 1 + 1 + 1 + 1, 0, none⟩ (w.heap.size + 1 + 1) _ (by show w.heap.size + 1 + 1 ≠ w.heap.size + 1 + 1 + 1 + 1; omega), heap_setCell_other _ ⟨w.heap.size + 1 + 1 + 1, (k + 1) * 2, none⟩ (w.heap.size + 1 + 1) _ (by show w.heap.size + 1 + 1 ≠ w.heap.size + 1 + 1 + 1; omega), heap_setCell_other _ ⟨w.heap.size + 1 + 1 + 1, k * 2, none⟩ (w.heap.size + 1 + 1) _ (by show w.heap.size + 1 + 1 ≠ w.heap.size + 1 + 1 + 1; omega)]
    exact m.res2
  generalize ((wz.setCell ⟨w.heap.size + 1 + 1 + 1, k * 2, none⟩ (.string beyondT)).setCell ⟨w.heap.size + 1 + 1 + 1, (k + 1) * 2, none⟩ (.string beyondT)).setCell ⟨w.heap.size + 1 + 1 + 1 + 1, 0, none⟩ (.slice (some ⟨w.heap.size + 1 + 1 + 1, 0, none⟩) (k + 2) (k + 2)) = X at *
  have q3 := heap_setCell_same X (w.heap.size + 1) 0 _ _ (.slice (some ⟨w.heap.size + 1 + 1 + 1, 0, none⟩) k (k + 2)) q1
  have q4 := (heap_setCell_other X ⟨w.heap.size + 1, 0, none⟩ (w.heap.size + 1 + 1) (.slice (some ⟨w.heap.size + 1 + 1 + 1, 0, none⟩) k (k + 2)) (by show w.heap.size + 1 + 1 ≠ w.heap.size + 1; omega)).trans q2
  generalize X.setCell ⟨w.heap.size + 1, 0, none⟩ (.slice (some ⟨w.heap.size + 1 + 1 + 1, 0, none⟩) k (k + 2)) = Y at *
  have q5 := heap_setCell_same Y (w.heap.size + 1 + 1) 0 _ _ (.slice (some ⟨w.heap.size + 1 + 1 + 1, 0, none⟩) (k + 2) (k + 2)) q4
  have q6 := (heap_setCell_other Y ⟨w.heap.size + 1 + 1, 0, none⟩ (w.heap.size + 1) (.slice (some ⟨w.heap.size + 1 + 1 + 1, 0, none⟩) (k + 2) (k + 2)) (by show w.heap.size + 1 ≠ w.heap.size + 1 + 1; omega)).trans q3
  generalize Y.setCell ⟨w.heap.size + 1 + 1, 0, none⟩ (.slice (some ⟨w.heap.size + 1 + 1 + 1, 0, none⟩) (k + 2) (k + 2)) = Z at *
  have q7 := heap_setCell_same Z (w.heap.size + 1 + 1) 1 _ _ (.slice aoM k capM) q5
  have q8 := (heap_setCell_other Z ⟨w.heap.size + 1 + 1, 1, none⟩ (w.heap.size + 1) (.slice aoM k capM) (by show w.heap.size + 1 ≠ w.heap.size + 1 + 1; omega)).trans q6
  have hc : ∀ (Q : World) (a : Addr), Q.drew.cell? a = Q.cell? a := fun Q a => by simp
  refine ⟨hsp, b6.drew, ?_, ?_, ?_⟩
  · rw [hc, cell_of_row _ _ _ _ _ _ q8]; rfl
  · rw [hc, cell_of_row _ _ _ _ _ _ q7]; rfl
  · rw [hc, cell_of_row _ _ _ _ _ _ q7]; rfl

set_option maxHeartbeats 6400000 in
theorem spare_any (es : List Sg.Ent) (ao : Option Addr) (n cap : Nat) (w : World) (hn : es.length = n) (hmax : n ≤ 3518437208883) (hE : EntsIn w ao es) (hp : ∀ e ∈ es, e.posts.length ≤ 8796093022207) :
    Calls Tryz.prog 6 #[.agg #[.slice ao n cap]] w fun e w' => ∃ g aoM capM, e = .returned (.tuple #[.agg #[.slice (some ⟨g, 0, none⟩) n (n + 2)], .agg #[.slice (some ⟨g, 0, none⟩) (n + 2) (n + 2), .slice aoM n capM]]) ∧ Spared w' w.heap.size g n aoM es ∧ Below w.heap.size w w' := by
  obtain ⟨e0, ei, ez0, ez1, ez2⟩ := info_parts Tryz.infoEnt3
  obtain ⟨p0, pi, pz0, pz1, pz2⟩ := info_parts Tryz.infoPst
  obtain ⟨q0, qi, qz0, qz1, qz2⟩ := info_parts Tryz.infoPsts
  have hq := fun (w : World) (a : Option Addr) (n c : Nat) => Lib.run_eql_slice_nil (P := Tryz.prog) w 53 57 a n c 0 0 Tryz.underlying53
  have HN : Hid (es.length = n) := hn
  have HP : Hid (∀ e ∈ es, e.posts.length ≤ 8796093022207) := hp
  clear hn hp
  have hmkE : ∀ W : World, (Instr.makeSlice 22 (.int .i64 ((n : Int) + 2)) (.int .i64 ((n : Int) + 2))).run Tryz.prog W = .ok (.slice (some ⟨W.heap.size, 0, none⟩) (n + 2) (n + 2)) (W.alloc (.cells (madeCells #[.string ByteArray.empty, .slice none 0 0] ((n + 2) * 2)) 55)) := fun W => by
    have h := run_make (P := Tryz.prog) W 22 55 e0 (.agg #[.string ByteArray.empty, .slice none 0 0]) Tryz.underlying22 ei ez0 .i64 .i64 ((n + 2 : Nat) : Int) ((n + 2 : Nat) : Int) (by omega) (by omega) (by rw [ez2]; omega) (by omega)
    rw [ez1, Int.toNat_natCast] at h
    rw [show (n : Int) + 2 = ((n + 2 : Nat) : Int) by omega]
    exact h
  go_enter Tryz.func6, Tryz.ntmps6
  go_wp2_with fail
  go_loopw [7] (fun i wr => ∃ k : Nat, k ≤ n ∧ i = .int .i64 (k : Int) ∧ ∃ ls ms vM, Hid (SpW w wr n k k (.slice ao n cap) es ls ms vM)) (fun i _ => n - (intOf i).toNat)
  case atStart => exact ⟨0, by omega, rfl, [], [], .slice none 0 0, SpW.start w (.slice ao n cap) n es⟩
  case round =>
    obtain ⟨k, hk, rfl, ls, ms, vM, HS⟩ := hrel
    obtain ⟨wz, ewz⟩ : ∃ z : World, z = wr := ⟨_, rfl⟩
    subst ewz
    clear hmkE
    by_cases hgo : k < n
    · have g1 : (k : Int) < (n : Int) := by omega
      have g0 : (0 : Int) ≤ (k : Int) := by omega
      have hka : k < es.length := by rw [HN.out]; exact hgo
      obtain ⟨b2, off2, e2, hb2, hm2, aq, cq, hc2, hp2⟩ := hE.cell (k := k) hka
      subst e2
      have hlp := HP.out es[k] (List.getElem_mem _)
      obtain ⟨me, hme⟩ : ∃ m, es[k].memo = m := ⟨_, rfl⟩
      obtain ⟨pp, hpp⟩ : ∃ m, es[k].posts = m := ⟨_, rfl⟩
      obtain ⟨np, hnp⟩ : ∃ m, pp.length = m := ⟨_, rfl⟩
      rw [hme] at hm2
      rw [hpp] at hc2 hlp hp2
      rw [hnp] at hc2 hlp
      have hbz := HS.out.bel
      have x0 : wz.cell? ⟨w.heap.size, 0, none⟩ = some (.slice (some ⟨b2, off2, none⟩) n cap) := by rw [cell_of_row wz _ _ _ _ _ HS.out.arg]; rfl
      have x1 := (hbz.cell (p := ⟨b2, off2 + k * 2, none⟩) hb2).trans hm2
      have x2 := (hbz.cell (p := ⟨b2, off2 + k * 2 + 1, none⟩) hb2).trans hc2
      have hmkP : ∀ W : World, (Instr.makeSlice 53 (.int .i64 ((np : Int) + 2)) (.int .i64 ((np : Int) + 2))).run Tryz.prog W = .ok (.slice (some ⟨W.heap.size, 0, none⟩) (np + 2) (np + 2)) (W.alloc (.cells (madeCells #[.int .i64 0, .int .i64 0] ((np + 2) * 2)) 57)) := fun W => by
        have h := run_make (P := Tryz.prog) W 53 57 p0 (.agg #[.int .i64 0, .int .i64 0]) Tryz.underlying53 pi pz0 .i64 .i64 ((np + 2 : Nat) : Int) ((np + 2 : Nat) : Int) (by omega) (by omega) (by rw [pz2]; omega) (by omega)
        rw [pz1, Int.toNat_natCast] at h
        rw [show (np : Int) + 2 = ((np + 2 : Nat) : Int) by omega]
        exact h
      have HK : Hid (es[k].memo = me ∧ es[k].posts = pp ∧ pp.length = np) := ⟨hme, hpp, hnp⟩
      have aX : Below wz.heap.size wz ((wz.alloc (.cells #[.string me, .slice aq np cq] 55)).alloc (.cells (madeCells #[.int .i64 0, .int .i64 0] ((np + 2) * 2)) 57)) := ((Below.refl _ _).alloc (Nat.le_refl _) _).alloc (by simp) _
      have hnew : ((wz.alloc (.cells #[.string me, .slice aq np cq] 55)).alloc (.cells (madeCells #[.int .i64 0, .int .i64 0] ((np + 2) * 2)) 57)).heap[wz.heap.size + 1]? = some (.cells (pstCells (List.replicate (np + 2) ⟨0, 0⟩)).toArray 57 (0, 0)) := by
        rw [← made_psts]
        have := heap_alloc_new (wz.alloc (.cells #[.string me, .slice aq np cq] 55)) (.cells (madeCells #[.int .i64 0, .int .i64 0] ((np + 2) * 2)) 57)
        simpa using this
      have hbx : Two ((wz.alloc (.cells #[.string me, .slice aq np cq] 55)).alloc (.cells (madeCells #[.int .i64 0, .int .i64 0] ((np + 2) * 2)) 57)) wz.heap.size (.string me) (.slice aq np cq) 55 := (Two.new wz _ _ _).below ((Below.refl _ _).alloc (Nat.le_refl _) _)
      obtain ⟨w2, hrun, hrow2, hb2', hgr⟩ := copy_psts pp aq np cq (wz.heap.size + 1) wz.heap.size wz _ hnp (hp2.below (hbz.trans (aX.mono hbz.size))) hnew aX (by omega)
      have hbx2 : Two w2 wz.heap.size (.string me) (.slice aq np cq) 55 := (hgr.block wz.heap.size (lt_of_block hbx) (by simp)).trans hbx
      obtain ⟨⟨m0, mf0⟩, ⟨m1, mf1⟩, hrow3⟩ := spare_marks hnp hrow2
      have b3 : Below wz.heap.size wz ((w2.setCell ⟨wz.heap.size + 1, np * 2, none⟩ (.int .i64 77)).setCell ⟨wz.heap.size + 1, (np + 1) * 2, none⟩ (.int .i64 77)) := (hb2'.setCell (by show _ ≤ wz.heap.size + 1; omega) _).setCell (by show _ ≤ wz.heap.size + 1; omega) _
      have hbx3 : Two ((w2.setCell ⟨wz.heap.size + 1, np * 2, none⟩ (.int .i64 77)).setCell ⟨wz.heap.size + 1, (np + 1) * 2, none⟩ (.int .i64 77)) wz.heap.size (.string me) (.slice aq np cq) 55 := by
        show _ = _
        rw [heap_setCell_other _ ⟨wz.heap.size + 1, (np + 1) * 2, none⟩ wz.heap.size _ (by show wz.heap.size ≠ wz.heap.size + 1; omega), heap_setCell_other _ ⟨wz.heap.size + 1, np * 2, none⟩ wz.heap.size _ (by show wz.heap.size ≠ wz.heap.size + 1; omega)]
        exact hbx2
      have HS3 : Hid (SpW w ((w2.setCell ⟨wz.heap.size + 1, np * 2, none⟩ (.int .i64 77)).setCell ⟨wz.heap.size + 1, (np + 1) * 2, none⟩ (.int .i64 77)) n k k (.slice (some ⟨b2, off2, none⟩) n cap) es ls ms vM) := HS.out.below b3
      have HR3 : Hid (((w2.setCell ⟨wz.heap.size + 1, np * 2, none⟩ (.int .i64 77)).setCell ⟨wz.heap.size + 1, (np + 1) * 2, none⟩ (.int .i64 77)).heap[wz.heap.size + 1]? = some (.cells (pstCells (pp ++ spareP)).toArray 57 (0, 0))) := hrow3
      have hz4 : w.heap.size + 4 < wz.heap.size := lt_of_block HS.out.box
      obtain ⟨bx0, bx1⟩ := hbx.cells
      obtain ⟨by0, by1⟩ := hbx2.cells
      have hz : aq = none → np = 0 := fun e => by
        rcases hp2 with h0 | ⟨_, _, e', _⟩
        · omega
        · rw [e] at e'; simp at e'
      have i3 : (0 : Int) ≤ (np : Int) := by omega
      have i4 : (np : Int) < ((np + 2 : Nat) : Int) := by omega
      have i5 : ((np + 1 : Nat) : Int) < ((np + 2 : Nat) : Int) := by omega
      have i6 : (0 : Int) ≤ ((np + 1 : Nat) : Int) := by omega
      have i7 : (np : Int) ≤ ((np + 2 : Nat) : Int) := by omega
      clear hme hpp hnp hm2 hc2 hnew hbx hbx2 hrow2 hrow3 hgr hb2' aX hp2 HS
      go_wp2_with fail
      clear x0 x1 x2 hmkP hrun m0 mf0 m1 mf1 bx0 bx1 by0 by1
      generalize (w2.setCell ⟨wz.heap.size + 1, np * 2, none⟩ (.int .i64 77)).setCell ⟨wz.heap.size + 1, (np + 1) * 2, none⟩ (.int .i64 77) = W3 at *
      obtain ⟨c0, c1, f0, f1⟩ := HS3.out.row.cells (i := k) (Nat.le_refl _) (by omega)
      obtain ⟨by0, by1⟩ := hbx3.cells
      have c0' : W3.cell? ⟨w.heap.size + 1 + 1 + 1, k * 2, none⟩ = some (.string ByteArray.empty) := c0
      have c1' : W3.cell? ⟨w.heap.size + 1 + 1 + 1, k * 2 + 1, none⟩ = some (.slice none 0 0) := c1
      have f0' : W3.frozen? ⟨w.heap.size + 1 + 1 + 1, k * 2, none⟩ = false := f0
      have f1' : W3.frozen? ⟨w.heap.size + 1 + 1 + 1, k * 2 + 1, none⟩ = false := f1
      have g2 : (k : Int) < ((n + 2 : Nat) : Int) := by omega
      clear c0 c1 f0 f1
      go_region
      have HS4 : Hid (SpW w (((W3.setCell ⟨w.heap.size + 1 + 1 + 1, k * 2, none⟩ (.string me)).setCell ⟨w.heap.size + 1 + 1 + 1, k * 2 + 1, none⟩ (.slice (some ⟨wz.heap.size + 1, 0, none⟩) np (np + 2))).drew) n (k + 1) k (.slice (some ⟨b2, off2, none⟩) n cap) es (ls ++ [.slice (some ⟨wz.heap.size + 1, 0, none⟩) np (np + 2)]) ms vM) := by
        have := HS3.out.put hka HN.out (.slice (some ⟨wz.heap.size + 1, 0, none⟩) np (np + 2))
        rw [HK.out.1] at this
        exact this.below (Below.refl _ _).drew
      have HR4 : Hid ((((W3.setCell ⟨w.heap.size + 1 + 1 + 1, k * 2, none⟩ (.string me)).setCell ⟨w.heap.size + 1 + 1 + 1, k * 2 + 1, none⟩ (.slice (some ⟨wz.heap.size + 1, 0, none⟩) np (np + 2))).drew).heap[wz.heap.size + 1]? = some (.cells (pstCells (pp ++ spareP)).toArray 57 (0, 0))) := by
        show ((W3.setCell _ _).setCell _ _).heap[wz.heap.size + 1]? = _
        rw [heap_setCell_other _ ⟨w.heap.size + 1 + 1 + 1, k * 2 + 1, none⟩ _ _ (by show wz.heap.size + 1 ≠ w.heap.size + 1 + 1 + 1; omega), heap_setCell_other _ ⟨w.heap.size + 1 + 1 + 1, k * 2, none⟩ _ _ (by show wz.heap.size + 1 ≠ w.heap.size + 1 + 1 + 1; omega)]
        exact HR3.out
      have hbx4 : Two (((W3.setCell ⟨w.heap.size + 1 + 1 + 1, k * 2, none⟩ (.string me)).setCell ⟨w.heap.size + 1 + 1 + 1, k * 2 + 1, none⟩ (.slice (some ⟨wz.heap.size + 1, 0, none⟩) np (np + 2))).drew) wz.heap.size (.string me) (.slice aq np cq) 55 := by
        show ((W3.setCell _ _).setCell _ _).heap[wz.heap.size]? = _
        rw [heap_setCell_other _ ⟨w.heap.size + 1 + 1 + 1, k * 2 + 1, none⟩ _ _ (by show wz.heap.size ≠ w.heap.size + 1 + 1 + 1; omega), heap_setCell_other _ ⟨w.heap.size + 1 + 1 + 1, k * 2, none⟩ _ _ (by show wz.heap.size ≠ w.heap.size + 1 + 1 + 1; omega)]
        exact hbx3
      have hls : ls.length = k := HS3.out.lens
      have hmsr3 := HS3.out.msr
      obtain ⟨aoM, capM, eM⟩ : ∃ aoM capM, vM = .slice aoM k capM := by
        rcases hmsr3.2 with ⟨e1, e2⟩ | ⟨g, c, cur, e1, _⟩
        · exact ⟨none, 0, by rw [e1, e2]⟩
        · exact ⟨_, c, e1⟩
      subst eM
      clear HS3 HR3 hbx3 by0 by1 c0' c1' f0' f1' hmsr3
      generalize ((W3.setCell ⟨w.heap.size + 1 + 1 + 1, k * 2, none⟩ (.string me)).setCell ⟨w.heap.size + 1 + 1 + 1, k * 2 + 1, none⟩ (.slice (some ⟨wz.heap.size + 1, 0, none⟩) np (np + 2))).drew = W4 at *
      obtain ⟨by0, by1⟩ := hbx4.cells
      rcases aq with _ | ad
      · have hn0 : Hid (np = 0) := hz rfl
        clear hz
        obtain ⟨d1, df1⟩ : W4.cell? ⟨w.heap.size + 1 + 1 + 1, k * 2 + 1, none⟩ = some (.slice (some ⟨wz.heap.size + 1, 0, none⟩) np (np + 2)) ∧ W4.frozen? ⟨w.heap.size + 1 + 1 + 1, k * 2 + 1, none⟩ = false := by
          obtain ⟨cur, a, _, c, _⟩ := HS4.out.row
          refine ⟨?_, by simp [World.frozen?, a]⟩
          have e : W4.cell? ⟨w.heap.size + 3, k * 2 + 1, none⟩ = _ := cell_of_row W4 _ (k * 2 + 1) _ _ _ a
          refine e.trans ((c k hka (by omega)).2.trans ?_)
          rw [List.getElem?_append_right (by omega), hls, Nat.sub_self]; rfl
        have HS5 : Hid (SpW w (W4.setCell ⟨w.heap.size + 1 + 1 + 1, k * 2 + 1, none⟩ (.slice none 0 0)) n (k + 1) k (.slice (some ⟨b2, off2, none⟩) n cap) es (ls ++ [.slice none 0 0]) ms (.slice aoM k capM)) := HS4.out.last hka HN.out hls (.slice none 0 0)
        have HR5 : Hid ((W4.setCell ⟨w.heap.size + 1 + 1 + 1, k * 2 + 1, none⟩ (.slice none 0 0)).heap[wz.heap.size + 1]? = some (.cells (pstCells (pp ++ spareP)).toArray 57 (0, 0))) := by
          show _ = _
          rw [heap_setCell_other _ ⟨w.heap.size + 1 + 1 + 1, k * 2 + 1, none⟩ _ _ (by show wz.heap.size + 1 ≠ w.heap.size + 1 + 1 + 1; omega)]
          exact HR4.out
        have HD5 : Hid ((ls ++ [.slice none 0 0])[k]? = some (.slice (some ⟨wz.heap.size + 1, 0, none⟩) np (np + 2)) ∨ (np = 0 ∧ (ls ++ [.slice none 0 0])[k]? = some (.slice none 0 0))) := Or.inr ⟨hn0.out, by rw [List.getElem?_append_right (by omega), hls, Nat.sub_self]; rfl⟩
        obtain ⟨y0, y1⟩ := HS5.out.box.cells
        have y1' : (W4.setCell ⟨w.heap.size + 1 + 1 + 1, k * 2 + 1, none⟩ (.slice none 0 0)).cell? ⟨w.heap.size + 1 + 1 + 1 + 1, 1, none⟩ = some (.slice aoM k capM) := y1
        have hmsr := HS5.out.msr
        have hsz : w.heap.size + 5 ≤ (W4.setCell ⟨w.heap.size + 1 + 1 + 1, k * 2 + 1, none⟩ (.slice none 0 0)).heap.size := lt_of_block HS5.out.box
        generalize ls ++ [.slice none 0 0] = ls5 at *
        go_wp2_with (at_builtin; (refine wpList_append_lies _ rfl _ _ 25 rfl (w.heap.size + 5) 53 q0 (.slice none 0 0) 1 24 Tryz.underlying25 qi qz0 qz1 qz2 rfl (by decide) (.slice aoM k capM) k ms rfl (hmsr.alloc _) ⟨W4.heap.size, 0, none⟩ 1 1 [.slice (some ⟨wz.heap.size + 1, 0, none⟩) (np + 2) (np + 2)] rfl rfl (World.news_of_block (cs := #[.slice (some ⟨wz.heap.size + 1, 0, none⟩) (np + 2) (np + 2)]) (t := 53) (fr := (0, 0)) (by have := heap_alloc_new (W4.setCell ⟨w.heap.size + 1 + 1 + 1, k * 2 + 1, none⟩ (.slice none 0 0)) (.cells #[.slice (some ⟨wz.heap.size + 1, 0, none⟩) (np + 2) (np + 2)] 53); simpa using this)) (by intro u hu; simp at hu; subst hu; rfl) (by omega) (by unfold maxLen; omega) (by omega) (by simp at hsz ⊢; omega) (W4.heap.size + 1) (by simp) ?_))
        intro g cap' w5 hown5 hgrow _ hlt5
        obtain ⟨bx5, hs6⟩ := HS5.out.push ((Below.refl _ _).alloc (Nat.le_refl _) _) hgrow hown5 hka ⟨wz.heap.size + 1, by omega, by rw [HK.out.2.1, HK.out.2.2], by rw [HK.out.2.1, HK.out.2.2]; exact HD5.out, by rw [HK.out.2.1]; exact (Below.heap_alloc _ _ _ (lt_of_block HR5.out)).trans HR5.out⟩
        have HS6 : Hid (SpW w (w5.setCell ⟨w.heap.size + 1 + 1 + 1 + 1, 1, none⟩ (.slice (some ⟨g, 0, none⟩) (k + 1) cap')) n (k + 1) (k + 1) (.slice (some ⟨b2, off2, none⟩) n cap) es ls5 (ms ++ [.slice (some ⟨wz.heap.size + 1, 0, none⟩) (np + 2) (np + 2)]) (.slice (some ⟨g, 0, none⟩) (k + 1) cap')) := hs6
        obtain ⟨z0, z1⟩ := bx5.cells
        have z1' : w5.cell? ⟨w.heap.size + 1 + 1 + 1 + 1, 1, none⟩ = some (.slice aoM k capM) := z1
        have zf : w5.frozen? ⟨w.heap.size + 1 + 1 + 1 + 1, 1, none⟩ = false := by
          have hb : w5.heap[w.heap.size + 1 + 1 + 1 + 1]? = _ := bx5
          simp [World.frozen?, hb]
        clear hs6 bx5 z0 z1 hown5 hgrow HS5 HR5 HD5 hmsr y0 y1 y1' HS4 HR4 hbx4
        go_wp2_with fail
        go_roundw
        case rel => exact ⟨k + 1, by omega, by go_num, _, _, _, HS6⟩
        case measure => simp [intOf]; omega
      · have HS5 : Hid (SpW w W4 n (k + 1) k (.slice (some ⟨b2, off2, none⟩) n cap) es (ls ++ [.slice (some ⟨wz.heap.size + 1, 0, none⟩) np (np + 2)]) ms (.slice aoM k capM)) := HS4
        have HR5 := HR4
        have HD5 : Hid ((ls ++ [.slice (some ⟨wz.heap.size + 1, 0, none⟩) np (np + 2)])[k]? = some (.slice (some ⟨wz.heap.size + 1, 0, none⟩) np (np + 2)) ∨ (np = 0 ∧ (ls ++ [.slice (some ⟨wz.heap.size + 1, 0, none⟩) np (np + 2)])[k]? = some (.slice none 0 0))) := Or.inl (by rw [List.getElem?_append_right (by omega), hls, Nat.sub_self]; rfl)
        obtain ⟨y0, y1⟩ := HS5.out.box.cells
        have y1' : W4.cell? ⟨w.heap.size + 1 + 1 + 1 + 1, 1, none⟩ = some (.slice aoM k capM) := y1
        have hmsr := HS5.out.msr
        have hsz : w.heap.size + 5 ≤ W4.heap.size := lt_of_block HS5.out.box
        generalize ls ++ [.slice (some ⟨wz.heap.size + 1, 0, none⟩) np (np + 2)] = ls5 at *
        go_wp2_with (at_builtin; (refine wpList_append_lies _ rfl _ _ 25 rfl (w.heap.size + 5) 53 q0 (.slice none 0 0) 1 24 Tryz.underlying25 qi qz0 qz1 qz2 rfl (by decide) (.slice aoM k capM) k ms rfl (hmsr.alloc _) ⟨W4.heap.size, 0, none⟩ 1 1 [.slice (some ⟨wz.heap.size + 1, 0, none⟩) (np + 2) (np + 2)] rfl rfl (World.news_of_block (cs := #[.slice (some ⟨wz.heap.size + 1, 0, none⟩) (np + 2) (np + 2)]) (t := 53) (fr := (0, 0)) (heap_alloc_new W4 _)) (by intro u hu; simp at hu; subst hu; rfl) (by omega) (by unfold maxLen; omega) (by omega) (by simp at hsz ⊢; omega) (W4.heap.size + 1) (by simp) ?_))
        intro g cap' w5 hown5 hgrow _ hlt5
        obtain ⟨bx5, hs6⟩ := HS5.out.push ((Below.refl _ _).alloc (Nat.le_refl _) _) hgrow hown5 hka ⟨wz.heap.size + 1, by omega, by rw [HK.out.2.1, HK.out.2.2], by rw [HK.out.2.1, HK.out.2.2]; exact HD5.out, by rw [HK.out.2.1]; exact (Below.heap_alloc _ _ _ (lt_of_block HR5.out)).trans HR5.out⟩
        have HS6 : Hid (SpW w (w5.setCell ⟨w.heap.size + 1 + 1 + 1 + 1, 1, none⟩ (.slice (some ⟨g, 0, none⟩) (k + 1) cap')) n (k + 1) (k + 1) (.slice (some ⟨b2, off2, none⟩) n cap) es ls5 (ms ++ [.slice (some ⟨wz.heap.size + 1, 0, none⟩) (np + 2) (np + 2)]) (.slice (some ⟨g, 0, none⟩) (k + 1) cap')) := hs6
        obtain ⟨z0, z1⟩ := bx5.cells
        have z1' : w5.cell? ⟨w.heap.size + 1 + 1 + 1 + 1, 1, none⟩ = some (.slice aoM k capM) := z1
        have zf : w5.frozen? ⟨w.heap.size + 1 + 1 + 1 + 1, 1, none⟩ = false := by
          have hb : w5.heap[w.heap.size + 1 + 1 + 1 + 1]? = _ := bx5
          simp [World.frozen?, hb]
        clear hs6 bx5 z0 z1 hown5 hgrow HS5 HR5 HD5 hmsr y0 y1 y1' HS4 HR4 hbx4
        go_wp2_with fail
        go_roundw
        case rel => exact ⟨k + 1, by omega, by go_num, _, _, _, HS6⟩
        case measure => simp [intOf]; omega
    · have hkn : k = n := by omega
      subst hkn
      have g1 : ¬ (k : Int) < (k : Int) := by omega
      obtain ⟨c0, _, f0, _⟩ := HS.out.row.cells (i := k) (Nat.le_refl _) (by omega)
      obtain ⟨c1, _, f1, _⟩ := HS.out.row.cells (i := k + 1) (by omega) (by omega)
      have c0' : wz.cell? ⟨w.heap.size + 1 + 1 + 1, k * 2, none⟩ = some (.string ByteArray.empty) := c0
      have c1' : wz.cell? ⟨w.heap.size + 1 + 1 + 1, (k + 1) * 2, none⟩ = some (.string ByteArray.empty) := c1
      have f0' : wz.frozen? ⟨w.heap.size + 1 + 1 + 1, k * 2, none⟩ = false := f0
      have f1' : wz.frozen? ⟨w.heap.size + 1 + 1 + 1, (k + 1) * 2, none⟩ = false := f1
      have j2 : (k : Int) < ((k + 2 : Nat) : Int) := by omega
      have j3 : ((k + 1 : Nat) : Int) < ((k + 2 : Nat) : Int) := by omega
      have j4 : (0 : Int) ≤ ((k + 1 : Nat) : Int) := by omega
      have j5 : (0 : Int) ≤ (k : Int) := by omega
      have j6 : (k : Int) ≤ ((k + 2 : Nat) : Int) := by omega
      obtain ⟨xb0, xb1⟩ : wz.cell? ⟨w.heap.size + 1 + 1 + 1 + 1, 0, none⟩ = some (.slice none 0 0) ∧ wz.cell? ⟨w.heap.size + 1 + 1 + 1 + 1, 1, none⟩ = some vM := HS.out.box.cells
      obtain ⟨xf0, xf1⟩ : wz.frozen? ⟨w.heap.size + 1 + 1 + 1 + 1, 0, none⟩ = false ∧ wz.frozen? ⟨w.heap.size + 1 + 1 + 1 + 1, 1, none⟩ = false := by
        have hb : wz.heap[w.heap.size + 1 + 1 + 1 + 1]? = _ := HS.out.box
        exact ⟨by simp [World.frozen?, hb], by simp [World.frozen?, hb]⟩
      obtain ⟨ra, raf⟩ : wz.cell? ⟨w.heap.size + 1, 0, none⟩ = some (.slice none 0 0) ∧ wz.frozen? ⟨w.heap.size + 1, 0, none⟩ = false := by
        have hb := HS.out.res1
        exact ⟨by rw [cell_of_row wz _ _ _ _ _ hb]; rfl, by simp [World.frozen?, hb]⟩
      obtain ⟨rb, rc⟩ : wz.cell? ⟨w.heap.size + 1 + 1, 0, none⟩ = some (.slice none 0 0) ∧ wz.cell? ⟨w.heap.size + 1 + 1, 1, none⟩ = some (.slice none 0 0) := HS.out.res2.cells
      obtain ⟨rbf, rcf⟩ : wz.frozen? ⟨w.heap.size + 1 + 1, 0, none⟩ = false ∧ wz.frozen? ⟨w.heap.size + 1 + 1, 1, none⟩ = false := by
        have hb : wz.heap[w.heap.size + 1 + 1]? = _ := HS.out.res2
        exact ⟨by simp [World.frozen?, hb], by simp [World.frozen?, hb]⟩
      clear c0 c1 f0 f1
      obtain ⟨aoM, capM, eM⟩ : ∃ aoM capM, vM = .slice aoM k capM := by
        rcases HS.out.msr.2 with ⟨e1, e2⟩ | ⟨g, c, cur, e1, _⟩
        · exact ⟨none, 0, by rw [e1, e2]⟩
        · exact ⟨_, c, e1⟩
      subst eM
      go_wp2_with fail
      go_region
      have HF : Hid (Spared (((((((wz.setCell ⟨w.heap.size + 1 + 1 + 1, k * 2, none⟩ (.string beyondT)).setCell ⟨w.heap.size + 1 + 1 + 1, (k + 1) * 2, none⟩ (.string beyondT)).setCell ⟨w.heap.size + 1 + 1 + 1 + 1, 0, none⟩ (.slice (some ⟨w.heap.size + 1 + 1 + 1, 0, none⟩) (k + 2) (k + 2))).setCell ⟨w.heap.size + 1, 0, none⟩ (.slice (some ⟨w.heap.size + 1 + 1 + 1, 0, none⟩) k (k + 2))).setCell ⟨w.heap.size + 1 + 1, 0, none⟩ (.slice (some ⟨w.heap.size + 1 + 1 + 1, 0, none⟩) (k + 2) (k + 2))).setCell ⟨w.heap.size + 1 + 1, 1, none⟩ (.slice aoM k capM)).drew) w.heap.size (w.heap.size + 1 + 1 + 1) k aoM es ∧ Below w.heap.size w (((((((wz.setCell ⟨w.heap.size + 1 + 1 + 1, k * 2, none⟩ (.string beyondT)).setCell ⟨w.heap.size + 1 + 1 + 1, (k + 1) * 2, none⟩ (.string beyondT)).setCell ⟨w.heap.size + 1 + 1 + 1 + 1, 0, none⟩ (.slice (some ⟨w.heap.size + 1 + 1 + 1, 0, none⟩) (k + 2) (k + 2))).setCell ⟨w.heap.size + 1, 0, none⟩ (.slice (some ⟨w.heap.size + 1 + 1 + 1, 0, none⟩) k (k + 2))).setCell ⟨w.heap.size + 1 + 1, 0, none⟩ (.slice (some ⟨w.heap.size + 1 + 1 + 1, 0, none⟩) (k + 2) (k + 2))).setCell ⟨w.heap.size + 1 + 1, 1, none⟩ (.slice aoM k capM)).drew)) := ⟨(HS.out.fin HN.out).1, (HS.out.fin HN.out).2.1⟩
      obtain ⟨_, _, fa, fb, fc⟩ := HS.out.fin HN.out
      clear HS c0' c1' f0' f1'
      generalize ((((((wz.setCell ⟨w.heap.size + 1 + 1 + 1, k * 2, none⟩ (.string beyondT)).setCell ⟨w.heap.size + 1 + 1 + 1, (k + 1) * 2, none⟩ (.string beyondT)).setCell ⟨w.heap.size + 1 + 1 + 1 + 1, 0, none⟩ (.slice (some ⟨w.heap.size + 1 + 1 + 1, 0, none⟩) (k + 2) (k + 2))).setCell ⟨w.heap.size + 1, 0, none⟩ (.slice (some ⟨w.heap.size + 1 + 1 + 1, 0, none⟩) k (k + 2))).setCell ⟨w.heap.size + 1 + 1, 0, none⟩ (.slice (some ⟨w.heap.size + 1 + 1 + 1, 0, none⟩) (k + 2) (k + 2))).setCell ⟨w.heap.size + 1 + 1, 1, none⟩ (.slice aoM k capM)).drew = WF at *
      clear xb0 xb1 xf0 xf1 ra raf rb rc rbf rcf
      go_wp2_with fail
      refine bodyPost_ret (v := .tuple #[.agg #[.slice (some ⟨w.heap.size + 1 + 1 + 1, 0, none⟩) k (k + 2)], .agg #[.slice (some ⟨w.heap.size + 1 + 1 + 1, 0, none⟩) (k + 2) (k + 2), .slice aoM k capM]]) (by simp [results, Tryz.results6, go_sem, fa, fb, fc]) rfl ⟨_, _, _, rfl, HF.out.1, HF.out.2⟩
end Go.Proofs.YtpkkhkkkgjhkeaaGreat

/-
  A PERIOD, A HISTORY that came in, opened: rows within rows.
-/
namespace Go.Proofs.YtpkkhkkkgjhkeaaGreat
set_option maxRecDepth 100000
open Go.ChangeShapes Go.WideShapes Go.ChangeAt Go.RowKit

theorem Tryz.cells1 : Tryz.prog.cellsOf 3 = 1 := by kernel_rfl
theorem Tryz.cellsPst : Tryz.prog.cellsOf 57 = 2 := by kernel_rfl
theorem Tryz.bytesPst : Tryz.prog.bytesOf 57 = 16 := by kernel_rfl
theorem Tryz.cellsEnt : Tryz.prog.cellsOf 55 = 2 := by kernel_rfl
theorem Tryz.bytesEnt : Tryz.prog.bytesOf 55 = 40 := by kernel_rfl
theorem Tryz.cellsPer : Tryz.prog.cellsOf 24 = 1 := by kernel_rfl
theorem Tryz.bytesPer : Tryz.prog.bytesOf 24 = 24 := by kernel_rfl
theorem Tryz.cellsAcc : Tryz.prog.cellsOf 66 = 2 := by kernel_rfl
theorem Tryz.bytesAcc : Tryz.prog.bytesOf 66 = 24 := by kernel_rfl
theorem Tryz.cellsHis : Tryz.prog.cellsOf 36 = 2 := by kernel_rfl
theorem Tryz.cellsPsts : Tryz.prog.cellsOf 53 = 1 := by kernel_rfl
theorem Tryz.cellsEnts : Tryz.prog.cellsOf 22 = 1 := by kernel_rfl
theorem Tryz.cellsPers : Tryz.prog.cellsOf 34 = 1 := by kernel_rfl
theorem Tryz.cellsAccs : Tryz.prog.cellsOf 33 = 1 := by kernel_rfl
theorem fits_of_wf {n : Int} (h : (Lit.int .i64 n).wf = true) : Sg.fits n = true := by
  have : -9223372036854775808 ≤ n ∧ n ≤ 9223372036854775807 := by simpa [Lit.wf, IntKind.min, IntKind.max, IntKind.signed, IntKind.bits] using h
  exact decide_eq_true this
theorem weights_mem_all {H : Type} {e : TypeId} {d : DataW H} {n : Nat} (hn : n ∈ d.weights Tryz.prog e) : ∀ {l : List (DataW H)}, d ∈ l → n ∈ DataW.weightsAll Tryz.prog e l
  | x :: r, h => by
    simp only [DataW.weightsAll, List.mem_append]
    rcases List.mem_cons.1 h with rfl | h
    · exact Or.inl hn
    · exact Or.inr (weights_mem_all hn h)

/-- A row that came in, by its elements. -/
theorem open_row {H : Type} {enc : TypeId × Value → H} {W : World} {n c z : Nat} {t e : TypeId} {v : Value} {x : DataW H × List MemPlace} {α : Type} [Inhabited α] {Q : List Value → α → Prop}
    (hu : Tryz.prog.underlying t = some (.slice e)) (hc : Tryz.prog.cellsOf e = c) (hz : Tryz.prog.bytesOf e = z) (h0 : 0 < c)
    (h : DataW.trod enc Tryz.prog W 0 (fun _ => true) true n t [v] = some x) (hw : ∀ y ∈ x.1.weights Tryz.prog t, y ≤ reachBytes)
    (one : ∀ m cs y, DataW.trod enc Tryz.prog W 0 (fun _ => true) true m e cs = some y → (∀ u ∈ y.1.weights Tryz.prog e, u ≤ reachBytes) → ∃ a, Q cs a) :
    ∃ ao len cap, ∃ l : List α, v = .slice ao len cap ∧ l.length = len ∧ len ≤ cap ∧ cap * z ≤ 140737488351232 ∧ (ao = none → cap = 0) ∧
      (∀ a ∈ l, ∃ cs, Q cs a) ∧
      (l.length = 0 ∨ ∃ b off, ao = some ⟨b, off, none⟩ ∧ b < W.heap.size ∧ ∀ i (hi : i < l.length), ∃ cs, Q cs l[i] ∧ cs.length = c ∧ ∀ j, j < c → W.cell? ⟨b, off + i * c + j, none⟩ = cs[j]?) := by
  rcases Go.Deep.open_slice hu h with ⟨hcs, _⟩ | ⟨a, len, cap, m, k, D, Pl, hcs, _, hl, _, hm, rfl, hel⟩
  · simp only [List.cons.injEq, and_true] at hcs
    subst hcs
    exact ⟨none, 0, 0, [], rfl, rfl, Nat.le_refl _, by omega, fun _ => rfl, by simp, Or.inl rfl⟩
  · simp only [List.cons.injEq, and_true] at hcs
    subst hcs
    simp only [if_true] at hm
    subst hm
    simp only [DataW.weights, hu] at hw
    have hs := hw _ (List.mem_cons_self ..)
    rw [hz] at hs
    simp only [List.length_map, List.length_range, reachBytes] at hs
    rw [hc] at hel
    have each : ∀ i, i < len → ∃ q : α, ∃ cs, Q cs q ∧ cs.length = c ∧ ∀ j, j < c → W.cell? (a.add (i * c + j)) = cs[j]? := by
      intro i hi
      obtain ⟨cs, h1, h2⟩ := hel i (by omega)
      obtain ⟨_, hcl, hcell⟩ := World.cells?_some h1
      obtain ⟨q, hq⟩ := one _ _ _ h2 (fun u hu' => hw u (List.mem_cons_of_mem _ (List.mem_append.2 (Or.inl (weights_mem_all hu' (List.mem_map.2 ⟨i, List.mem_range.2 hi, rfl⟩))))))
      refine ⟨q, cs, hq, hcl, fun j hj => ?_⟩
      have := hcell j hj
      rw [Go.Deep.add_add] at this
      exact this
    obtain ⟨q, hq⟩ := Go.Deep.choose_lt each
    have hll : ((List.range len).map q).length = len := by simp
    refine ⟨some a, len, m, (List.range len).map q, rfl, hll, hl, ?_, fun hh => (by simp at hh), ?_, ?_⟩
    · have : len + (m - len) = m := by omega
      rw [this] at hs
      exact hs
    · intro y hy
      simp only [List.mem_map, List.mem_range] at hy
      obtain ⟨i, hi, rfl⟩ := hy
      obtain ⟨cs, h1, _⟩ := hq i hi
      exact ⟨cs, h1⟩
    · by_cases hlen : len = 0
      · exact Or.inl (by rw [hll]; exact hlen)
      · right
        obtain ⟨b, off, spot⟩ := a
        obtain ⟨cs0, _, hl0, hc0⟩ := hq 0 (by omega)
        have hc00 := hc0 0 h0
        rw [List.getElem?_eq_getElem (by omega)] at hc00
        have hspot : spot = none := by simpa [Addr.add] using World.cell?_spot hc00
        subst hspot
        have hbl : b < W.heap.size := by
          have hh := World.block_lt_of_cell? W _ hc00
          simpa [Addr.add] using hh
        refine ⟨b, off, rfl, hbl, fun i hi => ?_⟩
        have hi' : i < len := by rw [hll] at hi; exact hi
        obtain ⟨cs, h1, h2, h3⟩ := hq i hi'
        have ea : ∀ k, Addr.add ⟨b, off, none⟩ k = ⟨b, off + k, none⟩ := fun k => by cases k <;> simp [Addr.add]
        refine ⟨cs, ?_, h2, fun j hj => ?_⟩
        · simp only [List.getElem_map, List.getElem_range]; exact h1
        · have := h3 j hj
          rw [ea, ← Nat.add_assoc] at this
          exact this


/-- One posting. -/
def IsPst (cs : List Value) (q : Sg.Pst) : Prop := cs = [.int .i64 q.acct, .int .i64 q.amt] ∧ Sg.fits q.acct = true ∧ Sg.fits q.amt = true
theorem open_pst {H : Type} {enc : TypeId × Value → H} {W : World} {n : Nat} {cs : List Value} {x : DataW H × List MemPlace} (h : DataW.trod enc Tryz.prog W 0 (fun _ => true) true n 57 cs = some x) : ∃ q, IsPst cs q := by
  obtain ⟨xs, k, _, _, hcl, hxl, hf⟩ := DataW.trod_struct Tryz.underlying57 h
  rw [Tryz.cellsPst] at hcl
  match cs, hcl with
  | [c0, c1], _ =>
    match xs, hxl with
    | [y0, y1], _ =>
      have g0 : DataW.trod enc Tryz.prog W 0 (fun _ => true) true k 3 (([c0, c1].drop 0).take (Tryz.prog.cellsOf 3)) = some y0 := hf 0 { name := "Account", type := 3, offset := 0, embedded := false, tag := "", pkgPath := "", byteOffset := 0 } rfl
      have g1 : DataW.trod enc Tryz.prog W 0 (fun _ => true) true k 3 (([c0, c1].drop 1).take (Tryz.prog.cellsOf 3)) = some y1 := hf 1 { name := "Amount", type := 3, offset := 1, embedded := false, tag := "", pkgPath := "", byteOffset := 8 } rfl
      rw [Tryz.cells1] at g0 g1
      simp only [List.drop_succ_cons, List.drop_zero, List.take_succ_cons, List.take_zero] at g0 g1
      obtain ⟨a, e0, _, ha⟩ := DataW.trod_int Tryz.underlying3 g0
      obtain ⟨b, e1, _, hb⟩ := DataW.trod_int Tryz.underlying3 g1
      simp only [List.cons.injEq, and_true] at e0 e1
      subst e0 e1
      exact ⟨⟨a, b⟩, rfl, fits_of_wf ha, fits_of_wf hb⟩
theorem open_psts {H : Type} {enc : TypeId × Value → H} {W : World} {n : Nat} {v : Value} {x : DataW H × List MemPlace} (h : DataW.trod enc Tryz.prog W 0 (fun _ => true) true n 53 [v] = some x) (hw : ∀ y ∈ x.1.weights Tryz.prog 53, y ≤ reachBytes) :
    ∃ ao len cap qs, v = .slice ao len cap ∧ qs.length = len ∧ len ≤ 8796093021952 ∧ PstsIn W ao qs ∧ ∀ q ∈ qs, Sg.fits q.acct = true ∧ Sg.fits q.amt = true := by
  haveI : Inhabited Sg.Pst := ⟨⟨0, 0⟩⟩
  obtain ⟨ao, len, cap, l, hv, hl, hlc, hcap, _, hall, hat⟩ := open_row Tryz.underlying53 Tryz.cellsPst Tryz.bytesPst (by omega) h hw (Q := IsPst) (fun m cs y hy _ => open_pst hy)
  refine ⟨ao, len, cap, l, hv, hl, by omega, ?_, fun q hq => ?_⟩
  · rcases hat with h0 | ⟨b, off, e, hb, hi⟩
    · exact Or.inl h0
    · refine Or.inr ⟨b, off, e, hb, fun i h => ?_⟩
      obtain ⟨cs, ⟨rfl, _⟩, _, hc⟩ := hi i h
      exact ⟨hc 0 (by omega), hc 1 (by omega)⟩
  · obtain ⟨cs, h1⟩ := hall q hq
    exact h1.2
/-- One entry. -/
def IsEnt (W : World) (cs : List Value) (e : Sg.Ent) : Prop := (∃ ao cap, cs = [.string e.memo, .slice ao e.posts.length cap] ∧ PstsIn W ao e.posts) ∧ e.memo.size ≤ 140737488351232 ∧ e.posts.length ≤ 8796093021952 ∧ ∀ q ∈ e.posts, Sg.fits q.acct = true ∧ Sg.fits q.amt = true
theorem open_ent {H : Type} {enc : TypeId × Value → H} {W : World} {n : Nat} {cs : List Value} {x : DataW H × List MemPlace} (h : DataW.trod enc Tryz.prog W 0 (fun _ => true) true n 55 cs = some x) (hw : ∀ y ∈ x.1.weights Tryz.prog 55, y ≤ reachBytes) : ∃ e, IsEnt W cs e := by
  obtain ⟨xs, k, _, rfl, hcl, hxl, hf⟩ := DataW.trod_struct Tryz.underlying55 h
  rw [Tryz.cellsEnt] at hcl
  match cs, hcl with
  | [c0, c1], _ =>
    match xs, hxl with
    | [y0, y1], _ =>
      have g0 : DataW.trod enc Tryz.prog W 0 (fun _ => true) true k 9 (([c0, c1].drop 0).take (Tryz.prog.cellsOf 9)) = some y0 := hf 0 { name := "Memo", type := 9, offset := 0, embedded := false, tag := "", pkgPath := "", byteOffset := 0 } rfl
      have g1 : DataW.trod enc Tryz.prog W 0 (fun _ => true) true k 53 (([c0, c1].drop 1).take (Tryz.prog.cellsOf 53)) = some y1 := hf 1 { name := "Postings", type := 53, offset := 1, embedded := false, tag := "", pkgPath := "", byteOffset := 16 } rfl
      rw [Tryz.cellsStr] at g0
      rw [Tryz.cellsPsts] at g1
      simp only [List.drop_succ_cons, List.drop_zero, List.take_succ_cons, List.take_zero] at g0 g1
      simp only [DataW.weights, Tryz.underlying55] at hw
      obtain ⟨s, e0, ey, _⟩ := DataW.trod_string Tryz.underlying9 g0
      simp only [List.cons.injEq, and_true] at e0
      subst e0 ey
      have w0 := hw s.data.toList.length (DataW.weights_mem_each (j := 0) (t := 9) rfl rfl _ (by simp only [DataW.weights]; exact List.mem_singleton.2 rfl))
      have es : s.data.toList.length = s.size := by rw [Array.length_toList]; rfl
      rw [es, reachBytes] at w0
      obtain ⟨ao, len, cap, qs, rfl, hl, hn, hin, hfit⟩ := open_psts g1 (fun y hy => hw y (DataW.weights_mem_each (j := 1) (t := 53) rfl rfl _ hy))
      subst hl
      exact ⟨⟨s, qs⟩, ⟨ao, cap, rfl, hin⟩, w0, hn, hfit⟩
theorem open_ents {H : Type} {enc : TypeId × Value → H} {W : World} {n : Nat} {v : Value} {x : DataW H × List MemPlace} (h : DataW.trod enc Tryz.prog W 0 (fun _ => true) true n 22 [v] = some x) (hw : ∀ y ∈ x.1.weights Tryz.prog 22, y ≤ reachBytes) :
    ∃ ao len cap es, v = .slice ao len cap ∧ es.length = len ∧ len ≤ 3518437208780 ∧ EntsIn W ao es ∧ ∀ e ∈ es, e.memo.size ≤ 140737488351232 ∧ e.posts.length ≤ 8796093021952 ∧ ∀ q ∈ e.posts, Sg.fits q.acct = true ∧ Sg.fits q.amt = true := by
  haveI : Inhabited Sg.Ent := ⟨⟨ByteArray.empty, []⟩⟩
  obtain ⟨ao, len, cap, l, hv, hl, hlc, hcap, _, hall, hat⟩ := open_row Tryz.underlying22 Tryz.cellsEnt Tryz.bytesEnt (by omega) h hw (Q := IsEnt W) (fun m cs y hy hy2 => open_ent hy hy2)
  refine ⟨ao, len, cap, l, hv, hl, by omega, ?_, fun q hq => ?_⟩
  · rcases hat with h0 | ⟨b, off, e, hb, hi⟩
    · exact Or.inl h0
    · refine Or.inr ⟨b, off, e, hb, fun i h => ?_⟩
      obtain ⟨cs, ⟨⟨ao', cap', rfl, hin⟩, _⟩, _, hc⟩ := hi i h
      exact ⟨hc 0 (by omega), ao', cap', hc 1 (by omega), hin⟩
  · obtain ⟨cs, h1⟩ := hall q hq
    exact h1.2
/-- One period. -/
def IsPer (W : World) (cs : List Value) (p : List Sg.Ent) : Prop := (∃ ao cap, cs = [.slice ao p.length cap] ∧ EntsIn W ao p) ∧ p.length ≤ 3518437208780 ∧ ∀ e ∈ p, e.memo.size ≤ 140737488351232 ∧ e.posts.length ≤ 8796093021952 ∧ ∀ q ∈ e.posts, Sg.fits q.acct = true ∧ Sg.fits q.amt = true
theorem open_per {H : Type} {enc : TypeId × Value → H} {W : World} {n : Nat} {cs : List Value} {x : DataW H × List MemPlace} (h : DataW.trod enc Tryz.prog W 0 (fun _ => true) true n 24 cs = some x) (hw : ∀ y ∈ x.1.weights Tryz.prog 24, y ≤ reachBytes) : ∃ p, IsPer W cs p := by
  obtain ⟨xs, k, _, rfl, hcl, hxl, hf⟩ := DataW.trod_struct Tryz.underlying24 h
  rw [Tryz.cellsPer] at hcl
  match cs, hcl with
  | [c0], _ =>
    match xs, hxl with
    | [y0], _ =>
      have g0 : DataW.trod enc Tryz.prog W 0 (fun _ => true) true k 22 (([c0].drop 0).take (Tryz.prog.cellsOf 22)) = some y0 := hf 0 { name := "Entries", type := 22, offset := 0, embedded := false, tag := "", pkgPath := "", byteOffset := 0 } rfl
      rw [Tryz.cellsEnts] at g0
      simp only [List.drop_zero, List.take_succ_cons, List.take_zero] at g0
      simp only [DataW.weights, Tryz.underlying24] at hw
      obtain ⟨ao, len, cap, es, rfl, hl, hn, hin, hfit⟩ := open_ents g0 (fun y hy => hw y (DataW.weights_mem_each (j := 0) (t := 22) rfl rfl _ hy))
      subst hl
      exact ⟨es, ⟨ao, cap, rfl, hin⟩, hn, hfit⟩
theorem open_pers {H : Type} {enc : TypeId × Value → H} {W : World} {n : Nat} {v : Value} {x : DataW H × List MemPlace} (h : DataW.trod enc Tryz.prog W 0 (fun _ => true) true n 34 [v] = some x) (hw : ∀ y ∈ x.1.weights Tryz.prog 34, y ≤ reachBytes) :
    ∃ ao len cap ps, v = .slice ao len cap ∧ ps.length = len ∧ len ≤ cap ∧ cap ≤ 5864062014634 ∧ PersIn W ao ps ∧ ∀ p ∈ ps, p.length ≤ 3518437208780 ∧ ∀ e ∈ p, e.memo.size ≤ 140737488351232 ∧ e.posts.length ≤ 8796093021952 ∧ ∀ q ∈ e.posts, Sg.fits q.acct = true ∧ Sg.fits q.amt = true := by
  obtain ⟨ao, len, cap, l, hv, hl, hlc, hcap, _, hall, hat⟩ := open_row Tryz.underlying34 Tryz.cellsPer Tryz.bytesPer (by omega) h hw (Q := IsPer W) (fun m cs y hy hy2 => open_per hy hy2)
  refine ⟨ao, len, cap, l, hv, hl, hlc, by omega, ?_, fun q hq => ?_⟩
  · rcases hat with h0 | ⟨b, off, e, hb, hi⟩
    · exact Or.inl h0
    · refine Or.inr ⟨b, off, e, hb, fun i h => ?_⟩
      obtain ⟨cs, ⟨⟨ao', cap', rfl, hin⟩, _⟩, _, hc⟩ := hi i h
      refine ⟨ao', cap', ?_, hin⟩
      have := hc 0 (by omega)
      rw [Nat.mul_one, Nat.add_zero] at this
      exact this
  · obtain ⟨cs, h1⟩ := hall q hq
    exact h1.2
/-- One account. -/
def IsAcc (cs : List Value) (a : Sg.Acc) : Prop := cs = [.string a.name, .int .i64 a.line] ∧ a.name.size ≤ 140737488351232 ∧ Sg.fits a.line = true
theorem open_acc {H : Type} {enc : TypeId × Value → H} {W : World} {n : Nat} {cs : List Value} {x : DataW H × List MemPlace} (h : DataW.trod enc Tryz.prog W 0 (fun _ => true) true n 66 cs = some x) (hw : ∀ y ∈ x.1.weights Tryz.prog 66, y ≤ reachBytes) : ∃ a, IsAcc cs a := by
  obtain ⟨xs, k, _, rfl, hcl, hxl, hf⟩ := DataW.trod_struct Tryz.underlying66 h
  rw [Tryz.cellsAcc] at hcl
  match cs, hcl with
  | [c0, c1], _ =>
    match xs, hxl with
    | [y0, y1], _ =>
      have g0 : DataW.trod enc Tryz.prog W 0 (fun _ => true) true k 9 (([c0, c1].drop 0).take (Tryz.prog.cellsOf 9)) = some y0 := hf 0 { name := "Name", type := 9, offset := 0, embedded := false, tag := "", pkgPath := "", byteOffset := 0 } rfl
      have g1 : DataW.trod enc Tryz.prog W 0 (fun _ => true) true k 3 (([c0, c1].drop 1).take (Tryz.prog.cellsOf 3)) = some y1 := hf 1 { name := "Line", type := 3, offset := 1, embedded := false, tag := "", pkgPath := "", byteOffset := 16 } rfl
      rw [Tryz.cellsStr] at g0
      rw [Tryz.cells1] at g1
      simp only [List.drop_succ_cons, List.drop_zero, List.take_succ_cons, List.take_zero] at g0 g1
      simp only [DataW.weights, Tryz.underlying66] at hw
      obtain ⟨s, e0, ey, _⟩ := DataW.trod_string Tryz.underlying9 g0
      obtain ⟨b, e1, _, hb⟩ := DataW.trod_int Tryz.underlying3 g1
      simp only [List.cons.injEq, and_true] at e0 e1
      subst e0 e1 ey
      have w0 := hw s.data.toList.length (DataW.weights_mem_each (j := 0) (t := 9) rfl rfl _ (by simp only [DataW.weights]; exact List.mem_singleton.2 rfl))
      have es : s.data.toList.length = s.size := by rw [Array.length_toList]; rfl
      rw [es, reachBytes] at w0
      exact ⟨⟨s, b⟩, rfl, w0, fits_of_wf hb⟩
theorem open_accs {H : Type} {enc : TypeId × Value → H} {W : World} {n : Nat} {v : Value} {x : DataW H × List MemPlace} (h : DataW.trod enc Tryz.prog W 0 (fun _ => true) true n 33 [v] = some x) (hw : ∀ y ∈ x.1.weights Tryz.prog 33, y ≤ reachBytes) :
    ∃ ao len cap ac, v = .slice ao len cap ∧ ac.length = len ∧ len ≤ cap ∧ cap ≤ 5864062014634 ∧ AccsIn W ao ac ∧ ∀ a ∈ ac, a.name.size ≤ 140737488351232 ∧ Sg.fits a.line = true := by
  haveI : Inhabited Sg.Acc := ⟨⟨ByteArray.empty, 0⟩⟩
  obtain ⟨ao, len, cap, l, hv, hl, hlc, hcap, _, hall, hat⟩ := open_row Tryz.underlying33 Tryz.cellsAcc Tryz.bytesAcc (by omega) h hw (Q := IsAcc) (fun m cs y hy hy2 => open_acc hy hy2)
  refine ⟨ao, len, cap, l, hv, hl, hlc, by omega, ?_, fun q hq => ?_⟩
  · rcases hat with h0 | ⟨b, off, e, hb, hi⟩
    · exact Or.inl h0
    · refine Or.inr ⟨b, off, e, hb, fun i h => ?_⟩
      obtain ⟨cs, ⟨rfl, _⟩, _, hc⟩ := hi i h
      exact ⟨hc 0 (by omega), hc 1 (by omega)⟩
  · obtain ⟨cs, h1⟩ := hall q hq
    exact h1.2
/-- A history. -/
theorem open_his {H : Type} {enc : TypeId × Value → H} {W : World} {n : Nat} {cs : List Value} {x : DataW H × List MemPlace} (h : DataW.trod enc Tryz.prog W 0 (fun _ => true) true n 36 cs = some x) (hw : ∀ y ∈ x.1.weights Tryz.prog 36, y ≤ reachBytes) :
    ∃ aoA nA capA aoP nP capP hh, cs = [.slice aoA nA capA, .slice aoP nP capP] ∧ HistIn W aoA aoP nA nP hh ∧ nA ≤ capA ∧ capA ≤ 5864062014634 ∧ nP ≤ capP ∧ capP ≤ 5864062014634 ∧ ∀ p ∈ hh.pers, p.length ≤ 3518437208780 ∧ ∀ e ∈ p, e.posts.length ≤ 8796093021952 := by
  obtain ⟨xs, k, _, rfl, hcl, hxl, hf⟩ := DataW.trod_struct Tryz.underlying36 h
  rw [Tryz.cellsHis] at hcl
  match cs, hcl with
  | [c0, c1], _ =>
    match xs, hxl with
    | [y0, y1], _ =>
      have g0 : DataW.trod enc Tryz.prog W 0 (fun _ => true) true k 33 (([c0, c1].drop 0).take (Tryz.prog.cellsOf 33)) = some y0 := hf 0 { name := "Accounts", type := 33, offset := 0, embedded := false, tag := "", pkgPath := "", byteOffset := 0 } rfl
      have g1 : DataW.trod enc Tryz.prog W 0 (fun _ => true) true k 34 (([c0, c1].drop 1).take (Tryz.prog.cellsOf 34)) = some y1 := hf 1 { name := "Periods", type := 34, offset := 1, embedded := false, tag := "", pkgPath := "", byteOffset := 24 } rfl
      rw [Tryz.cellsAccs] at g0
      rw [Tryz.cellsPers] at g1
      simp only [List.drop_succ_cons, List.drop_zero, List.take_succ_cons, List.take_zero] at g0 g1
      simp only [DataW.weights, Tryz.underlying36] at hw
      obtain ⟨aoA, nA, capA, ac, rfl, hlA, hA1, hA2, hinA, hfA⟩ := open_accs g0 (fun y hy => hw y (DataW.weights_mem_each (j := 0) (t := 33) rfl rfl _ hy))
      obtain ⟨aoP, nP, capP, ps, rfl, hlP, hP1, hP2, hinP, hfP⟩ := open_pers g1 (fun y hy => hw y (DataW.weights_mem_each (j := 1) (t := 34) rfl rfl _ hy))
      refine ⟨aoA, nA, capA, aoP, nP, capP, ⟨ac, ps⟩, rfl, ⟨hinA, hinP, hlA, hlP, fun a ha => ?_, fun p hp => ?_, fun p hp e he => ?_⟩, hA1, hA2, hP1, hP2, fun p hp => ?_⟩
      · have := hfA a ha; exact ⟨by omega, this.2⟩
      · have := hfP p hp; exact ⟨by omega, fun e he => by have := this.2 e he; omega⟩
      · exact ((hfP p hp).2 e he).2.2
      · have := hfP p hp; exact ⟨this.1, fun e he => (this.2 e he).2.1⟩
end Go.Proofs.YtpkkhkkkgjhkeaaGreat
