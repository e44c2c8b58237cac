import Derived.Test.YtpkkhkkkgjhkeaaRefSeal
import Derived.Test.YtpkkhkkkgjhkeaaHhead
import Derived.Test.YtpkkhkkkgjhkeaaSameEnts
import Derived.Test.YtpkkhkkkgjhkeaaReader
import Derived.Deep.CutRange
import Derived.Test.YtpkkhkkkgjhkeaaDecode
import Derived.Test.YtpkkhkkkgjhkeaaCursor
/-
  THE WALK of signetlaw.sameHistory, of two histories that are the same.
-/
namespace Go.Proofs.Ytpkkhkkkgjhkeaa
open Go.RowKit
set_option maxRecDepth 100000
attribute [local go_sem ↓] Go.wp_at_zero Go.wp_at_succ

set_option maxHeartbeats 6400000 in
theorem lawSame_any (h : Sg.Hist) (aoA aoP aoB aoQ : Option Addr) (nA nP capA capP capB capQ : Nat) (w : World) (h1 : HistIn w aoA aoP nA nP h) (h2 : HistIn w aoB aoQ nA nP h) (hnA : nA ≤ 140737488355328) (hnP : nP ≤ 140737488355328) :
    Calls Try.prog 33 #[.agg #[.slice aoA nA capA, .slice aoP nP capP], .agg #[.slice aoB nA capB, .slice aoQ nP capQ]] w fun e w' => e = .returned (.bool true) ∧ Below w.heap.size w w' := by
  have hb0 : Below w.heap.size w ((w.alloc (.cells #[.slice aoA nA capA, .slice aoP nP capP] 41)).alloc (.cells #[.slice aoB nA capB, .slice aoQ nP capQ] 41)) := ((Below.refl _ _).alloc (Nat.le_refl _) _).alloc (by simp) _
  have hT1 : Two ((w.alloc (.cells #[.slice aoA nA capA, .slice aoP nP capP] 41)).alloc (.cells #[.slice aoB nA capB, .slice aoQ nP capQ] 41)) w.heap.size (.slice aoA nA capA) (.slice aoP nP capP) 41 := (Two.new w _ _ _).below ((Below.refl _ _).alloc (Nat.le_refl _) _)
  have hT2 : Two ((w.alloc (.cells #[.slice aoA nA capA, .slice aoP nP capP] 41)).alloc (.cells #[.slice aoB nA capB, .slice aoQ nP capQ] 41)) (w.heap.size + 1) (.slice aoB nA capB) (.slice aoQ nP capQ) 41 := by
    have e := Two.new (w.alloc (.cells #[.slice aoA nA capA, .slice aoP nP capP] 41)) (.slice aoB nA capB) (.slice aoQ nP capQ) 41
    rw [show (w.alloc (.cells #[.slice aoA nA capA, .slice aoP nP capP] 41)).heap.size = w.heap.size + 1 by simp] at e
    exact e
  have k1 := h1.below hb0
  have k2 := h2.below hb0
  clear h1 h2
  go_enter Try.func33, Try.ntmps33
  go_wp2_with fail
  generalize (w.alloc (.cells #[.slice aoA nA capA, .slice aoP nP capP] 41)).alloc (.cells #[.slice aoB nA capB, .slice aoQ nP capQ] 41) = W0 at *
  have HK1 : Hid (HistIn W0 aoA aoP nA nP h) := k1
  have HK2 : Hid (HistIn W0 aoB aoQ nA nP h) := k2
  clear k1 k2
  go_loopw [5] (fun i wr => ∃ k : Nat, k ≤ nA ∧ i = .int .i64 (k : Int) ∧ Below W0.heap.size W0 wr) (fun i _ => nA - (intOf i).toNat)
  case atStart => exact ⟨0, by omega, rfl, Below.refl _ _⟩
  case round =>
    obtain ⟨k, hk, rfl, hbel⟩ := hrel
    obtain ⟨wz, ewz⟩ : ∃ z : World, z = wr := ⟨_, rfl⟩
    subst ewz
    obtain ⟨s0, s1⟩ := (hT1.below hbel).cells
    obtain ⟨t0, t1⟩ := (hT2.below hbel).cells
    by_cases hlt : k < nA
    · have hka : k < h.accs.length := by rw [HK1.out.lenA]; exact hlt
      obtain ⟨b1, o1, e1, _, x1, y1⟩ := (HK1.out.accs.below hbel).cell (k := k) hka
      obtain ⟨b2, o2, e2, _, x2, y2⟩ := (HK2.out.accs.below hbel).cell (k := k) hka
      subst e1
      subst e2
      generalize h.accs[k].name = nm at *
      generalize h.accs[k].line = ln at *
      have i1 : (0 : Int) ≤ (k : Int) := by omega
      have i2 : (k : Int) < (nA : Int) := by omega
      go_wp2_with fail
      go_quiet (fail)
      go_wp2_with fail
      go_roundw
      case rel => exact ⟨k + 1, by omega, by go_num, below_drewN hbel _⟩
      case measure => simp [intOf]; omega
    · have i2 : ¬ (k : Int) < (nA : Int) := by omega
      go_wp2_with fail
      go_loopw [6] (fun i wr => ∃ q : Nat, q ≤ nP ∧ i = .int .i64 (q : Int) ∧ Below W0.heap.size W0 wr) (fun i _ => nP - (intOf i).toNat)
      case atStart => exact ⟨0, by omega, rfl, hbel⟩
      case round =>
        clear s0 s1 t0 t1 hbel
        obtain ⟨q, hq, rfl, hbe⟩ := hrel
        obtain ⟨wy, ewy⟩ : ∃ z : World, z = wr := ⟨_, rfl⟩
        subst ewy
        obtain ⟨s0, s1⟩ := (hT1.below hbe).cells
        obtain ⟨t0, t1⟩ := (hT2.below hbe).cells
        by_cases hlq : q < nP
        · have hqa : q < h.pers.length := by rw [HK1.out.lenP]; exact hlq
          obtain ⟨b1, o1, e1, _, a1, c1, x1, hE1⟩ := (HK1.out.pers.below hbe).cell (k := q) hqa
          obtain ⟨b2, o2, e2, _, a2, c2, x2, hE2⟩ := (HK2.out.pers.below hbe).cell (k := q) hqa
          subst e1
          subst e2
          have hsz := HK1.out.sizP _ (List.getElem_mem hqa)
          obtain ⟨es, hes⟩ : ∃ es, h.pers[q] = es := ⟨_, rfl⟩
          rw [hes] at x1 x2 hE1 hE2 hsz
          clear hes
          obtain ⟨n, hn⟩ : ∃ n, es.length = n := ⟨_, rfl⟩
          rw [hn] at x1 x2 hsz
          have hcall := fun W (hb : Below wy.heap.size wy W) => sameEnts_any es a1 a2 n c1 c2 W hn hsz.1 (hE1.below hb) (hE2.below hb) (fun e he => (hsz.2 e he).2)
          have i1 : (0 : Int) ≤ (q : Int) := by omega
          have i3 : (q : Int) < (nP : Int) := by omega
          clear hE1 hE2 hsz hn
          go_wp2_with fail
          go_region_law (rw [if_pos (by simp [Region.wanted])]; go_simp; go_at_call 30; refine (hcall _ (by first | exact Below.refl _ _ | exact (Below.refl _ _).drew)).mono ?_; rintro e w7 ⟨rfl, hb7⟩)
          all_goals
            have hbn : Below W0.heap.size W0 w7 := (by first | exact hbe.drew.trans (hb7.mono hbe.size) | exact hbe.trans (hb7.mono hbe.size))
            go_wp2_with fail
            go_roundw
            case rel => exact ⟨q + 1, by omega, by go_num, hbn⟩
            case measure => simp [intOf]; omega
        · have i3 : ¬ (q : Int) < (nP : Int) := by omega
          go_wp2_with fail
          go_ret
          exact ⟨rfl, hb0.trans (hbe.mono hb0.size)⟩
end Go.Proofs.Ytpkkhkkkgjhkeaa

/-
  WHAT STANDS while signetlaw.spoil writes over a history that is the caller's own: shapes, no contents.
-/
namespace Go.Proofs.Ytpkkhkkkgjhkeaa
open Go.RowKit
set_option maxRecDepth 100000

theorem ownsRow_set {w : World} {B : Nat} {e : TypeId} {sz n : Nat} {v : Value} {xs : List Value} (h : w.ownsRow B e sz v n xs) (g j : Nat) (u : Value) : ∃ xs', (w.setCell ⟨g, j, none⟩ u).ownsRow B e sz v n xs' ∧ (xs' = xs ∨ xs' = xs.set j u) := by
  rcases h.2 with ⟨e1, e2⟩ | ⟨g', cap, cur, e1, h1, h2, h3⟩
  · exact ⟨xs, ⟨h.1, Or.inl ⟨e1, e2⟩⟩, Or.inl rfl⟩
  · by_cases hg : g' = g
    · subst hg
      subst e1
      exact ⟨_, (h.stored j u).1, Or.inr rfl⟩
    · exact ⟨xs, ⟨h.1, Or.inr ⟨g', cap, cur, e1, h1, (heap_setCell_other w ⟨g, j, none⟩ g' u hg).trans h2, h3⟩⟩, Or.inl rfl⟩
/-- A value's row lies ahead of M. -/
def Ahead (M : Nat) (v : Value) : Prop := ∀ g, v.ownBlock = some g → g < M
/-- What lies below B, and from M on, is as it was. -/
structure FrameM (B M : Nat) (w wr : World) : Prop where
  os : wr.os = w.os
  tape : wr.tape = w.tape
  output : wr.output = w.output
  size : w.heap.size ≤ wr.heap.size
  block : ∀ k, k < w.heap.size → (k < B ∨ M ≤ k) → wr.heap[k]? = w.heap[k]?
theorem FrameM.refl (B M : Nat) (w : World) : FrameM B M w w := ⟨rfl, rfl, rfl, Nat.le_refl _, fun _ _ _ => rfl⟩
theorem FrameM.setCell {B M : Nat} {w wr : World} {g j : Nat} (h : FrameM B M w wr) (h1 : B ≤ g) (h2 : g < M) (u : Value) : FrameM B M w (wr.setCell ⟨g, j, none⟩ u) :=
  ⟨h.os, h.tape, h.output, by simpa using h.size, fun k hk hk2 => (heap_setCell_other wr ⟨g, j, none⟩ k u (by show k ≠ g; omega)).trans (h.block k hk hk2)⟩
theorem FrameM.below {B M : Nat} {w wr w' : World} (h : FrameM B M w wr) (hb : Below wr.heap.size wr w') : FrameM B M w w' :=
  ⟨hb.os.trans h.os, hb.tape.trans h.tape, hb.output.trans h.output, Nat.le_trans h.size hb.size, fun k hk hk2 => (hb.block k (Nat.lt_of_lt_of_le hk h.size)).trans (h.block k hk hk2)⟩
theorem FrameM.grown {B M : Nat} {w wr w' : World} {row : Option Nat} (h : FrameM B M w wr) (hg : wr.grownBy w' row) (hr : ∀ k, row = some k → B ≤ k ∧ k < M) : FrameM B M w w' :=
  ⟨hg.os.trans h.os, hg.tape.trans h.tape, hg.output.trans h.output, Nat.le_trans h.size hg.size, fun k hk hk2 => (hg.block k (Nat.lt_of_lt_of_le hk h.size) (fun e => by have := hr k e.symm; omega)).trans (h.block k hk hk2)⟩
/-- A row of postings, whatever they are. -/
def PRow (w : World) (B M : Nat) (v : Value) : Prop := ∃ n ys, (n ≤ 255 ∧ Ahead M v) ∧ w.ownsRow B 100 2 v n ys
theorem PRow.set {w : World} {B M : Nat} {v : Value} (h : PRow w B M v) (g j : Nat) (u : Value) : PRow (w.setCell ⟨g, j, none⟩ u) B M v := by
  obtain ⟨n, ys, h1, h2⟩ := h
  obtain ⟨xs', h3, _⟩ := ownsRow_set h2 g j u
  exact ⟨n, xs', h1, h3⟩
theorem PRow.keptT {w w' : World} {B M : Nat} {v : Value} {t : TypeId} (h : PRow w B M v) (hk : KeptT t w w') (hne : 100 ≠ t) : PRow w' B M v := by
  obtain ⟨n, ys, h1, h2⟩ := h
  exact ⟨n, ys, h1, ownsRow_keptT h2 hk hne⟩
/-- A row of entries, whatever they are; their lists of postings are rows. -/
def ERow (w : World) (B M : Nat) (v : Value) (n : Nat) : Prop := ∃ xs, w.ownsRow B 55 2 v n xs ∧ (n ≤ 255 ∧ Ahead M v) ∧ ∀ j, j < n → ∃ u, xs[j * 2 + 1]? = some u ∧ PRow w B M u
theorem ERow.keptT {w w' : World} {B M n : Nat} {v : Value} {t : TypeId} (h : ERow w B M v n) (hk : KeptT t w w') (h1 : 55 ≠ t) (h2 : 100 ≠ t) : ERow w' B M v n := by
  obtain ⟨xs, a, b, c⟩ := h
  refine ⟨xs, ownsRow_keptT a hk h1, b, fun j hj => ?_⟩
  obtain ⟨u, e, p⟩ := c j hj
  exact ⟨u, e, p.keptT hk h2⟩
theorem ERow.pst {w : World} {B M n q j : Nat} {v u : Value} {cur : Array Value} (h : ERow w B M v n) (hq : w.heap[q]? = some (.cells cur 100 (0, 0))) : ERow (w.setCell ⟨q, j, none⟩ u) B M v n := by
  obtain ⟨xs, a, b, c⟩ := h
  refine ⟨xs, ownsRow_keptT a (keptT_setCell hq) (by decide), b, fun k hk => ?_⟩
  obtain ⟨x, e, p⟩ := c k hk
  exact ⟨x, e, p.set _ _ _⟩
theorem ERow.memo {w : World} {B M n g i : Nat} {v u : Value} {cur : Array Value} (h : ERow w B M v n) (hg : w.heap[g]? = some (.cells cur 55 (0, 0))) : ERow (w.setCell ⟨g, i * 2, none⟩ u) B M v n := by
  obtain ⟨xs, a, b, c⟩ := h
  obtain ⟨xs', a', e'⟩ := ownsRow_set a g (i * 2) u
  refine ⟨xs', a', b, fun k hk => ?_⟩
  obtain ⟨x, e, p⟩ := c k hk
  refine ⟨x, ?_, p.keptT (keptT_setCell hg) (by decide)⟩
  rcases e' with e' | e'
  · rw [e']; exact e
  · rw [e', List.getElem?_set_ne (by omega)]; exact e
/-- What stands: from the period i on the lists are as they were, but for what is written in them. -/
structure SpI (w wr : World) (B M hb : Nat) (vA vP : Value) (nA nP : Nat) (us : List Value) (i : Nat) : Prop where
  bel : FrameM B M w wr
  box : Two wr hb vA vP 41
  ahead : Ahead M vA ∧ Ahead M vP
  accs : ∃ xs, wr.ownsRow B 43 2 vA nA xs
  pers : wr.ownsRow B 47 1 vP nP us
  ents : ∀ k, i ≤ k → k < nP → ∃ u m, us[k]? = some u ∧ ERow wr B M u m
  apart : ∀ (k k' : Nat) (u v : Value) (g : Nat), i ≤ k → k < k' → us[k]? = some u → us[k']? = some v → u.ownBlock = some g → v.ownBlock ≠ some g
theorem SpI.pst {w wr : World} {B M hb nA nP i q j : Nat} {vA vP u : Value} {us : List Value} {cur : Array Value} (m : SpI w wr B M hb vA vP nA nP us i) (hB : B ≤ q) (hM : q < M) (hq : wr.heap[q]? = some (.cells cur 100 (0, 0))) : SpI w (wr.setCell ⟨q, j, none⟩ u) B M hb vA vP nA nP us i ∧ (wr.setCell ⟨q, j, none⟩ u).heap[q]? = some (.cells (cur.setIfInBounds j u) 100 (0, 0)) := by
  have hk : KeptT 100 wr (wr.setCell ⟨q, j, none⟩ u) := keptT_setCell hq
  obtain ⟨xs, hx⟩ := m.accs
  refine ⟨⟨m.bel.setCell hB hM _, hk _ _ _ _ m.box (by decide), m.ahead, ⟨xs, ownsRow_keptT hx hk (by decide)⟩, ownsRow_keptT m.pers hk (by decide), fun k h1 h2 => ?_, m.apart⟩, heap_setCell_same wr q j _ _ u hq⟩
  obtain ⟨x, n, e, h⟩ := m.ents k h1 h2
  exact ⟨x, n, e, h.pst hq⟩
theorem SpI.memo {w wr : World} {B M hb nA nP i g j : Nat} {vA vP u : Value} {us : List Value} {cur : Array Value} (m : SpI w wr B M hb vA vP nA nP us i) (hB : B ≤ g) (hM : g < M) (hg : wr.heap[g]? = some (.cells cur 55 (0, 0))) : SpI w (wr.setCell ⟨g, j * 2, none⟩ u) B M hb vA vP nA nP us i := by
  have hk : KeptT 55 wr (wr.setCell ⟨g, j * 2, none⟩ u) := keptT_setCell hg
  obtain ⟨xs, hx⟩ := m.accs
  refine ⟨m.bel.setCell hB hM _, hk _ _ _ _ m.box (by decide), m.ahead, ⟨xs, ownsRow_keptT hx hk (by decide)⟩, ownsRow_keptT m.pers hk (by decide), fun k h1 h2 => ?_, m.apart⟩
  obtain ⟨x, n, e, h⟩ := m.ents k h1 h2
  exact ⟨x, n, e, h.memo hg⟩
theorem SpI.acc {w wr : World} {B M hb nA nP i g j : Nat} {vA vP u : Value} {us : List Value} {cur : Array Value} (m : SpI w wr B M hb vA vP nA nP us i) (hB : B ≤ g) (hM : g < M) (hg : wr.heap[g]? = some (.cells cur 43 (0, 0))) : SpI w (wr.setCell ⟨g, j, none⟩ u) B M hb vA vP nA nP us i ∧ (wr.setCell ⟨g, j, none⟩ u).heap[g]? = some (.cells (cur.setIfInBounds j u) 43 (0, 0)) := by
  have hk : KeptT 43 wr (wr.setCell ⟨g, j, none⟩ u) := keptT_setCell hg
  obtain ⟨xs, hx⟩ := m.accs
  obtain ⟨xs', hx', _⟩ := ownsRow_set hx g j u
  refine ⟨⟨m.bel.setCell hB hM _, hk _ _ _ _ m.box (by decide), m.ahead, ⟨xs', hx'⟩, ownsRow_keptT m.pers hk (by decide), fun k h1 h2 => ?_, m.apart⟩, heap_setCell_same wr g j _ _ u hg⟩
  obtain ⟨x, n, e, h⟩ := m.ents k h1 h2
  exact ⟨x, n, e, h.keptT hk (by decide) (by decide)⟩
/-- An entry is appended to the period's list, and the list is stored: on to the next one. -/
theorem SpI.next {w W X w5 : World} {B M hb nA nP i gP capP n : Nat} {vA l v' : Value} {us xs : List Value} {ys : List Value} (m : SpI w W B M hb vA (.slice (some ⟨gP, 0, none⟩) nP capP) nA nP us i) (hlM : Ahead M l) (hi : us[i]? = some l) (hl : W.ownsRow B 55 2 l n xs) (aX : Below W.heap.size W X) (hg : X.grownBy w5 l.ownBlock) (_hown : w5.ownsRow B 55 2 v' (n + 1) ys) :
    (w5.cell? ⟨gP, i, none⟩ = some l ∧ w5.frozen? ⟨gP, i, none⟩ = false ∧ Two w5 hb vA (.slice (some ⟨gP, 0, none⟩) nP capP) 41) ∧ SpI w (w5.setCell ⟨gP, i, none⟩ v') B M hb vA (.slice (some ⟨gP, 0, none⟩) nP capP) nA nP (us.set i v') (i + 1) := by
  have hlX := ownsRow_below hl aX
  have hk := keptT_append hlX hg
  have hpX := ownsRow_below m.pers aX
  have hp5 := ownsRow_keptT hpX hk (by decide)
  have box5 := hk _ _ _ _ (m.box.below aX) (by decide)
  have hil : i < us.length := (List.getElem?_eq_some_iff.1 hi).1
  have hun := m.pers.1
  have hgP : ∃ cur, w5.heap[gP]? = some (.cells cur 47 (0, 0)) ∧ B ≤ gP := by
    rcases hp5.2 with ⟨e, _⟩ | ⟨g', cap, cur, e, h1, h2, _⟩
    · simp at e
    · simp only [Value.slice.injEq, Option.some.injEq, Addr.mk.injEq, and_true, true_and] at e
      obtain ⟨rfl, _⟩ := e
      exact ⟨cur, h2, h1⟩
  obtain ⟨curP, hcP, hBP⟩ := hgP
  have hk6 : KeptT 47 w5 (w5.setCell ⟨gP, i, none⟩ v') := keptT_setCell hcP
  have bX := m.bel.below aX
  obtain ⟨ax, hax⟩ := m.accs
  refine ⟨⟨?_, hp5.frozenAt i, box5⟩, ⟨?_, hk6 _ _ _ _ box5 (by decide), m.ahead, ⟨ax, ownsRow_keptT (ownsRow_keptT (ownsRow_below hax aX) hk (by decide)) hk6 (by decide)⟩, (hp5.stored i v').1, fun k h1 h2 => ?_, fun k k' u v g h1 h2 h3 h4 => ?_⟩⟩
  · rw [World.ownsRow.cellAt hp5 i (by omega)]; exact hi
  · exact (bX.grown hg (fun q hq => ⟨(World.ownsRow.lt hlX q hq).1, hlM q hq⟩)).setCell hBP (m.ahead.2 gP rfl) _
  · obtain ⟨u, mm, e, zs, z1, z2, z3⟩ := m.ents k (by omega) h2
    refine ⟨u, mm, by rw [List.getElem?_set_ne (by omega)]; exact e, ?_⟩
    have e5 : ERow w5 B M u mm := by
      refine ⟨zs, ?_, z2, fun j hj => ?_⟩
      · have zX := ownsRow_below z1 aX
        refine ⟨zX.1, ?_⟩
        rcases zX.2 with h0 | ⟨g', cap, cur, e1, q1, q2, q3⟩
        · exact Or.inl h0
        · refine Or.inr ⟨g', cap, cur, e1, q1, (hg.block g' (lt_of_block q2) (fun ee => ?_)).trans q2, q3⟩
          have hub : u.ownBlock = some g' := by rw [e1]; rfl
          exact m.apart i k l u g' (Nat.le_refl _) (by omega) hi e ee.symm hub
      · obtain ⟨x, e2, n2, ys2, n3, r2⟩ := z3 j hj
        exact ⟨x, e2, n2, ys2, n3, ownsRow_keptT (ownsRow_below r2 aX) hk (by decide)⟩
    exact e5.keptT hk6 (by decide) (by decide)
  · rw [List.getElem?_set_ne (by omega)] at h3
    rw [List.getElem?_set_ne (by omega)] at h4
    exact m.apart k k' u v g (by omega) h2 h3 h4
end Go.Proofs.Ytpkkhkkkgjhkeaa

/-
  THE WALK of signetlaw.spoil: it writes into nothing but what it was handed.
-/
namespace Go.Proofs.Ytpkkhkkkgjhkeaa
open Go.RowKit
set_option maxRecDepth 100000
attribute [local go_sem ↓] Go.wp_at_zero Go.wp_at_succ

/-- 'own'. -/
abbrev ownT : ByteArray := { data := #[111, 119, 110] }
theorem row_len {w : World} {B : Nat} {e : TypeId} {sz n m cap : Nat} {ao : Option Addr} {xs : List Value} (h : w.ownsRow B e sz (.slice ao m cap) n xs) : n = m := by
  rcases h.2 with ⟨e1, e2⟩ | ⟨g, c, cur, e1, _⟩
  · simp only [Value.slice.injEq] at e1; omega
  · simp only [Value.slice.injEq] at e1; omega
theorem row_shape {w : World} {B : Nat} {e : TypeId} {sz n : Nat} {v : Value} {xs : List Value} (h : w.ownsRow B e sz v n xs) : ∃ ao cap, v = .slice ao n cap := by
  rcases h.2 with ⟨e1, e2⟩ | ⟨g, c, cur, e1, _⟩
  · exact ⟨none, 0, by rw [e1, e2]⟩
  · exact ⟨_, c, e1⟩
/-- A row that is not empty: its block. -/
theorem row_block {w : World} {B : Nat} {e : TypeId} {sz n cap : Nat} {ao : Option Addr} {xs : List Value} (h : w.ownsRow B e sz (.slice ao n cap) n xs) (hn : 0 < n) : ∃ g cur, ao = some ⟨g, 0, none⟩ ∧ B ≤ g ∧ w.heap[g]? = some (.cells cur e (0, 0)) ∧ n ≤ cap ∧ cap ≤ maxLen ∧ ∀ j, j < n * sz → cur[j]? = xs[j]? ∧ w.cell? ⟨g, j, none⟩ = xs[j]? ∧ w.frozen? ⟨g, j, none⟩ = false := by
  rcases h.2 with ⟨e1, e2⟩ | ⟨g, c, cur, e1, h1, h2, h3, h4, h5, h6⟩
  · omega
  · simp only [Value.slice.injEq] at e1
    obtain ⟨rfl, _, rfl⟩ := e1
    refine ⟨g, cur, rfl, h1, h2, h3, h4, fun j hj => ⟨?_, ?_, ?_⟩⟩
    · rw [← h6, List.getElem?_take_of_lt hj, Array.getElem?_toList]
    · rw [cell_of_row w g j _ _ _ h2, ← h6, List.getElem?_take_of_lt hj, Array.getElem?_toList]
    · simp [World.frozen?, h2]

set_option maxHeartbeats 6400000 in
theorem spoil_any (aoA aoP : Option Addr) (nA nP capA capP B M : Nat) (w : World) (us : List Value) (axs : List Value) (hA : w.ownsRow B 43 2 (.slice aoA nA capA) nA axs) (hP : w.ownsRow B 47 1 (.slice aoP nP capP) nP us) (hE : ∀ k, k < nP → ∃ u m, us[k]? = some u ∧ ERow w B M u m) (hap : Apart us) (hAh : Ahead M (.slice aoA nA capA) ∧ Ahead M (.slice aoP nP capP)) (hB : B ≤ w.heap.size) (hnA : nA ≤ 255) (hnP : nP ≤ 255) :
    Calls Try.prog 34 #[.agg #[.slice aoA nA capA, .slice aoP nP capP]] w fun e w' => e = .returned (.tuple #[]) ∧ FrameM B M w w' := by
  obtain ⟨q0, qi, qz0, qz1, qz2⟩ := info_parts Try.infoEnt2
  have aW : Below w.heap.size w (w.alloc (.cells #[.slice aoA nA capA, .slice aoP nP capP] 41)) := (Below.refl _ _).alloc (Nat.le_refl _) _
  have HI0 : Hid (SpI w (w.alloc (.cells #[.slice aoA nA capA, .slice aoP nP capP] 41)) B M w.heap.size (.slice aoA nA capA) (.slice aoP nP capP) nA nP us 0) := by
    refine ⟨(FrameM.refl B M w).below aW, Two.new _ _ _ _, hAh, ⟨axs, ownsRow_below hA aW⟩, ownsRow_below hP aW, fun k _ hk => ?_, fun k k' u v g _ h2 h3 h4 => hap k k' u v g h2 h3 h4⟩
    obtain ⟨u, m, e, h⟩ := hE k hk
    exact ⟨u, m, e, h.keptT (keptT_below 41 aW) (by decide) (by decide)⟩
  clear hA hP hE hap aW hAh
  go_enter Try.func34, Try.ntmps34
  go_wp2_with fail
  go_loopw [2] (fun i wr => ∃ k : Nat, k ≤ nA ∧ i = .int .i64 (k : Int) ∧ Hid (SpI w wr B M w.heap.size (.slice aoA nA capA) (.slice aoP nP capP) nA nP us 0)) (fun i _ => nA - (intOf i).toNat)
  case atStart => exact ⟨0, by omega, rfl, HI0⟩
  case round =>
    obtain ⟨k, hk, rfl, HI⟩ := hrel
    obtain ⟨wz, ewz⟩ : ∃ z : World, z = wr := ⟨_, rfl⟩
    subst ewz
    clear HI0
    obtain ⟨bx0, bx1⟩ := HI.out.box.cells
    by_cases hgo : k < nA
    · have g1 : (k : Int) < (nA : Int) := by omega
      have g0 : (0 : Int) ≤ (k : Int) := by omega
      obtain ⟨xs, hx⟩ := HI.out.accs
      obtain ⟨gA, cur, eA, hBg, hh, _, _, hc⟩ := row_block hx (by omega)
      subst eA
      have hlx := hx.1
      obtain ⟨_, y0, f0⟩ := hc (k * 2) (by omega)
      obtain ⟨_, y1, f1⟩ := hc (k * 2 + 1) (by omega)
      rw [List.getElem?_eq_getElem (by omega)] at y0 y1
      obtain ⟨i1, hh1⟩ := HI.out.acc (j := k * 2) (u := .string ownT) hBg (HI.out.ahead.1 gA rfl) hh
      obtain ⟨i2, _⟩ := i1.acc (j := k * 2 + 1) (u := .int .i64 77) hBg (HI.out.ahead.1 gA rfl) hh1
      have HI2 : Hid (SpI w ((wz.setCell ⟨gA, k * 2, none⟩ (.string ownT)).setCell ⟨gA, k * 2 + 1, none⟩ (.int .i64 77)) B M w.heap.size (.slice (some ⟨gA, 0, none⟩) nA capA) (.slice aoP nP capP) nA nP us 0) := i2
      generalize xs[k * 2]'(by omega) = z0 at *
      generalize xs[k * 2 + 1]'(by omega) = z1 at *
      clear i1 i2 hh1 hh hx hc hlx HI
      go_wp2_with fail
      go_roundw
      case rel => exact ⟨k + 1, by omega, by go_num, HI2⟩
      case measure => simp [intOf]; omega
    · have g1 : ¬ (k : Int) < (nA : Int) := by omega
      go_wp2_with fail
      go_loopw [3] (fun i wr => ∃ r : Nat, r ≤ nP ∧ i = .int .i64 (r : Int) ∧ ∃ us', Hid (SpI w wr B M w.heap.size (.slice aoA nA capA) (.slice aoP nP capP) nA nP us' r)) (fun i _ => nP - (intOf i).toNat)
      case atStart => exact ⟨0, by omega, rfl, _, HI⟩
      case round =>
        obtain ⟨r, hr, rfl, us', HI2⟩ := hrel
        obtain ⟨wy, ewy⟩ : ∃ z : World, z = wr := ⟨_, rfl⟩
        subst ewy
        clear HI bx0 bx1
        obtain ⟨bx0, bx1⟩ := HI2.out.box.cells
        by_cases hgo2 : r < nP
        · have g2 : (r : Int) < (nP : Int) := by omega
          have g3 : (0 : Int) ≤ (r : Int) := by omega
          obtain ⟨gP, curP, eP, hBP, hhP, _, _, hcP⟩ := row_block HI2.out.pers (by omega)
          subst eP
          obtain ⟨u, m, hu, hEu⟩ := HI2.out.ents r (Nat.le_refl _) hgo2
          have hm8 : m ≤ 255 := by obtain ⟨_, _, h, _⟩ := hEu; exact h.1
          have hAl : Ahead M u := by obtain ⟨_, _, h, _⟩ := hEu; exact h.2
          obtain ⟨aoL, capL, hsh⟩ : ∃ ao cap, u = .slice ao m cap := by obtain ⟨xs, h, _⟩ := hEu; exact row_shape h
          subst hsh
          obtain ⟨_, x0, _⟩ := hcP r (by omega)
          rw [hu] at x0
          have HU : Hid (us'[r]? = some (.slice aoL m capL)) := hu
          have HAl : Hid (Ahead M (.slice aoL m capL)) := hAl
          clear hAl
          clear hEu hcP hu hhP
          go_wp2_with fail
          go_loopw [5] (fun i wr => ∃ j : Nat, j ≤ m ∧ i = .int .i64 (j : Int) ∧ Hid (SpI w wr B M w.heap.size (.slice aoA nA capA) (.slice (some ⟨gP, 0, none⟩) nP capP) nA nP us' r)) (fun i _ => m - (intOf i).toNat)
          case atStart => exact ⟨0, by omega, rfl, HI2⟩
          case round =>
            obtain ⟨j, hj, rfl, HJ⟩ := hrel
            obtain ⟨wx0, ewx⟩ : ∃ z : World, z = wr := ⟨_, rfl⟩
            subst ewx
            clear HI2 bx0 bx1 x0
            obtain ⟨u', m', hu', xs, hxs, _, hpo⟩ := HJ.out.ents r (Nat.le_refl _) hgo2
            rw [HU.out] at hu'
            simp only [Option.some.injEq] at hu'
            subst hu'
            have em := row_len hxs
            subst em
            by_cases hgo3 : j < m'
            · have g4 : (j : Int) < (m' : Int) := by omega
              have g5 : (0 : Int) ≤ (j : Int) := by omega
              obtain ⟨gL, curL, eL, hBL, hhL, _, _, hcL⟩ := row_block hxs (by omega)
              subst eL
              obtain ⟨qv, hqv, nQ, ys, hnQ, hys⟩ := hpo j hgo3
              obtain ⟨aoQ, capQ, hsh⟩ := row_shape hys
              subst hsh
              obtain ⟨cQ, yQ, _⟩ := hcL (j * 2 + 1) (by omega)
              rw [hqv] at cQ yQ
              have hlx := hxs.1
              have HJQ : Hid (SpI w wx0 B M w.heap.size (.slice aoA nA capA) (.slice (some ⟨gP, 0, none⟩) nP capP) nA nP us' r ∧ ∃ cur, wx0.heap[gL]? = some (.cells cur 55 (0, 0)) ∧ cur[j * 2 + 1]? = some (.slice aoQ nQ capQ)) := ⟨HJ.out, curL, hhL, cQ⟩
              clear hcL hpo hys hqv hxs HJ hhL cQ
              go_wp2_with fail
              go_loopw [6] (fun i wr => ∃ z : Nat, z ≤ nQ ∧ i = .int .i64 (z : Int) ∧ Hid (SpI w wr B M w.heap.size (.slice aoA nA capA) (.slice (some ⟨gP, 0, none⟩) nP capP) nA nP us' r ∧ ∃ cur, wr.heap[gL]? = some (.cells cur 55 (0, 0)) ∧ cur[j * 2 + 1]? = some (.slice aoQ nQ capQ))) (fun i _ => nQ - (intOf i).toNat)
              case atStart => exact ⟨0, by omega, rfl, HJQ⟩
              case round =>
                obtain ⟨z, hz, rfl, HQ⟩ := hrel
                obtain ⟨wq, ewq⟩ : ∃ z : World, z = wr := ⟨_, rfl⟩
                subst ewq
                clear HJQ yQ hlx
                obtain ⟨HS, cur, hcu, hcq⟩ := HQ.out
                have yq : wq.cell? ⟨gL, j * 2 + 1, none⟩ = some (.slice aoQ nQ capQ) := by rw [cell_of_row wq _ _ _ _ _ hcu]; exact hcq
                obtain ⟨u2, m2, hu2, xs2, hxs2, _, hpo2⟩ := HS.ents r (Nat.le_refl _) hgo2
                rw [HU.out] at hu2
                simp only [Option.some.injEq] at hu2
                subst hu2
                have em2 := row_len hxs2
                subst em2
                obtain ⟨gL2, cur2, eL2, _, hhL2, _, _, hcL2⟩ := row_block hxs2 (by omega)
                simp only [Option.some.injEq, Addr.mk.injEq, and_true] at eL2
                subst eL2
                have hcc : cur = cur2 := by rw [hcu] at hhL2; simp only [Option.some.injEq, Obj.cells.injEq] at hhL2; exact hhL2.1
                subst hcc
                obtain ⟨uu, huu, nQ2, ys, hAQ, hys⟩ := hpo2 j hgo3
                have hl2 := hxs2.1
                have huq : uu = .slice aoQ nQ capQ := by
                  have := (hcL2 (j * 2 + 1) (by omega)).1
                  rw [hcq, huu] at this
                  simp only [Option.some.injEq] at this
                  exact this.symm
                subst huq
                have en := row_len hys
                subst en
                obtain ⟨_, ym, fm⟩ := hcL2 (j * 2) (by omega)
                rw [List.getElem?_eq_getElem (by omega)] at ym
                generalize xs2[j * 2]'(by omega) = zm at *
                by_cases hgo4 : z < nQ2
                · have g6 : (z : Int) < (nQ2 : Int) := by omega
                  have g7 : (0 : Int) ≤ (z : Int) := by omega
                  obtain ⟨gQ, curQ, eQ, hBQ, hhQ, _, _, hcQ2⟩ := row_block hys (by omega)
                  subst eQ
                  have hly := hys.1
                  obtain ⟨_, y0, f0⟩ := hcQ2 (z * 2) (by omega)
                  obtain ⟨_, y1, f1⟩ := hcQ2 (z * 2 + 1) (by omega)
                  rw [List.getElem?_eq_getElem (by omega)] at y0 y1
                  generalize ys[z * 2]'(by omega) = z0 at *
                  generalize ys[z * 2 + 1]'(by omega) = z1 at *
                  obtain ⟨s1, hh1⟩ := HS.pst (j := z * 2) (u := .int .i64 77) hBQ (hAQ.2 gQ rfl) hhQ
                  obtain ⟨s2, _⟩ := s1.pst (j := z * 2 + 1) (u := .int .i64 0) hBQ (hAQ.2 gQ rfl) hh1
                  have HQ2 : Hid (SpI w ((wq.setCell ⟨gQ, z * 2, none⟩ (.int .i64 77)).setCell ⟨gQ, z * 2 + 1, none⟩ (.int .i64 0)) B M w.heap.size (.slice aoA nA capA) (.slice (some ⟨gP, 0, none⟩) nP capP) nA nP us' r ∧ ∃ cur, ((wq.setCell ⟨gQ, z * 2, none⟩ (.int .i64 77)).setCell ⟨gQ, z * 2 + 1, none⟩ (.int .i64 0)).heap[gL]? = some (.cells cur 55 (0, 0)) ∧ cur[j * 2 + 1]? = some (.slice (some ⟨gQ, 0, none⟩) nQ2 capQ)) :=
                    ⟨s2, cur, ((keptT_setCell hhQ).trans (keptT_setCell hh1)) _ _ _ _ hcu (by decide), hcq⟩
                  clear s1 s2 hh1 hhQ hcQ2 hly hys HS HQ hcu hcq hcL2 hxs2 hl2 hpo2 huu hhL2 ym fm
                  go_wp2_with fail
                  go_roundw
                  case rel => exact ⟨z + 1, by omega, by go_num, HQ2⟩
                  case measure => simp [intOf]; omega
                · have g6 : ¬ (z : Int) < (nQ2 : Int) := by omega
                  have HJ2 : Hid (SpI w (wq.setCell ⟨gL, j * 2, none⟩ (.string ownT)) B M w.heap.size (.slice aoA nA capA) (.slice (some ⟨gP, 0, none⟩) nP capP) nA nP us' r) := HS.memo hBL (HAl.out gL rfl) hcu
                  clear hys HS HQ hcu hcq hcL2 hxs2 hl2 hpo2 huu hhL2
                  go_wp2_with fail
                  go_roundw
                  case rel => exact ⟨j + 1, by omega, by go_num, HJ2⟩
                  case measure => simp [intOf]; omega
            · have g4 : ¬ (j : Int) < (m' : Int) := by omega
              obtain ⟨bx0, bx1⟩ := HJ.out.box.cells
              have hlw : w.heap.size < wx0.heap.size := lt_of_block HJ.out.box
              have hBx : B ≤ wx0.heap.size := by omega
              obtain ⟨gP2, curP2, eP2, _, hhP2, _, _, hcP2⟩ := row_block HJ.out.pers (by omega)
              simp only [Option.some.injEq, Addr.mk.injEq, and_true] at eP2
              subst eP2
              obtain ⟨_, x0, fx0⟩ := hcP2 r (by omega)
              rw [HU.out] at x0
              clear hpo hcP2 hhP2
              go_wp2_with fail
              go_region_law (refine step_append_lies _ (by rfl) _ _ _ (by rfl) B 55 q0 _ 2 40 Try.underlying45 qi qz0 qz1 qz2 rfl (by omega) _ m' xs (by rfl) (by first | exact (hxs.alloc _).drew | exact hxs.alloc _ | exact hxs.drew.alloc _) ⟨wx0.heap.size, 0, none⟩ 1 1 [.string ownT, .slice none 0 0] (by rfl) (by rfl) (by exact World.news_of_block (cs := #[.string ownT, .slice none 0 0]) (t := 55) (fr := (0, 0)) (heap_alloc_new wx0 _)) (by simp [Value.oneCell']) (by omega) (by unfold maxLen; omega) (by omega) (by simp; omega) (wx0.heap.size + 1) (by simp) ?_; intro g cap' w7 hown7 hgrow hat7 hlt7; have hnx := SpI.next (v' := .slice (some ⟨g, 0, none⟩) (m' + 1) cap') HJ.out HAl.out HU.out hxs (by first | exact ((Below.refl _ _).alloc (Nat.le_refl _) _).drew | exact (Below.refl _ _).alloc (Nat.le_refl _) _ | exact (Below.refl _ _).drew.alloc (by simp) _) hgrow hown7; obtain ⟨⟨n0, n1, n2⟩, n3⟩ := hnx; have n4 := n2.cells; obtain ⟨n5, n6⟩ := n4)
              all_goals
                have HN : Hid (SpI w (w7.setCell ⟨gP, r, none⟩ (.slice (some ⟨g, 0, none⟩) (m' + 1) cap')) B M w.heap.size (.slice aoA nA capA) (.slice (some ⟨gP, 0, none⟩) nP capP) nA nP (us'.set r (.slice (some ⟨g, 0, none⟩) (m' + 1) cap')) (r + 1)) := n3
                clear n3 hown7 hgrow hxs HJ n0 n1 n2 x0 fx0
                go_wp2_with fail
                go_roundw
                case rel => exact ⟨r + 1, by omega, by go_num, _, HN⟩
                case measure => simp [intOf]; omega
        · have g2 : ¬ (r : Int) < (nP : Int) := by omega
          go_wp2_with fail
          refine bodyPost_end (v := .tuple #[]) (by simp [results, Try.results34, go_sem]) rfl ⟨rfl, HI2.out.bel⟩
end Go.Proofs.Ytpkkhkkkgjhkeaa

/-
  THE WALK of signetlaw.Decodes (P7).
-/
namespace Go.Proofs.Ytpkkhkkkgjhkeaa
open Go.RowKit
set_option maxRecDepth 100000
attribute [local go_sem ↓] Go.wp_at_zero Go.wp_at_succ

theorem erow_of {w : World} {B : Nat} {v : Value} {es : List Sg.Ent} (h : OwnE w B v es) (h1 : es.length ≤ 255) (h2 : ∀ e ∈ es, e.posts.length ≤ 255) : ERow w B w.heap.size v es.length := by
  obtain ⟨us, a, b, c⟩ := h
  refine ⟨_, b, ⟨h1, fun g hg => (World.ownsRow.lt b g hg).2⟩, fun j hj => ⟨us[j]'(by omega), (eCells_at es us a j hj).2, es[j].posts.length, _, ⟨h2 _ (List.getElem_mem hj), fun g hg => (World.ownsRow.lt (c j hj (by omega)) g hg).2⟩, c j hj (by omega)⟩⟩
theorem ERow.below {w w' : World} {B M n : Nat} {v : Value} (h : ERow w B M v n) (hb : Below w.heap.size w w') : ERow w' B M v n := by
  obtain ⟨xs, a, b, c⟩ := h
  refine ⟨xs, ownsRow_below a hb, b, fun j hj => ?_⟩
  obtain ⟨u, e, n2, ys, h1, h2⟩ := c j hj
  exact ⟨u, e, n2, ys, h1, ownsRow_below h2 hb⟩
theorem ownsRow_frame {w w' : World} {B M B' : Nat} {e : TypeId} {sz n : Nat} {v : Value} {xs : List Value} (h : w.ownsRow B' e sz v n xs) (hf : FrameM B M w w') (hM : M ≤ B') : w'.ownsRow B' e sz v n xs := by
  refine ⟨h.1, ?_⟩
  rcases h.2 with h0 | ⟨g, cap, cur, h1, h2, h3, h4⟩
  · exact Or.inl h0
  · exact Or.inr ⟨g, cap, cur, h1, h2, (hf.block g (lt_of_block h3) (Or.inr (by omega))).trans h3, h4⟩
theorem OwnPs.frame {w w' : World} {B M B' : Nat} {v : Value} {ps : List (List Sg.Ent)} (h : OwnPs w B' v ps) (hf : FrameM B M w w') (hM : M ≤ B') : OwnPs w' B' v ps := by
  obtain ⟨us, a, b, c⟩ := h
  refine ⟨us, a, ownsRow_frame b hf hM, fun i h1 h2 => ?_⟩
  obtain ⟨vs, x, y, z⟩ := c i h1 h2
  exact ⟨vs, x, ownsRow_frame y hf hM, fun j h3 h4 => ownsRow_frame (z j h3 h4) hf hM⟩
theorem hist_again {W w : World} {B : Nat} {aoA aoP : Option Addr} {nA nP capA capP : Nat} {h : Sg.Hist} (hH : HistIn W aoA aoP nA nP h) (hA : OwnA w B (.slice aoA nA capA) h.accs) (hP : OwnPs w B (.slice aoP nP capP) h.pers) : HistIn w aoA aoP nA nP h := by
  obtain ⟨ao1, c1, e1, _, _, i1⟩ := hA.in_
  obtain ⟨ao2, c2, e2, _, i2⟩ := hP.in_
  simp only [Value.slice.injEq] at e1 e2
  obtain ⟨rfl, _, _⟩ := e1
  obtain ⟨rfl, _, _⟩ := e2
  exact ⟨i1, i2, hH.lenA, hH.lenP, hH.sizA, hH.sizP, hH.sizQ⟩
/-- The history that was read, or none. -/
def Sg.opened (t : ByteArray) : Sg.Hist := if Sg.isPk (Sg.pdHist (Sg.tx t)) t then Sg.pdHist (Sg.tx t) else ⟨[], []⟩
def Sg.openErr (t : ByteArray) : Int := if Sg.isPk (Sg.pdHist (Sg.tx t)) t then 0 else 5
theorem none_in (w : World) : HistIn w none none 0 0 ⟨[], []⟩ := ⟨Or.inl rfl, Or.inl rfl, rfl, rfl, fun a ha => by simp at ha, fun p hp => by simp at hp, fun p hp => by simp at hp⟩
/-- What Decode answers, for spoil: rows. -/
def DecRows (w' : World) (B : Nat) (aoA aoP : Option Addr) (nA nP capA capP : Nat) : Prop := ∃ us axs, w'.ownsRow B 43 2 (.slice aoA nA capA) nA axs ∧ w'.ownsRow B 47 1 (.slice aoP nP capP) nP us ∧ (∀ k, k < nP → ∃ u m, us[k]? = some u ∧ ERow w' B w'.heap.size u m) ∧ Apart us ∧ nA ≤ 255 ∧ nP ≤ 255
theorem decode_all (t : ByteArray) (w : World) :
    Calls Try.prog 31 #[.string t] w fun e w' => ∃ aoA capA aoP capP, e = .returned (.tuple #[.agg #[.slice aoA (Sg.opened t).accs.length capA, .slice aoP (Sg.opened t).pers.length capP], .int .i64 (Sg.openErr t)]) ∧ Hid (HistIn w' aoA aoP (Sg.opened t).accs.length (Sg.opened t).pers.length (Sg.opened t)) ∧ Hid (DecRows w' w.heap.size aoA aoP (Sg.opened t).accs.length (Sg.opened t).pers.length capA capP) ∧ Below w.heap.size w w' := by
  refine (decode_any t w).mono ?_
  rintro e w' ⟨hb, ⟨hn, rfl⟩ | ⟨hy, aoA, nA, capA, aoP, nP, capP, rfl, _, hH, hOA, us, hul, hrow, hus, hap⟩⟩
  · have e1 : Sg.opened t = ⟨[], []⟩ := by unfold Sg.opened; rw [if_neg hn]
    have e2 : Sg.openErr t = 5 := by unfold Sg.openErr; rw [if_neg hn]
    rw [e1, e2]
    exact ⟨none, 0, none, 0, rfl, none_in w', ⟨[], [], World.ownsRow_nil _ _ _ _, World.ownsRow_nil _ _ _ _, fun k hk => absurd hk (by simp), fun i j u v g _ hx => by simp at hx, by simp, by simp⟩, hb⟩
  · have e1 : Sg.opened t = Sg.pdHist (Sg.tx t) := by unfold Sg.opened; rw [if_pos hy]
    have e2 : Sg.openErr t = 0 := by unfold Sg.openErr; rw [if_pos hy]
    rw [e1, e2]
    have hlA := hH.lenA
    have hlP := hH.lenP
    have hi : Sg.inBounds (Sg.pdHist (Sg.tx t)) = true := by
      have hc := hy.1
      cases hb : Sg.inBounds (Sg.pdHist (Sg.tx t)) with
      | true => rfl
      | false => unfold Sg.closeErr at hc; rw [hb] at hc; simp at hc
    have hbp := Sg.bnd_pers hi
    have hnum : (Sg.pdHist (Sg.tx t)).accs.length ≤ 8 ∧ (Sg.pdHist (Sg.tx t)).pers.length ≤ 6 := by
      unfold Sg.inBounds at hi
      simp only [Bool.and_eq_true, decide_eq_true_eq] at hi
      omega
    subst hlA hlP
    refine ⟨aoA, capA, aoP, capP, rfl, hH, ⟨us, _, hOA, hrow, fun k hk => ?_, hap, by omega, by omega⟩, hb⟩
    have hku : k < us.length := by omega
    refine ⟨us[k], _, List.getElem?_eq_getElem hku, erow_of (hus k hk hku) (by have := (hbp _ (List.getElem_mem hk)).1; omega) (fun e he => by have := ((hbp _ (List.getElem_mem hk)).2 e he).2; omega)⟩
theorem open_all (t : ByteArray) (w : World) (ht : t.size ≤ 140737488355328) :
    Calls Try.prog 32 #[.string t] w fun e w' => ∃ aoA capA aoP capP vB vT, e = .returned (.tuple #[.agg #[.slice aoA (Sg.opened t).accs.length capA, .slice aoP (Sg.opened t).pers.length capP, vB, vT], .int .i64 (Sg.openErr t)]) ∧ (∃ a n c, vB = .slice a n c) ∧ (∃ a n c, vT = .slice a n c) ∧ Hid (HistIn w' aoA aoP (Sg.opened t).accs.length (Sg.opened t).pers.length (Sg.opened t) ∧ OwnA w' w.heap.size (.slice aoA (Sg.opened t).accs.length capA) (Sg.opened t).accs ∧ OwnPs w' w.heap.size (.slice aoP (Sg.opened t).pers.length capP) (Sg.opened t).pers) ∧ Below w.heap.size w w' := by
  obtain ⟨hiff, hsame⟩ := Sg.read_both t
  refine (open_any t w ht).mono ?_
  rintro e w' ⟨hb, ⟨hn, rfl⟩ | ⟨hy, aoA, aoP, aoB, aoT, nA, nP, capA, capP, capB, capT, rfl, h1, hC, hOA, hOP⟩⟩
  · have hn' : ¬ Sg.isPk (Sg.pdHist (Sg.tx t)) t := fun h => hn (hiff.1 h)
    have e1 : Sg.opened t = ⟨[], []⟩ := by unfold Sg.opened; rw [if_neg hn']
    have e2 : Sg.openErr t = 5 := by unfold Sg.openErr; rw [if_neg hn']
    rw [e1, e2]
    exact ⟨none, 0, none, 0, _, _, rfl, ⟨_, _, _, rfl⟩, ⟨_, _, _, rfl⟩, ⟨none_in w', World.ownsRow_nil _ _ _ _, OwnPs.nil _ _⟩, hb⟩
  · have hy' := hiff.2 hy
    have e1 : Sg.opened t = Sg.pdHist (Sg.tx t) := by unfold Sg.opened; rw [if_pos hy']
    have e2 : Sg.openErr t = 0 := by unfold Sg.openErr; rw [if_pos hy']
    rw [hsame hy'] at hC hOA hOP
    rw [e1, e2]
    have hlA := hC.lenA
    have hlP := hC.lenP
    subst hlA hlP
    refine ⟨aoA, capA, aoP, capP, _, _, rfl, ⟨_, _, _, rfl⟩, ⟨_, _, _, rfl⟩, ⟨⟨hC.accs, hC.pers, rfl, rfl, fun a ha => ?_, fun p hp => ?_, Sg.pdHist_fits _⟩, hOA, hOP⟩, hb⟩
    · have := hC.accFine a ha
      exact ⟨by omega, decide_eq_true (by omega)⟩
    · have := hC.allFine p hp
      exact ⟨by have := this.1; omega, fun e he => by have := this.2 e he; omega⟩

set_option maxHeartbeats 3200000 in
theorem decodes_any (t : ByteArray) (w : World) (ht : t.size ≤ 140737488355328) :
    Calls Try.prog 6 #[.string t] w fun e w' => e = .returned (.bool true) ∧ Below w.heap.size w w' := by
  have c1 := fun W => decode_all t W
  have c2 := fun W => open_all t W ht
  generalize Sg.opened t = h at c1 c2
  generalize Sg.openErr t = ee at c1 c2
  obtain ⟨nA, hnA⟩ : ∃ k, h.accs.length = k := ⟨_, rfl⟩
  obtain ⟨nP, hnP⟩ : ∃ k, h.pers.length = k := ⟨_, rfl⟩
  rw [hnA, hnP] at c1 c2
  clear hnA hnP
  go_enter Try.func6, Try.ntmps6
  go_wp2_with fail
  refine (c1 _).mono ?_
  rintro e w1 ⟨aoA, capA, aoP, capP, rfl, HH, HD, hb1⟩
  have hnn : nA ≤ 255 ∧ nP ≤ 255 := by obtain ⟨_, _, _, _, _, _, h1, h2⟩ := HD.out; exact ⟨h1, h2⟩
  have aB : Below w1.heap.size w1 (w1.alloc (.cells #[.slice aoA nA capA, .slice aoP nP capP] 41)) := (Below.refl _ _).alloc (Nat.le_refl _) _
  have hT := Two.new w1 (.slice aoA nA capA) (.slice aoP nP capP) 41
  have b1 := hb1.trans (aB.mono hb1.size)
  have hs1 := hb1.size
  go_wp2_with fail
  refine (c2 _).mono ?_
  rintro e w2 ⟨aoB, capB, aoQ, capQ, vB, vT, rfl, ⟨x1, x2, x3, rfl⟩, ⟨x4, x5, x6, rfl⟩, HO, hb2⟩
  clear c2
  have b12 : Below w1.heap.size w1 w2 := aB.trans (hb2.mono (by simp))
  have hT2 := hT.below hb2
  have b2 := b1.trans (hb2.mono b1.size)
  have aC : Below w2.heap.size w2 (w2.alloc (.cells #[.slice aoB nA capB, .slice aoQ nP capQ, .slice x1 x2 x3, .slice x4 x5 x6] 65)) := (Below.refl _ _).alloc (Nat.le_refl _) _
  have hK : (w2.alloc (.cells #[.slice aoB nA capB, .slice aoQ nP capQ, .slice x1 x2 x3, .slice x4 x5 x6] 65)).heap[w2.heap.size]? = some (.cells #[.slice aoB nA capB, .slice aoQ nP capQ, .slice x1 x2 x3, .slice x4 x5 x6] 65 (0, 0)) := heap_alloc_new w2 _
  have hT3 := hT2.below aC
  have b3 := b2.trans (aC.mono b2.size)
  have b13 := b12.trans (aC.mono b12.size)
  have e0 : (w1.alloc (.cells #[.slice aoA nA capA, .slice aoP nP capP] 41)).heap.size = w1.heap.size + 1 := by simp
  rw [e0] at HO
  have HB3 : Hid (HistIn (w2.alloc (.cells #[.slice aoB nA capB, .slice aoQ nP capQ, .slice x1 x2 x3, .slice x4 x5 x6] 65)) aoB aoQ nA nP h ∧ OwnA (w2.alloc (.cells #[.slice aoB nA capB, .slice aoQ nP capQ, .slice x1 x2 x3, .slice x4 x5 x6] 65)) (w1.heap.size + 1) (.slice aoB nA capB) h.accs ∧ OwnPs (w2.alloc (.cells #[.slice aoB nA capB, .slice aoQ nP capQ, .slice x1 x2 x3, .slice x4 x5 x6] 65)) (w1.heap.size + 1) (.slice aoQ nP capQ) h.pers) := ⟨HO.out.1.below aC, HO.out.2.1.below aC, HO.out.2.2.below aC⟩
  have HH3 : Hid (HistIn (w2.alloc (.cells #[.slice aoB nA capB, .slice aoQ nP capQ, .slice x1 x2 x3, .slice x4 x5 x6] 65)) aoA aoP nA nP h) := HH.out.below b13
  have hlt2 : w1.heap.size < w2.heap.size := lt_of_block hT2
  clear hT hT2 b1 b2 b12 aB aC hb1 hb2 HO HH e0
  obtain ⟨bx0, bx1⟩ := hT3.cells
  obtain ⟨⟨d0, d1, _, _⟩, _, _, _, _⟩ := four_cells hK
  go_wp2_with fail
  generalize w2.alloc (.cells #[.slice aoB nA capB, .slice aoQ nP capQ, .slice x1 x2 x3, .slice x4 x5 x6] 65) = W3 at *
  refine (lawSame_any h aoA aoP aoB aoQ nA nP capA capP capB capQ W3 HH3.out HB3.out.1 (by omega) (by omega)).mono ?_
  rintro e w4 ⟨rfl, hb4⟩
  have hT4 := hT3.below hb4
  have hK4 := (hb4.block _ (lt_of_block hK)).trans hK
  have b4 := b3.trans (hb4.mono b3.size)
  have b14 := b13.trans (hb4.mono b13.size)
  have HB4 : Hid (HistIn w4 aoB aoQ nA nP h ∧ OwnA w4 (w1.heap.size + 1) (.slice aoB nA capB) h.accs ∧ OwnPs w4 (w1.heap.size + 1) (.slice aoQ nP capQ) h.pers) := ⟨HB3.out.1.below hb4, HB3.out.2.1.below hb4, HB3.out.2.2.below hb4⟩
  obtain ⟨us, axs, r1, r2, r3, r4, r5, r6⟩ := HD.out
  have hcall := spoil_any aoA aoP nA nP capA capP w.heap.size w1.heap.size w4 us axs (ownsRow_below r1 b14) (ownsRow_below r2 b14) (fun k hk => by
    obtain ⟨u, m, e, hE⟩ := r3 k hk
    exact ⟨u, m, e, hE.below b14⟩) r4 ⟨fun g hg => (World.ownsRow.lt r1 g hg).2, fun g hg => (World.ownsRow.lt r2 g hg).2⟩ b4.size r5 r6
  clear HD r1 r2 r3 r4 HH3 HB3 hT3 hK b3 b13 hb4 bx0 bx1 d0 d1 b14
  obtain ⟨bx0, bx1⟩ := hT4.cells
  go_wp2_with fail
  refine hcall.mono ?_
  clear hcall
  rintro e w5 ⟨rfl, hf5⟩
  have hK5 := (hf5.block _ (lt_of_block hK4) (Or.inr (by omega))).trans hK4
  have b5 : Below w.heap.size w w5 := b4.trans ⟨hf5.os, hf5.tape, hf5.output, hf5.size, fun k hk => hf5.block k (Nat.lt_of_lt_of_le hk b4.size) (Or.inl hk)⟩
  have HB5 : Hid (HistIn w5 aoB aoQ nA nP h) := hist_again HB4.out.1 (ownsRow_frame HB4.out.2.1 hf5 (by omega)) (HB4.out.2.2.frame hf5 (by omega))
  clear hT4 hK4 b4 HB4 hf5 bx0 bx1
  go_wp2_with fail
  refine (c1 _).mono ?_
  clear c1
  rintro e w6 ⟨aoG, capG, aoR, capR, rfl, HG, _, hb6⟩
  have aD : Below w6.heap.size w6 (w6.alloc (.cells #[.slice aoG nA capG, .slice aoR nP capR] 41)) := (Below.refl _ _).alloc (Nat.le_refl _) _
  have hG6 := Two.new w6 (.slice aoG nA capG) (.slice aoR nP capR) 41
  have b57 := hb6.trans (aD.mono hb6.size)
  have hK7 := (b57.block _ (lt_of_block hK5)).trans hK5
  have b7 := b5.trans (b57.mono b5.size)
  have HB7 : Hid (HistIn (w6.alloc (.cells #[.slice aoG nA capG, .slice aoR nP capR] 41)) aoB aoQ nA nP h) := HB5.out.below b57
  have HG7 : Hid (HistIn (w6.alloc (.cells #[.slice aoG nA capG, .slice aoR nP capR] 41)) aoG aoR nA nP h) := HG.out.below aD
  have hlt6 : w2.heap.size < w6.heap.size := Nat.lt_of_lt_of_le (lt_of_block hK5) hb6.size
  clear hK5 b5 HB5 HG b57 hb6 aD
  obtain ⟨gx0, gx1⟩ := hG6.cells
  obtain ⟨⟨d0, d1, _, _⟩, _, _, _, _⟩ := four_cells hK7
  go_wp2_with fail
  generalize w6.alloc (.cells #[.slice aoG nA capG, .slice aoR nP capR] 41) = W7 at *
  refine (lawSame_any h aoG aoR aoB aoQ nA nP capG capR capB capQ W7 HG7.out HB7.out (by omega) (by omega)).mono ?_
  rintro e w8 ⟨rfl, hb8⟩
  have b8 := b7.trans (hb8.mono b7.size)
  clear HB7 HG7 hK7 hG6 hb8 b7 gx0 gx1 d0 d1
  go_wp2_with fail
  go_ret
  exact ⟨rfl, b8⟩
end Go.Proofs.Ytpkkhkkkgjhkeaa
