import Derived.Test.YtpkkhkkkgjhkeaaGreatRefSeal
import Derived.Test.YtpkkhkkkgjhkeaaGreatHhead
import Derived.Test.YtpkkhkkkgjhkeaaGreatSameEnts
import Derived.Test.YtpkkhkkkgjhkeaaGreatReader
import Derived.Deep.CutRange
import Derived.Test.YtpkkhkkkgjhkeaaGreatDecode
import Derived.Test.YtpkkhkkkgjhkeaaGreatCursor
/-
  THE WALK of signetlaw.sameHistory, of two histories that are the same.
-/
namespace Go.Proofs.YtpkkhkkkgjhkeaaGreat
open Go.RowKit
set_option maxRecDepth 100000
attribute [local go_sem ↓] Go.wp_at_zero Go.wp_at_succ

end Go.Proofs.YtpkkhkkkgjhkeaaGreat

/-
  WHAT STANDS while signetlaw.spoil writes over a history that is the caller's own: shapes, no contents.
-/
namespace Go.Proofs.YtpkkhkkkgjhkeaaGreat
open Go.RowKit
set_option maxRecDepth 100000

theorem ownsRow_set {w : World} {B : Nat} {e : TypeId} {sz n : Nat} {v : Value} {xs : List Value} (h : w.ownsRow B e sz v n xs) (g j : Nat) (u : Value) : ∃ xs', (w.setCell ⟨g, j, none⟩ u).ownsRow B e sz v n xs' ∧ (xs' = xs ∨ xs' = xs.set j u) := by
  rcases h.2 with ⟨e1, e2⟩ | ⟨g', cap, cur, e1, h1, h2, h3⟩
  · exact ⟨xs, ⟨h.1, Or.inl ⟨e1, e2⟩⟩, Or.inl rfl⟩
  · by_cases hg : g' = g
    · subst hg
      subst e1
      exact ⟨_, (h.stored j u).1, Or.inr rfl⟩
    · exact ⟨xs, ⟨h.1, Or.inr ⟨g', cap, cur, e1, h1, (heap_setCell_other w ⟨g, j, none⟩ g' u hg).trans h2, h3⟩⟩, Or.inl rfl⟩
/-- A value's row lies ahead of M. -/
def Ahead (M : Nat) (v : Value) : Prop := ∀ g, v.ownBlock = some g → g < M
/-- What lies below B, and from M on, is as it was. -/
structure FrameM (B M : Nat) (w wr : World) : Prop where
  os : wr.os = w.os
  tape : wr.tape = w.tape
  output : wr.output = w.output
  size : w.heap.size ≤ wr.heap.size
  block : ∀ k, k < w.heap.size → (k < B ∨ M ≤ k) → wr.heap[k]? = w.heap[k]?
theorem FrameM.refl (B M : Nat) (w : World) : FrameM B M w w := ⟨rfl, rfl, rfl, Nat.le_refl _, fun _ _ _ => rfl⟩
theorem FrameM.setCell {B M : Nat} {w wr : World} {g j : Nat} (h : FrameM B M w wr) (h1 : B ≤ g) (h2 : g < M) (u : Value) : FrameM B M w (wr.setCell ⟨g, j, none⟩ u) :=
  ⟨h.os, h.tape, h.output, by simpa using h.size, fun k hk hk2 => (heap_setCell_other wr ⟨g, j, none⟩ k u (by show k ≠ g; omega)).trans (h.block k hk hk2)⟩
theorem FrameM.below {B M : Nat} {w wr w' : World} (h : FrameM B M w wr) (hb : Below wr.heap.size wr w') : FrameM B M w w' :=
  ⟨hb.os.trans h.os, hb.tape.trans h.tape, hb.output.trans h.output, Nat.le_trans h.size hb.size, fun k hk hk2 => (hb.block k (Nat.lt_of_lt_of_le hk h.size)).trans (h.block k hk hk2)⟩
theorem FrameM.grown {B M : Nat} {w wr w' : World} {row : Option Nat} (h : FrameM B M w wr) (hg : wr.grownBy w' row) (hr : ∀ k, row = some k → B ≤ k ∧ k < M) : FrameM B M w w' :=
  ⟨hg.os.trans h.os, hg.tape.trans h.tape, hg.output.trans h.output, Nat.le_trans h.size hg.size, fun k hk hk2 => (hg.block k (Nat.lt_of_lt_of_le hk h.size) (fun e => by have := hr k e.symm; omega)).trans (h.block k hk hk2)⟩
/-- A row of postings, whatever they are. -/
def PRow (w : World) (B M : Nat) (v : Value) : Prop := ∃ n ys, (n ≤ 255 ∧ Ahead M v) ∧ w.ownsRow B 57 2 v n ys
theorem PRow.set {w : World} {B M : Nat} {v : Value} (h : PRow w B M v) (g j : Nat) (u : Value) : PRow (w.setCell ⟨g, j, none⟩ u) B M v := by
  obtain ⟨n, ys, h1, h2⟩ := h
  obtain ⟨xs', h3, _⟩ := ownsRow_set h2 g j u
  exact ⟨n, xs', h1, h3⟩
theorem PRow.keptT {w w' : World} {B M : Nat} {v : Value} {t : TypeId} (h : PRow w B M v) (hk : KeptT t w w') (hne : 57 ≠ t) : PRow w' B M v := by
  obtain ⟨n, ys, h1, h2⟩ := h
  exact ⟨n, ys, h1, ownsRow_keptT h2 hk hne⟩
/-- A row of entries, whatever they are; their lists of postings are rows. -/
def ERow (w : World) (B M : Nat) (v : Value) (n : Nat) : Prop := ∃ xs, w.ownsRow B 55 2 v n xs ∧ (n ≤ 255 ∧ Ahead M v) ∧ ∀ j, j < n → ∃ u, xs[j * 2 + 1]? = some u ∧ PRow w B M u
theorem ERow.keptT {w w' : World} {B M n : Nat} {v : Value} {t : TypeId} (h : ERow w B M v n) (hk : KeptT t w w') (h1 : 55 ≠ t) (h2 : 57 ≠ t) : ERow w' B M v n := by
  obtain ⟨xs, a, b, c⟩ := h
  refine ⟨xs, ownsRow_keptT a hk h1, b, fun j hj => ?_⟩
  obtain ⟨u, e, p⟩ := c j hj
  exact ⟨u, e, p.keptT hk h2⟩
theorem ERow.pst {w : World} {B M n q j : Nat} {v u : Value} {cur : Array Value} (h : ERow w B M v n) (hq : w.heap[q]? = some (.cells cur 57 (0, 0))) : ERow (w.setCell ⟨q, j, none⟩ u) B M v n := by
  obtain ⟨xs, a, b, c⟩ := h
  refine ⟨xs, ownsRow_keptT a (keptT_setCell hq) (by decide), b, fun k hk => ?_⟩
  obtain ⟨x, e, p⟩ := c k hk
  exact ⟨x, e, p.set _ _ _⟩
theorem ERow.memo {w : World} {B M n g i : Nat} {v u : Value} {cur : Array Value} (h : ERow w B M v n) (hg : w.heap[g]? = some (.cells cur 55 (0, 0))) : ERow (w.setCell ⟨g, i * 2, none⟩ u) B M v n := by
  obtain ⟨xs, a, b, c⟩ := h
  obtain ⟨xs', a', e'⟩ := ownsRow_set a g (i * 2) u
  refine ⟨xs', a', b, fun k hk => ?_⟩
  obtain ⟨x, e, p⟩ := c k hk
  refine ⟨x, ?_, p.keptT (keptT_setCell hg) (by decide)⟩
  rcases e' with e' | e'
  · rw [e']; exact e
  · rw [e', List.getElem?_set_ne (by omega)]; exact e
/-- What stands: from the period i on the lists are as they were, but for what is written in them. -/
structure SpI (w wr : World) (B M hb : Nat) (vA vP : Value) (nA nP : Nat) (us : List Value) (i : Nat) : Prop where
  bel : FrameM B M w wr
  box : Two wr hb vA vP 36
  ahead : Ahead M vA ∧ Ahead M vP
  accs : ∃ xs, wr.ownsRow B 66 2 vA nA xs
  pers : wr.ownsRow B 24 1 vP nP us
  ents : ∀ k, i ≤ k → k < nP → ∃ u m, us[k]? = some u ∧ ERow wr B M u m
  apart : ∀ (k k' : Nat) (u v : Value) (g : Nat), i ≤ k → k < k' → us[k]? = some u → us[k']? = some v → u.ownBlock = some g → v.ownBlock ≠ some g
theorem SpI.pst {w wr : World} {B M hb nA nP i q j : Nat} {vA vP u : Value} {us : List Value} {cur : Array Value} (m : SpI w wr B M hb vA vP nA nP us i) (hB : B ≤ q) (hM : q < M) (hq : wr.heap[q]? = some (.cells cur 57 (0, 0))) : SpI w (wr.setCell ⟨q, j, none⟩ u) B M hb vA vP nA nP us i ∧ (wr.setCell ⟨q, j, none⟩ u).heap[q]? = some (.cells (cur.setIfInBounds j u) 57 (0, 0)) := by
  have hk : KeptT 57 wr (wr.setCell ⟨q, j, none⟩ u) := keptT_setCell hq
  obtain ⟨xs, hx⟩ := m.accs
  refine ⟨⟨m.bel.setCell hB hM _, hk _ _ _ _ m.box (by decide), m.ahead, ⟨xs, ownsRow_keptT hx hk (by decide)⟩, ownsRow_keptT m.pers hk (by decide), fun k h1 h2 => ?_, m.apart⟩, heap_setCell_same wr q j _ _ u hq⟩
  obtain ⟨x, n, e, h⟩ := m.ents k h1 h2
  exact ⟨x, n, e, h.pst hq⟩
theorem SpI.memo {w wr : World} {B M hb nA nP i g j : Nat} {vA vP u : Value} {us : List Value} {cur : Array Value} (m : SpI w wr B M hb vA vP nA nP us i) (hB : B ≤ g) (hM : g < M) (hg : wr.heap[g]? = some (.cells cur 55 (0, 0))) : SpI w (wr.setCell ⟨g, j * 2, none⟩ u) B M hb vA vP nA nP us i := by
  have hk : KeptT 55 wr (wr.setCell ⟨g, j * 2, none⟩ u) := keptT_setCell hg
  obtain ⟨xs, hx⟩ := m.accs
  refine ⟨m.bel.setCell hB hM _, hk _ _ _ _ m.box (by decide), m.ahead, ⟨xs, ownsRow_keptT hx hk (by decide)⟩, ownsRow_keptT m.pers hk (by decide), fun k h1 h2 => ?_, m.apart⟩
  obtain ⟨x, n, e, h⟩ := m.ents k h1 h2
  exact ⟨x, n, e, h.memo hg⟩
theorem SpI.acc {w wr : World} {B M hb nA nP i g j : Nat} {vA vP u : Value} {us : List Value} {cur : Array Value} (m : SpI w wr B M hb vA vP nA nP us i) (hB : B ≤ g) (hM : g < M) (hg : wr.heap[g]? = some (.cells cur 66 (0, 0))) : SpI w (wr.setCell ⟨g, j, none⟩ u) B M hb vA vP nA nP us i ∧ (wr.setCell ⟨g, j, none⟩ u).heap[g]? = some (.cells (cur.setIfInBounds j u) 66 (0, 0)) := by
  have hk : KeptT 66 wr (wr.setCell ⟨g, j, none⟩ u) := keptT_setCell hg
  obtain ⟨xs, hx⟩ := m.accs
  obtain ⟨xs', hx', _⟩ := ownsRow_set hx g j u
  refine ⟨⟨m.bel.setCell hB hM _, hk _ _ _ _ m.box (by decide), m.ahead, ⟨xs', hx'⟩, ownsRow_keptT m.pers hk (by decide), fun k h1 h2 => ?_, m.apart⟩, heap_setCell_same wr g j _ _ u hg⟩
  obtain ⟨x, n, e, h⟩ := m.ents k h1 h2
  exact ⟨x, n, e, h.keptT hk (by decide) (by decide)⟩
/-- An entry is appended to the period's list, and the list is stored: on to the next one. -/
theorem SpI.next {w W X w5 : World} {B M hb nA nP i gP capP n : Nat} {vA l v' : Value} {us xs : List Value} {ys : List Value} (m : SpI w W B M hb vA (.slice (some ⟨gP, 0, none⟩) nP capP) nA nP us i) (hlM : Ahead M l) (hi : us[i]? = some l) (hl : W.ownsRow B 55 2 l n xs) (aX : Below W.heap.size W X) (hg : X.grownBy w5 l.ownBlock) (_hown : w5.ownsRow B 55 2 v' (n + 1) ys) :
    (w5.cell? ⟨gP, i, none⟩ = some l ∧ w5.frozen? ⟨gP, i, none⟩ = false ∧ Two w5 hb vA (.slice (some ⟨gP, 0, none⟩) nP capP) 36) ∧ SpI w (w5.setCell ⟨gP, i, none⟩ v') B M hb vA (.slice (some ⟨gP, 0, none⟩) nP capP) nA nP (us.set i v') (i + 1) := by
  have hlX := ownsRow_below hl aX
  have hk := keptT_append hlX hg
  have hpX := ownsRow_below m.pers aX
  have hp5 := ownsRow_keptT hpX hk (by decide)
  have box5 := hk _ _ _ _ (m.box.below aX) (by decide)
  have hil : i < us.length := (List.getElem?_eq_some_iff.1 hi).1
  have hun := m.pers.1
  have hgP : ∃ cur, w5.heap[gP]? = some (.cells cur 24 (0, 0)) ∧ B ≤ gP := by
    rcases hp5.2 with ⟨e, _⟩ | ⟨g', cap, cur, e, h1, h2, _⟩
    · simp at e
    · simp only [Value.slice.injEq, Option.some.injEq, Addr.mk.injEq, and_true, true_and] at e
      obtain ⟨rfl, _⟩ := e
      exact ⟨cur, h2, h1⟩
  obtain ⟨curP, hcP, hBP⟩ := hgP
  have hk6 : KeptT 24 w5 (w5.setCell ⟨gP, i, none⟩ v') := keptT_setCell hcP
  have bX := m.bel.below aX
  obtain ⟨ax, hax⟩ := m.accs
  refine ⟨⟨?_, hp5.frozenAt i, box5⟩, ⟨?_, hk6 _ _ _ _ box5 (by decide), m.ahead, ⟨ax, ownsRow_keptT (ownsRow_keptT (ownsRow_below hax aX) hk (by decide)) hk6 (by decide)⟩, (hp5.stored i v').1, fun k h1 h2 => ?_, fun k k' u v g h1 h2 h3 h4 => ?_⟩⟩
  · rw [World.ownsRow.cellAt hp5 i (by omega)]; exact hi
  · exact (bX.grown hg (fun q hq => ⟨(World.ownsRow.lt hlX q hq).1, hlM q hq⟩)).setCell hBP (m.ahead.2 gP rfl) _
  · obtain ⟨u, mm, e, zs, z1, z2, z3⟩ := m.ents k (by omega) h2
    refine ⟨u, mm, by rw [List.getElem?_set_ne (by omega)]; exact e, ?_⟩
    have e5 : ERow w5 B M u mm := by
      refine ⟨zs, ?_, z2, fun j hj => ?_⟩
      · have zX := ownsRow_below z1 aX
        refine ⟨zX.1, ?_⟩
        rcases zX.2 with h0 | ⟨g', cap, cur, e1, q1, q2, q3⟩
        · exact Or.inl h0
        · refine Or.inr ⟨g', cap, cur, e1, q1, (hg.block g' (lt_of_block q2) (fun ee => ?_)).trans q2, q3⟩
          have hub : u.ownBlock = some g' := by rw [e1]; rfl
          exact m.apart i k l u g' (Nat.le_refl _) (by omega) hi e ee.symm hub
      · obtain ⟨x, e2, n2, ys2, n3, r2⟩ := z3 j hj
        exact ⟨x, e2, n2, ys2, n3, ownsRow_keptT (ownsRow_below r2 aX) hk (by decide)⟩
    exact e5.keptT hk6 (by decide) (by decide)
  · rw [List.getElem?_set_ne (by omega)] at h3
    rw [List.getElem?_set_ne (by omega)] at h4
    exact m.apart k k' u v g (by omega) h2 h3 h4
end Go.Proofs.YtpkkhkkkgjhkeaaGreat

/-
  THE WALK of signetlaw.spoil: it writes into nothing but what it was handed.
-/
namespace Go.Proofs.YtpkkhkkkgjhkeaaGreat
open Go.RowKit
set_option maxRecDepth 100000
attribute [local go_sem ↓] Go.wp_at_zero Go.wp_at_succ

/-- 'own'. -/
abbrev ownT : ByteArray := { data := #[111, 119, 110] }
theorem row_len {w : World} {B : Nat} {e : TypeId} {sz n m cap : Nat} {ao : Option Addr} {xs : List Value} (h : w.ownsRow B e sz (.slice ao m cap) n xs) : n = m := by
  rcases h.2 with ⟨e1, e2⟩ | ⟨g, c, cur, e1, _⟩
  · simp only [Value.slice.injEq] at e1; omega
  · simp only [Value.slice.injEq] at e1; omega
theorem row_shape {w : World} {B : Nat} {e : TypeId} {sz n : Nat} {v : Value} {xs : List Value} (h : w.ownsRow B e sz v n xs) : ∃ ao cap, v = .slice ao n cap := by
  rcases h.2 with ⟨e1, e2⟩ | ⟨g, c, cur, e1, _⟩
  · exact ⟨none, 0, by rw [e1, e2]⟩
  · exact ⟨_, c, e1⟩
/-- A row that is not empty: its block. -/
theorem row_block {w : World} {B : Nat} {e : TypeId} {sz n cap : Nat} {ao : Option Addr} {xs : List Value} (h : w.ownsRow B e sz (.slice ao n cap) n xs) (hn : 0 < n) : ∃ g cur, ao = some ⟨g, 0, none⟩ ∧ B ≤ g ∧ w.heap[g]? = some (.cells cur e (0, 0)) ∧ n ≤ cap ∧ cap ≤ maxLen ∧ ∀ j, j < n * sz → cur[j]? = xs[j]? ∧ w.cell? ⟨g, j, none⟩ = xs[j]? ∧ w.frozen? ⟨g, j, none⟩ = false := by
  rcases h.2 with ⟨e1, e2⟩ | ⟨g, c, cur, e1, h1, h2, h3, h4, h5, h6⟩
  · omega
  · simp only [Value.slice.injEq] at e1
    obtain ⟨rfl, _, rfl⟩ := e1
    refine ⟨g, cur, rfl, h1, h2, h3, h4, fun j hj => ⟨?_, ?_, ?_⟩⟩
    · rw [← h6, List.getElem?_take_of_lt hj, Array.getElem?_toList]
    · rw [cell_of_row w g j _ _ _ h2, ← h6, List.getElem?_take_of_lt hj, Array.getElem?_toList]
    · simp [World.frozen?, h2]

end Go.Proofs.YtpkkhkkkgjhkeaaGreat

/-
  THE WALK of signetlaw.Decodes (P7).
-/
namespace Go.Proofs.YtpkkhkkkgjhkeaaGreat
open Go.RowKit
set_option maxRecDepth 100000
attribute [local go_sem ↓] Go.wp_at_zero Go.wp_at_succ

theorem erow_of {w : World} {B : Nat} {v : Value} {es : List Sg.Ent} (h : OwnE w B v es) (h1 : es.length ≤ 255) (h2 : ∀ e ∈ es, e.posts.length ≤ 255) : ERow w B w.heap.size v es.length := by
  obtain ⟨us, a, b, c⟩ := h
  refine ⟨_, b, ⟨h1, fun g hg => (World.ownsRow.lt b g hg).2⟩, fun j hj => ⟨us[j]'(by omega), (eCells_at es us a j hj).2, es[j].posts.length, _, ⟨h2 _ (List.getElem_mem hj), fun g hg => (World.ownsRow.lt (c j hj (by omega)) g hg).2⟩, c j hj (by omega)⟩⟩
theorem ERow.below {w w' : World} {B M n : Nat} {v : Value} (h : ERow w B M v n) (hb : Below w.heap.size w w') : ERow w' B M v n := by
  obtain ⟨xs, a, b, c⟩ := h
  refine ⟨xs, ownsRow_below a hb, b, fun j hj => ?_⟩
  obtain ⟨u, e, n2, ys, h1, h2⟩ := c j hj
  exact ⟨u, e, n2, ys, h1, ownsRow_below h2 hb⟩
theorem ownsRow_frame {w w' : World} {B M B' : Nat} {e : TypeId} {sz n : Nat} {v : Value} {xs : List Value} (h : w.ownsRow B' e sz v n xs) (hf : FrameM B M w w') (hM : M ≤ B') : w'.ownsRow B' e sz v n xs := by
  refine ⟨h.1, ?_⟩
  rcases h.2 with h0 | ⟨g, cap, cur, h1, h2, h3, h4⟩
  · exact Or.inl h0
  · exact Or.inr ⟨g, cap, cur, h1, h2, (hf.block g (lt_of_block h3) (Or.inr (by omega))).trans h3, h4⟩
theorem OwnPs.frame {w w' : World} {B M B' : Nat} {v : Value} {ps : List (List Sg.Ent)} (h : OwnPs w B' v ps) (hf : FrameM B M w w') (hM : M ≤ B') : OwnPs w' B' v ps := by
  obtain ⟨us, a, b, c⟩ := h
  refine ⟨us, a, ownsRow_frame b hf hM, fun i h1 h2 => ?_⟩
  obtain ⟨vs, x, y, z⟩ := c i h1 h2
  exact ⟨vs, x, ownsRow_frame y hf hM, fun j h3 h4 => ownsRow_frame (z j h3 h4) hf hM⟩
theorem hist_again {W w : World} {B : Nat} {aoA aoP : Option Addr} {nA nP capA capP : Nat} {h : Sg.Hist} (hH : HistIn W aoA aoP nA nP h) (hA : OwnA w B (.slice aoA nA capA) h.accs) (hP : OwnPs w B (.slice aoP nP capP) h.pers) : HistIn w aoA aoP nA nP h := by
  obtain ⟨ao1, c1, e1, _, _, i1⟩ := hA.in_
  obtain ⟨ao2, c2, e2, _, i2⟩ := hP.in_
  simp only [Value.slice.injEq] at e1 e2
  obtain ⟨rfl, _, _⟩ := e1
  obtain ⟨rfl, _, _⟩ := e2
  exact ⟨i1, i2, hH.lenA, hH.lenP, hH.sizA, hH.sizP, hH.sizQ⟩
/-- The history that was read, or none. -/
def Sg.opened (t : ByteArray) : Sg.Hist := if Sg.isPk (Sg.pdHist (Sg.tx t)) t then Sg.pdHist (Sg.tx t) else ⟨[], []⟩
def Sg.openErr (t : ByteArray) : Int := if Sg.isPk (Sg.pdHist (Sg.tx t)) t then 0 else 5
theorem none_in (w : World) : HistIn w none none 0 0 ⟨[], []⟩ := ⟨Or.inl rfl, Or.inl rfl, rfl, rfl, fun a ha => by simp at ha, fun p hp => by simp at hp, fun p hp => by simp at hp⟩
/-- What Decode answers, for spoil: rows. -/
def DecRows (w' : World) (B : Nat) (aoA aoP : Option Addr) (nA nP capA capP : Nat) : Prop := ∃ us axs, w'.ownsRow B 66 2 (.slice aoA nA capA) nA axs ∧ w'.ownsRow B 24 1 (.slice aoP nP capP) nP us ∧ (∀ k, k < nP → ∃ u m, us[k]? = some u ∧ ERow w' B w'.heap.size u m) ∧ Apart us ∧ nA ≤ 255 ∧ nP ≤ 255
theorem decode_all (t : ByteArray) (w : World) :
    Calls Tryz.prog 17 #[.string t] w fun e w' => ∃ aoA capA aoP capP, e = .returned (.tuple #[.agg #[.slice aoA (Sg.opened t).accs.length capA, .slice aoP (Sg.opened t).pers.length capP], .int .i64 (Sg.openErr t)]) ∧ Hid (HistIn w' aoA aoP (Sg.opened t).accs.length (Sg.opened t).pers.length (Sg.opened t)) ∧ Hid (DecRows w' w.heap.size aoA aoP (Sg.opened t).accs.length (Sg.opened t).pers.length capA capP) ∧ Below w.heap.size w w' := by
  refine (decode_any t w).mono ?_
  rintro e w' ⟨hb, ⟨hn, rfl⟩ | ⟨hy, aoA, nA, capA, aoP, nP, capP, rfl, _, hH, hOA, us, hul, hrow, hus, hap⟩⟩
  · have e1 : Sg.opened t = ⟨[], []⟩ := by unfold Sg.opened; rw [if_neg hn]
    have e2 : Sg.openErr t = 5 := by unfold Sg.openErr; rw [if_neg hn]
    rw [e1, e2]
    exact ⟨none, 0, none, 0, rfl, none_in w', ⟨[], [], World.ownsRow_nil _ _ _ _, World.ownsRow_nil _ _ _ _, fun k hk => absurd hk (by simp), fun i j u v g _ hx => by simp at hx, by simp, by simp⟩, hb⟩
  · have e1 : Sg.opened t = Sg.pdHist (Sg.tx t) := by unfold Sg.opened; rw [if_pos hy]
    have e2 : Sg.openErr t = 0 := by unfold Sg.openErr; rw [if_pos hy]
    rw [e1, e2]
    have hlA := hH.lenA
    have hlP := hH.lenP
    have hi : Sg.inBounds (Sg.pdHist (Sg.tx t)) = true := by
      have hc := hy.1
      cases hb : Sg.inBounds (Sg.pdHist (Sg.tx t)) with
      | true => rfl
      | false => unfold Sg.closeErr at hc; rw [hb] at hc; simp at hc
    have hbp := Sg.bnd_pers hi
    have hnum : (Sg.pdHist (Sg.tx t)).accs.length ≤ 8 ∧ (Sg.pdHist (Sg.tx t)).pers.length ≤ 6 := by
      unfold Sg.inBounds at hi
      simp only [Bool.and_eq_true, decide_eq_true_eq] at hi
      omega
    subst hlA hlP
    refine ⟨aoA, capA, aoP, capP, rfl, hH, ⟨us, _, hOA, hrow, fun k hk => ?_, hap, by omega, by omega⟩, hb⟩
    have hku : k < us.length := by omega
    refine ⟨us[k], _, List.getElem?_eq_getElem hku, erow_of (hus k hk hku) (by have := (hbp _ (List.getElem_mem hk)).1; omega) (fun e he => by have := ((hbp _ (List.getElem_mem hk)).2 e he).2; omega)⟩
theorem open_all (t : ByteArray) (w : World) (ht : t.size ≤ 140737488355328) :
    Calls Tryz.prog 8 #[.string t] w fun e w' => ∃ aoA capA aoP capP vB vT, e = .returned (.tuple #[.agg #[.slice aoA (Sg.opened t).accs.length capA, .slice aoP (Sg.opened t).pers.length capP, vB, vT], .int .i64 (Sg.openErr t)]) ∧ (∃ a n c, vB = .slice a n c) ∧ (∃ a n c, vT = .slice a n c) ∧ Hid (HistIn w' aoA aoP (Sg.opened t).accs.length (Sg.opened t).pers.length (Sg.opened t) ∧ OwnA w' w.heap.size (.slice aoA (Sg.opened t).accs.length capA) (Sg.opened t).accs ∧ OwnPs w' w.heap.size (.slice aoP (Sg.opened t).pers.length capP) (Sg.opened t).pers) ∧ Below w.heap.size w w' := by
  obtain ⟨hiff, hsame⟩ := Sg.read_both t
  refine (open_any t w ht).mono ?_
  rintro e w' ⟨hb, ⟨hn, rfl⟩ | ⟨hy, aoA, aoP, aoB, aoT, nA, nP, capA, capP, capB, capT, rfl, h1, hC, hOA, hOP⟩⟩
  · have hn' : ¬ Sg.isPk (Sg.pdHist (Sg.tx t)) t := fun h => hn (hiff.1 h)
    have e1 : Sg.opened t = ⟨[], []⟩ := by unfold Sg.opened; rw [if_neg hn']
    have e2 : Sg.openErr t = 5 := by unfold Sg.openErr; rw [if_neg hn']
    rw [e1, e2]
    exact ⟨none, 0, none, 0, _, _, rfl, ⟨_, _, _, rfl⟩, ⟨_, _, _, rfl⟩, ⟨none_in w', World.ownsRow_nil _ _ _ _, OwnPs.nil _ _⟩, hb⟩
  · have hy' := hiff.2 hy
    have e1 : Sg.opened t = Sg.pdHist (Sg.tx t) := by unfold Sg.opened; rw [if_pos hy']
    have e2 : Sg.openErr t = 0 := by unfold Sg.openErr; rw [if_pos hy']
    rw [hsame hy'] at hC hOA hOP
    rw [e1, e2]
    have hlA := hC.lenA
    have hlP := hC.lenP
    subst hlA hlP
    refine ⟨aoA, capA, aoP, capP, _, _, rfl, ⟨_, _, _, rfl⟩, ⟨_, _, _, rfl⟩, ⟨⟨hC.accs, hC.pers, rfl, rfl, fun a ha => ?_, fun p hp => ?_, Sg.pdHist_fits _⟩, hOA, hOP⟩, hb⟩
    · have := hC.accFine a ha
      exact ⟨by omega, decide_eq_true (by omega)⟩
    · have := hC.allFine p hp
      exact ⟨by have := this.1; omega, fun e he => by have := this.2 e he; omega⟩

end Go.Proofs.YtpkkhkkkgjhkeaaGreat
