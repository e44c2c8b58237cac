import Derived.Test.YtpkkhkkkgjhkeabGreatReadSpec
import Derived.Test.YtpkkhkkkgjhkeabGreatMadeSpec
import Derived.Test.YtpkkhkkkgjhkeabGreatMadeInv
import Derived.Test.YtpkkhkkkgjhkeabGreatRefSeal
import Derived.Deep.CutRange
/-
  THE WALKS of signetref.cursor: a text is read, behind its end there are noughts.
-/
namespace Go.Proofs.YtpkkhkkkgjhkeabGreat
open Go.RowKit
set_option maxRecDepth 100000
attribute [local go_sem ↓] Go.wp_at_zero Go.wp_at_succ

namespace Sg
theorem extract_mid (t : ByteArray) (p k : Nat) : t.extract (min p t.size) (min (p + k) t.size) = ofL (((tx t).drop p).take k) := by
  apply ByteArray.ext
  rw [ByteArray.data_extract]
  apply Array.toList_inj.1
  have e : t.size = (tx t).length := (tx_length t).symm
  show (t.data.extract _ _).toList = (((tx t).drop p).take k)
  rw [Array.toList_extract, List.extract_eq_take_drop]
  show ((tx t).drop _).take _ = _
  rw [e]
  generalize tx t = l
  by_cases h : p ≤ l.length
  · rw [Nat.min_eq_left h]
    by_cases h2 : p + k ≤ l.length
    · rw [Nat.min_eq_left h2]; congr 1; omega
    · rw [Nat.min_eq_right (by omega), List.take_of_length_le (by simp), List.take_of_length_le (by simp; omega)]
  · rw [Nat.min_eq_right (by omega), Nat.min_eq_right (by omega), List.drop_of_length_le (Nat.le_refl _), List.drop_of_length_le (by omega)]
    simp
/-- The number of the first bytes, noughts behind the end. -/
def padL (s : List UInt8) (i : Nat) : Nat := numL ((s ++ List.replicate 8 0).take i)
theorem padL_succ (s : List UInt8) (i : Nat) (h : i < 8) : padL s (i + 1) = padL s i * 256 + ((s[i]?).getD 0).toNat := by
  unfold padL
  have hl : i < (s ++ List.replicate 8 (0 : UInt8)).length := by simp; omega
  rw [List.take_succ_eq_append_getElem hl, numL_snoc]
  congr 2
  by_cases h2 : i < s.length
  · rw [List.getElem_append_left h2, List.getElem?_eq_getElem h2]; rfl
  · rw [List.getElem_append_right (by omega), List.getElem?_eq_none (by omega), List.getElem_replicate]; rfl
theorem padL_lt (s : List UInt8) (i : Nat) : padL s i < 256 ^ i := numL_lt _ i (by simp; omega)
theorem padL_one (s : List UInt8) : padL s 1 = numL (s.take 1) := by
  cases s with
  | nil => rfl
  | cons b s => unfold padL; simp
end Sg

theorem pad_step (x : Nat) (hx : x < 256 ^ 7) (t : ByteArray) (q : Nat) (h : q < t.size) : IntKind.u64.wrap ((x : Int) * 256 + IntKind.u64.wrap ((t[q].toNat : Nat) : Int)) = ((x * 256 + (((Sg.tx t)[q]?).getD 0).toNat : Nat) : Int) := by
  have e : (Sg.tx t)[q]? = some t[q] := by
    unfold Sg.tx
    rw [Array.getElem?_toList, Array.getElem?_eq_getElem (by exact h)]
    rfl
  rw [e, Option.getD_some]
  have hb : t[q].toNat < 256 := t[q].toNat_lt
  generalize t[q].toNat = y at *
  simp [IntKind.wrap, IntKind.bits, IntKind.signed]
  omega
end Go.Proofs.YtpkkhkkkgjhkeabGreat

/-
  WHAT STANDS at the heads of signetref.Open's loops.
-/
namespace Go.Proofs.YtpkkhkkkgjhkeabGreat
open Go.RowKit
set_option maxRecDepth 100000

namespace Sg
/-- Postings so far, read from p0 on, up to p. -/
def QTo (l : List UInt8) (p0 k : Nat) (qs : List Pst) (p : Nat) : Prop := qs = (rdMany (rdPst rdR) k (l.drop p0)).1 ∧ l.drop p = (rdMany (rdPst rdR) k (l.drop p0)).2 ∧ p ≤ p0 + 9 * k
theorem QTo.zero (l : List UInt8) (p : Nat) : QTo l p 0 [] p := ⟨rfl, rfl, by omega⟩
theorem QTo.succ {l : List UInt8} {p0 k p : Nat} {qs : List Pst} (h : QTo l p0 k qs p) {a : Nat} {n : Int} (ha : a = numL ((l.drop p).take 1)) (hn : n = rdR.num (l.drop (p + 1))) : QTo l p0 (k + 1) (qs ++ [⟨(a : Int), n⟩]) (p + 1 + 8) := by
  obtain ⟨h1, h2, h3⟩ := h
  have e1 : (l.drop p).drop 1 = l.drop (p + 1) := by rw [List.drop_drop]
  have e2 : (l.drop (p + 1)).drop 8 = l.drop (p + 1 + 8) := by rw [List.drop_drop]
  refine ⟨?_, ?_, by omega⟩
  · simp only [rdMany]
    rw [← h2, h1]
    unfold rdPst
    rw [e1, ha, hn]
  · simp only [rdMany]
    rw [← h2]
    unfold rdPst
    rw [e1, e2]
/-- Entries so far. -/
def ETo (l : List UInt8) (p0 k : Nat) (es : List Ent) (p : Nat) : Prop := es = (rdMany (rdEnt rdR) k (l.drop p0)).1 ∧ l.drop p = (rdMany (rdEnt rdR) k (l.drop p0)).2 ∧ p ≤ p0 + 400 * k
theorem ETo.zero (l : List UInt8) (p : Nat) : ETo l p 0 [] p := ⟨rfl, rfl, by omega⟩
theorem ETo.succ {l : List UInt8} {p0 k p p4 : Nat} {es : List Ent} (h : ETo l p0 k es p) {n q x : Nat} {mm : ByteArray} {qs : List Pst} (hn : n = numL ((l.drop p).take 1)) (hm : mm = ofL ((l.drop (p + 1)).take n)) (hq : q = numL ((l.drop (p + 1 + n)).take 1)) (hx : x = min q 7) (hQ : QTo l (p + 1 + n + 1) x qs p4) : ETo l p0 (k + 1) (es ++ [⟨mm, qs⟩]) p4 := by
  obtain ⟨h1, h2, h3⟩ := h
  obtain ⟨g1, g2, g3⟩ := hQ
  have hn8 : n < 256 := by rw [hn]; exact one_lt _
  have e1 : (l.drop p).drop 1 = l.drop (p + 1) := by rw [List.drop_drop]
  have e2 : (l.drop (p + 1)).drop n = l.drop (p + 1 + n) := by rw [List.drop_drop]
  have e3 : (l.drop (p + 1 + n)).drop 1 = l.drop (p + 1 + n + 1) := by rw [List.drop_drop]
  have ent : rdEnt rdR (l.drop p) = (⟨mm, qs⟩, l.drop p4) := by
    unfold rdEnt
    simp only [← hn, e1, e2, ← hq, e3]
    show ((⟨_, (rdMany (rdPst rdR) (min q 7) _).1⟩ : Ent), (rdMany (rdPst rdR) (min q 7) _).2) = _
    rw [← hx, ← g1, ← g2, ← hm]
  refine ⟨?_, ?_, by omega⟩
  · simp only [rdMany]
    rw [← h2, h1, ent]
  · simp only [rdMany]
    rw [← h2, ent]
/-- Periods so far. -/
def PTo (l : List UInt8) (n p0 k : Nat) (ps : List (List Ent)) (p : Nat) : Prop := ps = (rdMany (rdPer rdR n) k (l.drop p0)).1 ∧ l.drop p = (rdMany (rdPer rdR n) k (l.drop p0)).2 ∧ p ≤ p0 + 6000 * k
theorem PTo.zero (l : List UInt8) (n p : Nat) : PTo l n p 0 [] p := ⟨rfl, rfl, by omega⟩
theorem PTo.succ {l : List UInt8} {n p0 k p p2 : Nat} {ps : List (List Ent)} (h : PTo l n p0 k ps p) (h9 : n ≤ 9) {q x : Nat} {es : List Ent} (hq : q = numL ((l.drop p).take 1)) (hx : x = min q 13) (hE : ETo l (p + 1) x es p2) : PTo l n p0 (k + 1) (ps ++ [es]) (p2 + 8 * (n + 4)) := by
  obtain ⟨h1, h2, h3⟩ := h
  obtain ⟨g1, g2, g3⟩ := hE
  have e1 : (l.drop p).drop 1 = l.drop (p + 1) := by rw [List.drop_drop]
  have per : rdPer rdR n (l.drop p) = (es, l.drop (p2 + 8 * (n + 4))) := by
    unfold rdPer
    simp only [← hq, e1]
    show ((rdMany (rdEnt rdR) (min q 13) _).1, ((rdMany (rdEnt rdR) (min q 13) _).2).drop _) = _
    rw [← hx, ← g1, ← g2, List.drop_drop]
  refine ⟨?_, ?_, by omega⟩
  · simp only [rdMany]
    rw [← h2, h1, per]
  · simp only [rdMany]
    rw [← h2, per]
/-- Accounts so far. -/
def ATo (l : List UInt8) (k : Nat) (ac : List Acc) (p : Nat) : Prop := ac = (rdMany rdAcc k (l.drop 5)).1 ∧ l.drop p = (rdMany rdAcc k (l.drop 5)).2 ∧ p ≤ 5 + 300 * k
theorem ATo.zero (l : List UInt8) : ATo l 0 [] 5 := ⟨rfl, rfl, by omega⟩
theorem ATo.succ {l : List UInt8} {k p : Nat} {ac : List Acc} (h : ATo l k ac p) {n q : Nat} {mm : ByteArray} (hn : n = numL ((l.drop p).take 1)) (hm : mm = ofL ((l.drop (p + 1)).take n)) (hq : q = numL ((l.drop (p + 1 + n)).take 1)) : ATo l (k + 1) (ac ++ [⟨mm, (q : Int)⟩]) (p + 1 + n + 1) := by
  obtain ⟨h1, h2, h3⟩ := h
  have hn8 : n < 256 := by rw [hn]; exact one_lt _
  have e1 : (l.drop p).drop 1 = l.drop (p + 1) := by rw [List.drop_drop]
  have e2 : (l.drop (p + 1)).drop n = l.drop (p + 1 + n) := by rw [List.drop_drop]
  have e3 : (l.drop (p + 1 + n)).drop 1 = l.drop (p + 1 + n + 1) := by rw [List.drop_drop]
  have acc : rdAcc (l.drop p) = (⟨mm, (q : Int)⟩, l.drop (p + 1 + n + 1)) := by
    unfold rdAcc
    simp only [← hn, e1, e2, e3, ← hq, ← hm]
  refine ⟨?_, ?_, by omega⟩
  · simp only [rdMany]
    rw [← h2, h1, acc]
  · simp only [rdMany]
    rw [← h2, acc]
/-- The history that is read. -/
theorem rdHist_to {l : List UInt8} {n m x y p p' : Nat} {ac : List Acc} {ps : List (List Ent)} (hn : n = numL ((l.drop 4).take 1)) (hx : x = min n 9) (hA : ATo l x ac p) (hm : m = numL ((l.drop p).take 1)) (hy : y = min m 7) (hP : PTo l ac.length (p + 1) y ps p') : rdHist rdR l = ⟨ac, ps⟩ := by
  have e4 : (l.drop 4).drop 1 = l.drop 5 := by rw [List.drop_drop]
  have e1 : (l.drop p).drop 1 = l.drop (p + 1) := by rw [List.drop_drop]
  have eA : rdAccs rdR l = (ac, l.drop p) := by
    unfold rdAccs
    rw [← hn, e4]
    show rdMany rdAcc (min n 9) _ = _
    rw [← hx, hA.1, hA.2.1]
  have eP : (rdPers rdR ac.length (l.drop p)).1 = ps := by
    unfold rdPers
    rw [← hm, e1]
    show (rdMany (rdPer rdR ac.length) (min m 7) _).1 = _
    rw [← hy, ← hP.1]
  unfold rdHist
  rw [eA]
  simp only
  rw [eP]
end Sg

end Go.Proofs.YtpkkhkkkgjhkeabGreat

/-
  WHAT signetref.Open's END LEANS ON: closed books outlive the stores into the result's box; the history that was read fits.
-/
namespace Go.Proofs.YtpkkhkkkgjhkeabGreat
open Go.RowKit
set_option maxRecDepth 100000

/-- A block of nils. -/
def NilBox (w : World) (g : Nat) : Prop := ∃ cs t, w.heap[g]? = some (.cells cs t (0, 0)) ∧ ∀ (i : Nat) (v : Value), cs[i]? = some v → v = .slice none 0 0
theorem NilBox.ne {w : World} {g b o : Nat} {v : Value} (h : NilBox w g) (hc : w.cell? ⟨b, o, none⟩ = some v) (hv : v ≠ .slice none 0 0) : b ≠ g := by
  intro e
  subst e
  obtain ⟨cs, t, hh, hall⟩ := h
  rw [cell_of_row w _ o _ _ _ hh] at hc
  exact hv (hall o v hc)
/-- One block has turned, no other. -/
structure OffBy (g : Nat) (w w' : World) : Prop where
  size : w'.heap.size = w.heap.size
  block : ∀ i, i ≠ g → w'.heap[i]? = w.heap[i]?
theorem OffBy.refl (g : Nat) (w : World) : OffBy g w w := ⟨rfl, fun _ _ => rfl⟩
theorem OffBy.set {g j : Nat} {w w' : World} (h : OffBy g w w') (u : Value) : OffBy g w (w'.setCell ⟨g, j, none⟩ u) :=
  ⟨by simpa using h.size, fun i hi => (heap_setCell_other w' ⟨g, j, none⟩ i u hi).trans (h.block i hi)⟩
theorem OffBy.cell {g : Nat} {w w' : World} (h : OffBy g w w') {p : Addr} (hne : p.block ≠ g) : w'.cell? p = w.cell? p := World.cell?_of_block (h.block p.block hne)
theorem AccsIn.offBy {w w' : World} {g : Nat} {ao : Option Addr} {ac : List Sg.Acc} (h : AccsIn w ao ac) (hB : NilBox w g) (ho : OffBy g w w') : AccsIn w' ao ac := by
  rcases h with h0 | ⟨b, off, e, hb, hat⟩
  · exact Or.inl h0
  · by_cases h0 : ac.length = 0
    · exact Or.inl h0
    · have hne := hB.ne (hat 0 (by omega)).1 (by simp)
      refine Or.inr ⟨b, off, e, by rw [ho.size]; exact hb, fun i hi => ?_⟩
      rw [ho.cell (by exact hne), ho.cell (by exact hne)]
      exact hat i hi
theorem IntsIn.offBy {w w' : World} {g : Nat} {ao : Option Addr} {l : List Int} (h : IntsIn w ao l) (hB : NilBox w g) (ho : OffBy g w w') : IntsIn w' ao l := by
  rcases h with h0 | ⟨b, off, e, hb, hat⟩
  · exact Or.inl h0
  · by_cases h0 : l.length = 0
    · exact Or.inl h0
    · have hne := hB.ne (hat 0 (by omega)) (by simp)
      refine Or.inr ⟨b, off, e, by rw [ho.size]; exact hb, fun i hi => ?_⟩
      rw [ho.cell (by exact hne)]
      exact hat i hi
theorem IntssIn.offBy {w w' : World} {g : Nat} {ao : Option Addr} {ll : List (List Int)} (h : IntssIn w ao ll) (hpos : ∀ l ∈ ll, 1 ≤ l.length) (hB : NilBox w g) (ho : OffBy g w w') : IntssIn w' ao ll := by
  rcases h with h0 | ⟨b, off, e, hb, hat⟩
  · exact Or.inl h0
  · by_cases h0 : ll.length = 0
    · exact Or.inl h0
    · obtain ⟨ao0, cap0, hc0, _⟩ := hat 0 (by omega)
      have hne := hB.ne hc0 (by
        have := hpos _ (List.getElem_mem (l := ll) (n := 0) (by omega))
        intro e
        simp only [Value.slice.injEq] at e
        omega)
      refine Or.inr ⟨b, off, e, by rw [ho.size]; exact hb, fun i hi => ?_⟩
      obtain ⟨ao', cap', hc, hi'⟩ := hat i hi
      rw [ho.cell (by exact hne)]
      exact ⟨ao', cap', hc, hi'.offBy hB ho⟩
theorem BksAt.offBy {w w' : World} {g : Nat} {aoA aoP aoB aoT : Option Addr} {nA nP : Nat} {h : Sg.Hist} {bal tot : List (List Int)} (b : BksAt w aoA aoP aoB aoT nA nP h bal tot) (h1 : 1 ≤ nA) (hB : NilBox w g) (ho : OffBy g w w') (hP : PersIn w' aoP h.pers) : BksAt w' aoA aoP aoB aoT nA nP h bal tot :=
  ⟨b.accs.offBy hB ho, hP, b.bals.offBy (fun l hl => by rw [(b.balFine l hl).1]; exact h1) hB ho, b.tots.offBy (fun l hl => by rw [(b.totFine l hl).1]; omega) hB ho, b.lenA, b.lenP, b.lenB, b.lenT, b.few, b.accFine, b.allFine, b.balFine, b.totFine⟩

namespace Sg
theorem rdAcc_smallR (s : List UInt8) : (rdAcc s).1.name.size ≤ 255 ∧ fits (rdAcc s).1.line = true := by
  unfold rdAcc
  refine ⟨?_, fits_nat (one_lt _)⟩
  show (ofL _).size ≤ 255
  rw [ofL_size]
  have := one_lt s
  simp
  omega
theorem rdEnt_smallR (s : List UInt8) : (rdEnt rdR s).1.memo.size ≤ 255 ∧ (rdEnt rdR s).1.posts.length ≤ 255 := by
  unfold rdEnt
  refine ⟨?_, ?_⟩
  · show (ofL _).size ≤ 255
    rw [ofL_size]
    have := one_lt s
    simp
    omega
  · show (rdMany _ _ _).1.length ≤ 255
    rw [rdMany_len]
    exact Nat.le_trans (Nat.min_le_right _ _) (by decide)
theorem rdPer_smallR (n : Nat) (s : List UInt8) : (rdPer rdR n s).1.length ≤ 255 ∧ ∀ e ∈ (rdPer rdR n s).1, e.memo.size ≤ 255 ∧ e.posts.length ≤ 255 := by
  unfold rdPer
  refine ⟨?_, ?_⟩
  · show (rdMany _ _ _).1.length ≤ 255
    rw [rdMany_len]
    exact Nat.le_trans (Nat.min_le_right _ _) (by decide)
  · exact rdMany_all (rdEnt rdR) (fun e => e.memo.size ≤ 255 ∧ e.posts.length ≤ 255) rdEnt_smallR _ _
end Sg
/-- A history that was read, as Close asks for it. -/
theorem rdHistR_in {W : World} {B : Nat} {vA vP : Value} {s : List UInt8} {h : Sg.Hist} (hh : Sg.rdHist Sg.rdR s = h) (hA : OwnA W B vA h.accs) (hP : OwnPs W B vP h.pers) :
    ∃ aoA capA aoP capP, vA = .slice aoA h.accs.length capA ∧ vP = .slice aoP h.pers.length capP ∧ HistIn W aoA aoP h.accs.length h.pers.length h := by
  obtain ⟨aoA, capA, e1, _, _, iA⟩ := hA.in_
  obtain ⟨aoP, capP, e2, _, iP⟩ := hP.in_
  subst hh
  have kA : ∀ a ∈ (Sg.rdHist Sg.rdR s).accs, a.name.size ≤ 255 ∧ Sg.fits a.line = true := Sg.rdMany_all Sg.rdAcc (fun a => a.name.size ≤ 255 ∧ Sg.fits a.line = true) Sg.rdAcc_smallR _ _
  have kP : ∀ p ∈ (Sg.rdHist Sg.rdR s).pers, p.length ≤ 255 ∧ ∀ e ∈ p, e.memo.size ≤ 255 ∧ e.posts.length ≤ 255 := Sg.rdMany_all (Sg.rdPer Sg.rdR _) (fun p => p.length ≤ 255 ∧ ∀ e ∈ p, e.memo.size ≤ 255 ∧ e.posts.length ≤ 255) (Sg.rdPer_smallR _) _ _
  refine ⟨aoA, capA, aoP, capP, e1, e2, iA, iP, rfl, rfl, fun a ha => ⟨by have := (kA a ha).1; omega, (kA a ha).2⟩, fun p hp => ⟨by have := (kP p hp).1; omega, fun e he => ?_⟩, Sg.rdHist_fits (fun s => Sg.fits_wrap _) s⟩
  have := (kP p hp).2 e he
  omega
theorem nilBox_four {w : World} {g : Nat} {t : TypeId} (h : w.heap[g]? = some (.cells #[.slice none 0 0, .slice none 0 0, .slice none 0 0, .slice none 0 0] t (0, 0))) : NilBox w g := by
  refine ⟨_, _, h, fun i v hv => ?_⟩
  match i, hv with
  | 0, hv => simp at hv; exact hv.symm
  | 1, hv => simp at hv; exact hv.symm
  | 2, hv => simp at hv; exact hv.symm
  | 3, hv => simp at hv; exact hv.symm
  | i + 4, hv => simp at hv
theorem four_cells {w : World} {g : Nat} {t : TypeId} {x0 x1 x2 x3 : Value} (h : w.heap[g]? = some (.cells #[x0, x1, x2, x3] t (0, 0))) : (w.cell? ⟨g, 0, none⟩ = some x0 ∧ w.cell? ⟨g, 1, none⟩ = some x1 ∧ w.cell? ⟨g, 2, none⟩ = some x2 ∧ w.cell? ⟨g, 3, none⟩ = some x3) ∧ w.frozen? ⟨g, 0, none⟩ = false ∧ w.frozen? ⟨g, 1, none⟩ = false ∧ w.frozen? ⟨g, 2, none⟩ = false ∧ w.frozen? ⟨g, 3, none⟩ = false := by
  refine ⟨⟨?_, ?_, ?_, ?_⟩, ?_, ?_, ?_, ?_⟩
  · rw [cell_of_row w _ 0 _ _ _ h]; rfl
  · rw [cell_of_row w _ 1 _ _ _ h]; rfl
  · rw [cell_of_row w _ 2 _ _ _ h]; rfl
  · rw [cell_of_row w _ 3 _ _ _ h]; rfl
  all_goals simp [World.frozen?, h]
end Go.Proofs.YtpkkhkkkgjhkeabGreat

/-
  THE WALK of signetref.Open.
-/
namespace Go.Proofs.YtpkkhkkkgjhkeabGreat
open Go.RowKit
set_option maxRecDepth 100000
attribute [local go_sem ↓] Go.wp_at_zero Go.wp_at_succ

end Go.Proofs.YtpkkhkkkgjhkeabGreat
