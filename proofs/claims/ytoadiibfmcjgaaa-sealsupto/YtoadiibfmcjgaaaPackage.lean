/-
  THE WALK of signetref.Books.Package.
-/
import Derived.Test.YtoadiibfmcjgaaaLeaves
namespace Go.Proofs.Ytoadiibfmcjgaaa
open Go.RowKit
set_option maxRecDepth 100000
attribute [local go_sem ↓] Go.wp_at_zero Go.wp_at_succ

/-- Closed books, as they lie in memory. -/
structure BksAt (w : World) (aoA aoP aoB aoT : Option Addr) (nA nP : Nat) (h : Sg.Hist) (bal tot : List (List Int)) : Prop where
  accs : AccsIn w aoA h.accs
  pers : PersIn w aoP h.pers
  bals : IntssIn w aoB bal
  tots : IntssIn w aoT tot
  lenA : h.accs.length = nA
  lenP : h.pers.length = nP
  lenB : bal.length = nP
  lenT : tot.length = nP
  few : nA ≤ 8 ∧ nP ≤ 6
  accFine : ∀ a ∈ h.accs, a.name.size ≤ 12 ∧ 0 ≤ a.line ∧ a.line ≤ 3
  allFine : ∀ p ∈ h.pers, perFine nA p
  balFine : ∀ l ∈ bal, l.length = nA ∧ ∀ v ∈ l, Sg.fits v = true
  totFine : ∀ l ∈ tot, l.length = 4 ∧ ∀ v ∈ l, Sg.fits v = true
theorem BksAt.below {w w' : World} {aoA aoP aoB aoT : Option Addr} {nA nP : Nat} {h : Sg.Hist} {bal tot : List (List Int)} (b : BksAt w aoA aoP aoB aoT nA nP h bal tot) (hb : Below w.heap.size w w') : BksAt w' aoA aoP aoB aoT nA nP h bal tot :=
  ⟨b.accs.below hb, b.pers.below hb, b.bals.below hb, b.tots.below hb, b.lenA, b.lenP, b.lenB, b.lenT, b.few, b.accFine, b.allFine, b.balFine, b.totFine⟩

namespace Sg
theorem persText_append : ∀ (o : ByteArray) (ps : List (List Ent)) (bs ts : List (List Int)) (p : List Ent) (b t : List Int), ps.length = bs.length → ps.length = ts.length →
    persText o (ps ++ [p]) (bs ++ [b]) (ts ++ [t]) = perText (persText o ps bs ts) p b t
  | o, [], [], [], p, b, t, _, _ => rfl
  | o, q :: ps, c :: bs, u :: ts, p, b, t, h1, h2 => by
    simp only [List.cons_append, persText]
    exact persText_append _ ps bs ts p b t (by simpa using h1) (by simpa using h2)
/-- A package's text so far. -/
def pkTo (h : Hist) (bal tot : List (List Int)) (k : Nat) : ByteArray := persText (signT ++ chartB h.accs ++ beB h.pers.length 1) (h.pers.take k) (bal.take k) (tot.take k)
theorem pkTo_succ (h : Hist) (bal tot : List (List Int)) (k : Nat) (h1 : k < h.pers.length) (h2 : k < bal.length) (h3 : k < tot.length) : pkTo h bal tot (k + 1) = perText (pkTo h bal tot k) h.pers[k] bal[k] tot[k] := by
  unfold pkTo
  rw [List.take_succ_eq_append_getElem h1, List.take_succ_eq_append_getElem h2, List.take_succ_eq_append_getElem h3, persText_append _ _ _ _ _ _ _ (by simp; omega) (by simp; omega)]
/-- A period's entries so far. -/
def peTo (o : ByteArray) (p : List Ent) (j : Nat) : ByteArray := (p.take j).foldl (fun o e => o ++ entB e) (o ++ beB p.length 1)
theorem peTo_succ (o : ByteArray) (p : List Ent) (j : Nat) (h : j < p.length) : peTo o p (j + 1) = peTo o p j ++ entB p[j] := by
  unfold peTo; rw [List.take_succ_eq_append_getElem h, List.foldl_append]; rfl
theorem peTo_size (o : ByteArray) (p : List Ent) (hp : ∀ e ∈ p, e.memo.size ≤ 20 ∧ e.posts.length ≤ 6) : ∀ j, j ≤ p.length → (peTo o p j).size ≤ o.size + 1 + 76 * j
  | 0, _ => by unfold peTo; simp only [List.take_zero, List.foldl_nil]; rw [ByteArray.size_append, beB_size]; omega
  | j + 1, h => by
    rw [peTo_succ o p j (by omega), ByteArray.size_append, entB_size]
    have := peTo_size o p hp j (by omega)
    have := hp p[j] (List.getElem_mem _)
    omega
theorem perText_peTo (o : ByteArray) (p : List Ent) (b t : List Int) : perText o p b t = peTo o p p.length ++ amountsB b ++ amountsB t := by
  unfold perText peTo; rw [List.take_length]
theorem perText_size (o : ByteArray) (p : List Ent) (b t : List Int) (hp : ∀ e ∈ p, e.memo.size ≤ 20 ∧ e.posts.length ≤ 6) (h12 : p.length ≤ 12) (hb : b.length ≤ 8) (ht : t.length ≤ 4) : (perText o p b t).size ≤ o.size + 1100 := by
  rw [perText_peTo, ByteArray.size_append, ByteArray.size_append, amountsB_size, amountsB_size]
  have := peTo_size o p hp p.length (Nat.le_refl _)
  omega
end Sg

theorem pkTo_size {w : World} {aoA aoP aoB aoT : Option Addr} {nA nP : Nat} {h : Sg.Hist} {bal tot : List (List Int)} (b : BksAt w aoA aoP aoB aoT nA nP h bal tot) : ∀ k, k ≤ nP → (Sg.pkTo h bal tot k).size ≤ 200 + 1100 * k
  | 0, _ => by
    unfold Sg.pkTo
    simp only [List.take_zero, Sg.persText]
    rw [ByteArray.size_append, ByteArray.size_append, Sg.beB_size]
    have h1 := Sg.chartB_size h.accs (fun a ha => (b.accFine a ha).1)
    have h2 := b.lenA
    have h3 := b.few.1
    have h4 : Sg.signT.size = 4 := rfl
    omega
  | k + 1, hk => by
    have h1 := b.lenP
    have h2 := b.lenB
    have h3 := b.lenT
    rw [Sg.pkTo_succ h bal tot k (by omega) (by omega) (by omega)]
    have ih := pkTo_size b k (by omega)
    have hf := b.allFine _ (List.getElem_mem (l := h.pers) (n := k) (by omega))
    have hb := (b.balFine _ (List.getElem_mem (l := bal) (n := k) (by omega))).1
    have ht := (b.totFine _ (List.getElem_mem (l := tot) (n := k) (by omega))).1
    have := Sg.perText_size (Sg.pkTo h bal tot k) h.pers[k] bal[k] tot[k] (fun e he => ⟨(hf.2 e he).1, (hf.2 e he).2.1⟩) hf.1 (by rw [hb]; exact b.few.1) (by omega)
    omega
end Go.Proofs.Ytoadiibfmcjgaaa
