import Derived.Test.YtpkkhkkkgjhkeabGreatEntersWalk
import Derived.Test.YtpkkhkkkgjhkeabGreatSpec
/-
  THE WALK of signetref.Books.leaves.
-/
namespace Go.Proofs.YtpkkhkkkgjhkeabGreat
open Go.RowKit
set_option maxRecDepth 100000
attribute [local go_sem ↓] Go.wp_at_zero Go.wp_at_succ

/-- A slice of slices of numbers. -/
def IntssIn (w : World) (ao : Option Addr) (ll : List (List Int)) : Prop := ll.length = 0 ∨ ∃ b off, ao = some ⟨b, off, none⟩ ∧ b < w.heap.size ∧ ∀ i (h : i < ll.length), ∃ ao' cap', w.cell? ⟨b, off + i, none⟩ = some (.slice ao' ll[i].length cap') ∧ IntsIn w ao' ll[i]
theorem IntssIn.below {w w' : World} {ao : Option Addr} {ll : List (List Int)} (h : IntssIn w ao ll) (hb : Below w.heap.size w w') : IntssIn w' ao ll := by
  rcases h with h0 | ⟨b, off, e, hbw, hat⟩
  · exact Or.inl h0
  · refine Or.inr ⟨b, off, e, Nat.lt_of_lt_of_le hbw hb.size, fun i hi => ?_⟩
    rw [hb.cell (p := ⟨b, off + i, none⟩) hbw]
    obtain ⟨ao', cap', h2, h3⟩ := hat i hi
    exact ⟨ao', cap', h2, h3.below hb⟩
theorem IntssIn.cell {w : World} {ao : Option Addr} {ll : List (List Int)} (h : IntssIn w ao ll) {k : Nat} (hk : k < ll.length) : ∃ b off, ao = some ⟨b, off, none⟩ ∧ b < w.heap.size ∧ ∃ ao' cap', w.cell? ⟨b, off + k, none⟩ = some (.slice ao' ll[k].length cap') ∧ IntsIn w ao' ll[k] := by
  rcases h with h0 | ⟨b, off, e, hbw, hat⟩
  · omega
  · exact ⟨b, off, e, hbw, hat k hk⟩
theorem IntsIn.cell' {w : World} {ao : Option Addr} {l : List Int} (h : IntsIn w ao l) {k : Nat} (hk : k < l.length) : ∃ b off, ao = some ⟨b, off, none⟩ ∧ b < w.heap.size ∧ w.cell? ⟨b, off + k, none⟩ = some (.int .i64 (l.getD k 0)) := by
  rcases h with h0 | ⟨b, off, e, hbw, hat⟩
  · omega
  · exact ⟨b, off, e, hbw, hat k hk⟩

/-- What the walks ask of a period of closed books. -/
def perFine (nA : Nat) (p : List Sg.Ent) : Prop := p.length ≤ 12 ∧ ∀ e ∈ p, e.memo.size ≤ 20 ∧ e.posts.length ≤ 6 ∧ ∀ t ∈ e.posts, 0 ≤ t.acct ∧ t.acct < (nA : Int) ∧ Sg.fits t.amt = true
namespace Sg
theorem drillsIn_fits (ac : List Acc) (line : Int) (i : Nat) (hi : i ≤ 255) : ∀ (ps : List Pst) (j : Nat), j + ps.length ≤ 255 → (∀ t ∈ ps, fits t.acct = true ∧ fits t.amt = true) → ∀ d ∈ drillsIn ac line i j ps, d.ent ≤ 255 ∧ d.place ≤ 255 ∧ fits d.acct = true ∧ fits d.amt = true
  | [], _, _, _ => by simp [drillsIn]
  | p :: ps, j, hj, h => by
    have ih := drillsIn_fits ac line i hi ps (j + 1) (by simp at hj; omega) (fun t ht => h t (by simp [ht]))
    have hp := h p (by simp)
    intro d hd
    simp only [drillsIn] at hd
    split at hd
    · rcases List.mem_cons.1 hd with rfl | hd
      · exact ⟨hi, by simp at hj; show j ≤ 255; omega, hp.1, hp.2⟩
      · exact ih d hd
    · exact ih d hd
theorem drillsFrom_fits (ac : List Acc) (line : Int) : ∀ (es : List Ent) (i : Nat), i + es.length ≤ 255 → (∀ e ∈ es, e.posts.length ≤ 6 ∧ ∀ t ∈ e.posts, fits t.acct = true ∧ fits t.amt = true) → ∀ d ∈ drillsFrom ac line i es, d.ent ≤ 255 ∧ d.place ≤ 255 ∧ fits d.acct = true ∧ fits d.amt = true
  | [], _, _, _ => by simp [drillsFrom]
  | e :: es, i, hi, h => by
    intro d hd
    simp only [drillsFrom, List.mem_append] at hd
    have he := h e (by simp)
    rcases hd with hd | hd
    · exact drillsIn_fits ac line i (by simp at hi; omega) e.posts 0 (by omega) he.2 d hd
    · exact drillsFrom_fits ac line es (i + 1) (by simp at hi; omega) (fun x hx => h x (by simp [hx])) d hd
end Sg
theorem perFine_drills {nA : Nat} {p : List Sg.Ent} (hA : nA ≤ 8) (h : perFine nA p) (ac : List Sg.Acc) (line : Int) : (∀ d ∈ Sg.drillsOf ac p line, drlFits d) ∧ (Sg.drillsOf ac p line).length ≤ 72 := by
  refine ⟨fun d hd => ?_, ?_⟩
  · refine Sg.drillsFrom_fits ac line p 0 (by have := h.1; omega) (fun e he => ⟨(h.2 e he).2.1, fun t ht => ⟨?_, ((h.2 e he).2.2 t ht).2.2⟩⟩) d hd
    have := (h.2 e he).2.2 t ht
    exact decide_eq_true (by omega)
  · have := Sg.drillsFrom_len ac line p 0 (fun e he => (h.2 e he).2.1)
    have := h.1
    unfold Sg.drillsOf
    omega

/-- The leaves of a statement so far. -/
def stmtTo (ac : List Sg.Acc) (p : List Sg.Ent) (t : List Int) (k : Nat) : List ByteArray := (List.range k).map fun (i : Nat) => Sg.lineB (i : Int) (t.getD i 0) (Sg.drillsOf ac p (i : Int))
theorem stmtTo_succ (ac : List Sg.Acc) (p : List Sg.Ent) (t : List Int) (k : Nat) : stmtTo ac p t (k + 1) = stmtTo ac p t k ++ [Sg.lineB (k : Int) (t.getD k 0) (Sg.drillsOf ac p (k : Int))] := by
  unfold stmtTo; rw [List.range_succ, List.map_append]; rfl

theorem six_keep {W w' : World} {n bT oT bI oI : Nat} {a b c d x y : Value} (hbT : bT < W.heap.size) (hbI : bI < W.heap.size) (hn : n < W.heap.size)
    (h : W.cell? ⟨n, 0, none⟩ = some a ∧ W.cell? ⟨n, 1, none⟩ = some b ∧ W.cell? ⟨n, 2, none⟩ = some c ∧ W.cell? ⟨n, 3, none⟩ = some d ∧ W.cell? ⟨bT, oT, none⟩ = some x ∧ W.cell? ⟨bI, oI, none⟩ = some y) (hb : Below W.heap.size W w') :
    w'.cell? ⟨n, 0, none⟩ = some a ∧ w'.cell? ⟨n, 1, none⟩ = some b ∧ w'.cell? ⟨n, 2, none⟩ = some c ∧ w'.cell? ⟨n, 3, none⟩ = some d ∧ w'.cell? ⟨bT, oT, none⟩ = some x ∧ w'.cell? ⟨bI, oI, none⟩ = some y ∧ Below W.heap.size W w' :=
  ⟨(hb.cell (p := ⟨n, 0, none⟩) hn).trans h.1, (hb.cell (p := ⟨n, 1, none⟩) hn).trans h.2.1, (hb.cell (p := ⟨n, 2, none⟩) hn).trans h.2.2.1, (hb.cell (p := ⟨n, 3, none⟩) hn).trans h.2.2.2.1, (hb.cell (p := ⟨bT, oT, none⟩) hbT).trans h.2.2.2.2.1, (hb.cell (p := ⟨bI, oI, none⟩) hbI).trans h.2.2.2.2.2, hb⟩

end Go.Proofs.YtpkkhkkkgjhkeabGreat

/-
  THE WALK of signetref.Books.Package.
-/
namespace Go.Proofs.YtpkkhkkkgjhkeabGreat
open Go.RowKit
set_option maxRecDepth 100000
attribute [local go_sem ↓] Go.wp_at_zero Go.wp_at_succ

/-- Closed books, as they lie in memory. -/
structure BksAt (w : World) (aoA aoP aoB aoT : Option Addr) (nA nP : Nat) (h : Sg.Hist) (bal tot : List (List Int)) : Prop where
  accs : AccsIn w aoA h.accs
  pers : PersIn w aoP h.pers
  bals : IntssIn w aoB bal
  tots : IntssIn w aoT tot
  lenA : h.accs.length = nA
  lenP : h.pers.length = nP
  lenB : bal.length = nP
  lenT : tot.length = nP
  few : nA ≤ 8 ∧ nP ≤ 6
  accFine : ∀ a ∈ h.accs, a.name.size ≤ 12 ∧ 0 ≤ a.line ∧ a.line ≤ 3
  allFine : ∀ p ∈ h.pers, perFine nA p
  balFine : ∀ l ∈ bal, l.length = nA ∧ ∀ v ∈ l, Sg.fits v = true
  totFine : ∀ l ∈ tot, l.length = 4 ∧ ∀ v ∈ l, Sg.fits v = true
theorem BksAt.below {w w' : World} {aoA aoP aoB aoT : Option Addr} {nA nP : Nat} {h : Sg.Hist} {bal tot : List (List Int)} (b : BksAt w aoA aoP aoB aoT nA nP h bal tot) (hb : Below w.heap.size w w') : BksAt w' aoA aoP aoB aoT nA nP h bal tot :=
  ⟨b.accs.below hb, b.pers.below hb, b.bals.below hb, b.tots.below hb, b.lenA, b.lenP, b.lenB, b.lenT, b.few, b.accFine, b.allFine, b.balFine, b.totFine⟩

namespace Sg
theorem persText_append : ∀ (o : ByteArray) (ps : List (List Ent)) (bs ts : List (List Int)) (p : List Ent) (b t : List Int), ps.length = bs.length → ps.length = ts.length →
    persText o (ps ++ [p]) (bs ++ [b]) (ts ++ [t]) = perText (persText o ps bs ts) p b t
  | o, [], [], [], p, b, t, _, _ => rfl
  | o, q :: ps, c :: bs, u :: ts, p, b, t, h1, h2 => by
    simp only [List.cons_append, persText]
    exact persText_append _ ps bs ts p b t (by simpa using h1) (by simpa using h2)
/-- A package's text so far. -/
def pkTo (h : Hist) (bal tot : List (List Int)) (k : Nat) : ByteArray := persText (signT ++ chartB h.accs ++ beB h.pers.length 1) (h.pers.take k) (bal.take k) (tot.take k)
theorem pkTo_succ (h : Hist) (bal tot : List (List Int)) (k : Nat) (h1 : k < h.pers.length) (h2 : k < bal.length) (h3 : k < tot.length) : pkTo h bal tot (k + 1) = perText (pkTo h bal tot k) h.pers[k] bal[k] tot[k] := by
  unfold pkTo
  rw [List.take_succ_eq_append_getElem h1, List.take_succ_eq_append_getElem h2, List.take_succ_eq_append_getElem h3, persText_append _ _ _ _ _ _ _ (by simp; omega) (by simp; omega)]
/-- A period's entries so far. -/
def peTo (o : ByteArray) (p : List Ent) (j : Nat) : ByteArray := (p.take j).foldl (fun o e => o ++ entB e) (o ++ beB p.length 1)
theorem peTo_succ (o : ByteArray) (p : List Ent) (j : Nat) (h : j < p.length) : peTo o p (j + 1) = peTo o p j ++ entB p[j] := by
  unfold peTo; rw [List.take_succ_eq_append_getElem h, List.foldl_append]; rfl
theorem peTo_size (o : ByteArray) (p : List Ent) (hp : ∀ e ∈ p, e.memo.size ≤ 20 ∧ e.posts.length ≤ 6) : ∀ j, j ≤ p.length → (peTo o p j).size ≤ o.size + 1 + 76 * j
  | 0, _ => by unfold peTo; simp only [List.take_zero, List.foldl_nil]; rw [ByteArray.size_append, beB_size]; omega
  | j + 1, h => by
    rw [peTo_succ o p j (by omega), ByteArray.size_append, entB_size]
    have := peTo_size o p hp j (by omega)
    have := hp p[j] (List.getElem_mem _)
    omega
theorem perText_peTo (o : ByteArray) (p : List Ent) (b t : List Int) : perText o p b t = peTo o p p.length ++ amountsB b ++ amountsB t := by
  unfold perText peTo; rw [List.take_length]
theorem perText_size (o : ByteArray) (p : List Ent) (b t : List Int) (hp : ∀ e ∈ p, e.memo.size ≤ 20 ∧ e.posts.length ≤ 6) (h12 : p.length ≤ 12) (hb : b.length ≤ 8) (ht : t.length ≤ 4) : (perText o p b t).size ≤ o.size + 1100 := by
  rw [perText_peTo, ByteArray.size_append, ByteArray.size_append, amountsB_size, amountsB_size]
  have := peTo_size o p hp p.length (Nat.le_refl _)
  omega
end Sg

theorem pkTo_size {w : World} {aoA aoP aoB aoT : Option Addr} {nA nP : Nat} {h : Sg.Hist} {bal tot : List (List Int)} (b : BksAt w aoA aoP aoB aoT nA nP h bal tot) : ∀ k, k ≤ nP → (Sg.pkTo h bal tot k).size ≤ 200 + 1100 * k
  | 0, _ => by
    unfold Sg.pkTo
    simp only [List.take_zero, Sg.persText]
    rw [ByteArray.size_append, ByteArray.size_append, Sg.beB_size]
    have h1 := Sg.chartB_size h.accs (fun a ha => (b.accFine a ha).1)
    have h2 := b.lenA
    have h3 := b.few.1
    have h4 : Sg.signT.size = 4 := rfl
    omega
  | k + 1, hk => by
    have h1 := b.lenP
    have h2 := b.lenB
    have h3 := b.lenT
    rw [Sg.pkTo_succ h bal tot k (by omega) (by omega) (by omega)]
    have ih := pkTo_size b k (by omega)
    have hf := b.allFine _ (List.getElem_mem (l := h.pers) (n := k) (by omega))
    have hb := (b.balFine _ (List.getElem_mem (l := bal) (n := k) (by omega))).1
    have ht := (b.totFine _ (List.getElem_mem (l := tot) (n := k) (by omega))).1
    have := Sg.perText_size (Sg.pkTo h bal tot k) h.pers[k] bal[k] tot[k] (fun e he => ⟨(hf.2 e he).1, (hf.2 e he).2.1⟩) hf.1 (by rw [hb]; exact b.few.1) (by omega)
    omega
end Go.Proofs.YtpkkhkkkgjhkeabGreat

/-
  THE WALK of signetref.Books.Package.
-/
namespace Go.Proofs.YtpkkhkkkgjhkeabGreat
open Go.RowKit
set_option maxRecDepth 100000
attribute [local go_sem ↓] Go.wp_at_zero Go.wp_at_succ

end Go.Proofs.YtpkkhkkkgjhkeabGreat

/-
  THE WALK of signetref.Books.Headers, Head.
-/
namespace Go.Proofs.YtpkkhkkkgjhkeabGreat
open Go.RowKit
set_option maxRecDepth 100000
attribute [local go_sem ↓] Go.wp_at_zero Go.wp_at_succ

namespace Sg
/-- The headers so far, and the sum of the last. -/
def hdTo (h : Hist) (bal tot : List (List Int)) : Nat → List ByteArray × ByteArray
  | 0 => ([], { data := #[0, 0] })
  | k + 1 => ((hdTo h bal tot k).1 ++ [headerB h.accs k (hdTo h bal tot k).2 (h.pers.getD k []) (bal.getD k []) (tot.getD k [])], sumB (headerB h.accs k (hdTo h bal tot k).2 (h.pers.getD k []) (bal.getD k []) (tot.getD k [])))
theorem hdTo_len (h : Hist) (bal tot : List (List Int)) : ∀ k, (hdTo h bal tot k).1.length = k
  | 0 => rfl
  | k + 1 => by simp [hdTo, hdTo_len h bal tot k]
theorem hdTo_last (h : Hist) (bal tot : List (List Int)) : ∀ k, (hdTo h bal tot k).2.size = 2
  | 0 => rfl
  | _ + 1 => rfl
theorem headerB_size (ac : List Acc) (i : Nat) (last : ByteArray) (p : List Ent) (b t : List Int) (hl : last.size = 2) : (headerB ac i last p b t).size = 16 := by
  unfold headerB
  rw [ByteArray.size_append, ByteArray.size_append, ByteArray.size_append, ByteArray.size_append, ByteArray.size_append, ByteArray.size_append, ByteArray.size_append, beB_size, beB_size, sumB_size, sumB_size, root_size, root_size, hl]
  rfl
theorem hdTo_get (h : Hist) (bal tot : List (List Int)) (k : Nat) : (hdTo h bal tot (k + 1)).2 = sumB ((hdTo h bal tot (k + 1)).1.getD k ByteArray.empty) ∧ ((hdTo h bal tot (k + 1)).1.getD k ByteArray.empty).size = 16 := by
  have e : (hdTo h bal tot (k + 1)).1.getD k ByteArray.empty = headerB h.accs k (hdTo h bal tot k).2 (h.pers.getD k []) (bal.getD k []) (tot.getD k []) := by
    have hl := hdTo_len h bal tot k
    simp only [hdTo]
    rw [List.getD_eq_getElem?_getD, List.getElem?_append_right (by omega)]
    simp [hl]
  rw [e]
  exact ⟨rfl, headerB_size _ _ _ _ _ _ (hdTo_last h bal tot k)⟩
end Sg

theorem five_keep {W w' : World} {n bT oT : Nat} {a b c d x : Value} (hbT : bT < W.heap.size) (hn : n < W.heap.size)
    (h : W.cell? ⟨n, 0, none⟩ = some a ∧ W.cell? ⟨n, 1, none⟩ = some b ∧ W.cell? ⟨n, 2, none⟩ = some c ∧ W.cell? ⟨n, 3, none⟩ = some d ∧ W.cell? ⟨bT, oT, none⟩ = some x) (hb : Below W.heap.size W w') :
    w'.cell? ⟨n, 0, none⟩ = some a ∧ w'.cell? ⟨n, 1, none⟩ = some b ∧ w'.cell? ⟨n, 2, none⟩ = some c ∧ w'.cell? ⟨n, 3, none⟩ = some d ∧ w'.cell? ⟨bT, oT, none⟩ = some x ∧ Below W.heap.size W w' :=
  ⟨(hb.cell (p := ⟨n, 0, none⟩) hn).trans h.1, (hb.cell (p := ⟨n, 1, none⟩) hn).trans h.2.1, (hb.cell (p := ⟨n, 2, none⟩) hn).trans h.2.2.1, (hb.cell (p := ⟨n, 3, none⟩) hn).trans h.2.2.2.1, (hb.cell (p := ⟨bT, oT, none⟩) hbT).trans h.2.2.2.2, hb⟩

theorem stmt_sizes (ac : List Sg.Acc) (p : List Sg.Ent) (t : List Int) : (Sg.stmt ac p t).length = 4 ∧ ∀ s ∈ Sg.stmt ac p t, s.size ≤ 140737488355328 := by
  refine ⟨by simp [Sg.stmt], fun s hs => ?_⟩
  unfold Sg.stmt at hs
  obtain ⟨k, _, rfl⟩ := List.mem_map.1 hs
  unfold Sg.lineB
  rw [ByteArray.size_append, ByteArray.size_append, ByteArray.size_append, Sg.beB_size, Sg.beB_size, Sg.beB_size, Sg.root_size]
  decide

end Go.Proofs.YtpkkhkkkgjhkeabGreat

/-
  WHAT signetref.Close holds on its way.
-/
namespace Go.Proofs.YtpkkhkkkgjhkeabGreat
open Go.RowKit
set_option maxRecDepth 100000

theorem Tryz.infoInt : (Tryz.prog.info? 3).map (fun i => (i.zero, i.size, i.bytes)) = some (some (.int .i64 0), 1, 8) := by kernel_rfl
/-- A list of numbers that was made. -/
def RowI (w : World) (v : Value) (l : List Int) : Prop := w.ownsRow 0 3 1 v l.length (l.map (Value.int .i64))
theorem RowI.in_ {w : World} {v : Value} {l : List Int} (h : RowI w v l) : ∃ ao cap, v = .slice ao l.length cap ∧ IntsIn w ao l := by
  have hk := h
  rcases h.2 with ⟨rfl, h0⟩ | ⟨g, cap, cur, rfl, _, hh, hle, hm, _, _⟩
  · exact ⟨none, 0, by rw [h0], Or.inl h0⟩
  · refine ⟨_, cap, rfl, Or.inr ⟨g, 0, rfl, lt_of_block hh, fun i hi => ?_⟩⟩
    rw [Nat.zero_add, World.ownsRow.cellAt hk i (by omega)]
    simp [List.getD, hi]
theorem RowI.kept {w w' : World} {v : Value} {l : List Int} {row : Option Nat} (h : RowI w v l) (hg : w.grownBy w' row) (hne : v.ownBlock = none ∨ v.ownBlock ≠ row) : RowI w' v l := World.ownsRow.kept h hg hne
theorem RowI.below {w w' : World} {v : Value} {l : List Int} (h : RowI w v l) (hb : Below w.heap.size w w') : RowI w' v l := ownsRow_below h hb
theorem rows_apart {w : World} {e e' : TypeId} {b b' sz sz' n n' : Nat} {v v' : Value} {xs xs' : List Value} (h : w.ownsRow b e sz v n xs) (h' : w.ownsRow b' e' sz' v' n' xs') (hne : e ≠ e') : v.ownBlock = none ∨ v.ownBlock ≠ v'.ownBlock := by
  rcases h.2 with ⟨rfl, _⟩ | ⟨g1, c1, cur1, rfl, _, hh1, _⟩
  · exact Or.inl rfl
  · right
    rcases h'.2 with ⟨rfl, _⟩ | ⟨g2, c2, cur2, rfl, _, hh2, _⟩
    · simp [Value.ownBlock]
    · simp only [Value.ownBlock, ne_eq, Option.some.injEq]
      rintro rfl
      rw [hh1] at hh2
      simp only [Option.some.injEq, Obj.cells.injEq] at hh2
      exact hne hh2.2.1
namespace Sg
/-- The totals behind the first k postings. -/
def linesTo (ac : List Acc) (ps : List Pst) (tot : List Int) (k : Nat) : List Int := linesAll ac (ps.take k) tot
theorem linesTo_succ (ac : List Acc) (ps : List Pst) (tot : List Int) (k : Nat) (h : k < ps.length) : linesTo ac ps tot (k + 1) = comes (linesTo ac ps tot k) (lineOf ac ps[k].acct).toNat ps[k].amt := by
  unfold linesTo linesAll; rw [List.take_succ_eq_append_getElem h, List.foldl_append]; rfl
theorem linesTo_length (ac : List Acc) (ps : List Pst) (tot : List Int) : ∀ k, k ≤ ps.length → (linesTo ac ps tot k).length = tot.length
  | 0, _ => rfl
  | k + 1, h => by rw [linesTo_succ ac ps tot k (by omega)]; unfold comes; rw [List.length_set]; exact linesTo_length ac ps tot k (by omega)
theorem linesTo_all (ac : List Acc) (ps : List Pst) (tot : List Int) : linesTo ac ps tot ps.length = linesAll ac ps tot := by unfold linesTo; rw [List.take_length]
theorem linesTo_near (ac : List Acc) (ps : List Pst) (tot : List Int) (c : Nat) (h : ∀ v ∈ tot, Near c v) (hf : ∀ p ∈ ps, fits p.amt = true) (h4 : tot.length = 4) (hl : ∀ p ∈ ps, 0 ≤ lineOf ac p.acct ∧ lineOf ac p.acct ≤ 3) : ∀ k, k ≤ ps.length → ∀ v ∈ linesTo ac ps tot k, Near (c + k) v
  | 0, _ => h
  | k + 1, hk => by
    rw [linesTo_succ ac ps tot k (by omega)]
    have hp := List.getElem_mem (l := ps) (n := k) (by omega)
    refine comes_near (linesTo_near ac ps tot c h hf h4 hl k (by omega)) ?_ (of_decide_eq_true (hf _ hp))
    rw [linesTo_length ac ps tot k (by omega), h4]
    have := hl _ hp
    omega
theorem entErr_ok {n : Nat} {e : Ent} {now : List Int} (h : entErr n e now = 0) : (∀ p ∈ e.posts, 0 ≤ p.acct ∧ p.acct < (n : Int)) ∧ ∀ v ∈ comesAll e.posts now, fits v = true := by
  unfold entErr at h
  by_cases h1 : e.posts.any (fun p => decide (p.acct < 0 ∨ (n : Int) ≤ p.acct)) = true
  · rw [if_pos h1] at h; omega
  rw [if_neg h1] at h
  by_cases h2 : amtSum e.posts ≠ 0
  · rw [if_pos h2] at h; omega
  rw [if_neg h2] at h
  by_cases h3 : (comesAll e.posts now).any (fun v => !fits v) = true
  · rw [if_pos h3] at h; omega
  refine ⟨fun p hp => ?_, fun v hv => ?_⟩
  · rw [List.any_eq_true] at h1
    by_cases e' : 0 ≤ p.acct ∧ p.acct < (n : Int)
    · exact e'
    · exact absurd ⟨p, hp, decide_eq_true (by omega)⟩ h1
  · rw [List.any_eq_true] at h3
    cases e' : fits v with
    | true => rfl
    | false => exact absurd ⟨v, hv, by rw [e']; rfl⟩ h3
theorem comesAll_length (ps : List Pst) (now : List Int) : (comesAll ps now).length = now.length := by rw [← comesTo_all, comesTo_length ps now _ (Nat.le_refl _)]
theorem lineOf_fine {ac : List Acc} {n : Nat} (hn : ac.length = n) (hok : ∀ a ∈ ac, 0 ≤ a.line ∧ a.line ≤ 3) {i : Int} (h0 : 0 ≤ i) (h1 : i < (n : Int)) : 0 ≤ lineOf ac i ∧ lineOf ac i ≤ 3 := by
  obtain ⟨k, rfl⟩ := Int.eq_ofNat_of_zero_le h0
  have hk : k < ac.length := by omega
  rw [lineOf_get hk]
  exact hok _ (List.getElem_mem _)
end Sg
end Go.Proofs.YtpkkhkkkgjhkeabGreat
