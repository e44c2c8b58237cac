import Derived.Test.YtpkkhkkkgjhkeabGreatTree
import Derived.Test.YtpkkhkkkgjhkeabGreatMath
import Derived.Deep.RegionHeld3
import Derived.Deep.DrawnRows
import Derived.Laws.Pointers
import Derived.BigQuiet
import Derived.Deep.QuietTactic
/-
  PLAIN MATHEMATICS OF signet: histories, and how they are closed and sealed (P5, P6).
-/
namespace Go.Proofs.YtpkkhkkkgjhkeabGreat.Sg

structure Acc where
  name : ByteArray
  line : Int
structure Pst where
  acct : Int
  amt : Int
structure Ent where
  memo : ByteArray
  posts : List Pst
structure Hist where
  accs : List Acc
  pers : List (List Ent)

/-- A number in so many bytes, ac a text. -/
def beB (n : Int) (k : Nat) : ByteArray := ⟨(beL n k).toArray⟩
theorem beB_size (n : Int) (k : Nat) : (beB n k).size = k := by
  show (beL n k).toArray.size = k
  rw [List.size_toArray, beL_length]

/-- A number of 64 bits. -/
def fits (v : Int) : Bool := decide (-9223372036854775808 ≤ v ∧ v ≤ 9223372036854775807)

/-! ### In bounds -/
def accOk (a : Acc) : Bool := decide (1 ≤ a.name.size ∧ a.name.size ≤ 12 ∧ 0 ≤ a.line ∧ a.line ≤ 3)
/-- The accounts are all right, and no name stands twice. -/
def accsOk : List Acc → Bool
  | [] => true
  | a :: r => accOk a && r.all (fun b => decide (b.name ≠ a.name)) && accsOk r
def entOk (e : Ent) : Bool := decide (e.memo.size ≤ 20 ∧ 1 ≤ e.posts.length ∧ e.posts.length ≤ 6)
def perOk (p : List Ent) : Bool := decide (p.length ≤ 12) && p.all entOk
def inBounds (h : Hist) : Bool := decide (1 ≤ h.accs.length ∧ h.accs.length ≤ 8 ∧ 1 ≤ h.pers.length ∧ h.pers.length ≤ 6) && accsOk h.accs && h.pers.all perOk

/-! ### Closing -/
def amtSum (ps : List Pst) : Int := ps.foldl (fun s p => s + p.amt) 0
def lineOf (ac : List Acc) (i : Int) : Int := (ac.map Acc.line).getD i.toNat 0
/-- An amount comes to a list of sums. -/
def comes (l : List Int) (i : Nat) (n : Int) : List Int := l.set i (l.getD i 0 + n)
def comesAll (ps : List Pst) (now : List Int) : List Int := ps.foldl (fun l p => comes l p.acct.toNat p.amt) now
def linesAll (ac : List Acc) (ps : List Pst) (tot : List Int) : List Int := ps.foldl (fun l p => comes l (lineOf ac p.acct).toNat p.amt) tot
/-- What is wrong with an entry; 0: nothing. -/
def entErr (n : Nat) (e : Ent) (now : List Int) : Int :=
  if e.posts.any (fun p => decide (p.acct < 0 ∨ (n : Int) ≤ p.acct)) then 2
  else if amtSum e.posts ≠ 0 then 3
  else if (comesAll e.posts now).any (fun v => !fits v) then 4 else 0
/-- Entries, one by one: the error, the balances, the totals. -/
def entsTo (ac : List Acc) : List Ent → List Int → List Int → Int × List Int × List Int
  | [], now, tot => (0, now, tot)
  | e :: r, now, tot => if entErr ac.length e now ≠ 0 then (entErr ac.length e now, now, tot) else entsTo ac r (comesAll e.posts now) (linesAll ac e.posts tot)
/-- Periods, one by one: the error, for each period the balances and the totals. -/
def persTo (ac : List Acc) : List (List Ent) → List Int → Int × List (List Int) × List (List Int)
  | [], _ => (0, [], [])
  | p :: r, now =>
    let x := entsTo ac p now [0, 0, 0, 0]
    if x.1 ≠ 0 then (x.1, [], [])
    else if x.2.2.any (fun v => !fits v) then (4, [], [])
    else let y := persTo ac r x.2.1; (y.1, x.2.1 :: y.2.1, x.2.2 :: y.2.2)
/-- What Seal answers of a history: the error. -/
def closeErr (h : Hist) : Int := if inBounds h then (persTo h.accs h.pers (List.replicate h.accs.length 0)).1 else 1
def balances (h : Hist) : List (List Int) := (persTo h.accs h.pers (List.replicate h.accs.length 0)).2.1
def totals (h : Hist) : List (List Int) := (persTo h.accs h.pers (List.replicate h.accs.length 0)).2.2

/-! ### The texts -/
def accText (out : ByteArray) (a : Acc) : ByteArray := out ++ beB a.name.size 1 ++ a.name ++ beB a.line 1
def chartB (ac : List Acc) : ByteArray := ac.foldl accText (beB ac.length 1)
def pstText (out : ByteArray) (p : Pst) : ByteArray := out ++ beB p.acct 1 ++ beB p.amt 8
def entB (e : Ent) : ByteArray := e.posts.foldl pstText (beB e.memo.size 1 ++ e.memo ++ beB e.posts.length 1)
def amountsB (l : List Int) : ByteArray := l.foldl (fun out x => out ++ beB x 8) ByteArray.empty
def perText (out : ByteArray) (p : List Ent) (b t : List Int) : ByteArray := p.foldl (fun o e => o ++ entB e) (out ++ beB p.length 1) ++ amountsB b ++ amountsB t
def persText : ByteArray → List (List Ent) → List (List Int) → List (List Int) → ByteArray
  | out, p :: r, b :: bs, t :: ts => persText (perText out p b t) r bs ts
  | out, _, _, _ => out
def signT : ByteArray := { data := #[83, 73, 71, 78] }
def headT : ByteArray := { data := #[72, 69, 65, 68] }
def packageB (h : Hist) : ByteArray := persText (signT ++ chartB h.accs ++ beB h.pers.length 1) h.pers (balances h) (totals h)

structure Drl where
  ent : Nat
  place : Nat
  acct : Int
  amt : Int
/-- The drills of a line among an entry's postings, from a place on. -/
def drillsIn (ac : List Acc) (line : Int) (i : Nat) : Nat → List Pst → List Drl
  | _, [] => []
  | j, p :: r => if lineOf ac p.acct = line then ⟨i, j, p.acct, p.amt⟩ :: drillsIn ac line i (j + 1) r else drillsIn ac line i (j + 1) r
def drillsFrom (ac : List Acc) (line : Int) : Nat → List Ent → List Drl
  | _, [] => []
  | i, e :: r => drillsIn ac line i 0 e.posts ++ drillsFrom ac line (i + 1) r
def drillsOf (ac : List Acc) (p : List Ent) (line : Int) : List Drl := drillsFrom ac line 0 p
def drlB (d : Drl) : ByteArray := beB d.ent 1 ++ beB d.place 1 ++ beB d.acct 1 ++ beB d.amt 8
def lineB (line total : Int) (ds : List Drl) : ByteArray := beB line 1 ++ beB total 8 ++ beB ds.length 2 ++ root (ds.map drlB)
def stmt (ac : List Acc) (p : List Ent) (t : List Int) : List ByteArray := (List.range 4).map fun (k : Nat) => lineB (k : Int) (t.getD k 0) (drillsOf ac p (k : Int))
def headerB (ac : List Acc) (i : Nat) (last : ByteArray) (p : List Ent) (b t : List Int) : ByteArray :=
  headT ++ beB i 1 ++ last ++ sumB (chartB ac) ++ beB p.length 1 ++ root (p.map entB) ++ root (stmt ac p t) ++ sumB (amountsB b)
def headersFrom (ac : List Acc) : Nat → ByteArray → List (List Ent) → List (List Int) → List (List Int) → List ByteArray
  | i, last, p :: r, b :: bs, t :: ts => headerB ac i last p b t :: headersFrom ac (i + 1) (sumB (headerB ac i last p b t)) r bs ts
  | _, _, _, _, _ => []
def headers (h : Hist) : List ByteArray := headersFrom h.accs 0 { data := #[0, 0] } h.pers (balances h) (totals h)
def headB (h : Hist) : ByteArray := sumB ((headers h).getLastD ByteArray.empty)
end Go.Proofs.YtpkkhkkkgjhkeabGreat.Sg

/-
  THE WALKS of signetref.Wide: whole numbers by two.
-/
namespace Go.Proofs.YtpkkhkkkgjhkeabGreat
open Go.RowKit
set_option maxRecDepth 100000

/-- A whole number, as the reference holds it. -/
def wHi (v : Int) : Int := v / 4294967296
def wLo (v : Int) : Int := v % 4294967296
/-- What is far from the ends. -/
def Tame (v : Int) : Prop := -1208925819614629174706176 ≤ v ∧ v ≤ 1208925819614629174706176

theorem add_low (l n : Int) (hl : 0 ≤ l ∧ l < 4294967296) : wrap64 (l + wrap64 ((IntKind.u64.wrap n).tmod 4294967296)) = l + n % 4294967296 := by
  have e0 : IntKind.u64.wrap n = n % 18446744073709551616 := by simp [IntKind.wrap, IntKind.bits, IntKind.signed]
  have e1 : (n % 18446744073709551616).tmod 4294967296 = n % 4294967296 := by
    rw [Int.tmod_eq_emod_of_nonneg (by omega)]; omega
  rw [e0, e1]
  unfold wrap64
  omega
theorem add_hi (h l n : Int) (hh : -281474976710656 ≤ h ∧ h ≤ 281474976710656) (hl : 0 ≤ l ∧ l < 4294967296) (hn : -9223372036854775808 ≤ n ∧ n ≤ 9223372036854775807) :
    wrap64 (h + n / 4294967296 + wrap64 ((wrap64 (l + wrap64 ((IntKind.u64.wrap n).tmod 4294967296))).tdiv 4294967296)) = h + n / 4294967296 + (l + n % 4294967296) / 4294967296 := by
  rw [add_low l n hl, Int.tdiv_eq_ediv_of_nonneg (by omega)]
  unfold wrap64
  omega
theorem add_lo (l n : Int) (hl : 0 ≤ l ∧ l < 4294967296) : (wrap64 (l + wrap64 ((IntKind.u64.wrap n).tmod 4294967296))).tmod 4294967296 = (l + n % 4294967296) % 4294967296 := by
  rw [add_low l n hl, Int.tmod_eq_emod_of_nonneg (by omega)]

theorem ret_bool' {a b : Bool} (h : a = b) : Ending.returned (.bool a) = .returned (.bool b) := by rw [h]
theorem ret_num {a b : Int} (h : a = b) : Ending.returned (.int .i64 a) = .returned (.int .i64 b) := by rw [h]
end Go.Proofs.YtpkkhkkkgjhkeabGreat

/-
  THE WALK of signetref.amounts.
-/
namespace Go.Proofs.YtpkkhkkkgjhkeabGreat
open Go.RowKit
set_option maxRecDepth 100000

/-- The cells of a slice of numbers. -/
def IntsAt (w : World) (b off : Nat) (l : List Int) : Prop := ∀ i, i < l.length → w.cell? ⟨b, off + i, none⟩ = some (.int .i64 (l.getD i 0))
def IntsIn (w : World) (ao : Option Addr) (l : List Int) : Prop := l.length = 0 ∨ ∃ b off, ao = some ⟨b, off, none⟩ ∧ b < w.heap.size ∧ IntsAt w b off l
theorem IntsAt.below {w w' : World} {B b off : Nat} {l : List Int} (h : IntsAt w b off l) (hb : Below B w w') (hlt : b < B) : IntsAt w' b off l := fun i hi => by
  rw [hb.cell (p := ⟨b, off + i, none⟩) hlt]; exact h i hi
theorem IntsIn.below {w w' : World} {ao : Option Addr} {l : List Int} (h : IntsIn w ao l) (hb : Below w.heap.size w w') : IntsIn w' ao l := by
  rcases h with h0 | ⟨b, off, e, hbw, hat⟩
  · exact Or.inl h0
  · exact Or.inr ⟨b, off, e, Nat.lt_of_lt_of_le hbw hb.size, hat.below hb hbw⟩
theorem IntsIn.cell {w : World} {ao : Option Addr} {l : List Int} (h : IntsIn w ao l) {k : Nat} (hk : k < l.length) : ∃ b off, ao = some ⟨b, off, none⟩ ∧ w.cell? ⟨b, off + k, none⟩ = some (.int .i64 (l.getD k 0)) := by
  rcases h with h0 | ⟨b, off, e, _, hat⟩
  · omega
  · exact ⟨b, off, e, hat k hk⟩

namespace Sg
theorem amountsB_snoc (l : List Int) (x : Int) : amountsB (l ++ [x]) = amountsB l ++ beB x 8 := by
  unfold amountsB; rw [List.foldl_append]; rfl
theorem amountsB_size (l : List Int) : (amountsB l).size = 8 * l.length := by
  suffices h : ∀ (o : ByteArray), (l.foldl (fun out x => out ++ beB x 8) o).size = o.size + 8 * l.length by
    have := h ByteArray.empty; simpa [amountsB] using this
  induction l with
  | nil => intro o; rfl
  | cons x l ih => intro o; simp only [List.foldl_cons, List.length_cons]; rw [ih, ByteArray.size_append, beB_size]; omega
theorem take_snoc {α : Type} (l : List α) (k : Nat) (d : α) (h : k < l.length) : l.take (k + 1) = l.take k ++ [l.getD k d] := by
  rw [List.take_succ_eq_append_getElem h]
  simp [List.getD, h]
end Sg

theorem ret_str2 {a b : ByteArray} (h : a = b) : Ending.returned (.string a) = .returned (.string b) := by rw [h]

end Go.Proofs.YtpkkhkkkgjhkeabGreat

/-
  THE WALKS of signetref.chart, entry: and how a history lies in memory.
-/
namespace Go.Proofs.YtpkkhkkkgjhkeabGreat
open Go.RowKit
set_option maxRecDepth 100000
attribute [local go_sem ↓] Go.wp_at_zero Go.wp_at_succ

/-- Two texts behind each other. -/
theorem cat (a b : ByteArray) (h : a.size + b.size ≤ 4611686018427387904) : ∀ W : World, (Op.stringOp .add a b).run Tryz.prog W = .ok (.string (a ++ b)) W := fun W => run_string_add_sum W a b (by omega)
theorem cat_size (a b : ByteArray) : (a ++ b).size = a.size + b.size := ByteArray.size_append

/-- What came behind w, one block and more later. -/
def Past (w W : World) : Prop := w.heap.size < W.heap.size ∧ Below w.heap.size w W
theorem Past.below {w W : World} (h : Past w W) : Below w.heap.size w W := h.2
theorem past_new {w : World} {x y : Value} {t : TypeId} : (w.alloc (.cells #[x, y] t)).cell? ⟨w.heap.size, 0, none⟩ = some x ∧ (w.alloc (.cells #[x, y] t)).cell? ⟨w.heap.size, 1, none⟩ = some y ∧ Past w (w.alloc (.cells #[x, y] t)) :=
  ⟨by simp, by simp, by simp, (Below.refl _ _).alloc (Nat.le_refl _) _⟩
theorem past_drew {w W : World} {x y : Value} (h : W.cell? ⟨w.heap.size, 0, none⟩ = some x ∧ W.cell? ⟨w.heap.size, 1, none⟩ = some y ∧ Past w W) :
    W.drew.cell? ⟨w.heap.size, 0, none⟩ = some x ∧ W.drew.cell? ⟨w.heap.size, 1, none⟩ = some y ∧ Past w W.drew :=
  ⟨by simpa using h.1, by simpa using h.2.1, by simpa using h.2.2.1, h.2.2.2.drew⟩
theorem past_call {w W w' : World} {x y : Value} (h : W.cell? ⟨w.heap.size, 0, none⟩ = some x ∧ W.cell? ⟨w.heap.size, 1, none⟩ = some y ∧ Past w W) (hb : Below W.heap.size W w') :
    w'.cell? ⟨w.heap.size, 0, none⟩ = some x ∧ w'.cell? ⟨w.heap.size, 1, none⟩ = some y ∧ Past w w' :=
  ⟨(hb.cell (p := ⟨w.heap.size, 0, none⟩) h.2.2.1).trans h.1, (hb.cell (p := ⟨w.heap.size, 1, none⟩) h.2.2.1).trans h.2.1, by have := h.2.2.1; have := hb.size; omega, h.2.2.2.trans (hb.mono (by have := h.2.2.1; omega))⟩

/-- The cells of a slice of accounts. -/
def AccsAt (w : World) (b off : Nat) (ac : List Sg.Acc) : Prop := ∀ i (h : i < ac.length), w.cell? ⟨b, off + i * 2, none⟩ = some (.string ac[i].name) ∧ w.cell? ⟨b, off + i * 2 + 1, none⟩ = some (.int .i64 ac[i].line)
def AccsIn (w : World) (ao : Option Addr) (ac : List Sg.Acc) : Prop := ac.length = 0 ∨ ∃ b off, ao = some ⟨b, off, none⟩ ∧ b < w.heap.size ∧ AccsAt w b off ac
theorem AccsIn.below {w w' : World} {ao : Option Addr} {ac : List Sg.Acc} (h : AccsIn w ao ac) (hb : Below w.heap.size w w') : AccsIn w' ao ac := by
  rcases h with h0 | ⟨b, off, e, hbw, hat⟩
  · exact Or.inl h0
  · refine Or.inr ⟨b, off, e, Nat.lt_of_lt_of_le hbw hb.size, fun i hi => ?_⟩
    rw [hb.cell (p := ⟨b, off + i * 2, none⟩) hbw, hb.cell (p := ⟨b, off + i * 2 + 1, none⟩) hbw]
    exact hat i hi
theorem AccsIn.cell {w : World} {ao : Option Addr} {ac : List Sg.Acc} (h : AccsIn w ao ac) {k : Nat} (hk : k < ac.length) : ∃ b off, ao = some ⟨b, off, none⟩ ∧ b < w.heap.size ∧ w.cell? ⟨b, off + k * 2, none⟩ = some (.string ac[k].name) ∧ w.cell? ⟨b, off + k * 2 + 1, none⟩ = some (.int .i64 ac[k].line) := by
  rcases h with h0 | ⟨b, off, e, hbw, hat⟩
  · omega
  · exact ⟨b, off, e, hbw, (hat k hk).1, (hat k hk).2⟩

namespace Sg
theorem accText_size (o : ByteArray) (a : Acc) : (accText o a).size = o.size + a.name.size + 2 := by
  unfold accText; rw [ByteArray.size_append, ByteArray.size_append, ByteArray.size_append, beB_size, beB_size]; omega
/-- The chart's text so far. -/
def chartTo (ac : List Acc) (k : Nat) : ByteArray := (ac.take k).foldl accText (beB ac.length 1)
theorem chartTo_succ (ac : List Acc) (k : Nat) (h : k < ac.length) : chartTo ac (k + 1) = accText (chartTo ac k) ac[k] := by
  unfold chartTo; rw [List.take_succ_eq_append_getElem h, List.foldl_append]; rfl
theorem chartTo_size (ac : List Acc) (hok : ∀ a ∈ ac, a.name.size ≤ 12) : ∀ k, k ≤ ac.length → (chartTo ac k).size ≤ 1 + 14 * k
  | 0, _ => by unfold chartTo; simp [beB_size]
  | k + 1, h => by
    rw [chartTo_succ ac k (by omega), accText_size]
    have := chartTo_size ac hok k (by omega)
    have := hok ac[k] (List.getElem_mem _)
    omega
theorem chartTo_all (ac : List Acc) : chartTo ac ac.length = chartB ac := by unfold chartTo chartB; rw [List.take_length]
theorem chartB_size (ac : List Acc) (hok : ∀ a ∈ ac, a.name.size ≤ 12) : (chartB ac).size ≤ 1 + 14 * ac.length := by
  rw [← chartTo_all]; exact chartTo_size ac hok _ (Nat.le_refl _)
end Sg

/-- The cells of a slice of postings. -/
def PstsAt (w : World) (b off : Nat) (ps : List Sg.Pst) : Prop := ∀ i (h : i < ps.length), w.cell? ⟨b, off + i * 2, none⟩ = some (.int .i64 ps[i].acct) ∧ w.cell? ⟨b, off + i * 2 + 1, none⟩ = some (.int .i64 ps[i].amt)
def PstsIn (w : World) (ao : Option Addr) (ps : List Sg.Pst) : Prop := ps.length = 0 ∨ ∃ b off, ao = some ⟨b, off, none⟩ ∧ b < w.heap.size ∧ PstsAt w b off ps
theorem PstsIn.below {w w' : World} {ao : Option Addr} {ps : List Sg.Pst} (h : PstsIn w ao ps) (hb : Below w.heap.size w w') : PstsIn w' ao ps := by
  rcases h with h0 | ⟨b, off, e, hbw, hat⟩
  · exact Or.inl h0
  · refine Or.inr ⟨b, off, e, Nat.lt_of_lt_of_le hbw hb.size, fun i hi => ?_⟩
    rw [hb.cell (p := ⟨b, off + i * 2, none⟩) hbw, hb.cell (p := ⟨b, off + i * 2 + 1, none⟩) hbw]
    exact hat i hi
theorem PstsIn.cell {w : World} {ao : Option Addr} {ps : List Sg.Pst} (h : PstsIn w ao ps) {k : Nat} (hk : k < ps.length) : ∃ b off, ao = some ⟨b, off, none⟩ ∧ b < w.heap.size ∧ w.cell? ⟨b, off + k * 2, none⟩ = some (.int .i64 ps[k].acct) ∧ w.cell? ⟨b, off + k * 2 + 1, none⟩ = some (.int .i64 ps[k].amt) := by
  rcases h with h0 | ⟨b, off, e, hbw, hat⟩
  · omega
  · exact ⟨b, off, e, hbw, (hat k hk).1, (hat k hk).2⟩

namespace Sg
theorem pstText_size (o : ByteArray) (p : Pst) : (pstText o p).size = o.size + 9 := by
  unfold pstText; rw [ByteArray.size_append, ByteArray.size_append, beB_size, beB_size]
/-- An entry's text so far. -/
def entTo (e : Ent) (k : Nat) : ByteArray := (e.posts.take k).foldl pstText (beB e.memo.size 1 ++ e.memo ++ beB e.posts.length 1)
theorem entTo_succ (e : Ent) (k : Nat) (h : k < e.posts.length) : entTo e (k + 1) = pstText (entTo e k) e.posts[k] := by
  unfold entTo; rw [List.take_succ_eq_append_getElem h, List.foldl_append]; rfl
theorem entTo_size (e : Ent) : ∀ k, k ≤ e.posts.length → (entTo e k).size = 2 + e.memo.size + 9 * k
  | 0, _ => by unfold entTo; simp only [List.take_zero, List.foldl_nil]; rw [ByteArray.size_append, ByteArray.size_append, beB_size, beB_size]; omega
  | k + 1, h => by rw [entTo_succ e k (by omega), pstText_size, entTo_size e k (by omega)]; omega
theorem entTo_all (e : Ent) : entTo e e.posts.length = entB e := by unfold entTo entB; rw [List.take_length]
theorem entB_size (e : Ent) : (entB e).size = 2 + e.memo.size + 9 * e.posts.length := by rw [← entTo_all, entTo_size e _ (Nat.le_refl _)]
end Sg

theorem still2 {w W w' : World} {b o1 o2 : Nat} {x y v1 v2 : Value} (h : W.cell? ⟨w.heap.size, 0, none⟩ = some x ∧ W.cell? ⟨w.heap.size, 1, none⟩ = some y ∧ Past w W) (hbw : b < W.heap.size) (h1 : W.cell? ⟨b, o1, none⟩ = some v1) (h2 : W.cell? ⟨b, o2, none⟩ = some v2) (hb : Below W.heap.size W w') :
    w'.cell? ⟨w.heap.size, 1, none⟩ = some y ∧ w'.cell? ⟨b, o1, none⟩ = some v1 ∧ w'.cell? ⟨b, o2, none⟩ = some v2 ∧ Below W.heap.size W w' :=
  ⟨(past_call h hb).2.1, (hb.cell (p := ⟨b, o1, none⟩) hbw).trans h1, (hb.cell (p := ⟨b, o2, none⟩) hbw).trans h2, hb⟩

end Go.Proofs.YtpkkhkkkgjhkeabGreat

/-
  THE WALK of signetref.Bounds: and how a history's periods lie in memory.
-/
namespace Go.Proofs.YtpkkhkkkgjhkeabGreat
open Go.RowKit
set_option maxRecDepth 100000

/-- The cells of a slice of entries, of a slice of periods. -/
def EntsAt (w : World) (b off : Nat) (es : List Sg.Ent) : Prop := ∀ i (h : i < es.length), w.cell? ⟨b, off + i * 2, none⟩ = some (.string es[i].memo) ∧ ∃ ao cap, w.cell? ⟨b, off + i * 2 + 1, none⟩ = some (.slice ao es[i].posts.length cap) ∧ PstsIn w ao es[i].posts
def EntsIn (w : World) (ao : Option Addr) (es : List Sg.Ent) : Prop := es.length = 0 ∨ ∃ b off, ao = some ⟨b, off, none⟩ ∧ b < w.heap.size ∧ EntsAt w b off es
theorem EntsIn.below {w w' : World} {ao : Option Addr} {es : List Sg.Ent} (h : EntsIn w ao es) (hb : Below w.heap.size w w') : EntsIn w' ao es := by
  rcases h with h0 | ⟨b, off, e, hbw, hat⟩
  · exact Or.inl h0
  · refine Or.inr ⟨b, off, e, Nat.lt_of_lt_of_le hbw hb.size, fun i hi => ?_⟩
    rw [hb.cell (p := ⟨b, off + i * 2, none⟩) hbw, hb.cell (p := ⟨b, off + i * 2 + 1, none⟩) hbw]
    obtain ⟨h1, ao', cap', h2, h3⟩ := hat i hi
    exact ⟨h1, ao', cap', h2, h3.below hb⟩
theorem EntsIn.cell {w : World} {ao : Option Addr} {es : List Sg.Ent} (h : EntsIn w ao es) {k : Nat} (hk : k < es.length) : ∃ b off, ao = some ⟨b, off, none⟩ ∧ b < w.heap.size ∧ w.cell? ⟨b, off + k * 2, none⟩ = some (.string es[k].memo) ∧ ∃ ao' cap', w.cell? ⟨b, off + k * 2 + 1, none⟩ = some (.slice ao' es[k].posts.length cap') ∧ PstsIn w ao' es[k].posts := by
  rcases h with h0 | ⟨b, off, e, hbw, hat⟩
  · omega
  · exact ⟨b, off, e, hbw, (hat k hk).1, (hat k hk).2⟩
def PersAt (w : World) (b off : Nat) (ps : List (List Sg.Ent)) : Prop := ∀ i (h : i < ps.length), ∃ ao cap, w.cell? ⟨b, off + i, none⟩ = some (.slice ao ps[i].length cap) ∧ EntsIn w ao ps[i]
def PersIn (w : World) (ao : Option Addr) (ps : List (List Sg.Ent)) : Prop := ps.length = 0 ∨ ∃ b off, ao = some ⟨b, off, none⟩ ∧ b < w.heap.size ∧ PersAt w b off ps
theorem PersIn.below {w w' : World} {ao : Option Addr} {ps : List (List Sg.Ent)} (h : PersIn w ao ps) (hb : Below w.heap.size w w') : PersIn w' ao ps := by
  rcases h with h0 | ⟨b, off, e, hbw, hat⟩
  · exact Or.inl h0
  · refine Or.inr ⟨b, off, e, Nat.lt_of_lt_of_le hbw hb.size, fun i hi => ?_⟩
    rw [hb.cell (p := ⟨b, off + i, none⟩) hbw]
    obtain ⟨ao', cap', h2, h3⟩ := hat i hi
    exact ⟨ao', cap', h2, h3.below hb⟩
theorem PersIn.cell {w : World} {ao : Option Addr} {ps : List (List Sg.Ent)} (h : PersIn w ao ps) {k : Nat} (hk : k < ps.length) : ∃ b off, ao = some ⟨b, off, none⟩ ∧ b < w.heap.size ∧ ∃ ao' cap', w.cell? ⟨b, off + k, none⟩ = some (.slice ao' ps[k].length cap') ∧ EntsIn w ao' ps[k] := by
  rcases h with h0 | ⟨b, off, e, hbw, hat⟩
  · omega
  · exact ⟨b, off, e, hbw, hat k hk⟩

namespace Sg
/-- The accounts up to k are all right. -/
def accsTo (ac : List Acc) (k : Nat) : Prop := ∀ i (h : i < ac.length), i < k → accOk ac[i] = true ∧ ∀ j (hj : j < ac.length), j < i → ac[j].name ≠ ac[i].name
theorem accsOk_iff : ∀ (ac : List Acc), accsOk ac = true ↔ accsTo ac ac.length
  | [] => by simp [accsOk, accsTo]
  | a :: r => by
    simp only [accsOk, Bool.and_eq_true, accsOk_iff r, List.all_eq_true, decide_eq_true_eq]
    constructor
    · rintro ⟨⟨h1, h2⟩, h3⟩ i hi _
      cases i with
      | zero => exact ⟨h1, fun j _ hji => by omega⟩
      | succ i =>
        obtain ⟨h4, h5⟩ := h3 i (by simpa using hi) (by simpa using hi)
        refine ⟨h4, fun j hj hji => ?_⟩
        cases j with
        | zero => exact fun e => h2 _ (List.getElem_mem (by simpa using hi)) e.symm
        | succ j => exact h5 j (by simpa using hj) (by omega)
    · intro h
      refine ⟨⟨(h 0 (by simp) (by simp)).1, fun b hb e => ?_⟩, fun i hi _ => ?_⟩
      · obtain ⟨i, hi, rfl⟩ := List.getElem_of_mem hb
        exact (h (i + 1) (by simpa using hi) (by simpa using hi)).2 0 (by simp) (by omega) e.symm
      · obtain ⟨h4, h5⟩ := h (i + 1) (by simpa using hi) (by simpa using hi)
        exact ⟨h4, fun j hj hji => h5 (j + 1) (by simpa using hj) (by omega)⟩
theorem accsTo_bad {ac : List Acc} {i : Nat} (h : i < ac.length) (hb : accOk ac[i] = false ∨ ∃ j, ∃ hj : j < ac.length, j < i ∧ ac[j].name = ac[i].name) : accsOk ac = false := by
  rw [← Bool.not_eq_true, accsOk_iff]
  intro hk
  obtain ⟨h1, h2⟩ := hk i h h
  rcases hb with hb | ⟨j, hj, hji, e⟩
  · rw [hb] at h1; simp at h1
  · exact h2 j hj hji e
theorem accsTo_succ {ac : List Acc} {k : Nat} (hk : k < ac.length) (h : accsTo ac k) (h1 : accOk ac[k] = true) (h2 : ∀ j (hj : j < ac.length), j < k → ac[j].name ≠ ac[k].name) : accsTo ac (k + 1) := by
  intro i hi hik
  by_cases e : i = k
  · subst e; exact ⟨h1, h2⟩
  · exact h i hi (by omega)
/-- The periods up to k are all right. -/
def persOkTo (ps : List (List Ent)) (k : Nat) : Prop := ∀ i (h : i < ps.length), i < k → perOk ps[i] = true
theorem persOk_all {ps : List (List Ent)} (h : persOkTo ps ps.length) : ps.all perOk = true := by
  rw [List.all_eq_true]
  intro p hp
  obtain ⟨i, hi, rfl⟩ := List.getElem_of_mem hp
  exact h i hi hi
theorem persOk_bad {ps : List (List Ent)} {i : Nat} (h : i < ps.length) (hb : perOk ps[i] = false) : ps.all perOk = false := by
  rw [List.all_eq_false]
  exact ⟨ps[i], List.getElem_mem h, by rw [hb]; simp⟩
def entsOkTo (es : List Ent) (k : Nat) : Prop := ∀ i (h : i < es.length), i < k → entOk es[i] = true
theorem perOk_all {es : List Ent} (h : entsOkTo es es.length) (hl : es.length ≤ 12) : perOk es = true := by
  unfold perOk
  rw [decide_eq_true hl, Bool.true_and, List.all_eq_true]
  intro p hp
  obtain ⟨i, hi, rfl⟩ := List.getElem_of_mem hp
  exact h i hi hi
theorem perOk_bad {es : List Ent} {i : Nat} (h : i < es.length) (hb : entOk es[i] = false) : perOk es = false := by
  unfold perOk
  have : es.all entOk = false := by rw [List.all_eq_false]; exact ⟨es[i], List.getElem_mem h, by rw [hb]; simp⟩
  rw [this, Bool.and_false]
theorem inBounds_accs {h : Hist} (hb : accsOk h.accs = false) : inBounds h = false := by unfold inBounds; rw [hb]; simp
theorem inBounds_pers {h : Hist} (hb : h.pers.all perOk = false) : inBounds h = false := by unfold inBounds; rw [hb]; simp
theorem inBounds_nums {h : Hist} (hb : ¬ (1 ≤ h.accs.length ∧ h.accs.length ≤ 8 ∧ 1 ≤ h.pers.length ∧ h.pers.length ≤ 6)) : inBounds h = false := by unfold inBounds; rw [decide_eq_false hb]; rfl
theorem inBounds_yes {h : Hist} (hb : 1 ≤ h.accs.length ∧ h.accs.length ≤ 8 ∧ 1 ≤ h.pers.length ∧ h.pers.length ≤ 6) (h1 : accsTo h.accs h.accs.length) (h2 : persOkTo h.pers h.pers.length) : inBounds h = true := by
  unfold inBounds; rw [decide_eq_true hb, (accsOk_iff _).2 h1, persOk_all h2]; rfl
end Sg
end Go.Proofs.YtpkkhkkkgjhkeabGreat

/-
  THE WALK of signetref.Bounds.
-/
namespace Go.Proofs.YtpkkhkkkgjhkeabGreat
open Go.RowKit
set_option maxRecDepth 100000

theorem txt_inj2 {x y : ByteArray} (h : x.toList = y.toList) : x = y := by
  rw [ByteArray.toList_eq, ByteArray.toList_eq] at h
  exact Go.WideShapes.bytes_inj h

theorem past_drewN {w W : World} {x y : Value} (h : W.cell? ⟨w.heap.size, 0, none⟩ = some x ∧ W.cell? ⟨w.heap.size, 1, none⟩ = some y ∧ Past w W) (q : Nat) :
    (W.drewN q).cell? ⟨w.heap.size, 0, none⟩ = some x ∧ (W.drewN q).cell? ⟨w.heap.size, 1, none⟩ = some y ∧ Past w (W.drewN q) :=
  ⟨by simpa using h.1, by simpa using h.2.1, by simpa using h.2.2.1, below_drewN h.2.2.2 q⟩

end Go.Proofs.YtpkkhkkkgjhkeabGreat

/-
  THE WALK of signetref.enters: an entry comes to the balances.
-/
namespace Go.Proofs.YtpkkhkkkgjhkeabGreat
open Go.RowKit
set_option maxRecDepth 100000
attribute [local go_sem ↓] Go.wp_at_zero Go.wp_at_succ

/-- Whole numbers, cell by cell. -/
def wideCells (l : List Int) : List Value := l.flatMap fun v => [.int .i64 (wHi v), .int .i64 (wLo v)]
theorem wideCells_length : ∀ l, (wideCells l).length = l.length * 2
  | [] => rfl
  | v :: l => by simp only [wideCells, List.flatMap_cons, List.length_append, List.length_cons, List.length_nil]; have := wideCells_length l; unfold wideCells at this; rw [this]; omega
theorem wideCells_hi : ∀ (l : List Int) (i : Nat), i < l.length → (wideCells l)[i * 2]? = some (.int .i64 (wHi (l.getD i 0)))
  | v :: l, 0, _ => rfl
  | v :: l, i + 1, h => by
    have := wideCells_hi l i (by simpa using h)
    show ([Value.int .i64 (wHi v), .int .i64 (wLo v)] ++ wideCells l)[(i + 1) * 2]? = _
    rw [List.getElem?_append_right (by simp; omega)]
    simpa [show (i + 1) * 2 - 2 = i * 2 by omega] using this
theorem wideCells_lo : ∀ (l : List Int) (i : Nat), i < l.length → (wideCells l)[i * 2 + 1]? = some (.int .i64 (wLo (l.getD i 0)))
  | v :: l, 0, _ => rfl
  | v :: l, i + 1, h => by
    have := wideCells_lo l i (by simpa using h)
    show ([Value.int .i64 (wHi v), .int .i64 (wLo v)] ++ wideCells l)[(i + 1) * 2 + 1]? = _
    rw [List.getElem?_append_right (by simp; omega)]
    simpa [show (i + 1) * 2 + 1 - 2 = i * 2 + 1 by omega] using this
theorem wideCells_set : ∀ (l : List Int) (i : Nat) (v : Int), i < l.length → ((wideCells l).set (i * 2) (.int .i64 (wHi v))).set (i * 2 + 1) (.int .i64 (wLo v)) = wideCells (l.set i v)
  | u :: l, 0, v, _ => rfl
  | u :: l, i + 1, v, h => by
    have := wideCells_set l i v (by simpa using h)
    show (([Value.int .i64 (wHi u), .int .i64 (wLo u)] ++ wideCells l).set ((i + 1) * 2) _).set ((i + 1) * 2 + 1) _ = [Value.int .i64 (wHi u), .int .i64 (wLo u)] ++ wideCells (l.set i v)
    rw [List.set_append_right _ _ (by simp; omega), List.set_append_right _ _ (by simp; omega)]
    simp only [List.length_cons, List.length_nil, show (i + 1) * 2 - (0 + 1 + 1) = i * 2 by omega, show (i + 1) * 2 + 1 - (0 + 1 + 1) = i * 2 + 1 by omega]
    rw [this]

theorem setCell_grown (w : World) (g j : Nat) (u : Value) : w.grownBy (w.setCell ⟨g, j, none⟩ u) (some g) :=
  ⟨rfl, rfl, rfl, by simp [World.setCell], fun k _ hk => heap_setCell_other w ⟨g, j, none⟩ k u (fun e => hk (by simp [e]))⟩

namespace Sg
/-- Far from the ends, by so many amounts. -/
def Near (c : Nat) (v : Int) : Prop := -(9223372036854775808 * (c : Int)) ≤ v ∧ v ≤ 9223372036854775808 * (c : Int)
theorem Near.add {c : Nat} {v n : Int} (h : Near c v) (hn : -9223372036854775808 ≤ n ∧ n ≤ 9223372036854775807) : Near (c + 1) (v + n) := by
  obtain ⟨h1, h2⟩ := h; unfold Near; push_cast; omega
theorem Near.mono {c d : Nat} {v : Int} (h : Near c v) (hd : c ≤ d) : Near d v := by
  obtain ⟨h1, h2⟩ := h; unfold Near; omega
theorem near_fits {v : Int} (h : fits v = true) : Near 1 v := by
  have := of_decide_eq_true h; unfold Near; omega
theorem sum_take_succ (ps : List Pst) (k : Nat) (h : k < ps.length) : amtSum (ps.take (k + 1)) = amtSum (ps.take k) + ps[k].amt := by
  unfold amtSum; rw [List.take_succ_eq_append_getElem h, List.foldl_append]; rfl
theorem sum_near (ps : List Pst) (hf : ∀ p ∈ ps, fits p.amt = true) : ∀ k, k ≤ ps.length → Near k (amtSum (ps.take k))
  | 0, _ => by simp [amtSum, Near]
  | k + 1, h => by
    rw [sum_take_succ ps k (by omega)]
    exact (sum_near ps hf k (by omega)).add (of_decide_eq_true (hf _ (List.getElem_mem _)))
/-- The balances behind the first k postings. -/
def comesTo (ps : List Pst) (now : List Int) (k : Nat) : List Int := comesAll (ps.take k) now
theorem comesTo_succ (ps : List Pst) (now : List Int) (k : Nat) (h : k < ps.length) : comesTo ps now (k + 1) = comes (comesTo ps now k) ps[k].acct.toNat ps[k].amt := by
  unfold comesTo comesAll; rw [List.take_succ_eq_append_getElem h, List.foldl_append]; rfl
theorem comesTo_length (ps : List Pst) (now : List Int) : ∀ k, k ≤ ps.length → (comesTo ps now k).length = now.length
  | 0, _ => rfl
  | k + 1, h => by rw [comesTo_succ ps now k (by omega)]; unfold comes; rw [List.length_set]; exact comesTo_length ps now k (by omega)
theorem comes_near {l : List Int} {c i : Nat} {n : Int} (h : ∀ v ∈ l, Near c v) (hi : i < l.length) (hn : -9223372036854775808 ≤ n ∧ n ≤ 9223372036854775807) : ∀ v ∈ comes l i n, Near (c + 1) v := by
  intro v hv
  unfold comes at hv
  rcases List.mem_or_eq_of_mem_set hv with hv | rfl
  · exact (h v hv).mono (by omega)
  · refine (h _ ?_).add hn
    rw [List.getD_eq_getElem?_getD, List.getElem?_eq_getElem hi]; simp
theorem comesTo_near (ps : List Pst) (now : List Int) (c : Nat) (h : ∀ v ∈ now, Near c v) (hf : ∀ p ∈ ps, fits p.amt = true) (ha : ∀ p ∈ ps, 0 ≤ p.acct ∧ p.acct < (now.length : Int)) : ∀ k, k ≤ ps.length → ∀ v ∈ comesTo ps now k, Near (c + k) v
  | 0, _ => h
  | k + 1, hk => by
    rw [comesTo_succ ps now k (by omega)]
    have hp := List.getElem_mem (l := ps) (n := k) (by omega)
    refine comes_near (comesTo_near ps now c h hf ha k (by omega)) ?_ (of_decide_eq_true (hf _ hp))
    rw [comesTo_length ps now k (by omega)]
    have := ha _ hp
    omega
theorem comesTo_all (ps : List Pst) (now : List Int) : comesTo ps now ps.length = comesAll ps now := by unfold comesTo; rw [List.take_length]
end Sg
end Go.Proofs.YtpkkhkkkgjhkeabGreat
