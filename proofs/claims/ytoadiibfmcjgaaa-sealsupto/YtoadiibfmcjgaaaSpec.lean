/-
  PLAIN MATHEMATICS OF signet: histories, and how they are closed and sealed (P5, P6).
-/
import Derived.Test.YtoadiibfmcjgaaaTree
namespace Go.Proofs.Ytoadiibfmcjgaaa.Sg

structure Acc where
  name : ByteArray
  line : Int
structure Pst where
  acct : Int
  amt : Int
structure Ent where
  memo : ByteArray
  posts : List Pst
structure Hist where
  accs : List Acc
  pers : List (List Ent)

/-- A number in so many bytes, as a text. -/
def beB (n : Int) (k : Nat) : ByteArray := ⟨(beL n k).toArray⟩
theorem beB_size (n : Int) (k : Nat) : (beB n k).size = k := by
  show (beL n k).toArray.size = k
  rw [List.size_toArray, beL_length]

/-- A number of 64 bits. -/
def fits (v : Int) : Bool := decide (-9223372036854775808 ≤ v ∧ v ≤ 9223372036854775807)

/-! ### In bounds -/
def accOk (a : Acc) : Bool := decide (1 ≤ a.name.size ∧ a.name.size ≤ 12 ∧ 0 ≤ a.line ∧ a.line ≤ 3)
/-- The accounts are all right, and no name stands twice. -/
def accsOk : List Acc → Bool
  | [] => true
  | a :: r => accOk a && r.all (fun b => decide (b.name ≠ a.name)) && accsOk r
def entOk (e : Ent) : Bool := decide (e.memo.size ≤ 20 ∧ 1 ≤ e.posts.length ∧ e.posts.length ≤ 6)
def perOk (p : List Ent) : Bool := decide (p.length ≤ 12) && p.all entOk
def inBounds (h : Hist) : Bool := decide (1 ≤ h.accs.length ∧ h.accs.length ≤ 8 ∧ 1 ≤ h.pers.length ∧ h.pers.length ≤ 6) && accsOk h.accs && h.pers.all perOk

/-! ### Closing -/
def amtSum (ps : List Pst) : Int := ps.foldl (fun s p => s + p.amt) 0
def lineOf (as : List Acc) (i : Int) : Int := (as.map Acc.line).getD i.toNat 0
/-- An amount comes to a list of sums. -/
def comes (l : List Int) (i : Nat) (n : Int) : List Int := l.set i (l.getD i 0 + n)
def comesAll (ps : List Pst) (now : List Int) : List Int := ps.foldl (fun l p => comes l p.acct.toNat p.amt) now
def linesAll (as : List Acc) (ps : List Pst) (tot : List Int) : List Int := ps.foldl (fun l p => comes l (lineOf as p.acct).toNat p.amt) tot
/-- What is wrong with an entry; 0: nothing. -/
def entErr (n : Nat) (e : Ent) (now : List Int) : Int :=
  if e.posts.any (fun p => decide (p.acct < 0 ∨ (n : Int) ≤ p.acct)) then 2
  else if amtSum e.posts ≠ 0 then 3
  else if (comesAll e.posts now).any (fun v => !fits v) then 4 else 0
/-- Entries, one by one: the error, the balances, the totals. -/
def entsTo (as : List Acc) : List Ent → List Int → List Int → Int × List Int × List Int
  | [], now, tot => (0, now, tot)
  | e :: r, now, tot => if entErr as.length e now ≠ 0 then (entErr as.length e now, now, tot) else entsTo as r (comesAll e.posts now) (linesAll as e.posts tot)
/-- Periods, one by one: the error, for each period the balances and the totals. -/
def persTo (as : List Acc) : List (List Ent) → List Int → Int × List (List Int) × List (List Int)
  | [], _ => (0, [], [])
  | p :: r, now =>
    let x := entsTo as p now [0, 0, 0, 0]
    if x.1 ≠ 0 then (x.1, [], [])
    else if x.2.2.any (fun v => !fits v) then (4, [], [])
    else let y := persTo as r x.2.1; (y.1, x.2.1 :: y.2.1, x.2.2 :: y.2.2)
/-- What Seal answers of a history: the error. -/
def closeErr (h : Hist) : Int := if inBounds h then (persTo h.accs h.pers (List.replicate h.accs.length 0)).1 else 1
def balances (h : Hist) : List (List Int) := (persTo h.accs h.pers (List.replicate h.accs.length 0)).2.1
def totals (h : Hist) : List (List Int) := (persTo h.accs h.pers (List.replicate h.accs.length 0)).2.2

/-! ### The texts -/
def accText (out : ByteArray) (a : Acc) : ByteArray := out ++ beB a.name.size 1 ++ a.name ++ beB a.line 1
def chartB (as : List Acc) : ByteArray := as.foldl accText (beB as.length 1)
def pstText (out : ByteArray) (p : Pst) : ByteArray := out ++ beB p.acct 1 ++ beB p.amt 8
def entB (e : Ent) : ByteArray := e.posts.foldl pstText (beB e.memo.size 1 ++ e.memo ++ beB e.posts.length 1)
def amountsB (l : List Int) : ByteArray := l.foldl (fun out x => out ++ beB x 8) ByteArray.empty
def perText (out : ByteArray) (p : List Ent) (b t : List Int) : ByteArray := p.foldl (fun o e => o ++ entB e) (out ++ beB p.length 1) ++ amountsB b ++ amountsB t
def persText : ByteArray → List (List Ent) → List (List Int) → List (List Int) → ByteArray
  | out, p :: r, b :: bs, t :: ts => persText (perText out p b t) r bs ts
  | out, _, _, _ => out
def signT : ByteArray := { data := #[83, 73, 71, 78] }
def headT : ByteArray := { data := #[72, 69, 65, 68] }
def packageB (h : Hist) : ByteArray := persText (signT ++ chartB h.accs ++ beB h.pers.length 1) h.pers (balances h) (totals h)

structure Drl where
  ent : Nat
  place : Nat
  acct : Int
  amt : Int
/-- The drills of a line among an entry's postings, from a place on. -/
def drillsIn (as : List Acc) (line : Int) (i : Nat) : Nat → List Pst → List Drl
  | _, [] => []
  | j, p :: r => if lineOf as p.acct = line then ⟨i, j, p.acct, p.amt⟩ :: drillsIn as line i (j + 1) r else drillsIn as line i (j + 1) r
def drillsFrom (as : List Acc) (line : Int) : Nat → List Ent → List Drl
  | _, [] => []
  | i, e :: r => drillsIn as line i 0 e.posts ++ drillsFrom as line (i + 1) r
def drillsOf (as : List Acc) (p : List Ent) (line : Int) : List Drl := drillsFrom as line 0 p
def drlB (d : Drl) : ByteArray := beB d.ent 1 ++ beB d.place 1 ++ beB d.acct 1 ++ beB d.amt 8
def lineB (line total : Int) (ds : List Drl) : ByteArray := beB line 1 ++ beB total 8 ++ beB ds.length 2 ++ root (ds.map drlB)
def stmt (as : List Acc) (p : List Ent) (t : List Int) : List ByteArray := (List.range 4).map fun (k : Nat) => lineB (k : Int) (t.getD k 0) (drillsOf as p (k : Int))
def headerB (as : List Acc) (i : Nat) (last : ByteArray) (p : List Ent) (b t : List Int) : ByteArray :=
  headT ++ beB i 1 ++ last ++ sumB (chartB as) ++ beB p.length 1 ++ root (p.map entB) ++ root (stmt as p t) ++ sumB (amountsB b)
def headersFrom (as : List Acc) : Nat → ByteArray → List (List Ent) → List (List Int) → List (List Int) → List ByteArray
  | i, last, p :: r, b :: bs, t :: ts => headerB as i last p b t :: headersFrom as (i + 1) (sumB (headerB as i last p b t)) r bs ts
  | _, _, _, _, _ => []
def headers (h : Hist) : List ByteArray := headersFrom h.accs 0 { data := #[0, 0] } h.pers (balances h) (totals h)
def headB (h : Hist) : ByteArray := sumB ((headers h).getLastD ByteArray.empty)
end Go.Proofs.Ytoadiibfmcjgaaa.Sg
