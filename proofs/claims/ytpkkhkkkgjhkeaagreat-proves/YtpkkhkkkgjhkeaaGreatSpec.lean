import Derived.Test.YtpkkhkkkgjhkeaaGreatTree
import Derived.Test.YtpkkhkkkgjhkeaaGreatMath
import Derived.Deep.RegionHeld3
import Derived.Deep.DrawnRows
import Derived.Laws.Pointers
import Derived.BigQuiet
import Derived.Deep.QuietTactic
/-
  PLAIN MATHEMATICS OF signet: histories, and how they are closed and sealed (P5, P6).
-/
namespace Go.Proofs.YtpkkhkkkgjhkeaaGreat.Sg

structure Acc where
  name : ByteArray
  line : Int
structure Pst where
  acct : Int
  amt : Int
structure Ent where
  memo : ByteArray
  posts : List Pst
structure Hist where
  accs : List Acc
  pers : List (List Ent)

/-- A number in so many bytes, ac a text. -/
def beB (n : Int) (k : Nat) : ByteArray := ⟨(beL n k).toArray⟩
theorem beB_size (n : Int) (k : Nat) : (beB n k).size = k := by
  show (beL n k).toArray.size = k
  rw [List.size_toArray, beL_length]

/-- A number of 64 bits. -/
def fits (v : Int) : Bool := decide (-9223372036854775808 ≤ v ∧ v ≤ 9223372036854775807)

/-! ### In bounds -/
def accOk (a : Acc) : Bool := decide (1 ≤ a.name.size ∧ a.name.size ≤ 12 ∧ 0 ≤ a.line ∧ a.line ≤ 3)
/-- The accounts are all right, and no name stands twice. -/
def accsOk : List Acc → Bool
  | [] => true
  | a :: r => accOk a && r.all (fun b => decide (b.name ≠ a.name)) && accsOk r
def entOk (e : Ent) : Bool := decide (e.memo.size ≤ 20 ∧ 1 ≤ e.posts.length ∧ e.posts.length ≤ 6)
def perOk (p : List Ent) : Bool := decide (p.length ≤ 12) && p.all entOk
def inBounds (h : Hist) : Bool := decide (1 ≤ h.accs.length ∧ h.accs.length ≤ 8 ∧ 1 ≤ h.pers.length ∧ h.pers.length ≤ 6) && accsOk h.accs && h.pers.all perOk

/-! ### Closing -/
def amtSum (ps : List Pst) : Int := ps.foldl (fun s p => s + p.amt) 0
def lineOf (ac : List Acc) (i : Int) : Int := (ac.map Acc.line).getD i.toNat 0
/-- An amount comes to a list of sums. -/
def comes (l : List Int) (i : Nat) (n : Int) : List Int := l.set i (l.getD i 0 + n)
def comesAll (ps : List Pst) (now : List Int) : List Int := ps.foldl (fun l p => comes l p.acct.toNat p.amt) now
def linesAll (ac : List Acc) (ps : List Pst) (tot : List Int) : List Int := ps.foldl (fun l p => comes l (lineOf ac p.acct).toNat p.amt) tot
/-- What is wrong with an entry; 0: nothing. -/
def entErr (n : Nat) (e : Ent) (now : List Int) : Int :=
  if e.posts.any (fun p => decide (p.acct < 0 ∨ (n : Int) ≤ p.acct)) then 2
  else if amtSum e.posts ≠ 0 then 3
  else if (comesAll e.posts now).any (fun v => !fits v) then 4 else 0
/-- Entries, one by one: the error, the balances, the totals. -/
def entsTo (ac : List Acc) : List Ent → List Int → List Int → Int × List Int × List Int
  | [], now, tot => (0, now, tot)
  | e :: r, now, tot => if entErr ac.length e now ≠ 0 then (entErr ac.length e now, now, tot) else entsTo ac r (comesAll e.posts now) (linesAll ac e.posts tot)
/-- Periods, one by one: the error, for each period the balances and the totals. -/
def persTo (ac : List Acc) : List (List Ent) → List Int → Int × List (List Int) × List (List Int)
  | [], _ => (0, [], [])
  | p :: r, now =>
    let x := entsTo ac p now [0, 0, 0, 0]
    if x.1 ≠ 0 then (x.1, [], [])
    else if x.2.2.any (fun v => !fits v) then (4, [], [])
    else let y := persTo ac r x.2.1; (y.1, x.2.1 :: y.2.1, x.2.2 :: y.2.2)
/-- What Seal answers of a history: the error. -/
def closeErr (h : Hist) : Int := if inBounds h then (persTo h.accs h.pers (List.replicate h.accs.length 0)).1 else 1
def balances (h : Hist) : List (List Int) := (persTo h.accs h.pers (List.replicate h.accs.length 0)).2.1
def totals (h : Hist) : List (List Int) := (persTo h.accs h.pers (List.replicate h.accs.length 0)).2.2

/-! ### The texts -/
def accText (out : ByteArray) (a : Acc) : ByteArray := out ++ beB a.name.size 1 ++ a.name ++ beB a.line 1
def chartB (ac : List Acc) : ByteArray := ac.foldl accText (beB ac.length 1)
def pstText (out : ByteArray) (p : Pst) : ByteArray := out ++ beB p.acct 1 ++ beB p.amt 8
def entB (e : Ent) : ByteArray := e.posts.foldl pstText (beB e.memo.size 1 ++ e.memo ++ beB e.posts.length 1)
def amountsB (l : List Int) : ByteArray := l.foldl (fun out x => out ++ beB x 8) ByteArray.empty
def perText (out : ByteArray) (p : List Ent) (b t : List Int) : ByteArray := p.foldl (fun o e => o ++ entB e) (out ++ beB p.length 1) ++ amountsB b ++ amountsB t
def persText : ByteArray → List (List Ent) → List (List Int) → List (List Int) → ByteArray
  | out, p :: r, b :: bs, t :: ts => persText (perText out p b t) r bs ts
  | out, _, _, _ => out
def signT : ByteArray := { data := #[83, 73, 71, 78] }
def headT : ByteArray := { data := #[72, 69, 65, 68] }
def packageB (h : Hist) : ByteArray := persText (signT ++ chartB h.accs ++ beB h.pers.length 1) h.pers (balances h) (totals h)

structure Drl where
  ent : Nat
  place : Nat
  acct : Int
  amt : Int
/-- The drills of a line among an entry's postings, from a place on. -/
def drillsIn (ac : List Acc) (line : Int) (i : Nat) : Nat → List Pst → List Drl
  | _, [] => []
  | j, p :: r => if lineOf ac p.acct = line then ⟨i, j, p.acct, p.amt⟩ :: drillsIn ac line i (j + 1) r else drillsIn ac line i (j + 1) r
def drillsFrom (ac : List Acc) (line : Int) : Nat → List Ent → List Drl
  | _, [] => []
  | i, e :: r => drillsIn ac line i 0 e.posts ++ drillsFrom ac line (i + 1) r
def drillsOf (ac : List Acc) (p : List Ent) (line : Int) : List Drl := drillsFrom ac line 0 p
def drlB (d : Drl) : ByteArray := beB d.ent 1 ++ beB d.place 1 ++ beB d.acct 1 ++ beB d.amt 8
def lineB (line total : Int) (ds : List Drl) : ByteArray := beB line 1 ++ beB total 8 ++ beB ds.length 2 ++ root (ds.map drlB)
def stmt (ac : List Acc) (p : List Ent) (t : List Int) : List ByteArray := (List.range 4).map fun (k : Nat) => lineB (k : Int) (t.getD k 0) (drillsOf ac p (k : Int))
def headerB (ac : List Acc) (i : Nat) (last : ByteArray) (p : List Ent) (b t : List Int) : ByteArray :=
  headT ++ beB i 1 ++ last ++ sumB (chartB ac) ++ beB p.length 1 ++ root (p.map entB) ++ root (stmt ac p t) ++ sumB (amountsB b)
def headersFrom (ac : List Acc) : Nat → ByteArray → List (List Ent) → List (List Int) → List (List Int) → List ByteArray
  | i, last, p :: r, b :: bs, t :: ts => headerB ac i last p b t :: headersFrom ac (i + 1) (sumB (headerB ac i last p b t)) r bs ts
  | _, _, _, _, _ => []
def headers (h : Hist) : List ByteArray := headersFrom h.accs 0 { data := #[0, 0] } h.pers (balances h) (totals h)
def headB (h : Hist) : ByteArray := sumB ((headers h).getLastD ByteArray.empty)
end Go.Proofs.YtpkkhkkkgjhkeaaGreat.Sg

/-
  THE WALKS of signetref.Wide: whole numbers by two.
-/
namespace Go.Proofs.YtpkkhkkkgjhkeaaGreat
open Go.RowKit
set_option maxRecDepth 100000

/-- A whole number, as the reference holds it. -/
def wHi (v : Int) : Int := v / 4294967296
def wLo (v : Int) : Int := v % 4294967296
/-- What is far from the ends. -/
def Tame (v : Int) : Prop := -1208925819614629174706176 ≤ v ∧ v ≤ 1208925819614629174706176

theorem add_low (l n : Int) (hl : 0 ≤ l ∧ l < 4294967296) : wrap64 (l + wrap64 ((IntKind.u64.wrap n).tmod 4294967296)) = l + n % 4294967296 := by
  have e0 : IntKind.u64.wrap n = n % 18446744073709551616 := by simp [IntKind.wrap, IntKind.bits, IntKind.signed]
  have e1 : (n % 18446744073709551616).tmod 4294967296 = n % 4294967296 := by
    rw [Int.tmod_eq_emod_of_nonneg (by omega)]; omega
  rw [e0, e1]
  unfold wrap64
  omega
theorem add_hi (h l n : Int) (hh : -281474976710656 ≤ h ∧ h ≤ 281474976710656) (hl : 0 ≤ l ∧ l < 4294967296) (hn : -9223372036854775808 ≤ n ∧ n ≤ 9223372036854775807) :
    wrap64 (h + n / 4294967296 + wrap64 ((wrap64 (l + wrap64 ((IntKind.u64.wrap n).tmod 4294967296))).tdiv 4294967296)) = h + n / 4294967296 + (l + n % 4294967296) / 4294967296 := by
  rw [add_low l n hl, Int.tdiv_eq_ediv_of_nonneg (by omega)]
  unfold wrap64
  omega
theorem add_lo (l n : Int) (hl : 0 ≤ l ∧ l < 4294967296) : (wrap64 (l + wrap64 ((IntKind.u64.wrap n).tmod 4294967296))).tmod 4294967296 = (l + n % 4294967296) % 4294967296 := by
  rw [add_low l n hl, Int.tmod_eq_emod_of_nonneg (by omega)]

set_option maxHeartbeats 800000 in
theorem wideAdd_raw (h l n : Int) (w : World) (hh : -281474976710656 ≤ h ∧ h ≤ 281474976710656) (hl : 0 ≤ l ∧ l < 4294967296) (hn : -9223372036854775808 ≤ n ∧ n ≤ 9223372036854775807) :
    Calls Tryz.prog 42 #[.agg #[.int .i64 h, .int .i64 l], .int .i64 n] w fun e w' => e = .returned (.agg #[.int .i64 (h + n / 4294967296 + (l + n % 4294967296) / 4294967296), .int .i64 ((l + n % 4294967296) % 4294967296)]) ∧ Below w.heap.size w w' := by
  have E1 : Hid (wrap64 (h + n / 4294967296 + wrap64 ((wrap64 (l + wrap64 ((IntKind.u64.wrap n).tmod 4294967296))).tdiv 4294967296)) = h + n / 4294967296 + (l + n % 4294967296) / 4294967296) := add_hi h l n hh hl hn
  have E2 : Hid ((wrap64 (l + wrap64 ((IntKind.u64.wrap n).tmod 4294967296))).tmod 4294967296 = (l + n % 4294967296) % 4294967296) := add_lo l n hl
  obtain ⟨hh1, hh2⟩ := hh
  obtain ⟨hl1, hl2⟩ := hl
  obtain ⟨hn1, hn2⟩ := hn
  go_enter Tryz.func42, Tryz.ntmps42
  go_wp2_with fail
  refine bodyPost_ret (v := .agg #[.int .i64 (wrap64 (h + n / 4294967296 + wrap64 ((wrap64 (l + wrap64 ((IntKind.u64.wrap n).tmod 4294967296))).tdiv 4294967296))), .int .i64 ((wrap64 (l + wrap64 ((IntKind.u64.wrap n).tmod 4294967296))).tmod 4294967296)]) (by simp [results, Tryz.results42, go_sem]) rfl ⟨?_, ((Below.refl _ _).alloc (Nat.le_refl _) _).alloc (by simp) _⟩
  rw [E1.out, E2.out]

/-- Wide.Add: a whole number and an amount. -/
theorem wideAdd_any (v n : Int) (w : World) (hv : Tame v) (hn : -9223372036854775808 ≤ n ∧ n ≤ 9223372036854775807) :
    Calls Tryz.prog 42 #[.agg #[.int .i64 (wHi v), .int .i64 (wLo v)], .int .i64 n] w fun e w' => e = .returned (.agg #[.int .i64 (wHi (v + n)), .int .i64 (wLo (v + n))]) ∧ Below w.heap.size w w' := by
  obtain ⟨h1, h2⟩ := hv
  have e1 : wHi v + n / 4294967296 + (wLo v + n % 4294967296) / 4294967296 = wHi (v + n) := by unfold wHi wLo; omega
  have e2 : (wLo v + n % 4294967296) % 4294967296 = wLo (v + n) := by unfold wLo; omega
  have := wideAdd_raw (wHi v) (wLo v) n w (by unfold wHi; omega) (by unfold wLo; omega) hn
  rw [e1, e2] at this
  exact this

theorem ret_bool' {a b : Bool} (h : a = b) : Ending.returned (.bool a) = .returned (.bool b) := by rw [h]
set_option maxHeartbeats 800000 in
/-- Wide.Fits. -/
theorem wideFits_any (v : Int) (w : World) :
    Calls Tryz.prog 43 #[.agg #[.int .i64 (wHi v), .int .i64 (wLo v)]] w fun e w' => e = .returned (.bool (Sg.fits v)) ∧ Below w.heap.size w w' := by
  have HF : Hid (Sg.fits v = (decide (-2147483648 ≤ wHi v) && decide (wHi v < 2147483648))) := by
    show _ = _
    unfold Sg.fits wHi
    rw [Bool.eq_iff_iff]; simp; omega
  generalize wHi v = h at *
  generalize wLo v = l at *
  by_cases h1 : -2147483648 ≤ h
  · by_cases h2 : h < 2147483648
    · go_enter Tryz.func43, Tryz.ntmps43
      go_wp2_with fail
      go_ret
      exact ⟨ret_bool' (by rw [HF.out]; simp [h1, h2]), (Below.refl _ _).alloc (Nat.le_refl _) _⟩
    · go_enter Tryz.func43, Tryz.ntmps43
      go_wp2_with fail
      go_ret
      exact ⟨ret_bool' (by rw [HF.out]; simp; omega), (Below.refl _ _).alloc (Nat.le_refl _) _⟩
  · go_enter Tryz.func43, Tryz.ntmps43
    go_wp2_with fail
    go_ret
    exact ⟨ret_bool' (by rw [HF.out]; simp; omega), (Below.refl _ _).alloc (Nat.le_refl _) _⟩

theorem ret_num {a b : Int} (h : a = b) : Ending.returned (.int .i64 a) = .returned (.int .i64 b) := by rw [h]
set_option maxHeartbeats 800000 in
/-- Wide.Int, of what fits. -/
theorem wideInt_any (v : Int) (w : World) (hv : Sg.fits v = true) :
    Calls Tryz.prog 44 #[.agg #[.int .i64 (wHi v), .int .i64 (wLo v)]] w fun e w' => e = .returned (.int .i64 v) ∧ Below w.heap.size w w' := by
  have hb : -9223372036854775808 ≤ v ∧ v ≤ 9223372036854775807 := of_decide_eq_true hv
  clear hv
  have e1 : Hid (wHi v * 4294967296 + wLo v = v) := by show _ = _; unfold wHi wLo; omega
  have b1 : -2147483648 ≤ wHi v ∧ wHi v < 2147483648 := by unfold wHi; omega
  have b2 : 0 ≤ wLo v ∧ wLo v < 4294967296 := by unfold wLo; omega
  generalize wHi v = h at *
  generalize wLo v = l at *
  obtain ⟨b11, b12⟩ := b1
  obtain ⟨b21, b22⟩ := b2
  clear hb
  go_enter Tryz.func44, Tryz.ntmps44
  go_wp2_with fail
  go_ret
  exact ⟨ret_num e1.out, (Below.refl _ _).alloc (Nat.le_refl _) _⟩
end Go.Proofs.YtpkkhkkkgjhkeaaGreat

/-
  THE WALK of signetref.amounts.
-/
namespace Go.Proofs.YtpkkhkkkgjhkeaaGreat
open Go.RowKit
set_option maxRecDepth 100000

/-- The cells of a slice of numbers. -/
def IntsAt (w : World) (b off : Nat) (l : List Int) : Prop := ∀ i, i < l.length → w.cell? ⟨b, off + i, none⟩ = some (.int .i64 (l.getD i 0))
def IntsIn (w : World) (ao : Option Addr) (l : List Int) : Prop := l.length = 0 ∨ ∃ b off, ao = some ⟨b, off, none⟩ ∧ b < w.heap.size ∧ IntsAt w b off l
theorem IntsAt.below {w w' : World} {B b off : Nat} {l : List Int} (h : IntsAt w b off l) (hb : Below B w w') (hlt : b < B) : IntsAt w' b off l := fun i hi => by
  rw [hb.cell (p := ⟨b, off + i, none⟩) hlt]; exact h i hi
theorem IntsIn.below {w w' : World} {ao : Option Addr} {l : List Int} (h : IntsIn w ao l) (hb : Below w.heap.size w w') : IntsIn w' ao l := by
  rcases h with h0 | ⟨b, off, e, hbw, hat⟩
  · exact Or.inl h0
  · exact Or.inr ⟨b, off, e, Nat.lt_of_lt_of_le hbw hb.size, hat.below hb hbw⟩
theorem IntsIn.cell {w : World} {ao : Option Addr} {l : List Int} (h : IntsIn w ao l) {k : Nat} (hk : k < l.length) : ∃ b off, ao = some ⟨b, off, none⟩ ∧ w.cell? ⟨b, off + k, none⟩ = some (.int .i64 (l.getD k 0)) := by
  rcases h with h0 | ⟨b, off, e, _, hat⟩
  · omega
  · exact ⟨b, off, e, hat k hk⟩

namespace Sg
theorem amountsB_snoc (l : List Int) (x : Int) : amountsB (l ++ [x]) = amountsB l ++ beB x 8 := by
  unfold amountsB; rw [List.foldl_append]; rfl
theorem amountsB_size (l : List Int) : (amountsB l).size = 8 * l.length := by
  suffices h : ∀ (o : ByteArray), (l.foldl (fun out x => out ++ beB x 8) o).size = o.size + 8 * l.length by
    have := h ByteArray.empty; simpa [amountsB] using this
  induction l with
  | nil => intro o; rfl
  | cons x l ih => intro o; simp only [List.foldl_cons, List.length_cons]; rw [ih, ByteArray.size_append, beB_size]; omega
theorem take_snoc {α : Type} (l : List α) (k : Nat) (d : α) (h : k < l.length) : l.take (k + 1) = l.take k ++ [l.getD k d] := by
  rw [List.take_succ_eq_append_getElem h]
  simp [List.getD, h]
end Sg

theorem ret_str2 {a b : ByteArray} (h : a = b) : Ending.returned (.string a) = .returned (.string b) := by rw [h]

set_option maxHeartbeats 800000 in
/-- signetref.amounts. -/
theorem amounts_any (l : List Int) (ao : Option Addr) (n cap : Nat) (w : World) (hn : l.length = n) (hmax : n ≤ 4096) (hl : IntsIn w ao l) (hf : ∀ x ∈ l, Sg.fits x = true) :
    Calls Tryz.prog 47 #[.slice ao n cap] w fun e w' => e = .returned (.string (Sg.amountsB l)) ∧ Below w.heap.size w w' := by
  have HN : Hid (l.length = n) := hn
  clear hn
  go_enter Tryz.func47, Tryz.ntmps47
  go_wp2_with fail
  go_loopw [3, 4] (fun o i wr => ∃ k : Nat, k ≤ n ∧ i = .int .i64 (k : Int) ∧ o = .string (Sg.amountsB (l.take k)) ∧ Below w.heap.size w wr) (fun _ i _ => n - (intOf i).toNat)
  case atStart => exact ⟨0, by omega, rfl, rfl, Below.refl _ _⟩
  case round =>
    obtain ⟨k, hk, rfl, rfl, hbel⟩ := hrel
    by_cases hlt : k < n
    · obtain ⟨b, off, rfl, hc⟩ := (hl.below hbel).cell (k := k) (by rw [HN.out]; exact hlt)
      have hx : Sg.fits (l.getD k 0) = true := hf _ (by rw [List.getD_eq_getElem?_getD, List.getElem?_eq_getElem (by rw [HN.out]; exact hlt)]; simp)
      have HS : Hid (Sg.amountsB (l.take (k + 1)) = Sg.amountsB (l.take k) ++ Sg.beB (l.getD k 0) 8) := by
        show _ = _
        rw [Sg.take_snoc l k 0 (by rw [HN.out]; exact hlt), Sg.amountsB_snoc]
      have hsz : (Sg.amountsB (l.take k)).size ≤ 8 * n := by rw [Sg.amountsB_size]; simp; omega
      have hfx : -9223372036854775808 ≤ l.getD k 0 ∧ l.getD k 0 ≤ 9223372036854775807 := of_decide_eq_true hx
      generalize l.getD k 0 = x at *
      generalize Sg.amountsB (l.take k) = o at *
      clear hl hf hx
      go_wp2_with fail
      refine (refBytes_any x 8 _ hfx (by decide) (by decide)).mono ?_
      rintro e w1 ⟨rfl, hb1⟩
      have hb2 := hbel.trans (hb1.mono hbel.size)
      have hbs : (Sg.beB x 8).size ≤ 8 := by rw [Sg.beB_size]; exact Nat.le_refl _
      have HB : Hid (Sg.beB x 8 = { data := (Sg.beL x 8).toArray }) := rfl
      rw [← HB.out]
      generalize Sg.beB x 8 = y at *
      go_wp2_with fail
      go_roundw
      case rel => exact ⟨k + 1, by omega, by go_num, by rw [HS.out], hb2⟩
      case measure => simp [intOf]; omega
    · go_wp2_with fail
      go_ret
      exact ⟨ret_str2 (by rw [List.take_of_length_le (by rw [HN.out]; omega)]), hbel⟩
end Go.Proofs.YtpkkhkkkgjhkeaaGreat

/-
  THE WALKS of signetref.chart, entry: and how a history lies in memory.
-/
namespace Go.Proofs.YtpkkhkkkgjhkeaaGreat
open Go.RowKit
set_option maxRecDepth 100000
attribute [local go_sem ↓] Go.wp_at_zero Go.wp_at_succ

/-- signetref.bytes, the text under a name of its own. -/
theorem bytes_txt (n : Int) (size : Nat) (w : World) (hn : -9223372036854775808 ≤ n ∧ n ≤ 9223372036854775807) (hs : size ≤ 8) (h1 : 1 ≤ size) :
    Calls Tryz.prog 29 #[.int .i64 n, .int .i64 (size : Int)] w fun e w' => ∃ y : ByteArray, e = .returned (.string y) ∧ Hid (y = Sg.beB n size) ∧ y.size ≤ 8 ∧ Below w.heap.size w w' := by
  refine (refBytes_any n size w hn hs h1).mono ?_
  rintro e w' ⟨rfl, hb⟩
  exact ⟨_, rfl, rfl, by show (Sg.beB n size).size ≤ 8; rw [Sg.beB_size]; exact hs, hb⟩

/-- Two texts behind each other. -/
theorem cat (a b : ByteArray) (h : a.size + b.size ≤ 4611686018427387904) : ∀ W : World, (Op.stringOp .add a b).run Tryz.prog W = .ok (.string (a ++ b)) W := fun W => run_string_add_sum W a b (by omega)
theorem cat_size (a b : ByteArray) : (a ++ b).size = a.size + b.size := ByteArray.size_append

/-- What came behind w, one block and more later. -/
def Past (w W : World) : Prop := w.heap.size < W.heap.size ∧ Below w.heap.size w W
theorem Past.below {w W : World} (h : Past w W) : Below w.heap.size w W := h.2
theorem past_new {w : World} {x y : Value} {t : TypeId} : (w.alloc (.cells #[x, y] t)).cell? ⟨w.heap.size, 0, none⟩ = some x ∧ (w.alloc (.cells #[x, y] t)).cell? ⟨w.heap.size, 1, none⟩ = some y ∧ Past w (w.alloc (.cells #[x, y] t)) :=
  ⟨by simp, by simp, by simp, (Below.refl _ _).alloc (Nat.le_refl _) _⟩
theorem past_drew {w W : World} {x y : Value} (h : W.cell? ⟨w.heap.size, 0, none⟩ = some x ∧ W.cell? ⟨w.heap.size, 1, none⟩ = some y ∧ Past w W) :
    W.drew.cell? ⟨w.heap.size, 0, none⟩ = some x ∧ W.drew.cell? ⟨w.heap.size, 1, none⟩ = some y ∧ Past w W.drew :=
  ⟨by simpa using h.1, by simpa using h.2.1, by simpa using h.2.2.1, h.2.2.2.drew⟩
theorem past_call {w W w' : World} {x y : Value} (h : W.cell? ⟨w.heap.size, 0, none⟩ = some x ∧ W.cell? ⟨w.heap.size, 1, none⟩ = some y ∧ Past w W) (hb : Below W.heap.size W w') :
    w'.cell? ⟨w.heap.size, 0, none⟩ = some x ∧ w'.cell? ⟨w.heap.size, 1, none⟩ = some y ∧ Past w w' :=
  ⟨(hb.cell (p := ⟨w.heap.size, 0, none⟩) h.2.2.1).trans h.1, (hb.cell (p := ⟨w.heap.size, 1, none⟩) h.2.2.1).trans h.2.1, by have := h.2.2.1; have := hb.size; omega, h.2.2.2.trans (hb.mono (by have := h.2.2.1; omega))⟩

/-- The cells of a slice of accounts. -/
def AccsAt (w : World) (b off : Nat) (ac : List Sg.Acc) : Prop := ∀ i (h : i < ac.length), w.cell? ⟨b, off + i * 2, none⟩ = some (.string ac[i].name) ∧ w.cell? ⟨b, off + i * 2 + 1, none⟩ = some (.int .i64 ac[i].line)
def AccsIn (w : World) (ao : Option Addr) (ac : List Sg.Acc) : Prop := ac.length = 0 ∨ ∃ b off, ao = some ⟨b, off, none⟩ ∧ b < w.heap.size ∧ AccsAt w b off ac
theorem AccsIn.below {w w' : World} {ao : Option Addr} {ac : List Sg.Acc} (h : AccsIn w ao ac) (hb : Below w.heap.size w w') : AccsIn w' ao ac := by
  rcases h with h0 | ⟨b, off, e, hbw, hat⟩
  · exact Or.inl h0
  · refine Or.inr ⟨b, off, e, Nat.lt_of_lt_of_le hbw hb.size, fun i hi => ?_⟩
    rw [hb.cell (p := ⟨b, off + i * 2, none⟩) hbw, hb.cell (p := ⟨b, off + i * 2 + 1, none⟩) hbw]
    exact hat i hi
theorem AccsIn.cell {w : World} {ao : Option Addr} {ac : List Sg.Acc} (h : AccsIn w ao ac) {k : Nat} (hk : k < ac.length) : ∃ b off, ao = some ⟨b, off, none⟩ ∧ b < w.heap.size ∧ w.cell? ⟨b, off + k * 2, none⟩ = some (.string ac[k].name) ∧ w.cell? ⟨b, off + k * 2 + 1, none⟩ = some (.int .i64 ac[k].line) := by
  rcases h with h0 | ⟨b, off, e, hbw, hat⟩
  · omega
  · exact ⟨b, off, e, hbw, (hat k hk).1, (hat k hk).2⟩

namespace Sg
theorem accText_size (o : ByteArray) (a : Acc) : (accText o a).size = o.size + a.name.size + 2 := by
  unfold accText; rw [ByteArray.size_append, ByteArray.size_append, ByteArray.size_append, beB_size, beB_size]; omega
/-- The chart's text so far. -/
def chartTo (ac : List Acc) (k : Nat) : ByteArray := (ac.take k).foldl accText (beB ac.length 1)
theorem chartTo_succ (ac : List Acc) (k : Nat) (h : k < ac.length) : chartTo ac (k + 1) = accText (chartTo ac k) ac[k] := by
  unfold chartTo; rw [List.take_succ_eq_append_getElem h, List.foldl_append]; rfl
theorem chartTo_size (ac : List Acc) (hok : ∀ a ∈ ac, a.name.size ≤ 12) : ∀ k, k ≤ ac.length → (chartTo ac k).size ≤ 1 + 14 * k
  | 0, _ => by unfold chartTo; simp [beB_size]
  | k + 1, h => by
    rw [chartTo_succ ac k (by omega), accText_size]
    have := chartTo_size ac hok k (by omega)
    have := hok ac[k] (List.getElem_mem _)
    omega
theorem chartTo_all (ac : List Acc) : chartTo ac ac.length = chartB ac := by unfold chartTo chartB; rw [List.take_length]
theorem chartB_size (ac : List Acc) (hok : ∀ a ∈ ac, a.name.size ≤ 12) : (chartB ac).size ≤ 1 + 14 * ac.length := by
  rw [← chartTo_all]; exact chartTo_size ac hok _ (Nat.le_refl _)
end Sg

set_option maxHeartbeats 1600000 in
/-- signetref.chart. -/
theorem chart_any (ac : List Sg.Acc) (ao aoP : Option Addr) (n cap nP capP : Nat) (w : World) (hn : ac.length = n) (hmax : n ≤ 8) (hok : ∀ a ∈ ac, a.name.size ≤ 12 ∧ 0 ≤ a.line ∧ a.line ≤ 3) (hl : AccsIn w ao ac) :
    Calls Tryz.prog 45 #[.agg #[.slice ao n cap, .slice aoP nP capP]] w fun e w' => e = .returned (.string (Sg.chartB ac)) ∧ Below w.heap.size w w' := by
  have HN : Hid (ac.length = n) := hn
  clear hn
  go_enter Tryz.func45, Tryz.ntmps45
  go_wp2_with fail
  refine (bytes_txt (n : Int) 1 _ (by omega) (by decide) (by decide)).mono ?_
  rintro e w1 ⟨y0, rfl, hy0, hys0, hb1⟩
  have hp := past_call (past_new (w := w) (x := .slice ao n cap) (y := .slice aoP nP capP) (t := 36)) hb1
  clear hb1
  have H0 : Hid (y0 = Sg.chartTo ac 0) := by show _ = _; rw [hy0.out]; unfold Sg.chartTo; rw [HN.out]; rfl
  go_wp2_with fail
  go_loopw [3, 4] (fun o i wr => ∃ k : Nat, k ≤ n ∧ i = .int .i64 (k : Int) ∧ (∃ oo, o = .string oo ∧ Hid (oo = Sg.chartTo ac k)) ∧ (wr.cell? ⟨w.heap.size, 0, none⟩ = some (.slice ao n cap) ∧ wr.cell? ⟨w.heap.size, 1, none⟩ = some (.slice aoP nP capP) ∧ Past w wr)) (fun _ i _ => n - (intOf i).toNat)
  case atStart => exact ⟨0, by omega, rfl, ⟨_, rfl, H0⟩, hp⟩
  case round =>
    obtain ⟨k, hk, rfl, ⟨oo, rfl, hoo⟩, hpr⟩ := hrel
    have hbx := hpr.1
    by_cases hlt : k < n
    · obtain ⟨b, off, rfl, hbw, hc0, hc1⟩ := (hl.below hpr.2.2.below).cell (k := k) (by rw [HN.out]; exact hlt)
      have hka : k < ac.length := by rw [HN.out]; exact hlt
      obtain ⟨hx1, hx2, hx3⟩ := hok ac[k] (List.getElem_mem _)
      have HS : Hid (Sg.chartTo ac (k + 1) = oo ++ Sg.beB ac[k].name.size 1 ++ ac[k].name ++ Sg.beB ac[k].line 1) := by
        show _ = _
        rw [Sg.chartTo_succ ac k hka, ← hoo.out]; rfl
      have hoz : oo.size ≤ 200 := by
        rw [hoo.out]
        have := Sg.chartTo_size ac (fun a ha => (hok a ha).1) k (by omega)
        omega
      obtain ⟨x, ln, hax⟩ : ∃ x ln, ac[k] = ⟨x, ln⟩ := ⟨ac[k].name, ac[k].line, rfl⟩
      rw [hax] at hc0 hc1 hx1 hx2 hx3 HS
      simp only at hc0 hc1 hx1 hx2 hx3
      clear hax hka hl hok hoo H0 hy0 hp
      go_wp2_with fail
      go_region_held3 (fun w' => w'.cell? ⟨wr.heap.size, 0, none⟩ = some (.string x) ∧ w'.cell? ⟨wr.heap.size, 1, none⟩ = some (.int .i64 ln) ∧ Past wr w') (first | assumption | exact past_new | exact past_drew past_new | exact past_drew (w := wr) (x := .string x) (y := .int .i64 ln) (by assumption))
        (first
          | (go_at_call_of 29 (Value.int IntKind.i64 ln); refine (bytes_txt ln 1 _ (by omega) (by decide) (by decide)).mono ?_; rintro e w3 ⟨y2, rfl, hy2, hys2, hb3⟩; have q3 := cat (oo ++ y1 ++ x) y2 (by rw [cat_size, cat_size]; omega); have hh3 := past_call (w := wr) (x := .string x) (y := .int .i64 ln) (by assumption) hb3)
          | (go_at_call 29; refine (bytes_txt (x.size : Int) 1 _ (by omega) (by decide) (by decide)).mono ?_; rintro e w2 ⟨y1, rfl, hy1, hys1, hb2⟩; have q1 := cat oo y1 (by omega); have q2 := cat (oo ++ y1) x (by rw [cat_size]; omega); have hh2 := past_call (w := wr) (x := .string x) (y := .int .i64 ln) (by assumption) hb2))
      have hpr3 := past_call hpr hh3.2.2.below
      have HE : Hid (Sg.chartTo ac (k + 1) = oo ++ y1 ++ x ++ y2) := by show _ = _; rw [HS.out, hy1.out, hy2.out]
      clear hh2 hh3 hpr q1 q2 q3 HS hy1 hy2 hb2 hb3
      go_wp2_with fail
      go_roundw
      case rel => exact ⟨k + 1, by omega, by go_num, ⟨_, rfl, HE.out.symm⟩, hpr3⟩
      case measure => simp [intOf]; omega
    · go_wp2_with fail
      go_ret
      refine ⟨ret_str2 ?_, hpr.2.2.below⟩
      rw [hoo.out, show k = ac.length by rw [HN.out]; omega, Sg.chartTo_all]

/-- The cells of a slice of postings. -/
def PstsAt (w : World) (b off : Nat) (ps : List Sg.Pst) : Prop := ∀ i (h : i < ps.length), w.cell? ⟨b, off + i * 2, none⟩ = some (.int .i64 ps[i].acct) ∧ w.cell? ⟨b, off + i * 2 + 1, none⟩ = some (.int .i64 ps[i].amt)
def PstsIn (w : World) (ao : Option Addr) (ps : List Sg.Pst) : Prop := ps.length = 0 ∨ ∃ b off, ao = some ⟨b, off, none⟩ ∧ b < w.heap.size ∧ PstsAt w b off ps
theorem PstsIn.below {w w' : World} {ao : Option Addr} {ps : List Sg.Pst} (h : PstsIn w ao ps) (hb : Below w.heap.size w w') : PstsIn w' ao ps := by
  rcases h with h0 | ⟨b, off, e, hbw, hat⟩
  · exact Or.inl h0
  · refine Or.inr ⟨b, off, e, Nat.lt_of_lt_of_le hbw hb.size, fun i hi => ?_⟩
    rw [hb.cell (p := ⟨b, off + i * 2, none⟩) hbw, hb.cell (p := ⟨b, off + i * 2 + 1, none⟩) hbw]
    exact hat i hi
theorem PstsIn.cell {w : World} {ao : Option Addr} {ps : List Sg.Pst} (h : PstsIn w ao ps) {k : Nat} (hk : k < ps.length) : ∃ b off, ao = some ⟨b, off, none⟩ ∧ b < w.heap.size ∧ w.cell? ⟨b, off + k * 2, none⟩ = some (.int .i64 ps[k].acct) ∧ w.cell? ⟨b, off + k * 2 + 1, none⟩ = some (.int .i64 ps[k].amt) := by
  rcases h with h0 | ⟨b, off, e, hbw, hat⟩
  · omega
  · exact ⟨b, off, e, hbw, (hat k hk).1, (hat k hk).2⟩

namespace Sg
theorem pstText_size (o : ByteArray) (p : Pst) : (pstText o p).size = o.size + 9 := by
  unfold pstText; rw [ByteArray.size_append, ByteArray.size_append, beB_size, beB_size]
/-- An entry's text so far. -/
def entTo (e : Ent) (k : Nat) : ByteArray := (e.posts.take k).foldl pstText (beB e.memo.size 1 ++ e.memo ++ beB e.posts.length 1)
theorem entTo_succ (e : Ent) (k : Nat) (h : k < e.posts.length) : entTo e (k + 1) = pstText (entTo e k) e.posts[k] := by
  unfold entTo; rw [List.take_succ_eq_append_getElem h, List.foldl_append]; rfl
theorem entTo_size (e : Ent) : ∀ k, k ≤ e.posts.length → (entTo e k).size = 2 + e.memo.size + 9 * k
  | 0, _ => by unfold entTo; simp only [List.take_zero, List.foldl_nil]; rw [ByteArray.size_append, ByteArray.size_append, beB_size, beB_size]; omega
  | k + 1, h => by rw [entTo_succ e k (by omega), pstText_size, entTo_size e k (by omega)]; omega
theorem entTo_all (e : Ent) : entTo e e.posts.length = entB e := by unfold entTo entB; rw [List.take_length]
theorem entB_size (e : Ent) : (entB e).size = 2 + e.memo.size + 9 * e.posts.length := by rw [← entTo_all, entTo_size e _ (Nat.le_refl _)]
end Sg

theorem still2 {w W w' : World} {b o1 o2 : Nat} {x y v1 v2 : Value} (h : W.cell? ⟨w.heap.size, 0, none⟩ = some x ∧ W.cell? ⟨w.heap.size, 1, none⟩ = some y ∧ Past w W) (hbw : b < W.heap.size) (h1 : W.cell? ⟨b, o1, none⟩ = some v1) (h2 : W.cell? ⟨b, o2, none⟩ = some v2) (hb : Below W.heap.size W w') :
    w'.cell? ⟨w.heap.size, 1, none⟩ = some y ∧ w'.cell? ⟨b, o1, none⟩ = some v1 ∧ w'.cell? ⟨b, o2, none⟩ = some v2 ∧ Below W.heap.size W w' :=
  ⟨(past_call h hb).2.1, (hb.cell (p := ⟨b, o1, none⟩) hbw).trans h1, (hb.cell (p := ⟨b, o2, none⟩) hbw).trans h2, hb⟩

set_option maxHeartbeats 1600000 in
/-- signetref.entry. -/
theorem entry_any (x : ByteArray) (ps : List Sg.Pst) (ao : Option Addr) (n cap : Nat) (w : World) (hn : ps.length = n) (hmax : n ≤ 6) (hx : x.size ≤ 20) (hok : ∀ p ∈ ps, Sg.fits p.acct = true ∧ Sg.fits p.amt = true) (hl : PstsIn w ao ps) :
    Calls Tryz.prog 46 #[.agg #[.string x, .slice ao n cap]] w fun e w' => e = .returned (.string (Sg.entB ⟨x, ps⟩)) ∧ Below w.heap.size w w' := by
  have HN : Hid (ps.length = n) := hn
  clear hn
  go_enter Tryz.func46, Tryz.ntmps46
  go_wp2_with fail
  go_region_held3 (fun w' => w'.cell? ⟨w.heap.size, 0, none⟩ = some (.string x) ∧ w'.cell? ⟨w.heap.size, 1, none⟩ = some (.slice ao n cap) ∧ Past w w') (first | assumption | exact past_new | exact past_drew past_new | exact past_drew (w := w) (x := .string x) (y := .slice ao n cap) (by assumption))
    (first
      | (go_at_call_of 29 (Value.int IntKind.i64 (n : Int)); refine (bytes_txt (n : Int) 1 _ (by omega) (by decide) (by decide)).mono ?_; rintro e w3 ⟨y2, rfl, hy2, hys2, hb3⟩; have q3 := cat (y1 ++ x) y2 (by rw [cat_size]; omega); have hh3 := past_call (w := w) (x := .string x) (y := .slice ao n cap) (by assumption) hb3)
      | (go_at_call 29; refine (bytes_txt (x.size : Int) 1 _ (by omega) (by decide) (by decide)).mono ?_; rintro e w2 ⟨y1, rfl, hy1, hys1, hb2⟩; have q2 := cat y1 x (by omega); have hh2 := past_call (w := w) (x := .string x) (y := .slice ao n cap) (by assumption) hb2))
  have H0 : Hid (y1 ++ x ++ y2 = Sg.entTo ⟨x, ps⟩ 0) := by show _ = _; rw [hy1.out, hy2.out]; unfold Sg.entTo; rw [HN.out]; rfl
  generalize y1 ++ x ++ y2 = y0 at *
  clear hy1 hy2 hys1 hys2 q2 q3 hb2 hb3 hh2
  go_wp2_with fail
  go_loopw [3, 4] (fun o i wr => ∃ k : Nat, k ≤ n ∧ i = .int .i64 (k : Int) ∧ (∃ oo, o = .string oo ∧ Hid (oo = Sg.entTo ⟨x, ps⟩ k)) ∧ (wr.cell? ⟨w.heap.size, 0, none⟩ = some (.string x) ∧ wr.cell? ⟨w.heap.size, 1, none⟩ = some (.slice ao n cap) ∧ Past w wr)) (fun _ i _ => n - (intOf i).toNat)
  case atStart => exact ⟨0, by omega, rfl, ⟨_, rfl, H0⟩, hh3⟩
  case round =>
    obtain ⟨k, hk, rfl, ⟨oo, rfl, hoo⟩, hpr⟩ := hrel
    have hbx := hpr.2.1
    by_cases hlt : k < n
    · have hka : k < ps.length := by rw [HN.out]; exact hlt
      obtain ⟨b, off, rfl, hbw, hc0, hc1⟩ := (hl.below hpr.2.2.below).cell (k := k) hka
      obtain ⟨hx1, hx2⟩ := hok ps[k] (List.getElem_mem _)
      have HS : Hid (Sg.entTo ⟨x, ps⟩ (k + 1) = oo ++ Sg.beB ps[k].acct 1 ++ Sg.beB ps[k].amt 8) := by
        show _ = _
        rw [Sg.entTo_succ ⟨x, ps⟩ k hka, ← hoo.out]; rfl
      have hoz : oo.size ≤ 200 := by
        rw [hoo.out, Sg.entTo_size ⟨x, ps⟩ k (by show k ≤ ps.length; omega)]
        show 2 + x.size + 9 * k ≤ 200
        omega
      obtain ⟨a, m, ham⟩ : ∃ a m, ps[k] = ⟨a, m⟩ := ⟨ps[k].acct, ps[k].amt, rfl⟩
      rw [ham] at hc0 hc1 hx1 hx2 HS
      simp only at hc0 hc1
      have hfa : -9223372036854775808 ≤ a ∧ a ≤ 9223372036854775807 := of_decide_eq_true hx1
      have hfm : -9223372036854775808 ≤ m ∧ m ≤ 9223372036854775807 := of_decide_eq_true hx2
      have i1 : (0 : Int) ≤ (k : Int) := by omega
      have i2 : (k : Int) < (n : Int) := by omega
      clear ham hka hl hok hoo H0 hx1 hx2 hh3
      go_wp2_with fail
      go_region_held3 (fun w' => w'.cell? ⟨w.heap.size, 1, none⟩ = some (.slice (some ⟨b, off, none⟩) n cap) ∧ w'.cell? ⟨b, off + k * 2, none⟩ = some (.int .i64 a) ∧ w'.cell? ⟨b, off + k * 2 + 1, none⟩ = some (.int .i64 m) ∧ Below wr.heap.size wr w') (first | assumption | exact still2 hpr hbw hc0 hc1 (Below.refl _ _) | exact still2 hpr hbw hc0 hc1 (Below.refl _ _).drew)
        (first
          | (go_at_call_of 29 (Value.int IntKind.i64 1); refine (bytes_txt a 1 _ hfa (by decide) (by decide)).mono ?_; rintro e w2 ⟨y1, rfl, hy1, hys1, hb2⟩; have q1 := cat oo y1 (by omega); have hh2 := still2 hpr hbw hc0 hc1 (((Below.refl wr.heap.size wr).drew).trans hb2))
          | (go_at_call 29; refine (bytes_txt m 8 _ hfm (by decide) (by decide)).mono ?_; rintro e w3 ⟨y2, rfl, hy2, hys2, hb3⟩; have q2 := cat (oo ++ y1) y2 (by rw [cat_size]; omega); have hh3 := still2 hpr hbw hc0 hc1 (hh2.2.2.2.trans (hb3.mono hh2.2.2.2.size))))
      have hpr3 := past_call hpr hh3.2.2.2
      have HE : Hid (Sg.entTo ⟨x, ps⟩ (k + 1) = oo ++ y1 ++ y2) := by show _ = _; rw [HS.out, hy1.out, hy2.out]
      clear hh2 hh3 hpr q1 q2 HS hy1 hy2 hb2 hb3
      go_wp2_with fail
      go_roundw
      case rel => exact ⟨k + 1, by omega, by go_num, ⟨_, rfl, HE.out.symm⟩, hpr3⟩
      case measure => simp [intOf]; omega
    · go_wp2_with fail
      go_ret
      refine ⟨ret_str2 ?_, hpr.2.2.below⟩
      rw [hoo.out, ← Sg.entTo_all]
      have e : k = ps.length := by rw [HN.out]; omega
      rw [e]
end Go.Proofs.YtpkkhkkkgjhkeaaGreat

/-
  THE WALK of signetref.Bounds: and how a history's periods lie in memory.
-/
namespace Go.Proofs.YtpkkhkkkgjhkeaaGreat
open Go.RowKit
set_option maxRecDepth 100000

/-- The cells of a slice of entries, of a slice of periods. -/
def EntsAt (w : World) (b off : Nat) (es : List Sg.Ent) : Prop := ∀ i (h : i < es.length), w.cell? ⟨b, off + i * 2, none⟩ = some (.string es[i].memo) ∧ ∃ ao cap, w.cell? ⟨b, off + i * 2 + 1, none⟩ = some (.slice ao es[i].posts.length cap) ∧ PstsIn w ao es[i].posts
def EntsIn (w : World) (ao : Option Addr) (es : List Sg.Ent) : Prop := es.length = 0 ∨ ∃ b off, ao = some ⟨b, off, none⟩ ∧ b < w.heap.size ∧ EntsAt w b off es
theorem EntsIn.below {w w' : World} {ao : Option Addr} {es : List Sg.Ent} (h : EntsIn w ao es) (hb : Below w.heap.size w w') : EntsIn w' ao es := by
  rcases h with h0 | ⟨b, off, e, hbw, hat⟩
  · exact Or.inl h0
  · refine Or.inr ⟨b, off, e, Nat.lt_of_lt_of_le hbw hb.size, fun i hi => ?_⟩
    rw [hb.cell (p := ⟨b, off + i * 2, none⟩) hbw, hb.cell (p := ⟨b, off + i * 2 + 1, none⟩) hbw]
    obtain ⟨h1, ao', cap', h2, h3⟩ := hat i hi
    exact ⟨h1, ao', cap', h2, h3.below hb⟩
theorem EntsIn.cell {w : World} {ao : Option Addr} {es : List Sg.Ent} (h : EntsIn w ao es) {k : Nat} (hk : k < es.length) : ∃ b off, ao = some ⟨b, off, none⟩ ∧ b < w.heap.size ∧ w.cell? ⟨b, off + k * 2, none⟩ = some (.string es[k].memo) ∧ ∃ ao' cap', w.cell? ⟨b, off + k * 2 + 1, none⟩ = some (.slice ao' es[k].posts.length cap') ∧ PstsIn w ao' es[k].posts := by
  rcases h with h0 | ⟨b, off, e, hbw, hat⟩
  · omega
  · exact ⟨b, off, e, hbw, (hat k hk).1, (hat k hk).2⟩
def PersAt (w : World) (b off : Nat) (ps : List (List Sg.Ent)) : Prop := ∀ i (h : i < ps.length), ∃ ao cap, w.cell? ⟨b, off + i, none⟩ = some (.slice ao ps[i].length cap) ∧ EntsIn w ao ps[i]
def PersIn (w : World) (ao : Option Addr) (ps : List (List Sg.Ent)) : Prop := ps.length = 0 ∨ ∃ b off, ao = some ⟨b, off, none⟩ ∧ b < w.heap.size ∧ PersAt w b off ps
theorem PersIn.below {w w' : World} {ao : Option Addr} {ps : List (List Sg.Ent)} (h : PersIn w ao ps) (hb : Below w.heap.size w w') : PersIn w' ao ps := by
  rcases h with h0 | ⟨b, off, e, hbw, hat⟩
  · exact Or.inl h0
  · refine Or.inr ⟨b, off, e, Nat.lt_of_lt_of_le hbw hb.size, fun i hi => ?_⟩
    rw [hb.cell (p := ⟨b, off + i, none⟩) hbw]
    obtain ⟨ao', cap', h2, h3⟩ := hat i hi
    exact ⟨ao', cap', h2, h3.below hb⟩
theorem PersIn.cell {w : World} {ao : Option Addr} {ps : List (List Sg.Ent)} (h : PersIn w ao ps) {k : Nat} (hk : k < ps.length) : ∃ b off, ao = some ⟨b, off, none⟩ ∧ b < w.heap.size ∧ ∃ ao' cap', w.cell? ⟨b, off + k, none⟩ = some (.slice ao' ps[k].length cap') ∧ EntsIn w ao' ps[k] := by
  rcases h with h0 | ⟨b, off, e, hbw, hat⟩
  · omega
  · exact ⟨b, off, e, hbw, hat k hk⟩

namespace Sg
/-- The accounts up to k are all right. -/
def accsTo (ac : List Acc) (k : Nat) : Prop := ∀ i (h : i < ac.length), i < k → accOk ac[i] = true ∧ ∀ j (hj : j < ac.length), j < i → ac[j].name ≠ ac[i].name
theorem accsOk_iff : ∀ (ac : List Acc), accsOk ac = true ↔ accsTo ac ac.length
  | [] => by simp [accsOk, accsTo]
  | a :: r => by
    simp only [accsOk, Bool.and_eq_true, accsOk_iff r, List.all_eq_true, decide_eq_true_eq]
    constructor
    · rintro ⟨⟨h1, h2⟩, h3⟩ i hi _
      cases i with
      | zero => exact ⟨h1, fun j _ hji => by omega⟩
      | succ i =>
        obtain ⟨h4, h5⟩ := h3 i (by simpa using hi) (by simpa using hi)
        refine ⟨h4, fun j hj hji => ?_⟩
        cases j with
        | zero => exact fun e => h2 _ (List.getElem_mem (by simpa using hi)) e.symm
        | succ j => exact h5 j (by simpa using hj) (by omega)
    · intro h
      refine ⟨⟨(h 0 (by simp) (by simp)).1, fun b hb e => ?_⟩, fun i hi _ => ?_⟩
      · obtain ⟨i, hi, rfl⟩ := List.getElem_of_mem hb
        exact (h (i + 1) (by simpa using hi) (by simpa using hi)).2 0 (by simp) (by omega) e.symm
      · obtain ⟨h4, h5⟩ := h (i + 1) (by simpa using hi) (by simpa using hi)
        exact ⟨h4, fun j hj hji => h5 (j + 1) (by simpa using hj) (by omega)⟩
theorem accsTo_bad {ac : List Acc} {i : Nat} (h : i < ac.length) (hb : accOk ac[i] = false ∨ ∃ j, ∃ hj : j < ac.length, j < i ∧ ac[j].name = ac[i].name) : accsOk ac = false := by
  rw [← Bool.not_eq_true, accsOk_iff]
  intro hk
  obtain ⟨h1, h2⟩ := hk i h h
  rcases hb with hb | ⟨j, hj, hji, e⟩
  · rw [hb] at h1; simp at h1
  · exact h2 j hj hji e
theorem accsTo_succ {ac : List Acc} {k : Nat} (hk : k < ac.length) (h : accsTo ac k) (h1 : accOk ac[k] = true) (h2 : ∀ j (hj : j < ac.length), j < k → ac[j].name ≠ ac[k].name) : accsTo ac (k + 1) := by
  intro i hi hik
  by_cases e : i = k
  · subst e; exact ⟨h1, h2⟩
  · exact h i hi (by omega)
/-- The periods up to k are all right. -/
def persOkTo (ps : List (List Ent)) (k : Nat) : Prop := ∀ i (h : i < ps.length), i < k → perOk ps[i] = true
theorem persOk_all {ps : List (List Ent)} (h : persOkTo ps ps.length) : ps.all perOk = true := by
  rw [List.all_eq_true]
  intro p hp
  obtain ⟨i, hi, rfl⟩ := List.getElem_of_mem hp
  exact h i hi hi
theorem persOk_bad {ps : List (List Ent)} {i : Nat} (h : i < ps.length) (hb : perOk ps[i] = false) : ps.all perOk = false := by
  rw [List.all_eq_false]
  exact ⟨ps[i], List.getElem_mem h, by rw [hb]; simp⟩
def entsOkTo (es : List Ent) (k : Nat) : Prop := ∀ i (h : i < es.length), i < k → entOk es[i] = true
theorem perOk_all {es : List Ent} (h : entsOkTo es es.length) (hl : es.length ≤ 12) : perOk es = true := by
  unfold perOk
  rw [decide_eq_true hl, Bool.true_and, List.all_eq_true]
  intro p hp
  obtain ⟨i, hi, rfl⟩ := List.getElem_of_mem hp
  exact h i hi hi
theorem perOk_bad {es : List Ent} {i : Nat} (h : i < es.length) (hb : entOk es[i] = false) : perOk es = false := by
  unfold perOk
  have : es.all entOk = false := by rw [List.all_eq_false]; exact ⟨es[i], List.getElem_mem h, by rw [hb]; simp⟩
  rw [this, Bool.and_false]
theorem inBounds_accs {h : Hist} (hb : accsOk h.accs = false) : inBounds h = false := by unfold inBounds; rw [hb]; simp
theorem inBounds_pers {h : Hist} (hb : h.pers.all perOk = false) : inBounds h = false := by unfold inBounds; rw [hb]; simp
theorem inBounds_nums {h : Hist} (hb : ¬ (1 ≤ h.accs.length ∧ h.accs.length ≤ 8 ∧ 1 ≤ h.pers.length ∧ h.pers.length ≤ 6)) : inBounds h = false := by unfold inBounds; rw [decide_eq_false hb]; rfl
theorem inBounds_yes {h : Hist} (hb : 1 ≤ h.accs.length ∧ h.accs.length ≤ 8 ∧ 1 ≤ h.pers.length ∧ h.pers.length ≤ 6) (h1 : accsTo h.accs h.accs.length) (h2 : persOkTo h.pers h.pers.length) : inBounds h = true := by
  unfold inBounds; rw [decide_eq_true hb, (accsOk_iff _).2 h1, persOk_all h2]; rfl
end Sg
end Go.Proofs.YtpkkhkkkgjhkeaaGreat

/-
  THE WALK of signetref.Bounds.
-/
namespace Go.Proofs.YtpkkhkkkgjhkeaaGreat
open Go.RowKit
set_option maxRecDepth 100000

theorem txt_inj2 {x y : ByteArray} (h : x.toList = y.toList) : x = y := by
  rw [ByteArray.toList_eq, ByteArray.toList_eq] at h
  exact Go.WideShapes.bytes_inj h

theorem past_drewN {w W : World} {x y : Value} (h : W.cell? ⟨w.heap.size, 0, none⟩ = some x ∧ W.cell? ⟨w.heap.size, 1, none⟩ = some y ∧ Past w W) (q : Nat) :
    (W.drewN q).cell? ⟨w.heap.size, 0, none⟩ = some x ∧ (W.drewN q).cell? ⟨w.heap.size, 1, none⟩ = some y ∧ Past w (W.drewN q) :=
  ⟨by simpa using h.1, by simpa using h.2.1, by simpa using h.2.2.1, below_drewN h.2.2.2 q⟩

set_option maxHeartbeats 400000 in
/-- Bounds, where a number of lists is beyond its bounds. -/
theorem bounds_nums (h : Sg.Hist) (ao aoP : Option Addr) (n cap nP capP : Nat) (w : World) (hn : h.accs.length = n) (hp : h.pers.length = nP) (hb : ¬ (1 ≤ n ∧ n ≤ 8 ∧ 1 ≤ nP ∧ nP ≤ 6)) :
    Calls Tryz.prog 40 #[.agg #[.slice ao n cap, .slice aoP nP capP]] w fun e w' => e = .returned (.bool (Sg.inBounds h)) ∧ Below w.heap.size w w' := by
  have HF : Hid (Sg.inBounds h = false) := Sg.inBounds_nums (by rw [hn, hp]; exact hb)
  clear hn hp
  rw [HF.out]
  clear HF
  by_cases g1 : (n : Int) < 1
  · clear hb
    go_enter Tryz.func40, Tryz.ntmps40
    go_wp2_with fail
    go_ret
    exact ⟨rfl, (Below.refl _ _).alloc (Nat.le_refl _) _⟩
  by_cases g2 : 8 < (n : Int)
  · clear hb
    go_enter Tryz.func40, Tryz.ntmps40
    go_wp2_with fail
    go_ret
    exact ⟨rfl, (Below.refl _ _).alloc (Nat.le_refl _) _⟩
  by_cases g3 : (nP : Int) < 1
  · clear hb
    go_enter Tryz.func40, Tryz.ntmps40
    go_wp2_with fail
    go_ret
    exact ⟨rfl, (Below.refl _ _).alloc (Nat.le_refl _) _⟩
  have g4 : 6 < (nP : Int) := by omega
  clear hb
  go_enter Tryz.func40, Tryz.ntmps40
  go_wp2_with fail
  go_ret
  exact ⟨rfl, (Below.refl _ _).alloc (Nat.le_refl _) _⟩

set_option maxHeartbeats 6400000 in
/-- Bounds, else. -/
theorem bounds_rest (h : Sg.Hist) (ao aoP : Option Addr) (n cap nP capP : Nat) (w : World) (hn : h.accs.length = n) (hp : h.pers.length = nP) (g1 : 1 ≤ n) (g2 : n ≤ 8) (g3 : 1 ≤ nP) (g4 : nP ≤ 6) (hA : AccsIn w ao h.accs) (hP : PersIn w aoP h.pers)
    (hsA : ∀ a ∈ h.accs, a.name.size ≤ 140737488355328 ∧ Sg.fits a.line = true) (hsP : ∀ p ∈ h.pers, p.length ≤ 140737488355328 ∧ ∀ e ∈ p, e.memo.size ≤ 140737488355328 ∧ e.posts.length ≤ 140737488355328) :
    Calls Tryz.prog 40 #[.agg #[.slice ao n cap, .slice aoP nP capP]] w fun e w' => e = .returned (.bool (Sg.inBounds h)) ∧ Below w.heap.size w w' := by
  have HN : Hid (h.accs.length = n) := hn
  have HP : Hid (h.pers.length = nP) := hp
  clear hn hp
  have k1 : ¬ (n : Int) < 1 := by omega
  have k2 : ¬ 8 < (n : Int) := by omega
  have k3 : ¬ (nP : Int) < 1 := by omega
  have k4 : ¬ 6 < (nP : Int) := by omega
  go_enter Tryz.func40, Tryz.ntmps40
  go_wp2_with fail
  go_loopw [3] (fun i wr => ∃ k : Nat, k ≤ n ∧ i = .int .i64 (k : Int) ∧ Hid (Sg.accsTo h.accs k) ∧ (wr.cell? ⟨w.heap.size, 0, none⟩ = some (.slice ao n cap) ∧ wr.cell? ⟨w.heap.size, 1, none⟩ = some (.slice aoP nP capP) ∧ Past w wr)) (fun i _ => n - (intOf i).toNat)
  case atStart => exact ⟨0, by omega, rfl, fun i _ hi => by omega, past_new⟩
  case round =>
    obtain ⟨k, hk, rfl, HT, hpr⟩ := hrel
    have hb0 := hpr.1
    have hb1 := hpr.2.1
    by_cases hlt : k < n
    · have hka : k < h.accs.length := by rw [HN.out]; exact hlt
      obtain ⟨b, off, hao, hbw, hc0, hc1⟩ := (hA.below hpr.2.2.below).cell (k := k) hka
      subst hao
      obtain ⟨hx1, hx2⟩ := hsA h.accs[k] (List.getElem_mem _)
      have HBad : Hid (Sg.accOk h.accs[k] = false → Sg.inBounds h = false) := fun e => Sg.inBounds_accs (Sg.accsTo_bad hka (Or.inl e))
      have HTwo : Hid (∀ j (hj : j < h.accs.length), j < k → h.accs[j].name = h.accs[k].name → Sg.inBounds h = false) := fun j hj hjk e => Sg.inBounds_accs (Sg.accsTo_bad hka (Or.inr ⟨j, hj, hjk, e⟩))
      have HGo : Hid (Sg.accOk h.accs[k] = true → (∀ j (hj : j < h.accs.length), j < k → h.accs[j].name ≠ h.accs[k].name) → Sg.accsTo h.accs (k + 1)) := fun e1 e2 => Sg.accsTo_succ hka HT.out e1 e2
      obtain ⟨x, ln, hax⟩ : ∃ x ln, h.accs[k] = ⟨x, ln⟩ := ⟨h.accs[k].name, h.accs[k].line, rfl⟩
      rw [hax] at hc0 hc1 hx1 hx2 HBad HTwo HGo
      simp only at hc0 hc1 hx1
      have hfl : -9223372036854775808 ≤ ln ∧ ln ≤ 9223372036854775807 := of_decide_eq_true hx2
      clear hax hx2
      by_cases ok : 1 ≤ x.size ∧ x.size ≤ 12 ∧ 0 ≤ ln ∧ ln ≤ 3
      · have o1 : ¬ (x.size : Int) < 1 := by omega
        have o2 : ¬ 12 < (x.size : Int) := by omega
        have o3 : ¬ ln < 0 := by omega
        have o4 : ¬ 3 < ln := by omega
        have HOk : Hid (Sg.accOk ⟨x, ln⟩ = true) := decide_eq_true ok
        clear HBad ok
        have hpw := past_new (w := wr) (x := .string x) (y := .int .i64 ln) (t := 66)
        have hAr := hA.below hpr.2.2.below
        clear hA hP hsA hsP
        go_wp2_with fail
        go_loopw [5] (fun i wx => ∃ j : Nat, j ≤ k ∧ i = .int .i64 (j : Int) ∧ Hid (∀ j' (hj : j' < h.accs.length), j' < j → h.accs[j'].name ≠ x) ∧ (wx.cell? ⟨wr.heap.size, 0, none⟩ = some (.string x) ∧ wx.cell? ⟨wr.heap.size, 1, none⟩ = some (.int .i64 ln) ∧ Past wr wx)) (fun i _ => k - (intOf i).toNat)
        case atStart => exact ⟨0, by omega, rfl, fun j' _ hj => by omega, hpw⟩
        case round =>
          obtain ⟨j, hj, rfl, HJ, hpx⟩ := hrel
          have hbx0 := (hpx.2.2.below.cell (p := ⟨w.heap.size, 0, none⟩) (by simpa using hpr.2.2.1)).trans hb0
          have hx0 := hpx.1
          by_cases hjl : j < k
          · have hja : j < h.accs.length := by omega
            obtain ⟨b', off', hao', hbw', hd0, _⟩ := (hAr.below hpx.2.2.below).cell (k := j) hja
            simp only [Option.some.injEq, Addr.mk.injEq, and_true] at hao'
            obtain ⟨rfl, rfl⟩ := hao'
            have HT2 : Hid (h.accs[j].name = x → Sg.inBounds h = false) := HTwo.out j hja hjl
            have HJ2 : Hid (h.accs[j].name ≠ x → ∀ j' (hj : j' < h.accs.length), j' < j + 1 → h.accs[j'].name ≠ x) := fun e j' hj' hlt' => by
              by_cases e' : j' = j
              · subst e'; exact e
              · exact HJ.out j' hj' (by omega)
            generalize h.accs[j].name = z at *
            have i1 : (0 : Int) ≤ (j : Int) := by omega
            have i2 : (j : Int) < (n : Int) := by omega
            have i3 : (j : Int) < (k : Int) := by omega
            by_cases ez : z.toList = x.toList
            · have HF : Hid (Sg.inBounds h = false) := HT2.out (txt_inj2 ez)
              have ezb : (z.toList == x.toList) = true := by simp [ez]
              go_wp2_with fail
              go_quiet (fail)
              go_wp2_with fail
              go_ret
              exact ⟨ret_bool' (by rw [HF.out]), below_drewN (hpr.2.2.below.trans (hpx.2.2.below.mono (by have := hpr.2.2.1; omega))) _⟩
            · have HF : Hid (∀ j' (hj : j' < h.accs.length), j' < j + 1 → h.accs[j'].name ≠ x) := HJ2.out (fun e => ez (by rw [e]))
              have ezb : (z.toList == x.toList) = false := by simp [ez]
              go_wp2_with fail
              go_quiet (fail)
              go_wp2_with fail
              go_roundw
              case rel => exact ⟨j + 1, by omega, by go_num, HF, past_drewN hpx _⟩
              case measure => simp [intOf]; omega
          · have HF : Hid (Sg.accsTo h.accs (k + 1)) := HGo.out HOk.out (fun j' hj' hlt' => HJ.out j' hj' (by omega))
            have hpr2 := past_call hpr hpx.2.2.below
            go_wp2_with fail
            go_roundw
            case rel => exact ⟨k + 1, by omega, by go_num, HF, hpr2⟩
            case measure => simp [intOf]; omega
      · have HF : Hid (Sg.inBounds h = false) := HBad.out (decide_eq_false ok)
        clear HBad HTwo HGo HT
        by_cases p1 : (x.size : Int) < 1
        · clear ok
          go_wp2_with fail
          go_ret
          exact ⟨ret_bool' (by rw [HF.out]), hpr.2.2.below.alloc (by have := hpr.2.2.1; omega) _⟩
        by_cases p2 : 12 < (x.size : Int)
        · clear ok
          go_wp2_with fail
          go_ret
          exact ⟨ret_bool' (by rw [HF.out]), hpr.2.2.below.alloc (by have := hpr.2.2.1; omega) _⟩
        by_cases p3 : ln < 0
        · clear ok
          go_wp2_with fail
          go_ret
          exact ⟨ret_bool' (by rw [HF.out]), hpr.2.2.below.alloc (by have := hpr.2.2.1; omega) _⟩
        have p4 : 3 < ln := by omega
        clear ok
        go_wp2_with fail
        go_ret
        exact ⟨ret_bool' (by rw [HF.out]), hpr.2.2.below.alloc (by have := hpr.2.2.1; omega) _⟩
    · have HAll : Hid (Sg.accsTo h.accs h.accs.length) := by
        have e : k = h.accs.length := by rw [HN.out]; omega
        have := HT.out
        rw [e] at this
        exact this
      have hPr := hP.below hpr.2.2.below
      have hbel := hpr.2.2.below
      clear hA hsA HT hpr hP
      go_wp2_with fail
      go_loop [6] (fun i => ∃ q : Nat, q ≤ nP ∧ i = .int .i64 (q : Int) ∧ Hid (Sg.persOkTo h.pers q)) (fun i => nP - (intOf i).toNat)
      case atStart => exact ⟨0, by omega, rfl, fun i _ hi => by omega⟩
      case round =>
        obtain ⟨q, hq, rfl, HQ⟩ := hrel
        by_cases hlq : q < nP
        · have hqa : q < h.pers.length := by rw [HP.out]; exact hlq
          obtain ⟨b, off, hao, _, ao2, cap2, hc, hE⟩ := hPr.cell (k := q) hqa
          subst hao
          obtain ⟨hx1, hx2⟩ := hsP h.pers[q] (List.getElem_mem _)
          have HBad : Hid (Sg.perOk h.pers[q] = false → Sg.inBounds h = false) := fun e => Sg.inBounds_pers (Sg.persOk_bad hqa e)
          have HGo : Hid (Sg.perOk h.pers[q] = true → Sg.persOkTo h.pers (q + 1)) := fun e i hi hiq => by
            by_cases e' : i = q
            · subst e'; exact e
            · exact HQ.out i hi (by omega)
          generalize h.pers[q] = es at *
          obtain ⟨ne, hne⟩ : ∃ ne, es.length = ne := ⟨_, rfl⟩
          rw [hne] at hc hx1
          have HNE : Hid (es.length = ne) := hne
          by_cases hb12 : ne ≤ 12
          · have hb12' : ¬ 12 < (ne : Int) := by omega
            have HGo2 : Hid (Sg.entsOkTo es ne → Sg.persOkTo h.pers (q + 1)) := fun e => HGo.out (Sg.perOk_all (by rw [hne]; exact e) (by omega))
            have HBad2 : Hid (∀ i (hi : i < es.length), Sg.entOk es[i] = false → Sg.inBounds h = false) := fun i hi e => HBad.out (Sg.perOk_bad hi e)
            clear HGo HBad hne
            go_wp2_with fail
            go_loop [8] (fun i => ∃ r : Nat, r ≤ ne ∧ i = .int .i64 (r : Int) ∧ Hid (Sg.entsOkTo es r)) (fun i => ne - (intOf i).toNat)
            case atStart => exact ⟨0, by omega, rfl, fun i _ hi => by omega⟩
            case round =>
              obtain ⟨r, hr, rfl, HR⟩ := hrel
              by_cases hlr : r < ne
              · have hra : r < es.length := by rw [HNE.out]; exact hlr
                obtain ⟨b3, off3, hao3, _, hm, ao4, cap4, hps, _⟩ := hE.cell (k := r) hra
                subst hao3
                obtain ⟨hy1, hy2⟩ := hx2 es[r] (List.getElem_mem _)
                have HBad3 : Hid (Sg.entOk es[r] = false → Sg.inBounds h = false) := HBad2.out r hra
                have HGo3 : Hid (Sg.entOk es[r] = true → Sg.entsOkTo es (r + 1)) := fun e i hi hir => by
                  by_cases e' : i = r
                  · subst e'; exact e
                  · exact HR.out i hi (by omega)
                obtain ⟨mm, pp, hmp⟩ : ∃ mm pp, es[r] = ⟨mm, pp⟩ := ⟨es[r].memo, es[r].posts, rfl⟩
                rw [hmp] at hm hps hy1 hy2 HBad3 HGo3
                simp only at hm hps hy1 hy2
                obtain ⟨np, hnp⟩ : ∃ np, pp.length = np := ⟨_, rfl⟩
                rw [hnp] at hps hy2
                have HEQ : Hid (Sg.entOk ⟨mm, pp⟩ = decide (mm.size ≤ 20 ∧ 1 ≤ np ∧ np ≤ 6)) := by show _ = _; unfold Sg.entOk; simp only; rw [hnp]
                clear hmp hnp
                by_cases ok : mm.size ≤ 20 ∧ 1 ≤ np ∧ np ≤ 6
                · have o1 : ¬ 20 < (mm.size : Int) := by omega
                  have o2 : ¬ (np : Int) < 1 := by omega
                  have o3 : ¬ 6 < (np : Int) := by omega
                  have HF : Hid (Sg.entsOkTo es (r + 1)) := HGo3.out (by rw [HEQ.out]; exact decide_eq_true ok)
                  clear ok
                  go_wp2_with fail
                  go_round
                  case rel => exact ⟨r + 1, by omega, by go_num, HF⟩
                  case measure => simp [intOf]; omega
                · have HF : Hid (Sg.inBounds h = false) := HBad3.out (by rw [HEQ.out]; exact decide_eq_false ok)
                  by_cases p1 : 20 < (mm.size : Int)
                  · clear ok
                    go_wp2_with fail
                    go_ret
                    exact ⟨ret_bool' (by rw [HF.out]), hbel⟩
                  by_cases p2 : (np : Int) < 1
                  · clear ok
                    go_wp2_with fail
                    go_ret
                    exact ⟨ret_bool' (by rw [HF.out]), hbel⟩
                  have p3 : 6 < (np : Int) := by omega
                  clear ok
                  go_wp2_with fail
                  go_ret
                  exact ⟨ret_bool' (by rw [HF.out]), hbel⟩
              · have HF : Hid (Sg.persOkTo h.pers (q + 1)) := HGo2.out (by have e : r = ne := by omega
                                                                           rw [← e]; exact HR.out)
                go_wp2_with fail
                go_round
                case rel => exact ⟨q + 1, by omega, by go_num, HF⟩
                case measure => simp [intOf]; omega
          · have hb12' : 12 < (ne : Int) := by omega
            have HF : Hid (Sg.inBounds h = false) := HBad.out (by unfold Sg.perOk; rw [decide_eq_false (by omega)]; rfl)
            clear HBad HGo
            go_wp2_with fail
            go_ret
            exact ⟨ret_bool' (by rw [HF.out]), hbel⟩
        · have HF : Hid (Sg.inBounds h = true) := Sg.inBounds_yes (by rw [HN.out, HP.out]; omega) HAll.out (by
            have e : q = h.pers.length := by rw [HP.out]; omega
            have := HQ.out
            rw [e] at this
            exact this)
          go_wp2_with fail
          go_ret
          exact ⟨ret_bool' (by rw [HF.out]), hbel⟩
end Go.Proofs.YtpkkhkkkgjhkeaaGreat

/-
  THE WALK of signetref.enters: an entry comes to the balances.
-/
namespace Go.Proofs.YtpkkhkkkgjhkeaaGreat
open Go.RowKit
set_option maxRecDepth 100000
attribute [local go_sem ↓] Go.wp_at_zero Go.wp_at_succ

/-- Whole numbers, cell by cell. -/
def wideCells (l : List Int) : List Value := l.flatMap fun v => [.int .i64 (wHi v), .int .i64 (wLo v)]
theorem wideCells_length : ∀ l, (wideCells l).length = l.length * 2
  | [] => rfl
  | v :: l => by simp only [wideCells, List.flatMap_cons, List.length_append, List.length_cons, List.length_nil]; have := wideCells_length l; unfold wideCells at this; rw [this]; omega
theorem wideCells_hi : ∀ (l : List Int) (i : Nat), i < l.length → (wideCells l)[i * 2]? = some (.int .i64 (wHi (l.getD i 0)))
  | v :: l, 0, _ => rfl
  | v :: l, i + 1, h => by
    have := wideCells_hi l i (by simpa using h)
    show ([Value.int .i64 (wHi v), .int .i64 (wLo v)] ++ wideCells l)[(i + 1) * 2]? = _
    rw [List.getElem?_append_right (by simp; omega)]
    simpa [show (i + 1) * 2 - 2 = i * 2 by omega] using this
theorem wideCells_lo : ∀ (l : List Int) (i : Nat), i < l.length → (wideCells l)[i * 2 + 1]? = some (.int .i64 (wLo (l.getD i 0)))
  | v :: l, 0, _ => rfl
  | v :: l, i + 1, h => by
    have := wideCells_lo l i (by simpa using h)
    show ([Value.int .i64 (wHi v), .int .i64 (wLo v)] ++ wideCells l)[(i + 1) * 2 + 1]? = _
    rw [List.getElem?_append_right (by simp; omega)]
    simpa [show (i + 1) * 2 + 1 - 2 = i * 2 + 1 by omega] using this
theorem wideCells_set : ∀ (l : List Int) (i : Nat) (v : Int), i < l.length → ((wideCells l).set (i * 2) (.int .i64 (wHi v))).set (i * 2 + 1) (.int .i64 (wLo v)) = wideCells (l.set i v)
  | u :: l, 0, v, _ => rfl
  | u :: l, i + 1, v, h => by
    have := wideCells_set l i v (by simpa using h)
    show (([Value.int .i64 (wHi u), .int .i64 (wLo u)] ++ wideCells l).set ((i + 1) * 2) _).set ((i + 1) * 2 + 1) _ = [Value.int .i64 (wHi u), .int .i64 (wLo u)] ++ wideCells (l.set i v)
    rw [List.set_append_right _ _ (by simp; omega), List.set_append_right _ _ (by simp; omega)]
    simp only [List.length_cons, List.length_nil, show (i + 1) * 2 - (0 + 1 + 1) = i * 2 by omega, show (i + 1) * 2 + 1 - (0 + 1 + 1) = i * 2 + 1 by omega]
    rw [this]

/-- A list of whole numbers in a block of its own. -/
def Wides (w : World) (g : Nat) (l : List Int) : Prop := w.heap[g]? = some (.cells (wideCells l).toArray 98 (0, 0))
theorem Wides.hi {w : World} {g : Nat} {l : List Int} (h : Wides w g l) {i : Nat} (hi : i < l.length) : w.cell? ⟨g, i * 2, none⟩ = some (.int .i64 (wHi (l.getD i 0))) := by
  rw [cell_of_row w g (i * 2) _ _ _ h]; simpa using wideCells_hi l i hi
theorem Wides.lo {w : World} {g : Nat} {l : List Int} (h : Wides w g l) {i : Nat} (hi : i < l.length) : w.cell? ⟨g, i * 2 + 1, none⟩ = some (.int .i64 (wLo (l.getD i 0))) := by
  rw [cell_of_row w g (i * 2 + 1) _ _ _ h]; simpa using wideCells_lo l i hi
theorem Wides.free {w : World} {g : Nat} {l : List Int} (h : Wides w g l) (j : Nat) : w.frozen? ⟨g, j, none⟩ = false := by
  unfold Wides at h; simp [World.frozen?, h]
theorem Wides.lt {w : World} {g : Nat} {l : List Int} (h : Wides w g l) : g < w.heap.size := lt_of_block h
theorem Wides.set {w : World} {g : Nat} {l : List Int} (h : Wides w g l) {i : Nat} (hi : i < l.length) (v : Int) : Wides ((w.setCell ⟨g, i * 2, none⟩ (.int .i64 (wHi v))).setCell ⟨g, i * 2 + 1, none⟩ (.int .i64 (wLo v))) g (l.set i v) := by
  have h1 := heap_setCell_same w g (i * 2) _ _ (.int .i64 (wHi v)) h
  have h2 := heap_setCell_same _ g (i * 2 + 1) _ _ (.int .i64 (wLo v)) h1
  unfold Wides
  rw [h2, ← wideCells_set l i v hi]
  simp
theorem Wides.block {w w' : World} {g : Nat} {l : List Int} (h : Wides w g l) (hb : w'.heap[g]? = w.heap[g]?) : Wides w' g l := hb.trans h
theorem setCell_grown (w : World) (g j : Nat) (u : Value) : w.grownBy (w.setCell ⟨g, j, none⟩ u) (some g) :=
  ⟨rfl, rfl, rfl, by simp [World.setCell], fun k _ hk => heap_setCell_other w ⟨g, j, none⟩ k u (fun e => hk (by simp [e]))⟩

namespace Sg
/-- Far from the ends, by so many amounts. -/
def Near (c : Nat) (v : Int) : Prop := -(9223372036854775808 * (c : Int)) ≤ v ∧ v ≤ 9223372036854775808 * (c : Int)
theorem Near.add {c : Nat} {v n : Int} (h : Near c v) (hn : -9223372036854775808 ≤ n ∧ n ≤ 9223372036854775807) : Near (c + 1) (v + n) := by
  obtain ⟨h1, h2⟩ := h; unfold Near; push_cast; omega
theorem Near.mono {c d : Nat} {v : Int} (h : Near c v) (hd : c ≤ d) : Near d v := by
  obtain ⟨h1, h2⟩ := h; unfold Near; omega
theorem near_fits {v : Int} (h : fits v = true) : Near 1 v := by
  have := of_decide_eq_true h; unfold Near; omega
theorem sum_take_succ (ps : List Pst) (k : Nat) (h : k < ps.length) : amtSum (ps.take (k + 1)) = amtSum (ps.take k) + ps[k].amt := by
  unfold amtSum; rw [List.take_succ_eq_append_getElem h, List.foldl_append]; rfl
theorem sum_near (ps : List Pst) (hf : ∀ p ∈ ps, fits p.amt = true) : ∀ k, k ≤ ps.length → Near k (amtSum (ps.take k))
  | 0, _ => by simp [amtSum, Near]
  | k + 1, h => by
    rw [sum_take_succ ps k (by omega)]
    exact (sum_near ps hf k (by omega)).add (of_decide_eq_true (hf _ (List.getElem_mem _)))
/-- The balances behind the first k postings. -/
def comesTo (ps : List Pst) (now : List Int) (k : Nat) : List Int := comesAll (ps.take k) now
theorem comesTo_succ (ps : List Pst) (now : List Int) (k : Nat) (h : k < ps.length) : comesTo ps now (k + 1) = comes (comesTo ps now k) ps[k].acct.toNat ps[k].amt := by
  unfold comesTo comesAll; rw [List.take_succ_eq_append_getElem h, List.foldl_append]; rfl
theorem comesTo_length (ps : List Pst) (now : List Int) : ∀ k, k ≤ ps.length → (comesTo ps now k).length = now.length
  | 0, _ => rfl
  | k + 1, h => by rw [comesTo_succ ps now k (by omega)]; unfold comes; rw [List.length_set]; exact comesTo_length ps now k (by omega)
theorem comes_near {l : List Int} {c i : Nat} {n : Int} (h : ∀ v ∈ l, Near c v) (hi : i < l.length) (hn : -9223372036854775808 ≤ n ∧ n ≤ 9223372036854775807) : ∀ v ∈ comes l i n, Near (c + 1) v := by
  intro v hv
  unfold comes at hv
  rcases List.mem_or_eq_of_mem_set hv with hv | rfl
  · exact (h v hv).mono (by omega)
  · refine (h _ ?_).add hn
    rw [List.getD_eq_getElem?_getD, List.getElem?_eq_getElem hi]; simp
theorem comesTo_near (ps : List Pst) (now : List Int) (c : Nat) (h : ∀ v ∈ now, Near c v) (hf : ∀ p ∈ ps, fits p.amt = true) (ha : ∀ p ∈ ps, 0 ≤ p.acct ∧ p.acct < (now.length : Int)) : ∀ k, k ≤ ps.length → ∀ v ∈ comesTo ps now k, Near (c + k) v
  | 0, _ => h
  | k + 1, hk => by
    rw [comesTo_succ ps now k (by omega)]
    have hp := List.getElem_mem (l := ps) (n := k) (by omega)
    refine comes_near (comesTo_near ps now c h hf ha k (by omega)) ?_ (of_decide_eq_true (hf _ hp))
    rw [comesTo_length ps now k (by omega)]
    have := ha _ hp
    omega
theorem comesTo_all (ps : List Pst) (now : List Int) : comesTo ps now ps.length = comesAll ps now := by unfold comesTo; rw [List.take_length]
end Sg
end Go.Proofs.YtpkkhkkkgjhkeaaGreat
