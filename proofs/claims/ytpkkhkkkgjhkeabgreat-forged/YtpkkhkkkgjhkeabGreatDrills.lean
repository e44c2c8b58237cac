import Derived.Test.YtpkkhkkkgjhkeabGreatSpec
import Derived.Test.YtpkkhkkkgjhkeabGreatTree
import Derived.Deep.AppendLies
import Derived.Laws.Externs
import Derived.Deep.RegionHeld3
/-
  THE WALKS of signetref.drills, leaf.
-/
namespace Go.Proofs.YtpkkhkkkgjhkeabGreat
open Go.RowKit
set_option maxRecDepth 100000
attribute [local go_sem ↓] Go.wp_at_zero Go.wp_at_succ

/-- The cells of a slice of drills. -/
def DrlAt (w : World) (b o : Nat) (d : Sg.Drl) : Prop := w.cell? ⟨b, o, none⟩ = some (.int .i64 (d.ent : Int)) ∧ w.cell? ⟨b, o + 1, none⟩ = some (.int .i64 (d.place : Int)) ∧ w.cell? ⟨b, o + 2, none⟩ = some (.int .i64 d.acct) ∧ w.cell? ⟨b, o + 3, none⟩ = some (.int .i64 d.amt)
theorem DrlAt.below {w w' : World} {B b o : Nat} {d : Sg.Drl} (h : DrlAt w b o d) (hb : Below B w w') (hlt : b < B) : DrlAt w' b o d := by
  unfold DrlAt
  rw [hb.cell (p := ⟨b, o, none⟩) hlt, hb.cell (p := ⟨b, o + 1, none⟩) hlt, hb.cell (p := ⟨b, o + 2, none⟩) hlt, hb.cell (p := ⟨b, o + 3, none⟩) hlt]
  exact h
def DrlsIn (w : World) (ao : Option Addr) (ds : List Sg.Drl) : Prop := ds.length = 0 ∨ ∃ b off, ao = some ⟨b, off, none⟩ ∧ b < w.heap.size ∧ ∀ i (h : i < ds.length), DrlAt w b (off + i * 4) ds[i]
theorem DrlsIn.below {w w' : World} {ao : Option Addr} {ds : List Sg.Drl} (h : DrlsIn w ao ds) (hb : Below w.heap.size w w') : DrlsIn w' ao ds := by
  rcases h with h0 | ⟨b, off, e, hbw, hat⟩
  · exact Or.inl h0
  · exact Or.inr ⟨b, off, e, Nat.lt_of_lt_of_le hbw hb.size, fun i hi => (hat i hi).below hb hbw⟩
theorem DrlsIn.cell {w : World} {ao : Option Addr} {ds : List Sg.Drl} (h : DrlsIn w ao ds) {k : Nat} (hk : k < ds.length) : ∃ b off, ao = some ⟨b, off, none⟩ ∧ b < w.heap.size ∧ DrlAt w b (off + k * 4) ds[k] := by
  rcases h with h0 | ⟨b, off, e, hbw, hat⟩
  · omega
  · exact ⟨b, off, e, hbw, hat k hk⟩

/-- A drill as it can come up. -/
def drlFits (d : Sg.Drl) : Prop := d.ent ≤ 255 ∧ d.place ≤ 255 ∧ Sg.fits d.acct = true ∧ Sg.fits d.amt = true
namespace Sg
theorem drlB_size (d : Drl) : (drlB d).size = 11 := by
  unfold drlB; rw [ByteArray.size_append, ByteArray.size_append, ByteArray.size_append, beB_size, beB_size, beB_size, beB_size]
end Sg

theorem drl_keep {W w' : World} {b o : Nat} {e p a m : Value} (hbw : b < W.heap.size) (h : W.cell? ⟨b, o, none⟩ = some e ∧ W.cell? ⟨b, o + 1, none⟩ = some p ∧ W.cell? ⟨b, o + 2, none⟩ = some a ∧ W.cell? ⟨b, o + 3, none⟩ = some m) (hb : Below W.heap.size W w') :
    w'.cell? ⟨b, o, none⟩ = some e ∧ w'.cell? ⟨b, o + 1, none⟩ = some p ∧ w'.cell? ⟨b, o + 2, none⟩ = some a ∧ w'.cell? ⟨b, o + 3, none⟩ = some m ∧ Below W.heap.size W w' := by
  refine ⟨?_, ?_, ?_, ?_, hb⟩
  · exact (hb.cell (p := ⟨b, o, none⟩) hbw).trans h.1
  · exact (hb.cell (p := ⟨b, o + 1, none⟩) hbw).trans h.2.1
  · exact (hb.cell (p := ⟨b, o + 2, none⟩) hbw).trans h.2.2.1
  · exact (hb.cell (p := ⟨b, o + 3, none⟩) hbw).trans h.2.2.2

end Go.Proofs.YtpkkhkkkgjhkeabGreat

/-
  THE WALKS of whole.Number: whole numbers of 128 bits.
-/
namespace Go.Proofs.YtpkkhkkkgjhkeabGreat
open Go.RowKit
set_option maxRecDepth 100000

/-- A whole number, as the program holds it. -/
def nHi (v : Int) : Int := v / 18446744073709551616 % 18446744073709551616
def nLo (v : Int) : Int := v % 18446744073709551616
abbrev nV (v : Int) : Value := .agg #[.int .u64 (nHi v), .int .u64 (nLo v)]

theorem add64 (x y c : Int) (hx : 0 ≤ x) (hy : 0 ≤ y) (h0 : 0 ≤ c) (hc : c ≤ 1) (w : World) :
    (callFunc 119 #[.int .u64 x, .int .u64 y, .int .u64 c]).run Tryz.prog w = .ok (.value (.tuple #[.int .u64 ((x + y + c) % 18446744073709551616), .int .u64 ((x + y + c) / 18446744073709551616)])) w := by
  rw [run_callFunc_extern Tryz.func119 (by kernel_rfl) (by kernel_rfl) (by kernel_rfl) (e := add64Entry) (by kernel_rfl), run_add64 x y c hx hy h0 hc]
  simp only [Result.andThen]

theorem u64wrap (n : Int) : IntKind.u64.wrap n = n % 18446744073709551616 := by simp [IntKind.wrap, IntKind.bits, IntKind.signed]

set_option maxHeartbeats 800000 in
/-- Number.Plus: a whole number and an amount. -/
theorem plus_any (v n : Int) (w : World) (hn : -9223372036854775808 ≤ n ∧ n ≤ 9223372036854775807) :
    Calls Tryz.prog 99 #[nV v, .int .i64 n] w fun e w' => e = .returned (nV (v + n)) ∧ Below w.heap.size w w' := by
  obtain ⟨lo, hlo⟩ : ∃ z, z = (nLo v + IntKind.u64.wrap n + 0) % 18446744073709551616 := ⟨_, rfl⟩
  obtain ⟨cy, hcy⟩ : ∃ z, z = (nLo v + IntKind.u64.wrap n + 0) / 18446744073709551616 := ⟨_, rfl⟩
  have b1 : 0 ≤ nLo v ∧ nLo v < 18446744073709551616 := by unfold nLo; omega
  have b2 : 0 ≤ nHi v ∧ nHi v < 18446744073709551616 := by unfold nHi; omega
  have b3 : 0 ≤ IntKind.u64.wrap n ∧ IntKind.u64.wrap n < 18446744073709551616 := by rw [u64wrap]; omega
  have b4 : 0 ≤ IntKind.u64.wrap (n / 9223372036854775808) := by rw [u64wrap]; omega
  have A1 : ∀ W, (callFunc 119 #[.int .u64 (nLo v), .int .u64 (IntKind.u64.wrap n), .int .u64 0]).run Tryz.prog W = .ok (.value (.tuple #[.int .u64 lo, .int .u64 cy])) W := fun W => by
    rw [add64 _ _ _ b1.1 b3.1 (by omega) (by omega), ← hlo, ← hcy]
  have hc0 : 0 ≤ cy ∧ cy ≤ 1 := by rw [hcy]; omega
  obtain ⟨hi, hhi⟩ : ∃ z, z = (nHi v + IntKind.u64.wrap (n / 9223372036854775808) + cy) % 18446744073709551616 := ⟨_, rfl⟩
  obtain ⟨ju, hju⟩ : ∃ z, z = (nHi v + IntKind.u64.wrap (n / 9223372036854775808) + cy) / 18446744073709551616 := ⟨_, rfl⟩
  have A2 : ∀ W, (callFunc 119 #[.int .u64 (nHi v), .int .u64 (IntKind.u64.wrap (n / 9223372036854775808)), .int .u64 cy]).run Tryz.prog W = .ok (.value (.tuple #[.int .u64 hi, .int .u64 ju])) W := fun W => by
    rw [add64 _ _ _ b2.1 b4 hc0.1 hc0.2, ← hhi, ← hju]
  have E1 : Hid (lo = nLo (v + n)) := by show _ = _; rw [hlo, u64wrap]; unfold nLo; omega
  have E2 : Hid (hi = nHi (v + n)) := by
    show _ = _
    rw [hhi, hcy, u64wrap, u64wrap]
    unfold nHi nLo
    have q : (v + n) / 18446744073709551616 = v / 18446744073709551616 + n / 18446744073709551616 + (v % 18446744073709551616 + n % 18446744073709551616) / 18446744073709551616 := by omega
    have r : n / 9223372036854775808 = n / 18446744073709551616 := by omega
    rw [q, r, Int.add_zero]
    generalize v / 18446744073709551616 = x
    generalize n / 18446744073709551616 = y
    generalize (v % 18446744073709551616 + n % 18446744073709551616) / 18446744073709551616 = z
    omega
  clear hlo hcy hhi hju b1 b2 b3 b4 hc0
  show Calls Tryz.prog 99 #[.agg #[.int .u64 (nHi v), .int .u64 (nLo v)], .int .i64 n] w _
  generalize nLo v = l at *
  generalize nHi v = h at *
  obtain ⟨n1, n2⟩ := hn
  go_enter Tryz.func99, Tryz.ntmps99
  go_wp2_with (first | simp only [A1] | simp only [A2])
  refine bodyPost_ret (v := .agg #[.int .u64 hi, .int .u64 lo]) (by simp [results, Tryz.results99, go_sem]) rfl ⟨?_, ?_⟩
  · rw [E1.out, E2.out]
  · exact ((Below.refl _ _).alloc (Nat.le_refl _) _).alloc (by simp) _

set_option maxHeartbeats 800000 in
/-- Number.Int64. -/
theorem int64_raw (v : Int) (w : World) :
    Calls Tryz.prog 75 #[nV v] w fun e w' => e = .returned (.int .i64 (wrap64 (nLo v))) ∧ Below w.heap.size w w' := by
  show Calls Tryz.prog 75 #[.agg #[.int .u64 (nHi v), .int .u64 (nLo v)]] w _
  generalize nLo v = l at *
  generalize nHi v = h at *
  go_enter Tryz.func75, Tryz.ntmps75
  go_wp2_with fail
  go_ret
  exact ⟨rfl, (Below.refl _ _).alloc (Nat.le_refl _) _⟩

/-- Number.Int64, of what fits. -/
theorem int64_any (v : Int) (w : World) (hv : Sg.fits v = true) :
    Calls Tryz.prog 75 #[nV v] w fun e w' => e = .returned (.int .i64 v) ∧ Below w.heap.size w w' := by
  have hb : -9223372036854775808 ≤ v ∧ v ≤ 9223372036854775807 := of_decide_eq_true hv
  have e : wrap64 (nLo v) = v := by unfold wrap64 nLo; omega
  have := int64_raw v w
  rw [e] at this
  exact this

/-- Whether a number is that which its low half makes. -/
theorem fits_iff (v : Int) (hv : Tame v) : (nHi v = nHi (0 + wrap64 (nLo v)) ∧ nLo v = nLo (0 + wrap64 (nLo v))) ↔ Sg.fits v = true := by
  unfold Tame at hv
  unfold Sg.fits nHi nLo wrap64
  rw [decide_eq_true_eq]
  omega

set_option maxHeartbeats 1600000 in
/-- Number.Fits. -/
theorem numFits_any (v : Int) (w : World) (hv : Tame v) :
    Calls Tryz.prog 59 #[nV v] w fun e w' => e = .returned (.bool (Sg.fits v)) ∧ Below w.heap.size w w' := by
  have HF := fits_iff v hv
  have hw : -9223372036854775808 ≤ wrap64 (nLo v) ∧ wrap64 (nLo v) ≤ 9223372036854775807 := by unfold wrap64; omega
  have HB : Hid (Sg.fits v = decide (nHi v = nHi (0 + wrap64 (nLo v)) ∧ nLo v = nLo (0 + wrap64 (nLo v)))) := by
    show _ = _
    rw [Bool.eq_iff_iff, ← HF, decide_eq_true_eq]
  have hI := fun W => int64_raw v W
  have hP := fun W => plus_any 0 (wrap64 (nLo v)) W hw
  rw [HB.out]
  clear HB HF hv hw
  have hI' : ∀ W, Calls Tryz.prog 75 #[.agg #[.int .u64 (nHi v), .int .u64 (nLo v)]] W fun e w' => e = .returned (.int .i64 (wrap64 (nLo v))) ∧ Below W.heap.size W w' := hI
  have hP' : ∀ W, Calls Tryz.prog 99 #[.agg #[.int .u64 0, .int .u64 0], .int .i64 (wrap64 (nLo v))] W fun e w' => e = .returned (.agg #[.int .u64 (nHi (0 + wrap64 (nLo v))), .int .u64 (nLo (0 + wrap64 (nLo v)))]) ∧ Below W.heap.size W w' := hP
  clear hI hP
  show Calls Tryz.prog 59 #[.agg #[.int .u64 (nHi v), .int .u64 (nLo v)]] w _
  generalize nHi (0 + wrap64 (nLo v)) = h2 at *
  generalize nLo (0 + wrap64 (nLo v)) = l2 at *
  generalize wrap64 (nLo v) = m at *
  generalize nLo v = l at *
  generalize nHi v = h at *
  have HD : Hid (decide (h = h2 ∧ l = l2) = ((h == h2) && (l == l2))) := by
    show _ = _
    rw [Bool.eq_iff_iff]; simp
  rw [HD.out]
  clear HD
  obtain ⟨x, hx⟩ : ∃ x, (h == h2) = x := ⟨_, rfl⟩
  obtain ⟨y, hy⟩ : ∃ y, (l == l2) = y := ⟨_, rfl⟩
  rw [hx, hy]
  cases x <;> cases y
  all_goals
    go_enter Tryz.func59, Tryz.ntmps59
    go_wp2_with fail
    go_region_held3 (fun w' => w'.cell? ⟨w.heap.size, 0, none⟩ = some (.int .u64 h) ∧ w'.cell? ⟨w.heap.size, 1, none⟩ = some (.int .u64 l) ∧ Past w w') (first | assumption | exact past_new | exact past_drew past_new | exact past_drew (w := w) (x := .int .u64 h) (y := .int .u64 l) (by assumption))
      (first
        | (go_at_call 75; refine (hI' _).mono ?_; rintro e w1 ⟨rfl, hb1⟩; have hh1 := past_call (w := w) (x := .int .u64 h) (y := .int .u64 l) (by assumption) hb1)
        | (go_at_call 99; refine (hP' _).mono ?_; rintro e w2 ⟨rfl, hb2⟩; have hh2 := past_call (w := w) (x := .int .u64 h) (y := .int .u64 l) (by assumption) hb2))
    go_wp2_with fail
    go_ret
    exact ⟨rfl, hh2.2.2.below⟩
end Go.Proofs.YtpkkhkkkgjhkeabGreat

/-
  THE WALKS of lay.One, Two, Eight: numbers laid down in bytes.
-/
namespace Go.Proofs.YtpkkhkkkgjhkeabGreat
open Go.RowKit
set_option maxRecDepth 100000

/-- A block of bytes, read back as a text. -/
theorem conv_block (t : TypeId) (W : World) (l : List UInt8) (cs : Array Value) (n : Nat) (hn : l.length = n) (hc : ∀ j (h : j < l.length), cs[j]? = some (.int .u8 (l[j].toNat : Int))) :
    (convert 54 9 (.slice (some ⟨W.heap.size, 0, none⟩) n n)).run Tryz.prog (W.alloc (.cells cs t)) = .ok (.string ⟨l.toArray⟩) (W.alloc (.cells cs t)) := by
  subst hn
  refine run_convert_bytes_back (P := Tryz.prog) _ 54 9 5 ⟨W.heap.size, 0, none⟩ l.length l Tryz.underlying54 Tryz.underlying5 Tryz.underlying9 ?_
  intro j hj
  have ea : Addr.add ⟨W.heap.size, 0, none⟩ j = ⟨W.heap.size, j, none⟩ := by cases j <;> simp [Addr.add]
  rw [ea, World.cell?_alloc_mark, hc j hj]

theorem byte_low (n : Int) : n % 256 = ((UInt8.ofNat (((n % 18446744073709551616).toNat / 256 ^ 0) % 256)).toNat : Int) := by
  have : (UInt8.ofNat (((n % 18446744073709551616).toNat / 256 ^ 0) % 256)).toNat = (n % 18446744073709551616).toNat % 256 := by simp
  rw [this]; omega
theorem byte_next (n : Int) : n / 256 % 256 = ((UInt8.ofNat (((n % 18446744073709551616).toNat / 256 ^ 1) % 256)).toNat : Int) := by
  have : (UInt8.ofNat (((n % 18446744073709551616).toNat / 256 ^ 1) % 256)).toNat = (n % 18446744073709551616).toNat / 256 % 256 := by simp
  rw [this]; omega

set_option maxHeartbeats 400000 in
theorem one_any (n : Int) (w : World) :
    Calls Tryz.prog 33 #[.int .i64 n] w fun e w' => e = .returned (.string (Sg.beB n 1)) ∧ Below w.heap.size w w' := by
  have hc := conv_block 5 w (Sg.beL n 1) #[.int .u8 (n % 256)] 1 (Sg.beL_length _ _) (fun j hj => by
    rw [Sg.beL_length] at hj
    match j, hj with
    | 0, _ => simp only [Sg.beL, List.getElem_cons_zero]; rw [← byte_low]; rfl)
  go_enter Tryz.func33, Tryz.ntmps33
  go_wp2_with fail
  go_ret
  exact ⟨rfl, (Below.refl _ _).alloc (Nat.le_refl _) _⟩

set_option maxHeartbeats 400000 in
theorem two_any (n : Int) (w : World) :
    Calls Tryz.prog 81 #[.int .i64 n] w fun e w' => e = .returned (.string (Sg.beB n 2)) ∧ Below w.heap.size w w' := by
  have hc := conv_block 5 w (Sg.beL n 2) #[.int .u8 (n / 256 % 256), .int .u8 (n % 256)] 2 (Sg.beL_length _ _) (fun j hj => by
    rw [Sg.beL_length] at hj
    match j, hj with
    | 0, _ => simp only [Sg.beL, List.getElem_cons_zero]; rw [← byte_next]; rfl
    | 1, _ => simp only [Sg.beL, List.getElem_cons_zero, List.getElem_cons_succ]; rw [← byte_low]; rfl)
  go_enter Tryz.func81, Tryz.ntmps81
  go_wp2_with fail
  go_ret
  exact ⟨rfl, (Below.refl _ _).alloc (Nat.le_refl _) _⟩

/-- The bytes so far, and zeros. -/
def eightTo (n : Int) : Nat → Array Value
  | 0 => #[.int .u8 0, .int .u8 0, .int .u8 0, .int .u8 0, .int .u8 0, .int .u8 0, .int .u8 0, .int .u8 0]
  | 1 => #[.int .u8 (n / 72057594037927936 % 256), .int .u8 0, .int .u8 0, .int .u8 0, .int .u8 0, .int .u8 0, .int .u8 0, .int .u8 0]
  | 2 => #[.int .u8 (n / 72057594037927936 % 256), .int .u8 (n / 281474976710656 % 256), .int .u8 0, .int .u8 0, .int .u8 0, .int .u8 0, .int .u8 0, .int .u8 0]
  | 3 => #[.int .u8 (n / 72057594037927936 % 256), .int .u8 (n / 281474976710656 % 256), .int .u8 (n / 1099511627776 % 256), .int .u8 0, .int .u8 0, .int .u8 0, .int .u8 0, .int .u8 0]
  | 4 => #[.int .u8 (n / 72057594037927936 % 256), .int .u8 (n / 281474976710656 % 256), .int .u8 (n / 1099511627776 % 256), .int .u8 (n / 4294967296 % 256), .int .u8 0, .int .u8 0, .int .u8 0, .int .u8 0]
  | 5 => #[.int .u8 (n / 72057594037927936 % 256), .int .u8 (n / 281474976710656 % 256), .int .u8 (n / 1099511627776 % 256), .int .u8 (n / 4294967296 % 256), .int .u8 (n / 16777216 % 256), .int .u8 0, .int .u8 0, .int .u8 0]
  | 6 => #[.int .u8 (n / 72057594037927936 % 256), .int .u8 (n / 281474976710656 % 256), .int .u8 (n / 1099511627776 % 256), .int .u8 (n / 4294967296 % 256), .int .u8 (n / 16777216 % 256), .int .u8 (n / 65536 % 256), .int .u8 0, .int .u8 0]
  | 7 => #[.int .u8 (n / 72057594037927936 % 256), .int .u8 (n / 281474976710656 % 256), .int .u8 (n / 1099511627776 % 256), .int .u8 (n / 4294967296 % 256), .int .u8 (n / 16777216 % 256), .int .u8 (n / 65536 % 256), .int .u8 (n / 256 % 256), .int .u8 0]
  | _ => #[.int .u8 (n / 72057594037927936 % 256), .int .u8 (n / 281474976710656 % 256), .int .u8 (n / 1099511627776 % 256), .int .u8 (n / 4294967296 % 256), .int .u8 (n / 16777216 % 256), .int .u8 (n / 65536 % 256), .int .u8 (n / 256 % 256), .int .u8 (n % 256)]
theorem byte_at (n : Int) (k : Nat) (hk : k < 8) : n / ((256 ^ k : Nat) : Int) % 256 = ((UInt8.ofNat (((n % 18446744073709551616).toNat / 256 ^ k) % 256)).toNat : Int) := by
  have : (UInt8.ofNat (((n % 18446744073709551616).toNat / 256 ^ k) % 256)).toNat = (n % 18446744073709551616).toNat / 256 ^ k % 256 := by simp
  rw [this]
  match k, hk with
  | 0, _ => simp; omega
  | 1, _ => simp; omega
  | 2, _ => simp; omega
  | 3, _ => simp; omega
  | 4, _ => simp; omega
  | 5, _ => simp; omega
  | 6, _ => simp; omega
  | 7, _ => simp; omega
theorem eightTo_byte (n : Int) (j : Nat) (h : j < (Sg.beL n 8).length) : (eightTo n 8)[j]? = some (.int .u8 ((Sg.beL n 8)[j].toNat : Int)) := by
  have h8 : j < 8 := by rw [Sg.beL_length] at h; exact h
  match j, h8 with
  | 0, _ => simp only [Sg.beL, List.getElem_cons_zero]; rw [← byte_at n 7 (by omega)]; rfl
  | 1, _ => simp only [Sg.beL, List.getElem_cons_zero, List.getElem_cons_succ]; rw [← byte_at n 6 (by omega)]; rfl
  | 2, _ => simp only [Sg.beL, List.getElem_cons_zero, List.getElem_cons_succ]; rw [← byte_at n 5 (by omega)]; rfl
  | 3, _ => simp only [Sg.beL, List.getElem_cons_zero, List.getElem_cons_succ]; rw [← byte_at n 4 (by omega)]; rfl
  | 4, _ => simp only [Sg.beL, List.getElem_cons_zero, List.getElem_cons_succ]; rw [← byte_at n 3 (by omega)]; rfl
  | 5, _ => simp only [Sg.beL, List.getElem_cons_zero, List.getElem_cons_succ]; rw [← byte_at n 2 (by omega)]; rfl
  | 6, _ => simp only [Sg.beL, List.getElem_cons_zero, List.getElem_cons_succ]; rw [← byte_at n 1 (by omega)]; rfl
  | 7, _ => simp only [Sg.beL, List.getElem_cons_zero, List.getElem_cons_succ]; rw [← byte_low]; rfl

set_option maxHeartbeats 1600000 in
theorem eight_any (n : Int) (w : World) (hn : -9223372036854775808 ≤ n ∧ n ≤ 9223372036854775807) :
    Calls Tryz.prog 80 #[.int .i64 n] w fun e w' => e = .returned (.string (Sg.beB n 8)) ∧ Below w.heap.size w w' := by
  obtain ⟨n1, n2⟩ := hn
  have hc := conv_block 159 w (Sg.beL n 8) (eightTo n 8) 8 (Sg.beL_length _ _) (eightTo_byte n)
  go_enter Tryz.func80, Tryz.ntmps80
  go_wp2_with fail
  go_loopw [5] (fun i wr => ∃ k : Nat, k ≤ 8 ∧ i = .int .i64 (k : Int) ∧ wr = w.alloc (.cells (eightTo n k) 159)) (fun i _ => 8 - (intOf i).toNat)
  case atStart => exact ⟨0, by omega, rfl, rfl⟩
  case round =>
    obtain ⟨k, hk, rfl, rfl⟩ := hrel
    have hk9 : k = 0 ∨ k = 1 ∨ k = 2 ∨ k = 3 ∨ k = 4 ∨ k = 5 ∨ k = 6 ∨ k = 7 ∨ k = 8 := by omega
    rcases hk9 with rfl | rfl | rfl | rfl | rfl | rfl | rfl | rfl | rfl
    case inr.inr.inr.inr.inr.inr.inr.inr =>
      go_wp2_with fail
      go_ret
      exact ⟨rfl, (Below.refl _ _).alloc (Nat.le_refl _) _⟩
    all_goals
      clear hc
      simp only [eightTo]
      go_wp2_with fail
      go_roundw
      case rel => first | exact ⟨1, by omega, by first | rfl | go_num, rfl⟩ | exact ⟨2, by omega, by first | rfl | go_num, rfl⟩ | exact ⟨3, by omega, by first | rfl | go_num, rfl⟩ | exact ⟨4, by omega, by first | rfl | go_num, rfl⟩ | exact ⟨5, by omega, by first | rfl | go_num, rfl⟩ | exact ⟨6, by omega, by first | rfl | go_num, rfl⟩ | exact ⟨7, by omega, by first | rfl | go_num, rfl⟩ | exact ⟨8, by omega, by first | rfl | go_num, rfl⟩
      case measure => simp [intOf]
end Go.Proofs.YtpkkhkkkgjhkeabGreat

/-
  THE WALKS of book.within, isNamed, isChart, areEntries, arePeriods, inBounds.
-/
namespace Go.Proofs.YtpkkhkkkgjhkeabGreat
open Go.RowKit
set_option maxRecDepth 100000

theorem ret_bool3 {a b : Bool} (h : a = b) : Ending.returned (.bool a) = .returned (.bool b) := by rw [h]

set_option maxHeartbeats 400000 in
/-- book.within. -/
theorem within_any (n a b : Int) (w : World) :
    Calls Tryz.prog 95 #[.int .i64 n, .int .i64 a, .int .i64 b] w fun e w' => e = .returned (.bool (decide (a ≤ n ∧ n ≤ b))) ∧ w = w' := by
  by_cases h1 : a ≤ n
  · by_cases h2 : n ≤ b
    · have HD : Hid (decide (a ≤ n ∧ n ≤ b) = true) := decide_eq_true ⟨h1, h2⟩
      rw [HD.out]
      go_enter Tryz.func95, Tryz.ntmps95
      go_wp2_with fail
      go_ret
      exact ⟨rfl, rfl⟩
    · have HD : Hid (decide (a ≤ n ∧ n ≤ b) = false) := decide_eq_false (fun h => h2 h.2)
      rw [HD.out]
      go_enter Tryz.func95, Tryz.ntmps95
      go_wp2_with fail
      go_ret
      exact ⟨rfl, rfl⟩
  · have HD : Hid (decide (a ≤ n ∧ n ≤ b) = false) := decide_eq_false (fun h => h1 h.1)
    rw [HD.out]
    go_enter Tryz.func95, Tryz.ntmps95
    go_wp2_with fail
    go_ret
    exact ⟨rfl, rfl⟩
theorem within_yes (n a b : Int) (w : World) (h : a ≤ n ∧ n ≤ b) :
    Calls Tryz.prog 95 #[.int .i64 n, .int .i64 a, .int .i64 b] w fun e w' => e = .returned (.bool true) ∧ w = w' := by
  have := within_any n a b w
  rw [decide_eq_true h] at this
  exact this
theorem within_no (n a b : Int) (w : World) (h : ¬ (a ≤ n ∧ n ≤ b)) :
    Calls Tryz.prog 95 #[.int .i64 n, .int .i64 a, .int .i64 b] w fun e w' => e = .returned (.bool false) ∧ w = w' := by
  have := within_any n a b w
  rw [decide_eq_false h] at this
  exact this

/-- Whether one of the accounts has that name. -/
def Sg.named (x : ByteArray) (ac : List Sg.Acc) : Prop := ∃ j, ∃ h : j < ac.length, ac[j].name = x

set_option maxHeartbeats 1600000 in
/-- book.isNamed. -/
theorem isNamed_any (x : ByteArray) (ac : List Sg.Acc) (ao : Option Addr) (n cap : Nat) (w : World) (hn : ac.length = n) (hn8 : n ≤ 8) (hA : AccsIn w ao ac) :
    Calls Tryz.prog 96 #[.string x, .slice ao n cap] w fun e w' => ∃ r, e = .returned (.bool r) ∧ (r = true ↔ Sg.named x ac) ∧ Below w.heap.size w w' := by
  have HN : Hid (ac.length = n) := hn
  clear hn
  go_enter Tryz.func96, Tryz.ntmps96
  go_wp2_with fail
  go_loopw [9] (fun i wr => ∃ k : Nat, k ≤ n ∧ i = .int .i64 (k : Int) ∧ Hid (∀ j (h : j < ac.length), j < k → ac[j].name ≠ x) ∧ Below w.heap.size w wr) (fun i _ => n - (intOf i).toNat)
  case atStart => exact ⟨0, by omega, rfl, fun j _ hj => by omega, Below.refl _ _⟩
  case round =>
    obtain ⟨k, hk, rfl, HK, hb⟩ := hrel
    by_cases hlt : k < n
    · have hka : k < ac.length := by rw [HN.out]; exact hlt
      obtain ⟨b, off, hao, hbw, hc0, hc1⟩ := (hA.below hb).cell (k := k) hka
      subst hao
      have HY : Hid (ac[k].name = x → Sg.named x ac) := fun e => ⟨k, hka, e⟩
      have HG : Hid (ac[k].name ≠ x → ∀ j (h : j < ac.length), j < k + 1 → ac[j].name ≠ x) := fun e j hj hjk => by
        by_cases e' : j = k
        · subst e'; exact e
        · exact HK.out j hj (by omega)
      have i1 : (0 : Int) ≤ (k : Int) := by omega
      have i2 : (k : Int) < (n : Int) := by omega
      generalize ac[k].name = z at *
      generalize ac[k].line = ln at *
      have hsz := hb.size
      clear hA HK
      by_cases ez : z.toList = x.toList
      · have HF : Hid (Sg.named x ac) := HY.out (txt_inj2 ez)
        have ezb : (z.toList == x.toList) = true := by simp [ez]
        go_wp2_with fail
        go_ret
        exact ⟨_, rfl, ⟨fun _ => HF.out, fun _ => rfl⟩, hb.alloc (by omega) _⟩
      · have HF : Hid (∀ j (h : j < ac.length), j < k + 1 → ac[j].name ≠ x) := HG.out (fun e => ez (by rw [e]))
        have ezb : (z.toList == x.toList) = false := by simp [ez]
        go_wp2_with fail
        go_roundw
        case rel => exact ⟨k + 1, by omega, by go_num, HF, hb.alloc (by omega) _⟩
        case measure => simp [intOf]; omega
    · have HF : Hid (¬ Sg.named x ac) := by
        rintro ⟨j, hj, e⟩
        exact HK.out j hj (by have := HN.out; omega) e
      go_wp2_with fail
      go_ret
      exact ⟨_, rfl, ⟨fun h => by simp at h, fun h => absurd h HF.out⟩, hb⟩

theorem AccsIn.take {w : World} {ao : Option Addr} {ac : List Sg.Acc} (h : AccsIn w ao ac) (k : Nat) : AccsIn w ao (ac.take k) := by
  rcases h with h0 | ⟨b, off, e, hbw, hat⟩
  · left; rw [List.length_take]; omega
  · right
    refine ⟨b, off, e, hbw, fun i hi => ?_⟩
    rw [List.length_take] at hi
    have := hat i (by omega)
    simpa using this
theorem Sg.named_take {ac : List Sg.Acc} {x : ByteArray} {k : Nat} : Sg.named x (ac.take k) ↔ ∃ j, ∃ h : j < ac.length, j < k ∧ ac[j].name = x := by
  constructor
  · rintro ⟨j, hj, e⟩
    rw [List.length_take] at hj
    exact ⟨j, by omega, by omega, by simpa using e⟩
  · rintro ⟨j, hj, hjk, e⟩
    exact ⟨j, by rw [List.length_take]; omega, by simpa using e⟩

set_option maxHeartbeats 3200000 in
/-- book.isChart. -/
theorem isChart_any (ac : List Sg.Acc) (ao : Option Addr) (n cap : Nat) (w : World) (hn : ac.length = n) (hnc : n ≤ cap) (_hcap : cap ≤ 9223372036854775807) (hA : AccsIn w ao ac) (hsA : ∀ a ∈ ac, a.name.size ≤ 140737488355328 ∧ Sg.fits a.line = true) :
    Calls Tryz.prog 55 #[.slice ao n cap] w fun e w' => ∃ r, e = .returned (.bool r) ∧ (r = true ↔ ((1 ≤ n ∧ n ≤ 8) ∧ Sg.accsOk ac = true)) ∧ Below w.heap.size w w' := by
  have HN : Hid (ac.length = n) := hn
  clear hn
  by_cases g : 1 ≤ n ∧ n ≤ 8
  · have hw := fun W => within_yes (n : Int) 1 8 W (by omega)
    go_enter Tryz.func55, Tryz.ntmps55
    go_wp2_with (go_at_call 95; refine (hw _).mono ?_; rintro e w' ⟨rfl, rfl⟩)
    go_loopw [11] (fun i wr => ∃ k : Nat, k ≤ n ∧ i = .int .i64 (k : Int) ∧ Hid (Sg.accsTo ac k) ∧ Below w.heap.size w wr) (fun i _ => n - (intOf i).toNat)
    case atStart => exact ⟨0, by omega, rfl, fun j _ hj => by omega, Below.refl _ _⟩
    case round =>
      obtain ⟨k, hk, rfl, HT, hb⟩ := hrel
      obtain ⟨wz, ewz⟩ : ∃ z : World, z = wr := ⟨_, rfl⟩
      subst ewz
      by_cases hlt : k < n
      · have hka : k < ac.length := by rw [HN.out]; exact hlt
        obtain ⟨b, off, hao, hbw, hc0, hc1⟩ := (hA.below hb).cell (k := k) hka
        subst hao
        have hAr := (hA.below hb).take k
        have HNk : Hid ((ac.take k).length = k) := by show _ = _; rw [List.length_take]; omega
        obtain ⟨hx1, hx2⟩ := hsA ac[k] (List.getElem_mem _)
        have HBad : Hid (Sg.accOk ac[k] = false → ¬ Sg.accsOk ac = true) := fun e => by rw [Sg.accsTo_bad hka (Or.inl e)]; simp
        have HTwo : Hid (Sg.named ac[k].name (ac.take k) → ¬ Sg.accsOk ac = true) := fun e => by
          obtain ⟨j, hj, hjk, e'⟩ := Sg.named_take.1 e
          rw [Sg.accsTo_bad hka (Or.inr ⟨j, hj, hjk, e'⟩)]; simp
        have HGo : Hid (Sg.accOk ac[k] = true → ¬ Sg.named ac[k].name (ac.take k) → Sg.accsTo ac (k + 1)) := fun e1 e2 => Sg.accsTo_succ hka HT.out e1 (fun j hj hjk e => e2 (Sg.named_take.2 ⟨j, hj, hjk, e⟩))
        obtain ⟨x, ln, hax⟩ : ∃ x ln, ac[k] = ⟨x, ln⟩ := ⟨ac[k].name, ac[k].line, rfl⟩
        rw [hax] at hc0 hc1 hx1 hx2 HBad HTwo HGo
        simp only at hc0 hc1 hx1 HTwo HGo
        have hfl : -9223372036854775808 ≤ ln ∧ ln ≤ 9223372036854775807 := of_decide_eq_true hx2
        clear hax hx2 hA hsA HT
        have i1 : (0 : Int) ≤ (k : Int) := by omega
        have i2 : (k : Int) < (n : Int) := by omega
        have i3 : (k : Int) ≤ (cap : Int) := by omega
        have i4 : (k : Int) ≤ (n : Int) := by omega
        have hsz := hb.size
        by_cases o1 : 1 ≤ x.size ∧ x.size ≤ 12
        · have hw1 := fun W => within_yes (x.size : Int) 1 12 W (by omega)
          by_cases o2 : 0 ≤ ln ∧ ln ≤ 3
          · have hw2 := fun W => within_yes ln 0 3 W o2
            have HOk : Hid (Sg.accOk ⟨x, ln⟩ = true) := decide_eq_true ⟨o1.1, o1.2, o2.1, o2.2⟩
            clear o1 o2
            go_wp2_with fail
            go_region_held3 (fun w' => w'.cell? ⟨wz.heap.size, 0, none⟩ = some (.string x) ∧ w'.cell? ⟨wz.heap.size, 1, none⟩ = some (.int .i64 ln) ∧ Past wz w') (first | assumption | exact past_new | exact past_drew past_new | exact past_drew (w := wz) (x := .string x) (y := .int .i64 ln) (by assumption))
              (first
                | (go_at_call_of 95 (Value.int IntKind.i64 12); refine (hw1 _).mono ?_; rintro e w' ⟨rfl, rfl⟩)
                | (go_at_call 95; refine (hw2 _).mono ?_; rintro e w' ⟨rfl, rfl⟩)
                | (go_at_call 96; refine (isNamed_any x (ac.take k) _ k cap _ HNk.out (by omega) (hAr.below (by first | exact past_new.2.2.below | exact (past_drew past_new).2.2.below))).mono ?_; rintro e w2 ⟨r, rfl, hr, hb2⟩; have hh2 := past_call (w := wz) (x := .string x) (y := .int .i64 ln) (by assumption) hb2))
            have hbe := hb.trans (hh2.2.2.below.mono hsz)
            cases r
            · have HF : Hid (Sg.accsTo ac (k + 1)) := HGo.out HOk.out (fun h => by have := hr.2 h; simp at this)
              clear hh2 HGo HTwo hAr hr
              go_wp2_with fail
              go_roundw
              case rel => exact ⟨k + 1, by omega, by go_num, HF, hbe⟩
              case measure => simp [intOf]; omega
            · have HF : Hid (¬ Sg.accsOk ac = true) := HTwo.out (hr.1 rfl)
              clear hh2 HGo HTwo hAr hr
              go_wp2_with fail
              go_ret
              exact ⟨_, rfl, ⟨fun h => by simp at h, fun h => absurd h.2 HF.out⟩, hbe⟩
          · have hw2 := fun W => within_no ln 0 3 W o2
            have HF : Hid (¬ Sg.accsOk ac = true) := HBad.out (by unfold Sg.accOk; exact decide_eq_false (fun h => o2 ⟨h.2.2.1, h.2.2.2⟩))
            clear o1 o2 HGo HTwo hAr HBad
            go_wp2_with fail
            go_quiet (first
                | (go_at_call_of 95 (Value.int IntKind.i64 12); exact Calls.quiet_of_same ((hw1 _).mono fun _ _ h => ⟨h.1, h.2.symm⟩))
                | (go_at_call 95; exact Calls.quiet_of_same ((hw2 _).mono fun _ _ h => ⟨h.1, h.2.symm⟩)))
            go_wp2_with fail
            go_ret
            exact ⟨_, rfl, ⟨fun h => by simp at h, fun h => absurd h.2 HF.out⟩, by first | exact (hb.alloc hsz _).drew | exact hb.alloc hsz _ | exact below_drewN (hb.alloc hsz _) _⟩
        · have hw1 := fun W => within_no (x.size : Int) 1 12 W (by omega)
          have HF : Hid (¬ Sg.accsOk ac = true) := HBad.out (by unfold Sg.accOk; exact decide_eq_false (fun h => o1 ⟨h.1, h.2.1⟩))
          clear o1 HGo HTwo hAr HBad
          go_wp2_with fail
          go_quiet (first
              | (go_at_call_of 95 (Value.int IntKind.i64 12); exact Calls.quiet_of_same ((hw1 _).mono fun _ _ h => ⟨h.1, h.2.symm⟩)))
          go_wp2_with fail
          go_ret
          exact ⟨_, rfl, ⟨fun h => by simp at h, fun h => absurd h.2 HF.out⟩, by first | exact (hb.alloc hsz _).drew | exact hb.alloc hsz _ | exact below_drewN (hb.alloc hsz _) _⟩
      · have HF : Hid (Sg.accsOk ac = true) := (Sg.accsOk_iff ac).2 (by
          have e : k = ac.length := by rw [HN.out]; omega
          have := HT.out
          rw [e] at this
          exact this)
        go_wp2_with fail
        go_ret
        exact ⟨_, rfl, ⟨fun _ => ⟨g, HF.out⟩, fun _ => rfl⟩, hb⟩
  · have hw := fun W => within_no (n : Int) 1 8 W (by omega)
    go_enter Tryz.func55, Tryz.ntmps55
    go_wp2_with (go_at_call 95; refine (hw _).mono ?_; rintro e w' ⟨rfl, rfl⟩)
    go_ret
    exact ⟨_, rfl, ⟨fun h => by simp at h, fun h => absurd h.1 g⟩, Below.refl _ _⟩

set_option maxHeartbeats 1600000 in
/-- book.areEntries. -/
theorem areEntries_any (es : List Sg.Ent) (ao : Option Addr) (n cap : Nat) (w : World) (hn : es.length = n) (hn47 : n ≤ 140737488355328) (hE : EntsIn w ao es) (hsE : ∀ e ∈ es, e.memo.size ≤ 140737488355328 ∧ e.posts.length ≤ 140737488355328) :
    Calls Tryz.prog 97 #[.slice ao n cap] w fun e w' => ∃ r, e = .returned (.bool r) ∧ (r = true ↔ Sg.perOk es = true) ∧ Below w.heap.size w w' := by
  have HN : Hid (es.length = n) := hn
  clear hn
  by_cases g : n ≤ 12
  · have g' : ¬ 12 < (n : Int) := by omega
    go_enter Tryz.func97, Tryz.ntmps97
    go_wp2_with fail
    go_loopw [10] (fun i wr => ∃ k : Nat, k ≤ n ∧ i = .int .i64 (k : Int) ∧ Hid (Sg.entsOkTo es k) ∧ Below w.heap.size w wr) (fun i _ => n - (intOf i).toNat)
    case atStart => exact ⟨0, by omega, rfl, fun j _ hj => by omega, Below.refl _ _⟩
    case round =>
      obtain ⟨k, hk, rfl, HT, hb⟩ := hrel
      obtain ⟨wz, ewz⟩ : ∃ z : World, z = wr := ⟨_, rfl⟩
      subst ewz
      have hsz := hb.size
      by_cases hlt : k < n
      · have hka : k < es.length := by rw [HN.out]; exact hlt
        obtain ⟨b, off, hao, hbw, hc0, ao', cap', hc1, hps⟩ := (hE.below hb).cell (k := k) hka
        subst hao
        obtain ⟨hx1, hx2⟩ := hsE es[k] (List.getElem_mem _)
        have HBad : Hid (Sg.entOk es[k] = false → ¬ Sg.perOk es = true) := fun e => by rw [Sg.perOk_bad hka e]; simp
        have HGo : Hid (Sg.entOk es[k] = true → Sg.entsOkTo es (k + 1)) := fun e i hi hik => by
          by_cases e' : i = k
          · subst e'; exact e
          · exact HT.out i hi (by omega)
        have HE : Hid (Sg.entOk es[k] = decide (es[k].memo.size ≤ 20 ∧ 1 ≤ es[k].posts.length ∧ es[k].posts.length ≤ 6)) := rfl
        generalize es[k].memo = x at *
        generalize es[k].posts.length = np at *
        clear hE hsE HT hps
        have i1 : (0 : Int) ≤ (k : Int) := by omega
        have i2 : (k : Int) < (n : Int) := by omega
        by_cases o1 : x.size ≤ 20
        · have o1' : ¬ 20 < (x.size : Int) := by omega
          by_cases o2 : 1 ≤ np ∧ np ≤ 6
          · have hw1 := fun W => within_yes (np : Int) 1 6 W (by omega)
            have HF : Hid (Sg.entsOkTo es (k + 1)) := HGo.out (by rw [HE.out]; exact decide_eq_true ⟨o1, o2⟩)
            clear o1 o2 HGo HE HBad
            go_wp2_with (go_at_call 95; refine (hw1 _).mono ?_; rintro e w' ⟨rfl, rfl⟩)
            go_roundw
            case rel => exact ⟨k + 1, by omega, by go_num, HF, hb.alloc hsz _⟩
            case measure => simp [intOf]; omega
          · have hw1 := fun W => within_no (np : Int) 1 6 W (by omega)
            have HF : Hid (¬ Sg.perOk es = true) := HBad.out (by rw [HE.out]; exact decide_eq_false (fun h => o2 h.2))
            clear o1 o2 HGo HE HBad
            go_wp2_with (go_at_call 95; refine (hw1 _).mono ?_; rintro e w' ⟨rfl, rfl⟩)
            go_ret
            exact ⟨_, rfl, ⟨fun h => by simp at h, fun h => absurd h HF.out⟩, hb.alloc hsz _⟩
        · have o1' : 20 < (x.size : Int) := by omega
          have HF : Hid (¬ Sg.perOk es = true) := HBad.out (by rw [HE.out]; exact decide_eq_false (fun h => o1 h.1))
          clear o1 HGo HE HBad
          go_wp2_with fail
          go_ret
          exact ⟨_, rfl, ⟨fun h => by simp at h, fun h => absurd h HF.out⟩, hb.alloc hsz _⟩
      · have HF : Hid (Sg.perOk es = true) := Sg.perOk_all (by
          have e : k = es.length := by rw [HN.out]; omega
          have := HT.out
          rw [e] at this
          exact this) (by rw [HN.out]; exact g)
        go_wp2_with fail
        go_ret
        exact ⟨_, rfl, ⟨fun _ => HF.out, fun _ => rfl⟩, hb⟩
  · have g' : 12 < (n : Int) := by omega
    have HF : Hid (¬ Sg.perOk es = true) := by
      show ¬ _
      unfold Sg.perOk
      rw [decide_eq_false (by rw [HN.out]; exact g)]; simp
    go_enter Tryz.func97, Tryz.ntmps97
    go_wp2_with fail
    go_ret
    exact ⟨_, rfl, ⟨fun h => by simp at h, fun h => absurd h HF.out⟩, Below.refl _ _⟩

/-- A test's answer, by what it says. -/
theorem told {f : FuncId} {args : Array Value} {w : World} {p : Prop} (h : Calls Tryz.prog f args w fun e w' => ∃ r, e = .returned (.bool r) ∧ (r = true ↔ p) ∧ Below w.heap.size w w') (d : Bool) (hd : d = true ↔ p) :
    Calls Tryz.prog f args w fun e w' => e = .returned (.bool d) ∧ Below w.heap.size w w' := by
  refine h.mono ?_
  rintro e w' ⟨r, rfl, hr, hb⟩
  exact ⟨ret_bool3 (by rw [Bool.eq_iff_iff, hr, hd]), hb⟩

set_option maxHeartbeats 1600000 in
/-- book.arePeriods. -/
theorem arePeriods_any (ps : List (List Sg.Ent)) (ao : Option Addr) (n cap : Nat) (w : World) (hn : ps.length = n) (hP : PersIn w ao ps)
    (hsP : ∀ p ∈ ps, p.length ≤ 140737488355328 ∧ ∀ e ∈ p, e.memo.size ≤ 140737488355328 ∧ e.posts.length ≤ 140737488355328) :
    Calls Tryz.prog 56 #[.slice ao n cap] w fun e w' => ∃ r, e = .returned (.bool r) ∧ (r = true ↔ ((1 ≤ n ∧ n ≤ 6) ∧ ps.all Sg.perOk = true)) ∧ Below w.heap.size w w' := by
  have HN : Hid (ps.length = n) := hn
  clear hn
  by_cases g : 1 ≤ n ∧ n ≤ 6
  · have hw := fun W => within_yes (n : Int) 1 6 W (by omega)
    go_enter Tryz.func56, Tryz.ntmps56
    go_wp2_with (go_at_call 95; refine (hw _).mono ?_; rintro e w' ⟨rfl, rfl⟩)
    go_loopw [11] (fun i wr => ∃ k : Nat, k ≤ n ∧ i = .int .i64 (k : Int) ∧ Hid (Sg.persOkTo ps k) ∧ Below w.heap.size w wr) (fun i _ => n - (intOf i).toNat)
    case atStart => exact ⟨0, by omega, rfl, fun j _ hj => by omega, Below.refl _ _⟩
    case round =>
      obtain ⟨k, hk, rfl, HT, hb⟩ := hrel
      obtain ⟨wz, ewz⟩ : ∃ z : World, z = wr := ⟨_, rfl⟩
      subst ewz
      have hsz := hb.size
      by_cases hlt : k < n
      · have hka : k < ps.length := by rw [HN.out]; exact hlt
        obtain ⟨b, off, hao, hbw, ao', cap', hc1, hE⟩ := (hP.below hb).cell (k := k) hka
        subst hao
        obtain ⟨hx1, hx2⟩ := hsP ps[k] (List.getElem_mem _)
        have HBad : Hid (¬ Sg.perOk ps[k] = true → ¬ ps.all Sg.perOk = true) := fun e => by rw [Sg.persOk_bad hka (by simpa using e)]; simp
        have HGo : Hid (Sg.perOk ps[k] = true → Sg.persOkTo ps (k + 1)) := fun e i hi hik => by
          by_cases e' : i = k
          · subst e'; exact e
          · exact HT.out i hi (by omega)
        generalize ps[k] = es at *
        clear hP hsP HT
        have i1 : (0 : Int) ≤ (k : Int) := by omega
        have i2 : (k : Int) < (n : Int) := by omega
        obtain ⟨ne, hne⟩ : ∃ ne, es.length = ne := ⟨_, rfl⟩
        rw [hne] at hc1 hx1
        have hcall := fun W (h : Below wz.heap.size wz W) => areEntries_any es ao' ne cap' W hne hx1 (hE.below h) hx2
        clear hne
        by_cases hok : Sg.perOk es = true
        · have hcl := fun W h => told (hcall W h) true ⟨fun _ => hok, fun _ => rfl⟩
          have HF : Hid (Sg.persOkTo ps (k + 1)) := HGo.out hok
          clear hcall HGo HBad hok
          go_wp2_with (go_at_call 97; refine (hcl _ ((Below.refl _ _).alloc (Nat.le_refl _) _)).mono ?_; rintro e w2 ⟨rfl, hb2⟩)
          have hbe := (hb.alloc hsz _).trans (hb2.mono (by simp; omega))
          go_roundw
          case rel => exact ⟨k + 1, by omega, by go_num, HF, hbe⟩
          case measure => simp [intOf]; omega
        · have hcl := fun W h => told (hcall W h) false ⟨fun h => by simp at h, fun h => absurd h hok⟩
          have HF : Hid (¬ ps.all Sg.perOk = true) := HBad.out hok
          clear hcall HGo HBad hok
          go_wp2_with (go_at_call 97; refine (hcl _ ((Below.refl _ _).alloc (Nat.le_refl _) _)).mono ?_; rintro e w2 ⟨rfl, hb2⟩)
          have hbe := (hb.alloc hsz _).trans (hb2.mono (by simp; omega))
          go_ret
          exact ⟨_, rfl, ⟨fun h => by simp at h, fun h => absurd h.2 HF.out⟩, hbe⟩
      · have HF : Hid (ps.all Sg.perOk = true) := Sg.persOk_all (by
          have e : k = ps.length := by rw [HN.out]; omega
          have := HT.out
          rw [e] at this
          exact this)
        go_wp2_with fail
        go_ret
        exact ⟨_, rfl, ⟨fun _ => ⟨g, HF.out⟩, fun _ => rfl⟩, hb⟩
  · have hw := fun W => within_no (n : Int) 1 6 W (by omega)
    go_enter Tryz.func56, Tryz.ntmps56
    go_wp2_with (go_at_call 95; refine (hw _).mono ?_; rintro e w' ⟨rfl, rfl⟩)
    go_ret
    exact ⟨_, rfl, ⟨fun h => by simp at h, fun h => absurd h.1 g⟩, Below.refl _ _⟩

set_option maxHeartbeats 1600000 in
/-- book.inBounds. -/
theorem inBounds_any (h : Sg.Hist) (aoA aoP : Option Addr) (nA nP capA capP : Nat) (w : World) (hlA : h.accs.length = nA) (hlP : h.pers.length = nP) (hnc : nA ≤ capA) (hcap : capA ≤ 9223372036854775807) (hA : AccsIn w aoA h.accs) (hP : PersIn w aoP h.pers)
    (hsA : ∀ a ∈ h.accs, a.name.size ≤ 140737488355328 ∧ Sg.fits a.line = true) (hsP : ∀ p ∈ h.pers, p.length ≤ 140737488355328 ∧ ∀ e ∈ p, e.memo.size ≤ 140737488355328 ∧ e.posts.length ≤ 140737488355328) :
    Calls Tryz.prog 29 #[.agg #[.slice aoA nA capA, .slice aoP nP capP]] w fun e w' => e = .returned (.bool (Sg.inBounds h)) ∧ Below w.heap.size w w' := by
  have HI : Hid (Sg.inBounds h = decide (((1 ≤ nA ∧ nA ≤ 8) ∧ Sg.accsOk h.accs = true) ∧ ((1 ≤ nP ∧ nP ≤ 6) ∧ h.pers.all Sg.perOk = true))) := by
    show _ = _
    unfold Sg.inBounds
    rw [hlA, hlP, Bool.eq_iff_iff]
    simp only [Bool.and_eq_true, decide_eq_true_eq]
    constructor
    · rintro ⟨⟨⟨a, b, c, d⟩, e⟩, f⟩; exact ⟨⟨⟨a, b⟩, e⟩, ⟨c, d⟩, f⟩
    · rintro ⟨⟨⟨a, b⟩, e⟩, ⟨c, d⟩, f⟩; exact ⟨⟨⟨a, b, c, d⟩, e⟩, f⟩
  have hc1 := fun W (hb : Below w.heap.size w W) => isChart_any h.accs aoA nA capA W hlA hnc hcap (hA.below hb) hsA
  have hc2 := fun W (hb : Below w.heap.size w W) => arePeriods_any h.pers aoP nP capP W hlP (hP.below hb) hsP
  have hpw := past_new (w := w) (x := .slice aoA nA capA) (y := .slice aoP nP capP) (t := 26)
  clear hA hP hsA hsP hlA hlP
  by_cases hok : (1 ≤ nA ∧ nA ≤ 8) ∧ Sg.accsOk h.accs = true
  · have hcl := fun W hb => told (hc1 W hb) true ⟨fun _ => hok, fun _ => rfl⟩
    have hcm := fun W hb => told (hc2 W hb) (decide ((1 ≤ nP ∧ nP ≤ 6) ∧ h.pers.all Sg.perOk = true)) (by rw [decide_eq_true_eq])
    have HF : Hid (decide ((1 ≤ nP ∧ nP ≤ 6) ∧ h.pers.all Sg.perOk = true) = Sg.inBounds h) := by
      show _ = _
      rw [HI.out, Bool.eq_iff_iff]; simp only [decide_eq_true_eq]
      exact ⟨fun g => ⟨hok, g⟩, fun g => g.2⟩
    clear hc1 hc2 HI hok
    generalize decide ((1 ≤ nP ∧ nP ≤ 6) ∧ h.pers.all Sg.perOk = true) = d at *
    go_enter Tryz.func29, Tryz.ntmps29
    go_wp2_with (first | (go_at_call 55; refine (hcl _ hpw.2.2.below).mono ?_; rintro e w2 ⟨rfl, hb2⟩; have hp2 := past_call hpw hb2; have hp2b := hp2.2.2.below; have hd0 := hp2.1; have hd1 := hp2.2.1) | (go_at_call 56; refine (hcm _ (by assumption)).mono ?_; rintro e w3 ⟨rfl, hb3⟩))
    have hp3 := past_call hp2 hb3
    go_ret
    exact ⟨ret_bool3 HF.out, hp3.2.2.below⟩
  · have hcl := fun W hb => told (hc1 W hb) false ⟨fun h => by simp at h, fun h => absurd h hok⟩
    have HF : Hid (false = Sg.inBounds h) := by
      show _ = _
      rw [HI.out]
      exact (decide_eq_false (fun g => hok g.1)).symm
    clear hc1 hc2 HI hok
    go_enter Tryz.func29, Tryz.ntmps29
    go_wp2_with (go_at_call 55; refine (hcl _ hpw.2.2.below).mono ?_; rintro e w2 ⟨rfl, hb2⟩)
    have hp2 := past_call hpw hb2
    go_ret
    exact ⟨ret_bool3 HF.out, hp2.2.2.below⟩
end Go.Proofs.YtpkkhkkkgjhkeabGreat
