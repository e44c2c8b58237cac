/-
  THE WALKS of whole.Number: whole numbers of 128 bits.
-/
import Derived.Test.YtoadiibfmcjgaaaChart
import Derived.Laws.Externs
import Derived.Deep.RegionHeld3
namespace Go.Proofs.Ytoadiibfmcjgaaa
open Go.RowKit
set_option maxRecDepth 100000

/-- A whole number, as the program holds it. -/
def nHi (v : Int) : Int := v / 18446744073709551616 % 18446744073709551616
def nLo (v : Int) : Int := v % 18446744073709551616
abbrev nV (v : Int) : Value := .agg #[.int .u64 (nHi v), .int .u64 (nLo v)]

theorem add64 (x y c : Int) (hx : 0 ≤ x) (hy : 0 ≤ y) (h0 : 0 ≤ c) (hc : c ≤ 1) (w : World) :
    (callFunc 122 #[.int .u64 x, .int .u64 y, .int .u64 c]).run Try.prog w = .ok (.value (.tuple #[.int .u64 ((x + y + c) % 18446744073709551616), .int .u64 ((x + y + c) / 18446744073709551616)])) w := by
  rw [run_callFunc_extern Try.func122 (by kernel_rfl) (by kernel_rfl) (by kernel_rfl) (e := add64Entry) (by kernel_rfl), run_add64 x y c hx hy h0 hc]
  simp only [Result.andThen]

theorem u64wrap (n : Int) : IntKind.u64.wrap n = n % 18446744073709551616 := by simp [IntKind.wrap, IntKind.bits, IntKind.signed]

set_option maxHeartbeats 800000 in
/-- Number.Plus: a whole number and an amount. -/
theorem plus_any (v n : Int) (w : World) (hn : -9223372036854775808 ≤ n ∧ n ≤ 9223372036854775807) :
    Calls Try.prog 107 #[nV v, .int .i64 n] w fun e w' => e = .returned (nV (v + n)) ∧ Below w.heap.size w w' := by
  obtain ⟨lo, hlo⟩ : ∃ z, z = (nLo v + IntKind.u64.wrap n + 0) % 18446744073709551616 := ⟨_, rfl⟩
  obtain ⟨cy, hcy⟩ : ∃ z, z = (nLo v + IntKind.u64.wrap n + 0) / 18446744073709551616 := ⟨_, rfl⟩
  have b1 : 0 ≤ nLo v ∧ nLo v < 18446744073709551616 := by unfold nLo; omega
  have b2 : 0 ≤ nHi v ∧ nHi v < 18446744073709551616 := by unfold nHi; omega
  have b3 : 0 ≤ IntKind.u64.wrap n ∧ IntKind.u64.wrap n < 18446744073709551616 := by rw [u64wrap]; omega
  have b4 : 0 ≤ IntKind.u64.wrap (n / 9223372036854775808) := by rw [u64wrap]; omega
  have A1 : ∀ W, (callFunc 122 #[.int .u64 (nLo v), .int .u64 (IntKind.u64.wrap n), .int .u64 0]).run Try.prog W = .ok (.value (.tuple #[.int .u64 lo, .int .u64 cy])) W := fun W => by
    rw [add64 _ _ _ b1.1 b3.1 (by omega) (by omega), ← hlo, ← hcy]
  have hc0 : 0 ≤ cy ∧ cy ≤ 1 := by rw [hcy]; omega
  obtain ⟨hi, hhi⟩ : ∃ z, z = (nHi v + IntKind.u64.wrap (n / 9223372036854775808) + cy) % 18446744073709551616 := ⟨_, rfl⟩
  obtain ⟨ju, hju⟩ : ∃ z, z = (nHi v + IntKind.u64.wrap (n / 9223372036854775808) + cy) / 18446744073709551616 := ⟨_, rfl⟩
  have A2 : ∀ W, (callFunc 122 #[.int .u64 (nHi v), .int .u64 (IntKind.u64.wrap (n / 9223372036854775808)), .int .u64 cy]).run Try.prog W = .ok (.value (.tuple #[.int .u64 hi, .int .u64 ju])) W := fun W => by
    rw [add64 _ _ _ b2.1 b4 hc0.1 hc0.2, ← hhi, ← hju]
  have E1 : Hid (lo = nLo (v + n)) := by show _ = _; rw [hlo, u64wrap]; unfold nLo; omega
  have E2 : Hid (hi = nHi (v + n)) := by
    show _ = _
    rw [hhi, hcy, u64wrap, u64wrap]
    unfold nHi nLo
    have q : (v + n) / 18446744073709551616 = v / 18446744073709551616 + n / 18446744073709551616 + (v % 18446744073709551616 + n % 18446744073709551616) / 18446744073709551616 := by omega
    have r : n / 9223372036854775808 = n / 18446744073709551616 := by omega
    rw [q, r, Int.add_zero]
    generalize v / 18446744073709551616 = x
    generalize n / 18446744073709551616 = y
    generalize (v % 18446744073709551616 + n % 18446744073709551616) / 18446744073709551616 = z
    omega
  clear hlo hcy hhi hju b1 b2 b3 b4 hc0
  show Calls Try.prog 107 #[.agg #[.int .u64 (nHi v), .int .u64 (nLo v)], .int .i64 n] w _
  generalize nLo v = l at *
  generalize nHi v = h at *
  obtain ⟨n1, n2⟩ := hn
  go_enter Try.func107, Try.ntmps107
  go_wp2_with (first | simp only [A1] | simp only [A2])
  refine bodyPost_ret (v := .agg #[.int .u64 hi, .int .u64 lo]) (by simp [results, Try.results107, go_sem]) rfl ⟨?_, ?_⟩
  · rw [E1.out, E2.out]
  · exact ((Below.refl _ _).alloc (Nat.le_refl _) _).alloc (by simp) _

set_option maxHeartbeats 800000 in
/-- Number.Int64. -/
theorem int64_raw (v : Int) (w : World) :
    Calls Try.prog 108 #[nV v] w fun e w' => e = .returned (.int .i64 (wrap64 (nLo v))) ∧ Below w.heap.size w w' := by
  show Calls Try.prog 108 #[.agg #[.int .u64 (nHi v), .int .u64 (nLo v)]] w _
  generalize nLo v = l at *
  generalize nHi v = h at *
  go_enter Try.func108, Try.ntmps108
  go_wp2_with fail
  go_ret
  exact ⟨rfl, (Below.refl _ _).alloc (Nat.le_refl _) _⟩

/-- Number.Int64, of what fits. -/
theorem int64_any (v : Int) (w : World) (hv : Sg.fits v = true) :
    Calls Try.prog 108 #[nV v] w fun e w' => e = .returned (.int .i64 v) ∧ Below w.heap.size w w' := by
  have hb : -9223372036854775808 ≤ v ∧ v ≤ 9223372036854775807 := of_decide_eq_true hv
  have e : wrap64 (nLo v) = v := by unfold wrap64 nLo; omega
  have := int64_raw v w
  rw [e] at this
  exact this

/-- Whether a number is that which its low half makes. -/
theorem fits_iff (v : Int) (hv : Tame v) : (nHi v = nHi (0 + wrap64 (nLo v)) ∧ nLo v = nLo (0 + wrap64 (nLo v))) ↔ Sg.fits v = true := by
  unfold Tame at hv
  unfold Sg.fits nHi nLo wrap64
  rw [decide_eq_true_eq]
  omega

set_option maxHeartbeats 1600000 in
/-- Number.Fits. -/
theorem numFits_any (v : Int) (w : World) (hv : Tame v) :
    Calls Try.prog 89 #[nV v] w fun e w' => e = .returned (.bool (Sg.fits v)) ∧ Below w.heap.size w w' := by
  have HF := fits_iff v hv
  have hw : -9223372036854775808 ≤ wrap64 (nLo v) ∧ wrap64 (nLo v) ≤ 9223372036854775807 := by unfold wrap64; omega
  have HB : Hid (Sg.fits v = decide (nHi v = nHi (0 + wrap64 (nLo v)) ∧ nLo v = nLo (0 + wrap64 (nLo v)))) := by
    show _ = _
    rw [Bool.eq_iff_iff, ← HF, decide_eq_true_eq]
  have hI := fun W => int64_raw v W
  have hP := fun W => plus_any 0 (wrap64 (nLo v)) W hw
  rw [HB.out]
  clear HB HF hv hw
  have hI' : ∀ W, Calls Try.prog 108 #[.agg #[.int .u64 (nHi v), .int .u64 (nLo v)]] W fun e w' => e = .returned (.int .i64 (wrap64 (nLo v))) ∧ Below W.heap.size W w' := hI
  have hP' : ∀ W, Calls Try.prog 107 #[.agg #[.int .u64 0, .int .u64 0], .int .i64 (wrap64 (nLo v))] W fun e w' => e = .returned (.agg #[.int .u64 (nHi (0 + wrap64 (nLo v))), .int .u64 (nLo (0 + wrap64 (nLo v)))]) ∧ Below W.heap.size W w' := hP
  clear hI hP
  show Calls Try.prog 89 #[.agg #[.int .u64 (nHi v), .int .u64 (nLo v)]] w _
  generalize nHi (0 + wrap64 (nLo v)) = h2 at *
  generalize nLo (0 + wrap64 (nLo v)) = l2 at *
  generalize wrap64 (nLo v) = m at *
  generalize nLo v = l at *
  generalize nHi v = h at *
  have HD : Hid (decide (h = h2 ∧ l = l2) = ((h == h2) && (l == l2))) := by
    show _ = _
    rw [Bool.eq_iff_iff]; simp
  rw [HD.out]
  clear HD
  obtain ⟨x, hx⟩ : ∃ x, (h == h2) = x := ⟨_, rfl⟩
  obtain ⟨y, hy⟩ : ∃ y, (l == l2) = y := ⟨_, rfl⟩
  rw [hx, hy]
  cases x <;> cases y
  all_goals
    go_enter Try.func89, Try.ntmps89
    go_wp2_with fail
    go_region_held3 (fun w' => w'.cell? ⟨w.heap.size, 0, none⟩ = some (.int .u64 h) ∧ w'.cell? ⟨w.heap.size, 1, none⟩ = some (.int .u64 l) ∧ Past w w') (first | assumption | exact past_new | exact past_drew past_new | exact past_drew (w := w) (x := .int .u64 h) (y := .int .u64 l) (by assumption))
      (first
        | (go_at_call 108; refine (hI' _).mono ?_; rintro e w1 ⟨rfl, hb1⟩; have hh1 := past_call (w := w) (x := .int .u64 h) (y := .int .u64 l) (by assumption) hb1)
        | (go_at_call 107; refine (hP' _).mono ?_; rintro e w2 ⟨rfl, hb2⟩; have hh2 := past_call (w := w) (x := .int .u64 h) (y := .int .u64 l) (by assumption) hb2))
    go_wp2_with fail
    go_ret
    exact ⟨rfl, hh2.2.2.below⟩
end Go.Proofs.Ytoadiibfmcjgaaa
