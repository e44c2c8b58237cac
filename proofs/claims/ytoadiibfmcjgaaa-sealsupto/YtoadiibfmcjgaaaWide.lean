/-
  THE WALKS of signetref.Wide: whole numbers by two.
-/
import Derived.Test.YtoadiibfmcjgaaaBytes
import Derived.Test.YtoadiibfmcjgaaaSpec
namespace Go.Proofs.Ytoadiibfmcjgaaa
open Go.RowKit
set_option maxRecDepth 100000

/-- A whole number, as the reference holds it. -/
def wHi (v : Int) : Int := v / 4294967296
def wLo (v : Int) : Int := v % 4294967296
/-- What is far from the ends. -/
def Tame (v : Int) : Prop := -1208925819614629174706176 ≤ v ∧ v ≤ 1208925819614629174706176

theorem add_low (l n : Int) (hl : 0 ≤ l ∧ l < 4294967296) : wrap64 (l + wrap64 ((IntKind.u64.wrap n).tmod 4294967296)) = l + n % 4294967296 := by
  have e0 : IntKind.u64.wrap n = n % 18446744073709551616 := by simp [IntKind.wrap, IntKind.bits, IntKind.signed]
  have e1 : (n % 18446744073709551616).tmod 4294967296 = n % 4294967296 := by
    rw [Int.tmod_eq_emod_of_nonneg (by omega)]; omega
  rw [e0, e1]
  unfold wrap64
  omega
theorem add_hi (h l n : Int) (hh : -281474976710656 ≤ h ∧ h ≤ 281474976710656) (hl : 0 ≤ l ∧ l < 4294967296) (hn : -9223372036854775808 ≤ n ∧ n ≤ 9223372036854775807) :
    wrap64 (h + n / 4294967296 + wrap64 ((wrap64 (l + wrap64 ((IntKind.u64.wrap n).tmod 4294967296))).tdiv 4294967296)) = h + n / 4294967296 + (l + n % 4294967296) / 4294967296 := by
  rw [add_low l n hl, Int.tdiv_eq_ediv_of_nonneg (by omega)]
  unfold wrap64
  omega
theorem add_lo (l n : Int) (hl : 0 ≤ l ∧ l < 4294967296) : (wrap64 (l + wrap64 ((IntKind.u64.wrap n).tmod 4294967296))).tmod 4294967296 = (l + n % 4294967296) % 4294967296 := by
  rw [add_low l n hl, Int.tmod_eq_emod_of_nonneg (by omega)]

set_option maxHeartbeats 800000 in
theorem wideAdd_raw (h l n : Int) (w : World) (hh : -281474976710656 ≤ h ∧ h ≤ 281474976710656) (hl : 0 ≤ l ∧ l < 4294967296) (hn : -9223372036854775808 ≤ n ∧ n ≤ 9223372036854775807) :
    Calls Try.prog 76 #[.agg #[.int .i64 h, .int .i64 l], .int .i64 n] w fun e w' => e = .returned (.agg #[.int .i64 (h + n / 4294967296 + (l + n % 4294967296) / 4294967296), .int .i64 ((l + n % 4294967296) % 4294967296)]) ∧ Below w.heap.size w w' := by
  have E1 : Hid (wrap64 (h + n / 4294967296 + wrap64 ((wrap64 (l + wrap64 ((IntKind.u64.wrap n).tmod 4294967296))).tdiv 4294967296)) = h + n / 4294967296 + (l + n % 4294967296) / 4294967296) := add_hi h l n hh hl hn
  have E2 : Hid ((wrap64 (l + wrap64 ((IntKind.u64.wrap n).tmod 4294967296))).tmod 4294967296 = (l + n % 4294967296) % 4294967296) := add_lo l n hl
  obtain ⟨hh1, hh2⟩ := hh
  obtain ⟨hl1, hl2⟩ := hl
  obtain ⟨hn1, hn2⟩ := hn
  go_enter Try.func76, Try.ntmps76
  go_wp2_with fail
  refine bodyPost_ret (v := .agg #[.int .i64 (wrap64 (h + n / 4294967296 + wrap64 ((wrap64 (l + wrap64 ((IntKind.u64.wrap n).tmod 4294967296))).tdiv 4294967296))), .int .i64 ((wrap64 (l + wrap64 ((IntKind.u64.wrap n).tmod 4294967296))).tmod 4294967296)]) (by simp [results, Try.results76, go_sem]) rfl ⟨?_, ((Below.refl _ _).alloc (Nat.le_refl _) _).alloc (by simp) _⟩
  rw [E1.out, E2.out]

/-- Wide.Add: a whole number and an amount. -/
theorem wideAdd_any (v n : Int) (w : World) (hv : Tame v) (hn : -9223372036854775808 ≤ n ∧ n ≤ 9223372036854775807) :
    Calls Try.prog 76 #[.agg #[.int .i64 (wHi v), .int .i64 (wLo v)], .int .i64 n] w fun e w' => e = .returned (.agg #[.int .i64 (wHi (v + n)), .int .i64 (wLo (v + n))]) ∧ Below w.heap.size w w' := by
  obtain ⟨h1, h2⟩ := hv
  have e1 : wHi v + n / 4294967296 + (wLo v + n % 4294967296) / 4294967296 = wHi (v + n) := by unfold wHi wLo; omega
  have e2 : (wLo v + n % 4294967296) % 4294967296 = wLo (v + n) := by unfold wLo; omega
  have := wideAdd_raw (wHi v) (wLo v) n w (by unfold wHi; omega) (by unfold wLo; omega) hn
  rw [e1, e2] at this
  exact this

theorem ret_bool' {a b : Bool} (h : a = b) : Ending.returned (.bool a) = .returned (.bool b) := by rw [h]
set_option maxHeartbeats 800000 in
/-- Wide.Fits. -/
theorem wideFits_any (v : Int) (w : World) :
    Calls Try.prog 77 #[.agg #[.int .i64 (wHi v), .int .i64 (wLo v)]] w fun e w' => e = .returned (.bool (Sg.fits v)) ∧ Below w.heap.size w w' := by
  have HF : Hid (Sg.fits v = (decide (-2147483648 ≤ wHi v) && decide (wHi v < 2147483648))) := by
    show _ = _
    unfold Sg.fits wHi
    rw [Bool.eq_iff_iff]; simp; omega
  generalize wHi v = h at *
  generalize wLo v = l at *
  by_cases h1 : -2147483648 ≤ h
  · by_cases h2 : h < 2147483648
    · go_enter Try.func77, Try.ntmps77
      go_wp2_with fail
      go_ret
      exact ⟨ret_bool' (by rw [HF.out]; simp [h1, h2]), (Below.refl _ _).alloc (Nat.le_refl _) _⟩
    · go_enter Try.func77, Try.ntmps77
      go_wp2_with fail
      go_ret
      exact ⟨ret_bool' (by rw [HF.out]; simp; omega), (Below.refl _ _).alloc (Nat.le_refl _) _⟩
  · go_enter Try.func77, Try.ntmps77
    go_wp2_with fail
    go_ret
    exact ⟨ret_bool' (by rw [HF.out]; simp; omega), (Below.refl _ _).alloc (Nat.le_refl _) _⟩

theorem ret_num {a b : Int} (h : a = b) : Ending.returned (.int .i64 a) = .returned (.int .i64 b) := by rw [h]
set_option maxHeartbeats 800000 in
/-- Wide.Int, of what fits. -/
theorem wideInt_any (v : Int) (w : World) (hv : Sg.fits v = true) :
    Calls Try.prog 78 #[.agg #[.int .i64 (wHi v), .int .i64 (wLo v)]] w fun e w' => e = .returned (.int .i64 v) ∧ Below w.heap.size w w' := by
  have hb : -9223372036854775808 ≤ v ∧ v ≤ 9223372036854775807 := of_decide_eq_true hv
  clear hv
  have e1 : Hid (wHi v * 4294967296 + wLo v = v) := by show _ = _; unfold wHi wLo; omega
  have b1 : -2147483648 ≤ wHi v ∧ wHi v < 2147483648 := by unfold wHi; omega
  have b2 : 0 ≤ wLo v ∧ wLo v < 4294967296 := by unfold wLo; omega
  generalize wHi v = h at *
  generalize wLo v = l at *
  obtain ⟨b11, b12⟩ := b1
  obtain ⟨b21, b22⟩ := b2
  clear hb
  go_enter Try.func78, Try.ntmps78
  go_wp2_with fail
  go_ret
  exact ⟨ret_num e1.out, (Below.refl _ _).alloc (Nat.le_refl _) _⟩
end Go.Proofs.Ytoadiibfmcjgaaa
