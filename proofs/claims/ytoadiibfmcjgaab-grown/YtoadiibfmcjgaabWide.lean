/-
  THE WALKS of signetref.Wide: whole numbers by two.
-/
import Derived.Test.YtoadiibfmcjgaabBytes
import Derived.Test.YtoadiibfmcjgaabSpec
namespace Go.Proofs.Ytoadiibfmcjgaab
open Go.RowKit
set_option maxRecDepth 100000

/-- A whole number, as the reference holds it. -/
def wHi (v : Int) : Int := v / 4294967296
def wLo (v : Int) : Int := v % 4294967296
/-- What is far from the ends. -/
def Tame (v : Int) : Prop := -1208925819614629174706176 ≤ v ∧ v ≤ 1208925819614629174706176

theorem add_low (l n : Int) (hl : 0 ≤ l ∧ l < 4294967296) : wrap64 (l + wrap64 ((IntKind.u64.wrap n).tmod 4294967296)) = l + n % 4294967296 := by
  have e0 : IntKind.u64.wrap n = n % 18446744073709551616 := by simp [IntKind.wrap, IntKind.bits, IntKind.signed]
  have e1 : (n % 18446744073709551616).tmod 4294967296 = n % 4294967296 := by
    rw [Int.tmod_eq_emod_of_nonneg (by omega)]; omega
  rw [e0, e1]
  unfold wrap64
  omega
theorem add_hi (h l n : Int) (hh : -281474976710656 ≤ h ∧ h ≤ 281474976710656) (hl : 0 ≤ l ∧ l < 4294967296) (hn : -9223372036854775808 ≤ n ∧ n ≤ 9223372036854775807) :
    wrap64 (h + n / 4294967296 + wrap64 ((wrap64 (l + wrap64 ((IntKind.u64.wrap n).tmod 4294967296))).tdiv 4294967296)) = h + n / 4294967296 + (l + n % 4294967296) / 4294967296 := by
  rw [add_low l n hl, Int.tdiv_eq_ediv_of_nonneg (by omega)]
  unfold wrap64
  omega
theorem add_lo (l n : Int) (hl : 0 ≤ l ∧ l < 4294967296) : (wrap64 (l + wrap64 ((IntKind.u64.wrap n).tmod 4294967296))).tmod 4294967296 = (l + n % 4294967296) % 4294967296 := by
  rw [add_low l n hl, Int.tmod_eq_emod_of_nonneg (by omega)]

theorem ret_bool' {a b : Bool} (h : a = b) : Ending.returned (.bool a) = .returned (.bool b) := by rw [h]
theorem ret_num {a b : Int} (h : a = b) : Ending.returned (.int .i64 a) = .returned (.int .i64 b) := by rw [h]
end Go.Proofs.Ytoadiibfmcjgaab
