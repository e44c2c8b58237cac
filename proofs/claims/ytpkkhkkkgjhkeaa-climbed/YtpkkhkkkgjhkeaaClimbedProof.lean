import Derived.Test.YtpkkhkkkgjhkeaaBpath
import Derived.Test.YtpkkhkkkgjhkeaaOpen
import Derived.ProofKit
import Derived.OpenShut
import Derived.ShutString
import Derived.ChangeOld
import Derived.SizedLaws
import Derived.SliceStrings
import Derived.Carry
/-
  THE PROOF OF 'Rows.ClimbedSaid' (P4: from each leaf its path leads to the root).
-/
namespace Go.Proofs.Ytpkkhkkkgjhkeaa
set_option maxRecDepth 100000
open Go.ChangeShapes Go.WideShapes Go.ChangeAt Go.RowKit
open Go.ChangeMaps (open_string shut_string)

/-- The walk, for whatever came in. -/
theorem climbed_walk (ss : List ByteArray) (ao : Option Addr) (l cap : Nat) (c : Int) (other : ByteArray) (w : World) (hl : ss.length = l) (hlc : l ≤ cap) (hcap : cap ≤ 8796093022000) (hsz : ∀ s ∈ ss, s.size ≤ 140737488351232) (hos : other.size ≤ 140737488351232) (hc : -9223372036854775808 ≤ c ∧ c ≤ 9223372036854775807)
    (hss : StrsIn w ao ss) :
    Calls Try.prog 10 #[.slice ao l cap, .int .i64 c, .string other] w fun e w' => e = .returned (.bool true) ∧ Below w.heap.size w w' := by
  by_cases h : l = 0 ∨ 4096 < l
  · exact climbed_none ao l cap c other w h
  · rcases hss with h0 | ⟨b, off, rfl, hbw, hat⟩
    · omega
    · exact climbed_some ss b off l cap c other w hl (by omega) (by omega) hlc (by omega) (fun s hs => by have := hsz s hs; omega) (by omega) hc hbw hat

set_option maxRecDepth 100000 in
theorem climbed_lifted (os : Os) (started : os.Started) (H : Type) (enc : TypeId × Value → H) :
    ReturnsInHanded {} Try.checked os 10 .any (Rows.climbedSpec.pre6 enc Try.prog Try.f10 Rows.climbedRow.domain false) (Rows.climbedSpec.post enc Try.prog Try.f10 false true false false) := by
  refine returnsInHanded_of_change_sized (C := Try.checked) own' started (by kernel_rfl) Try.func10
    (ChangeSpec.witness6 (enc := enc) (C := Try.checked) false ⟨#[], #[.slice none 0 0, .int .i64 0, .string .empty], []⟩ 8 (by kernel_rfl) (by kernel_rfl) (by kernel_rfl) (by kernel_rfl)) ?_
  intro W base args ds gs before hval0 hW _ hsz0 _
  have hval : ∀ (j : Nat) t v, Try.f10.params[j]? = some t → args[j]? = some v → Value.okWide Try.prog W .any base t v := hval0
  have hsz : (DataW.weightsEach Try.prog (Try.f10.params.toList ++ Rows.climbedSpec.plain.varTypes Try.prog) (ds ++ gs)).all (· ≤ reachBytes) = true := hsz0
  have hW' := hW
  obtain ⟨p, q, hA0, hV, rfl, _, _⟩ := hW
  have hA : DataW.TrodAll enc Try.prog W 0 (fun _ => true) true Try.f10.params.toList args.toList ds p := hA0
  rw [Try.params10] at hA hval hsz
  obtain ⟨v0, vs0, d0, ds0, p0, q0, hargs, rfl, rfl, h0, r0⟩ := trodAll_cons hA
  obtain ⟨v1, vs1, d1, ds1, p1, q1, rfl, rfl, rfl, h1, r1⟩ := trodAll_cons r0
  obtain ⟨v2, vs2, d2, ds2, p2, q2, rfl, rfl, rfl, h2, r2⟩ := trodAll_cons r1
  obtain ⟨rfl, rfl, rfl⟩ := trodAll_nil r2
  obtain rfl : args = #[v0, v1, v2] := by cases args; simp_all
  obtain ⟨rfl, rfl⟩ := trodVars_none hV
  obtain ⟨ao, len, cap, ss, rfl, hl, hlc, hcap, hs1, hss, _⟩ := open_leaves (j := 0) (hval 0 24 v0 rfl rfl) h0 hsz rfl rfl
  obtain ⟨c, rfl, rfl, rfl, wc⟩ := open_int Try.underlying3 (hval 1 3 v1 rfl rfl) h1
  obtain ⟨s, rfl, rfl, rfl, hmax⟩ := open_string Try.underlying9 (hval 2 9 v2 rfl rfl) h2
  have hss2 := sized_string hsz (j := 2) (t := 9) rfl rfl
  have es : s.data.toList.length = s.size := by rw [Array.length_toList]; rfl
  rw [es, reachBytes] at hss2
  have lt0 : ∀ x ∈ p0, x.block < W.heap.size := by obtain ⟨m, hm⟩ := h0; exact DataW.trod_lt m _ _ _ hm
  have hcb : -9223372036854775808 ≤ c ∧ c ≤ 9223372036854775807 := by simpa [Lit.wf, IntKind.min, IntKind.max, IntKind.signed, IntKind.bits] using wc
  clear hA0 hval0
  refine (climbed_walk ss ao len cap c s W hl hlc hcap hs1 hss2 hcb hss).mono fun e W' ⟨he, bel⟩ => ?_
  subst he
  exact ⟨_, rfl, _, _, _, [], _, [], hW', trodAll_mk1 (shut_bool Try.underlying4 _),
    trodAll_cons_mk (Below.trod laidOut (by kernel_rfl) (of_decide_eq_true (by kernel_rfl)) h0 bel lt0) (trodAll_cons_mk (shut_int Try.underlying3 wc) (trodAll_cons_mk (shut_string Try.underlying9 hmax) trodAll_mk0)), rfl, bel.frame _, fun h => by cases h⟩

theorem climbed_over : Rows.climbedRow.holds Try.pinned (OpenSpec.ofChange Rows.climbedSpec) :=
  OpenClaim.holds_of_wide 10 Try.f10 rfl rfl rfl rfl rfl rfl rfl ⟨rfl, rfl, rfl, rfl, rfl⟩ rfl rfl rfl rfl rfl (by kernel_rfl) Try.func10 (by kernel_rfl)
    (of_decide_eq_true (by kernel_rfl)) (by unfold Func.isWrapper; first | (rw [if_pos (by decide +kernel)]; kernel_rfl) | (rw [if_neg (by decide +kernel)]; exact ⟨rfl, rfl⟩))
    (fun os started H enc _ => climbed_lifted os started H enc)

/-- The statement. -/
theorem climbed_proved : Rows.ClimbedSaid := climbed_over
#print axioms climbed_proved
end Go.Proofs.Ytpkkhkkkgjhkeaa
