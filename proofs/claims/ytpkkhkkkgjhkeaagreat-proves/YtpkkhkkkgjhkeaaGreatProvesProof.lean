import Derived.Test.YtpkkhkkkgjhkeaaGreatRefProve
import Derived.Test.YtpkkhkkkgjhkeaaGreatOpen
/-
  THE WALK of signetlaw.Proves, and THE PROOF OF 'Rows.ProvesSaid' (P9: Prove of any text and numbers).
-/
namespace Go.Proofs.YtpkkhkkkgjhkeaaGreat
theorem Sg.prove_both (t : ByteArray) (i k : Int) : Sg.proveErr (Sg.pdHist (Sg.tx t)) t i k = Sg.proveErr (Sg.rdHist Sg.rdR (Sg.tx t)) t i k ∧ Sg.proveTxt (Sg.pdHist (Sg.tx t)) t i k = Sg.proveTxt (Sg.rdHist Sg.rdR (Sg.tx t)) t i k := by
  obtain ⟨i1, s1⟩ := Sg.read_both t
  by_cases h : Sg.isPk (Sg.pdHist (Sg.tx t)) t
  · rw [s1 h]; exact ⟨rfl, rfl⟩
  · have n1 : ¬ Sg.isPk (Sg.rdHist Sg.rdR (Sg.tx t)) t := fun c => h (i1.2 c)
    have e1 : Sg.proveErr (Sg.pdHist (Sg.tx t)) t i k = 5 := by unfold Sg.proveErr; rw [if_neg h]
    have e2 : Sg.proveErr (Sg.rdHist Sg.rdR (Sg.tx t)) t i k = 5 := by unfold Sg.proveErr; rw [if_neg n1]
    refine ⟨by rw [e1, e2], ?_⟩
    rw [Sg.proveTxt_none (by rw [e1]; decide), Sg.proveTxt_none (by rw [e2]; decide)]
section
open Go.RowKit
set_option maxRecDepth 100000
attribute [local go_sem ↓] Go.wp_at_zero Go.wp_at_succ
set_option maxHeartbeats 1600000 in
/-- signetlaw.Proves. -/
theorem lawProves_any (t : ByteArray) (i k : Int) (w : World) (ht : t.size ≤ 140737488355328) (hik : -9223372036854775808 ≤ i ∧ i ≤ 9223372036854775807) :
    Calls Tryz.prog 4 #[.string t, .int .i64 i, .int .i64 k] w fun e w' => e = .returned (.bool true) ∧ Below w.heap.size w w' := by
  have hc1 := fun W => prove_any t i k W hik
  have hc2 := fun W => refProve_any t i k W ht hik
  obtain ⟨e1, e2⟩ := Sg.prove_both t i k
  rw [e1, e2] at hc1
  clear e1 e2
  generalize Sg.proveErr (Sg.rdHist Sg.rdR (Sg.tx t)) t i k = er at *
  generalize Sg.proveTxt (Sg.rdHist Sg.rdR (Sg.tx t)) t i k = tx at *
  clear ht hik
  go_enter Tryz.func4, Tryz.ntmps4
  go_wp2_with fail
  refine (hc1 _).mono ?_
  rintro e w1 ⟨y1, rfl, hy1, b1⟩
  clear hc1
  go_wp2_with fail
  refine (hc2 _).mono ?_
  rintro e w2 ⟨y2, rfl, hy2, b2⟩
  have b2' := b1.trans (b2.mono b1.size)
  have hcmp : (y1.toList == y2.toList) = true := eq_list' (by rw [hy1.out, hy2.out])
  clear hc2 b1 b2 hy1 hy2
  go_wp2_with fail
  go_ret
  exact ⟨rfl, b2'⟩
end
set_option maxRecDepth 100000
open Go.ChangeShapes Go.WideShapes Go.ChangeAt Go.RowKit
open Go.ChangeMaps (open_string shut_string)

set_option maxRecDepth 100000 in
theorem proves_lifted (os : Os) (started : os.Started) (H : Type) (enc : TypeId × Value → H) :
    ReturnsInHanded {} Tryz.checked os 4 .any (Rows.provesSpec.pre6 enc Tryz.prog Tryz.f4 Rows.provesRow.domain false) (Rows.provesSpec.post enc Tryz.prog Tryz.f4 false true false false) := by
  refine returnsInHanded_of_change_sized (C := Tryz.checked) own' started (by kernel_rfl) Tryz.func4
    (ChangeSpec.witness6 (enc := enc) (C := Tryz.checked) false ⟨#[], #[.string .empty, .int .i64 0, .int .i64 0], []⟩ 8 (by kernel_rfl) (by kernel_rfl) (by kernel_rfl) (by kernel_rfl)) ?_
  intro W base args ds gs before hval0 hW _ hsz0 _
  have hval : ∀ (j : Nat) t v, Tryz.f4.params[j]? = some t → args[j]? = some v → Value.okWide Tryz.prog W .any base t v := hval0
  have hsz : (DataW.weightsEach Tryz.prog (Tryz.f4.params.toList ++ Rows.provesSpec.plain.varTypes Tryz.prog) (ds ++ gs)).all (· ≤ reachBytes) = true := hsz0
  have hW' := hW
  obtain ⟨p, q, hA0, hV, rfl, _, _⟩ := hW
  have hA : DataW.TrodAll enc Tryz.prog W 0 (fun _ => true) true Tryz.f4.params.toList args.toList ds p := hA0
  rw [Tryz.params4] at hA hval hsz
  obtain ⟨v0, vs0, d0, ds0, p0, q0, hargs, rfl, rfl, h0, r0⟩ := trodAll_cons hA
  obtain ⟨v1, vs1, d1, ds1, p1, q1, rfl, rfl, rfl, h1, r1⟩ := trodAll_cons r0
  obtain ⟨v2, vs2, d2, ds2, p2, q2, rfl, rfl, rfl, h2, r2⟩ := trodAll_cons r1
  obtain ⟨rfl, rfl, rfl⟩ := trodAll_nil r2
  obtain rfl : args = #[v0, v1, v2] := by cases args; simp_all
  obtain ⟨rfl, rfl⟩ := trodVars_none hV
  obtain ⟨s0, rfl, rfl, rfl, hmax0⟩ := open_string Tryz.underlying9 (hval 0 9 v0 rfl rfl) h0
  obtain ⟨i, rfl, rfl, rfl, wi⟩ := open_int Tryz.underlying3 (hval 1 3 v1 rfl rfl) h1
  obtain ⟨k, rfl, rfl, rfl, wk⟩ := open_int Tryz.underlying3 (hval 2 3 v2 rfl rfl) h2
  have bd : ∀ {n : Int}, (Lit.int .i64 n).wf = true → -9223372036854775808 ≤ n ∧ n ≤ 9223372036854775807 := fun h => by simpa [Lit.wf, IntKind.min, IntKind.max, IntKind.signed, IntKind.bits] using h
  have hss := sized_string hsz (j := 0) (t := 9) rfl rfl
  have es : s0.data.toList.length = s0.size := by rw [Array.length_toList]; rfl
  rw [es, reachBytes] at hss
  clear hA0 hval0
  refine (lawProves_any s0 i k W (by omega) (bd wi)).mono fun e W' ⟨he, bel⟩ => ?_
  subst he
  exact ⟨_, rfl, _, _, _, [], _, [], hW', trodAll_mk1 (shut_bool Tryz.underlying4 _),
    trodAll_cons_mk (shut_string Tryz.underlying9 hmax0) (trodAll_cons_mk (shut_int Tryz.underlying3 wi) (trodAll_cons_mk (shut_int Tryz.underlying3 wk) trodAll_mk0)), rfl, bel.frame _, fun h => by cases h⟩

theorem proves_over : Rows.provesRow.holds Tryz.pinned (OpenSpec.ofChange Rows.provesSpec) :=
  OpenClaim.holds_of_wide 4 Tryz.f4 rfl rfl rfl rfl rfl rfl rfl ⟨rfl, rfl, rfl, rfl, rfl⟩ rfl rfl rfl rfl rfl (by kernel_rfl) Tryz.func4 (by kernel_rfl)
    (of_decide_eq_true (by kernel_rfl)) (by unfold Func.isWrapper; first | (rw [if_pos (by decide +kernel)]; kernel_rfl) | (rw [if_neg (by decide +kernel)]; exact ⟨rfl, rfl⟩))
    (fun os started H enc _ => proves_lifted os started H enc)

/-- The statement. -/
theorem proves_proved : Rows.ProvesSaid := proves_over
#print axioms proves_proved
end Go.Proofs.YtpkkhkkkgjhkeaaGreat
