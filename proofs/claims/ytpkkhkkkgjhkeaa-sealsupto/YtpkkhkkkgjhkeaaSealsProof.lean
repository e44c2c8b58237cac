import Derived.Test.YtpkkhkkkgjhkeaaSeals
import Derived.Test.YtpkkhkkkgjhkeaaAsItWas
import Derived.JoinedCond
import Derived.Deep.CondSized
/-
  THE PROOF OF 'Rows.SealsUptoSaid' (P5, P6: Seal of any history; the first form is false by size: what is kept of a period takes 48 bytes, a period 24).
-/
namespace Go.Proofs.Ytpkkhkkkgjhkeaa
set_option maxRecDepth 100000
open Go.ChangeShapes Go.WideShapes Go.ChangeAt Go.RowKit

theorem bulk_pos {H : Type} (d : DataW H) : 0 < Rows.uptoBulk d := by
  cases d with
  | lit l => cases l <;> simp [Rows.uptoBulk]
  | _ => simp [Rows.uptoBulk]
theorem bulk_many {H : Type} : ∀ l : List (DataW H), l.length ≤ Rows.uptoBulkAll l
  | [] => Nat.zero_le _
  | d :: r => by
    have h1 := bulk_pos d
    have h2 := bulk_many r
    simp only [Rows.uptoBulkAll, List.length_cons]
    omega
/-- A row is no longer than its bulk. -/
theorem bulk_row {H : Type} {enc : TypeId × Value → H} {W : World} {fuel n cap : Nat} {t e : TypeId} {ao : Option Addr} {x : DataW H × List MemPlace} (hu : Try.prog.underlying t = some (.slice e)) (h : DataW.trod enc Try.prog W 0 (fun _ => true) true fuel t [.slice ao n cap] = some x) : n ≤ Rows.uptoBulk x.1 := by
  rcases Go.Deep.open_slice hu h with ⟨hcs, _⟩ | ⟨a, len, cp, m, k, D, Pl, hcs, _, _, _, _, rfl, _⟩
  · simp only [List.cons.injEq, Value.slice.injEq, and_true] at hcs
    omega
  · simp only [List.cons.injEq, Value.slice.injEq, and_true] at hcs
    have := bulk_many ((List.range len).map D)
    simp only [List.length_map, List.length_range] at this
    simp only [Rows.uptoBulk]
    omega
theorem bulk_his {H : Type} {enc : TypeId × Value → H} {W : World} {fuel nA nP capA capP : Nat} {aoA aoP : Option Addr} {x : DataW H × List MemPlace} (h : DataW.trod enc Try.prog W 0 (fun _ => true) true fuel 41 [.slice aoA nA capA, .slice aoP nP capP] = some x) : nA + nP ≤ Rows.uptoBulk x.1 := by
  obtain ⟨xs, k, _, rfl, _, hxl, hf⟩ := DataW.trod_struct Try.underlying41 h
  match xs, hxl with
  | [y0, y1], _ =>
    have g0 : DataW.trod enc Try.prog W 0 (fun _ => true) true k 38 (([.slice aoA nA capA, .slice aoP nP capP].drop 0).take (Try.prog.cellsOf 38)) = some y0 := hf 0 { name := "Accounts", type := 38, offset := 0, embedded := false, tag := "", pkgPath := "", byteOffset := 0 } rfl
    have g1 : DataW.trod enc Try.prog W 0 (fun _ => true) true k 39 (([.slice aoA nA capA, .slice aoP nP capP].drop 1).take (Try.prog.cellsOf 39)) = some y1 := hf 1 { name := "Periods", type := 39, offset := 1, embedded := false, tag := "", pkgPath := "", byteOffset := 24 } rfl
    rw [Try.cellsAccs] at g0
    rw [Try.cellsPers] at g1
    simp only [List.drop_succ_cons, List.drop_zero, List.take_succ_cons, List.take_zero] at g0 g1
    have b0 := bulk_row Try.underlying38 g0
    have b1 := bulk_row Try.underlying39 g1
    simp only [List.map_cons, List.map_nil, Rows.uptoBulk, Rows.uptoBulkAll]
    omega

set_option maxRecDepth 100000 in
theorem seals_lifted (os : Os) (started : os.Started) (H : Type) (enc : TypeId × Value → H) (F : Stop.Interp) :
    ReturnsInHanded {} Try.checked os 5 .any ((Rows.OpenSpec.upto Rows.sealsSpec).pre6 enc Try.prog Try.f5 Rows.sealsUptoRow.domain false) (((Rows.OpenSpec.upto Rows.sealsSpec).at F).post enc Try.prog Try.f5 false true false false) := by
  refine returnsInHanded_of_cond_sized (C := Try.checked) (s := Rows.OpenSpec.upto Rows.sealsSpec) (k := Rows.uptoSmall) rfl own' started (by kernel_rfl) Try.func5
    (OpenSpec.witness (enc := enc) (C := Try.checked) (s := Rows.OpenSpec.upto Rows.sealsSpec) (k := Rows.uptoSmall) rfl false ⟨#[], #[.agg #[.slice none 0 0, .slice none 0 0]], []⟩ 8 (by kernel_rfl) (by kernel_rfl) (by kernel_rfl)
      (x := ([.agg [.nil, .nil]], [], [])) (by kernel_rfl) rfl (by kernel_rfl)) ?_
  intro W base args ds gs before hval0 hW _ hk0 hsz0 _
  have hval : ∀ (j : Nat) t v, Try.f5.params[j]? = some t → args[j]? = some v → Value.okWide Try.prog W .any base t v := hval0
  have hsz : (DataW.weightsEach Try.prog (Try.f5.params.toList ++ Rows.sealsSpec.plain.varTypes Try.prog) (ds ++ gs)).all (· ≤ reachBytes) = true := hsz0
  have hk : Rows.uptoSmall H (ds ++ gs) = true := hk0
  have hW1 : DataW.Whole enc Try.prog Try.f5.params.toList Rows.sealsSpec.vars false W args.toList ds gs before := hW
  have hW' := hW1
  obtain ⟨p, q, hA0, hV, rfl, _, _⟩ := hW1
  have hA : DataW.TrodAll enc Try.prog W 0 (fun _ => true) true Try.f5.params.toList args.toList ds p := hA0
  rw [Try.params5] at hA hval hsz
  obtain ⟨v0, vs0, d0, ds0, p0, q0, hargs, rfl, rfl, h0, r0⟩ := trodAll_cons hA
  obtain ⟨rfl, rfl, rfl⟩ := trodAll_nil r0
  obtain rfl : args = #[v0] := by cases args; simp_all
  obtain ⟨rfl, rfl⟩ := trodVars_none hV
  obtain ⟨cs, rfl, _⟩ := okWide_struct Try.underlying41 (hval 0 41 v0 rfl rfl)
  have lt0 : ∀ x ∈ p0, x.block < W.heap.size := by obtain ⟨m, hm⟩ := h0; exact DataW.trod_lt m _ _ _ hm
  obtain ⟨aoA, nA, capA, aoP, nP, capP, hh, hcs, hH, _, _, _, _, hp, hbulk⟩ : ∃ aoA nA capA aoP nP capP hh, cs.toList = [.slice aoA nA capA, .slice aoP nP capP] ∧ HistIn W aoA aoP nA nP hh ∧ nA ≤ capA ∧ capA ≤ 5864062014634 ∧ nP ≤ capP ∧ capP ≤ 5864062014634 ∧ (∀ p ∈ hh.pers, p.length ≤ 3518437208780 ∧ ∀ e ∈ p, e.posts.length ≤ 8796093021952) ∧ nA + nP ≤ Rows.uptoBulk d0 := by
    obtain ⟨m, hm⟩ := h0
    obtain ⟨aoA, nA, capA, aoP, nP, capP, hh, hcs, a1, a2, a3, a4, a5, a6⟩ := open_his hm (fun y hy => of_decide_eq_true (List.all_eq_true.1 hsz y (DataW.weights_mem_each (j := 0) (t := 41) rfl rfl y hy)))
    have hm' := hm
    rw [hcs] at hm'
    exact ⟨aoA, nA, capA, aoP, nP, capP, hh, hcs, a1, a2, a3, a4, a5, a6, bulk_his hm'⟩
  have hb : Rows.uptoBulkAll ([d0] ++ ([] : List (DataW H))) ≤ 1048576 := of_decide_eq_true hk
  simp only [List.append_nil, Rows.uptoBulkAll] at hb
  obtain rfl : cs = #[.slice aoA nA capA, .slice aoP nP capP] := by cases cs; simp_all
  clear hA0 hval0
  refine (lawSeals_any hh aoA aoP nA nP capA capP W hH (by omega) (by omega) hp).mono fun e W' ⟨he, bel⟩ => ?_
  subst he
  exact ⟨_, rfl, _, _, _, [], _, [], hW', trodAll_mk1 (shut_bool Try.underlying4 _),
    trodAll_cons_mk (Below.trod laidOut (by kernel_rfl) (of_decide_eq_true (by kernel_rfl)) h0 bel lt0) trodAll_mk0, rfl, bel.frame _, fun h => by cases h⟩

/-- The statement. -/
theorem sealsUpto_proved : Rows.SealsUptoSaid :=
  OpenClaim.holds_of_cond 5 Try.f5 rfl rfl rfl rfl rfl rfl rfl ⟨rfl, rfl, rfl, rfl, rfl⟩ rfl rfl rfl rfl rfl (by kernel_rfl) Try.func5 (by kernel_rfl)
    (of_decide_eq_true (by kernel_rfl)) (by unfold Func.isWrapper; first | (rw [if_pos (by decide +kernel)]; kernel_rfl) | (rw [if_neg (by decide +kernel)]; exact ⟨rfl, rfl⟩))
    (fun os started H enc _ F => seals_lifted os started H enc F)
#print axioms sealsUpto_proved
end Go.Proofs.Ytpkkhkkkgjhkeaa
