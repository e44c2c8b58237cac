/-
  THE PROOF OF 'Rows.ClimbedSaid' (P4: from each leaf its path leads to the root).
-/
import Derived.Test.YtpbeoakjfhgabaaClimbed
import Derived.ProofKit
import Derived.OpenShut
import Derived.ShutString
import Derived.ChangeOld
import Derived.SizedLaws
import Derived.SliceStrings
import Derived.Carry
namespace Go.Proofs.Ytpbeoakjfhgabaa
open Go.ChangeShapes Go.WideShapes Go.ChangeAt Go.RowKit
open Go.ChangeMaps (open_string shut_string)

theorem own' : ownKnob Try.prog.godebug = none := by kernel_rfl
theorem laidOut : laidOutB Try.prog = true := by kernel_rfl
theorem Try.cellsStr : Try.prog.cellsOf 9 = 1 := by kernel_rfl
theorem Try.bytesStr : Try.prog.bytesOf 9 = 16 := by kernel_rfl

theorem weights_strs {H : Type} {e : TypeId} : ∀ (ss : List ByteArray) (s : ByteArray), s ∈ ss → s.size ∈ DataW.weightsAll (H := H) Try.prog e (strs ss)
  | [], s, h => by simp at h
  | x :: r, s, h => by
    have es : s.data.toList.length = s.size := by rw [Array.length_toList]; rfl
    simp only [strs, List.map_cons, DataW.weightsAll, List.mem_append]
    rcases List.mem_cons.1 h with rfl | h
    · exact Or.inl (by simp only [DataW.weights, es]; exact List.mem_singleton.2 rfl)
    · exact Or.inr (weights_strs r s h)

/-- A slice of texts that came in: what the walks ask of it. -/
theorem open_leaves {H : Type} {enc : TypeId × Value → H} {W : World} {v : Value} {d : DataW H} {p : List MemPlace} {base : Nat} {ts : List TypeId} {ds : List (DataW H)} {j : Nat}
    (hv : Value.okWide Try.prog W .any base 24 v) (h : DataW.Trod enc Try.prog W 0 (fun _ => true) true 24 v d p)
    (hsz : (DataW.weightsEach Try.prog ts ds).all (· ≤ reachBytes) = true) (ht : ts[j]? = some 24) (hd : ds[j]? = some d) :
    ∃ ao len cap ss, v = .slice ao len cap ∧ ss.length = len ∧ len ≤ cap ∧ cap ≤ 8796093022000 ∧ (∀ s ∈ ss, s.size ≤ 140737488351232) ∧ StrsIn W ao ss := by
  obtain ⟨ao, len, cap, rfl⟩ := okWide_slice Try.underlying24 hv
  obtain ⟨fuel, hf⟩ := h
  rcases open_strings Try.underlying24 Try.underlying9 Try.cellsStr hf with ⟨hcs, _⟩ | ⟨a, l', c', ss, hcs, _, hl, _, hlen, hx, hcell, _⟩
  · simp [Value.cells] at hcs
    obtain ⟨rfl, rfl, rfl⟩ := hcs
    exact ⟨none, 0, 0, [], rfl, rfl, Nat.le_refl _, by omega, by simp, Or.inl rfl⟩
  · simp [Value.cells] at hcs
    obtain ⟨rfl, rfl, rfl⟩ := hcs
    simp only [if_true] at hlen
    have hx1 : d = .slice (strs (ss.take len)) (strs (ss.drop len)) := by
      have := congrArg Prod.fst hx; simpa using this
    subst hx1
    have hw := sized_slice hsz ht hd Try.underlying24
    rw [Try.bytesStr] at hw
    simp only [strs, List.length_map, List.length_take, List.length_drop, reachBytes] at hw
    have hcap : cap * 16 ≤ 140737488351232 := by omega
    refine ⟨some a, len, cap, ss.take len, rfl, by simp; omega, hl, by omega, ?_, ?_⟩
    · intro s hs
      have := List.all_eq_true.1 hsz s.size (DataW.weights_mem_each ht hd s.size (by
        simp only [DataW.weights, Try.underlying24]
        exact List.mem_cons_of_mem _ (List.mem_append.2 (Or.inl (weights_strs _ s hs)))))
      exact of_decide_eq_true this
    · by_cases h0 : len = 0
      · exact Or.inl (by simp [h0])
      · right
        obtain ⟨b, off, spot⟩ := a
        have hc0 := hcell 0 (by omega)
        have hspot : spot = none := by simpa [Addr.add] using World.cell?_spot hc0
        subst hspot
        refine ⟨b, off, rfl, World.block_lt_of_cell? W _ hc0, fun i hi => ?_⟩
        have hi' : i < len ∧ i < ss.length := by simp at hi; omega
        have := hcell i hi'.2
        have ea : Addr.add ⟨b, off, none⟩ i = ⟨b, off + i, none⟩ := by cases i <;> simp [Addr.add]
        rw [ea] at this
        rw [this]
        simp [List.getD, hi'.1]

/-- The walk, for whatever came in. -/
theorem climbed_walk (ss : List ByteArray) (ao : Option Addr) (l cap : Nat) (c : Int) (other : ByteArray) (w : World) (hl : ss.length = l) (hlc : l ≤ cap) (hcap : cap ≤ 8796093022000) (hsz : ∀ s ∈ ss, s.size ≤ 140737488351232) (hos : other.size ≤ 140737488351232) (hc : -9223372036854775808 ≤ c ∧ c ≤ 9223372036854775807)
    (hss : StrsIn w ao ss) :
    Calls Try.prog 5 #[.slice ao l cap, .int .i64 c, .string other] w fun e w' => e = .returned (.bool true) ∧ Below w.heap.size w w' := by
  by_cases h : l = 0 ∨ 4096 < l
  · exact climbed_none ao l cap c other w h
  · rcases hss with h0 | ⟨b, off, rfl, hbw, hat⟩
    · omega
    · exact climbed_some ss b off l cap c other w hl (by omega) (by omega) hlc (by omega) (fun s hs => by have := hsz s hs; omega) (by omega) hc hbw hat

set_option maxRecDepth 100000 in
theorem climbed_lifted (os : Os) (started : os.Started) (H : Type) (enc : TypeId × Value → H) :
    ReturnsInHanded {} Try.checked os 5 .any (Rows.climbedSpec.pre6 enc Try.prog Try.f5 Rows.climbedRow.domain false) (Rows.climbedSpec.post enc Try.prog Try.f5 false true false false) := by
  refine returnsInHanded_of_change_sized (C := Try.checked) own' started (by kernel_rfl) Try.func5
    (ChangeSpec.witness6 (enc := enc) (C := Try.checked) false ⟨#[], #[.slice none 0 0, .int .i64 0, .string .empty], []⟩ 8 (by kernel_rfl) (by kernel_rfl) (by kernel_rfl) (by kernel_rfl)) ?_
  intro W base args ds gs before hval0 hW _ hsz0 _
  have hval : ∀ (j : Nat) t v, Try.f5.params[j]? = some t → args[j]? = some v → Value.okWide Try.prog W .any base t v := hval0
  have hsz : (DataW.weightsEach Try.prog (Try.f5.params.toList ++ Rows.climbedSpec.plain.varTypes Try.prog) (ds ++ gs)).all (· ≤ reachBytes) = true := hsz0
  have hW' := hW
  obtain ⟨p, q, hA0, hV, rfl, _, _⟩ := hW
  have hA : DataW.TrodAll enc Try.prog W 0 (fun _ => true) true Try.f5.params.toList args.toList ds p := hA0
  rw [Try.params5] at hA hval hsz
  obtain ⟨v0, vs0, d0, ds0, p0, q0, hargs, rfl, rfl, h0, r0⟩ := trodAll_cons hA
  obtain ⟨v1, vs1, d1, ds1, p1, q1, rfl, rfl, rfl, h1, r1⟩ := trodAll_cons r0
  obtain ⟨v2, vs2, d2, ds2, p2, q2, rfl, rfl, rfl, h2, r2⟩ := trodAll_cons r1
  obtain ⟨rfl, rfl, rfl⟩ := trodAll_nil r2
  obtain rfl : args = #[v0, v1, v2] := by cases args; simp_all
  obtain ⟨rfl, rfl⟩ := trodVars_none hV
  obtain ⟨ao, len, cap, ss, rfl, hl, hlc, hcap, hs1, hss⟩ := open_leaves (j := 0) (hval 0 24 v0 rfl rfl) h0 hsz rfl rfl
  obtain ⟨c, rfl, rfl, rfl, wc⟩ := open_int Try.underlying3 (hval 1 3 v1 rfl rfl) h1
  obtain ⟨s, rfl, rfl, rfl, hmax⟩ := open_string Try.underlying9 (hval 2 9 v2 rfl rfl) h2
  have hss2 := sized_string hsz (j := 2) (t := 9) rfl rfl
  have es : s.data.toList.length = s.size := by rw [Array.length_toList]; rfl
  rw [es, reachBytes] at hss2
  have lt0 : ∀ x ∈ p0, x.block < W.heap.size := by obtain ⟨m, hm⟩ := h0; exact DataW.trod_lt m _ _ _ hm
  have hcb : -9223372036854775808 ≤ c ∧ c ≤ 9223372036854775807 := by simpa [Lit.wf, IntKind.min, IntKind.max, IntKind.signed, IntKind.bits] using wc
  clear hA0 hval0
  refine (climbed_walk ss ao len cap c s W hl hlc hcap hs1 hss2 hcb hss).mono fun e W' ⟨he, bel⟩ => ?_
  subst he
  exact ⟨_, rfl, _, _, _, [], _, [], hW', trodAll_mk1 (shut_bool Try.underlying4 _),
    trodAll_cons_mk (Below.trod laidOut (by kernel_rfl) (of_decide_eq_true (by kernel_rfl)) h0 bel lt0) (trodAll_cons_mk (shut_int Try.underlying3 wc) (trodAll_cons_mk (shut_string Try.underlying9 hmax) trodAll_mk0)), rfl, bel.frame _, fun h => by cases h⟩

theorem climbed_over : Rows.climbedRow.holds Try.pinned (OpenSpec.ofChange Rows.climbedSpec) :=
  OpenClaim.holds_of_wide 5 Try.f5 rfl rfl rfl rfl rfl rfl rfl ⟨rfl, rfl, rfl, rfl, rfl⟩ rfl rfl rfl rfl rfl (by kernel_rfl) Try.func5 (by kernel_rfl)
    (of_decide_eq_true (by kernel_rfl)) (by unfold Func.isWrapper; first | (rw [if_pos (by decide +kernel)]; kernel_rfl) | (rw [if_neg (by decide +kernel)]; exact ⟨rfl, rfl⟩))
    (fun os started H enc _ => climbed_lifted os started H enc)

/-- The statement. -/
theorem climbed_proved : Rows.ClimbedSaid := climbed_over
#print axioms climbed_proved
end Go.Proofs.Ytpbeoakjfhgabaa
