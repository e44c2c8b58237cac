import Derived.Test.YtoadiibfmcjgaaaBroot
import Derived.ProofKit
import Derived.OpenShut
import Derived.ShutString
import Derived.ChangeOld
import Derived.SizedLaws
import Derived.SliceStrings
import Derived.Carry
import Derived.Test.YtoadiibfmcjgaaaMBRead
/-
  THE WALKS of Depth, isPath, and of both climbs (P4).
-/
namespace Go.Proofs.Ytoadiibfmcjgaaa
open Go.RowKit
set_option maxRecDepth 100000
attribute [local go_sem ↓] Go.wp_at_zero Go.wp_at_succ

set_option maxHeartbeats 800000 in
/-- tree.Depth. -/
theorem depth_any (i n : Nat) (w : World) (hin : i < n) (hn : n ≤ 4096) :
    Calls Try.prog 65 #[.int .i64 (i : Int), .int .i64 (n : Int)] w fun e w' => e = .returned (.int .i64 (Sg.depth i n : Int)) ∧ w' = w := by
  go_enter Try.func65, Try.ntmps65
  go_wp2
  go_loop [0, 1, 5] (fun a m d => ∃ j k c : Nat, j < k ∧ k ≤ 4096 ∧ c + k ≤ 4096 ∧ Hid (c + Sg.depth j k = Sg.depth i n) ∧ a = .int .i64 (j : Int) ∧ m = .int .i64 (k : Int) ∧ d = .int .i64 (c : Int)) (fun _ m _ => (intOf m).toNat)
  case atStart => exact ⟨i, n, 0, hin, hn, by omega, by show _ = _; omega, rfl, rfl, rfl⟩
  case round =>
    obtain ⟨j, k, c, hjk, hk, hck, HD, rfl, rfl, rfl⟩ := hrel
    by_cases h1 : k ≤ 1
    · have HZ : Hid (Sg.depth j k = 0) := Sg.depth_one h1
      have h1' : ¬ (1 : Int) < (k : Int) := by omega
      go_wp2_with fail
      go_ret
      refine ⟨ret_int ?_, rfl⟩
      have h1 := HZ.out
      have h2 := HD.out
      omega
    · have h1' : (1 : Int) < (k : Int) := by omega
      have hlt := Sg.halfN_lt (n := k) (by omega)
      have hpos := Sg.halfN_pos k
      by_cases hjl : j < Sg.halfN k
      · have HL : Hid (Sg.depth j k = Sg.depth j (Sg.halfN k) + 1) := Sg.depth_left (by omega) hjl
        obtain ⟨q, hq⟩ : ∃ q, q = Sg.halfN k := ⟨_, rfl⟩
        rw [← hq] at HL hlt hpos hjl
        have HQ : Hid (q = Sg.halfN k) := hq
        clear hq
        have hjl' : (j : Int) < (q : Int) := by omega
        go_wp2_with fail
        refine (split_any (k : Int) _ (by omega) (by omega)).mono ?_
        rintro e w1 ⟨rfl, rfl⟩
        rw [Int.toNat_natCast, ← HQ.out]
        go_wp2_with fail
        go_round
        case rel => exact ⟨j, q, c + 1, hjl, by omega, by omega, by have h1 := HL.out; have h2 := HD.out; show _ = _; omega, rfl, rfl, by go_num⟩
        case measure => simp [intOf]; omega
      · have HL : Hid (Sg.depth j k = Sg.depth (j - Sg.halfN k) (k - Sg.halfN k) + 1) := Sg.depth_right (by omega) hjl
        obtain ⟨q, hq⟩ : ∃ q, q = Sg.halfN k := ⟨_, rfl⟩
        rw [← hq] at HL hlt hpos hjl
        have HQ : Hid (q = Sg.halfN k) := hq
        clear hq
        have hjl' : ¬ (j : Int) < (q : Int) := by omega
        go_wp2_with fail
        refine (split_any (k : Int) _ (by omega) (by omega)).mono ?_
        rintro e w1 ⟨rfl, rfl⟩
        rw [Int.toNat_natCast, ← HQ.out]
        go_wp2_with fail
        go_round
        case rel => exact ⟨j - q, k - q, c + 1, by omega, by omega, by omega, by have h1 := HL.out; have h2 := HD.out; show _ = _; omega, by go_num, by go_num, by go_num⟩
        case measure => simp [intOf]; omega

/-- Has each text two bytes? -/
def twos (ss : List ByteArray) : Bool := ss.all fun s => s.size == 2
/-- Has a path the form of one of this leaf among so many? -/
def okPath (i n : Nat) (ss : List ByteArray) : Bool := decide (ss.length = Sg.depth i n) && twos ss
/-- A slice of texts, which may be nil or empty. -/
def StrsIn (w : World) (ao : Option Addr) (ss : List ByteArray) : Prop := ss.length = 0 ∨ ∃ b off, ao = some ⟨b, off, none⟩ ∧ b < w.heap.size ∧ StrsAt w b off ss

theorem ret_bool {a b : Bool} (h : a = b) : Ending.returned (.bool a) = .returned (.bool b) := by rw [h]
theorem twos_snoc {ss : List ByteArray} {j : Nat} (hj : j < ss.length) : twos (ss.take (j + 1)) = (twos (ss.take j) && (ss.getD j ByteArray.empty).size == 2) := by
  unfold twos
  rw [List.take_succ_eq_append_getElem hj, List.all_append]
  simp [List.getD, hj]
theorem twos_stop {ss : List ByteArray} {j : Nat} (hj : j < ss.length) (h : ((ss.getD j ByteArray.empty).size == 2) = false) : twos ss = false := by
  unfold twos
  rw [List.all_eq_false]
  refine ⟨ss[j], List.getElem_mem hj, ?_⟩
  simp [List.getD, hj] at h
  simpa using h

set_option maxHeartbeats 800000 in
/-- seal.isPath. -/
theorem isPath_any (ss : List ByteArray) (ao : Option Addr) (l cap i n : Nat) (w : World) (hl : ss.length = l) (hin : i < n) (hn : n ≤ 4096) (hmax : l ≤ 1152921504606846976) (hss : StrsIn w ao ss) (hszs : ∀ s ∈ ss, s.size ≤ 140737488355328) :
    Calls Try.prog 46 #[.slice ao l cap, .int .i64 (i : Int), .int .i64 (n : Int)] w fun e w' => e = .returned (.bool (okPath i n ss)) ∧ w' = w := by
  by_cases hd : l = Sg.depth i n
  · have HO : Hid (okPath i n ss = twos ss) := by show _ = _; unfold okPath; rw [hl, hd]; simp
    have HDl : Hid (l = Sg.depth i n) := hd
    clear hd
    have HN : Hid (ss.length = l) := hl
    clear hl
    go_enter Try.func46, Try.ntmps46
    go_wp2_with fail
    refine (depth_any i n _ hin hn).mono ?_
    rintro e w1 ⟨rfl, rfl⟩
    rw [← HDl.out]
    go_wp2_with fail
    go_loop [17] (fun c => ∃ j : Nat, j ≤ l ∧ c = .int .i64 (j : Int) ∧ Hid (twos (ss.take j) = true)) (fun c => l - (intOf c).toNat)
    case atStart => exact ⟨0, by omega, rfl, by show _ = _; simp [twos]⟩
    case round =>
      obtain ⟨j, hj, rfl, HT⟩ := hrel
      by_cases hlt : j < l
      · obtain ⟨b, off, rfl, hbw, hat⟩ : ∃ b off, ao = some ⟨b, off, none⟩ ∧ b < w1.heap.size ∧ StrsAt w1 b off ss := by
          rcases hss with h0 | h
          · have := HN.out; omega
          · exact h
        have hc := hat j (by rw [HN.out]; exact hlt)
        have hz : (ss.getD j ByteArray.empty).size ≤ 140737488355328 := hszs _ (by
          rw [List.getD_eq_getElem?_getD, List.getElem?_eq_getElem (by rw [HN.out]; exact hlt)]; simp)
        have H1 : Hid (twos (ss.take (j + 1)) = (twos (ss.take j) && (ss.getD j ByteArray.empty).size == 2)) := twos_snoc (by rw [HN.out]; exact hlt)
        have H2 : ((ss.getD j ByteArray.empty).size == 2) = false → Hid (twos ss = false) := fun h => twos_stop (by rw [HN.out]; exact hlt) h
        generalize ss.getD j ByteArray.empty = x at *
        clear hss hat hszs
        by_cases h2 : x.size = 2
        · have h2' : ((x.size : Int) != 2) = false := by simp [h2]
          have H3 : Hid (twos (ss.take (j + 1)) = true) := by show _ = _; rw [H1.out, HT.out]; simp [h2]
          clear H1 H2 h2
          go_wp2_with fail
          go_round
          case rel => exact ⟨j + 1, by omega, by go_num, H3⟩
          case measure => simp [intOf]; omega
        · have h2' : ((x.size : Int) != 2) = true := by simp; omega
          have H3 := H2 (by simpa using h2)
          clear H1 H2 h2
          go_wp2_with fail
          go_ret
          exact ⟨ret_bool (by rw [HO.out, H3.out]), rfl⟩
      · go_wp2_with fail
        go_ret
        refine ⟨ret_bool ?_, rfl⟩
        rw [HO.out]
        have h := HT.out
        rw [List.take_of_length_le (by rw [HN.out]; omega)] at h
        rw [h]
  · have HO : Hid (okPath i n ss = false) := by show _ = _; unfold okPath; rw [hl]; simp [hd]
    have hne : ((l : Int) != (Sg.depth i n : Int)) = true := by simp; omega
    clear hd
    go_enter Try.func46, Try.ntmps46
    go_wp2_with fail
    refine (depth_any i n _ hin hn).mono ?_
    rintro e w1 ⟨rfl, rfl⟩
    go_wp2_with fail
    go_ret
    exact ⟨ret_bool (by rw [HO.out]), rfl⟩
end Go.Proofs.Ytoadiibfmcjgaaa

/-
  A slice of texts that came in, opened; what each statement's last step leans on.
-/
namespace Go.Proofs.Ytoadiibfmcjgaaa
set_option maxRecDepth 100000
open Go.ChangeShapes Go.WideShapes Go.ChangeAt Go.RowKit
open Go.ChangeMaps (open_string shut_string)

theorem own' : ownKnob Try.prog.godebug = none := by kernel_rfl
theorem laidOut : laidOutB Try.prog = true := by kernel_rfl
theorem Try.cellsStr : Try.prog.cellsOf 9 = 1 := by kernel_rfl
theorem Try.bytesStr : Try.prog.bytesOf 9 = 16 := by kernel_rfl

theorem weights_strs {H : Type} {e : TypeId} : ∀ (ss : List ByteArray) (s : ByteArray), s ∈ ss → s.size ∈ DataW.weightsAll (H := H) Try.prog e (strs ss)
  | [], s, h => by simp at h
  | x :: r, s, h => by
    have es : s.data.toList.length = s.size := by rw [Array.length_toList]; rfl
    simp only [strs, List.map_cons, DataW.weightsAll, List.mem_append]
    rcases List.mem_cons.1 h with rfl | h
    · exact Or.inl (by simp only [DataW.weights, es]; exact List.mem_singleton.2 rfl)
    · exact Or.inr (weights_strs r s h)

/-- A slice of texts that came in: what the walks ask of it. -/
theorem open_leaves {H : Type} {enc : TypeId × Value → H} {W : World} {v : Value} {d : DataW H} {p : List MemPlace} {base : Nat} {ts : List TypeId} {ds : List (DataW H)} {j : Nat}
    (hv : Value.okWide Try.prog W .any base 24 v) (h : DataW.Trod enc Try.prog W 0 (fun _ => true) true 24 v d p)
    (hsz : (DataW.weightsEach Try.prog ts ds).all (· ≤ reachBytes) = true) (ht : ts[j]? = some 24) (hd : ds[j]? = some d) :
    ∃ ao len cap ss, v = .slice ao len cap ∧ ss.length = len ∧ len ≤ cap ∧ cap ≤ 8796093022000 ∧ (∀ s ∈ ss, s.size ≤ 140737488351232) ∧ StrsIn W ao ss ∧ (ao = none → len = 0 ∧ cap = 0) := by
  obtain ⟨ao, len, cap, rfl⟩ := okWide_slice Try.underlying24 hv
  obtain ⟨fuel, hf⟩ := h
  rcases open_strings Try.underlying24 Try.underlying9 Try.cellsStr hf with ⟨hcs, _⟩ | ⟨a, l', c', ss, hcs, _, hl, _, hlen, hx, hcell, _⟩
  · simp [Value.cells] at hcs
    obtain ⟨rfl, rfl, rfl⟩ := hcs
    exact ⟨none, 0, 0, [], rfl, rfl, Nat.le_refl _, by omega, by simp, Or.inl rfl, fun _ => ⟨rfl, rfl⟩⟩
  · simp [Value.cells] at hcs
    obtain ⟨rfl, rfl, rfl⟩ := hcs
    simp only [if_true] at hlen
    have hx1 : d = .slice (strs (ss.take len)) (strs (ss.drop len)) := by
      have := congrArg Prod.fst hx; simpa using this
    subst hx1
    have hw := sized_slice hsz ht hd Try.underlying24
    rw [Try.bytesStr] at hw
    simp only [strs, List.length_map, List.length_take, List.length_drop, reachBytes] at hw
    have hcap : cap * 16 ≤ 140737488351232 := by omega
    refine ⟨some a, len, cap, ss.take len, rfl, by simp; omega, hl, by omega, ?_, ?_, fun h => by simp at h⟩
    · intro s hs
      have := List.all_eq_true.1 hsz s.size (DataW.weights_mem_each ht hd s.size (by
        simp only [DataW.weights, Try.underlying24]
        exact List.mem_cons_of_mem _ (List.mem_append.2 (Or.inl (weights_strs _ s hs)))))
      exact of_decide_eq_true this
    · by_cases h0 : len = 0
      · exact Or.inl (by simp [h0])
      · right
        obtain ⟨b, off, spot⟩ := a
        have hc0 := hcell 0 (by omega)
        have hspot : spot = none := by simpa [Addr.add] using World.cell?_spot hc0
        subst hspot
        refine ⟨b, off, rfl, World.block_lt_of_cell? W _ hc0, fun i hi => ?_⟩
        have hi' : i < len ∧ i < ss.length := by simp at hi; omega
        have := hcell i hi'.2
        have ea : Addr.add ⟨b, off, none⟩ i = ⟨b, off + i, none⟩ := by cases i <;> simp [Addr.add]
        rw [ea] at this
        rw [this]
        simp [List.getD, hi'.1]

end Go.Proofs.Ytoadiibfmcjgaaa

/-
  THE PROOF OF 'Rows.VerifiesSaid' (P8: Verify of any text and head).
-/
namespace Go.Proofs.Ytoadiibfmcjgaaa
set_option maxRecDepth 100000
open Go.ChangeShapes Go.WideShapes Go.ChangeAt Go.RowKit
open Go.ChangeMaps (open_string shut_string)

set_option maxRecDepth 100000 in
theorem verifies_lifted (os : Os) (started : os.Started) (H : Type) (enc : TypeId × Value → H) :
    ReturnsInHanded {} Try.checked os 7 .any (Rows.verifiesSpec.pre6 enc Try.prog Try.f7 Rows.verifiesRow.domain false) (Rows.verifiesSpec.post enc Try.prog Try.f7 false true false false) := by
  refine returnsInHanded_of_change_sized (C := Try.checked) own' started (by kernel_rfl) Try.func7
    (ChangeSpec.witness6 (enc := enc) (C := Try.checked) false ⟨#[], #[.string .empty, .string .empty], []⟩ 8 (by kernel_rfl) (by kernel_rfl) (by kernel_rfl) (by kernel_rfl)) ?_
  intro W base args ds gs before hval0 hW _ hsz0 _
  have hval : ∀ (j : Nat) t v, Try.f7.params[j]? = some t → args[j]? = some v → Value.okWide Try.prog W .any base t v := hval0
  have hsz : (DataW.weightsEach Try.prog (Try.f7.params.toList ++ Rows.verifiesSpec.plain.varTypes Try.prog) (ds ++ gs)).all (· ≤ reachBytes) = true := hsz0
  have hW' := hW
  obtain ⟨p, q, hA0, hV, rfl, _, _⟩ := hW
  have hA : DataW.TrodAll enc Try.prog W 0 (fun _ => true) true Try.f7.params.toList args.toList ds p := hA0
  rw [Try.params7] at hA hval hsz
  obtain ⟨v0, vs0, d0, ds0, p0, q0, hargs, rfl, rfl, h0, r0⟩ := trodAll_cons hA
  obtain ⟨v1, vs1, d1, ds1, p1, q1, rfl, rfl, rfl, h1, r1⟩ := trodAll_cons r0
  obtain ⟨rfl, rfl, rfl⟩ := trodAll_nil r1
  obtain rfl : args = #[v0, v1] := by cases args; simp_all
  obtain ⟨rfl, rfl⟩ := trodVars_none hV
  obtain ⟨s0, rfl, rfl, rfl, hmax0⟩ := open_string Try.underlying9 (hval 0 9 v0 rfl rfl) h0
  obtain ⟨s1, rfl, rfl, rfl, hmax1⟩ := open_string Try.underlying9 (hval 1 9 v1 rfl rfl) h1
  have hss := sized_string hsz (j := 0) (t := 9) rfl rfl
  have es : s0.data.toList.length = s0.size := by rw [Array.length_toList]; rfl
  rw [es, reachBytes] at hss
  clear hA0 hval0
  refine (verifies_any s0 s1 W (by omega)).mono fun e W' ⟨he, bel⟩ => ?_
  subst he
  exact ⟨_, rfl, _, _, _, [], _, [], hW', trodAll_mk1 (shut_bool Try.underlying4 _),
    trodAll_cons_mk (shut_string Try.underlying9 hmax0) (trodAll_cons_mk (shut_string Try.underlying9 hmax1) trodAll_mk0), rfl, bel.frame _, fun h => by cases h⟩

theorem verifies_over : Rows.verifiesRow.holds Try.pinned (OpenSpec.ofChange Rows.verifiesSpec) :=
  OpenClaim.holds_of_wide 7 Try.f7 rfl rfl rfl rfl rfl rfl rfl ⟨rfl, rfl, rfl, rfl, rfl⟩ rfl rfl rfl rfl rfl (by kernel_rfl) Try.func7 (by kernel_rfl)
    (of_decide_eq_true (by kernel_rfl)) (by unfold Func.isWrapper; first | (rw [if_pos (by decide +kernel)]; kernel_rfl) | (rw [if_neg (by decide +kernel)]; exact ⟨rfl, rfl⟩))
    (fun os started H enc _ => verifies_lifted os started H enc)

/-- The statement. -/
theorem verifies_proved : Rows.VerifiesSaid := verifies_over
#print axioms verifies_proved
end Go.Proofs.Ytoadiibfmcjgaaa
