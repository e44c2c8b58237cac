/-
  signetkeep.chart: the accounts that are made (its walk is not done).
-/
import Derived.Test.YtoadiibfmcjgaaaMadeEntry
import Derived.Test.YtoadiibfmcjgaaaBclose
import Derived.Deep.RegionLaw
namespace Go.Proofs.Ytoadiibfmcjgaaa
open Go.RowKit
set_option maxRecDepth 100000
attribute [local go_sem ↓] Go.wp_at_zero Go.wp_at_succ

theorem Try.infoAcc2 : (Try.prog.info? 43).map (fun i => (i.zero, i.size, i.bytes)) = some (some (.agg #[.string ByteArray.empty, .int .i64 0]), 2, 24) := by kernel_rfl
/-- Accounts, cell by cell. -/
def aCells (ac : List Sg.Acc) : List Value := ac.flatMap fun a => [.string a.name, .int .i64 a.line]
theorem aCells_snoc (ac : List Sg.Acc) (a : Sg.Acc) : aCells (ac ++ [a]) = aCells ac ++ [.string a.name, .int .i64 a.line] := by unfold aCells; rw [List.flatMap_append]; simp
def OwnA (w : World) (base : Nat) (v : Value) (ac : List Sg.Acc) : Prop := w.ownsRow base 43 2 v ac.length (aCells ac)
theorem OwnA.below {w w' : World} {base : Nat} {v : Value} {ac : List Sg.Acc} (h : OwnA w base v ac) (hb : Below w.heap.size w w') : OwnA w' base v ac := ownsRow_below h hb

/-- The name of an account that is made. -/
def keepName (i : Nat) : ByteArray := ({ data := #[97, 99, 99, 111, 117, 110, 116, 32] } : ByteArray) ++ ⟨#[UInt8.ofNat (97 + i)]⟩
theorem keepName_size (i : Nat) : (keepName i).size = 9 := by unfold keepName; rw [ByteArray.size_append]; rfl
theorem keepName_inj {i j : Nat} (hi : i < 8) (hj : j < 8) (h : keepName i = keepName j) : i = j := by
  have := congrArg (fun b : ByteArray => b.data.toList) h
  simp [keepName] at this
  have h2 := congrArg UInt8.toNat this
  simp at h2
  omega
/-- A chart so far. -/
def ChartTo (ac : List Sg.Acc) : Prop := ∀ i (h : i < ac.length), ac[i].name = keepName i ∧ 0 ≤ ac[i].line ∧ ac[i].line ≤ 3
theorem ChartTo.snoc {ac : List Sg.Acc} (h : ChartTo ac) {l : Int} (hl : 0 ≤ l ∧ l ≤ 3) : ChartTo (ac ++ [⟨keepName ac.length, l⟩]) := fun i hi => by
  rw [List.length_append, List.length_cons, List.length_nil] at hi
  by_cases e : i = ac.length
  · subst e
    rw [List.getElem_append_right (by omega)]
    simpa using hl
  · rw [List.getElem_append_left (by omega)]
    exact h i (by omega)
theorem ChartTo.ok {ac : List Sg.Acc} (h : ChartTo ac) (h8 : ac.length ≤ 8) : Sg.accsOk ac = true := by
  rw [Sg.accsOk_iff]
  intro i hi _
  obtain ⟨h1, h2, h3⟩ := h i hi
  refine ⟨decide_eq_true ⟨by rw [h1, keepName_size]; omega, by rw [h1, keepName_size]; omega, h2, h3⟩, fun j hj hji e => ?_⟩
  rw [(h j hj).1, h1] at e
  have := keepName_inj (by omega) (by omega) e
  omega
theorem keepByte (i : Nat) (hi : i < 8) : Sg.beL (97 + i : Int) 1 = [UInt8.ofNat (97 + i)] := by
  simp only [Sg.beL]
  have : (((97 + i : Int)) % 18446744073709551616).toNat / 256 ^ 0 % 256 = 97 + i := by omega
  rw [this]

theorem shr_bd (c : Int) (m : Nat) (hc : -9223372036854775808 ≤ c ∧ c ≤ 9223372036854775807) : -9223372036854775808 ≤ c / 2 ^ m ∧ c / 2 ^ m ≤ 9223372036854775807 := by
  have hp : (1 : Int) ≤ 2 ^ m := by
    have : (0 : Int) < 2 ^ m := Int.pow_pos (by decide)
    omega
  constructor
  · refine Int.le_trans ?_ (Int.ediv_le_ediv (by omega) hc.1)
    rw [Int.le_ediv_iff_mul_le (by omega)]
    omega
  · by_cases h0 : 0 ≤ c
    · exact Int.le_trans (Int.ediv_le_self _ h0) hc.2
    · have : c / 2 ^ m < 0 := Int.ediv_neg_of_neg_of_pos (by omega) (by omega)
      omega
set_option maxHeartbeats 3200000 in
/-- chart. -/
theorem keepChart_any (c : Int) (w : World) (hc : -9223372036854775808 ≤ c ∧ c ≤ 9223372036854775807) :
    Calls Try.prog 59 #[.int .i64 c] w fun e w' => ∃ v ac, e = .returned v ∧ Hid (OwnA w' w.heap.size v ac) ∧ ChartTo ac ∧ (2 ≤ ac.length ∧ ac.length ≤ 8) ∧ Below w.heap.size w w' := by
  obtain ⟨i0, hi, hz0, hz1, hz2⟩ := info_parts Try.infoAcc2
  go_enter Try.func59, Try.ntmps59
  go_wp2_with fail
  refine (pick_any c 7 _ hc (by omega) (by omega)).mono ?_
  rintro e w1 ⟨j, rfl, hj, hw⟩
  have hw' := hw.symm
  subst hw'
  clear hw
  obtain ⟨n, hn⟩ : ∃ n : Nat, n = 2 + j := ⟨_, rfl⟩
  have hwn : IntKind.i64.wrap (2 + (j : Int)) = (n : Int) := by rw [IntWalk.i64_in _ (by omega)]; omega
  have hn2 : 2 ≤ n := by omega
  have hn8 : n ≤ 8 := by omega
  clear hn hj
  go_wp2_with fail
  go_loopw [3, 5] (fun o i wr => ∃ k : Nat, k ≤ n ∧ i = .int .i64 (k : Int) ∧ ∃ v ac, v = o ∧ Hid (OwnA wr w.heap.size v ac) ∧ Hid (ChartTo ac) ∧ ac.length = k ∧ Below w.heap.size w wr) (fun _ i _ => n - (intOf i).toNat)
  case atStart => exact ⟨0, by omega, rfl, _, [], rfl, World.ownsRow_nil _ _ _ _, fun i hi => absurd hi (by simp), rfl, Below.refl _ _⟩
  case round =>
    obtain ⟨k, hk, rfl, v, ac, ev, HO, HC, hlen, hbr⟩ := hrel
    subst ev
    obtain ⟨wz, ewz⟩ : ∃ z : World, z = wr := ⟨_, rfl⟩
    subst ewz
    have hsz := hbr.size
    by_cases hlt : k < n
    · have hw97 : IntKind.i64.wrap (97 + (k : Int)) = 97 + (k : Int) := IntWalk.i64_in _ (by omega)
      have hw2k : IntKind.i64.wrap (2 * (k : Int)) = 2 * (k : Int) := IntWalk.i64_in _ (by omega)
      have i1 : (k : Int) < (n : Int) := by omega
      have i2 : (0 : Int) ≤ 2 * (k : Int) := by omega
      have i3 : ¬ (2 * (k : Int)) < 0 := by omega
      have hown := HO.out
      unfold OwnA at hown
      have hw8 : IntKind.u8.wrap (97 + (k : Int)) = 97 + (k : Int) := by simp [IntKind.wrap, IntKind.bits, IntKind.signed]; omega
      obtain ⟨kb, hkb⟩ : ∃ kb, kb = UInt8.ofNat (97 + k) := ⟨_, rfl⟩
      have hkn : kb.toNat = 97 + k := by rw [hkb]; simp; omega
      have HNm : Hid (keepName k = ({ data := #[97, 99, 99, 111, 117, 110, 116, 32] } : ByteArray) ++ ⟨#[kb]⟩) := by show _ = _; rw [hkb]; rfl
      have hcv : (convert 109 9 (.slice (some ⟨wz.heap.size, 0, none⟩) 1 1)).run Try.prog (wz.alloc (.cells #[.int .u8 (97 + (k : Int))] 5)).drew = .ok (.string ⟨#[kb]⟩) (wz.alloc (.cells #[.int .u8 (97 + (k : Int))] 5)).drew := by
        refine run_convert_bytes_back (P := Try.prog) _ 109 9 5 ⟨wz.heap.size, 0, none⟩ 1 [kb] Try.underlying109 Try.underlying5 Try.underlying9 ?_
        intro j hj
        match j, hj with
        | 0, _ =>
          simp only [List.getElem_cons_zero, hkn]
          simp [Addr.add]
      have hcat := cat ({ data := #[97, 99, 99, 111, 117, 110, 116, 32] } : ByteArray) ⟨#[kb]⟩ (by show 8 + 1 ≤ _; omega)
      obtain ⟨nm, hnm⟩ : ∃ nm, ({ data := #[97, 99, 99, 111, 117, 110, 116, 32] } : ByteArray) ++ ⟨#[kb]⟩ = nm := ⟨_, rfl⟩
      rw [hnm] at hcat HNm
      rw [hlen] at hown
      have HLen : Hid (ac.length = k) := hlen
      clear hnm hkb hkn hlen
      go_wp2_with fail
      go_region_law (first
          | (rw [if_pos (by simp [Region.wanted])]; go_simp; go_at_call 36; refine (pick_any _ 4 _ (shr_bd c _ hc) (by omega) (by omega)).mono ?_; rintro e w2 ⟨l, rfl, hl, hw2⟩; have hw2' := hw2.symm; subst hw2'; clear hw2)
          | (refine step_append_lies _ (by rfl) _ _ _ (by rfl) w.heap.size 43 i0 _ 2 24 Try.underlying38 hi hz0 hz1 hz2 rfl (by omega) _ k (aCells ac) (by rfl) (by first | exact ((hown.alloc _).alloc _).drew | exact ((hown.alloc _).drew.alloc _) | exact ((hown.alloc _).alloc _)) ⟨wz.heap.size + 1, 0, none⟩ 1 1 [.string nm, .int .i64 (l : Int)] (by rfl) (by rfl) (by exact World.news_of_block (cs := #[.string nm, .int .i64 (l : Int)]) (t := 43) (fr := (0, 0)) (new_block2 wz _ _ _)) (by simp [Value.oneCell']) (by omega) (by unfold maxLen; omega) (by omega) (by simp; omega) (wz.heap.size + 2) (by simp) ?_; intro g cap' w5 hown5 hgrow hat5 hlt5))
      all_goals
        have hbe : Below w.heap.size w w5 := Below.grown (by first | exact ((hbr.alloc hsz _).alloc (by simp; omega) _).drew | exact (hbr.alloc hsz _).drew.alloc (by simp; omega) _ | exact (hbr.alloc hsz _).alloc (by simp; omega) _) hgrow (by simp; omega) (fun q hq => (World.ownsRow.lt hown q hq).1)
        have HOn : Hid (OwnA w5 w.heap.size (.slice (some ⟨g, 0, none⟩) (k + 1) cap') (ac ++ [⟨nm, (l : Int)⟩])) := by
          show OwnA _ _ _ _
          unfold OwnA
          rw [aCells_snoc, List.length_append, HLen.out]
          exact hown5
        have HCn : Hid (ChartTo (ac ++ [⟨nm, (l : Int)⟩])) := by
          have := HC.out.snoc (l := (l : Int)) (by omega)
          rw [HLen.out, HNm.out] at this
          exact this
        have hln : (ac ++ [(⟨nm, (l : Int)⟩ : Sg.Acc)]).length = k + 1 := by rw [List.length_append, HLen.out]; rfl
        have HLn : Hid ((ac ++ [(⟨nm, (l : Int)⟩ : Sg.Acc)]).length = k + 1) := hln
        clear hown5 hgrow hown HO HC hat5 hcv hcat hln
        go_wp2_with fail
        go_roundw
        case rel => exact ⟨k + 1, by omega, by go_num, _, _, rfl, HOn, HCn, HLn.out, hbe⟩
        case measure => simp [intOf]; omega
    · have hkn : k = n := by omega
      have HL : Hid (2 ≤ ac.length ∧ ac.length ≤ 8) := by show _ ∧ _; omega
      clear hlen
      go_wp2_with fail
      go_ret
      exact ⟨_, _, rfl, HO, HC.out, HL.out, hbr⟩
end Go.Proofs.Ytoadiibfmcjgaaa
