/-
  THE WALKS of half, split, and of what makes a leaf and a node (P4).
-/
import Derived.Test.YtoadiibfmcjgaabBytes
import Derived.Test.YtoadiibfmcjgaabTree
namespace Go.Proofs.Ytoadiibfmcjgaab
open Go.RowKit
set_option maxRecDepth 100000

theorem ret_int {k : IntKind} {a b : Int} (h : a = b) : Ending.returned (.int k a) = .returned (.int k b) := by rw [h]

set_option maxHeartbeats 400000 in
/-- tree.split. -/
theorem split_any (n : Int) (w : World) (h2 : 2 ≤ n) (hb : n ≤ 1152921504606846976) :
    Calls Try.prog 75 #[.int .i64 n] w fun e w' => e = .returned (.int .i64 (Sg.halfN n.toNat)) ∧ w' = w := by
  go_enter Try.func75, Try.ntmps75
  go_wp2
  go_loop [3] (fun t => ∃ j : Nat, ((2 ^ j : Nat) : Int) < n ∧ t = .int .i64 ((2 ^ j : Nat) : Int)) (fun t => (n - intOf t).toNat)
  case atStart => exact ⟨0, by simp; omega, rfl⟩
  case round =>
    obtain ⟨j, hj, rfl⟩ := hrel
    have hpos : 1 ≤ 2 ^ j := Nat.two_pow_pos j
    have HP : Hid (2 ^ (j + 1) = 2 ^ j * 2) := Nat.pow_succ 2 j
    obtain ⟨k, hk⟩ : ∃ k, k = 2 ^ j := ⟨_, rfl⟩
    have HK : Hid (k = 2 ^ j) := hk
    rw [← hk] at hj hpos ⊢
    clear hk
    by_cases hlt : (k : Int) < n - k
    · go_wp2
      go_round
      case rel => exact ⟨j + 1, by rw [HP.out, ← HK.out]; omega, by rw [HP.out, ← HK.out]; go_num⟩
      case measure => simp [intOf]; omega
    · go_wp2
      go_ret
      refine ⟨ret_int ?_, rfl⟩
      rw [HK.out]
      congr 1
      exact Sg.halfN_of (by rw [← HK.out]; omega) (by rw [← HK.out]; omega)

theorem leafT_size (s : ByteArray) : (Sg.leafT s).size = 1 + s.size := by
  unfold Sg.leafT; rw [ByteArray.size_append]; rfl
theorem nodeT_size (a b : ByteArray) : (Sg.nodeT a b).size = 1 + a.size + b.size := by
  unfold Sg.nodeT; rw [ByteArray.size_append, ByteArray.size_append]; rfl

set_option maxHeartbeats 400000 in
/-- What makes a leaf. -/
theorem leaf_any (s : ByteArray) (w : World) (hs : s.size ≤ 140737488355328) :
    Calls Try.prog 73 #[.string s] w fun e w' => e = .returned (.string (Sg.leafB s)) ∧ Below w.heap.size w w' := by
  go_enter Try.func73, Try.ntmps73
  go_wp2_with fail
  refine (sumOf_any (Sg.leafT s) _ (by rw [leafT_size]; unfold maxLen; omega)).mono ?_
  rintro e w1 ⟨rfl, hb1⟩
  go_wp2_with fail
  go_ret
  exact ⟨rfl, hb1⟩

set_option maxHeartbeats 400000 in
/-- What makes a node. -/
theorem node_any (a b : ByteArray) (w : World) (ha : a.size = 2) (hb : b.size = 2) :
    Calls Try.prog 74 #[.string a, .string b] w fun e w' => e = .returned (.string (Sg.nodeB a b)) ∧ Below w.heap.size w w' := by
  have ha' : a.size ≤ 2 := by omega
  have hb' : b.size ≤ 2 := by omega
  clear ha hb
  go_enter Try.func74, Try.ntmps74
  go_wp2_with fail
  refine (sumOf_any (Sg.nodeT a b) _ (by rw [nodeT_size]; unfold maxLen; omega)).mono ?_
  rintro e w1 ⟨rfl, hb1⟩
  go_wp2_with fail
  go_ret
  exact ⟨rfl, hb1⟩

/-- The cells of a slice of texts. -/
def StrsAt (w : World) (b off : Nat) (ss : List ByteArray) : Prop := ∀ i, i < ss.length → w.cell? ⟨b, off + i, none⟩ = some (.string (ss.getD i ByteArray.empty))
theorem StrsAt.below {w w' : World} {B b off : Nat} {ss : List ByteArray} (h : StrsAt w b off ss) (hb : Below B w w') (hlt : b < B) : StrsAt w' b off ss := fun i hi => by
  rw [hb.cell (p := ⟨b, off + i, none⟩) hlt]; exact h i hi
theorem StrsAt.take {w : World} {b off : Nat} {ss : List ByteArray} (h : StrsAt w b off ss) (k : Nat) : StrsAt w b off (ss.take k) := fun i hi => by
  have hi' : i < k ∧ i < ss.length := by simp at hi; omega
  rw [h i hi'.2]
  simp [List.getD, hi'.1]
theorem StrsAt.drop {w : World} {b off : Nat} {ss : List ByteArray} (h : StrsAt w b off ss) (k : Nat) : StrsAt w b (off + k) (ss.drop k) := fun i hi => by
  have hi' : k + i < ss.length := by simp at hi; omega
  have := h (k + i) hi'
  rw [← Nat.add_assoc] at this
  rw [this]
  simp [List.getD]

end Go.Proofs.Ytoadiibfmcjgaab
