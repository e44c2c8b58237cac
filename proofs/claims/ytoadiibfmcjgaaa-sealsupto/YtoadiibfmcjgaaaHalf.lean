/-
  THE WALKS of half, split, and of what makes a leaf and a node (P4).
-/
import Derived.Test.YtoadiibfmcjgaaaBytes
import Derived.Test.YtoadiibfmcjgaaaTree
namespace Go.Proofs.Ytoadiibfmcjgaaa
open Go.RowKit
set_option maxRecDepth 100000

theorem ret_int {k : IntKind} {a b : Int} (h : a = b) : Ending.returned (.int k a) = .returned (.int k b) := by rw [h]

set_option maxHeartbeats 400000 in
/-- signetref.half. -/
theorem half_any (n : Int) (w : World) (h2 : 2 ≤ n) (hb : n ≤ 1152921504606846976) :
    Calls Try.prog 42 #[.int .i64 n] w fun e w' => e = .returned (.int .i64 (Sg.halfN n.toNat)) ∧ w' = w := by
  go_enter Try.func42, Try.ntmps42
  go_wp2
  go_loop [3] (fun t => ∃ j : Nat, ((2 ^ j : Nat) : Int) < n ∧ t = .int .i64 ((2 ^ j : Nat) : Int)) (fun t => (n - intOf t).toNat)
  case atStart => exact ⟨0, by simp; omega, rfl⟩
  case round =>
    obtain ⟨j, hj, rfl⟩ := hrel
    have hpos : 1 ≤ 2 ^ j := Nat.two_pow_pos j
    have HP : Hid (2 ^ (j + 1) = 2 ^ j * 2) := Nat.pow_succ 2 j
    obtain ⟨k, hk⟩ : ∃ k, k = 2 ^ j := ⟨_, rfl⟩
    have HK : Hid (k = 2 ^ j) := hk
    rw [← hk] at hj hpos ⊢
    clear hk
    by_cases hlt : 2 * (k : Int) < n
    · go_wp2
      go_round
      case rel => exact ⟨j + 1, by rw [HP.out, ← HK.out]; omega, by rw [HP.out, ← HK.out]; go_num⟩
      case measure => simp [intOf]; omega
    · go_wp2
      go_ret
      refine ⟨ret_int ?_, rfl⟩
      rw [HK.out]
      congr 1
      exact Sg.halfN_of (by rw [← HK.out]; omega) (by rw [← HK.out]; omega)

set_option maxHeartbeats 400000 in
/-- tree.split. -/
theorem split_any (n : Int) (w : World) (h2 : 2 ≤ n) (hb : n ≤ 1152921504606846976) :
    Calls Try.prog 64 #[.int .i64 n] w fun e w' => e = .returned (.int .i64 (Sg.halfN n.toNat)) ∧ w' = w := by
  go_enter Try.func64, Try.ntmps64
  go_wp2
  go_loop [3] (fun t => ∃ j : Nat, ((2 ^ j : Nat) : Int) < n ∧ t = .int .i64 ((2 ^ j : Nat) : Int)) (fun t => (n - intOf t).toNat)
  case atStart => exact ⟨0, by simp; omega, rfl⟩
  case round =>
    obtain ⟨j, hj, rfl⟩ := hrel
    have hpos : 1 ≤ 2 ^ j := Nat.two_pow_pos j
    have HP : Hid (2 ^ (j + 1) = 2 ^ j * 2) := Nat.pow_succ 2 j
    obtain ⟨k, hk⟩ : ∃ k, k = 2 ^ j := ⟨_, rfl⟩
    have HK : Hid (k = 2 ^ j) := hk
    rw [← hk] at hj hpos ⊢
    clear hk
    by_cases hlt : (k : Int) < n - k
    · go_wp2
      go_round
      case rel => exact ⟨j + 1, by rw [HP.out, ← HK.out]; omega, by rw [HP.out, ← HK.out]; go_num⟩
      case measure => simp [intOf]; omega
    · go_wp2
      go_ret
      refine ⟨ret_int ?_, rfl⟩
      rw [HK.out]
      congr 1
      exact Sg.halfN_of (by rw [← HK.out]; omega) (by rw [← HK.out]; omega)

theorem leafT_size (s : ByteArray) : (Sg.leafT s).size = 1 + s.size := by
  unfold Sg.leafT; rw [ByteArray.size_append]; rfl
theorem nodeT_size (a b : ByteArray) : (Sg.nodeT a b).size = 1 + a.size + b.size := by
  unfold Sg.nodeT; rw [ByteArray.size_append, ByteArray.size_append]; rfl

set_option maxHeartbeats 400000 in
/-- What makes a leaf. -/
theorem leaf_any (s : ByteArray) (w : World) (hs : s.size ≤ 140737488355328) :
    Calls Try.prog 62 #[.string s] w fun e w' => e = .returned (.string (Sg.leafB s)) ∧ Below w.heap.size w w' := by
  go_enter Try.func62, Try.ntmps62
  go_wp2_with fail
  refine (sumOf_any (Sg.leafT s) _ (by rw [leafT_size]; unfold maxLen; omega)).mono ?_
  rintro e w1 ⟨rfl, hb1⟩
  go_wp2_with fail
  go_ret
  exact ⟨rfl, hb1⟩

set_option maxHeartbeats 400000 in
/-- What makes a node. -/
theorem node_any (a b : ByteArray) (w : World) (ha : a.size = 2) (hb : b.size = 2) :
    Calls Try.prog 63 #[.string a, .string b] w fun e w' => e = .returned (.string (Sg.nodeB a b)) ∧ Below w.heap.size w w' := by
  have ha' : a.size ≤ 2 := by omega
  have hb' : b.size ≤ 2 := by omega
  clear ha hb
  go_enter Try.func63, Try.ntmps63
  go_wp2_with fail
  refine (sumOf_any (Sg.nodeT a b) _ (by rw [nodeT_size]; unfold maxLen; omega)).mono ?_
  rintro e w1 ⟨rfl, hb1⟩
  go_wp2_with fail
  go_ret
  exact ⟨rfl, hb1⟩

/-- The cells of a slice of texts. -/
def StrsAt (w : World) (b off : Nat) (ss : List ByteArray) : Prop := ∀ i, i < ss.length → w.cell? ⟨b, off + i, none⟩ = some (.string (ss.getD i ByteArray.empty))
theorem StrsAt.below {w w' : World} {B b off : Nat} {ss : List ByteArray} (h : StrsAt w b off ss) (hb : Below B w w') (hlt : b < B) : StrsAt w' b off ss := fun i hi => by
  rw [hb.cell (p := ⟨b, off + i, none⟩) hlt]; exact h i hi
theorem StrsAt.take {w : World} {b off : Nat} {ss : List ByteArray} (h : StrsAt w b off ss) (k : Nat) : StrsAt w b off (ss.take k) := fun i hi => by
  have hi' : i < k ∧ i < ss.length := by simp at hi; omega
  rw [h i hi'.2]
  simp [List.getD, hi'.1]
theorem StrsAt.drop {w : World} {b off : Nat} {ss : List ByteArray} (h : StrsAt w b off ss) (k : Nat) : StrsAt w b (off + k) (ss.drop k) := fun i hi => by
  have hi' : k + i < ss.length := by simp at hi; omega
  have := h (k + i) hi'
  rw [← Nat.add_assoc] at this
  rw [this]
  simp [List.getD]

set_option maxHeartbeats 400000 in
theorem refRoot_none (ao : Option Addr) (cap : Nat) (w : World) :
    Calls Try.prog 15 #[.slice ao 0 cap] w fun e w' => e = .returned (.string (Sg.sumB ByteArray.empty)) ∧ Below w.heap.size w w' := by
  go_enter Try.func15, Try.ntmps15
  go_wp2_with fail
  refine (refSum_any ByteArray.empty _ (by decide)).mono ?_
  rintro e w1 ⟨rfl, hb1⟩
  go_wp2_with fail
  go_ret
  exact ⟨rfl, hb1⟩

/-- signetref.Root of one leaf or more, up to m. -/
def RefRootUpto (m : Nat) : Prop := ∀ (ss : List ByteArray) (n b off cap : Nat) (w : World), ss.length = n → n ≤ m → 1 ≤ n → n ≤ cap → (cap ≤ 9223372036854775807 ∧ n ≤ 1152921504606846976) → (∀ s ∈ ss, s.size ≤ 140737488355328) →
    b < w.heap.size → StrsAt w b off ss →
    Calls Try.prog 15 #[.slice (some ⟨b, off, none⟩) n cap] w fun e w' => e = .returned (.string (Sg.root ss)) ∧ Below w.heap.size w w'

set_option maxHeartbeats 800000 in
theorem refRoot_one (ss : List ByteArray) (b off cap : Nat) (w : World) (hn : ss.length = 1) (hsz : ∀ s ∈ ss, s.size ≤ 140737488355328) (hat : StrsAt w b off ss) :
    Calls Try.prog 15 #[.slice (some ⟨b, off, none⟩) 1 cap] w fun e w' => e = .returned (.string (Sg.root ss)) ∧ Below w.heap.size w w' := by
  have HR : Hid (Sg.root ss = Sg.leafB (ss.getD 0 ByteArray.empty)) := Sg.root_one hn
  have hc0 : w.cell? ⟨b, off, none⟩ = some (.string (ss.getD 0 ByteArray.empty)) := hat 0 (by omega)
  have hs0 : (ss.getD 0 ByteArray.empty).size ≤ 140737488355328 := hsz _ (by
    rw [List.getD_eq_getElem?_getD, List.getElem?_eq_getElem (by omega)]; simp)
  obtain ⟨x, hx⟩ : ∃ x, x = ss.getD 0 ByteArray.empty := ⟨_, rfl⟩
  rw [← hx] at hc0 hs0
  have HX : Hid (x = ss.getD 0 ByteArray.empty) := hx
  clear hx hat hsz hn
  go_enter Try.func15, Try.ntmps15
  go_wp2_with fail
  refine (refSum_any (Sg.leafT x) _ (by rw [leafT_size]; unfold maxLen; omega)).mono ?_
  rintro e w1 ⟨rfl, hb1⟩
  go_wp2_with fail
  go_ret
  refine ⟨ret_str ?_, hb1⟩
  rw [HR.out, ← HX.out]; rfl

set_option maxHeartbeats 800000 in
theorem refRoot_more {m : Nat} (ih : RefRootUpto m) (ss : List ByteArray) (n b off cap : Nat) (w : World) (hn : ss.length = n) (hm : n ≤ m + 1) (h2 : 2 ≤ n) (hlc : n ≤ cap) (hcap0 : cap ≤ 9223372036854775807 ∧ n ≤ 1152921504606846976) (hsz : ∀ s ∈ ss, s.size ≤ 140737488355328)
    (hbw : b < w.heap.size) (hat : StrsAt w b off ss) :
    Calls Try.prog 15 #[.slice (some ⟨b, off, none⟩) n cap] w fun e w' => e = .returned (.string (Sg.root ss)) ∧ Below w.heap.size w w' := by
  obtain ⟨hcap, hn60⟩ := hcap0
  have HR : Hid (Sg.root ss = Sg.nodeB (Sg.root (ss.take (Sg.halfN n))) (Sg.root (ss.drop (Sg.halfN n)))) := by
    have := Sg.root_more (l := ss) (by omega); rw [hn] at this; exact this
  have hlt := Sg.halfN_lt h2
  have hpos := Sg.halfN_pos n
  obtain ⟨k, hk⟩ : ∃ k, k = Sg.halfN n := ⟨_, rfl⟩
  rw [← hk] at HR hlt hpos
  have HK : Hid (k = Sg.halfN n) := hk
  clear hk
  have HN : Hid (ss.length = n) := hn
  clear hn
  have h0 : ((n : Int) == 0) = false := by simp; omega
  have h1 : ((n : Int) == 1) = false := by simp; omega
  go_enter Try.func15, Try.ntmps15
  go_wp2_with fail
  refine (half_any (n : Int) _ (by omega) (by omega)).mono ?_
  rintro e w1 ⟨rfl, rfl⟩
  rw [Int.toNat_natCast, ← HK.out]
  go_wp2_with fail
  refine (ih (ss.take k) k b off cap _ (by rw [List.length_take, HN.out]; omega) (by omega) (by omega) (by omega) ⟨hcap, by omega⟩ (fun s hs => hsz s (List.mem_of_mem_take hs)) hbw (hat.take k)).mono ?_
  rintro e w2 ⟨rfl, hb2⟩
  have hat2 := hat.below hb2 hbw
  have hz2 := hb2.size
  clear hat
  go_wp2_with fail
  refine (ih (ss.drop k) (n - k) b (off + k) (cap - k) _ (by rw [List.length_drop, HN.out]) (by omega) (by omega) (by omega) (by omega) (fun s hs => hsz s (List.mem_of_mem_drop hs)) (by omega) (hat2.drop k)).mono ?_
  rintro e w3 ⟨rfl, hb3⟩
  have s1 := Sg.root_size (ss.take k)
  have s2 := Sg.root_size (ss.drop k)
  generalize Sg.root (ss.take k) = ra at *
  generalize Sg.root (ss.drop k) = rb at *
  have s1' : ra.size ≤ 2 := by omega
  have s2' : rb.size ≤ 2 := by omega
  clear s1 s2 hat2 hsz
  go_wp2_with fail
  refine (refSum_any (Sg.nodeT ra rb) _ (by rw [nodeT_size]; unfold maxLen; omega)).mono ?_
  rintro e w4 ⟨rfl, hb4⟩
  go_wp2_with fail
  go_ret
  refine ⟨ret_str ?_, (hb2.trans (hb3.mono hb2.size)).trans (hb4.mono (Nat.le_trans hb2.size hb3.size))⟩
  rw [HR.out]; rfl

theorem refRoot_upto : ∀ m, RefRootUpto m := by
  intro m
  induction m with
  | zero => intro ss n b off cap w _ hm h1; omega
  | succ m ih =>
    intro ss n b off cap w hn hm h1 hlc hcap hsz hbw hat
    by_cases hone : n = 1
    · subst hone; exact refRoot_one ss b off cap w hn hsz hat
    · exact refRoot_more ih ss n b off cap w hn hm (by omega) hlc hcap hsz hbw hat
end Go.Proofs.Ytoadiibfmcjgaaa
