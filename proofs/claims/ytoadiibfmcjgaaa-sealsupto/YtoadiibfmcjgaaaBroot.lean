/-
  THE WALKS of sum.Trees, Builder.Root, seal.Root (P4).
-/
import Derived.Test.YtoadiibfmcjgaaaHalf
import Derived.Deep.RegionHeld3
import Derived.Deep.DrawnRows
import Derived.Laws.EntriesVeiled
import Derived.Laws.Pointers
namespace Go.Proofs.Ytoadiibfmcjgaaa
open Go.RowKit
set_option maxRecDepth 100000
attribute [local go_sem ↓] Go.wp_at_zero Go.wp_at_succ

/-- The builder's two functions. -/
abbrev fLeaf : Value := .func (.func 62) #[] #[]
abbrev fNode : Value := .func (.func 63) #[] #[]

set_option maxHeartbeats 400000 in
/-- sum.Trees. -/
theorem sums_any (w : World) :
    Calls Try.prog 43 #[] w fun e w' => e = .returned (.agg #[fLeaf, fNode]) ∧ Below w.heap.size w w' := by
  go_enter Try.func43, Try.ntmps43
  go_wp2_with fail
  exact bodyPost_ret (v := .agg #[fLeaf, fNode]) (by simp [results, Try.results43, go_sem]) rfl ⟨rfl, (Below.refl _ _).alloc (Nat.le_refl _) _⟩

/-- What a world that came behind w still has: the leaves; all that was there. -/
def Still (w : World) (b off : Nat) (ss : List ByteArray) (w' : World) : Prop := StrsAt w' b off ss ∧ w.heap.size < w'.heap.size ∧ Below w.heap.size w w'
theorem Still.below {w w' : World} {b off : Nat} {ss : List ByteArray} (h : Still w b off ss w') : Below w.heap.size w w' := h.2.2
theorem Still.drew {w w' : World} {b off : Nat} {ss : List ByteArray} (h : Still w b off ss w') : Still w b off ss w'.drew :=
  ⟨fun i hi => by simpa using h.1 i hi, by simpa using h.2.1, h.2.2.drew⟩
theorem Still.alloc {w : World} {b off : Nat} {ss : List ByteArray} (hbw : b < w.heap.size) (hat : StrsAt w b off ss) (o : Obj) : Still w b off ss (w.alloc o) :=
  ⟨hat.below ((Below.refl _ _).alloc (Nat.le_refl _) o) hbw, by simp, (Below.refl _ _).alloc (Nat.le_refl _) o⟩
theorem Still.call {w W w' : World} {b off : Nat} {ss : List ByteArray} (h : Still w b off ss W) (hbw : b < w.heap.size) (hb : Below W.heap.size W w') : Still w b off ss w' :=
  ⟨h.1.below hb (by have := h.2.1; omega), by have := h.2.1; have := hb.size; omega, h.2.2.trans (hb.mono (by have := h.2.1; omega))⟩
/-- The builder's box, and the rest. -/
theorem box_call {w W w' : World} {b off : Nat} {ss : List ByteArray} {x y : Value} (h : W.cell? ⟨w.heap.size, 0, none⟩ = some x ∧ W.cell? ⟨w.heap.size, 1, none⟩ = some y ∧ Still w b off ss W) (hbw : b < w.heap.size) (hb : Below W.heap.size W w') :
    w'.cell? ⟨w.heap.size, 0, none⟩ = some x ∧ w'.cell? ⟨w.heap.size, 1, none⟩ = some y ∧ Still w b off ss w' :=
  ⟨(hb.cell (p := ⟨w.heap.size, 0, none⟩) h.2.2.2.1).trans h.1, (hb.cell (p := ⟨w.heap.size, 1, none⟩) h.2.2.2.1).trans h.2.1, h.2.2.call hbw hb⟩
theorem box_lt {w W : World} {b off : Nat} {ss : List ByteArray} {x y : Value} (h : W.cell? ⟨w.heap.size, 0, none⟩ = some x ∧ W.cell? ⟨w.heap.size, 1, none⟩ = some y ∧ Still w b off ss W) (hbw : b < w.heap.size) : b < W.heap.size := Nat.lt_trans hbw h.2.2.2.1
theorem box_at {w W : World} {b off : Nat} {ss : List ByteArray} {x y : Value} (h : W.cell? ⟨w.heap.size, 0, none⟩ = some x ∧ W.cell? ⟨w.heap.size, 1, none⟩ = some y ∧ Still w b off ss W) : StrsAt W b off ss := h.2.2.1
theorem box_drew {w W : World} {b off : Nat} {ss : List ByteArray} {x y : Value} (h : W.cell? ⟨w.heap.size, 0, none⟩ = some x ∧ W.cell? ⟨w.heap.size, 1, none⟩ = some y ∧ Still w b off ss W) :
    W.drew.cell? ⟨w.heap.size, 0, none⟩ = some x ∧ W.drew.cell? ⟨w.heap.size, 1, none⟩ = some y ∧ Still w b off ss W.drew :=
  ⟨by simpa using h.1, by simpa using h.2.1, h.2.2.drew⟩
theorem box_new {w : World} {b off : Nat} {ss : List ByteArray} {x y : Value} {t : TypeId} (hbw : b < w.heap.size) (hat : StrsAt w b off ss) :
    (w.alloc (.cells #[x, y] t)).cell? ⟨w.heap.size, 0, none⟩ = some x ∧ (w.alloc (.cells #[x, y] t)).cell? ⟨w.heap.size, 1, none⟩ = some y ∧ Still w b off ss (w.alloc (.cells #[x, y] t)) :=
  ⟨by simp, by simp, Still.alloc hbw hat _⟩

set_option maxHeartbeats 800000 in
theorem bRoot_one (ss : List ByteArray) (b off cap : Nat) (w : World) (hn : ss.length = 1) (hsz : ∀ s ∈ ss, s.size ≤ 140737488355328) (hbw : b < w.heap.size) (hat : StrsAt w b off ss) :
    Calls Try.prog 61 #[.agg #[fLeaf, fNode], .slice (some ⟨b, off, none⟩) 1 cap] w fun e w' => e = .returned (.string (Sg.root ss)) ∧ Below w.heap.size w w' := by
  have HR : Hid (Sg.root ss = Sg.leafB (ss.getD 0 ByteArray.empty)) := Sg.root_one hn
  have hc0 : w.cell? ⟨b, off, none⟩ = some (.string (ss.getD 0 ByteArray.empty)) := hat 0 (by omega)
  have hs0 : (ss.getD 0 ByteArray.empty).size ≤ 140737488355328 := hsz _ (by
    rw [List.getD_eq_getElem?_getD, List.getElem?_eq_getElem (by omega)]; simp)
  obtain ⟨x, hx⟩ : ∃ x, x = ss.getD 0 ByteArray.empty := ⟨_, rfl⟩
  rw [← hx] at hc0 hs0
  have HX : Hid (x = ss.getD 0 ByteArray.empty) := hx
  clear hx hat hsz hn
  have hc1 : ∀ o, (w.alloc o).cell? ⟨b, off, none⟩ = some (.string x) := fun o => (World.cell?_alloc_past _ _ _ (by simpa using hbw)).trans hc0
  go_enter Try.func61, Try.ntmps61
  go_wp2_with fail
  go_region_held3 (fun w' => w'.cell? ⟨w.heap.size, 0, none⟩ = some fLeaf ∧ w'.cell? ⟨b, off, none⟩ = some (.string x)) (refine ⟨?_, ?_⟩ <;> first | assumption | (simp [go_sem, hc1]; done))
    (first | (go_at_call 62; refine (leaf_any x _ hs0).mono ?_; rintro e w' ⟨rfl, hb1⟩; have k1 : w'.cell? ⟨w.heap.size, 0, none⟩ = some fLeaf := (hb1.cell (p := ⟨w.heap.size, 0, none⟩) (by simp)).trans (by simp [go_sem]); have k2 : w'.cell? ⟨b, off, none⟩ = some (.string x) := (hb1.cell (p := ⟨b, off, none⟩) (by simp; omega)).trans (by simp [go_sem, hc1])))
  go_wp2_with fail
  go_ret
  refine ⟨ret_str ?_, (((Below.refl _ _).alloc (Nat.le_refl _) _).drew).trans (hb1.mono (by simp))⟩
  rw [HR.out, ← HX.out]

/-- Builder.Root of one leaf or more, up to m. -/
def BRootUpto (m : Nat) : Prop := ∀ (ss : List ByteArray) (n b off cap : Nat) (w : World), ss.length = n → n ≤ m → 1 ≤ n → n ≤ cap → (cap ≤ 9223372036854775807 ∧ n ≤ 1152921504606846976) → (∀ s ∈ ss, s.size ≤ 140737488355328) →
    b < w.heap.size → StrsAt w b off ss →
    Calls Try.prog 61 #[.agg #[fLeaf, fNode], .slice (some ⟨b, off, none⟩) n cap] w fun e w' => e = .returned (.string (Sg.root ss)) ∧ Below w.heap.size w w'

set_option maxHeartbeats 1600000 in
theorem bRoot_more {m : Nat} (ih : BRootUpto m) (ss : List ByteArray) (n b off cap : Nat) (w : World) (hn : ss.length = n) (hm : n ≤ m + 1) (h2 : 2 ≤ n) (hlc : n ≤ cap) (hcap0 : cap ≤ 9223372036854775807 ∧ n ≤ 1152921504606846976) (hsz : ∀ s ∈ ss, s.size ≤ 140737488355328)
    (hbw : b < w.heap.size) (hat : StrsAt w b off ss) :
    Calls Try.prog 61 #[.agg #[fLeaf, fNode], .slice (some ⟨b, off, none⟩) n cap] w fun e w' => e = .returned (.string (Sg.root ss)) ∧ Below w.heap.size w w' := by
  obtain ⟨hcap, hn60⟩ := hcap0
  have HR : Hid (Sg.root ss = Sg.nodeB (Sg.root (ss.take (Sg.halfN n))) (Sg.root (ss.drop (Sg.halfN n)))) := by
    have := Sg.root_more (l := ss) (by omega); rw [hn] at this; exact this
  have hlt := Sg.halfN_lt h2
  have hpos := Sg.halfN_pos n
  obtain ⟨k, hk⟩ : ∃ k, k = Sg.halfN n := ⟨_, rfl⟩
  rw [← hk] at HR hlt hpos
  have HK : Hid (k = Sg.halfN n) := hk
  clear hk
  have hlt' : k < n := hlt
  have hl1 : ss.length = n := hn
  have HT : Hid ((ss.take k).length = k) := by show _ = _; rw [List.length_take, hl1]; omega
  have HD : Hid ((ss.drop k).length = n - k) := by show _ = _; rw [List.length_drop, hl1]
  clear hn hl1
  have h1 : ((n : Int) == 1) = false := by simp; omega
  have i1 : (0 : Int) ≤ (k : Int) := by omega
  have i2 : (k : Int) ≤ (n : Int) := by omega
  have i3 : (k : Int) ≤ (cap : Int) := by omega
  have i4 : (n : Int) ≤ (cap : Int) := by omega
  have s1 := Sg.root_size (ss.take k)
  have s2 := Sg.root_size (ss.drop k)
  go_enter Try.func61, Try.ntmps61
  go_wp2_with fail
  refine (split_any (n : Int) _ (by omega) (by omega)).mono ?_
  rintro e w1 ⟨rfl, rfl⟩
  rw [Int.toNat_natCast, ← HK.out]
  go_wp2_with fail
  go_region_held3 (fun w' => w'.cell? ⟨w.heap.size, 0, none⟩ = some fLeaf ∧ w'.cell? ⟨w.heap.size, 1, none⟩ = some fNode ∧ Still w b off ss w') (first | assumption | exact box_new hbw hat | exact box_drew (box_new hbw hat) | exact box_drew (w := w) (b := b) (off := off) (ss := ss) (x := fLeaf) (y := fNode) (by assumption))
    (first
      | (go_at_call_of 61 (Value.slice (some ⟨b, off, none⟩) k cap); refine (ih (ss.take k) k b off cap _ HT.out (by omega) (by omega) (by omega) (by omega) (fun s hs => hsz s (List.mem_of_mem_take hs)) ?_ ?_).mono ?_; exact box_lt (w := w) (off := off) (ss := ss) (x := fLeaf) (y := fNode) (by assumption) hbw; exact (box_at (w := w) (b := b) (off := off) (ss := ss) (x := fLeaf) (y := fNode) (by assumption)).take k; rintro e w2 ⟨rfl, hb2⟩; have hh2 := box_call (w := w) (b := b) (off := off) (ss := ss) (x := fLeaf) (y := fNode) (by assumption) hbw hb2)
      | (go_at_call_of 61 (Value.slice (some ⟨b, off + k, none⟩) (n - k) (cap - k)); refine (ih (ss.drop k) (n - k) b (off + k) (cap - k) _ HD.out (by omega) (by omega) (by omega) (by omega) (fun s hs => hsz s (List.mem_of_mem_drop hs)) ?_ ?_).mono ?_; exact box_lt (w := w) (off := off) (ss := ss) (x := fLeaf) (y := fNode) (by assumption) hbw; exact (box_at (w := w) (b := b) (off := off) (ss := ss) (x := fLeaf) (y := fNode) (by assumption)).drop k; rintro e w3 ⟨rfl, hb3⟩; have hh3 := box_call (w := w) (b := b) (off := off) (ss := ss) (x := fLeaf) (y := fNode) (by assumption) hbw hb3)
      | (go_at_call 63; refine (node_any _ _ _ s1 s2).mono ?_; rintro e w4 ⟨rfl, hb4⟩; have hh4 := box_call (w := w) (b := b) (off := off) (ss := ss) (x := fLeaf) (y := fNode) (by assumption) hbw hb4))
  go_wp2_with fail
  go_ret
  refine ⟨ret_str ?_, hh4.2.2.below⟩
  rw [HR.out]

theorem bRoot_upto : ∀ m, BRootUpto m := by
  intro m
  induction m with
  | zero => intro ss n b off cap w _ hm h1; omega
  | succ m ih =>
    intro ss n b off cap w hn hm h1 hlc hcap hsz hbw hat
    by_cases hone : n = 1
    · subst hone; exact bRoot_one ss b off cap w hn hsz hbw hat
    · exact bRoot_more ih ss n b off cap w hn hm (by omega) hlc hcap hsz hbw hat

set_option maxHeartbeats 400000 in
theorem sumRoot_none (ao : Option Addr) (cap : Nat) (w : World) :
    Calls Try.prog 41 #[.slice ao 0 cap] w fun e w' => e = .returned (.string (Sg.sumB ByteArray.empty)) ∧ Below w.heap.size w w' := by
  go_enter Try.func41, Try.ntmps41
  go_wp2_with fail
  refine (sumOf_any ByteArray.empty _ (by decide)).mono ?_
  rintro e w1 ⟨rfl, hb1⟩
  go_wp2_with fail
  go_ret
  exact ⟨rfl, hb1⟩

set_option maxHeartbeats 400000 in
theorem sumRoot_some (ss : List ByteArray) (n b off cap : Nat) (w : World) (hn : ss.length = n) (h1 : 1 ≤ n) (hlc : n ≤ cap) (hcap : cap ≤ 9223372036854775807 ∧ n ≤ 1152921504606846976) (hsz : ∀ s ∈ ss, s.size ≤ 140737488355328)
    (hbw : b < w.heap.size) (hat : StrsAt w b off ss) :
    Calls Try.prog 41 #[.slice (some ⟨b, off, none⟩) n cap] w fun e w' => e = .returned (.string (Sg.root ss)) ∧ Below w.heap.size w w' := by
  have h0 : ((n : Int) == 0) = false := by simp; omega
  go_enter Try.func41, Try.ntmps41
  go_wp2_with fail
  refine (sums_any _).mono ?_
  rintro e w1 ⟨rfl, hb1⟩
  go_wp2_with fail
  refine (bRoot_upto n ss n b off cap _ hn (Nat.le_refl _) h1 hlc hcap hsz (Nat.lt_of_lt_of_le hbw hb1.size) (hat.below hb1 hbw)).mono ?_
  rintro e w2 ⟨rfl, hb2⟩
  go_wp2_with fail
  go_ret
  exact ⟨rfl, hb1.trans (hb2.mono hb1.size)⟩

set_option maxHeartbeats 400000 in
theorem sealRoot_none (ao : Option Addr) (cap : Nat) (w : World) :
    Calls Try.prog 14 #[.slice ao 0 cap] w fun e w' => e = .returned (.string (Sg.sumB ByteArray.empty)) ∧ Below w.heap.size w w' := by
  go_enter Try.func14, Try.ntmps14
  go_wp2_with fail
  refine (sumRoot_none ao cap _).mono ?_
  rintro e w1 ⟨rfl, hb1⟩
  go_wp2_with fail
  go_ret
  exact ⟨rfl, hb1⟩

set_option maxHeartbeats 400000 in
theorem sealRoot_some (ss : List ByteArray) (n b off cap : Nat) (w : World) (hn : ss.length = n) (h1 : 1 ≤ n) (hlc : n ≤ cap) (hcap : cap ≤ 9223372036854775807 ∧ n ≤ 1152921504606846976) (hsz : ∀ s ∈ ss, s.size ≤ 140737488355328)
    (hbw : b < w.heap.size) (hat : StrsAt w b off ss) :
    Calls Try.prog 14 #[.slice (some ⟨b, off, none⟩) n cap] w fun e w' => e = .returned (.string (Sg.root ss)) ∧ Below w.heap.size w w' := by
  go_enter Try.func14, Try.ntmps14
  go_wp2_with fail
  refine (sumRoot_some ss n b off cap _ hn h1 hlc hcap hsz hbw hat).mono ?_
  rintro e w1 ⟨rfl, hb1⟩
  go_wp2_with fail
  go_ret
  exact ⟨rfl, hb1⟩
end Go.Proofs.Ytoadiibfmcjgaaa
