import Derived.Test.YtpkkhkkkgjhkeabGreatShiftSpec
import Derived.Test.YtpkkhkkkgjhkeabGreatMadeX
/-
  PLAIN MATHEMATICS (P11, P13): two histories out of raw numbers that differ in one memo have one head.
-/
namespace Go.Proofs.YtpkkhkkkgjhkeabGreat
theorem perX_key {nA n : Nat} {rs ss : List Raw} (h : rs.map (fun r => Sg.key (entX nA r)) = ss.map (fun r => Sg.key (entX nA r))) (k : Nat) : (perX nA n rs k).map (List.map Sg.key) = (perX nA n ss k).map (List.map Sg.key) := by
  unfold perX
  rw [List.map_map, List.map_map]
  refine List.map_congr_left (fun i _ => ?_)
  simp only [Function.comp_def, List.map_map]
  rw [List.map_take, List.map_drop, List.map_take, List.map_drop]
  have e : ∀ l : List Raw, l.map (Sg.key ∘ entX nA) = l.map (fun r => Sg.key (entX nA r)) := fun l => rfl
  first | rw [h] | (simp only [Function.comp_def] at *; rw [h])
theorem perX_flat (nA n : Nat) (rs : List Raw) : ∀ k, (perX nA n rs k).flatten = (rs.take (k * n)).map (entX nA)
  | 0 => by unfold perX; simp
  | k + 1 => by
    have ih := perX_flat nA n rs k
    have e : perX nA n rs (k + 1) = perX nA n rs k ++ [((rs.drop (k * n)).take n).map (entX nA)] := by unfold perX; rw [List.range_succ, List.map_append]; rfl
    rw [e, List.flatten_append, ih]
    simp only [List.flatten_cons, List.flatten_nil, List.append_nil]
    rw [← List.map_append, ← List.take_add, Nat.add_mul, Nat.one_mul]
/-- A raw entry with another memo. -/
def Raw.to (r : Raw) (m : ByteArray) : Raw := ⟨m, r.a, r.b, r.c, r.n⟩
theorem found_twins {nA n k i : Nat} {l : List Raw} {x : Raw} {m1 m2 : ByteArray} (hx : l[i]? = some x) (hk : i < k * n) (hne : cutM m1 ≠ cutM m2) (hl : ∀ pp, Sg.leafB (Sg.entB ⟨cutM m1, pp⟩) = Sg.leafB (Sg.entB ⟨cutM m2, pp⟩)) :
    (perX nA n (l.set i (x.to m1)) k).map (List.map Sg.key) = (perX nA n (l.set i (x.to m2)) k).map (List.map Sg.key) ∧ perX nA n (l.set i (x.to m1)) k ≠ perX nA n (l.set i (x.to m2)) k := by
  have hi := (List.getElem?_eq_some_iff.1 hx).1
  refine ⟨perX_key ?_ k, fun e => ?_⟩
  · rw [List.map_set, List.map_set]
    have : Sg.key (entX nA (x.to m1)) = Sg.key (entX nA (x.to m2)) := by
      unfold Sg.key entX Raw.to
      simp only
      rw [hl]
    rw [this]
  · have e1 := congrArg List.flatten e
    rw [perX_flat, perX_flat] at e1
    have e2 := congrArg (fun z => z[i]?) e1
    simp only [List.getElem?_map] at e2
    rw [List.getElem?_take_of_lt hk, List.getElem?_take_of_lt hk, List.getElem?_set_self hi, List.getElem?_set_self hi] at e2
    simp only [Option.map_some, Option.some.injEq] at e2
    exact hne (congrArg Sg.Ent.memo e2)
/-- How many periods come out of so many entries: one number alone. -/
theorem many_one {n nr k j : Nat} (hk : 1 ≤ k) (hk6 : k ≤ 6) (h1 : k = 6 ∨ nr ≤ k * n) (h2 : ∀ k', 1 ≤ k' → k' < k → k' * n < nr) (hj : 1 ≤ j) (hj6 : j ≤ 6) (g1 : j = 6 ∨ nr ≤ j * n) (g2 : ∀ k', 1 ≤ k' → k' < j → k' * n < nr) : k = j := by
  by_cases a : k < j
  · have := g2 k hk a
    rcases h1 with h | h <;> omega
  · by_cases b : j < k
    · have := h2 j hj b
      rcases g1 with h | h <;> omega
    · omega
def memoA (p : Nat) : ByteArray := ⟨#[97, 97, UInt8.ofNat (40 + p), 122, 122]⟩
def memoB (p : Nat) : ByteArray := ⟨#[97, 97, UInt8.ofNat (41 + p), 89, 122]⟩
theorem memo_leaf (p : Nat) (hp : p < 50) (pp : List Sg.Pst) : Sg.leafB (Sg.entB ⟨cutM (memoA p), pp⟩) = Sg.leafB (Sg.entB ⟨cutM (memoB p), pp⟩) := by
  have c1 : cutM (memoA p) = memoA p := by unfold cutM; rw [if_neg (by show ¬ 20 < 5; omega)]
  have c2 : cutM (memoB p) = memoB p := by unfold cutM; rw [if_neg (by show ¬ 20 < 5; omega)]
  rw [c1, c2]
  refine Sg.leafB_two (a := Sg.beL 5 1 ++ [97, 97]) (b := [122] ++ (Sg.beL (pp.length : Int) 1 ++ pp.flatMap Sg.pstL)) (x := UInt8.ofNat (40 + p)) (y := 122) (x' := UInt8.ofNat (41 + p)) (y' := 89) ?_ ?_ ?_
  · rw [Sg.tx_entB]; rfl
  · rw [Sg.tx_entB]; rfl
  · simp; omega
theorem memo_ne (p : Nat) : cutM (memoA p) ≠ cutM (memoB p) := by
  have c1 : cutM (memoA p) = memoA p := by unfold cutM; rw [if_neg (by show ¬ 20 < 5; omega)]
  have c2 : cutM (memoB p) = memoB p := by unfold cutM; rw [if_neg (by show ¬ 20 < 5; omega)]
  rw [c1, c2]
  intro h
  have h1 := congrArg (fun b : ByteArray => b.data.toList[3]?) h
  simp [memoA, memoB] at h1
end Go.Proofs.YtpkkhkkkgjhkeabGreat
