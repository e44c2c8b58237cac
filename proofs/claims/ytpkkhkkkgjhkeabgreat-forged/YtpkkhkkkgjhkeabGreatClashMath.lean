import Derived.Test.YtpkkhkkkgjhkeabGreatBunSpec
import Derived.Test.YtpkkhkkkgjhkeabGreatNRoot
/-
  PLAIN MATHEMATICS (P11, P12): the texts that are summed are short.
-/
namespace Go.Proofs.YtpkkhkkkgjhkeabGreat.Sg
theorem fo_mem : ∀ (xs ys : List Txt) (x y : Txt), fo xs ys = some (x, y) → x ∈ xs ∧ y ∈ ys
  | [], _, x, y, h => by cases h
  | a :: xs, [], x, y, h => by cases h
  | a :: xs, b :: ys, x, y, h => by
    have h' : (if a = b then fo xs ys else some (a, b)) = some (x, y) := h
    by_cases e : a = b
    · rw [if_pos e] at h'
      have := fo_mem xs ys x y h'
      exact ⟨List.mem_cons_of_mem _ this.1, List.mem_cons_of_mem _ this.2⟩
    · rw [if_neg e] at h'
      simp only [Option.some.injEq, Prod.mk.injEq] at h'
      rw [h'.1, h'.2]
      exact ⟨List.mem_cons_self, List.mem_cons_self⟩
theorem mem_getD {l : List Txt} {i : Nat} (h : i < l.length) : l.getD i ByteArray.empty ∈ l := by
  rw [List.getD_eq_getElem?_getD, List.getElem?_eq_getElem h]; simp
theorem rootTs_short (K : Nat) (hK : 4 ≤ K) : ∀ (m : Nat) (l : List Txt), l.length ≤ m → 1 ≤ l.length → (∀ s ∈ l, s.size ≤ K) → ∀ t ∈ rootTs l, t.size ≤ K + 1
  | 0, l, h, h1, _ => by omega
  | m + 1, l, h, h1, hs => by
    by_cases hh : l.length = 1
    · rw [rootTs_one hh]
      intro t ht
      simp only [List.mem_singleton] at ht
      rw [ht, leafT_size]
      have := hs _ (mem_getD (l := l) (i := 0) (by omega))
      omega
    · have a := halfN_lt (n := l.length) (by omega)
      have b := halfN_pos l.length
      rw [rootTs_more (by omega)]
      intro t ht
      simp only [List.mem_append, List.mem_singleton] at ht
      rcases ht with (ht | ht) | ht
      · exact rootTs_short K hK m _ (by simp; omega) (by simp; omega) (fun s h => hs s (List.mem_of_mem_take h)) t ht
      · exact rootTs_short K hK m _ (by simp; omega) (by simp; omega) (fun s h => hs s (List.mem_of_mem_drop h)) t ht
      · rw [ht, nodeT_size, root_size, root_size]; omega
theorem ofRoot_short {K : Nat} (hK : 4 ≤ K) {l : List Txt} (hs : ∀ s ∈ l, s.size ≤ K) : ∀ t ∈ ofRoot l, t.size ≤ K + 1 := by
  unfold ofRoot
  by_cases h : l.length = 0
  · rw [if_pos h]; intro t ht; simp only [List.mem_singleton] at ht; rw [ht]; show 0 ≤ _; omega
  · rw [if_neg h]; intro t ht; exact rootTs_short K hK l.length l (Nat.le_refl _) (by omega) hs t (List.mem_reverse.1 ht)
theorem climbTs_short (leaf : Txt) (K : Nat) (hK : 4 ≤ K) (hl : leaf.size ≤ K) : ∀ (m i n : Nat) (p : List Txt), n ≤ m → (∀ s ∈ p, s.size = 2) → ∀ t ∈ climbTs leaf i n p, t.size ≤ K + 1
  | m, i, n, p, hm, hp => by
    by_cases h1 : n ≤ 1
    · rw [climbTs_one leaf h1]
      intro t ht
      simp only [List.mem_singleton] at ht
      rw [ht, leafT_size]; omega
    match m, hm with
    | 0, hm => omega
    | m + 1, hm =>
    have a := halfN_lt (n := n) (by omega)
    have b := halfN_pos n
    have hlast : (p.getLastD ByteArray.empty).size ≤ 2 := by
      cases hp' : p.getLast? with
      | none => rw [List.getLastD_eq_getLast?, hp']; show 0 ≤ 2; omega
      | some s => rw [List.getLastD_eq_getLast?, hp']; show s.size ≤ 2; rw [hp s (List.mem_of_getLast? hp')]; omega
    have hd : ∀ s ∈ p.dropLast, s.size = 2 := fun s h => hp s (List.dropLast_subset _ h)
    rw [climbTs_unfold leaf (by omega)]
    intro t ht
    split at ht
    · simp only [List.mem_append, List.mem_singleton] at ht
      rcases ht with ht | ht
      · exact climbTs_short leaf K hK hl m i _ _ (by omega) hd t ht
      · rw [ht, nodeT_size, climb_size]; omega
    · simp only [List.mem_append, List.mem_singleton] at ht
      rcases ht with ht | ht
      · exact climbTs_short leaf K hK hl m _ _ _ (by omega) hd t ht
      · rw [ht, nodeT_size, climb_size]; omega
theorem lineB_size (k t : Int) (ds : List Drl) : (lineB k t ds).size = 13 := by simp [lineB, beB_size, root_size]
theorem summedL_short {b : Bun} (f : b.Fine) : ∀ t ∈ summedL b, t.size ≤ 140737488355328 := by
  intro t ht
  unfold summedL at ht
  simp only [List.mem_append, List.mem_reverse, List.mem_map] at ht
  rcases ht with (⟨h, hh, rfl⟩ | ht) | ht
  · have k := f.fixed h hh
    have : (hdrB h).size ≤ 64 := by
      unfold hdrB
      simp only [ByteArray.size_append, beB_size]
      rw [k.mark, k.ahead, k.chart, k.jour, k.stat, k.bals]
      omega
    omega
  · obtain ⟨p, q, ep, hp, hq⟩ := f.path
    have := climbTs_short (lineT b) 32 (by omega) (by unfold lineT; rw [lineB_size]; omega) 4 b.line 4 b.path (by omega) (by rw [ep]; intro s hs; simp at hs; rcases hs with rfl | rfl <;> assumption) t ht
    omega
  · have := ofRoot_short (K := 11) (by omega) (l := b.drls.map drlB) (fun s hs => by obtain ⟨d, _, rfl⟩ := List.mem_map.1 hs; rw [drlB_size]; omega) t ht
    omega
theorem summedL_len {b : Bun} (f : b.Fine) : (summedL b).length ≤ 1000 := by
  unfold summedL
  have h1 := f.hdrs
  have h2 := f.many
  have h3 := climbTs_len (lineT b) 4 b.line 4 b.path (by omega) (by omega)
  have h4 : (ofRoot (b.drls.map drlB)).length ≤ 200 := by
    unfold ofRoot
    by_cases h : (b.drls.map drlB).length = 0
    · rw [if_pos h]; simp
    · rw [if_neg h, List.length_reverse, rootTs_length _ _ (Nat.le_refl _) (by omega)]
      simp only [List.length_map]
      omega
  simp only [List.length_append, List.length_reverse, List.length_map]
  omega
instance drlEq : DecidableEq Drl := fun a b => decidable_of_iff (a.ent = b.ent ∧ a.place = b.place ∧ a.acct = b.acct ∧ a.amt = b.amt) (by cases a; cases b; simp)
/-- What ClashLine's error is (P12). -/
def clashErr (b c hd : Txt) : Int :=
  if lookErr b hd ≠ 0 then lookErr b hd else if lookErr c hd ≠ 0 then lookErr c hd else
    if ((bunL (tx b)).per = (bunL (tx c)).per ∧ (bunL (tx b)).line = (bunL (tx c)).line) ∧ ¬ ((bunL (tx b)).total = (bunL (tx c)).total ∧ (bunL (tx b)).drls = (bunL (tx c)).drls) then 0 else 7
end Go.Proofs.YtpkkhkkkgjhkeabGreat.Sg
