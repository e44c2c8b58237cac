import Derived.Test.YtpkkhkkkgjhkeabGreatPick
import Derived.ProofKit
import Derived.OpenShut
import Derived.ShutString
import Derived.ChangeOld
import Derived.SizedLaws
import Derived.SliceStrings
import Derived.Carry
/-
  A slice of texts that came in, opened; what each statement's last step leans on.
-/
namespace Go.Proofs.YtpkkhkkkgjhkeabGreat
set_option maxRecDepth 100000
open Go.ChangeShapes Go.WideShapes Go.ChangeAt Go.RowKit
open Go.ChangeMaps (open_string shut_string)

theorem own' : ownKnob Tryz.prog.godebug = none := by kernel_rfl
theorem laidOut : laidOutB Tryz.prog = true := by kernel_rfl
theorem Tryz.cellsStr : Tryz.prog.cellsOf 9 = 1 := by kernel_rfl
theorem Tryz.bytesStr : Tryz.prog.bytesOf 9 = 16 := by kernel_rfl

theorem weights_strs {H : Type} {e : TypeId} : ∀ (ss : List ByteArray) (s : ByteArray), s ∈ ss → s.size ∈ DataW.weightsAll (H := H) Tryz.prog e (strs ss)
  | [], s, h => by simp at h
  | x :: r, s, h => by
    have es : s.data.toList.length = s.size := by rw [Array.length_toList]; rfl
    simp only [strs, List.map_cons, DataW.weightsAll, List.mem_append]
    rcases List.mem_cons.1 h with rfl | h
    · exact Or.inl (by simp only [DataW.weights, es]; exact List.mem_singleton.2 rfl)
    · exact Or.inr (weights_strs r s h)

/-- A slice of texts that came in: what the walks ask of it. -/
theorem open_leaves {H : Type} {enc : TypeId × Value → H} {W : World} {v : Value} {d : DataW H} {p : List MemPlace} {base : Nat} {ts : List TypeId} {ds : List (DataW H)} {j : Nat}
    (hv : Value.okWide Tryz.prog W .any base 71 v) (h : DataW.Trod enc Tryz.prog W 0 (fun _ => true) true 71 v d p)
    (hsz : (DataW.weightsEach Tryz.prog ts ds).all (· ≤ reachBytes) = true) (ht : ts[j]? = some 71) (hd : ds[j]? = some d) :
    ∃ ao len cap ss, v = .slice ao len cap ∧ ss.length = len ∧ len ≤ cap ∧ cap ≤ 8796093022000 ∧ (∀ s ∈ ss, s.size ≤ 140737488351232) ∧ StrsIn W ao ss ∧ (ao = none → len = 0 ∧ cap = 0) := by
  obtain ⟨ao, len, cap, rfl⟩ := okWide_slice Tryz.underlying71 hv
  obtain ⟨fuel, hf⟩ := h
  rcases open_strings Tryz.underlying71 Tryz.underlying9 Tryz.cellsStr hf with ⟨hcs, _⟩ | ⟨a, l', c', ss, hcs, _, hl, _, hlen, hx, hcell, _⟩
  · simp [Value.cells] at hcs
    obtain ⟨rfl, rfl, rfl⟩ := hcs
    exact ⟨none, 0, 0, [], rfl, rfl, Nat.le_refl _, by omega, by simp, Or.inl rfl, fun _ => ⟨rfl, rfl⟩⟩
  · simp [Value.cells] at hcs
    obtain ⟨rfl, rfl, rfl⟩ := hcs
    simp only [if_true] at hlen
    have hx1 : d = .slice (strs (ss.take len)) (strs (ss.drop len)) := by
      have := congrArg Prod.fst hx; simpa using this
    subst hx1
    have hw := sized_slice hsz ht hd Tryz.underlying71
    rw [Tryz.bytesStr] at hw
    simp only [strs, List.length_map, List.length_take, List.length_drop, reachBytes] at hw
    have hcap : cap * 16 ≤ 140737488351232 := by omega
    refine ⟨some a, len, cap, ss.take len, rfl, by simp; omega, hl, by omega, ?_, ?_, fun h => by simp at h⟩
    · intro s hs
      have := List.all_eq_true.1 hsz s.size (DataW.weights_mem_each ht hd s.size (by
        simp only [DataW.weights, Tryz.underlying71]
        exact List.mem_cons_of_mem _ (List.mem_append.2 (Or.inl (weights_strs _ s hs)))))
      exact of_decide_eq_true this
    · by_cases h0 : len = 0
      · exact Or.inl (by simp [h0])
      · right
        obtain ⟨b, off, spot⟩ := a
        have hc0 := hcell 0 (by omega)
        have hspot : spot = none := by simpa [Addr.add] using World.cell?_spot hc0
        subst hspot
        refine ⟨b, off, rfl, World.block_lt_of_cell? W _ hc0, fun i hi => ?_⟩
        have hi' : i < len ∧ i < ss.length := by simp at hi; omega
        have := hcell i hi'.2
        have ea : Addr.add ⟨b, off, none⟩ i = ⟨b, off + i, none⟩ := by cases i <;> simp [Addr.add]
        rw [ea] at this
        rw [this]
        simp [List.getD, hi'.1]

end Go.Proofs.YtpkkhkkkgjhkeabGreat
