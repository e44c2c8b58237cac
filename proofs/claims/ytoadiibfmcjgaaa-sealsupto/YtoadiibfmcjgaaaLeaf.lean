/-
  THE WALK of signetref.leaf.
-/
import Derived.Test.YtoadiibfmcjgaaaDrills
namespace Go.Proofs.Ytoadiibfmcjgaaa
open Go.RowKit
set_option maxRecDepth 100000

/-- A list that is the call's own, as a slice that is read. -/
theorem own_strs_shape {w : World} {base : Nat} {v : Value} {ss : List ByteArray} (h : OwnStrs w base v ss) : ∃ ao cap, v = .slice ao ss.length cap ∧ ss.length ≤ cap ∧ cap ≤ maxLen ∧ (1 ≤ ss.length → ∃ g, ao = some ⟨g, 0, none⟩ ∧ g < w.heap.size ∧ StrsAt w g 0 ss) := by
  have hk := h
  rcases h.2 with ⟨rfl, h0⟩ | ⟨g, cap, cur, rfl, _, hh, hle, hm, _, _⟩
  · exact ⟨none, 0, by rw [h0], by omega, by decide, fun h1 => by omega⟩
  · refine ⟨_, cap, rfl, hle, hm, fun _ => ⟨g, rfl, lt_of_block hh, fun i hi => ?_⟩⟩
    have := World.ownsRow.cellAt hk i (by omega)
    rw [Nat.zero_add, this]
    simp [List.getD, hi]

/-- signetref.Root of a list of the call's own. -/
theorem refRoot_own {w : World} {base : Nat} {v : Value} {ss : List ByteArray} (h : OwnStrs w base v ss) (hs : ∀ s ∈ ss, s.size ≤ 140737488355328) (hmax : ss.length ≤ 4096) :
    Calls Try.prog 15 #[v] w fun e w' => e = .returned (.string (Sg.root ss)) ∧ Below w.heap.size w w' := by
  obtain ⟨ao, cap, rfl, hle, hm, hin⟩ := own_strs_shape h
  by_cases h0 : ss.length = 0
  · rw [Sg.root_none h0, h0]
    exact refRoot_none ao cap w
  · obtain ⟨g, rfl, hg, hat⟩ := hin (by omega)
    exact refRoot_upto ss.length ss ss.length g 0 cap w rfl (Nat.le_refl _) (by omega) hle (by unfold maxLen at hm; omega) hs hg hat

theorem fits_line (k : Int) (h : 0 ≤ k ∧ k ≤ 3) : -9223372036854775808 ≤ k ∧ k ≤ 9223372036854775807 := by omega

set_option maxHeartbeats 1600000 in
/-- signetref.leaf. -/
theorem leaf_any2 (line total : Int) (ds : List Sg.Drl) (ao : Option Addr) (n cap : Nat) (w : World) (hn : ds.length = n) (hmax : n ≤ 4096) (hok : ∀ d ∈ ds, drlFits d) (hl : DrlsIn w ao ds) (hline : 0 ≤ line ∧ line ≤ 3) (ht : Sg.fits total = true) :
    Calls Try.prog 114 #[.int .i64 line, .int .i64 total, .slice ao n cap] w fun e w' => e = .returned (.string (Sg.lineB line total ds)) ∧ Below w.heap.size w w' := by
  have HN : Hid (ds.length = n) := hn
  clear hn
  have ht' : -9223372036854775808 ≤ total ∧ total ≤ 9223372036854775807 := of_decide_eq_true ht
  clear ht
  go_enter Try.func114, Try.ntmps114
  go_wp2_with fail
  refine (bytes_txt line 1 _ (fits_line line hline) (by decide) (by decide)).mono ?_
  rintro e w1 ⟨y1, rfl, hy1, hys1, hb1⟩
  go_wp2_with fail
  refine (bytes_txt total 8 _ ht' (by decide) (by decide)).mono ?_
  rintro e w2 ⟨y2, rfl, hy2, hys2, hb2⟩
  have b02 := hb1.trans (hb2.mono hb1.size)
  go_wp2_with fail
  refine (bytes_txt (n : Int) 2 _ (by omega) (by decide) (by decide)).mono ?_
  rintro e w3 ⟨y3, rfl, hy3, hys3, hb3⟩
  have b03 := b02.trans (hb3.mono b02.size)
  go_wp2_with fail
  refine (drills_any ds ao n cap _ HN.out hmax hok (hl.below b03)).mono ?_
  rintro e w4 ⟨v, rfl, hown, hb4⟩
  have b04 := b03.trans (hb4.mono b03.size)
  go_wp2_with fail
  refine (refRoot_own hown (fun s hs => by
    obtain ⟨d, _, rfl⟩ := List.mem_map.1 hs
    rw [Sg.drlB_size]; omega) (by rw [List.length_map, HN.out]; exact hmax)).mono ?_
  rintro e w5 ⟨rfl, hb5⟩
  have b05 := b04.trans (hb5.mono b04.size)
  have HE : Hid (Sg.lineB line total ds = y1 ++ y2 ++ y3 ++ Sg.root (ds.map Sg.drlB)) := by
    show _ = _
    unfold Sg.lineB
    rw [hy1.out, hy2.out, hy3.out, HN.out]
  have hrs := Sg.root_size (ds.map Sg.drlB)
  generalize Sg.root (ds.map Sg.drlB) = rt at *
  have hrs' : rt.size ≤ 2 := by omega
  have q1 : (y1 ++ y2).size ≤ 16 := by rw [cat_size]; omega
  have q2 : (y1 ++ y2 ++ y3).size ≤ 24 := by rw [cat_size, cat_size]; omega
  clear hrs hb1 hb2 hb3 hb4 hb5 b02 b03 b04 hown hl hok hy1 hy2 hy3
  go_wp2_with fail
  go_ret
  exact ⟨ret_str2 (by rw [HE.out]), b05⟩
end Go.Proofs.Ytoadiibfmcjgaaa
