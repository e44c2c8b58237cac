/-
  THE WALKS of signetref.drills, leaf.
-/
import Derived.Test.YtoadiibfmcjgaaaBounds
import Derived.Test.YtoadiibfmcjgaaaRpath
import Derived.Deep.AppendLies
namespace Go.Proofs.Ytoadiibfmcjgaaa
open Go.RowKit
set_option maxRecDepth 100000
attribute [local go_sem ↓] Go.wp_at_zero Go.wp_at_succ

/-- The cells of a slice of drills. -/
def DrlAt (w : World) (b o : Nat) (d : Sg.Drl) : Prop := w.cell? ⟨b, o, none⟩ = some (.int .i64 (d.ent : Int)) ∧ w.cell? ⟨b, o + 1, none⟩ = some (.int .i64 (d.place : Int)) ∧ w.cell? ⟨b, o + 2, none⟩ = some (.int .i64 d.acct) ∧ w.cell? ⟨b, o + 3, none⟩ = some (.int .i64 d.amt)
theorem DrlAt.below {w w' : World} {B b o : Nat} {d : Sg.Drl} (h : DrlAt w b o d) (hb : Below B w w') (hlt : b < B) : DrlAt w' b o d := by
  unfold DrlAt
  rw [hb.cell (p := ⟨b, o, none⟩) hlt, hb.cell (p := ⟨b, o + 1, none⟩) hlt, hb.cell (p := ⟨b, o + 2, none⟩) hlt, hb.cell (p := ⟨b, o + 3, none⟩) hlt]
  exact h
def DrlsIn (w : World) (ao : Option Addr) (ds : List Sg.Drl) : Prop := ds.length = 0 ∨ ∃ b off, ao = some ⟨b, off, none⟩ ∧ b < w.heap.size ∧ ∀ i (h : i < ds.length), DrlAt w b (off + i * 4) ds[i]
theorem DrlsIn.below {w w' : World} {ao : Option Addr} {ds : List Sg.Drl} (h : DrlsIn w ao ds) (hb : Below w.heap.size w w') : DrlsIn w' ao ds := by
  rcases h with h0 | ⟨b, off, e, hbw, hat⟩
  · exact Or.inl h0
  · exact Or.inr ⟨b, off, e, Nat.lt_of_lt_of_le hbw hb.size, fun i hi => (hat i hi).below hb hbw⟩
theorem DrlsIn.cell {w : World} {ao : Option Addr} {ds : List Sg.Drl} (h : DrlsIn w ao ds) {k : Nat} (hk : k < ds.length) : ∃ b off, ao = some ⟨b, off, none⟩ ∧ b < w.heap.size ∧ DrlAt w b (off + k * 4) ds[k] := by
  rcases h with h0 | ⟨b, off, e, hbw, hat⟩
  · omega
  · exact ⟨b, off, e, hbw, hat k hk⟩

/-- A drill as it can come up. -/
def drlFits (d : Sg.Drl) : Prop := d.ent ≤ 255 ∧ d.place ≤ 255 ∧ Sg.fits d.acct = true ∧ Sg.fits d.amt = true
namespace Sg
theorem drlB_size (d : Drl) : (drlB d).size = 11 := by
  unfold drlB; rw [ByteArray.size_append, ByteArray.size_append, ByteArray.size_append, beB_size, beB_size, beB_size, beB_size]
end Sg

theorem drl_keep {W w' : World} {b o : Nat} {e p a m : Value} (hbw : b < W.heap.size) (h : W.cell? ⟨b, o, none⟩ = some e ∧ W.cell? ⟨b, o + 1, none⟩ = some p ∧ W.cell? ⟨b, o + 2, none⟩ = some a ∧ W.cell? ⟨b, o + 3, none⟩ = some m) (hb : Below W.heap.size W w') :
    w'.cell? ⟨b, o, none⟩ = some e ∧ w'.cell? ⟨b, o + 1, none⟩ = some p ∧ w'.cell? ⟨b, o + 2, none⟩ = some a ∧ w'.cell? ⟨b, o + 3, none⟩ = some m ∧ Below W.heap.size W w' := by
  refine ⟨?_, ?_, ?_, ?_, hb⟩
  · exact (hb.cell (p := ⟨b, o, none⟩) hbw).trans h.1
  · exact (hb.cell (p := ⟨b, o + 1, none⟩) hbw).trans h.2.1
  · exact (hb.cell (p := ⟨b, o + 2, none⟩) hbw).trans h.2.2.1
  · exact (hb.cell (p := ⟨b, o + 3, none⟩) hbw).trans h.2.2.2

set_option maxHeartbeats 3200000 in
/-- signetref.drills. -/
theorem drills_any (ds : List Sg.Drl) (ao : Option Addr) (n cap : Nat) (w : World) (hn : ds.length = n) (hmax : n ≤ 4096) (hok : ∀ d ∈ ds, drlFits d) (hl : DrlsIn w ao ds) :
    Calls Try.prog 127 #[.slice ao n cap] w fun e w' => ∃ v, e = .returned v ∧ OwnStrs w' w.heap.size v (ds.map Sg.drlB) ∧ Below w.heap.size w w' := by
  obtain ⟨i0, hi, hz0, hz1, hz2⟩ := info_parts Try.infoStr
  have HN : Hid (ds.length = n) := hn
  clear hn
  go_enter Try.func127, Try.ntmps127
  go_wp2_with fail
  go_loopw [3, 4] (fun o i wr => ∃ k : Nat, k ≤ n ∧ i = .int .i64 (k : Int) ∧ OwnStrs wr w.heap.size o ((ds.take k).map Sg.drlB) ∧ Below w.heap.size w wr) (fun _ i _ => n - (intOf i).toNat)
  case atStart => exact ⟨0, by omega, rfl, World.ownsRow_nil _ _ _ _, Below.refl _ _⟩
  case round =>
    obtain ⟨k, hk, rfl, hown, hbel⟩ := hrel
    by_cases hlt : k < n
    · have hka : k < ds.length := by rw [HN.out]; exact hlt
      obtain ⟨b, off, hao, hbw, hd⟩ := hl.cell (k := k) hka
      subst hao
      obtain ⟨f1, f2, f3, f4⟩ := hok ds[k] (List.getElem_mem _)
      have HS : Hid ((ds.take (k + 1)).map Sg.drlB = (ds.take k).map Sg.drlB ++ [Sg.beB ds[k].ent 1 ++ Sg.beB ds[k].place 1 ++ Sg.beB ds[k].acct 1 ++ Sg.beB ds[k].amt 8]) := by
        show _ = _
        rw [List.take_succ_eq_append_getElem hka, List.map_append]; rfl
      obtain ⟨en, pl, a, m, hdk⟩ : ∃ en pl a m, ds[k] = ⟨en, pl, a, m⟩ := ⟨_, _, _, _, rfl⟩
      rw [hdk] at hd f1 f2 f3 f4 HS
      have g3 : -9223372036854775808 ≤ a ∧ a ≤ 9223372036854775807 := of_decide_eq_true f3
      have g4 : -9223372036854775808 ≤ m ∧ m ≤ 9223372036854775807 := of_decide_eq_true f4
      unfold DrlAt at hd
      simp only at hd f1 f2
      have hD := drl_keep hbw hd hbel
      have hDd := drl_keep hbw hd hbel.drew
      have i1 : (0 : Int) ≤ (k : Int) := by omega
      have i2 : (k : Int) < (n : Int) := by omega
      have hpl : ((ds.take k).map Sg.drlB).length ≤ n := by simp; omega
      generalize (ds.take k).map Sg.drlB = ts at *
      clear hdk hka hl hok f3 f4
      go_wp2_with fail
      go_region_held3 (fun w' => w'.cell? ⟨b, off + k * 4, none⟩ = some (.int .i64 (en : Int)) ∧ w'.cell? ⟨b, off + k * 4 + 1, none⟩ = some (.int .i64 (pl : Int)) ∧ w'.cell? ⟨b, off + k * 4 + 2, none⟩ = some (.int .i64 a) ∧ w'.cell? ⟨b, off + k * 4 + 3, none⟩ = some (.int .i64 m) ∧ Below w.heap.size w w')
        (first | assumption | exact drl_keep hbw hd (Below.alloc hh4.2.2.2.2 hh4.2.2.2.2.size _) | exact drl_keep hbw hd (below_push hh4.2.2.2.2.size hown4 hh4.2.2.2.2 hgrow))
        (first
          | (go_at_call_of 40 (Value.int IntKind.i64 (en : Int)); refine (bytes_txt (en : Int) 1 _ (by omega) (by decide) (by decide)).mono ?_; rintro e w1 ⟨y1, rfl, hy1, hys1, hb1⟩; have kb1 := ((Below.refl wr.heap.size wr).drew).trans hb1; have hh1 := drl_keep hbw hd (hbel.trans (kb1.mono hbel.size)))
          | (go_at_call_of 40 (Value.int IntKind.i64 (pl : Int)); refine (bytes_txt (pl : Int) 1 _ (by omega) (by decide) (by decide)).mono ?_; rintro e w2 ⟨y2, rfl, hy2, hys2, hb2⟩; have q1 := cat y1 y2 (by omega); have kb2 := kb1.trans (hb2.mono kb1.size); have hh2 := drl_keep hbw hd (hbel.trans (kb2.mono hbel.size)))
          | (go_at_call_of 40 (Value.int IntKind.i64 a); refine (bytes_txt a 1 _ g3 (by decide) (by decide)).mono ?_; rintro e w3 ⟨y3, rfl, hy3, hys3, hb3⟩; have q2 := cat (y1 ++ y2) y3 (by rw [cat_size]; omega); have kb3 := kb2.trans (hb3.mono kb2.size); have hh3 := drl_keep hbw hd (hbel.trans (kb3.mono hbel.size)))
          | (go_at_call_of 40 (Value.int IntKind.i64 m); refine (bytes_txt m 8 _ g4 (by decide) (by decide)).mono ?_; rintro e w4 ⟨y4, rfl, hy4, hys4, hb4⟩; have q3 := cat (y1 ++ y2 ++ y3) y4 (by rw [cat_size, cat_size]; omega); have kb4 := kb3.trans (hb4.mono kb3.size); have hh4 := drl_keep hbw hd (hbel.trans (kb4.mono hbel.size)); have hown4 := hown.below kb4; unfold OwnStrs at hown4)
          | (refine step_append_lies _ (by rfl) _ _ _ (by rfl) w.heap.size 9 i0 _ 1 16 Try.underlying24 hi hz0 hz1 hz2 rfl (by omega) _ ts.length (ts.map Value.string) (by rfl) (hown4.alloc _) ⟨w4.heap.size, 0, none⟩ 1 1 [.string (y1 ++ y2 ++ y3 ++ y4)] (by rfl) (by rfl) (World.news_of_block (cs := #[.string (y1 ++ y2 ++ y3 ++ y4)]) (t := 9) (fr := (0, 0)) (heap_alloc_new w4 _)) (by simp [Value.oneCell']) (by omega) (by unfold maxLen; omega) (by omega) (by have := hh4.2.2.2.2.size; simp; omega) (w4.heap.size + 1) (by simp) ?_; intro g cap' w5 hown5 hgrow hat5 hlt5))
      have hb5 := below_push hh4.2.2.2.2.size hown4 hh4.2.2.2.2 hgrow
      have HO : Hid (OwnStrs w5 w.heap.size (.slice (some ⟨g, 0, none⟩) (ts.length + 1) cap') ((ds.take (k + 1)).map Sg.drlB)) := by
        show OwnStrs _ _ _ _
        rw [HS.out, ← hy1.out, ← hy2.out, ← hy3.out, ← hy4.out]
        exact OwnStrs.push hown5
      clear hown5 hgrow hown4 hh1 hh2 hh3 hh4 kb1 kb2 kb3 kb4 hb1 hb2 hb3 hb4 q1 q2 q3 hown hy1 hy2 hy3 hy4 HS hD hDd hd
      go_wp2_with fail
      go_roundw
      case rel => exact ⟨k + 1, by omega, by go_num, HO.out, hb5⟩
      case measure => simp [intOf]; omega
    · go_wp2_with fail
      go_ret
      refine ⟨_, rfl, ?_, hbel⟩
      rw [List.take_of_length_le (by rw [HN.out]; omega)] at hown
      exact hown
end Go.Proofs.Ytoadiibfmcjgaaa
