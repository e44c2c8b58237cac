import Derived.Test.YtpkkhkkkgjhkeaaCursor
import Derived.Test.YtpkkhkkkgjhkeaaOff
/-
  THE WALKS of signetref.Verify, signetlaw.Verifies (P8).
-/
namespace Go.Proofs.Ytpkkhkkkgjhkeaa
open Go.RowKit
set_option maxRecDepth 100000
attribute [local go_sem ↓] Go.wp_at_zero Go.wp_at_succ

set_option maxHeartbeats 1600000 in
/-- signetref.Verify. -/
theorem refVerify_any (t hd : ByteArray) (w : World) (ht : t.size ≤ 140737488355328) :
    Calls Try.prog 36 #[.string t, .string hd] w fun e w' => Below w.heap.size w w' ∧
      ((¬ Sg.isPk (Sg.rdHist Sg.rdR (Sg.tx t)) t ∧ e = .returned (.int .i64 5)) ∨
       (Sg.isPk (Sg.rdHist Sg.rdR (Sg.tx t)) t ∧ e = .returned (.int .i64 (Sg.verErr (Sg.rdHist Sg.rdR (Sg.tx t)) hd)))) := by
  obtain ⟨h, hh⟩ : ∃ h, Sg.rdHist Sg.rdR (Sg.tx t) = h := ⟨_, rfl⟩
  have hcall := open_any t w ht
  rw [hh] at hcall ⊢
  clear hh
  go_enter Try.func36, Try.ntmps36
  go_wp2_with fail
  refine hcall.mono ?_
  rintro e w1 ⟨hb1, hcase⟩
  clear hcall
  rcases hcase with ⟨hn, rfl⟩ | ⟨hy, aoA, aoP, aoB, aoT, nA, nP, capA, capP, capB, capT, rfl, h1, hC, _, _⟩
  · have HN : Hid (¬ Sg.isPk h t) := hn
    clear hn
    go_wp2_with fail
    go_ret
    exact ⟨hb1.alloc hb1.size _, Or.inl ⟨HN.out, rfl⟩⟩
  · have aB : Below w1.heap.size w1 (w1.alloc (.cells #[.slice aoA nA capA, .slice aoP nP capP, .slice aoB nP capB, .slice aoT nP capT] 65)) := (Below.refl _ _).alloc (Nat.le_refl _) _
    have b2 := hb1.trans (aB.mono hb1.size)
    have hcall := head_any h (Sg.balances h) (Sg.totals h) aoA aoP aoB aoT nA nP capA capP capB capT _ (hC.below aB) h1
    have HY : Hid (Sg.isPk h t) := hy
    have HH : Hid (Sg.headOf h = (Sg.hdTo h (Sg.balances h) (Sg.totals h) nP).2) := by
      show _ = _
      unfold Sg.headOf
      rw [if_pos hy.1, hC.lenP]
    clear hy hC hb1 aB
    generalize (Sg.hdTo h (Sg.balances h) (Sg.totals h) nP).2 = y at *
    go_wp2_with fail
    refine hcall.mono ?_
    rintro e w3 ⟨rfl, hb3⟩
    clear hcall
    have b3 := b2.trans (hb3.mono b2.size)
    by_cases e : y.toList = hd.toList
    · have ey := same_txt e
      have HE : Hid (Sg.headOf h = hd) := by show _ = _; rw [HH.out, ey]
      subst ey
      go_wp2_with fail
      go_ret
      exact ⟨b3, Or.inr ⟨HY.out, by unfold Sg.verErr; rw [if_pos HE.out]; rfl⟩⟩
    · have eb : (y.toList == hd.toList) = false := by simp [e]
      have HE : Hid (¬ Sg.headOf h = hd) := fun h' => e (by rw [← HH.out, h'])
      go_wp2_with fail
      go_ret
      exact ⟨b3, Or.inr ⟨HY.out, by unfold Sg.verErr; rw [if_neg HE.out]; rfl⟩⟩

/-- What both answer. -/
def Sg.verAll (t hd : ByteArray) : Int := if Sg.isPk (Sg.pdHist (Sg.tx t)) t then Sg.verErr (Sg.pdHist (Sg.tx t)) hd else 5
theorem verify_all (t hd : ByteArray) (w : World) :
    Calls Try.prog 35 #[.string t, .string hd] w fun e w' => e = .returned (.int .i64 (Sg.verAll t hd)) ∧ Below w.heap.size w w' := by
  refine (verify_any t hd w).mono ?_
  rintro e w' ⟨hb, ⟨hn, rfl⟩ | ⟨hy, rfl⟩⟩
  · exact ⟨by unfold Sg.verAll; rw [if_neg hn], hb⟩
  · exact ⟨by unfold Sg.verAll; rw [if_pos hy], hb⟩
theorem refVerify_all (t hd : ByteArray) (w : World) (ht : t.size ≤ 140737488355328) :
    Calls Try.prog 36 #[.string t, .string hd] w fun e w' => e = .returned (.int .i64 (Sg.verAll t hd)) ∧ Below w.heap.size w w' := by
  obtain ⟨hiff, hsame⟩ := Sg.read_both t
  refine (refVerify_any t hd w ht).mono ?_
  rintro e w' ⟨hb, ⟨hn, rfl⟩ | ⟨hy, rfl⟩⟩
  · exact ⟨by unfold Sg.verAll; rw [if_neg (fun h => hn (hiff.1 h))], hb⟩
  · have hy' := hiff.2 hy
    exact ⟨by unfold Sg.verAll; rw [if_pos hy', hsame hy'], hb⟩

set_option maxHeartbeats 800000 in
theorem verifies_any (t hd : ByteArray) (w : World) (ht : t.size ≤ 140737488355328) :
    Calls Try.prog 7 #[.string t, .string hd] w fun e w' => e = .returned (.bool true) ∧ Below w.heap.size w w' := by
  obtain ⟨v, hv⟩ : ∃ v, Sg.verAll t hd = v := ⟨_, rfl⟩
  have c1 := fun W => verify_all t hd W
  have c2 := fun W => refVerify_all t hd W ht
  rw [hv] at c1 c2
  clear hv
  go_enter Try.func7, Try.ntmps7
  go_wp2_with fail
  refine (c1 _).mono ?_
  rintro e w1 ⟨rfl, hb1⟩
  go_wp2_with fail
  refine (c2 _).mono ?_
  rintro e w2 ⟨rfl, hb2⟩
  clear c1 c2
  go_wp2_with fail
  go_ret
  exact ⟨rfl, hb1.trans (hb2.mono hb1.size)⟩
end Go.Proofs.Ytpkkhkkkgjhkeaa
