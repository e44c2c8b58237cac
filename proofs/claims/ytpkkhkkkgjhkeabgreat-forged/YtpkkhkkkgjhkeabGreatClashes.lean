/-
  THE WALKS of audit.Clash, signetlaw.Clashes (P11).
-/
import Derived.Test.YtpkkhkkkgjhkeabGreatBookSummed
import Derived.Test.YtpkkhkkkgjhkeabGreatCursor
namespace Go.Proofs.YtpkkhkkkgjhkeabGreat
namespace Sg
/-- What Clash's error is (P11). -/
def clashBErr (p q : Txt) : Int := if ¬ isPk (pdHist (tx p)) p then 5 else if ¬ isPk (pdHist (tx q)) q then 5 else if p = q ∨ ¬ headOf (pdHist (tx p)) = headOf (pdHist (tx q)) then 7 else 0
theorem clash_found {p q : Txt} (hp : isPk (pdHist (tx p)) p) (hq : isPk (pdHist (tx q)) q) (hne : ¬ p = q) (hh : headOf (pdHist (tx p)) = headOf (pdHist (tx q))) : ∃ x y, fo (summedB (pdHist (tx p))) (summedB (pdHist (tx q))) = some (x, y) ∧ x ≠ y ∧ sumB x = sumB y ∧ x ∈ summedB (pdHist (tx p)) ∧ y ∈ summedB (pdHist (tx q)) := by
  obtain ⟨x, y, h, h1, h2⟩ := clash_books hp.1 hq.1 (pdHist_fits _) (pdHist_fits _) hh (by rw [hp.2, hq.2]; exact hne)
  have hm := fo_mem _ _ _ _ h
  exact ⟨x, y, h, h1, h2, hm.1, hm.2⟩
end Sg
open Go.RowKit
set_option maxRecDepth 100000
attribute [local go_sem ↓] Go.wp_at_zero Go.wp_at_succ

theorem Closed.fine {w : World} {aoA : Option Addr} {nA nP : Nat} {h : Sg.Hist} {A : Value} {ao : Option Addr} {rs : List Rec} {b : Nat} (hC : Closed w aoA nA nP h A ao rs b) (hc : Sg.closeErr h = 0) : ∀ p ∈ h.pers, perFine nA p := by
  intro p hp
  obtain ⟨h1, h2⟩ := Sg.bnd_pers hC.inb p hp
  unfold Sg.closeErr at hc
  rw [if_pos hC.inb] at hc
  refine ⟨h1, fun e he => ⟨(h2 e he).1, (h2 e he).2, fun u hu => ?_⟩⟩
  have h3 := Sg.persTo_ok _ _ _ hc p hp e he u hu
  rw [hC.lenA] at h3
  exact ⟨h3.1, h3.2, (hC.sizQ p hp e he u hu).2⟩
theorem Closed.headOf {w : World} {aoA : Option Addr} {nA nP : Nat} {h : Sg.Hist} {A : Value} {ao : Option Addr} {rs : List Rec} {b : Nat} (hC : Closed w aoA nA nP h A ao rs b) (hc : Sg.closeErr h = 0) : Sg.headOf h = (Sg.hdTo h (Sg.balances h) (Sg.totals h) nP).2 := by
  unfold Sg.headOf
  rw [if_pos hc, hC.lenP]

end Go.Proofs.YtpkkhkkkgjhkeabGreat
