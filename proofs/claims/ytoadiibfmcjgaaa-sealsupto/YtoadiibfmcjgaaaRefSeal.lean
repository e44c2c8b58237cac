/-
  signetref.Seal.
-/
import Derived.Test.YtoadiibfmcjgaaaCloseWalk
import Derived.Test.YtoadiibfmcjgaaaPackageWalk
namespace Go.Proofs.Ytoadiibfmcjgaaa
open Go.RowKit
set_option maxRecDepth 100000
attribute [local go_sem ↓] Go.wp_at_zero Go.wp_at_succ

/-- signetref.Close, in full. -/
theorem close_any (h : Sg.Hist) (aoA aoP : Option Addr) (nA nP capA capP : Nat) (w : World) (hH : HistIn w aoA aoP nA nP h) :
    Calls Try.prog 52 #[.agg #[.slice aoA nA capA, .slice aoP nP capP]] w fun e w' =>
      (Sg.closeErr h ≠ 0 ∧ e = .returned (.tuple #[.agg #[nilV, nilV, nilV, nilV], .int .i64 (Sg.closeErr h)]) ∧ Below w.heap.size w w') ∨
      (Sg.closeErr h = 0 ∧ 1 ≤ nP ∧ ∃ aoB aoT capB capT, e = .returned (.tuple #[.agg #[.slice aoA nA capA, .slice aoP nP capP, .slice aoB nP capB, .slice aoT nP capT], .int .i64 0]) ∧ BksAt w' aoA aoP aoB aoT nA nP h (Sg.balances h) (Sg.totals h) ∧ Below w.heap.size w w') := by
  cases hb : Sg.inBounds h with
  | false =>
    refine (close_bad h aoA aoP nA nP capA capP w hH hb).mono ?_
    rintro e w' ⟨rfl, h2⟩
    have e1 : Sg.closeErr h = 1 := by unfold Sg.closeErr; rw [hb]; rfl
    exact Or.inl ⟨by omega, by rw [e1], h2⟩
  | true =>
    refine (close_good h aoA aoP nA nP capA capP w hH hb).mono ?_
    rintro e w' (h1 | ⟨h1, h2⟩)
    · exact Or.inl h1
    · refine Or.inr ⟨h1, ?_, h2⟩
      have := hH.lenP
      unfold Sg.inBounds at hb
      simp only [Bool.and_eq_true, decide_eq_true_eq] at hb
      omega

namespace Sg
/-- What Seal answers. -/
def package (h : Hist) : ByteArray := if closeErr h = 0 then pkTo h (balances h) (totals h) h.pers.length else ByteArray.empty
def headOf (h : Hist) : ByteArray := if closeErr h = 0 then (hdTo h (balances h) (totals h) h.pers.length).2 else ByteArray.empty
end Sg

set_option maxHeartbeats 3200000 in
theorem refSeal_any (h : Sg.Hist) (aoA aoP : Option Addr) (nA nP capA capP : Nat) (w : World) (hH : HistIn w aoA aoP nA nP h) :
    Calls Try.prog 26 #[.agg #[.slice aoA nA capA, .slice aoP nP capP]] w fun e w' => e = .returned (.tuple #[.string (Sg.package h), .string (Sg.headOf h), .int .i64 (Sg.closeErr h)]) ∧ Below w.heap.size w w' := by
  have hb0 : Below w.heap.size w (w.alloc (.cells #[.slice aoA nA capA, .slice aoP nP capP] 41)) := (Below.refl _ _).alloc (Nat.le_refl _) _
  have HH : Hid (HistIn (w.alloc (.cells #[.slice aoA nA capA, .slice aoP nP capP] 41)) aoA aoP nA nP h) := hH.below hb0
  have HLP : Hid (h.pers.length = nP) := hH.lenP
  clear hH
  go_enter Try.func26, Try.ntmps26
  go_wp2_with fail
  refine (close_any h aoA aoP nA nP capA capP _ HH.out).mono ?_
  rintro e w1 (⟨he, rfl, hb1⟩ | ⟨he, h1, aoB, aoT, capB, capT, rfl, hBk, hb1⟩)
  · have hbw := hb0.trans (hb1.mono hb0.size)
    have qz : (Sg.closeErr h != 0) = true := by rw [bne_iff_ne]; exact he
    have HP : Hid (Sg.package h = ByteArray.empty ∧ Sg.headOf h = ByteArray.empty) := by
      unfold Sg.package Sg.headOf; rw [if_neg he, if_neg he]; exact ⟨rfl, rfl⟩
    clear he hb1
    generalize hee : Sg.closeErr h = ee at *
    have HEE : Hid (Sg.closeErr h = ee) := hee
    clear hee
    go_wp2_with fail
    refine bodyPost_ret (v := .tuple #[.string ByteArray.empty, .string ByteArray.empty, .int .i64 ee]) (by simp [results, Try.results26, go_sem]; rfl) rfl ⟨by rw [HP.out.1, HP.out.2, HEE.out], hbw.alloc hbw.size _⟩
  · have hbw := hb0.trans (hb1.mono hb0.size)
    have HP : Hid (Sg.package h = Sg.pkTo h (Sg.balances h) (Sg.totals h) nP ∧ Sg.headOf h = (Sg.hdTo h (Sg.balances h) (Sg.totals h) nP).2 ∧ Sg.closeErr h = 0) := by
      unfold Sg.package Sg.headOf; rw [if_pos he, if_pos he, HLP.out]; exact ⟨rfl, rfl, he⟩
    have HB : Hid (BksAt w1 aoA aoP aoB aoT nA nP h (Sg.balances h) (Sg.totals h)) := hBk
    clear he hb1 hBk
    go_wp2_with fail
    go_region_held3 (fun w' => w'.cell? ⟨w1.heap.size, 0, none⟩ = some (.slice aoA nA capA) ∧ w'.cell? ⟨w1.heap.size, 1, none⟩ = some (.slice aoP nP capP) ∧ w'.cell? ⟨w1.heap.size, 2, none⟩ = some (.slice aoB nP capB) ∧ w'.cell? ⟨w1.heap.size, 3, none⟩ = some (.slice aoT nP capT) ∧ Below (w1.heap.size + 1) (bkBox w1 (.slice aoA nA capA) (.slice aoP nP capP) (.slice aoB nP capB) (.slice aoT nP capT)) w')
      (first | assumption | exact bk_keep (Below.refl _ _) | exact bk_keep (Below.refl _ _).drew)
      (first
        | (go_at_call 53; refine (package_any h (Sg.balances h) (Sg.totals h) aoA aoP aoB aoT nA nP capA capP capB capT _ (HB.out.below ((bkBox_facts (Below.refl (w1.heap.size + 1) (bkBox w1 (.slice aoA nA capA) (.slice aoP nP capP) (.slice aoB nP capB) (.slice aoT nP capT)))).2.2.2.2.1.drew))).mono ?_; rintro e w2 ⟨rfl, hb2⟩; have kb2 := bk_call ((Below.refl (w1.heap.size + 1) (bkBox w1 (.slice aoA nA capA) (.slice aoP nP capP) (.slice aoB nP capB) (.slice aoT nP capT))).drew) hb2; have hh2 := bk_keep kb2)
        | (go_at_call 54; refine (head_any h (Sg.balances h) (Sg.totals h) aoA aoP aoB aoT nA nP capA capP capB capT _ (HB.out.below (bkBox_facts kb2).2.2.2.2.1) h1).mono ?_; rintro e w3 ⟨rfl, hb3⟩; have kb3 := bk_call kb2 hb3; have hh3 := bk_keep kb3))
    have hbe := hbw.trans ((bkBox_facts kb3).2.2.2.2.1.mono hbw.size)
    clear hh2 hh3 hb2 hb3 kb2 kb3
    go_wp2_with fail
    refine bodyPost_ret (v := .tuple #[.string (Sg.pkTo h (Sg.balances h) (Sg.totals h) nP), .string (Sg.hdTo h (Sg.balances h) (Sg.totals h) nP).2, .int .i64 0]) (by simp [results, Try.results26, go_sem]) rfl ⟨by rw [HP.out.1, HP.out.2.1, HP.out.2.2], hbe⟩
end Go.Proofs.Ytoadiibfmcjgaaa
