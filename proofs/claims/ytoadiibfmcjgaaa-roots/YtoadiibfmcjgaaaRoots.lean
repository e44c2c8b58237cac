/-
  THE WALK of signetlaw.Roots (P4).
-/
import Derived.Test.YtoadiibfmcjgaaaEvery
namespace Go.Proofs.Ytoadiibfmcjgaaa
open Go.RowKit
set_option maxRecDepth 100000

theorem below_of_grown {B : Nat} {w w' : World} {row : Option Nat} (hg : w.grownBy w' row) (hB : B ≤ w.heap.size) (hr : ∀ k, row = some k → B ≤ k) : Below B w w' := (Below.refl _ _).grown hg hB hr

set_option maxRecDepth 100000 in
set_option maxHeartbeats 3200000 in
theorem roots_walk (ao1 ao2 : Option Addr) (n1 cap1 n2 cap2 : Nat) (ss1 ss2 : List ByteArray) (c m : Int) (leaf : ByteArray) (w : World) (h1 : Lst w ao1 n1 cap1 ss1) (h2 : Lst w ao2 n2 cap2 ss2) (hn1 : n1 ≤ 8796093022000) (hn2 : n2 ≤ 8796093022000)
    (hnil1 : ao1 = none → n1 = 0 ∧ cap1 = 0) (hnil2 : ao2 = none → n2 = 0 ∧ cap2 = 0) (hs : leaf.size ≤ 140737488351232) :
    Calls Try.prog 4 #[.slice ao1 n1 cap1, .int .i64 c, .string leaf, .int .i64 m, .slice ao2 n2 cap2] w fun e w' => e = .returned (.bool true) ∧ Below w.heap.size w w' := by
  have N1 : Hid (ao1 = none → n1 = 0 ∧ cap1 = 0) := hnil1
  have N2 : Hid (ao2 = none → n2 = 0 ∧ cap2 = 0) := hnil2
  have hpl := pathList_length (c := c) h1.len
  clear hnil1 hnil2
  go_enter Try.func4, Try.ntmps4
  go_wp2_with fail
  refine (texts_any ss1 ao1 n1 cap1 _ h1.len hn1 h1.at_).mono ?_
  rintro e w1 ⟨g1, rfl, row1', b01⟩
  have row1 : Row w1 w.heap.size g1 n1 ss1 := row1'
  clear row1'
  have l1 := h1.below b01
  have l2 := h2.below b01
  go_wp2_with fail
  refine (bare_any g1 n1 cap1 ao1 _ N1.out).mono ?_
  rintro e w1' ⟨aoA, capA, rfl, hA, rfl⟩
  have lA := row1.lst l1 hn1 hA
  have HA : Hid ((aoA = none ∧ n1 = 0 ∧ capA = 0) ∨ (aoA = some ⟨g1, 0, none⟩ ∧ capA = n1 + 2)) := hA
  clear hA
  go_wp2_with fail
  refine (sealRoot_any lA).mono ?_
  rintro e w2 ⟨rfl, b12⟩
  go_wp2_with fail
  refine (refRoot_any (l1.below b12)).mono ?_
  rintro e w3 ⟨rfl, b23⟩
  have b13 := b12.trans (b23.mono b12.size)
  clear b12 b23
  go_wp2_with fail
  refine (sealPath_any (lA.below b13) c).mono ?_
  rintro e w4 ⟨p, rfl, op4, b34⟩
  have b14 := b13.trans (b34.mono b13.size)
  go_wp2_with fail
  refine (refPath_any (l1.below b14) c).mono ?_
  rintro e w5 ⟨q, rfl, oq5, b45⟩
  have b15 := b14.trans (b45.mono b14.size)
  have op5 := op4.below b45
  go_wp2_with fail
  refine (same_own op5 oq5 (by omega)).mono ?_
  rintro e w6 ⟨rfl, b56⟩
  have b16 := b15.trans (b56.mono b15.size)
  have op6 := op5.below b56
  have oq6 := oq5.below b56
  go_wp2_with fail
  refine (fill_own op6 (by omega) _).mono ?_
  rintro e w7 ⟨u, rfl, f7, gr7⟩
  have oq7 := oq6.far op4 (Nat.le_refl _) gr7
  have b17 : Below w1'.heap.size w1' w7 := b16.trans (below_of_grown gr7 b16.size (fun k hk => Nat.le_trans b13.size (World.ownsRow.lt op6 k hk).1))
  clear op4 op5 op6 oq5 oq6 gr7 b56 b45 b34 b16 b15 b14 b13
  go_wp2_with fail
  refine (sealPath_any (lA.below b17) c).mono ?_
  rintro e w8 ⟨r, rfl, or8, b78⟩
  have oq8 := oq7.below b78
  go_wp2_with fail
  refine (same_own or8 oq8 (by omega)).mono ?_
  rintro e w9 ⟨rfl, b89⟩
  have or9 := or8.below b89
  have b79 := b78.trans (b89.mono b78.size)
  go_wp2_with fail
  refine (fill_own or9 (by omega) _).mono ?_
  rintro e w10 ⟨v, rfl, f10, gr10⟩
  have b7a : Below w7.heap.size w7 w10 := b79.trans (below_of_grown gr10 b79.size (fun k hk => (World.ownsRow.lt or9 k hk).1))
  have b1a := b17.trans (b7a.mono b17.size)
  have f10' := f7.below b7a
  clear or8 or9 oq7 oq8 gr10 b78 b89 b79 b7a f7 b17
  go_wp2_with fail
  refine (texts_any ss2 ao2 n2 cap2 _ (l2.below b1a).len hn2 (l2.below b1a).at_).mono ?_
  rintro e w11 ⟨g2, rfl, row2', bab⟩
  have row2 : Row w11 w10.heap.size g2 n2 ss2 := row2'
  clear row2'
  have b1b := b1a.trans (bab.mono b1a.size)
  go_wp2_with fail
  refine (bare_any g2 n2 cap2 ao2 _ N2.out).mono ?_
  rintro e w11' ⟨aoB, capB, rfl, hB, rfl⟩
  have lB := row2.lst (l2.below b1b) hn2 hB
  have HB : Hid ((aoB = none ∧ n2 = 0 ∧ capB = 0) ∨ (aoB = some ⟨g2, 0, none⟩ ∧ capB = n2 + 2)) := hB
  clear hB
  go_wp2_with fail
  refine (sealClimb_any lB leaf hs c m).mono ?_
  rintro e w12 ⟨rfl, bbc⟩
  have b1c := b1b.trans (bbc.mono b1b.size)
  go_wp2_with fail
  refine (refClimb_any (l2.below b1c) leaf hs c m).mono ?_
  rintro e w13 ⟨rfl, bcd⟩
  have b1d := b1c.trans (bcd.mono b1c.size)
  have bbd := bbc.trans (bcd.mono bbc.size)
  have bad := bab.trans (bbd.mono bab.size)
  have f13 := f10.below bad
  have f13' := f10'.below bad
  have row13 := row1.below b1d
  have row13' := row2.below bbd
  clear bbc bcd bab bbd bad f10 f10' row1 row2 lA lB b1a b1b b1c
  go_wp2_with fail
  refine (filled_any _ _ _ _ f13').mono ?_
  rintro e w13' ⟨rfl, rfl⟩
  go_wp2_with fail
  refine (filled_any _ _ _ _ f13).mono ?_
  rintro e w13'' ⟨rfl, rfl⟩
  go_wp2_with fail
  refine (intact_any ss1 ao1 n1 cap1 g1 _ _ (l1.below b1d).len hn1 (l1.below b1d).at_ row13).mono ?_
  rintro e w14 ⟨rfl, bde⟩
  have b1e := b1d.trans (bde.mono b1d.size)
  go_wp2_with fail
  refine (intact_any ss2 ao2 n2 cap2 g2 _ _ (l2.below b1e).len hn2 (l2.below b1e).at_ (row13'.below bde)).mono ?_
  rintro e w15 ⟨rfl, bef⟩
  have b1f := b1e.trans (bef.mono b1e.size)
  have b0f := b01.trans (b1f.mono b01.size)
  clear bde bef b1d b1e b1f row13 row13' f13 f13' l1 l2 h1 h2 HA HB N1 N2
  go_wp2_with fail
  go_ret
  exact ⟨rfl, b0f⟩
end Go.Proofs.Ytoadiibfmcjgaaa
