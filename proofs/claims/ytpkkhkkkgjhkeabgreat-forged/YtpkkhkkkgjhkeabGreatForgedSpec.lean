import Derived.Test.YtpkkhkkkgjhkeabGreatShiftSpec
import Derived.Test.YtpkkhkkkgjhkeabGreatShownSpec
import Derived.Test.YtpkkhkkkgjhkeabGreatClashMath
/-
  PLAIN MATHEMATICS (P10, P12, P13): a bundle whose last drill is told of the entry ahead, 33 places on, is true under the same head.
-/
namespace Go.Proofs.YtpkkhkkkgjhkeabGreat.Sg
def Drl.shift (d : Drl) : Drl := ⟨d.ent - 1, d.place + 33, d.acct, d.amt⟩
theorem beL_byte {n : Nat} (h : n ≤ 255) : beL (n : Int) 1 = [UInt8.ofNat n] := by
  have e : ((n : Int) % 18446744073709551616).toNat = n := by omega
  simp only [beL, e, Nat.pow_zero, Nat.div_one]
  rw [Nat.mod_eq_of_lt (by omega)]
theorem tx_drl {d : Drl} (h1 : d.ent ≤ 255) (h2 : d.place ≤ 255) : tx (drlB d) = UInt8.ofNat d.ent :: UInt8.ofNat d.place :: (beL d.acct 1 ++ beL d.amt 8) := by
  rw [tx_drlB, beL_byte h1, beL_byte h2]; rfl
theorem drl_leaf {d : Drl} (h1 : 1 ≤ d.ent) (h2 : d.ent ≤ 255) (h3 : d.place ≤ 222) : leafB (drlB d) = leafB (drlB d.shift) := by
  have e1 := tx_drl (d := d) h2 (by omega)
  have e2 := tx_drl (d := d.shift) (show d.ent - 1 ≤ 255 by omega) (show d.place + 33 ≤ 255 by omega)
  refine leafB_two (a := []) (b := beL d.acct 1 ++ beL d.amt 8) (x := UInt8.ofNat d.ent) (y := UInt8.ofNat d.place) (x' := UInt8.ofNat (d.ent - 1)) (y' := UInt8.ofNat (d.place + 33)) e1 e2 ?_
  simp
  omega
/-- A bundle with other drills. -/
def Bun.to (b : Bun) (ds : List Drl) : Bun := ⟨b.per, b.line, b.hdrs, b.total, ds, b.path⟩
theorem tx_bun (b : Bun) (ds0 : List Drl) (d : Drl) : tx (bunB (b.to (ds0 ++ [d]))) = (tx (beB b.per 1 ++ beB b.line 1 ++ beB b.hdrs.length 1 ++ joinB (b.hdrs.map hdrB) ++ (beB b.total 8 ++ beB ((ds0.length + 1 : Nat) : Int) 2)) ++ ds0.flatMap (fun d => tx (drlB d))) ++ (tx (drlB d) ++ b.path.flatMap tx) := by
  unfold bunB Bun.to
  simp only [tx_append, tx_join, List.flatMap_map, List.flatMap_append, List.flatMap_cons, List.flatMap_nil, List.append_assoc, List.append_nil, List.length_append, List.length_singleton]
theorem shift_look {b : Bun} {ds0 : List Drl} {d : Drl} (e : b.drls = ds0 ++ [d]) (h1 : 1 ≤ d.ent) (h2 : d.ent ≤ 255) (h3 : d.place ≤ 222) (hd : Txt) : lookOk (b.to (ds0 ++ [d.shift])) hd = lookOk b hd := by
  have hr : root ((ds0 ++ [d.shift]).map drlB) = root ((ds0 ++ [d]).map drlB) := by
    refine root_congr _ _ _ (Nat.le_refl _) ?_
    simp only [List.map_append, List.map_cons, List.map_nil]
    rw [drl_leaf h1 h2 h3]
  have hl : lineT (b.to (ds0 ++ [d.shift])) = lineT b := by
    unfold lineT lineB Bun.to
    simp only
    rw [hr, e]
    simp only [List.length_append, List.length_singleton]
  have ha : amtsD (ds0 ++ [d.shift]) = amtsD b.drls := by
    rw [e, amtsD_append, amtsD_append]
    rfl
  unfold lookOk
  have n4 : leadsStmt (b.to (ds0 ++ [d.shift])) = leadsStmt b := by
    unfold leadsStmt
    rw [hl]
    rfl
  have n5 : isTotal (b.to (ds0 ++ [d.shift])) = isTotal b := by
    unfold isTotal
    show decide (amtsD (ds0 ++ [d.shift]) = b.total) = _
    rw [ha]
  rw [n4, n5]
  rfl
theorem shift_fine {b : Bun} (f : b.Fine) {ds0 : List Drl} {d : Drl} (e : b.drls = ds0 ++ [d]) (h3 : d.place ≤ 222) : (b.to (ds0 ++ [d.shift])).Fine := by
  refine ⟨f.per, f.line, f.hdrs, f.fixed, f.total, ?_, ?_, f.path⟩
  · have := f.many
    rw [e] at this
    show (ds0 ++ [d.shift]).length ≤ 72
    simp only [List.length_append, List.length_singleton] at this ⊢
    exact this
  · intro x hx
    have hx' : x ∈ ds0 ++ [d.shift] := hx
    rcases List.mem_append.1 hx' with h | h
    · exact f.drls x (by rw [e]; exact List.mem_append_left _ h)
    · simp only [List.mem_singleton] at h
      subst h
      have := f.drls d (by rw [e]; simp)
      exact ⟨show d.ent - 1 ≤ 255 by omega, show d.place + 33 ≤ 255 by omega, this.2.2⟩
/-- What shifted() makes of a bundle's text. -/
theorem shift_all {b : Bun} (f : b.Fine) {hd : Txt} (hk : lookOk b hd = true) {nd : Nat} (hn : b.drls.length = nd + 1) (hp : ∀ d ∈ b.drls, d.place ≤ 222) {d : Drl} (hdd : b.drls[nd]? = some d) (h1 : 1 ≤ d.ent) :
    ∃ (n' : Bun), n'.drls.length = nd + 1 ∧ n'.drls[nd]? = some d.shift ∧ lookErr (bunB n') hd = 0 ∧ clashErr (bunB b) (bunB n') hd = 0 ∧ bunL (tx (bunB n')) = n' ∧ d.ent ≤ 255 ∧ d.place ≤ 222 ∧ 15 ≤ (tx (bunB b)).length ∧
      (tx (bunB b))[(tx (bunB b)).length - 15]? = some (UInt8.ofNat d.ent) ∧ (tx (bunB b))[(tx (bunB b)).length - 15 + 1]? = some (UInt8.ofNat d.place) ∧
      ((tx (bunB b)).set ((tx (bunB b)).length - 15) (UInt8.ofNat (d.ent - 1))).set ((tx (bunB b)).length - 15 + 1) (UInt8.ofNat (d.place + 33)) = tx (bunB n') := by
  have hnd : nd < b.drls.length := by omega
  have hde : b.drls[nd] = d := (List.getElem?_eq_some_iff.1 hdd).2
  obtain ⟨ds0, e⟩ : ∃ ds0, b.drls = ds0 ++ [d] := ⟨b.drls.take nd, by
    have h := List.take_append_drop nd b.drls
    rw [List.drop_eq_getElem_cons hnd, hde, List.drop_eq_nil_of_le (by omega)] at h
    exact h.symm⟩
  have hl0 : ds0.length = nd := by rw [e] at hn; simp at hn; exact hn
  have hm : d ∈ b.drls := by rw [e]; simp
  have hf := f.drls d hm
  have hpl := hp d hm
  have hb : b = b.to (ds0 ++ [d]) := by rw [← e]; rfl
  have f' := shift_fine f e hpl
  have hlk : lookOk (b.to (ds0 ++ [d.shift])) hd = true := by rw [shift_look e h1 hf.1 hpl]; exact hk
  have hle := lookErr_bun f' hd
  rw [if_pos hlk] at hle
  have hlb := lookErr_bun f hd
  rw [if_pos hk] at hlb
  have r1 := (bunB_read f).2
  have r2 := (bunB_read f').2
  have hne : ¬ b.drls = ds0 ++ [d.shift] := fun c => by
    rw [e] at c
    have := List.append_cancel_left c
    simp only [List.cons.injEq, and_true] at this
    have h4 := congrArg Drl.place this
    have h5 : d.shift.place = d.place + 33 := rfl
    omega
  obtain ⟨p, q, ep, hps, hqs⟩ := f.path
  have t1 := tx_bun b ds0 d
  rw [← hb] at t1
  have t2 := tx_bun b ds0 d.shift
  generalize (tx (beB b.per 1 ++ beB b.line 1 ++ beB b.hdrs.length 1 ++ joinB (b.hdrs.map hdrB) ++ (beB b.total 8 ++ beB ((ds0.length + 1 : Nat) : Int) 2)) ++ ds0.flatMap (fun d => tx (drlB d))) = pre at t1 t2
  rw [tx_drl hf.1 (by omega)] at t1
  rw [tx_drl (d := d.shift) (show d.ent - 1 ≤ 255 by omega) (show d.place + 33 ≤ 255 by omega)] at t2
  have hpost : ((beL d.acct 1 ++ beL d.amt 8) ++ b.path.flatMap tx).length = 13 := by
    rw [ep]
    simp only [List.flatMap_cons, List.flatMap_nil, List.length_append, beL_length, tx_length, hps, hqs, List.length_nil]
  have hlen : (tx (bunB b)).length = pre.length + 15 := by
    rw [t1]
    simp only [List.cons_append, List.length_append, List.length_cons] at hpost ⊢
    omega
  have hat : (tx (bunB b)).length - 15 = pre.length := by omega
  refine ⟨b.to (ds0 ++ [d.shift]), ?_, ?_, hle, ?_, r2, hf.1, hpl, by omega, ?_, ?_, ?_⟩
  · show (ds0 ++ [d.shift]).length = nd + 1
    simp [hl0]
  · show (ds0 ++ [d.shift])[nd]? = some d.shift
    rw [← hl0]
    simp
  · unfold clashErr
    rw [hlb, hle, r1, r2, if_neg (by simp), if_neg (by simp), if_pos]
    exact ⟨⟨rfl, rfl⟩, fun c => hne c.2⟩
  · rw [hat, t1]
    simp
  · rw [hat, t1, List.getElem?_append_right (by omega)]
    simp
  · rw [hat, t1, t2]
    rw [List.set_append_right _ _ (Nat.le_refl _), List.set_append_right _ _ (by omega), Nat.sub_self, show pre.length + 1 - pre.length = 1 by omega]
    rfl
/-- Drills lie in an entry's postings. -/
theorem drillsFrom_place (m : Nat) (ac : List Acc) (line : Int) : ∀ (es : List Ent) (i : Nat), (∀ e ∈ es, e.posts.length ≤ m) → ∀ d ∈ drillsFrom ac line i es, d.place < m
  | [], _, _ => by simp [drillsFrom]
  | e :: es, i, h => by
    have hin : ∀ (ps : List Pst) (j : Nat), j + ps.length ≤ m → ∀ d ∈ drillsIn ac line i j ps, d.place < m := by
      intro ps
      induction ps with
      | nil => intro j _; simp [drillsIn]
      | cons p ps ih =>
        intro j hp d hd
        unfold drillsIn at hd
        rw [List.length_cons] at hp
        have ih' := ih (j + 1) (by omega)
        split at hd
        · rcases List.mem_cons.1 hd with rfl | hd
          · show j < m; omega
          · exact ih' d hd
        · exact ih' d hd
    intro d hd
    rw [drillsFrom_cons] at hd
    rcases List.mem_append.1 hd with hd | hd
    · exact hin e.posts 0 (by have := h e List.mem_cons_self; omega) d hd
    · exact drillsFrom_place m ac line es (i + 1) (fun e he => h e (List.mem_cons_of_mem _ he)) d hd
end Go.Proofs.YtpkkhkkkgjhkeabGreat.Sg
