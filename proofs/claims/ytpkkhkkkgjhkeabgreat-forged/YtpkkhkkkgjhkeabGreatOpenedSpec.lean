import Derived.Test.YtpkkhkkkgjhkeabGreatReadSpec
import Derived.Test.YtpkkhkkkgjhkeabGreatBalInv
/-
  PLAIN MATHEMATICS OF Opened: no package stands at the head of another.
-/
namespace Go.Proofs.YtpkkhkkkgjhkeabGreat.Sg

/-- What is read out of a package, whatever stands behind it, is the history that was sealed. -/
theorem rdHist_front {R : Rd} (ok : RdOk R) {h : Hist} (hc : closeErr h = 0) (hf : HistFits h) (r : List UInt8) : rdHist R (tx (package h) ++ r) = h := by
  have hi : inBounds h = true := by
    cases hb : inBounds h with
    | true => rfl
    | false => unfold closeErr at hc; rw [hb] at hc; simp at hc
  have hp0 : (persTo h.accs h.pers (List.replicate h.accs.length 0)).1 = 0 := by
    unfold closeErr at hc; rw [if_pos hi] at hc; exact hc
  obtain ⟨l1, l2, l3, l4⟩ := persTo_lens h.accs h.pers _ hp0
  have hok := persTo_ok _ _ _ hp0
  have hba := bnd_accs hi
  have hbp := bnd_pers hi
  have hnum : (1 ≤ h.accs.length ∧ h.accs.length ≤ 8) ∧ 1 ≤ h.pers.length ∧ h.pers.length ≤ 6 := by
    unfold inBounds at hi
    simp only [Bool.and_eq_true, decide_eq_true_eq] at hi
    omega
  have ea := ok.a
  have ep := ok.p
  have hfine : ∀ p ∈ h.pers, perFine h.accs.length p := fun p hp => ⟨(hbp p hp).1, fun e he => ⟨((hbp p hp).2 e he).1, ((hbp p hp).2 e he).2, fun t ht => ⟨(hok p hp e he t ht).1, (hok p hp e he t ht).2, (hf p hp e he t ht).2⟩⟩⟩
  have et : tx (package h) ++ r = tx signT ++ (beL h.accs.length 1 ++ (h.accs.flatMap accL ++ (beL h.pers.length 1 ++ ((h.pers.zip ((balances h).zip (totals h))).flatMap perL ++ r)))) := by
    unfold package
    rw [if_pos hc]
    unfold pkTo
    have m1 : (balances h).length ≤ h.pers.length := Nat.le_of_eq l1
    have m2 : (totals h).length ≤ h.pers.length := Nat.le_of_eq l2
    rw [List.take_length, List.take_of_length_le m1, List.take_of_length_le m2, tx_persText, tx_append, tx_append, tx_chartB, tx_beB]
    simp only [List.append_assoc]
  have e4 : ∀ r, (tx signT ++ r).drop 4 = r := fun r => drop_txt signT r
  have hzl : (h.pers.zip ((balances h).zip (totals h))).length = h.pers.length := by
    rw [List.length_zip, List.length_zip]
    have m1 : (balances h).length = h.pers.length := l1
    have m2 : (totals h).length = h.pers.length := l2
    omega
  have eA : rdAccs R (tx (package h) ++ r) = (h.accs, beL h.pers.length 1 ++ ((h.pers.zip ((balances h).zip (totals h))).flatMap perL ++ r)) := by
    unfold rdAccs
    rw [et, e4, take_beL, drop_beL, numL_nat (by omega), Nat.min_eq_left (by omega), rdMany_back rdAcc accL id h.accs (fun a ha r => rdAcc_back (hba a ha).1 (hba a ha).2 r)]
    simp
  have eP : (rdPers R h.accs.length (beL h.pers.length 1 ++ ((h.pers.zip ((balances h).zip (totals h))).flatMap perL ++ r))).1 = h.pers := by
    unfold rdPers
    rw [take_beL, drop_beL, numL_nat (by omega), Nat.min_eq_left (by omega)]
    have := rdMany_back (rdPer R h.accs.length) perL (fun x => x.1) (h.pers.zip ((balances h).zip (totals h))) (fun x hx r => by
      obtain ⟨m1, m2, m3⟩ := mem_zip3 hx
      refine rdPer_back ok hnum.1.2 (hfine _ m1) ?_ (l4 _ m3) r
      have := l3 _ m2
      simpa using this) r
    rw [hzl] at this
    rw [this]
    simp only
    rw [List.map_fst_zip]
    rw [List.length_zip]
    have m1 : (balances h).length = h.pers.length := l1
    have m2 : (totals h).length = h.pers.length := l2
    omega
  unfold rdHist
  rw [eA]
  simp only
  rw [eP]

/-- A package is one. -/
theorem isPk_package {h : Hist} (hc : closeErr h = 0) (hf : HistFits h) : pdHist (tx (package h)) = h ∧ isPk h (package h) :=
  ⟨pdHist_back hc hf, hc, rfl⟩
/-- What stands at the head of a package, or has one at its head, is the package itself. -/
theorem no_front {h g : Hist} {t : ByteArray} (hc : closeErr h = 0) (hf : HistFits h) (hg : isPk g t) (hfg : HistFits g) (r : List UInt8) (he : tx t ++ r = tx (package h) ∨ tx t = tx (package h) ++ r) : t = package h := by
  have e : g = h := by
    rcases he with he | he
    · have h1 := rdHist_front rdR_ok hg.1 hfg r
      rw [hg.2, he, rdHist_back rdR_ok hc hf] at h1
      exact h1.symm
    · have h1 := rdHist_front rdR_ok hc hf r
      rw [← he, ← hg.2, rdHist_back rdR_ok hg.1 hfg] at h1
      exact h1
  rw [← hg.2, e]
theorem not_cut {h : Hist} (hc : closeErr h = 0) (hf : HistFits h) (k : Nat) (hk : k < (package h).size) : ¬ isPk (pdHist (tx ((package h).extract 0 k))) ((package h).extract 0 k) := by
  intro hg
  have et : tx ((package h).extract 0 k) = (tx (package h)).take k := by
    unfold tx
    rw [ByteArray.data_extract]
    simp
  have := no_front hc hf hg (pdHist_fits _) ((tx (package h)).drop k) (Or.inl (by rw [et, List.take_append_drop]))
  have hs := congrArg ByteArray.size this
  rw [← tx_length, et, List.length_take, tx_length] at hs
  omega
theorem not_more {h : Hist} (hc : closeErr h = 0) (hf : HistFits h) (x : ByteArray) (hx : 0 < x.size) : ¬ isPk (pdHist (tx (package h ++ x))) (package h ++ x) := by
  intro hg
  have := no_front hc hf hg (pdHist_fits _) (tx x) (Or.inr (tx_append _ _))
  have hs := congrArg ByteArray.size this
  rw [ByteArray.size_append] at hs
  omega
theorem MadeOk.fits {h : Hist} (m : MadeOk h) : HistFits h := m.sizes.sizQ
theorem package_pos {h : Hist} (hc : closeErr h = 0) : 1 ≤ (package h).size := by
  unfold package
  rw [if_pos hc]
  unfold pkTo
  have : ∀ (o : ByteArray) (ps : List (List Ent)) (bs ts : List (List Int)), o.size ≤ (persText o ps bs ts).size := by
    intro o ps bs ts
    have h1 := congrArg List.length (tx_persText o ps bs ts)
    rw [tx_length, List.length_append, tx_length] at h1
    omega
  have h1 := this (signT ++ chartB h.accs ++ beB h.pers.length 1) (h.pers.take h.pers.length) ((balances h).take h.pers.length) ((totals h).take h.pers.length)
  rw [ByteArray.size_append, beB_size] at h1
  omega
theorem persText_size : ∀ (ps : List (List Ent)) (bs ts : List (List Int)) (o : ByteArray), (∀ p ∈ ps, p.length ≤ 12 ∧ ∀ e ∈ p, e.memo.size ≤ 20 ∧ e.posts.length ≤ 6) → (∀ b ∈ bs, b.length ≤ 8) → (∀ t ∈ ts, t.length ≤ 4) → (persText o ps bs ts).size ≤ o.size + 1100 * ps.length
  | [], _, _, o, _, _, _ => by simp [persText]
  | _ :: _, [], _, o, _, _, _ => by simp only [persText]; omega
  | _ :: _, _ :: _, [], o, _, _, _ => by simp only [persText]; omega
  | p :: ps, b :: bs, t :: ts, o, h1, h2, h3 => by
    simp only [persText, List.length_cons]
    have hp := h1 p (by simp)
    have k1 := perText_size o p b t hp.2 hp.1 (h2 b (by simp)) (h3 t (by simp))
    have k2 := persText_size ps bs ts (perText o p b t) (fun q hq => h1 q (by simp [hq])) (fun q hq => h2 q (by simp [hq])) (fun q hq => h3 q (by simp [hq]))
    omega
theorem package_small {h : Hist} (hc : closeErr h = 0) : (package h).size ≤ 10000 := by
  have hi : inBounds h = true := by
    cases hb : inBounds h with
    | true => rfl
    | false => unfold closeErr at hc; rw [hb] at hc; simp at hc
  have hp0 : (persTo h.accs h.pers (List.replicate h.accs.length 0)).1 = 0 := by
    unfold closeErr at hc; rw [if_pos hi] at hc; exact hc
  obtain ⟨l1, l2, l3, l4⟩ := persTo_lens h.accs h.pers _ hp0
  have hnum : (1 ≤ h.accs.length ∧ h.accs.length ≤ 8) ∧ 1 ≤ h.pers.length ∧ h.pers.length ≤ 6 := by
    unfold inBounds at hi
    simp only [Bool.and_eq_true, decide_eq_true_eq] at hi
    omega
  unfold package
  rw [if_pos hc]
  unfold pkTo
  have hb := bnd_pers hi
  have k := persText_size (h.pers.take h.pers.length) ((balances h).take h.pers.length) ((totals h).take h.pers.length) (signT ++ chartB h.accs ++ beB h.pers.length 1)
    (fun p hp => hb p (List.mem_of_mem_take hp)) (fun b hb' => by have := l3 b (List.mem_of_mem_take hb'); rw [this]; simp; omega) (fun t ht' => by have := l4 t (List.mem_of_mem_take ht'); omega)
  rw [ByteArray.size_append, ByteArray.size_append, beB_size, List.take_length] at k
  have k1 := chartB_size h.accs (fun a ha => (bnd_accs hi a ha).1)
  have k2 : signT.size = 4 := rfl
  rw [List.take_length]
  omega
theorem headOf_size {h : Hist} (hc : closeErr h = 0) : (headOf h).size = 2 := by
  unfold headOf
  rw [if_pos hc]
  exact hdTo_last _ _ _ _
end Go.Proofs.YtpkkhkkkgjhkeabGreat.Sg
