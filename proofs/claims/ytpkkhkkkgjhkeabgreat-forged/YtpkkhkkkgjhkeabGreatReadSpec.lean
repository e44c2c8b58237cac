import Derived.Test.YtpkkhkkkgjhkeabGreatRefSeal
/-
  PLAIN MATHEMATICS OF READING (P7): what is read out of a package is the history that was sealed.
-/
namespace Go.Proofs.YtpkkhkkkgjhkeabGreat.Sg

/-- A text's bytes. -/
def tx (b : ByteArray) : List UInt8 := b.data.toList
theorem tx_append (a b : ByteArray) : tx (a ++ b) = tx a ++ tx b := by unfold tx; rw [ByteArray.data_append]; simp
theorem tx_beB (n : Int) (k : Nat) : tx (beB n k) = beL n k := by unfold tx beB; simp
theorem tx_inj {a b : ByteArray} (h : tx a = tx b) : a = b := by
  cases a; cases b; simp only [tx] at h; congr 1; exact Array.toList_inj.1 h
theorem tx_length (b : ByteArray) : (tx b).length = b.size := by unfold tx; rw [Array.length_toList]; rfl
/-- Bytes as a text. -/
def ofL (l : List UInt8) : ByteArray := ⟨l.toArray⟩
theorem ofL_tx (b : ByteArray) : ofL (tx b) = b := by unfold ofL tx; simp
theorem tx_ofL (l : List UInt8) : tx (ofL l) = l := by unfold ofL tx; simp
theorem ofL_size (l : List UInt8) : (ofL l).size = l.length := by unfold ofL; exact List.size_toArray

/-- The number that bytes are, the highest first. -/
def numL (l : List UInt8) : Nat := l.foldl (fun n b => n * 256 + b.toNat) 0
theorem numL_snoc (l : List UInt8) (b : UInt8) : numL (l ++ [b]) = numL l * 256 + b.toNat := by unfold numL; rw [List.foldl_append]; rfl
theorem numL_lt (l : List UInt8) : ∀ k, l.length ≤ k → numL l < 256 ^ k := by
  suffices h : ∀ (l : List UInt8) (m : Nat), l.foldl (fun n b => n * 256 + b.toNat) m < (m + 1) * 256 ^ l.length by
    intro k hk
    have := h l 0
    have h2 : 256 ^ l.length ≤ 256 ^ k := Nat.pow_le_pow_right (by decide) hk
    unfold numL
    omega
  intro l
  induction l with
  | nil => intro m; simp
  | cons b l ih =>
    intro m
    simp only [List.foldl_cons, List.length_cons]
    have h1 := ih (m * 256 + b.toNat)
    have hb : b.toNat < 256 := b.toNat_lt
    have h2 : (m * 256 + b.toNat + 1) * 256 ^ l.length ≤ ((m + 1) * 256) * 256 ^ l.length := Nat.mul_le_mul_right _ (by omega)
    have e : ((m + 1) * 256) * 256 ^ l.length = (m + 1) * 256 ^ (l.length + 1) := by rw [Nat.pow_succ, Nat.mul_assoc, Nat.mul_comm 256]
    omega
theorem fold_beL (n : Int) : ∀ (k m : Nat), (beL n k).foldl (fun n b => n * 256 + b.toNat) m = m * 256 ^ k + (n % 18446744073709551616).toNat % 256 ^ k
  | 0, m => by simp [beL, Nat.mod_one]
  | k + 1, m => by
    simp only [beL, List.foldl_cons]
    rw [fold_beL n k]
    generalize (n % 18446744073709551616).toNat = N
    have e1 : (UInt8.ofNat (N / 256 ^ k % 256)).toNat = N / 256 ^ k % 256 := by simp
    rw [e1, Nat.pow_succ, Nat.mod_mul]
    generalize 256 ^ k = p
    generalize N / p % 256 = d
    generalize N % p = q
    rw [Nat.add_mul, Nat.mul_assoc m, Nat.mul_comm 256 p, Nat.mul_comm p d]
    omega
theorem numL_beL (n : Int) (k : Nat) : numL (beL n k) = (n % 18446744073709551616).toNat % 256 ^ k := by
  unfold numL; rw [fold_beL]; simp
theorem numL_one {n : Int} (h : 0 ≤ n ∧ n < 256) : ((numL (beL n 1) : Nat) : Int) = n := by
  rw [numL_beL]
  have : (n % 18446744073709551616).toNat = n.toNat := by congr 1; omega
  rw [this]; omega
theorem numL_nat {n : Nat} (h : n < 256) : numL (beL (n : Int) 1) = n := by have := numL_one (n := (n : Int)) (by omega); omega
theorem wrap_beL {n : Int} (h : fits n = true) : IntKind.i64.wrap ((numL (beL n 8) : Nat) : Int) = n := by
  have h' : -9223372036854775808 ≤ n ∧ n ≤ 9223372036854775807 := of_decide_eq_true h
  rw [numL_beL]
  have e : (n % 18446744073709551616).toNat % 256 ^ 8 = (n % 18446744073709551616).toNat := Nat.mod_eq_of_lt (by omega)
  rw [e, Int.toNat_of_nonneg (by omega)]
  simp [IntKind.wrap, IntKind.bits, IntKind.signed]
  split <;> omega

/-! ### Reading: as the program does, and as the document's answer does -/
structure Rd where
  a : Nat
  p : Nat
  e : Nat
  q : Nat
  num : List UInt8 → Int
/-- So many, one behind the other. -/
def rdMany {α : Type} (f : List UInt8 → α × List UInt8) : Nat → List UInt8 → List α × List UInt8
  | 0, s => ([], s)
  | k + 1, s => ((rdMany f k s).1 ++ [(f (rdMany f k s).2).1], (f (rdMany f k s).2).2)
theorem rdMany_len {α : Type} (f : List UInt8 → α × List UInt8) (s : List UInt8) : ∀ k, (rdMany f k s).1.length = k
  | 0 => rfl
  | k + 1 => by simp [rdMany, rdMany_len f s k]
theorem rdMany_all {α : Type} (f : List UInt8 → α × List UInt8) (Q : α → Prop) (h : ∀ s, Q (f s).1) (s : List UInt8) : ∀ k, ∀ x ∈ (rdMany f k s).1, Q x
  | 0 => by simp [rdMany]
  | k + 1 => by
    intro x hx
    simp only [rdMany, List.mem_append, List.mem_singleton] at hx
    rcases hx with hx | rfl
    · exact rdMany_all f Q h s k x hx
    · exact h _
/-- What was laid down one behind the other is read so. -/
theorem rdMany_back {α β : Type} (f : List UInt8 → α × List UInt8) (enc : β → List UInt8) (dec : β → α) (l : List β) (h : ∀ x ∈ l, ∀ r, f (enc x ++ r) = (dec x, r)) (r : List UInt8) :
    rdMany f l.length (l.flatMap enc ++ r) = (l.map dec, r) := by
  suffices hh : ∀ k, k ≤ l.length → rdMany f k (l.flatMap enc ++ r) = ((l.take k).map dec, (l.drop k).flatMap enc ++ r) by
    have := hh l.length (Nat.le_refl _)
    simpa using this
  intro k
  induction k with
  | zero => intro _; simp [rdMany]
  | succ k ih =>
    intro hk
    have hk' : k < l.length := by omega
    simp only [rdMany]
    rw [ih (by omega)]
    have e : (l.drop k).flatMap enc ++ r = enc l[k] ++ ((l.drop (k + 1)).flatMap enc ++ r) := by
      rw [List.drop_eq_getElem_cons hk', List.flatMap_cons, List.append_assoc]
    simp only
    rw [e, h _ (List.getElem_mem hk'), List.take_succ_eq_append_getElem hk']
    simp only [List.map_append, List.map_cons, List.map_nil]

def rdPst (R : Rd) (s : List UInt8) : Pst × List UInt8 := (⟨(numL (s.take 1) : Int), R.num (s.drop 1)⟩, (s.drop 1).drop 8)
def rdEnt (R : Rd) (s : List UInt8) : Ent × List UInt8 :=
  let k := numL (s.take 1)
  let t := (s.drop 1).drop k
  let y := rdMany (rdPst R) (min (numL (t.take 1)) R.q) (t.drop 1)
  (⟨ofL ((s.drop 1).take k), y.1⟩, y.2)
def rdPer (R : Rd) (n : Nat) (s : List UInt8) : List Ent × List UInt8 :=
  let y := rdMany (rdEnt R) (min (numL (s.take 1)) R.e) (s.drop 1)
  (y.1, y.2.drop (8 * (n + 4)))
def rdAcc (s : List UInt8) : Acc × List UInt8 :=
  let k := numL (s.take 1)
  let t := (s.drop 1).drop k
  (⟨ofL ((s.drop 1).take k), (numL (t.take 1) : Int)⟩, t.drop 1)
def rdAccs (R : Rd) (s : List UInt8) : List Acc × List UInt8 := rdMany rdAcc (min (numL ((s.drop 4).take 1)) R.a) ((s.drop 4).drop 1)
def rdPers (R : Rd) (n : Nat) (s : List UInt8) : List (List Ent) × List UInt8 := rdMany (rdPer R n) (min (numL (s.take 1)) R.p) (s.drop 1)
def rdHist (R : Rd) (s : List UInt8) : Hist := ⟨(rdAccs R s).1, (rdPers R (rdAccs R s).1.length (rdAccs R s).2).1⟩
structure RdOk (R : Rd) : Prop where
  a : 8 ≤ R.a
  p : 6 ≤ R.p
  e : 12 ≤ R.e
  q : 6 ≤ R.q
  num : ∀ x r, fits x = true → R.num (beL x 8 ++ r) = x

theorem take_beL (n : Int) (k : Nat) (r : List UInt8) : (beL n k ++ r).take k = beL n k := by
  rw [List.take_append_of_le_length (by rw [beL_length]; exact Nat.le_refl _), List.take_of_length_le (by rw [beL_length]; exact Nat.le_refl _)]
theorem drop_beL (n : Int) (k : Nat) (r : List UInt8) : (beL n k ++ r).drop k = r := by
  rw [List.drop_append, beL_length, Nat.sub_self, List.drop_zero, List.drop_of_length_le (by rw [beL_length]; exact Nat.le_refl _), List.nil_append]
theorem take_txt (b : ByteArray) (r : List UInt8) : (tx b ++ r).take b.size = tx b := by
  rw [List.take_append_of_le_length (by rw [tx_length]; exact Nat.le_refl _), List.take_of_length_le (by rw [tx_length]; exact Nat.le_refl _)]
theorem drop_txt (b : ByteArray) (r : List UInt8) : (tx b ++ r).drop b.size = r := by
  rw [List.drop_append, tx_length, Nat.sub_self, List.drop_zero, List.drop_of_length_le (by rw [tx_length]; exact Nat.le_refl _), List.nil_append]

/-! ### The way back -/
def pstL (p : Pst) : List UInt8 := beL p.acct 1 ++ beL p.amt 8
theorem rdPst_back {R : Rd} (ok : RdOk R) {p : Pst} (h1 : 0 ≤ p.acct ∧ p.acct < 256) (h2 : fits p.amt = true) (r : List UInt8) : rdPst R (pstL p ++ r) = (p, r) := by
  unfold rdPst pstL
  rw [List.append_assoc, take_beL, drop_beL, drop_beL, ok.num _ _ h2, numL_one h1]
theorem fold_tx {α : Type} (f : ByteArray → α → ByteArray) (enc : α → List UInt8) (h : ∀ o x, tx (f o x) = tx o ++ enc x) : ∀ (l : List α) (o : ByteArray), tx (l.foldl f o) = tx o ++ l.flatMap enc
  | [], o => by simp
  | x :: l, o => by
    rw [List.foldl_cons, fold_tx f enc h l, h, List.flatMap_cons, List.append_assoc]
def entL (e : Ent) : List UInt8 := beL e.memo.size 1 ++ tx e.memo ++ beL e.posts.length 1 ++ e.posts.flatMap pstL
theorem tx_entB (e : Ent) : tx (entB e) = entL e := by
  unfold entB entL
  rw [fold_tx pstText pstL (fun o x => by unfold pstText pstL; rw [tx_append, tx_append, tx_beB, tx_beB, List.append_assoc]), tx_append, tx_append, tx_beB, tx_beB]
theorem rdEnt_back {R : Rd} (ok : RdOk R) {e : Ent} (h1 : e.memo.size ≤ 20) (h2 : e.posts.length ≤ 6) (h3 : ∀ t ∈ e.posts, 0 ≤ t.acct ∧ t.acct < 256 ∧ fits t.amt = true) (r : List UInt8) : rdEnt R (entL e ++ r) = (e, r) := by
  have hq := ok.q
  unfold rdEnt entL
  simp only [List.append_assoc]
  rw [take_beL, drop_beL, numL_nat (by omega), take_txt, drop_txt, take_beL, drop_beL, numL_nat (by omega), Nat.min_eq_left (by omega)]
  rw [rdMany_back (rdPst R) pstL id e.posts (fun x hx r => rdPst_back ok ⟨(h3 x hx).1, (h3 x hx).2.1⟩ (h3 x hx).2.2 r), ofL_tx]
  simp
def amtsL (l : List Int) : List UInt8 := l.flatMap fun x => beL x 8
theorem tx_amountsB (l : List Int) : tx (amountsB l) = amtsL l := by
  unfold amountsB amtsL
  rw [fold_tx (fun out x => out ++ beB x 8) (fun x => beL x 8) (fun o x => by rw [tx_append, tx_beB])]
  rfl
theorem amtsL_length : ∀ l : List Int, (amtsL l).length = 8 * l.length
  | [] => rfl
  | x :: l => by
    have := amtsL_length l
    unfold amtsL at this ⊢
    rw [List.flatMap_cons, List.length_append, beL_length, this, List.length_cons]; omega
def perL (x : List Ent × List Int × List Int) : List UInt8 := beL x.1.length 1 ++ x.1.flatMap entL ++ amtsL x.2.1 ++ amtsL x.2.2
theorem tx_perText (o : ByteArray) (p : List Ent) (b t : List Int) : tx (perText o p b t) = tx o ++ perL (p, b, t) := by
  unfold perText perL
  rw [tx_append, tx_append, fold_tx (fun o e => o ++ entB e) entL (fun o x => by rw [tx_append, tx_entB]), tx_append, tx_beB, tx_amountsB, tx_amountsB]
  simp only [List.append_assoc]
theorem rdPer_back {R : Rd} (ok : RdOk R) {n : Nat} (hn : n ≤ 8) {x : List Ent × List Int × List Int} (hp : perFine n x.1) (hb : x.2.1.length = n) (ht : x.2.2.length = 4) (r : List UInt8) : rdPer R n (perL x ++ r) = (x.1, r) := by
  have he := ok.e
  have h12 := hp.1
  unfold rdPer perL
  simp only [List.append_assoc]
  rw [take_beL, drop_beL, numL_nat (by omega), Nat.min_eq_left (by omega)]
  rw [rdMany_back (rdEnt R) entL id x.1 (fun e h r => rdEnt_back ok (hp.2 e h).1 (hp.2 e h).2.1 (fun t ht => by have := (hp.2 e h).2.2 t ht; exact ⟨this.1, by omega, this.2.2⟩) r)]
  simp only [List.map_id]
  rw [← List.append_assoc, List.drop_append, List.length_append, amtsL_length, amtsL_length, hb, ht, List.drop_of_length_le (by rw [List.length_append, amtsL_length, amtsL_length, hb, ht]; omega)]
  rw [show 8 * (n + 4) - (8 * n + 8 * 4) = 0 by omega]
  simp
def accL (a : Acc) : List UInt8 := beL a.name.size 1 ++ tx a.name ++ beL a.line 1
theorem tx_chartB (ac : List Acc) : tx (chartB ac) = beL ac.length 1 ++ ac.flatMap accL := by
  unfold chartB
  rw [fold_tx accText accL (fun o x => by unfold accText accL; rw [tx_append, tx_append, tx_append, tx_beB, tx_beB]; simp only [List.append_assoc]), tx_beB]
theorem rdAcc_back {a : Acc} (h1 : a.name.size ≤ 12) (h2 : 0 ≤ a.line ∧ a.line ≤ 3) (r : List UInt8) : rdAcc (accL a ++ r) = (a, r) := by
  unfold rdAcc accL
  simp only [List.append_assoc]
  rw [take_beL, drop_beL, numL_nat (by omega), take_txt, drop_txt, take_beL, drop_beL, numL_one (by omega), ofL_tx]
theorem tx_persText : ∀ (o : ByteArray) (ps : List (List Ent)) (bs ts : List (List Int)), tx (persText o ps bs ts) = tx o ++ (ps.zip (bs.zip ts)).flatMap perL
  | o, [], _, _ => by simp [persText]
  | o, _ :: _, [], _ => by simp [persText]
  | o, _ :: _, _ :: _, [] => by simp [persText]
  | o, p :: r, b :: bs, t :: ts => by
    simp only [persText, List.zip_cons_cons, List.flatMap_cons]
    rw [tx_persText, tx_perText, List.append_assoc]
theorem linesAll_len (ac : List Acc) : ∀ (ps : List Pst) (tot : List Int), (linesAll ac ps tot).length = tot.length
  | [], _ => rfl
  | p :: ps, tot => by
    have e : linesAll ac (p :: ps) tot = linesAll ac ps (comes tot (lineOf ac p.acct).toNat p.amt) := rfl
    rw [e, linesAll_len ac ps]; simp [comes]
theorem entsTo_lens (ac : List Acc) : ∀ (es : List Ent) (now tot : List Int), (entsTo ac es now tot).2.1.length = now.length ∧ (entsTo ac es now tot).2.2.length = tot.length
  | [], _, _ => ⟨rfl, rfl⟩
  | e :: es, now, tot => by
    simp only [entsTo]
    split
    · exact ⟨rfl, rfl⟩
    · have h := entsTo_lens ac es (comesAll e.posts now) (linesAll ac e.posts tot)
      exact ⟨h.1.trans (comesAll_length _ _), h.2.trans (linesAll_len _ _ _)⟩
theorem persTo_lens (ac : List Acc) : ∀ (ps : List (List Ent)) (now : List Int), (persTo ac ps now).1 = 0 → (persTo ac ps now).2.1.length = ps.length ∧ (persTo ac ps now).2.2.length = ps.length ∧ (∀ l ∈ (persTo ac ps now).2.1, l.length = now.length) ∧ ∀ l ∈ (persTo ac ps now).2.2, l.length = 4
  | [], _, _ => ⟨rfl, rfl, by simp [persTo], by simp [persTo]⟩
  | p :: ps, now, h => by
    have hl := entsTo_lens ac p now [0, 0, 0, 0]
    simp only [persTo] at h ⊢
    split at h
    · rename_i hz; exact absurd h hz
    · rename_i hz
      split at h
      · exact absurd h (by decide)
      · rename_i hz2
        rw [if_neg hz, if_neg hz2]
        obtain ⟨h1, h2, h3, h4⟩ := persTo_lens ac ps _ h
        refine ⟨by simp [h1], by simp [h2], fun l hl' => ?_, fun l hl' => ?_⟩
        · rcases List.mem_cons.1 hl' with rfl | hm
          · exact hl.1
          · exact (h3 l hm).trans hl.1
        · rcases List.mem_cons.1 hl' with rfl | hm
          · exact hl.2
          · exact h4 l hm
/-- All amounts are numbers of 64 bits. -/
def HistFits (h : Hist) : Prop := ∀ p ∈ h.pers, ∀ e ∈ p, ∀ t ∈ e.posts, fits t.acct = true ∧ fits t.amt = true
theorem mem_zip3 {α β γ : Type} {x : α × β × γ} : ∀ {a : List α} {b : List β} {c : List γ}, x ∈ a.zip (b.zip c) → x.1 ∈ a ∧ x.2.1 ∈ b ∧ x.2.2 ∈ c := by
  intro a b c h
  obtain ⟨u, v, w⟩ := x
  have h1 := List.of_mem_zip h
  have h2 := List.of_mem_zip h1.2
  exact ⟨h1.1, h2.1, h2.2⟩
/-- WHAT IS READ OUT OF A PACKAGE IS THE HISTORY THAT WAS SEALED. -/
theorem rdHist_back {R : Rd} (ok : RdOk R) {h : Hist} (hc : closeErr h = 0) (hf : HistFits h) : rdHist R (tx (package h)) = h := by
  have hi : inBounds h = true := by
    cases hb : inBounds h with
    | true => rfl
    | false => unfold closeErr at hc; rw [hb] at hc; simp at hc
  have hp0 : (persTo h.accs h.pers (List.replicate h.accs.length 0)).1 = 0 := by
    unfold closeErr at hc; rw [if_pos hi] at hc; exact hc
  obtain ⟨l1, l2, l3, l4⟩ := persTo_lens h.accs h.pers _ hp0
  have hok := persTo_ok _ _ _ hp0
  have hba := bnd_accs hi
  have hbp := bnd_pers hi
  have hnum : (1 ≤ h.accs.length ∧ h.accs.length ≤ 8) ∧ 1 ≤ h.pers.length ∧ h.pers.length ≤ 6 := by
    unfold inBounds at hi
    simp only [Bool.and_eq_true, decide_eq_true_eq] at hi
    omega
  have ea := ok.a
  have ep := ok.p
  have hfine : ∀ p ∈ h.pers, perFine h.accs.length p := fun p hp => ⟨(hbp p hp).1, fun e he => ⟨((hbp p hp).2 e he).1, ((hbp p hp).2 e he).2, fun t ht => ⟨(hok p hp e he t ht).1, (hok p hp e he t ht).2, (hf p hp e he t ht).2⟩⟩⟩
  have et : tx (package h) = tx signT ++ (beL h.accs.length 1 ++ (h.accs.flatMap accL ++ (beL h.pers.length 1 ++ ((h.pers.zip ((balances h).zip (totals h))).flatMap perL ++ [])))) := by
    unfold package
    rw [if_pos hc]
    unfold pkTo
    have m1 : (balances h).length ≤ h.pers.length := Nat.le_of_eq l1
    have m2 : (totals h).length ≤ h.pers.length := Nat.le_of_eq l2
    rw [List.take_length, List.take_of_length_le m1, List.take_of_length_le m2, tx_persText, tx_append, tx_append, tx_chartB, tx_beB]
    simp only [List.append_assoc, List.append_nil]
  have e4 : ∀ r, (tx signT ++ r).drop 4 = r := fun r => drop_txt signT r
  have hzl : (h.pers.zip ((balances h).zip (totals h))).length = h.pers.length := by
    rw [List.length_zip, List.length_zip]
    have m1 : (balances h).length = h.pers.length := l1
    have m2 : (totals h).length = h.pers.length := l2
    omega
  have eA : rdAccs R (tx (package h)) = (h.accs, beL h.pers.length 1 ++ ((h.pers.zip ((balances h).zip (totals h))).flatMap perL ++ [])) := by
    unfold rdAccs
    rw [et, e4, take_beL, drop_beL, numL_nat (by omega), Nat.min_eq_left (by omega), rdMany_back rdAcc accL id h.accs (fun a ha r => rdAcc_back (hba a ha).1 (hba a ha).2 r)]
    simp
  have eP : (rdPers R h.accs.length (beL h.pers.length 1 ++ ((h.pers.zip ((balances h).zip (totals h))).flatMap perL ++ []))).1 = h.pers := by
    unfold rdPers
    rw [take_beL, drop_beL, numL_nat (by omega), Nat.min_eq_left (by omega)]
    have := rdMany_back (rdPer R h.accs.length) perL (fun x => x.1) (h.pers.zip ((balances h).zip (totals h))) (fun x hx r => by
      obtain ⟨m1, m2, m3⟩ := mem_zip3 hx
      refine rdPer_back ok hnum.1.2 (hfine _ m1) ?_ (l4 _ m3) r
      have := l3 _ m2
      simpa using this) []
    rw [hzl] at this
    rw [this]
    simp only
    rw [List.map_fst_zip]
    rw [List.length_zip]
    have m1 : (balances h).length = h.pers.length := l1
    have m2 : (totals h).length = h.pers.length := l2
    omega
  unfold rdHist
  rw [eA]
  simp only
  rw [eP]

/-! ### The document's reader -/
/-- As the document's answer does. -/
def rdR : Rd := ⟨9, 7, 13, 7, fun s => IntKind.i64.wrap (numL ((s ++ List.replicate 8 0).take 8) : Int)⟩
theorem rdR_ok : RdOk rdR := ⟨by decide, by decide, by decide, by decide, fun x r h => by
  show IntKind.i64.wrap (numL ((beL x 8 ++ r ++ List.replicate 8 0).take 8) : Int) = x
  rw [List.append_assoc, take_beL, wrap_beL h]⟩
theorem fits_wrap (n : Int) : fits (IntKind.i64.wrap n) = true := by
  unfold fits
  rw [decide_eq_true_eq]
  simp [IntKind.wrap, IntKind.bits, IntKind.signed]
  split <;> omega
theorem one_lt (s : List UInt8) : numL (s.take 1) < 256 := by
  have := numL_lt (s.take 1) 1 (by simp; omega)
  omega
theorem fits_nat {n : Nat} (h : n < 256) : fits (n : Int) = true := by unfold fits; rw [decide_eq_true_eq]; omega
theorem rdHist_fits {R : Rd} (hn : ∀ s, fits (R.num s) = true) (s : List UInt8) : HistFits (rdHist R s) := by
  intro p hp e he t ht
  refine rdMany_all (rdPer R (rdAccs R s).1.length) (fun p => ∀ e ∈ p, ∀ t ∈ e.posts, fits t.acct = true ∧ fits t.amt = true) (fun s => ?_) _ _ p hp e he t ht
  refine rdMany_all (rdEnt R) (fun e => ∀ t ∈ e.posts, fits t.acct = true ∧ fits t.amt = true) (fun s => ?_) _ _
  exact rdMany_all (rdPst R) (fun t => fits t.acct = true ∧ fits t.amt = true) (fun s => ⟨fits_nat (one_lt s), hn _⟩) _ _
/-- Is a text a package? -/
def isPk (h : Hist) (text : ByteArray) : Prop := closeErr h = 0 ∧ package h = text
instance (h : Hist) (text : ByteArray) : Decidable (isPk h text) := by unfold isPk; infer_instance
theorem read_same {R S : Rd} (okS : RdOk S) (hn : ∀ s, fits (R.num s) = true) (text : ByteArray) (h : isPk (rdHist R (tx text)) text) : rdHist S (tx text) = rdHist R (tx text) := by
  have := rdHist_back okS h.1 (rdHist_fits hn (tx text))
  rw [h.2] at this
  exact this
end Go.Proofs.YtpkkhkkkgjhkeabGreat.Sg

/-
  PLAIN MATHEMATICS OF THE PROGRAM'S READER (P7): it knows whether more was asked for than there was, and lists end there.
-/
namespace Go.Proofs.YtpkkhkkkgjhkeabGreat.Sg

/-- What is left of a text, and whether more was asked for than there was. -/
abbrev Rs := List UInt8 × Bool
/-- So many bytes are taken. -/
def dr (m : Nat) (s : Rs) : Rs := (s.1.drop m, s.2 || decide (s.1.length < m))
/-- So many of eight. -/
def drs : Nat → Rs → Rs
  | 0, s => s
  | m + 1, s => dr 8 (drs m s)
/-- So many, one behind the other, or up to where the text runs out. -/
def pdMany {α : Type} (f : Rs → α × Rs) : Nat → Rs → List α × Rs
  | 0, s => ([], s)
  | k + 1, s => if (pdMany f k s).2.2 = true then pdMany f k s else ((pdMany f k s).1 ++ [(f (pdMany f k s).2).1], (f (pdMany f k s).2).2)
theorem pdMany_step {α : Type} (f : Rs → α × Rs) (k : Nat) (s : Rs) (h : (pdMany f k s).2.2 = false) : pdMany f (k + 1) s = ((pdMany f k s).1 ++ [(f (pdMany f k s).2).1], (f (pdMany f k s).2).2) := by
  show (if (pdMany f k s).2.2 = true then _ else _) = _
  rw [h, if_neg (by decide)]
theorem pdMany_stop {α : Type} (f : Rs → α × Rs) (k : Nat) (s : Rs) (h : (pdMany f k s).2.2 = true) : ∀ n, k ≤ n → pdMany f n s = pdMany f k s := by
  intro n hn
  obtain ⟨d, rfl⟩ : ∃ d, n = k + d := ⟨n - k, by omega⟩
  clear hn
  induction d with
  | zero => rfl
  | succ d ih =>
    show (if (pdMany f (k + d) s).2.2 = true then pdMany f (k + d) s else _) = _
    rw [ih, h, if_pos rfl]
theorem pdMany_len {α : Type} (f : Rs → α × Rs) (s : Rs) : ∀ k, (pdMany f k s).1.length ≤ k
  | 0 => Nat.le_refl _
  | k + 1 => by
    have := pdMany_len f s k
    show (if (pdMany f k s).2.2 = true then _ else _ : List α × Rs).1.length ≤ _
    split
    · omega
    · simp; omega
theorem pdMany_all {α : Type} (f : Rs → α × Rs) (Q : α → Prop) (h : ∀ s, Q (f s).1) (s : Rs) : ∀ k, ∀ x ∈ (pdMany f k s).1, Q x
  | 0 => by simp [pdMany]
  | k + 1 => by
    intro x hx
    have hx' : x ∈ (if (pdMany f k s).2.2 = true then pdMany f k s else ((pdMany f k s).1 ++ [(f (pdMany f k s).2).1], (f (pdMany f k s).2).2)).1 := hx
    split at hx'
    · exact pdMany_all f Q h s k x hx'
    · simp only [List.mem_append, List.mem_singleton] at hx'
      rcases hx' with hx' | rfl
      · exact pdMany_all f Q h s k x hx'
      · exact h _
/-- What was laid down one behind the other is read so. -/
theorem pdMany_back {α β : Type} (f : Rs → α × Rs) (enc : β → List UInt8) (dec : β → α) (l : List β) (h : ∀ x ∈ l, ∀ r, f (enc x ++ r, false) = (dec x, (r, false))) (r : List UInt8) :
    pdMany f l.length (l.flatMap enc ++ r, false) = (l.map dec, (r, false)) := by
  suffices hh : ∀ k, k ≤ l.length → pdMany f k (l.flatMap enc ++ r, false) = ((l.take k).map dec, ((l.drop k).flatMap enc ++ r, false)) by
    have := hh l.length (Nat.le_refl _)
    simpa using this
  intro k
  induction k with
  | zero => intro _; simp [pdMany]
  | succ k ih =>
    intro hk
    have hk' : k < l.length := by omega
    have i0 := ih (by omega)
    rw [pdMany_step _ _ _ (by rw [i0]), i0]
    have e : (l.drop k).flatMap enc ++ r = enc l[k] ++ ((l.drop (k + 1)).flatMap enc ++ r) := by
      rw [List.drop_eq_getElem_cons hk', List.flatMap_cons, List.append_assoc]
    simp only
    rw [e, h _ (List.getElem_mem hk'), List.take_succ_eq_append_getElem hk']
    simp only [List.map_append, List.map_cons, List.map_nil]
/-- A number of eight bytes. -/
def pdNum (s : Rs) : Int := IntKind.i64.wrap (numL (s.1.take 8) : Int)
/-- A number of one byte. -/
def pdOne (s : Rs) : Nat := numL (s.1.take 1)
def pdPst (s : Rs) : Pst × Rs := (⟨(pdOne s : Int), pdNum (dr 1 s)⟩, dr 8 (dr 1 s))
def pdEnt (s : Rs) : Ent × Rs :=
  let k := pdOne s
  let t := dr k (dr 1 s)
  let y := pdMany pdPst (pdOne t) (dr 1 t)
  (⟨ofL ((dr 1 s).1.take k), y.1⟩, y.2)
def pdPer (n : Nat) (s : Rs) : List Ent × Rs :=
  let y := pdMany pdEnt (pdOne s) (dr 1 s)
  (y.1, drs (n + 4) y.2)
def pdAcc (s : Rs) : Acc × Rs :=
  let k := pdOne s
  let t := dr k (dr 1 s)
  (⟨ofL ((dr 1 s).1.take k), (pdOne t : Int)⟩, dr 1 t)
def pdAccs (s : Rs) : List Acc × Rs := pdMany pdAcc (pdOne (dr 4 s)) (dr 1 (dr 4 s))
def pdPers (n : Nat) (s : Rs) : List (List Ent) × Rs := pdMany (pdPer n) (pdOne s) (dr 1 s)
def pdHistS (s : Rs) : Hist := ⟨(pdAccs s).1, (pdPers (pdAccs s).1.length (pdAccs s).2).1⟩
/-- The history that the program reads out of a text. -/
def pdHist (l : List UInt8) : Hist := pdHistS (l, false)

theorem dr_beL (n : Int) (k : Nat) (r : List UInt8) : dr k (beL n k ++ r, false) = (r, false) := by
  unfold dr
  simp only
  rw [drop_beL, List.length_append, beL_length]
  congr 1
  simp
theorem dr_txt (b : ByteArray) (r : List UInt8) : dr b.size (tx b ++ r, false) = (r, false) := by
  unfold dr
  simp only
  rw [drop_txt, List.length_append, tx_length]
  congr 1
  simp
theorem pdOne_beL {n : Nat} (h : n < 256) (r : List UInt8) : pdOne (beL (n : Int) 1 ++ r, false) = n := by
  unfold pdOne
  simp only
  rw [take_beL, numL_nat h]
theorem pdOne_int {n : Int} (h : 0 ≤ n ∧ n < 256) (r : List UInt8) : ((pdOne (beL n 1 ++ r, false) : Nat) : Int) = n := by
  unfold pdOne
  simp only
  rw [take_beL, numL_one h]
theorem pdNum_beL {x : Int} (h : fits x = true) (r : List UInt8) : pdNum (beL x 8 ++ r, false) = x := by
  unfold pdNum
  simp only
  rw [take_beL, wrap_beL h]
theorem pdPst_back {p : Pst} (h1 : 0 ≤ p.acct ∧ p.acct < 256) (h2 : fits p.amt = true) (r : List UInt8) : pdPst (pstL p ++ r, false) = (p, (r, false)) := by
  unfold pdPst pstL
  rw [List.append_assoc, dr_beL, dr_beL, pdOne_int h1, pdNum_beL h2]
theorem pdEnt_back {e : Ent} (h1 : e.memo.size ≤ 20) (h2 : e.posts.length ≤ 6) (h3 : ∀ t ∈ e.posts, 0 ≤ t.acct ∧ t.acct < 256 ∧ fits t.amt = true) (r : List UInt8) : pdEnt (entL e ++ r, false) = (e, (r, false)) := by
  unfold pdEnt entL
  simp only [List.append_assoc]
  rw [dr_beL, pdOne_beL (by omega), take_txt, dr_txt, dr_beL, pdOne_beL (by omega)]
  rw [pdMany_back pdPst pstL id e.posts (fun x hx r => pdPst_back ⟨(h3 x hx).1, (h3 x hx).2.1⟩ (h3 x hx).2.2 r), ofL_tx]
  simp
theorem drs_amts : ∀ (l m : List Int) (r : List UInt8), drs l.length (amtsL (l ++ m) ++ r, false) = (amtsL m ++ r, false) := by
  intro l
  suffices h : ∀ k (m : List Int) (r : List UInt8) (l : List Int), l.length = k → drs k (amtsL (l ++ m) ++ r, false) = (amtsL m ++ r, false) by
    intro m r; exact h _ m r l rfl
  intro k
  induction k with
  | zero => intro m r l hl; rw [List.eq_nil_of_length_eq_zero hl]; rfl
  | succ k ih =>
    intro m r l hl
    obtain ⟨l', x, rfl⟩ : ∃ l' x, l = l' ++ [x] := by
      have hne : l ≠ [] := by intro h; subst h; simp at hl
      exact ⟨l.dropLast, l.getLast hne, (List.dropLast_concat_getLast hne).symm⟩
    show dr 8 (drs k _) = _
    rw [List.append_assoc, ih ([x] ++ m) r l' (by simpa using hl)]
    have e : amtsL ([x] ++ m) ++ r = beL x 8 ++ (amtsL m ++ r) := by
      unfold amtsL; simp only [List.singleton_append, List.flatMap_cons, List.append_assoc]
    rw [e, dr_beL]
theorem amtsL_append (l m : List Int) : amtsL (l ++ m) = amtsL l ++ amtsL m := by unfold amtsL; rw [List.flatMap_append]
theorem pdPer_back {n : Nat} (hn : n ≤ 8) {x : List Ent × List Int × List Int} (hp : perFine n x.1) (hb : x.2.1.length = n) (ht : x.2.2.length = 4) (r : List UInt8) : pdPer n (perL x ++ r, false) = (x.1, (r, false)) := by
  have h12 := hp.1
  unfold pdPer perL
  simp only [List.append_assoc]
  rw [dr_beL, pdOne_beL (by omega)]
  rw [pdMany_back pdEnt entL id x.1 (fun e h r => pdEnt_back (hp.2 e h).1 (hp.2 e h).2.1 (fun t ht => by have := (hp.2 e h).2.2 t ht; exact ⟨this.1, by omega, this.2.2⟩) r)]
  simp only [List.map_id]
  rw [← List.append_assoc, ← amtsL_append]
  have := drs_amts (x.2.1 ++ x.2.2) [] r
  rw [List.append_nil, List.length_append, hb, ht] at this
  rw [this]
  simp [amtsL]
theorem pdAcc_back {a : Acc} (h1 : a.name.size ≤ 12) (h2 : 0 ≤ a.line ∧ a.line ≤ 3) (r : List UInt8) : pdAcc (accL a ++ r, false) = (a, (r, false)) := by
  unfold pdAcc accL
  simp only [List.append_assoc]
  rw [dr_beL, pdOne_beL (by omega), take_txt, dr_txt, dr_beL, pdOne_int (by omega), ofL_tx]
/-- WHAT IS READ OUT OF A PACKAGE IS THE HISTORY THAT WAS SEALED. -/
theorem pdHist_back {h : Hist} (hc : closeErr h = 0) (hf : HistFits h) : pdHist (tx (package h)) = h := by
  have hi : inBounds h = true := by
    cases hb : inBounds h with
    | true => rfl
    | false => unfold closeErr at hc; rw [hb] at hc; simp at hc
  have hp0 : (persTo h.accs h.pers (List.replicate h.accs.length 0)).1 = 0 := by
    unfold closeErr at hc; rw [if_pos hi] at hc; exact hc
  obtain ⟨l1, l2, l3, l4⟩ := persTo_lens h.accs h.pers _ hp0
  have hok := persTo_ok _ _ _ hp0
  have hba := bnd_accs hi
  have hbp := bnd_pers hi
  have hnum : (1 ≤ h.accs.length ∧ h.accs.length ≤ 8) ∧ 1 ≤ h.pers.length ∧ h.pers.length ≤ 6 := by
    unfold inBounds at hi
    simp only [Bool.and_eq_true, decide_eq_true_eq] at hi
    omega
  have hfine : ∀ p ∈ h.pers, perFine h.accs.length p := fun p hp => ⟨(hbp p hp).1, fun e he => ⟨((hbp p hp).2 e he).1, ((hbp p hp).2 e he).2, fun t ht => ⟨(hok p hp e he t ht).1, (hok p hp e he t ht).2, (hf p hp e he t ht).2⟩⟩⟩
  have et : tx (package h) = tx signT ++ (beL h.accs.length 1 ++ (h.accs.flatMap accL ++ (beL h.pers.length 1 ++ ((h.pers.zip ((balances h).zip (totals h))).flatMap perL ++ [])))) := by
    unfold package
    rw [if_pos hc]
    unfold pkTo
    have m1 : (balances h).length ≤ h.pers.length := Nat.le_of_eq l1
    have m2 : (totals h).length ≤ h.pers.length := Nat.le_of_eq l2
    rw [List.take_length, List.take_of_length_le m1, List.take_of_length_le m2, tx_persText, tx_append, tx_append, tx_chartB, tx_beB]
    simp only [List.append_assoc, List.append_nil]
  have e4 : ∀ r, dr 4 (tx signT ++ r, false) = (r, false) := fun r => dr_txt signT r
  have hzl : (h.pers.zip ((balances h).zip (totals h))).length = h.pers.length := by
    rw [List.length_zip, List.length_zip]
    have m1 : (balances h).length = h.pers.length := l1
    have m2 : (totals h).length = h.pers.length := l2
    omega
  have eA : pdAccs (tx (package h), false) = (h.accs, (beL h.pers.length 1 ++ ((h.pers.zip ((balances h).zip (totals h))).flatMap perL ++ []), false)) := by
    unfold pdAccs
    rw [et, e4, dr_beL, pdOne_beL (by omega), pdMany_back pdAcc accL id h.accs (fun a ha r => pdAcc_back (hba a ha).1 (hba a ha).2 r)]
    simp
  have eP : (pdPers h.accs.length (beL h.pers.length 1 ++ ((h.pers.zip ((balances h).zip (totals h))).flatMap perL ++ []), false)).1 = h.pers := by
    unfold pdPers
    rw [dr_beL, pdOne_beL (by omega)]
    have := pdMany_back (pdPer h.accs.length) perL (fun x => x.1) (h.pers.zip ((balances h).zip (totals h))) (fun x hx r => by
      obtain ⟨m1, m2, m3⟩ := mem_zip3 hx
      refine pdPer_back hnum.1.2 (hfine _ m1) ?_ (l4 _ m3) r
      have := l3 _ m2
      simpa using this) []
    rw [hzl] at this
    rw [this]
    simp only
    rw [List.map_fst_zip]
    rw [List.length_zip]
    have m1 : (balances h).length = h.pers.length := l1
    have m2 : (totals h).length = h.pers.length := l2
    omega
  unfold pdHist pdHistS
  rw [eA]
  simp only
  rw [eP]
theorem pdOne_lt (s : Rs) : pdOne s < 256 := one_lt s.1
theorem pdHistS_fits (s : Rs) : HistFits (pdHistS s) := by
  intro p hp e he t ht
  refine pdMany_all (pdPer (pdAccs s).1.length) (fun p => ∀ e ∈ p, ∀ t ∈ e.posts, fits t.acct = true ∧ fits t.amt = true) (fun s => ?_) _ _ p hp e he t ht
  refine pdMany_all pdEnt (fun e => ∀ t ∈ e.posts, fits t.acct = true ∧ fits t.amt = true) (fun s => ?_) _ _
  exact pdMany_all pdPst (fun t => fits t.acct = true ∧ fits t.amt = true) (fun s => ⟨fits_nat (pdOne_lt s), fits_wrap _⟩) _ _
theorem pdHist_fits (l : List UInt8) : HistFits (pdHist l) := pdHistS_fits _
/-- Both readers read a package alike, or none of them does. -/
theorem read_both (text : ByteArray) : (isPk (pdHist (tx text)) text ↔ isPk (rdHist rdR (tx text)) text) ∧ (isPk (pdHist (tx text)) text → rdHist rdR (tx text) = pdHist (tx text)) := by
  have nR : ∀ s, fits (rdR.num s) = true := fun s => fits_wrap _
  have k1 : isPk (pdHist (tx text)) text → rdHist rdR (tx text) = pdHist (tx text) := fun h => by
    have := rdHist_back rdR_ok h.1 (pdHist_fits (tx text))
    rw [h.2] at this
    exact this
  refine ⟨⟨fun h => ?_, fun h => ?_⟩, k1⟩
  · rw [k1 h]; exact h
  · have := pdHist_back h.1 (rdHist_fits nR (tx text))
    rw [h.2] at this
    rw [this]; exact h
theorem pdAcc_small (s : Rs) : (pdAcc s).1.name.size ≤ 255 ∧ fits (pdAcc s).1.line = true := by
  unfold pdAcc
  refine ⟨?_, fits_nat (pdOne_lt _)⟩
  show (ofL _).size ≤ 255
  rw [ofL_size]
  have := pdOne_lt s
  simp
  omega
theorem pdEnt_small (s : Rs) : (pdEnt s).1.memo.size ≤ 255 ∧ (pdEnt s).1.posts.length ≤ 255 := by
  unfold pdEnt
  refine ⟨?_, ?_⟩
  · show (ofL _).size ≤ 255
    rw [ofL_size]
    have := pdOne_lt s
    simp
    omega
  · show (pdMany _ _ _).1.length ≤ 255
    have h1 := pdMany_len pdPst (dr 1 (dr (pdOne s) (dr 1 s))) (pdOne (dr (pdOne s) (dr 1 s)))
    have h2 := pdOne_lt (dr (pdOne s) (dr 1 s))
    omega
theorem pdPer_small (n : Nat) (s : Rs) : (pdPer n s).1.length ≤ 255 ∧ ∀ e ∈ (pdPer n s).1, e.memo.size ≤ 255 ∧ e.posts.length ≤ 255 := by
  unfold pdPer
  refine ⟨?_, ?_⟩
  · show (pdMany _ _ _).1.length ≤ 255
    have h1 := pdMany_len pdEnt (dr 1 s) (pdOne s)
    have h2 := pdOne_lt s
    omega
  · exact pdMany_all pdEnt (fun e => e.memo.size ≤ 255 ∧ e.posts.length ≤ 255) pdEnt_small _ _
theorem pdAccs_len (s : Rs) : (pdAccs s).1.length ≤ 255 := by
  have h1 := pdMany_len pdAcc (dr 1 (dr 4 s)) (pdOne (dr 4 s))
  have h2 := pdOne_lt (dr 4 s)
  unfold pdAccs
  omega
end Go.Proofs.YtpkkhkkkgjhkeabGreat.Sg
