import Derived.Test.YtpkkhkkkgjhkeabGreatClashSpec
/-
  PLAIN MATHEMATICS OF BUNDLES (P9, P10): how they are laid, how they are read, what is looked for.
-/
namespace Go.Proofs.YtpkkhkkkgjhkeabGreat.Sg

/-- What a bundle tells. -/
structure Bun where
  per : Nat
  line : Nat
  hdrs : List Hdr
  total : Int
  drls : List Drl
  path : List Txt
def hdr0 : Hdr := ⟨ByteArray.empty, 0, ByteArray.empty, ByteArray.empty, 0, ByteArray.empty, ByteArray.empty, ByteArray.empty⟩
/-- Texts behind each other. -/
def joinB (l : List Txt) : Txt := l.foldl (fun o x => o ++ x) ByteArray.empty
theorem tx_join (l : List Txt) : tx (joinB l) = l.flatMap tx := by
  unfold joinB
  rw [fold_tx (fun o x => o ++ x) tx (fun o x => tx_append o x)]
  rfl
/-- A bundle's text (P9). -/
def bunB (b : Bun) : Txt := beB b.per 1 ++ beB b.line 1 ++ beB b.hdrs.length 1 ++ joinB (b.hdrs.map hdrB) ++ (beB b.total 8 ++ beB b.drls.length 2) ++ joinB (b.drls.map drlB) ++ joinB b.path

/-! ### Reading, as the program does -/
def pdTwo (s : Rs) : Nat := numL (s.1.take 2)
def pdTxt (k : Nat) (s : Rs) : Txt := ofL (s.1.take k)
def pdHdr (s : Rs) : Hdr × Rs :=
  let s1 := dr 4 s
  let s2 := dr 1 s1
  let s3 := dr 2 s2
  let s4 := dr 2 s3
  let s5 := dr 1 s4
  let s6 := dr 2 s5
  let s7 := dr 2 s6
  (⟨pdTxt 4 s, (pdOne s1 : Int), pdTxt 2 s2, pdTxt 2 s3, (pdOne s4 : Int), pdTxt 2 s5, pdTxt 2 s6, pdTxt 2 s7⟩, dr 2 s7)
def pdDrl (s : Rs) : Drl × Rs :=
  let s1 := dr 1 s
  let s2 := dr 1 s1
  let s3 := dr 1 s2
  (⟨pdOne s, pdOne s1, (pdOne s2 : Int), pdNum s3⟩, dr 8 s3)
def pdSum (s : Rs) : Txt × Rs := (pdTxt 2 s, dr 2 s)
def pdHs (s : Rs) : List Hdr × Rs := pdMany pdHdr (pdOne s) (dr 1 s)
def pdDs (s : Rs) : List Drl × Rs := pdMany pdDrl (pdTwo s) (dr 2 s)
def pdBun (s : Rs) : Bun × Rs :=
  let y := pdHs (dr 1 (dr 1 s))
  let z := pdDs (dr 8 y.2)
  let q := pdMany pdSum 2 z.2
  (⟨pdOne s, pdOne (dr 1 s), y.1, pdNum y.2, z.1, q.1⟩, q.2)

theorem dr_dr (a b : Nat) (s : Rs) : dr a (dr b s) = dr (b + a) s := by
  unfold dr
  simp only
  rw [List.drop_drop, List.length_drop, Bool.or_assoc]
  congr 2
  rw [Bool.eq_iff_iff]
  simp only [Bool.or_eq_true, decide_eq_true_eq]
  omega
theorem dr_ok {m : Nat} {l : List UInt8} (h : m ≤ l.length) : dr m (l, false) = (l.drop m, false) := by
  unfold dr
  simp only
  rw [decide_eq_false (by omega)]
  rfl
theorem dr_bad {m : Nat} {l : List UInt8} (h : l.length < m) : (dr m (l, false)).2 = true := by
  unfold dr
  simp only
  rw [decide_eq_true h]
  rfl
theorem dr_stuck (m : Nat) {s : Rs} (h : s.2 = true) : (dr m s).2 = true := by unfold dr; simp [h]
theorem pdMany_stuck {α : Type} (f : Rs → α × Rs) (k : Nat) {s : Rs} (h : s.2 = true) : (pdMany f k s).2.2 = true := by
  rw [pdMany_stop f 0 s h k (Nat.zero_le _)]; exact h

/-! ### By places in the text -/
def hdrAtL (l : List UInt8) : Hdr := ⟨ofL (l.take 4), (numL ((l.drop 4).take 1) : Int), ofL ((l.drop 5).take 2), ofL ((l.drop 7).take 2), (numL ((l.drop 9).take 1) : Int), ofL ((l.drop 10).take 2), ofL ((l.drop 12).take 2), ofL ((l.drop 14).take 2)⟩
def drlAtL (l : List UInt8) : Drl := ⟨numL (l.take 1), numL ((l.drop 1).take 1), (numL ((l.drop 2).take 1) : Int), IntKind.i64.wrap (numL ((l.drop 3).take 8) : Int)⟩
theorem pdHdr_eq (s : Rs) : pdHdr s = (hdrAtL s.1, dr 16 s) := by
  unfold pdHdr hdrAtL pdTxt pdOne
  simp only [dr_dr]
  unfold dr
  simp only
theorem pdDrl_eq (s : Rs) : pdDrl s = (drlAtL s.1, dr 11 s) := by
  unfold pdDrl drlAtL pdOne pdNum
  simp only [dr_dr]
  unfold dr
  simp only
/-- Things of one length, read one behind the other. -/
theorem pdMany_fix {α : Type} (f : Rs → α × Rs) (g : List UInt8 → α) (c : Nat) (hf : ∀ s, f s = (g s.1, dr c s)) (l : List UInt8) :
    ∀ k, (c * k ≤ l.length → pdMany f k (l, false) = ((List.range k).map (fun i => g (l.drop (c * i))), (l.drop (c * k), false))) ∧ (l.length < c * k → (pdMany f k (l, false)).2.2 = true)
  | 0 => ⟨fun _ => by simp [pdMany], fun h => by simp at h⟩
  | k + 1 => by
    obtain ⟨i1, i2⟩ := pdMany_fix f g c hf l k
    have e : c * (k + 1) = c * k + c := by rw [Nat.mul_succ]
    by_cases hk : c * k ≤ l.length
    · have h1 := i1 hk
      have h2 : pdMany f (k + 1) (l, false) = ((pdMany f k (l, false)).1 ++ [(f (pdMany f k (l, false)).2).1], (f (pdMany f k (l, false)).2).2) := pdMany_step f k _ (by rw [h1])
      rw [h2, h1, hf]
      simp only
      refine ⟨fun h => ?_, fun h => ?_⟩
      · rw [dr_ok (by rw [List.length_drop]; omega), List.drop_drop, List.range_succ, List.map_append, e]
        simp only [List.map_cons, List.map_nil]
      · exact dr_bad (by rw [List.length_drop]; omega)
    · have h1 := i2 (by omega)
      have h2 : pdMany f (k + 1) (l, false) = pdMany f k (l, false) := pdMany_stop f k _ h1 (k + 1) (by omega)
      rw [h2]
      exact ⟨fun h => by omega, fun _ => h1⟩

/-- How many headers, how many drills a text tells. -/
def nH (l : List UInt8) : Nat := numL ((l.drop 2).take 1)
def nD (l : List UInt8) : Nat := numL ((l.drop (11 + 16 * nH l)).take 2)
/-- The form of P10. -/
def formL (l : List UInt8) : Bool := decide (numL (l.take 1) ≤ 5 ∧ numL ((l.drop 1).take 1) ≤ 3 ∧ 1 ≤ nH l ∧ nH l ≤ 6 ∧ nD l ≤ 72 ∧ l.length = 17 + 16 * nH l + 11 * nD l)
/-- What a text of that form tells. -/
def bunL (l : List UInt8) : Bun := ⟨numL (l.take 1), numL ((l.drop 1).take 1), (List.range (nH l)).map (fun i => hdrAtL (l.drop (3 + 16 * i))), IntKind.i64.wrap (numL ((l.drop (3 + 16 * nH l)).take 8) : Int),
  (List.range (nD l)).map (fun i => drlAtL (l.drop (13 + 16 * nH l + 11 * i))), [ofL ((l.drop (13 + 16 * nH l + 11 * nD l)).take 2), ofL ((l.drop (15 + 16 * nH l + 11 * nD l)).take 2)]⟩
/-- What the program asks. -/
def pdOk (l : List UInt8) : Bool := decide ((pdBun (l, false)).1.per ≤ 5 ∧ (pdBun (l, false)).1.line ≤ 3 ∧ 1 ≤ (pdBun (l, false)).1.hdrs.length ∧ (pdBun (l, false)).1.hdrs.length ≤ 6 ∧ (pdBun (l, false)).1.drls.length ≤ 72 ∧ (pdBun (l, false)).2.1 = [] ∧ (pdBun (l, false)).2.2 = false)
theorem pdBun_form (l : List UInt8) : (17 + 16 * nH l + 11 * nD l ≤ l.length → pdBun (l, false) = (bunL l, (l.drop (17 + 16 * nH l + 11 * nD l), false))) ∧ (l.length < 17 + 16 * nH l + 11 * nD l → (pdBun (l, false)).2.2 = true) := by
  by_cases h3 : 3 ≤ l.length
  case neg =>
    refine ⟨fun h => by omega, fun _ => ?_⟩
    unfold pdBun
    simp only
    refine pdMany_stuck _ _ (pdMany_stuck _ _ (dr_stuck _ (dr_stuck _ (pdMany_stuck _ _ ?_))))
    rw [dr_dr, dr_dr]
    exact dr_bad (by omega)
  have e1 : pdHs (dr 1 (dr 1 (l, false))) = pdMany pdHdr (nH l) (l.drop 3, false) := by
    unfold pdHs
    rw [dr_dr, dr_ok (by omega), dr_ok (by rw [List.length_drop]; omega), List.drop_drop]
    rfl
  obtain ⟨a1, a2⟩ := pdMany_fix pdHdr hdrAtL 16 pdHdr_eq (l.drop 3) (nH l)
  rw [List.length_drop] at a1 a2
  by_cases hH : 16 * nH l ≤ l.length - 3
  case neg =>
    refine ⟨fun h => by omega, fun _ => ?_⟩
    unfold pdBun
    simp only
    rw [e1]
    exact pdMany_stuck _ _ (pdMany_stuck _ _ (dr_stuck _ (dr_stuck _ (a2 (by omega)))))
  have b1 := a1 hH
  rw [List.drop_drop] at b1
  by_cases h10 : 13 + 16 * nH l ≤ l.length
  case neg =>
    refine ⟨fun h => by omega, fun _ => ?_⟩
    unfold pdBun
    simp only
    rw [e1, b1]
    refine pdMany_stuck _ _ (pdMany_stuck _ _ ?_)
    rw [dr_dr]
    exact dr_bad (by rw [List.length_drop]; omega)
  have e2 : pdDs (dr 8 (l.drop (3 + 16 * nH l), false)) = pdMany pdDrl (nD l) (l.drop (13 + 16 * nH l), false) := by
    unfold pdDs
    rw [dr_ok (by rw [List.length_drop]; omega), List.drop_drop, dr_ok (by rw [List.length_drop]; omega), List.drop_drop]
    have q1 : 3 + 16 * nH l + 8 = 11 + 16 * nH l := by omega
    have q2 : 3 + 16 * nH l + 8 + 2 = 13 + 16 * nH l := by omega
    rw [q2, q1]
    rfl
  obtain ⟨c1, c2⟩ := pdMany_fix pdDrl drlAtL 11 pdDrl_eq (l.drop (13 + 16 * nH l)) (nD l)
  rw [List.length_drop] at c1 c2
  by_cases hD : 11 * nD l ≤ l.length - (13 + 16 * nH l)
  case neg =>
    refine ⟨fun h => by omega, fun _ => ?_⟩
    unfold pdBun
    simp only
    rw [e1, b1]
    simp only
    rw [e2]
    exact pdMany_stuck _ _ (c2 (by omega))
  have d1 := c1 hD
  rw [List.drop_drop] at d1
  obtain ⟨p1, p2⟩ := pdMany_fix pdSum (fun l => ofL (l.take 2)) 2 (fun s => rfl) (l.drop (13 + 16 * nH l + 11 * nD l)) 2
  rw [List.length_drop] at p1 p2
  refine ⟨fun h => ?_, fun h => ?_⟩
  · have r1 := p1 (by omega)
    unfold pdBun bunL
    simp only
    rw [e1, b1]
    simp only
    rw [e2, d1]
    simp only
    rw [r1]
    simp only [List.drop_drop]
    refine Prod.ext ?_ ?_
    · simp only
      have w1 : pdOne (l, false) = numL (l.take 1) := rfl
      have w2 : pdOne (dr 1 (l, false)) = numL ((l.drop 1).take 1) := rfl
      have w3 : pdNum (l.drop (3 + 16 * nH l), false) = IntKind.i64.wrap (numL ((l.drop (3 + 16 * nH l)).take 8) : Int) := rfl
      rw [w1, w2, w3]
      have w4 : 13 + 16 * nH l + 11 * nD l + 2 * 1 = 15 + 16 * nH l + 11 * nD l := by omega
      have w5 : (List.range 2).map (fun i => ofL ((l.drop (13 + 16 * nH l + 11 * nD l + 2 * i)).take 2)) = [ofL ((l.drop (13 + 16 * nH l + 11 * nD l)).take 2), ofL ((l.drop (15 + 16 * nH l + 11 * nD l)).take 2)] := by
        rw [← w4]; rfl
      rw [w5]
    · simp only
      have w4 : 13 + 16 * nH l + 11 * nD l + 2 * 2 = 17 + 16 * nH l + 11 * nD l := by omega
      rw [w4]
  · unfold pdBun
    simp only
    rw [e1, b1]
    simp only
    rw [e2, d1]
    exact p2 (by omega)
/-- What the program asks is the form; and what it reads is what stands there. -/
theorem pdOk_form (l : List UInt8) : pdOk l = formL l ∧ (formL l = true → (pdBun (l, false)).1 = bunL l) := by
  obtain ⟨h1, h2⟩ := pdBun_form l
  by_cases h : 17 + 16 * nH l + 11 * nD l ≤ l.length
  · have e := h1 h
    refine ⟨?_, fun _ => by rw [e]⟩
    unfold pdOk formL
    rw [e]
    simp only
    rw [Bool.eq_iff_iff, decide_eq_true_eq, decide_eq_true_eq]
    unfold bunL
    simp only [List.length_map, List.length_range, List.drop_eq_nil_iff, and_true]
    omega
  · have e := h2 (by omega)
    refine ⟨?_, fun hf => ?_⟩
    · unfold pdOk formL
      rw [e]
      rw [Bool.eq_iff_iff, decide_eq_true_eq, decide_eq_true_eq]
      constructor
      · intro k; simp at k
      · intro k; omega
    · unfold formL at hf
      rw [decide_eq_true_eq] at hf
      omega

/-! ### What is looked for (P10) -/
def hG (b : Bun) (i : Nat) : Hdr := b.hdrs.getD i hdr0
def amtsD (l : List Drl) : Int := l.foldl (fun s d => s + d.amt) 0
def lineT (b : Bun) : Txt := lineB b.line b.total b.drls
def numbered (b : Bun) : Bool := decide (∀ i, i < b.hdrs.length → (hG b i).mark = headT ∧ (hG b i).num = ((b.per + i : Nat) : Int))
def chained (b : Bun) : Bool := decide (∀ i, i < b.hdrs.length - 1 → (hG b (i + 1)).ahead = sumB (hdrB (hG b i)))
def leadsHead (b : Bun) (hd : Txt) : Bool := decide (sumB (hdrB (hG b (b.hdrs.length - 1))) = hd)
def leadsStmt (b : Bun) : Bool := decide (climb (lineT b) b.line 4 b.path = (hG b 0).stat)
def isTotal (b : Bun) : Bool := decide (amtsD b.drls = b.total)
def lookOk (b : Bun) (hd : Txt) : Bool := numbered b && chained b && leadsHead b hd && leadsStmt b && isTotal b
/-- Look's error of a text under a head. -/
def lookErr (t hd : Txt) : Int := if formL (tx t) = true then (if lookOk (bunL (tx t)) hd = true then 0 else 6) else 5
theorem lookErr_ok {t hd : Txt} (h : lookErr t hd = 0) : formL (tx t) = true ∧ lookOk (bunL (tx t)) hd = true := by
  unfold lookErr at h
  by_cases h1 : formL (tx t) = true
  · rw [if_pos h1] at h
    by_cases h2 : lookOk (bunL (tx t)) hd = true
    · exact ⟨h1, h2⟩
    · rw [if_neg h2] at h; simp at h
  · rw [if_neg h1] at h; simp at h
/-- A bundle that can come up. -/
structure Bun.Fine (b : Bun) : Prop where
  per : b.per ≤ 5
  line : b.line ≤ 3
  hdrs : 1 ≤ b.hdrs.length ∧ b.hdrs.length ≤ 6
  fixed : ∀ h ∈ b.hdrs, h.Fixed
  total : fits b.total = true
  many : b.drls.length ≤ 72
  drls : ∀ d ∈ b.drls, d.ent ≤ 255 ∧ d.place ≤ 255 ∧ (0 ≤ d.acct ∧ d.acct ≤ 255) ∧ fits d.amt = true
  path : ∃ p q, b.path = [p, q] ∧ p.size = 2 ∧ q.size = 2
theorem hdrAtL_fixed {l : List UInt8} (h : 16 ≤ l.length) : (hdrAtL l).Fixed := by
  have o1 := one_lt (l.drop 4)
  have o2 := one_lt (l.drop 9)
  unfold hdrAtL
  refine ⟨?_, ?_, ?_, ?_, ?_, ?_, ?_, ?_⟩
  · simp only [ofL_size, List.length_take]; omega
  · simp only; omega
  · simp only [ofL_size, List.length_take, List.length_drop]; omega
  · simp only [ofL_size, List.length_take, List.length_drop]; omega
  · simp only; omega
  · simp only [ofL_size, List.length_take, List.length_drop]; omega
  · simp only [ofL_size, List.length_take, List.length_drop]; omega
  · simp only [ofL_size, List.length_take, List.length_drop]; omega
theorem bunL_fine {l : List UInt8} (h : formL l = true) : (bunL l).Fine := by
  unfold formL at h
  rw [decide_eq_true_eq] at h
  obtain ⟨f1, f2, f3, f4, f5, f6⟩ := h
  unfold bunL
  refine ⟨f1, f2, by simp only [List.length_map, List.length_range]; omega, fun x hx => ?_, fits_wrap _, by simp only [List.length_map, List.length_range]; omega, fun d hd => ?_, ⟨_, _, rfl, ?_, ?_⟩⟩
  · obtain ⟨i, hi, rfl⟩ := List.mem_map.1 hx
    have := List.mem_range.1 hi
    exact hdrAtL_fixed (by rw [List.length_drop]; omega)
  · obtain ⟨i, hi, rfl⟩ := List.mem_map.1 hd
    unfold drlAtL
    have o1 := one_lt (l.drop (13 + 16 * nH l + 11 * i))
    have o2 := one_lt ((l.drop (13 + 16 * nH l + 11 * i)).drop 1)
    have o3 := one_lt ((l.drop (13 + 16 * nH l + 11 * i)).drop 2)
    exact ⟨by simp only; omega, by simp only; omega, by simp only; omega, fits_wrap _⟩
  · simp only [ofL_size, List.length_take, List.length_drop]; omega
  · simp only [ofL_size, List.length_take, List.length_drop]; omega

/-! ### A bundle is read as it was laid -/
theorem tx_hdrB (h : Hdr) : tx (hdrB h) = tx h.mark ++ (beL h.num 1 ++ (tx h.ahead ++ (tx h.chart ++ (beL h.ents 1 ++ (tx h.jour ++ (tx h.stat ++ tx h.bals)))))) := by
  unfold hdrB
  simp only [tx_append, tx_beB, List.append_assoc]
theorem dr_txt' {b : ByteArray} {k : Nat} (h : b.size = k) (r : List UInt8) : dr k (tx b ++ r, false) = (r, false) := by rw [← h]; exact dr_txt b r
theorem pdTxt_txt {b : ByteArray} {k : Nat} (h : b.size = k) (r : List UInt8) : pdTxt k (tx b ++ r, false) = b := by
  unfold pdTxt
  simp only
  rw [← h, take_txt, ofL_tx]
theorem pdHdr_back {h : Hdr} (f : h.Fixed) (r : List UInt8) : pdHdr (tx (hdrB h) ++ r, false) = (h, (r, false)) := by
  unfold pdHdr
  simp only
  rw [tx_hdrB]
  simp only [List.append_assoc]
  rw [dr_txt' f.mark, dr_beL, dr_txt' f.ahead, dr_txt' f.chart, dr_beL, dr_txt' f.jour, dr_txt' f.stat, dr_txt' f.bals]
  rw [pdTxt_txt f.mark, pdTxt_txt f.ahead, pdTxt_txt f.chart, pdTxt_txt f.jour, pdTxt_txt f.stat, pdTxt_txt f.bals, pdOne_int f.num, pdOne_int f.ents]
theorem tx_drlB (d : Drl) : tx (drlB d) = beL d.ent 1 ++ (beL d.place 1 ++ (beL d.acct 1 ++ beL d.amt 8)) := by
  unfold drlB
  simp only [tx_append, tx_beB, List.append_assoc]
theorem pdDrl_back {d : Drl} (h : d.ent ≤ 255 ∧ d.place ≤ 255 ∧ (0 ≤ d.acct ∧ d.acct ≤ 255) ∧ fits d.amt = true) (r : List UInt8) : pdDrl (tx (drlB d) ++ r, false) = (d, (r, false)) := by
  unfold pdDrl
  simp only
  rw [tx_drlB]
  simp only [List.append_assoc]
  rw [dr_beL, dr_beL, dr_beL, dr_beL, pdOne_beL (by omega), pdOne_beL (by omega), pdOne_int (by omega), pdNum_beL h.2.2.2]
theorem pdTwo_beL {n : Nat} (h : n < 65536) (r : List UInt8) : pdTwo (beL (n : Int) 2 ++ r, false) = n := by
  unfold pdTwo
  simp only
  rw [take_beL, numL_beL]
  have : ((n : Int) % 18446744073709551616).toNat = n := by omega
  rw [this]
  omega
theorem pdBun_back {b : Bun} (f : b.Fine) : pdBun (tx (bunB b), false) = (b, ([], false)) := by
  obtain ⟨p, q, ep, hp, hq⟩ := f.path
  have f1 := f.per
  have f2 := f.line
  have f3 := f.hdrs
  have f4 := f.many
  have et : tx (bunB b) = beL b.per 1 ++ (beL b.line 1 ++ (beL b.hdrs.length 1 ++ (b.hdrs.flatMap (fun h => tx (hdrB h)) ++ (beL b.total 8 ++ (beL b.drls.length 2 ++ (b.drls.flatMap (fun d => tx (drlB d)) ++ (tx p ++ (tx q ++ [])))))))) := by
    unfold bunB
    simp only [tx_append, tx_beB, tx_join, ep, List.flatMap_map, List.flatMap_cons, List.flatMap_nil, List.append_assoc]
  have m2 := pdMany_back pdSum tx id [p, q] (fun x hx r => by
    have hs : x.size = 2 := by simp at hx; rcases hx with rfl | rfl <;> assumption
    unfold pdSum
    rw [pdTxt_txt hs, dr_txt' hs]; rfl) []
  have e2 : [p, q].flatMap tx ++ [] = tx p ++ (tx q ++ []) := by simp
  rw [e2] at m2
  unfold pdBun pdHs pdDs
  simp only
  rw [et, dr_beL, dr_beL, dr_beL, pdOne_beL (by omega), pdOne_beL (by omega), pdOne_beL (by omega)]
  rw [pdMany_back pdHdr (fun h => tx (hdrB h)) id b.hdrs (fun x hx r => pdHdr_back (f.fixed x hx) r)]
  simp only
  rw [dr_beL, dr_beL, pdNum_beL f.total, pdTwo_beL (by omega)]
  rw [pdMany_back pdDrl (fun d => tx (drlB d)) id b.drls (fun x hx r => pdDrl_back (f.drls x hx) r)]
  simp only
  rw [show ([p, q] : List Txt).length = 2 from rfl] at m2
  rw [m2]
  simp only [List.map_id, ← ep]
/-- A bundle that was laid has the form, and is read as it was. -/
theorem bunB_read {b : Bun} (f : b.Fine) : formL (tx (bunB b)) = true ∧ bunL (tx (bunB b)) = b := by
  obtain ⟨h1, h2⟩ := pdOk_form (tx (bunB b))
  have e := pdBun_back f
  have hok : pdOk (tx (bunB b)) = true := by
    unfold pdOk
    rw [e, decide_eq_true_eq]
    exact ⟨f.per, f.line, f.hdrs.1, f.hdrs.2, f.many, rfl, rfl⟩
  have hf : formL (tx (bunB b)) = true := by rw [← h1]; exact hok
  refine ⟨hf, ?_⟩
  rw [← h2 hf, e]
theorem lookErr_bun {b : Bun} (f : b.Fine) (hd : Txt) : lookErr (bunB b) hd = if lookOk b hd = true then 0 else 6 := by
  obtain ⟨h1, h2⟩ := bunB_read f
  unfold lookErr
  rw [if_pos h1, h2]

/-! ### Two lines under one head (P12) -/
/-- Bundle.Summed. -/
def summedL (b : Bun) : List Txt := (b.hdrs.map hdrB).reverse ++ (climbTs (lineT b) b.line 4 b.path).reverse ++ ofRoot (b.drls.map drlB)
theorem snoc_of {l : List Txt} {n : Nat} (h : l.length = n + 1) : ∃ r x, l = r ++ [x] ∧ r.length = n := by
  have hne : l ≠ [] := by intro e; rw [e] at h; simp at h
  exact ⟨l.dropLast, l.getLast hne, (List.dropLast_concat_getLast hne).symm, by rw [List.length_dropLast]; omega⟩
theorem climbTs_cl (x y : Txt) : ∀ (m i n : Nat) (p q : List Txt), n ≤ m → p.length = depth i n → q.length = depth i n → (∀ s ∈ p, s.size = 2) → (∀ s ∈ q, s.size = 2) → climb x i n p = climb y i n q → (x = y ∧ p = q) ∨ Cl (climbTs x i n p).reverse (climbTs y i n q).reverse
  | m, i, n, p, q, hm, hp, hq, sp, sq, hc => by
    by_cases h1 : n ≤ 1
    · rw [climbTs_one x h1, climbTs_one y h1]
      rw [climb_one x h1, climb_one y h1] at hc
      by_cases e : leafT x = leafT y
      · left
        rw [depth_one h1] at hp hq
        exact ⟨leafT_inj e, by rw [List.eq_nil_of_length_eq_zero hp, List.eq_nil_of_length_eq_zero hq]⟩
      · right; exact Cl.ne e hc _ _
    match m, hm with
    | 0, hm => omega
    | m + 1, hm =>
    have h2 : 2 ≤ n := by omega
    have a := halfN_lt h2
    have b := halfN_pos n
    by_cases hi : i < halfN n
    · rw [depth_left h2 hi] at hp hq
      obtain ⟨p', u, rfl, hp'⟩ := snoc_of hp
      obtain ⟨q', v, rfl, hq'⟩ := snoc_of hq
      rw [climb_left x h2 hi, climb_left y h2 hi] at hc
      rw [climbTs_left x h2 hi, climbTs_left y h2 hi, List.reverse_append, List.reverse_append]
      by_cases e : nodeT (climb x i (halfN n) p') u = nodeT (climb y i (halfN n) q') v
      · obtain ⟨e1, e2⟩ := nodeT_inj e (climb_size _ _ _ _) (climb_size _ _ _ _)
        rcases climbTs_cl x y m i (halfN n) p' q' (by omega) hp' hq' (fun s hs => sp s (by simp [hs])) (fun s hs => sq s (by simp [hs])) e1 with k | k
        · left; exact ⟨k.1, by rw [k.2, e2]⟩
        · right; rw [e]; exact k.under _
      · right; exact Cl.ne e hc _ _
    · rw [depth_right h2 hi] at hp hq
      obtain ⟨p', u, rfl, hp'⟩ := snoc_of hp
      obtain ⟨q', v, rfl, hq'⟩ := snoc_of hq
      rw [climb_right x h2 hi, climb_right y h2 hi] at hc
      rw [climbTs_right x h2 hi, climbTs_right y h2 hi, List.reverse_append, List.reverse_append]
      by_cases e : nodeT u (climb x (i - halfN n) (n - halfN n) p') = nodeT v (climb y (i - halfN n) (n - halfN n) q')
      · obtain ⟨e1, e2⟩ := nodeT_inj e (sp u (by simp)) (sq v (by simp))
        rcases climbTs_cl x y m (i - halfN n) (n - halfN n) p' q' (by omega) hp' hq' (fun s hs => sp s (by simp [hs])) (fun s hs => sq s (by simp [hs])) e2 with k | k
        · left; exact ⟨k.1, by rw [k.2, e1]⟩
        · right; rw [e]; exact k.under _
      · right; exact Cl.ne e hc _ _
theorem drlB_inj {d e : Drl} (h : d.ent ≤ 255 ∧ d.place ≤ 255 ∧ (0 ≤ d.acct ∧ d.acct ≤ 255) ∧ fits d.amt = true) (g : e.ent ≤ 255 ∧ e.place ≤ 255 ∧ (0 ≤ e.acct ∧ e.acct ≤ 255) ∧ fits e.amt = true) (k : drlB d = drlB e) : d = e := by
  have a := pdDrl_back h []
  have b := pdDrl_back g []
  rw [k, b] at a
  exact (congrArg Prod.fst a).symm
theorem drls_inj : ∀ (l k : List Drl), (∀ d ∈ l, d.ent ≤ 255 ∧ d.place ≤ 255 ∧ (0 ≤ d.acct ∧ d.acct ≤ 255) ∧ fits d.amt = true) → (∀ d ∈ k, d.ent ≤ 255 ∧ d.place ≤ 255 ∧ (0 ≤ d.acct ∧ d.acct ≤ 255) ∧ fits d.amt = true) → l.map drlB = k.map drlB → l = k
  | [], [], _, _, _ => rfl
  | [], _ :: _, _, _, h => by simp at h
  | _ :: _, [], _, _, h => by simp at h
  | d :: l, e :: k, h1, h2, h => by
    simp only [List.map_cons, List.cons.injEq] at h
    rw [drlB_inj (h1 d (by simp)) (h2 e (by simp)) h.1, drls_inj l k (fun x hx => h1 x (by simp [hx])) (fun x hx => h2 x (by simp [hx])) h.2]
theorem two_inj {a b : Nat} (ha : a < 65536) (hb : b < 65536) (h : beB (a : Int) 2 = beB (b : Int) 2) : a = b := by
  have e := congrArg tx h
  rw [tx_beB, tx_beB] at e
  have x := pdTwo_beL ha []
  rw [e, pdTwo_beL hb] at x
  exact x.symm
theorem lineB_inj {k : Int} {s t : Int} {d e : List Drl} (hs : fits s = true) (ht : fits t = true) (hd : d.length ≤ 72) (he : e.length ≤ 72) (h : lineB k s d = lineB k t e) : s = t ∧ d.length = e.length ∧ root (d.map drlB) = root (e.map drlB) := by
  unfold lineB at h
  obtain ⟨h, h4⟩ := cat_inj h (by simp only [ByteArray.size_append, beB_size])
  obtain ⟨h, h3⟩ := cat_inj h (by simp only [ByteArray.size_append, beB_size])
  obtain ⟨h, h2⟩ := cat_inj h (by simp only [beB_size])
  exact ⟨beB_eight_inj hs ht h2, two_inj (by omega) (by omega) h3, h4⟩
theorem chR (b : Bun) (f : ∀ h ∈ b.hdrs, h.Fixed) (hn : numbered b = true) (hc : chained b = true) : ∀ k, k ≤ b.hdrs.length → Ch (b.per : Int) (b.hdrs.take k).reverse
  | 0, _ => by simp [Ch]
  | k + 1, hk => by
    unfold numbered at hn
    unfold chained at hc
    have hn' := of_decide_eq_true hn
    have hc' := of_decide_eq_true hc
    have hk' : k < b.hdrs.length := by omega
    have g : ∀ j (hj : j < b.hdrs.length), hG b j = b.hdrs[j] := fun j hj => by unfold hG; rw [List.getD_eq_getElem?_getD, List.getElem?_eq_getElem hj]; rfl
    rw [List.take_succ_eq_append_getElem hk', List.reverse_append]
    show Ch (b.per : Int) (b.hdrs[k] :: (b.hdrs.take k).reverse)
    refine ⟨f _ (List.getElem_mem hk'), ?_, ?_, chR b f hn hc k (by omega)⟩
    · have := (hn' k hk').2
      rw [g k hk'] at this
      rw [this, List.length_reverse, List.length_take]
      omega
    · intro y hy
      match k, hy, hk', hk with
      | 0, hy, _, _ => simp at hy
      | j + 1, hy, hk', hk =>
        have hj : j < b.hdrs.length := by omega
        rw [List.take_succ_eq_append_getElem hj, List.reverse_append] at hy
        have : b.hdrs[j] = y := by simpa using hy
        have k1 := hc' j (by omega)
        rw [g j hj, g (j + 1) hk'] at k1
        rw [← this, k1]
theorem depth4 {i : Nat} (h : i ≤ 3) : depth i 4 = 2 := by
  match i, h with
  | 0, _ => decide
  | 1, _ => decide
  | 2, _ => decide
  | 3, _ => decide
/-- WHOEVER SHOWS TWO DIFFERENT LINES OF A PERIOD UNDER ONE HEAD HAS SHOWN TWO TEXTS WITH ONE SUM. -/
theorem clash_lines {b c : Bun} {hd : Txt} (fb : b.Fine) (fc : c.Fine) (lb : lookOk b hd = true) (lc : lookOk c hd = true) (hp : b.per = c.per) (hl : b.line = c.line) (hne : ¬ (b.total = c.total ∧ b.drls = c.drls)) : Cl (summedL b) (summedL c) := by
  unfold lookOk at lb lc
  simp only [Bool.and_eq_true] at lb lc
  obtain ⟨⟨⟨⟨b1, b2⟩, b3⟩, b4⟩, _⟩ := lb
  obtain ⟨⟨⟨⟨c1, c2⟩, c3⟩, c4⟩, _⟩ := lc
  have hb := chR b fb.fixed b1 b2 b.hdrs.length (Nat.le_refl _)
  have hc := chR c fc.fixed c1 c2 c.hdrs.length (Nat.le_refl _)
  rw [List.take_length] at hb hc
  rw [← hp] at hc
  have nb := fb.hdrs
  have nc := fc.hdrs
  have last : ∀ (e : Bun), 1 ≤ e.hdrs.length → ∃ r, e.hdrs.reverse = hG e (e.hdrs.length - 1) :: r := fun e he => by
    have hne : e.hdrs ≠ [] := by intro h; rw [h] at he; simp at he
    refine ⟨e.hdrs.dropLast.reverse, ?_⟩
    have k := List.dropLast_concat_getLast hne
    have k2 : hG e (e.hdrs.length - 1) = e.hdrs.getLast hne := by
      unfold hG
      rw [List.getD_eq_getElem?_getD, List.getElem?_eq_getElem (by omega), List.getLast_eq_getElem hne]
      rfl
    rw [k2]
    conv => lhs; rw [← k]
    simp
  obtain ⟨rb, eb⟩ := last b nb.1
  obtain ⟨rc, ec⟩ := last c nc.1
  have s : sumB (hdrB (hG b (b.hdrs.length - 1))) = sumB (hdrB (hG c (c.hdrs.length - 1))) := by
    unfold leadsHead at b3 c3
    rw [of_decide_eq_true b3, of_decide_eq_true c3]
  rw [eb] at hb
  rw [ec] at hc
  have key := ch_cl (b.per : Int) rb rc _ _ hb hc s
  rw [← eb, ← ec] at key
  unfold summedL
  rw [← List.map_reverse, ← List.map_reverse]
  rcases key with key | key
  · rw [key]
    have eh : b.hdrs = c.hdrs := by
      have := congrArg List.reverse key
      simpa using this
    rw [List.append_assoc, List.append_assoc]
    refine Cl.under ?_ _
    obtain ⟨p, q, ep, sp, sq⟩ := fb.path
    obtain ⟨p', q', ep', sp', sq'⟩ := fc.path
    have hcl : climb (lineT b) b.line 4 b.path = climb (lineT c) b.line 4 c.path := by
      unfold leadsStmt at b4 c4
      rw [of_decide_eq_true b4, hl, of_decide_eq_true c4]
      unfold hG
      rw [eh]
    have hd4 := depth4 fb.line
    rw [← hl]
    rcases climbTs_cl (lineT b) (lineT c) 4 b.line 4 b.path c.path (by omega) (by rw [ep, hd4]; rfl) (by rw [ep', hd4]; rfl) (by rw [ep]; intro s hs; simp at hs; rcases hs with rfl | rfl <;> assumption) (by rw [ep']; intro s hs; simp at hs; rcases hs with rfl | rfl <;> assumption) hcl with k | k
    · obtain ⟨kT, kP⟩ := k
      have kT' := kT
      unfold lineT at kT'
      rw [← hl] at kT'
      obtain ⟨k1, k2, k3⟩ := lineB_inj fb.total fc.total fb.many fc.many kT'
      rcases ofRoot_cl (l := b.drls.map drlB) (k := c.drls.map drlB) (by rw [List.length_map, List.length_map]; exact k2) k3 with j | j
      · exfalso
        exact hne ⟨k1, drls_inj _ _ fb.drls fc.drls j⟩
      · rw [kT, kP]
        exact j.under _
    · exact k.app _ _
  · exact ((key.app _ _).app _ _)
end Go.Proofs.YtpkkhkkkgjhkeabGreat.Sg
