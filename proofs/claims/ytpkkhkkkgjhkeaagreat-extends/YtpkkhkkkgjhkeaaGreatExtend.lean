import Derived.Test.YtpkkhkkkgjhkeaaGreatDecode
/-
  THE WALK of seal.Extend.
-/
namespace Go.Proofs.YtpkkhkkkgjhkeaaGreat
open Go.RowKit
set_option maxRecDepth 100000
attribute [local go_sem ↓] Go.wp_at_zero Go.wp_at_succ

/-- What Seal asks of a period. -/
def PerSizes (p : List Sg.Ent) : Prop := (p.length ≤ 140737488355328 ∧ ∀ e ∈ p, e.memo.size ≤ 140737488355328 ∧ e.posts.length ≤ 140737488355328) ∧ ∀ e ∈ p, ∀ t ∈ e.posts, Sg.fits t.acct = true ∧ Sg.fits t.amt = true
/-- A history with a period more. -/
def Sg.plus (h : Sg.Hist) (p : List Sg.Ent) : Sg.Hist := ⟨h.accs, h.pers ++ [p]⟩
theorem snoc_last {α : Type} (l : List α) (x : α) (i : Nat) (hi : i < (l ++ [x]).length) (e : l.length = i) : (l ++ [x])[i] = x := by subst e; simp
theorem snoc_old {α : Type} (l : List α) (x : α) (i : Nat) (hi : i < (l ++ [x]).length) (h : i < l.length) : (l ++ [x])[i] = l[i] := List.getElem_append_left h
theorem ext_hist {X w5 : World} {B hb g cap' nA nP capA capX : Nat} {aoA aoX : Option Addr} {vP : Value} {h : Sg.Hist} {p : List Sg.Ent} {us : List Value} {aoP0 : Option Addr} {W0 : World} (hH : HistIn W0 aoA aoP0 nA nP h) (hA : OwnA X B (.slice aoA nA capA) h.accs) (hul : us.length = h.pers.length) (hrow : X.ownsRow B 24 1 vP nP us) (hus : ∀ i (h1 : i < h.pers.length) (h2 : i < us.length), OwnE X B us[i] h.pers[i]) (hbox : Two X hb (.slice aoA nA capA) vP 36)
    (hg : X.grownBy w5 vP.ownBlock) (hown5 : w5.ownsRow B 24 1 (.slice (some ⟨g, 0, none⟩) (nP + 1) cap') (nP + 1) (us ++ [.slice aoX p.length capX]))
    (hE : EntsIn (w5.setCell ⟨hb, 1, none⟩ (.slice (some ⟨g, 0, none⟩) (nP + 1) cap')) aoX p) (hp : PerSizes p) :
    Two w5 hb (.slice aoA nA capA) vP 36 ∧ HistIn (w5.setCell ⟨hb, 1, none⟩ (.slice (some ⟨g, 0, none⟩) (nP + 1) cap')) aoA (some ⟨g, 0, none⟩) nA (nP + 1) (Sg.plus h p) := by
  have hk := keptT_append hrow hg
  have box5 : Two w5 hb (.slice aoA nA capA) vP 36 := hk _ _ _ _ hbox (by decide)
  have hk6 : KeptT 36 w5 (w5.setCell ⟨hb, 1, none⟩ (.slice (some ⟨g, 0, none⟩) (nP + 1) cap')) := keptT_setCell box5
  have hA6 := (hA.keptT hk (by decide)).keptT hk6 (by decide)
  have hrow6 := ownsRow_keptT hown5 hk6 (by decide)
  obtain ⟨ao', cp', e', _, _, hin⟩ := hA6.in_
  simp only [Value.slice.injEq] at e'
  obtain ⟨rfl, _, _⟩ := e'
  have hgl : g < (w5.setCell ⟨hb, 1, none⟩ (.slice (some ⟨g, 0, none⟩) (nP + 1) cap')).heap.size := by
    obtain ⟨g', c', e, _, hlt⟩ := hrow6.form (by omega)
    simp only [Value.slice.injEq, Option.some.injEq, Addr.mk.injEq, and_true, true_and] at e
    obtain ⟨rfl, _⟩ := e
    exact hlt
  have hlP := hH.lenP
  refine ⟨box5, hin, ?_, hH.lenA, by show (h.pers ++ [p]).length = nP + 1; rw [List.length_append, hlP]; rfl, hH.sizA, fun q hq => ?_, fun q hq => ?_⟩
  · refine Or.inr ⟨g, 0, rfl, hgl, fun i hi => ?_⟩
    have hi' : i < nP + 1 := by
      have : (h.pers ++ [p]).length = nP + 1 := by rw [List.length_append, hlP]; rfl
      rw [← this]; exact hi
    rw [Nat.zero_add, World.ownsRow.cellAt hrow6 i (by omega)]
    by_cases e : i = nP
    · subst e
      have e1 : (Sg.plus h p).pers[i]'hi = p := snoc_last h.pers p i hi hlP
      refine ⟨aoX, capX, ?_, ?_⟩
      · rw [e1, List.getElem?_append_right (by omega), hul, hlP, Nat.sub_self]; rfl
      · rw [e1]; exact hE
    · have hii : i < h.pers.length := by omega
      have e1 : (Sg.plus h p).pers[i]'hi = h.pers[i] := snoc_old h.pers p i hi hii
      obtain ⟨ao', c', e2, _, _, h3⟩ := (((hus i hii (by omega)).keptT hk (by decide) (by decide)).keptT hk6 (by decide) (by decide)).in_
      refine ⟨ao', c', ?_, ?_⟩
      · rw [e1, List.getElem?_append_left (by omega), List.getElem?_eq_getElem (by omega), e2]
      · rw [e1]; exact h3
  · rcases List.mem_append.1 hq with hq | hq
    · exact hH.sizP q hq
    · simp at hq; subst hq; exact hp.1
  · rcases List.mem_append.1 hq with hq | hq
    · exact hH.sizQ q hq
    · simp at hq; subst hq; exact hp.2

set_option maxHeartbeats 3200000 in
/-- seal.Extend. -/
theorem extend_any (t : ByteArray) (p : List Sg.Ent) (aoX : Option Addr) (nX capX : Nat) (w : World) (hE : EntsIn w aoX p) (hn : p.length = nX) (hp : PerSizes p) :
    Calls Tryz.prog 7 #[.string t, .agg #[.slice aoX nX capX]] w fun e w' => Below w.heap.size w w' ∧
      ((¬ Sg.isPk (Sg.pdHist (Sg.tx t)) t ∧ e = .returned (.tuple #[.string ByteArray.empty, .string ByteArray.empty, .int .i64 5])) ∨
       (Sg.isPk (Sg.pdHist (Sg.tx t)) t ∧ e = .returned (.tuple #[.string (Sg.package (Sg.plus (Sg.pdHist (Sg.tx t)) p)), .string (Sg.headOf (Sg.plus (Sg.pdHist (Sg.tx t)) p)), .int .i64 (Sg.closeErr (Sg.plus (Sg.pdHist (Sg.tx t)) p))]))) := by
  obtain ⟨p0, pi, pz0, pz1, pz2⟩ := info_parts Tryz.infoPer1
  obtain ⟨h, hh⟩ : ∃ h, Sg.pdHist (Sg.tx t) = h := ⟨_, rfl⟩
  have hcall := fun W => decode_any t W
  rw [hh] at hcall ⊢
  clear hh
  obtain ⟨pk, hpk⟩ : ∃ k, Sg.package (Sg.plus h p) = k := ⟨_, rfl⟩
  obtain ⟨hd, hhd⟩ : ∃ k, Sg.headOf (Sg.plus h p) = k := ⟨_, rfl⟩
  obtain ⟨ee, hee⟩ : ∃ k, Sg.closeErr (Sg.plus h p) = k := ⟨_, rfl⟩
  rw [hpk, hhd, hee]
  have HPk : Hid (Sg.package (Sg.plus h p) = pk ∧ Sg.headOf (Sg.plus h p) = hd ∧ Sg.closeErr (Sg.plus h p) = ee) := ⟨hpk, hhd, hee⟩
  clear hpk hhd hee
  have HE : Hid (EntsIn w aoX p) := hE
  have HN : Hid (p.length = nX) := hn
  have HP : Hid (PerSizes p) := hp
  clear hE hn hp
  have a0 : Below w.heap.size w (w.alloc (.cells #[.slice aoX nX capX] 24)) := (Below.refl _ _).alloc (Nat.le_refl _) _
  have hT : (w.alloc (.cells #[.slice aoX nX capX] 24)).heap[w.heap.size]? = some (.cells #[.slice aoX nX capX] 24 (0, 0)) := heap_alloc_new w _
  have e0 : (w.alloc (.cells #[.slice aoX nX capX] 24)).heap.size = w.heap.size + 1 := by simp
  go_enter Tryz.func7, Tryz.ntmps7
  go_wp2_with fail
  refine (hcall _).mono ?_
  clear hcall
  rintro e w2 ⟨hb2, hcase⟩
  have hT2 := (hb2.block _ (lt_of_block hT)).trans hT
  have b2 := a0.trans (hb2.mono a0.size)
  rw [e0] at hcase
  clear hT a0 hb2 e0
  rcases hcase with ⟨hn, rfl⟩ | ⟨hy, aoA, nA, capA, aoP, nP, capP, rfl, hcc, hH, hOA, hOP⟩
  · have HNo : Hid (¬ Sg.isPk h t) := hn
    clear hn
    go_wp2_with fail
    refine bodyPost_ret (v := .tuple #[.string ByteArray.empty, .string ByteArray.empty, .int .i64 5]) (by simp [results, Tryz.results7, go_sem]; rfl) rfl ⟨b2.alloc b2.size _, Or.inl ⟨HNo.out, rfl⟩⟩
  · obtain ⟨us, hul, hrow, hus⟩ := hOP.own
    have hlP := hH.lenP
    rw [hlP] at hrow
    have aB : Below w2.heap.size w2 ((w2.alloc (.cells #[.slice aoA nA capA, .slice aoP nP capP] 36)).alloc (.cells #[.slice aoX nX capX] 24)) := ((Below.refl _ _).alloc (Nat.le_refl _) _).alloc (by simp) _
    have hbox : Two ((w2.alloc (.cells #[.slice aoA nA capA, .slice aoP nP capP] 36)).alloc (.cells #[.slice aoX nX capX] 24)) w2.heap.size (.slice aoA nA capA) (.slice aoP nP capP) 36 := (Two.new w2 _ _ _).below ((Below.refl _ _).alloc (Nat.le_refl _) _)
    have px0 : w2.cell? ⟨w.heap.size, 0, none⟩ = some (.slice aoX nX capX) := by rw [cell_of_row w2 _ 0 _ _ _ hT2]; rfl
    have hlt2 : w.heap.size < w2.heap.size := lt_of_block hT2
    have HA : Hid (OwnA ((w2.alloc (.cells #[.slice aoA nA capA, .slice aoP nP capP] 36)).alloc (.cells #[.slice aoX nX capX] 24)) (w.heap.size + 1) (.slice aoA nA capA) h.accs) := hOA.below aB
    have HUs : Hid (∀ i (h1 : i < h.pers.length) (h2 : i < us.length), OwnE ((w2.alloc (.cells #[.slice aoA nA capA, .slice aoP nP capP] 36)).alloc (.cells #[.slice aoX nX capX] 24)) (w.heap.size + 1) us[i] h.pers[i]) := fun i k1 k2 => (hus i k1 k2).below aB
    have hn6 : nP ≤ 6 := by
      have hc := hy.1
      have hi : Sg.inBounds h = true := by
        cases hb : Sg.inBounds h with
        | true => rfl
        | false => unfold Sg.closeErr at hc; rw [hb] at hc; simp at hc
      unfold Sg.inBounds at hi
      simp only [Bool.and_eq_true, decide_eq_true_eq] at hi
      omega
    have HH : Hid (HistIn w2 aoA aoP nA nP h) := hH
    have HUL : Hid (us.length = h.pers.length) := hul
    have HY : Hid (Sg.isPk h t) := hy
    have HCC : Hid (nA ≤ capA ∧ capA ≤ 9223372036854775807) := hcc
    clear hOA hus hH hul hy hcc hlP
    go_wp2_with (at_builtin; (refine wpList_append_lies _ rfl _ _ 34 rfl (w.heap.size + 1) 24 p0 (.agg #[.slice none 0 0]) 1 24 Tryz.underlying34 pi pz0 pz1 pz2 rfl (by decide) (.slice aoP nP capP) nP us rfl ((hrow.alloc _).alloc _) ⟨w2.heap.size + 1, 0, none⟩ 1 1 [.slice aoX nX capX] rfl rfl (World.news_of_block (cs := #[.slice aoX nX capX]) (t := 24) (fr := (0, 0)) (new_block2 w2 _ _ _)) (by intro u hu; simp at hu; subst hu; rfl) (by omega) (by unfold maxLen; omega) (by omega) (by simp; omega) (w2.heap.size + 2) (by simp) ?_))
    intro g cap' w5 hown5 hgrow _ hlt5
    have b3 := b2.trans (aB.mono b2.size)
    have b5 : Below w.heap.size w w5 := b3.grown hgrow b3.size (fun q hq => by have := (World.ownsRow.lt hrow q hq).1; omega)
    have b6 : Below w.heap.size w (w5.setCell ⟨w2.heap.size, 1, none⟩ (.slice (some ⟨g, 0, none⟩) (nP + 1) cap')) := b5.setCell (by show _ ≤ w2.heap.size; omega) _
    obtain ⟨box5, hH6⟩ := ext_hist (p := p) (capX := capX) (aoX := aoX) HH.out HA.out HUL.out ((hrow.alloc _).alloc _) HUs.out hbox hgrow (by rw [HN.out]; exact hown5) (HE.out.below b6) HP.out
    obtain ⟨by0, by1⟩ := box5.cells
    have bf1 : w5.frozen? ⟨w2.heap.size, 1, none⟩ = false := (two_frozen box5).2
    have hcall := seal_any (Sg.plus h p) aoA (some ⟨g, 0, none⟩) nA (nP + 1) capA cap' _ hH6 HCC.out.1 HCC.out.2
    clear hown5 hgrow hrow hbox hH6 HA HUs b3 b5 px0 box5 aB
    rw [HPk.out.1, HPk.out.2.1, HPk.out.2.2] at hcall
    go_wp2_with fail
    refine hcall.mono ?_
    clear hcall
    rintro e w7 ⟨rfl, hb7⟩
    have b7 := b6.trans (hb7.mono b6.size)
    go_wp2_with fail
    refine bodyPost_ret (v := .tuple #[.string pk, .string hd, .int .i64 ee]) (by simp [results, Tryz.results7, go_sem]) rfl ⟨b7, Or.inr ⟨HY.out, rfl⟩⟩
end Go.Proofs.YtpkkhkkkgjhkeaaGreat
