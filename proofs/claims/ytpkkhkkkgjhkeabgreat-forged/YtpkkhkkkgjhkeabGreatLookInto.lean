import Derived.Test.YtpkkhkkkgjhkeabGreatLookAll
/-
  THE WALKS of audit.lookInto, audit.Look (P10).
-/
namespace Go.Proofs.YtpkkhkkkgjhkeabGreat
open Go.RowKit
set_option maxRecDepth 100000
attribute [local go_sem ↓] Go.wp_at_zero Go.wp_at_succ

/-- What looks at a bundle of the form answers. -/
theorem isTrue_bun (n : Sg.Bun) (hd : ByteArray) (aoD aoH aoP : Option Addr) (capD capH capP : Nat) (w : World) (hf : n.Fine) (hO : BunOwn w 0 (.slice aoD n.drls.length capD) (.slice aoH n.hdrs.length capH) (.slice aoP n.path.length capP) n) :
    Calls Tryz.prog 49 #[bunV n (.slice aoD n.drls.length capD) (.slice aoH n.hdrs.length capH) (.slice aoP n.path.length capP) hd] w fun e w' => e = .returned (.bool (Sg.lookOk n hd)) ∧ Below w.heap.size w w' := by
  obtain ⟨aoD', capD', eD, hD⟩ := hO.drls.shape
  obtain ⟨aoH', capH', eH, hc1, hc2, hH⟩ := hO.hdrs.shape
  obtain ⟨aoP', capP', eP, hp1, hp2, hP⟩ := own_strs_shape hO.path
  simp only [Value.slice.injEq] at eD eH eP
  obtain ⟨rfl, _, rfl⟩ := eD
  obtain ⟨rfl, _, rfl⟩ := eH
  obtain ⟨rfl, _, rfl⟩ := eP
  unfold maxLen at hc2 hp2
  have hnh := hf.hdrs
  have hsm : ∀ h ∈ n.hdrs, h.small := fun h hh => by
    have k := hf.fixed h hh
    unfold Sg.Hdr.small
    rw [k.mark, k.ahead, k.chart, k.jour, k.stat, k.bals]
    omega
  obtain ⟨b, off, hao, hbw, _⟩ := hH.cell (k := 0) (by omega)
  subst hao
  obtain ⟨p, q, ep, hp, hq⟩ := hf.path
  have hl2 : n.path.length = 2 := by rw [ep]; rfl
  have hPs : StrsIn w aoP n.path := by
    obtain ⟨g, e, hg, hat⟩ := hP (by omega)
    exact Or.inr ⟨g, 0, e, hg, hat⟩
  have main := isTrue_any (.int .i64 (n.per : Int)) (.int .i64 (n.line : Int)) (.int .i64 n.total) (.slice aoD n.drls.length capD) (.slice (some ⟨b, off, none⟩) n.hdrs.length capH) (.slice aoP n.path.length capP) (.string hd) (Sg.numbered n) (Sg.chained n) (Sg.leadsHead n hd) (Sg.leadsStmt n) (Sg.isTotal n) w
    (fun W hb => isNumbered_any n n.hdrs.length _ _ _ _ _ (some ⟨b, off, none⟩) capH W hf.per rfl hnh.2 (hH.below hb))
    (fun W hb => by
      by_cases h1 : n.hdrs.length = 1
      · rw [h1]; exact isChained_none n _ _ _ _ _ _ b off capH W h1 (by omega)
      · exact isChained_some n n.hdrs.length _ _ _ _ _ _ b off capH W rfl hnh.2 (by omega) hc1 (by omega) (hH.below hb) hsm)
    (fun W hb => leadsToHead_any n n.hdrs.length _ _ _ _ _ hd b off capH W rfl hnh (hH.below hb) hsm)
    (fun W hb => by
      rw [hl2]
      exact leadsToStatement_any n (n.per : Int) n.total n.line n.drls.length n.hdrs.length (.string hd) aoD aoP b off capD capH capP W hf rfl rfl rfl rfl (hD.below hb) (hH.below hb) (strsIn_below hPs hb) ⟨by omega, by omega⟩)
    (fun W hb => isTheTotal_any n _ _ _ _ _ n.total n.drls.length aoD capD W hf rfl rfl (hD.below hb))
  exact main

set_option maxHeartbeats 6400000 in
/-- audit.lookInto. -/
theorem lookInto_any (t hd : ByteArray) (w : World) :
    Calls Tryz.prog 23 #[.string t, .string hd] w fun e w' => Below w.heap.size w w' ∧
      ((Sg.lookErr t hd ≠ 0 ∧ e = .returned (.tuple #[zBun, .int .i64 (Sg.lookErr t hd)])) ∨
       (Sg.lookErr t hd = 0 ∧ ∃ vD vH vP, e = .returned (.tuple #[bunV (Sg.bunL (Sg.tx t)) vD vH vP hd, .int .i64 0]) ∧ BunOwn w' w.heap.size vD vH vP (Sg.bunL (Sg.tx t)))) := by
  have hcall := fun W => bunRead_any t hd W
  have HE : Hid (Sg.lookErr t hd = if Sg.formL (Sg.tx t) = true then (if Sg.lookOk (Sg.bunL (Sg.tx t)) hd = true then 0 else 6) else 5) := rfl
  have HF : Hid (Sg.formL (Sg.tx t) = true → (Sg.bunL (Sg.tx t)).Fine) := fun h => Sg.bunL_fine h
  have hA0 := BBox.new w (.int .i64 0) (.int .i64 0) (.int .i64 0) (.slice none 0 0) (.slice none 0 0) (.slice none 0 0) (.string { data := #[] })
  have a0 : Below w.heap.size w (w.alloc (.cells #[.int .i64 0, .int .i64 0, .int .i64 0, .slice none 0 0, .slice none 0 0, .slice none 0 0, .string { data := #[] }] 73)) := (Below.refl _ _).alloc (Nat.le_refl _) _
  generalize Sg.bunL (Sg.tx t) = n at *
  generalize Sg.formL (Sg.tx t) = fm at *
  go_enter Tryz.func23, Tryz.ntmps23
  go_wp2_with fail
  refine (hcall _).mono ?_
  rintro e w1 ⟨hb1, hcase⟩
  clear hcall
  have hA1 := hA0.below hb1
  have b1 := a0.trans (hb1.mono a0.size)
  rcases hcase with ⟨hfm, rfl⟩ | ⟨hfm, vD, vH, vP, rfl, hO⟩
  · have HN : Hid (Sg.lookErr t hd = 5) := by show _ = _; rw [HE.out, hfm]; rfl
    have aB : Below w1.heap.size w1 (w1.alloc (.cells #[.int .i64 0, .int .i64 0, .int .i64 0, .slice none 0 0, .slice none 0 0, .slice none 0 0, .string { data := #[] }] 73)) := (Below.refl _ _).alloc (Nat.le_refl _) _
    have hA4 := hA1.below aB
    have b4 := b1.trans (aB.mono b1.size)
    clear hA0 a0 hb1 hA1 b1 HE HF hfm aB
    have hQ := bstore_run hA4 (.int .i64 0) (.int .i64 0) (.int .i64 0) (.slice none 0 0) (.slice none 0 0) (.slice none 0 0) (.string { data := #[] })
    obtain ⟨u1, u2, u3, u4, u5, u6, w10, ⟨m1, m2, m3⟩, ⟨m4, m5, m6⟩, ⟨m7, m8, m9⟩, ⟨n1, n2, n3⟩, ⟨n4, n5, n6⟩, ⟨n7, n8, n9⟩, ⟨p1, p2, p3⟩, hX, hBl, hoth⟩ := hQ
    have HB : Hid (Below w.heap.size w w10) := b4.trans (hBl _ (Nat.le_refl _))
    obtain ⟨q0, q1, q2, q3, q4, q5, q6⟩ := hX.cells
    clear hBl hoth hX hA4
    go_wp2_with fail
    refine bodyPost_ret (v := .tuple #[.agg #[.int .i64 0, .int .i64 0, .int .i64 0, .slice none 0 0, .slice none 0 0, .slice none 0 0, .string { data := #[] }], .int .i64 5]) (by simp [results, Tryz.results23, go_sem, q0, q1, q2, q3, q4, q5, q6]) rfl ⟨HB.out, Or.inl ⟨by rw [HN.out]; decide, by rw [HN.out]⟩⟩
  · obtain ⟨aoD, capD, eD⟩ := hO.drls.len_
    obtain ⟨aoH, capH, eH⟩ := hO.hdrs.len_
    obtain ⟨aoP, capP, eP⟩ := hO.path.len_
    subst eD eH eP
    have hfine := HF.out hfm
    have aB : Below w1.heap.size w1 (w1.alloc (.cells #[.int .i64 (n.per : Int), .int .i64 (n.line : Int), .int .i64 n.total, .slice aoD n.drls.length capD, .slice aoH n.hdrs.length capH, .slice aoP n.path.length capP, .string hd] 73)) := (Below.refl _ _).alloc (Nat.le_refl _) _
    have hA2 := hA1.below aB
    have hB2 := BBox.new w1 (.int .i64 (n.per : Int)) (.int .i64 (n.line : Int)) (.int .i64 n.total) (.slice aoD n.drls.length capD) (.slice aoH n.hdrs.length capH) (.slice aoP n.path.length capP) (.string hd)
    have b2 := b1.trans (aB.mono b1.size)
    rw [World.size_alloc] at hO
    have hO2 := hO.below aB
    have hl1 := lt_of_block hA1
    have hcall := isTrue_bun n hd aoD aoH aoP capD capH capP _ hfine (hO2.mono (Nat.zero_le _))
    have HO2 : Hid (BunOwn (w1.alloc (.cells #[.int .i64 (n.per : Int), .int .i64 (n.line : Int), .int .i64 n.total, .slice aoD n.drls.length capD, .slice aoH n.hdrs.length capH, .slice aoP n.path.length capP, .string hd] 73)) (w.heap.size + 1) (.slice aoD n.drls.length capD) (.slice aoH n.hdrs.length capH) (.slice aoP n.path.length capP) n) := hO2
    have HFM : Hid (fm = true) := hfm
    clear hA0 a0 hb1 hA1 b1 HF hfm aB hO hO2 hfine
    go_wp2_with fail
    refine hcall.mono ?_
    rintro e w3 ⟨rfl, hb3⟩
    clear hcall
    have hA4 := hA2.below hb3
    have hB4 := hB2.below hb3
    have b4 := b2.trans (hb3.mono b2.size)
    have HO4 : Hid (BunOwn w3 (w.heap.size + 1) (.slice aoD n.drls.length capD) (.slice aoH n.hdrs.length capH) (.slice aoP n.path.length capP) n) := HO2.out.below hb3
    clear hA2 hB2 b2 HO2 hb3
    by_cases hk : Sg.lookOk n hd = true
    · rw [hk]
      have HN : Hid (Sg.lookErr t hd = 0) := by show _ = _; rw [HE.out, HFM.out, hk]; rfl
      clear hk HE
      obtain ⟨o0, o1, o2, o3, o4, o5, o6⟩ := hB4.cells
      have hQ := bstore_run hA4 (.int .i64 (n.per : Int)) (.int .i64 (n.line : Int)) (.int .i64 n.total) (.slice aoD n.drls.length capD) (.slice aoH n.hdrs.length capH) (.slice aoP n.path.length capP) (.string hd)
      obtain ⟨u1, u2, u3, u4, u5, u6, w10, ⟨m1, m2, m3⟩, ⟨m4, m5, m6⟩, ⟨m7, m8, m9⟩, ⟨n1, n2, n3⟩, ⟨n4, n5, n6⟩, ⟨n7, n8, n9⟩, ⟨p1, p2, p3⟩, hX, hBl, hoth⟩ := hQ
      have HB : Hid (Below w.heap.size w w10) := b4.trans (hBl _ (Nat.le_refl _))
      have HO : Hid (BunOwn w10 w.heap.size (.slice aoD n.drls.length capD) (.slice aoH n.hdrs.length capH) (.slice aoP n.path.length capP) n) :=
        ⟨ownsRow_mono (ownsRow_offB HO4.out.drls (by omega) hoth) (by omega), ownsRow_mono (ownsRow_offB HO4.out.hdrs (by omega) hoth) (by omega), ownsRow_mono (ownsRow_offB HO4.out.path (by omega) hoth) (by omega)⟩
      obtain ⟨q0, q1, q2, q3, q4, q5, q6⟩ := hX.cells
      clear hBl hoth hX hA4 hB4 b4 HO4
      go_wp2_with fail
      refine bodyPost_ret (v := .tuple #[.agg #[.int .i64 (n.per : Int), .int .i64 (n.line : Int), .int .i64 n.total, .slice aoD n.drls.length capD, .slice aoH n.hdrs.length capH, .slice aoP n.path.length capP, .string hd], .int .i64 0]) (by simp [results, Tryz.results23, go_sem, q0, q1, q2, q3, q4, q5, q6]) rfl ⟨HB.out, Or.inr ⟨HN.out, _, _, _, rfl, HO.out⟩⟩
    · have hkf : Sg.lookOk n hd = false := by simpa using hk
      rw [hkf]
      have HN : Hid (Sg.lookErr t hd = 6) := by show _ = _; rw [HE.out, HFM.out, hkf]; rfl
      clear hk hkf HE hB4 HO4
      have hQ := bstore_run hA4 (.int .i64 0) (.int .i64 0) (.int .i64 0) (.slice none 0 0) (.slice none 0 0) (.slice none 0 0) (.string { data := #[] })
      obtain ⟨u1, u2, u3, u4, u5, u6, w10, ⟨m1, m2, m3⟩, ⟨m4, m5, m6⟩, ⟨m7, m8, m9⟩, ⟨n1, n2, n3⟩, ⟨n4, n5, n6⟩, ⟨n7, n8, n9⟩, ⟨p1, p2, p3⟩, hX, hBl, hoth⟩ := hQ
      have HB : Hid (Below w.heap.size w w10) := b4.trans (hBl _ (Nat.le_refl _))
      obtain ⟨q0, q1, q2, q3, q4, q5, q6⟩ := hX.cells
      clear hBl hoth hX hA4
      go_wp2_with fail
      refine bodyPost_ret (v := .tuple #[.agg #[.int .i64 0, .int .i64 0, .int .i64 0, .slice none 0 0, .slice none 0 0, .slice none 0 0, .string { data := #[] }], .int .i64 6]) (by simp [results, Tryz.results23, go_sem, q0, q1, q2, q3, q4, q5, q6]) rfl ⟨HB.out, Or.inl ⟨by rw [HN.out]; decide, by rw [HN.out]⟩⟩


theorem quad_free {w : World} {g : Nat} {x y z u : Value} {t : TypeId} (h : Quad w g x y z u t) : w.frozen? ⟨g, 0, none⟩ = false ∧ w.frozen? ⟨g, 1, none⟩ = false ∧ w.frozen? ⟨g, 2, none⟩ = false ∧ w.frozen? ⟨g, 3, none⟩ = false := by
  unfold Quad at h
  refine ⟨?_, ?_, ?_, ?_⟩ <;> simp [World.frozen?, h]
/-- A box of four is filled. -/
theorem quad_store {w : World} {g : Nat} {x y z u : Value} {t : TypeId} (h : Quad w g x y z u t) (a b c d : Value) : Quad ((((w.setCell ⟨g, 0, none⟩ a).setCell ⟨g, 1, none⟩ b).setCell ⟨g, 2, none⟩ c).setCell ⟨g, 3, none⟩ d) g a b c d t ∧ (∀ B, B ≤ g → Below B w ((((w.setCell ⟨g, 0, none⟩ a).setCell ⟨g, 1, none⟩ b).setCell ⟨g, 2, none⟩ c).setCell ⟨g, 3, none⟩ d)) ∧ ∀ i, i ≠ g → ((((w.setCell ⟨g, 0, none⟩ a).setCell ⟨g, 1, none⟩ b).setCell ⟨g, 2, none⟩ c).setCell ⟨g, 3, none⟩ d).heap[i]? = w.heap[i]? := by
  refine ⟨?_, fun B hB => ?_, fun i hi => ?_⟩
  · have k1 : (w.setCell ⟨g, 0, none⟩ a).heap[g]? = some (.cells #[a, y, z, u] t (0, 0)) := heap_setCell_same _ g 0 _ _ a h
    have k2 : ((w.setCell ⟨g, 0, none⟩ a).setCell ⟨g, 1, none⟩ b).heap[g]? = some (.cells #[a, b, z, u] t (0, 0)) := heap_setCell_same _ g 1 _ _ b k1
    have k3 : (((w.setCell ⟨g, 0, none⟩ a).setCell ⟨g, 1, none⟩ b).setCell ⟨g, 2, none⟩ c).heap[g]? = some (.cells #[a, b, c, u] t (0, 0)) := heap_setCell_same _ g 2 _ _ c k2
    exact heap_setCell_same _ g 3 _ _ d k3
  · exact ((((Below.refl B w).setCell (show B ≤ g from hB) _).setCell (show B ≤ g from hB) _).setCell (show B ≤ g from hB) _).setCell (show B ≤ g from hB) _
  · have k := fun (W : World) (j : Nat) (v : Value) => heap_setCell_other W ⟨g, j, none⟩ i v hi
    rw [k, k, k, k]
abbrev zLine : Value := .agg #[.int .i64 0, .int .i64 0, .int .i64 0, .slice none 0 0]
/-- A line as it is handed on. -/
abbrev lineV (n : Sg.Bun) (vD : Value) : Value := .agg #[.int .i64 (n.per : Int), .int .i64 (n.line : Int), .int .i64 n.total, vD]

set_option maxHeartbeats 6400000 in
/-- audit.Look. -/
theorem look_any (t hd : ByteArray) (w : World) :
    Calls Tryz.prog 10 #[.string t, .string hd] w fun e w' => Below w.heap.size w w' ∧
      ((Sg.lookErr t hd ≠ 0 ∧ e = .returned (.tuple #[zLine, .int .i64 (Sg.lookErr t hd)])) ∨
       (Sg.lookErr t hd = 0 ∧ ∃ vD, e = .returned (.tuple #[lineV (Sg.bunL (Sg.tx t)) vD, .int .i64 0]) ∧ OwnDrls w' w.heap.size vD (Sg.bunL (Sg.tx t)).drls)) := by
  have hcall := fun W => lookInto_any t hd W
  have hA0 := Quad.new w (.int .i64 0) (.int .i64 0) (.int .i64 0) (.slice none 0 0) 37
  have a0 : Below w.heap.size w (w.alloc (.cells #[.int .i64 0, .int .i64 0, .int .i64 0, .slice none 0 0] 37)) := (Below.refl _ _).alloc (Nat.le_refl _) _
  generalize Sg.bunL (Sg.tx t) = n at *
  obtain ⟨er, her⟩ : ∃ er, Sg.lookErr t hd = er := ⟨_, rfl⟩
  rw [her] at hcall ⊢
  clear her
  go_enter Tryz.func10, Tryz.ntmps10
  go_wp2_with fail
  refine (hcall _).mono ?_
  rintro e w1 ⟨hb1, hcase⟩
  clear hcall
  have hA1 := hA0.below hb1
  have b1 := a0.trans (hb1.mono a0.size)
  have hl1 := lt_of_block hA1
  rcases hcase with ⟨hne, rfl⟩ | ⟨h0, vD, vH, vP, rfl, hO⟩
  · have HN : Hid (er ≠ 0) := hne
    have aB : Below w1.heap.size w1 (w1.alloc (.cells #[.int .i64 0, .int .i64 0, .int .i64 0, .slice none 0 0, .slice none 0 0, .slice none 0 0, .string { data := #[] }] 73)) := (Below.refl _ _).alloc (Nat.le_refl _) _
    have hA2 := hA1.below aB
    have b2 := b1.trans (aB.mono b1.size)
    have hB2 := BBox.new w1 (.int .i64 0) (.int .i64 0) (.int .i64 0) (.slice none 0 0) (.slice none 0 0) (.slice none 0 0) (.string { data := #[] })
    obtain ⟨o0, o1, o2, o3, _, _, _⟩ := hB2.cells
    obtain ⟨hX, hBl, hoth⟩ := quad_store hA2 (.int .i64 0) (.int .i64 0) (.int .i64 0) (.slice none 0 0)
    have HB := b2.trans (hBl _ (Nat.le_refl _))
    obtain ⟨q0, q1, q2, q3⟩ := hA2.cells
    obtain ⟨f0, f1, f2, f3⟩ := quad_free hA2
    clear hA0 a0 hb1 hA1 b1 hne aB hX hBl hoth b2 hA2 hB2
    go_upto_region 2 with fail
    generalize (w1.alloc (.cells #[.int .i64 0, .int .i64 0, .int .i64 0, .slice none 0 0, .slice none 0 0, .slice none 0 0, .string { data := #[] }] 73)) = w2 at *
    have HBH : Hid (Below w.heap.size w ((((w2.setCell ⟨w.heap.size, 0, none⟩ (.int .i64 0)).setCell ⟨w.heap.size, 1, none⟩ (.int .i64 0)).setCell ⟨w.heap.size, 2, none⟩ (.int .i64 0)).setCell ⟨w.heap.size, 3, none⟩ (.slice none 0 0))) := HB
    clear HB
    go_wp2_with fail
    refine bodyPost_ret (v := .tuple #[zLine, .int .i64 er]) (by simp [results, Tryz.results10, go_sem, q0, q1, q2, q3]) rfl ⟨HBH.out, Or.inl ⟨HN.out, rfl⟩⟩
  · have HN : Hid (er = 0) := h0
    obtain ⟨aoD, capD, eD⟩ := hO.drls.len_
    obtain ⟨aoH, capH, eH⟩ := hO.hdrs.len_
    obtain ⟨aoP, capP, eP⟩ := hO.path.len_
    subst eD eH eP
    have aB : Below w1.heap.size w1 (w1.alloc (.cells #[.int .i64 (n.per : Int), .int .i64 (n.line : Int), .int .i64 n.total, .slice aoD n.drls.length capD, .slice aoH n.hdrs.length capH, .slice aoP n.path.length capP, .string hd] 73)) := (Below.refl _ _).alloc (Nat.le_refl _) _
    have hA2 := hA1.below aB
    have b2 := b1.trans (aB.mono b1.size)
    have hB2 := BBox.new w1 (.int .i64 (n.per : Int)) (.int .i64 (n.line : Int)) (.int .i64 n.total) (.slice aoD n.drls.length capD) (.slice aoH n.hdrs.length capH) (.slice aoP n.path.length capP) (.string hd)
    obtain ⟨o0, o1, o2, o3, _, _, _⟩ := hB2.cells
    rw [World.size_alloc] at hO
    have hO2 := (hO.below aB).drls
    obtain ⟨hX, hBl, hoth⟩ := quad_store hA2 (.int .i64 (n.per : Int)) (.int .i64 (n.line : Int)) (.int .i64 n.total) (.slice aoD n.drls.length capD)
    have HB := b2.trans (hBl _ (Nat.le_refl _))
    have hO3 := ownsRow_mono (ownsRow_offB hO2 (g := w.heap.size) (by omega) hoth) (Nat.le_succ _)
    obtain ⟨q0, q1, q2, q3⟩ := hA2.cells
    obtain ⟨f0, f1, f2, f3⟩ := quad_free hA2
    clear hA0 a0 hb1 hA1 b1 aB hX hBl hoth b2 hA2 hB2 hO hO2 h0
    go_upto_region 2 with fail
    generalize (w1.alloc (.cells #[.int .i64 (n.per : Int), .int .i64 (n.line : Int), .int .i64 n.total, .slice aoD n.drls.length capD, .slice aoH n.hdrs.length capH, .slice aoP n.path.length capP, .string hd] 73)) = w2 at *
    have HBH : Hid (Below w.heap.size w ((((w2.setCell ⟨w.heap.size, 0, none⟩ (.int .i64 (n.per : Int))).setCell ⟨w.heap.size, 1, none⟩ (.int .i64 (n.line : Int))).setCell ⟨w.heap.size, 2, none⟩ (.int .i64 n.total)).setCell ⟨w.heap.size, 3, none⟩ (.slice aoD n.drls.length capD)) ∧ OwnDrls ((((w2.setCell ⟨w.heap.size, 0, none⟩ (.int .i64 (n.per : Int))).setCell ⟨w.heap.size, 1, none⟩ (.int .i64 (n.line : Int))).setCell ⟨w.heap.size, 2, none⟩ (.int .i64 n.total)).setCell ⟨w.heap.size, 3, none⟩ (.slice aoD n.drls.length capD)) w.heap.size (.slice aoD n.drls.length capD) n.drls) := ⟨HB, hO3⟩
    clear HB hO3
    go_wp2_with fail
    refine bodyPost_ret (v := .tuple #[lineV n (.slice aoD n.drls.length capD), .int .i64 0]) (by simp [results, Tryz.results10, go_sem, q0, q1, q2, q3]) rfl ⟨HBH.out.1, Or.inr ⟨HN.out, _, rfl, HBH.out.2⟩⟩
end Go.Proofs.YtpkkhkkkgjhkeabGreat
