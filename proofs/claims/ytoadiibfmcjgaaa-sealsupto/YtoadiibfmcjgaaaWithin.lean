/-
  THE WALKS of book.within, isNamed, isChart, areEntries, arePeriods, inBounds.
-/
import Derived.Test.YtoadiibfmcjgaaaLay
import Derived.Test.YtoadiibfmcjgaaaBoundsWalk
namespace Go.Proofs.Ytoadiibfmcjgaaa
open Go.RowKit
set_option maxRecDepth 100000

theorem ret_bool3 {a b : Bool} (h : a = b) : Ending.returned (.bool a) = .returned (.bool b) := by rw [h]

set_option maxHeartbeats 400000 in
/-- book.within. -/
theorem within_any (n a b : Int) (w : World) :
    Calls Try.prog 103 #[.int .i64 n, .int .i64 a, .int .i64 b] w fun e w' => e = .returned (.bool (decide (a ≤ n ∧ n ≤ b))) ∧ w = w' := by
  by_cases h1 : a ≤ n
  · by_cases h2 : n ≤ b
    · have HD : Hid (decide (a ≤ n ∧ n ≤ b) = true) := decide_eq_true ⟨h1, h2⟩
      rw [HD.out]
      go_enter Try.func103, Try.ntmps103
      go_wp2_with fail
      go_ret
      exact ⟨rfl, rfl⟩
    · have HD : Hid (decide (a ≤ n ∧ n ≤ b) = false) := decide_eq_false (fun h => h2 h.2)
      rw [HD.out]
      go_enter Try.func103, Try.ntmps103
      go_wp2_with fail
      go_ret
      exact ⟨rfl, rfl⟩
  · have HD : Hid (decide (a ≤ n ∧ n ≤ b) = false) := decide_eq_false (fun h => h1 h.1)
    rw [HD.out]
    go_enter Try.func103, Try.ntmps103
    go_wp2_with fail
    go_ret
    exact ⟨rfl, rfl⟩
theorem within_yes (n a b : Int) (w : World) (h : a ≤ n ∧ n ≤ b) :
    Calls Try.prog 103 #[.int .i64 n, .int .i64 a, .int .i64 b] w fun e w' => e = .returned (.bool true) ∧ w = w' := by
  have := within_any n a b w
  rw [decide_eq_true h] at this
  exact this
theorem within_no (n a b : Int) (w : World) (h : ¬ (a ≤ n ∧ n ≤ b)) :
    Calls Try.prog 103 #[.int .i64 n, .int .i64 a, .int .i64 b] w fun e w' => e = .returned (.bool false) ∧ w = w' := by
  have := within_any n a b w
  rw [decide_eq_false h] at this
  exact this

/-- Whether one of the accounts has that name. -/
def Sg.named (x : ByteArray) (ac : List Sg.Acc) : Prop := ∃ j, ∃ h : j < ac.length, ac[j].name = x

set_option maxHeartbeats 1600000 in
/-- book.isNamed. -/
theorem isNamed_any (x : ByteArray) (ac : List Sg.Acc) (ao : Option Addr) (n cap : Nat) (w : World) (hn : ac.length = n) (hn8 : n ≤ 8) (hA : AccsIn w ao ac) :
    Calls Try.prog 104 #[.string x, .slice ao n cap] w fun e w' => ∃ r, e = .returned (.bool r) ∧ (r = true ↔ Sg.named x ac) ∧ Below w.heap.size w w' := by
  have HN : Hid (ac.length = n) := hn
  clear hn
  go_enter Try.func104, Try.ntmps104
  go_wp2_with fail
  go_loopw [9] (fun i wr => ∃ k : Nat, k ≤ n ∧ i = .int .i64 (k : Int) ∧ Hid (∀ j (h : j < ac.length), j < k → ac[j].name ≠ x) ∧ Below w.heap.size w wr) (fun i _ => n - (intOf i).toNat)
  case atStart => exact ⟨0, by omega, rfl, fun j _ hj => by omega, Below.refl _ _⟩
  case round =>
    obtain ⟨k, hk, rfl, HK, hb⟩ := hrel
    by_cases hlt : k < n
    · have hka : k < ac.length := by rw [HN.out]; exact hlt
      obtain ⟨b, off, hao, hbw, hc0, hc1⟩ := (hA.below hb).cell (k := k) hka
      subst hao
      have HY : Hid (ac[k].name = x → Sg.named x ac) := fun e => ⟨k, hka, e⟩
      have HG : Hid (ac[k].name ≠ x → ∀ j (h : j < ac.length), j < k + 1 → ac[j].name ≠ x) := fun e j hj hjk => by
        by_cases e' : j = k
        · subst e'; exact e
        · exact HK.out j hj (by omega)
      have i1 : (0 : Int) ≤ (k : Int) := by omega
      have i2 : (k : Int) < (n : Int) := by omega
      generalize ac[k].name = z at *
      generalize ac[k].line = ln at *
      have hsz := hb.size
      clear hA HK
      by_cases ez : z.toList = x.toList
      · have HF : Hid (Sg.named x ac) := HY.out (txt_inj2 ez)
        have ezb : (z.toList == x.toList) = true := by simp [ez]
        go_wp2_with fail
        go_ret
        exact ⟨_, rfl, ⟨fun _ => HF.out, fun _ => rfl⟩, hb.alloc (by omega) _⟩
      · have HF : Hid (∀ j (h : j < ac.length), j < k + 1 → ac[j].name ≠ x) := HG.out (fun e => ez (by rw [e]))
        have ezb : (z.toList == x.toList) = false := by simp [ez]
        go_wp2_with fail
        go_roundw
        case rel => exact ⟨k + 1, by omega, by go_num, HF, hb.alloc (by omega) _⟩
        case measure => simp [intOf]; omega
    · have HF : Hid (¬ Sg.named x ac) := by
        rintro ⟨j, hj, e⟩
        exact HK.out j hj (by have := HN.out; omega) e
      go_wp2_with fail
      go_ret
      exact ⟨_, rfl, ⟨fun h => by simp at h, fun h => absurd h HF.out⟩, hb⟩

theorem AccsIn.take {w : World} {ao : Option Addr} {ac : List Sg.Acc} (h : AccsIn w ao ac) (k : Nat) : AccsIn w ao (ac.take k) := by
  rcases h with h0 | ⟨b, off, e, hbw, hat⟩
  · left; rw [List.length_take]; omega
  · right
    refine ⟨b, off, e, hbw, fun i hi => ?_⟩
    rw [List.length_take] at hi
    have := hat i (by omega)
    simpa using this
theorem Sg.named_take {ac : List Sg.Acc} {x : ByteArray} {k : Nat} : Sg.named x (ac.take k) ↔ ∃ j, ∃ h : j < ac.length, j < k ∧ ac[j].name = x := by
  constructor
  · rintro ⟨j, hj, e⟩
    rw [List.length_take] at hj
    exact ⟨j, by omega, by omega, by simpa using e⟩
  · rintro ⟨j, hj, hjk, e⟩
    exact ⟨j, by rw [List.length_take]; omega, by simpa using e⟩

set_option maxHeartbeats 3200000 in
/-- book.isChart. -/
theorem isChart_any (ac : List Sg.Acc) (ao : Option Addr) (n cap : Nat) (w : World) (hn : ac.length = n) (hnc : n ≤ cap) (_hcap : cap ≤ 9223372036854775807) (hA : AccsIn w ao ac) (hsA : ∀ a ∈ ac, a.name.size ≤ 140737488355328 ∧ Sg.fits a.line = true) :
    Calls Try.prog 85 #[.slice ao n cap] w fun e w' => ∃ r, e = .returned (.bool r) ∧ (r = true ↔ ((1 ≤ n ∧ n ≤ 8) ∧ Sg.accsOk ac = true)) ∧ Below w.heap.size w w' := by
  have HN : Hid (ac.length = n) := hn
  clear hn
  by_cases g : 1 ≤ n ∧ n ≤ 8
  · have hw := fun W => within_yes (n : Int) 1 8 W (by omega)
    go_enter Try.func85, Try.ntmps85
    go_wp2_with (go_at_call 103; refine (hw _).mono ?_; rintro e w' ⟨rfl, rfl⟩)
    go_loopw [11] (fun i wr => ∃ k : Nat, k ≤ n ∧ i = .int .i64 (k : Int) ∧ Hid (Sg.accsTo ac k) ∧ Below w.heap.size w wr) (fun i _ => n - (intOf i).toNat)
    case atStart => exact ⟨0, by omega, rfl, fun j _ hj => by omega, Below.refl _ _⟩
    case round =>
      obtain ⟨k, hk, rfl, HT, hb⟩ := hrel
      obtain ⟨wz, ewz⟩ : ∃ z : World, z = wr := ⟨_, rfl⟩
      subst ewz
      by_cases hlt : k < n
      · have hka : k < ac.length := by rw [HN.out]; exact hlt
        obtain ⟨b, off, hao, hbw, hc0, hc1⟩ := (hA.below hb).cell (k := k) hka
        subst hao
        have hAr := (hA.below hb).take k
        have HNk : Hid ((ac.take k).length = k) := by show _ = _; rw [List.length_take]; omega
        obtain ⟨hx1, hx2⟩ := hsA ac[k] (List.getElem_mem _)
        have HBad : Hid (Sg.accOk ac[k] = false → ¬ Sg.accsOk ac = true) := fun e => by rw [Sg.accsTo_bad hka (Or.inl e)]; simp
        have HTwo : Hid (Sg.named ac[k].name (ac.take k) → ¬ Sg.accsOk ac = true) := fun e => by
          obtain ⟨j, hj, hjk, e'⟩ := Sg.named_take.1 e
          rw [Sg.accsTo_bad hka (Or.inr ⟨j, hj, hjk, e'⟩)]; simp
        have HGo : Hid (Sg.accOk ac[k] = true → ¬ Sg.named ac[k].name (ac.take k) → Sg.accsTo ac (k + 1)) := fun e1 e2 => Sg.accsTo_succ hka HT.out e1 (fun j hj hjk e => e2 (Sg.named_take.2 ⟨j, hj, hjk, e⟩))
        obtain ⟨x, ln, hax⟩ : ∃ x ln, ac[k] = ⟨x, ln⟩ := ⟨ac[k].name, ac[k].line, rfl⟩
        rw [hax] at hc0 hc1 hx1 hx2 HBad HTwo HGo
        simp only at hc0 hc1 hx1 HTwo HGo
        have hfl : -9223372036854775808 ≤ ln ∧ ln ≤ 9223372036854775807 := of_decide_eq_true hx2
        clear hax hx2 hA hsA HT
        have i1 : (0 : Int) ≤ (k : Int) := by omega
        have i2 : (k : Int) < (n : Int) := by omega
        have i3 : (k : Int) ≤ (cap : Int) := by omega
        have i4 : (k : Int) ≤ (n : Int) := by omega
        have hsz := hb.size
        by_cases o1 : 1 ≤ x.size ∧ x.size ≤ 12
        · have hw1 := fun W => within_yes (x.size : Int) 1 12 W (by omega)
          by_cases o2 : 0 ≤ ln ∧ ln ≤ 3
          · have hw2 := fun W => within_yes ln 0 3 W o2
            have HOk : Hid (Sg.accOk ⟨x, ln⟩ = true) := decide_eq_true ⟨o1.1, o1.2, o2.1, o2.2⟩
            clear o1 o2
            go_wp2_with fail
            go_region_held3 (fun w' => w'.cell? ⟨wz.heap.size, 0, none⟩ = some (.string x) ∧ w'.cell? ⟨wz.heap.size, 1, none⟩ = some (.int .i64 ln) ∧ Past wz w') (first | assumption | exact past_new | exact past_drew past_new | exact past_drew (w := wz) (x := .string x) (y := .int .i64 ln) (by assumption))
              (first
                | (go_at_call_of 103 (Value.int IntKind.i64 12); refine (hw1 _).mono ?_; rintro e w' ⟨rfl, rfl⟩)
                | (go_at_call 103; refine (hw2 _).mono ?_; rintro e w' ⟨rfl, rfl⟩)
                | (go_at_call 104; refine (isNamed_any x (ac.take k) _ k cap _ HNk.out (by omega) (hAr.below (by first | exact past_new.2.2.below | exact (past_drew past_new).2.2.below))).mono ?_; rintro e w2 ⟨r, rfl, hr, hb2⟩; have hh2 := past_call (w := wz) (x := .string x) (y := .int .i64 ln) (by assumption) hb2))
            have hbe := hb.trans (hh2.2.2.below.mono hsz)
            cases r
            · have HF : Hid (Sg.accsTo ac (k + 1)) := HGo.out HOk.out (fun h => by have := hr.2 h; simp at this)
              clear hh2 HGo HTwo hAr hr
              go_wp2_with fail
              go_roundw
              case rel => exact ⟨k + 1, by omega, by go_num, HF, hbe⟩
              case measure => simp [intOf]; omega
            · have HF : Hid (¬ Sg.accsOk ac = true) := HTwo.out (hr.1 rfl)
              clear hh2 HGo HTwo hAr hr
              go_wp2_with fail
              go_ret
              exact ⟨_, rfl, ⟨fun h => by simp at h, fun h => absurd h.2 HF.out⟩, hbe⟩
          · have hw2 := fun W => within_no ln 0 3 W o2
            have HF : Hid (¬ Sg.accsOk ac = true) := HBad.out (by unfold Sg.accOk; exact decide_eq_false (fun h => o2 ⟨h.2.2.1, h.2.2.2⟩))
            clear o1 o2 HGo HTwo hAr HBad
            go_wp2_with fail
            go_quiet (first
                | (go_at_call_of 103 (Value.int IntKind.i64 12); exact Calls.quiet_of_same ((hw1 _).mono fun _ _ h => ⟨h.1, h.2.symm⟩))
                | (go_at_call 103; exact Calls.quiet_of_same ((hw2 _).mono fun _ _ h => ⟨h.1, h.2.symm⟩)))
            go_wp2_with fail
            go_ret
            exact ⟨_, rfl, ⟨fun h => by simp at h, fun h => absurd h.2 HF.out⟩, by first | exact (hb.alloc hsz _).drew | exact hb.alloc hsz _ | exact below_drewN (hb.alloc hsz _) _⟩
        · have hw1 := fun W => within_no (x.size : Int) 1 12 W (by omega)
          have HF : Hid (¬ Sg.accsOk ac = true) := HBad.out (by unfold Sg.accOk; exact decide_eq_false (fun h => o1 ⟨h.1, h.2.1⟩))
          clear o1 HGo HTwo hAr HBad
          go_wp2_with fail
          go_quiet (first
              | (go_at_call_of 103 (Value.int IntKind.i64 12); exact Calls.quiet_of_same ((hw1 _).mono fun _ _ h => ⟨h.1, h.2.symm⟩)))
          go_wp2_with fail
          go_ret
          exact ⟨_, rfl, ⟨fun h => by simp at h, fun h => absurd h.2 HF.out⟩, by first | exact (hb.alloc hsz _).drew | exact hb.alloc hsz _ | exact below_drewN (hb.alloc hsz _) _⟩
      · have HF : Hid (Sg.accsOk ac = true) := (Sg.accsOk_iff ac).2 (by
          have e : k = ac.length := by rw [HN.out]; omega
          have := HT.out
          rw [e] at this
          exact this)
        go_wp2_with fail
        go_ret
        exact ⟨_, rfl, ⟨fun _ => ⟨g, HF.out⟩, fun _ => rfl⟩, hb⟩
  · have hw := fun W => within_no (n : Int) 1 8 W (by omega)
    go_enter Try.func85, Try.ntmps85
    go_wp2_with (go_at_call 103; refine (hw _).mono ?_; rintro e w' ⟨rfl, rfl⟩)
    go_ret
    exact ⟨_, rfl, ⟨fun h => by simp at h, fun h => absurd h.1 g⟩, Below.refl _ _⟩

set_option maxHeartbeats 1600000 in
/-- book.areEntries. -/
theorem areEntries_any (es : List Sg.Ent) (ao : Option Addr) (n cap : Nat) (w : World) (hn : es.length = n) (hn47 : n ≤ 140737488355328) (hE : EntsIn w ao es) (hsE : ∀ e ∈ es, e.memo.size ≤ 140737488355328 ∧ e.posts.length ≤ 140737488355328) :
    Calls Try.prog 105 #[.slice ao n cap] w fun e w' => ∃ r, e = .returned (.bool r) ∧ (r = true ↔ Sg.perOk es = true) ∧ Below w.heap.size w w' := by
  have HN : Hid (es.length = n) := hn
  clear hn
  by_cases g : n ≤ 12
  · have g' : ¬ 12 < (n : Int) := by omega
    go_enter Try.func105, Try.ntmps105
    go_wp2_with fail
    go_loopw [10] (fun i wr => ∃ k : Nat, k ≤ n ∧ i = .int .i64 (k : Int) ∧ Hid (Sg.entsOkTo es k) ∧ Below w.heap.size w wr) (fun i _ => n - (intOf i).toNat)
    case atStart => exact ⟨0, by omega, rfl, fun j _ hj => by omega, Below.refl _ _⟩
    case round =>
      obtain ⟨k, hk, rfl, HT, hb⟩ := hrel
      obtain ⟨wz, ewz⟩ : ∃ z : World, z = wr := ⟨_, rfl⟩
      subst ewz
      have hsz := hb.size
      by_cases hlt : k < n
      · have hka : k < es.length := by rw [HN.out]; exact hlt
        obtain ⟨b, off, hao, hbw, hc0, ao', cap', hc1, hps⟩ := (hE.below hb).cell (k := k) hka
        subst hao
        obtain ⟨hx1, hx2⟩ := hsE es[k] (List.getElem_mem _)
        have HBad : Hid (Sg.entOk es[k] = false → ¬ Sg.perOk es = true) := fun e => by rw [Sg.perOk_bad hka e]; simp
        have HGo : Hid (Sg.entOk es[k] = true → Sg.entsOkTo es (k + 1)) := fun e i hi hik => by
          by_cases e' : i = k
          · subst e'; exact e
          · exact HT.out i hi (by omega)
        have HE : Hid (Sg.entOk es[k] = decide (es[k].memo.size ≤ 20 ∧ 1 ≤ es[k].posts.length ∧ es[k].posts.length ≤ 6)) := rfl
        generalize es[k].memo = x at *
        generalize es[k].posts.length = np at *
        clear hE hsE HT hps
        have i1 : (0 : Int) ≤ (k : Int) := by omega
        have i2 : (k : Int) < (n : Int) := by omega
        by_cases o1 : x.size ≤ 20
        · have o1' : ¬ 20 < (x.size : Int) := by omega
          by_cases o2 : 1 ≤ np ∧ np ≤ 6
          · have hw1 := fun W => within_yes (np : Int) 1 6 W (by omega)
            have HF : Hid (Sg.entsOkTo es (k + 1)) := HGo.out (by rw [HE.out]; exact decide_eq_true ⟨o1, o2⟩)
            clear o1 o2 HGo HE HBad
            go_wp2_with (go_at_call 103; refine (hw1 _).mono ?_; rintro e w' ⟨rfl, rfl⟩)
            go_roundw
            case rel => exact ⟨k + 1, by omega, by go_num, HF, hb.alloc hsz _⟩
            case measure => simp [intOf]; omega
          · have hw1 := fun W => within_no (np : Int) 1 6 W (by omega)
            have HF : Hid (¬ Sg.perOk es = true) := HBad.out (by rw [HE.out]; exact decide_eq_false (fun h => o2 h.2))
            clear o1 o2 HGo HE HBad
            go_wp2_with (go_at_call 103; refine (hw1 _).mono ?_; rintro e w' ⟨rfl, rfl⟩)
            go_ret
            exact ⟨_, rfl, ⟨fun h => by simp at h, fun h => absurd h HF.out⟩, hb.alloc hsz _⟩
        · have o1' : 20 < (x.size : Int) := by omega
          have HF : Hid (¬ Sg.perOk es = true) := HBad.out (by rw [HE.out]; exact decide_eq_false (fun h => o1 h.1))
          clear o1 HGo HE HBad
          go_wp2_with fail
          go_ret
          exact ⟨_, rfl, ⟨fun h => by simp at h, fun h => absurd h HF.out⟩, hb.alloc hsz _⟩
      · have HF : Hid (Sg.perOk es = true) := Sg.perOk_all (by
          have e : k = es.length := by rw [HN.out]; omega
          have := HT.out
          rw [e] at this
          exact this) (by rw [HN.out]; exact g)
        go_wp2_with fail
        go_ret
        exact ⟨_, rfl, ⟨fun _ => HF.out, fun _ => rfl⟩, hb⟩
  · have g' : 12 < (n : Int) := by omega
    have HF : Hid (¬ Sg.perOk es = true) := by
      show ¬ _
      unfold Sg.perOk
      rw [decide_eq_false (by rw [HN.out]; exact g)]; simp
    go_enter Try.func105, Try.ntmps105
    go_wp2_with fail
    go_ret
    exact ⟨_, rfl, ⟨fun h => by simp at h, fun h => absurd h HF.out⟩, Below.refl _ _⟩

/-- A test's answer, by what it says. -/
theorem told {f : FuncId} {args : Array Value} {w : World} {p : Prop} (h : Calls Try.prog f args w fun e w' => ∃ r, e = .returned (.bool r) ∧ (r = true ↔ p) ∧ Below w.heap.size w w') (d : Bool) (hd : d = true ↔ p) :
    Calls Try.prog f args w fun e w' => e = .returned (.bool d) ∧ Below w.heap.size w w' := by
  refine h.mono ?_
  rintro e w' ⟨r, rfl, hr, hb⟩
  exact ⟨ret_bool3 (by rw [Bool.eq_iff_iff, hr, hd]), hb⟩

set_option maxHeartbeats 1600000 in
/-- book.arePeriods. -/
theorem arePeriods_any (ps : List (List Sg.Ent)) (ao : Option Addr) (n cap : Nat) (w : World) (hn : ps.length = n) (hP : PersIn w ao ps)
    (hsP : ∀ p ∈ ps, p.length ≤ 140737488355328 ∧ ∀ e ∈ p, e.memo.size ≤ 140737488355328 ∧ e.posts.length ≤ 140737488355328) :
    Calls Try.prog 86 #[.slice ao n cap] w fun e w' => ∃ r, e = .returned (.bool r) ∧ (r = true ↔ ((1 ≤ n ∧ n ≤ 6) ∧ ps.all Sg.perOk = true)) ∧ Below w.heap.size w w' := by
  have HN : Hid (ps.length = n) := hn
  clear hn
  by_cases g : 1 ≤ n ∧ n ≤ 6
  · have hw := fun W => within_yes (n : Int) 1 6 W (by omega)
    go_enter Try.func86, Try.ntmps86
    go_wp2_with (go_at_call 103; refine (hw _).mono ?_; rintro e w' ⟨rfl, rfl⟩)
    go_loopw [11] (fun i wr => ∃ k : Nat, k ≤ n ∧ i = .int .i64 (k : Int) ∧ Hid (Sg.persOkTo ps k) ∧ Below w.heap.size w wr) (fun i _ => n - (intOf i).toNat)
    case atStart => exact ⟨0, by omega, rfl, fun j _ hj => by omega, Below.refl _ _⟩
    case round =>
      obtain ⟨k, hk, rfl, HT, hb⟩ := hrel
      obtain ⟨wz, ewz⟩ : ∃ z : World, z = wr := ⟨_, rfl⟩
      subst ewz
      have hsz := hb.size
      by_cases hlt : k < n
      · have hka : k < ps.length := by rw [HN.out]; exact hlt
        obtain ⟨b, off, hao, hbw, ao', cap', hc1, hE⟩ := (hP.below hb).cell (k := k) hka
        subst hao
        obtain ⟨hx1, hx2⟩ := hsP ps[k] (List.getElem_mem _)
        have HBad : Hid (¬ Sg.perOk ps[k] = true → ¬ ps.all Sg.perOk = true) := fun e => by rw [Sg.persOk_bad hka (by simpa using e)]; simp
        have HGo : Hid (Sg.perOk ps[k] = true → Sg.persOkTo ps (k + 1)) := fun e i hi hik => by
          by_cases e' : i = k
          · subst e'; exact e
          · exact HT.out i hi (by omega)
        generalize ps[k] = es at *
        clear hP hsP HT
        have i1 : (0 : Int) ≤ (k : Int) := by omega
        have i2 : (k : Int) < (n : Int) := by omega
        obtain ⟨ne, hne⟩ : ∃ ne, es.length = ne := ⟨_, rfl⟩
        rw [hne] at hc1 hx1
        have hcall := fun W (h : Below wz.heap.size wz W) => areEntries_any es ao' ne cap' W hne hx1 (hE.below h) hx2
        clear hne
        by_cases hok : Sg.perOk es = true
        · have hcl := fun W h => told (hcall W h) true ⟨fun _ => hok, fun _ => rfl⟩
          have HF : Hid (Sg.persOkTo ps (k + 1)) := HGo.out hok
          clear hcall HGo HBad hok
          go_wp2_with (go_at_call 105; refine (hcl _ ((Below.refl _ _).alloc (Nat.le_refl _) _)).mono ?_; rintro e w2 ⟨rfl, hb2⟩)
          have hbe := (hb.alloc hsz _).trans (hb2.mono (by simp; omega))
          go_roundw
          case rel => exact ⟨k + 1, by omega, by go_num, HF, hbe⟩
          case measure => simp [intOf]; omega
        · have hcl := fun W h => told (hcall W h) false ⟨fun h => by simp at h, fun h => absurd h hok⟩
          have HF : Hid (¬ ps.all Sg.perOk = true) := HBad.out hok
          clear hcall HGo HBad hok
          go_wp2_with (go_at_call 105; refine (hcl _ ((Below.refl _ _).alloc (Nat.le_refl _) _)).mono ?_; rintro e w2 ⟨rfl, hb2⟩)
          have hbe := (hb.alloc hsz _).trans (hb2.mono (by simp; omega))
          go_ret
          exact ⟨_, rfl, ⟨fun h => by simp at h, fun h => absurd h.2 HF.out⟩, hbe⟩
      · have HF : Hid (ps.all Sg.perOk = true) := Sg.persOk_all (by
          have e : k = ps.length := by rw [HN.out]; omega
          have := HT.out
          rw [e] at this
          exact this)
        go_wp2_with fail
        go_ret
        exact ⟨_, rfl, ⟨fun _ => ⟨g, HF.out⟩, fun _ => rfl⟩, hb⟩
  · have hw := fun W => within_no (n : Int) 1 6 W (by omega)
    go_enter Try.func86, Try.ntmps86
    go_wp2_with (go_at_call 103; refine (hw _).mono ?_; rintro e w' ⟨rfl, rfl⟩)
    go_ret
    exact ⟨_, rfl, ⟨fun h => by simp at h, fun h => absurd h.1 g⟩, Below.refl _ _⟩

set_option maxHeartbeats 1600000 in
/-- book.inBounds. -/
theorem inBounds_any (h : Sg.Hist) (aoA aoP : Option Addr) (nA nP capA capP : Nat) (w : World) (hlA : h.accs.length = nA) (hlP : h.pers.length = nP) (hnc : nA ≤ capA) (hcap : capA ≤ 9223372036854775807) (hA : AccsIn w aoA h.accs) (hP : PersIn w aoP h.pers)
    (hsA : ∀ a ∈ h.accs, a.name.size ≤ 140737488355328 ∧ Sg.fits a.line = true) (hsP : ∀ p ∈ h.pers, p.length ≤ 140737488355328 ∧ ∀ e ∈ p, e.memo.size ≤ 140737488355328 ∧ e.posts.length ≤ 140737488355328) :
    Calls Try.prog 66 #[.agg #[.slice aoA nA capA, .slice aoP nP capP]] w fun e w' => e = .returned (.bool (Sg.inBounds h)) ∧ Below w.heap.size w w' := by
  have HI : Hid (Sg.inBounds h = decide (((1 ≤ nA ∧ nA ≤ 8) ∧ Sg.accsOk h.accs = true) ∧ ((1 ≤ nP ∧ nP ≤ 6) ∧ h.pers.all Sg.perOk = true))) := by
    show _ = _
    unfold Sg.inBounds
    rw [hlA, hlP, Bool.eq_iff_iff]
    simp only [Bool.and_eq_true, decide_eq_true_eq]
    constructor
    · rintro ⟨⟨⟨a, b, c, d⟩, e⟩, f⟩; exact ⟨⟨⟨a, b⟩, e⟩, ⟨c, d⟩, f⟩
    · rintro ⟨⟨⟨a, b⟩, e⟩, ⟨c, d⟩, f⟩; exact ⟨⟨⟨a, b, c, d⟩, e⟩, f⟩
  have hc1 := fun W (hb : Below w.heap.size w W) => isChart_any h.accs aoA nA capA W hlA hnc hcap (hA.below hb) hsA
  have hc2 := fun W (hb : Below w.heap.size w W) => arePeriods_any h.pers aoP nP capP W hlP (hP.below hb) hsP
  have hpw := past_new (w := w) (x := .slice aoA nA capA) (y := .slice aoP nP capP) (t := 41)
  clear hA hP hsA hsP hlA hlP
  by_cases hok : (1 ≤ nA ∧ nA ≤ 8) ∧ Sg.accsOk h.accs = true
  · have hcl := fun W hb => told (hc1 W hb) true ⟨fun _ => hok, fun _ => rfl⟩
    have hcm := fun W hb => told (hc2 W hb) (decide ((1 ≤ nP ∧ nP ≤ 6) ∧ h.pers.all Sg.perOk = true)) (by rw [decide_eq_true_eq])
    have HF : Hid (decide ((1 ≤ nP ∧ nP ≤ 6) ∧ h.pers.all Sg.perOk = true) = Sg.inBounds h) := by
      show _ = _
      rw [HI.out, Bool.eq_iff_iff]; simp only [decide_eq_true_eq]
      exact ⟨fun g => ⟨hok, g⟩, fun g => g.2⟩
    clear hc1 hc2 HI hok
    generalize decide ((1 ≤ nP ∧ nP ≤ 6) ∧ h.pers.all Sg.perOk = true) = d at *
    go_enter Try.func66, Try.ntmps66
    go_wp2_with (first | (go_at_call 85; refine (hcl _ hpw.2.2.below).mono ?_; rintro e w2 ⟨rfl, hb2⟩; have hp2 := past_call hpw hb2; have hp2b := hp2.2.2.below; have hd0 := hp2.1; have hd1 := hp2.2.1) | (go_at_call 86; refine (hcm _ (by assumption)).mono ?_; rintro e w3 ⟨rfl, hb3⟩))
    have hp3 := past_call hp2 hb3
    go_ret
    exact ⟨ret_bool3 HF.out, hp3.2.2.below⟩
  · have hcl := fun W hb => told (hc1 W hb) false ⟨fun h => by simp at h, fun h => absurd h hok⟩
    have HF : Hid (false = Sg.inBounds h) := by
      show _ = _
      rw [HI.out]
      exact (decide_eq_false (fun g => hok g.1)).symm
    clear hc1 hc2 HI hok
    go_enter Try.func66, Try.ntmps66
    go_wp2_with (go_at_call 85; refine (hcl _ hpw.2.2.below).mono ?_; rintro e w2 ⟨rfl, hb2⟩)
    have hp2 := past_call hpw hb2
    go_ret
    exact ⟨ret_bool3 HF.out, hp2.2.2.below⟩
end Go.Proofs.Ytoadiibfmcjgaaa
