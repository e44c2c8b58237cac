/-
  THE WALKS of signetref.chart, entry: and how a history lies in memory.
-/
import Derived.Test.YtoadiibfmcjgaaaAmounts
import Derived.Deep.RegionHeld3
import Derived.Deep.DrawnRows
import Derived.Laws.Pointers
namespace Go.Proofs.Ytoadiibfmcjgaaa
open Go.RowKit
set_option maxRecDepth 100000
attribute [local go_sem ↓] Go.wp_at_zero Go.wp_at_succ

/-- signetref.bytes, the text under a name of its own. -/
theorem bytes_txt (n : Int) (size : Nat) (w : World) (hn : -9223372036854775808 ≤ n ∧ n ≤ 9223372036854775807) (hs : size ≤ 8) (h1 : 1 ≤ size) :
    Calls Try.prog 40 #[.int .i64 n, .int .i64 (size : Int)] w fun e w' => ∃ y : ByteArray, e = .returned (.string y) ∧ Hid (y = Sg.beB n size) ∧ y.size ≤ 8 ∧ Below w.heap.size w w' := by
  refine (refBytes_any n size w hn hs h1).mono ?_
  rintro e w' ⟨rfl, hb⟩
  exact ⟨_, rfl, rfl, by show (Sg.beB n size).size ≤ 8; rw [Sg.beB_size]; exact hs, hb⟩

/-- Two texts behind each other. -/
theorem cat (a b : ByteArray) (h : a.size + b.size ≤ 4611686018427387904) : ∀ W : World, (Op.stringOp .add a b).run Try.prog W = .ok (.string (a ++ b)) W := fun W => run_string_add_sum W a b (by omega)
theorem cat_size (a b : ByteArray) : (a ++ b).size = a.size + b.size := ByteArray.size_append

/-- What came behind w, one block and more later. -/
def Past (w W : World) : Prop := w.heap.size < W.heap.size ∧ Below w.heap.size w W
theorem Past.below {w W : World} (h : Past w W) : Below w.heap.size w W := h.2
theorem past_new {w : World} {x y : Value} {t : TypeId} : (w.alloc (.cells #[x, y] t)).cell? ⟨w.heap.size, 0, none⟩ = some x ∧ (w.alloc (.cells #[x, y] t)).cell? ⟨w.heap.size, 1, none⟩ = some y ∧ Past w (w.alloc (.cells #[x, y] t)) :=
  ⟨by simp, by simp, by simp, (Below.refl _ _).alloc (Nat.le_refl _) _⟩
theorem past_drew {w W : World} {x y : Value} (h : W.cell? ⟨w.heap.size, 0, none⟩ = some x ∧ W.cell? ⟨w.heap.size, 1, none⟩ = some y ∧ Past w W) :
    W.drew.cell? ⟨w.heap.size, 0, none⟩ = some x ∧ W.drew.cell? ⟨w.heap.size, 1, none⟩ = some y ∧ Past w W.drew :=
  ⟨by simpa using h.1, by simpa using h.2.1, by simpa using h.2.2.1, h.2.2.2.drew⟩
theorem past_call {w W w' : World} {x y : Value} (h : W.cell? ⟨w.heap.size, 0, none⟩ = some x ∧ W.cell? ⟨w.heap.size, 1, none⟩ = some y ∧ Past w W) (hb : Below W.heap.size W w') :
    w'.cell? ⟨w.heap.size, 0, none⟩ = some x ∧ w'.cell? ⟨w.heap.size, 1, none⟩ = some y ∧ Past w w' :=
  ⟨(hb.cell (p := ⟨w.heap.size, 0, none⟩) h.2.2.1).trans h.1, (hb.cell (p := ⟨w.heap.size, 1, none⟩) h.2.2.1).trans h.2.1, by have := h.2.2.1; have := hb.size; omega, h.2.2.2.trans (hb.mono (by have := h.2.2.1; omega))⟩

/-- The cells of a slice of accounts. -/
def AccsAt (w : World) (b off : Nat) (ac : List Sg.Acc) : Prop := ∀ i (h : i < ac.length), w.cell? ⟨b, off + i * 2, none⟩ = some (.string ac[i].name) ∧ w.cell? ⟨b, off + i * 2 + 1, none⟩ = some (.int .i64 ac[i].line)
def AccsIn (w : World) (ao : Option Addr) (ac : List Sg.Acc) : Prop := ac.length = 0 ∨ ∃ b off, ao = some ⟨b, off, none⟩ ∧ b < w.heap.size ∧ AccsAt w b off ac
theorem AccsIn.below {w w' : World} {ao : Option Addr} {ac : List Sg.Acc} (h : AccsIn w ao ac) (hb : Below w.heap.size w w') : AccsIn w' ao ac := by
  rcases h with h0 | ⟨b, off, e, hbw, hat⟩
  · exact Or.inl h0
  · refine Or.inr ⟨b, off, e, Nat.lt_of_lt_of_le hbw hb.size, fun i hi => ?_⟩
    rw [hb.cell (p := ⟨b, off + i * 2, none⟩) hbw, hb.cell (p := ⟨b, off + i * 2 + 1, none⟩) hbw]
    exact hat i hi
theorem AccsIn.cell {w : World} {ao : Option Addr} {ac : List Sg.Acc} (h : AccsIn w ao ac) {k : Nat} (hk : k < ac.length) : ∃ b off, ao = some ⟨b, off, none⟩ ∧ b < w.heap.size ∧ w.cell? ⟨b, off + k * 2, none⟩ = some (.string ac[k].name) ∧ w.cell? ⟨b, off + k * 2 + 1, none⟩ = some (.int .i64 ac[k].line) := by
  rcases h with h0 | ⟨b, off, e, hbw, hat⟩
  · omega
  · exact ⟨b, off, e, hbw, (hat k hk).1, (hat k hk).2⟩

namespace Sg
theorem accText_size (o : ByteArray) (a : Acc) : (accText o a).size = o.size + a.name.size + 2 := by
  unfold accText; rw [ByteArray.size_append, ByteArray.size_append, ByteArray.size_append, beB_size, beB_size]; omega
/-- The chart's text so far. -/
def chartTo (ac : List Acc) (k : Nat) : ByteArray := (ac.take k).foldl accText (beB ac.length 1)
theorem chartTo_succ (ac : List Acc) (k : Nat) (h : k < ac.length) : chartTo ac (k + 1) = accText (chartTo ac k) ac[k] := by
  unfold chartTo; rw [List.take_succ_eq_append_getElem h, List.foldl_append]; rfl
theorem chartTo_size (ac : List Acc) (hok : ∀ a ∈ ac, a.name.size ≤ 12) : ∀ k, k ≤ ac.length → (chartTo ac k).size ≤ 1 + 14 * k
  | 0, _ => by unfold chartTo; simp [beB_size]
  | k + 1, h => by
    rw [chartTo_succ ac k (by omega), accText_size]
    have := chartTo_size ac hok k (by omega)
    have := hok ac[k] (List.getElem_mem _)
    omega
theorem chartTo_all (ac : List Acc) : chartTo ac ac.length = chartB ac := by unfold chartTo chartB; rw [List.take_length]
theorem chartB_size (ac : List Acc) (hok : ∀ a ∈ ac, a.name.size ≤ 12) : (chartB ac).size ≤ 1 + 14 * ac.length := by
  rw [← chartTo_all]; exact chartTo_size ac hok _ (Nat.le_refl _)
end Sg

set_option maxHeartbeats 1600000 in
/-- signetref.chart. -/
theorem chart_any (ac : List Sg.Acc) (ao aoP : Option Addr) (n cap nP capP : Nat) (w : World) (hn : ac.length = n) (hmax : n ≤ 8) (hok : ∀ a ∈ ac, a.name.size ≤ 12 ∧ 0 ≤ a.line ∧ a.line ≤ 3) (hl : AccsIn w ao ac) :
    Calls Try.prog 79 #[.agg #[.slice ao n cap, .slice aoP nP capP]] w fun e w' => e = .returned (.string (Sg.chartB ac)) ∧ Below w.heap.size w w' := by
  have HN : Hid (ac.length = n) := hn
  clear hn
  go_enter Try.func79, Try.ntmps79
  go_wp2_with fail
  refine (bytes_txt (n : Int) 1 _ (by omega) (by decide) (by decide)).mono ?_
  rintro e w1 ⟨y0, rfl, hy0, hys0, hb1⟩
  have hp := past_call (past_new (w := w) (x := .slice ao n cap) (y := .slice aoP nP capP) (t := 41)) hb1
  clear hb1
  have H0 : Hid (y0 = Sg.chartTo ac 0) := by show _ = _; rw [hy0.out]; unfold Sg.chartTo; rw [HN.out]; rfl
  go_wp2_with fail
  go_loopw [3, 4] (fun o i wr => ∃ k : Nat, k ≤ n ∧ i = .int .i64 (k : Int) ∧ (∃ oo, o = .string oo ∧ Hid (oo = Sg.chartTo ac k)) ∧ (wr.cell? ⟨w.heap.size, 0, none⟩ = some (.slice ao n cap) ∧ wr.cell? ⟨w.heap.size, 1, none⟩ = some (.slice aoP nP capP) ∧ Past w wr)) (fun _ i _ => n - (intOf i).toNat)
  case atStart => exact ⟨0, by omega, rfl, ⟨_, rfl, H0⟩, hp⟩
  case round =>
    obtain ⟨k, hk, rfl, ⟨oo, rfl, hoo⟩, hpr⟩ := hrel
    have hbx := hpr.1
    by_cases hlt : k < n
    · obtain ⟨b, off, rfl, hbw, hc0, hc1⟩ := (hl.below hpr.2.2.below).cell (k := k) (by rw [HN.out]; exact hlt)
      have hka : k < ac.length := by rw [HN.out]; exact hlt
      obtain ⟨hx1, hx2, hx3⟩ := hok ac[k] (List.getElem_mem _)
      have HS : Hid (Sg.chartTo ac (k + 1) = oo ++ Sg.beB ac[k].name.size 1 ++ ac[k].name ++ Sg.beB ac[k].line 1) := by
        show _ = _
        rw [Sg.chartTo_succ ac k hka, ← hoo.out]; rfl
      have hoz : oo.size ≤ 200 := by
        rw [hoo.out]
        have := Sg.chartTo_size ac (fun a ha => (hok a ha).1) k (by omega)
        omega
      obtain ⟨x, ln, hax⟩ : ∃ x ln, ac[k] = ⟨x, ln⟩ := ⟨ac[k].name, ac[k].line, rfl⟩
      rw [hax] at hc0 hc1 hx1 hx2 hx3 HS
      simp only at hc0 hc1 hx1 hx2 hx3
      clear hax hka hl hok hoo H0 hy0 hp
      go_wp2_with fail
      go_region_held3 (fun w' => w'.cell? ⟨wr.heap.size, 0, none⟩ = some (.string x) ∧ w'.cell? ⟨wr.heap.size, 1, none⟩ = some (.int .i64 ln) ∧ Past wr w') (first | assumption | exact past_new | exact past_drew past_new | exact past_drew (w := wr) (x := .string x) (y := .int .i64 ln) (by assumption))
        (first
          | (go_at_call_of 40 (Value.int IntKind.i64 ln); refine (bytes_txt ln 1 _ (by omega) (by decide) (by decide)).mono ?_; rintro e w3 ⟨y2, rfl, hy2, hys2, hb3⟩; have q3 := cat (oo ++ y1 ++ x) y2 (by rw [cat_size, cat_size]; omega); have hh3 := past_call (w := wr) (x := .string x) (y := .int .i64 ln) (by assumption) hb3)
          | (go_at_call 40; refine (bytes_txt (x.size : Int) 1 _ (by omega) (by decide) (by decide)).mono ?_; rintro e w2 ⟨y1, rfl, hy1, hys1, hb2⟩; have q1 := cat oo y1 (by omega); have q2 := cat (oo ++ y1) x (by rw [cat_size]; omega); have hh2 := past_call (w := wr) (x := .string x) (y := .int .i64 ln) (by assumption) hb2))
      have hpr3 := past_call hpr hh3.2.2.below
      have HE : Hid (Sg.chartTo ac (k + 1) = oo ++ y1 ++ x ++ y2) := by show _ = _; rw [HS.out, hy1.out, hy2.out]
      clear hh2 hh3 hpr q1 q2 q3 HS hy1 hy2 hb2 hb3
      go_wp2_with fail
      go_roundw
      case rel => exact ⟨k + 1, by omega, by go_num, ⟨_, rfl, HE.out.symm⟩, hpr3⟩
      case measure => simp [intOf]; omega
    · go_wp2_with fail
      go_ret
      refine ⟨ret_str2 ?_, hpr.2.2.below⟩
      rw [hoo.out, show k = ac.length by rw [HN.out]; omega, Sg.chartTo_all]

/-- The cells of a slice of postings. -/
def PstsAt (w : World) (b off : Nat) (ps : List Sg.Pst) : Prop := ∀ i (h : i < ps.length), w.cell? ⟨b, off + i * 2, none⟩ = some (.int .i64 ps[i].acct) ∧ w.cell? ⟨b, off + i * 2 + 1, none⟩ = some (.int .i64 ps[i].amt)
def PstsIn (w : World) (ao : Option Addr) (ps : List Sg.Pst) : Prop := ps.length = 0 ∨ ∃ b off, ao = some ⟨b, off, none⟩ ∧ b < w.heap.size ∧ PstsAt w b off ps
theorem PstsIn.below {w w' : World} {ao : Option Addr} {ps : List Sg.Pst} (h : PstsIn w ao ps) (hb : Below w.heap.size w w') : PstsIn w' ao ps := by
  rcases h with h0 | ⟨b, off, e, hbw, hat⟩
  · exact Or.inl h0
  · refine Or.inr ⟨b, off, e, Nat.lt_of_lt_of_le hbw hb.size, fun i hi => ?_⟩
    rw [hb.cell (p := ⟨b, off + i * 2, none⟩) hbw, hb.cell (p := ⟨b, off + i * 2 + 1, none⟩) hbw]
    exact hat i hi
theorem PstsIn.cell {w : World} {ao : Option Addr} {ps : List Sg.Pst} (h : PstsIn w ao ps) {k : Nat} (hk : k < ps.length) : ∃ b off, ao = some ⟨b, off, none⟩ ∧ b < w.heap.size ∧ w.cell? ⟨b, off + k * 2, none⟩ = some (.int .i64 ps[k].acct) ∧ w.cell? ⟨b, off + k * 2 + 1, none⟩ = some (.int .i64 ps[k].amt) := by
  rcases h with h0 | ⟨b, off, e, hbw, hat⟩
  · omega
  · exact ⟨b, off, e, hbw, (hat k hk).1, (hat k hk).2⟩

namespace Sg
theorem pstText_size (o : ByteArray) (p : Pst) : (pstText o p).size = o.size + 9 := by
  unfold pstText; rw [ByteArray.size_append, ByteArray.size_append, beB_size, beB_size]
/-- An entry's text so far. -/
def entTo (e : Ent) (k : Nat) : ByteArray := (e.posts.take k).foldl pstText (beB e.memo.size 1 ++ e.memo ++ beB e.posts.length 1)
theorem entTo_succ (e : Ent) (k : Nat) (h : k < e.posts.length) : entTo e (k + 1) = pstText (entTo e k) e.posts[k] := by
  unfold entTo; rw [List.take_succ_eq_append_getElem h, List.foldl_append]; rfl
theorem entTo_size (e : Ent) : ∀ k, k ≤ e.posts.length → (entTo e k).size = 2 + e.memo.size + 9 * k
  | 0, _ => by unfold entTo; simp only [List.take_zero, List.foldl_nil]; rw [ByteArray.size_append, ByteArray.size_append, beB_size, beB_size]; omega
  | k + 1, h => by rw [entTo_succ e k (by omega), pstText_size, entTo_size e k (by omega)]; omega
theorem entTo_all (e : Ent) : entTo e e.posts.length = entB e := by unfold entTo entB; rw [List.take_length]
theorem entB_size (e : Ent) : (entB e).size = 2 + e.memo.size + 9 * e.posts.length := by rw [← entTo_all, entTo_size e _ (Nat.le_refl _)]
end Sg

theorem still2 {w W w' : World} {b o1 o2 : Nat} {x y v1 v2 : Value} (h : W.cell? ⟨w.heap.size, 0, none⟩ = some x ∧ W.cell? ⟨w.heap.size, 1, none⟩ = some y ∧ Past w W) (hbw : b < W.heap.size) (h1 : W.cell? ⟨b, o1, none⟩ = some v1) (h2 : W.cell? ⟨b, o2, none⟩ = some v2) (hb : Below W.heap.size W w') :
    w'.cell? ⟨w.heap.size, 1, none⟩ = some y ∧ w'.cell? ⟨b, o1, none⟩ = some v1 ∧ w'.cell? ⟨b, o2, none⟩ = some v2 ∧ Below W.heap.size W w' :=
  ⟨(past_call h hb).2.1, (hb.cell (p := ⟨b, o1, none⟩) hbw).trans h1, (hb.cell (p := ⟨b, o2, none⟩) hbw).trans h2, hb⟩

set_option maxHeartbeats 1600000 in
/-- signetref.entry. -/
theorem entry_any (x : ByteArray) (ps : List Sg.Pst) (ao : Option Addr) (n cap : Nat) (w : World) (hn : ps.length = n) (hmax : n ≤ 6) (hx : x.size ≤ 20) (hok : ∀ p ∈ ps, Sg.fits p.acct = true ∧ Sg.fits p.amt = true) (hl : PstsIn w ao ps) :
    Calls Try.prog 80 #[.agg #[.string x, .slice ao n cap]] w fun e w' => e = .returned (.string (Sg.entB ⟨x, ps⟩)) ∧ Below w.heap.size w w' := by
  have HN : Hid (ps.length = n) := hn
  clear hn
  go_enter Try.func80, Try.ntmps80
  go_wp2_with fail
  go_region_held3 (fun w' => w'.cell? ⟨w.heap.size, 0, none⟩ = some (.string x) ∧ w'.cell? ⟨w.heap.size, 1, none⟩ = some (.slice ao n cap) ∧ Past w w') (first | assumption | exact past_new | exact past_drew past_new | exact past_drew (w := w) (x := .string x) (y := .slice ao n cap) (by assumption))
    (first
      | (go_at_call_of 40 (Value.int IntKind.i64 (n : Int)); refine (bytes_txt (n : Int) 1 _ (by omega) (by decide) (by decide)).mono ?_; rintro e w3 ⟨y2, rfl, hy2, hys2, hb3⟩; have q3 := cat (y1 ++ x) y2 (by rw [cat_size]; omega); have hh3 := past_call (w := w) (x := .string x) (y := .slice ao n cap) (by assumption) hb3)
      | (go_at_call 40; refine (bytes_txt (x.size : Int) 1 _ (by omega) (by decide) (by decide)).mono ?_; rintro e w2 ⟨y1, rfl, hy1, hys1, hb2⟩; have q2 := cat y1 x (by omega); have hh2 := past_call (w := w) (x := .string x) (y := .slice ao n cap) (by assumption) hb2))
  have H0 : Hid (y1 ++ x ++ y2 = Sg.entTo ⟨x, ps⟩ 0) := by show _ = _; rw [hy1.out, hy2.out]; unfold Sg.entTo; rw [HN.out]; rfl
  generalize y1 ++ x ++ y2 = y0 at *
  clear hy1 hy2 hys1 hys2 q2 q3 hb2 hb3 hh2
  go_wp2_with fail
  go_loopw [3, 4] (fun o i wr => ∃ k : Nat, k ≤ n ∧ i = .int .i64 (k : Int) ∧ (∃ oo, o = .string oo ∧ Hid (oo = Sg.entTo ⟨x, ps⟩ k)) ∧ (wr.cell? ⟨w.heap.size, 0, none⟩ = some (.string x) ∧ wr.cell? ⟨w.heap.size, 1, none⟩ = some (.slice ao n cap) ∧ Past w wr)) (fun _ i _ => n - (intOf i).toNat)
  case atStart => exact ⟨0, by omega, rfl, ⟨_, rfl, H0⟩, hh3⟩
  case round =>
    obtain ⟨k, hk, rfl, ⟨oo, rfl, hoo⟩, hpr⟩ := hrel
    have hbx := hpr.2.1
    by_cases hlt : k < n
    · have hka : k < ps.length := by rw [HN.out]; exact hlt
      obtain ⟨b, off, rfl, hbw, hc0, hc1⟩ := (hl.below hpr.2.2.below).cell (k := k) hka
      obtain ⟨hx1, hx2⟩ := hok ps[k] (List.getElem_mem _)
      have HS : Hid (Sg.entTo ⟨x, ps⟩ (k + 1) = oo ++ Sg.beB ps[k].acct 1 ++ Sg.beB ps[k].amt 8) := by
        show _ = _
        rw [Sg.entTo_succ ⟨x, ps⟩ k hka, ← hoo.out]; rfl
      have hoz : oo.size ≤ 200 := by
        rw [hoo.out, Sg.entTo_size ⟨x, ps⟩ k (by show k ≤ ps.length; omega)]
        show 2 + x.size + 9 * k ≤ 200
        omega
      obtain ⟨a, m, ham⟩ : ∃ a m, ps[k] = ⟨a, m⟩ := ⟨ps[k].acct, ps[k].amt, rfl⟩
      rw [ham] at hc0 hc1 hx1 hx2 HS
      simp only at hc0 hc1
      have hfa : -9223372036854775808 ≤ a ∧ a ≤ 9223372036854775807 := of_decide_eq_true hx1
      have hfm : -9223372036854775808 ≤ m ∧ m ≤ 9223372036854775807 := of_decide_eq_true hx2
      have i1 : (0 : Int) ≤ (k : Int) := by omega
      have i2 : (k : Int) < (n : Int) := by omega
      clear ham hka hl hok hoo H0 hx1 hx2 hh3
      go_wp2_with fail
      go_region_held3 (fun w' => w'.cell? ⟨w.heap.size, 1, none⟩ = some (.slice (some ⟨b, off, none⟩) n cap) ∧ w'.cell? ⟨b, off + k * 2, none⟩ = some (.int .i64 a) ∧ w'.cell? ⟨b, off + k * 2 + 1, none⟩ = some (.int .i64 m) ∧ Below wr.heap.size wr w') (first | assumption | exact still2 hpr hbw hc0 hc1 (Below.refl _ _) | exact still2 hpr hbw hc0 hc1 (Below.refl _ _).drew)
        (first
          | (go_at_call_of 40 (Value.int IntKind.i64 1); refine (bytes_txt a 1 _ hfa (by decide) (by decide)).mono ?_; rintro e w2 ⟨y1, rfl, hy1, hys1, hb2⟩; have q1 := cat oo y1 (by omega); have hh2 := still2 hpr hbw hc0 hc1 (((Below.refl wr.heap.size wr).drew).trans hb2))
          | (go_at_call 40; refine (bytes_txt m 8 _ hfm (by decide) (by decide)).mono ?_; rintro e w3 ⟨y2, rfl, hy2, hys2, hb3⟩; have q2 := cat (oo ++ y1) y2 (by rw [cat_size]; omega); have hh3 := still2 hpr hbw hc0 hc1 (hh2.2.2.2.trans (hb3.mono hh2.2.2.2.size))))
      have hpr3 := past_call hpr hh3.2.2.2
      have HE : Hid (Sg.entTo ⟨x, ps⟩ (k + 1) = oo ++ y1 ++ y2) := by show _ = _; rw [HS.out, hy1.out, hy2.out]
      clear hh2 hh3 hpr q1 q2 HS hy1 hy2 hb2 hb3
      go_wp2_with fail
      go_roundw
      case rel => exact ⟨k + 1, by omega, by go_num, ⟨_, rfl, HE.out.symm⟩, hpr3⟩
      case measure => simp [intOf]; omega
    · go_wp2_with fail
      go_ret
      refine ⟨ret_str2 ?_, hpr.2.2.below⟩
      rw [hoo.out, ← Sg.entTo_all]
      have e : k = ps.length := by rw [HN.out]; omega
      rw [e]
end Go.Proofs.Ytoadiibfmcjgaaa
