/-
  ROWS OF RAW ENTRIES of one's own (P11, P13): a copy, one more, another memo.
-/
import Derived.Test.YtpkkhkkkgjhkeabFoundSpec
import Derived.Test.YtpkkhkkkgjhkeabOpenedSpec
import Derived.Test.YtpkkhkkkgjhkeabClashes
namespace Go.Proofs.Ytpkkhkkkgjhkeab
open Go.RowKit
set_option maxRecDepth 100000
attribute [local go_sem ↓] Go.wp_at_zero Go.wp_at_succ

theorem Try.infoRaw : (Try.prog.info? 45).map (fun i => (i.zero, i.size, i.bytes)) = some (some (.agg #[.string ByteArray.empty, .int .i64 0, .int .i64 0, .int .i64 0, .int .i64 0]), 5, 48) := by kernel_rfl
def rCells (rs : List Raw) : List Value := rs.flatMap fun r => [.string r.memo, .int .i64 r.a, .int .i64 r.b, .int .i64 r.c, .int .i64 r.n]
theorem rCells_cons (r : Raw) (rs : List Raw) : rCells (r :: rs) = [.string r.memo, .int .i64 r.a, .int .i64 r.b, .int .i64 r.c, .int .i64 r.n] ++ rCells rs := rfl
theorem rCells_append (a b : List Raw) : rCells (a ++ b) = rCells a ++ rCells b := by unfold rCells; rw [List.flatMap_append]
theorem rCells_length : ∀ rs : List Raw, (rCells rs).length = rs.length * 5
  | [] => rfl
  | r :: rs => by rw [rCells_cons, List.length_append, rCells_length rs]; simp; omega
theorem rCells_one (rs : List Raw) : ∀ u ∈ rCells rs, u.oneCell' = true := by
  intro u hu
  obtain ⟨r, _, hr⟩ := List.mem_flatMap.1 hu
  simp only [List.mem_cons, List.not_mem_nil, or_false] at hr
  rcases hr with rfl | rfl | rfl | rfl | rfl <;> rfl
theorem rCells_at : ∀ (rs : List Raw) (i : Nat) (h : i < rs.length), (rCells rs)[i * 5]? = some (.string rs[i].memo) ∧ (rCells rs)[i * 5 + 1]? = some (.int .i64 rs[i].a) ∧ (rCells rs)[i * 5 + 2]? = some (.int .i64 rs[i].b) ∧ (rCells rs)[i * 5 + 3]? = some (.int .i64 rs[i].c) ∧ (rCells rs)[i * 5 + 4]? = some (.int .i64 rs[i].n)
  | [], i, h => absurd h (by simp)
  | r :: rs, 0, _ => ⟨rfl, rfl, rfl, rfl, rfl⟩
  | r :: rs, i + 1, h => by
    have ih := rCells_at rs i (by simpa using h)
    rw [rCells_cons]
    have e : ∀ j, ([.string r.memo, .int .i64 r.a, .int .i64 r.b, .int .i64 r.c, .int .i64 r.n] ++ rCells rs)[(i + 1) * 5 + j]? = (rCells rs)[i * 5 + j]? := fun j => by
      rw [List.getElem?_append_right (by simp; omega)]
      congr 1
      simp
      omega
    have e0 := e 0
    simp only [Nat.add_zero] at e0
    simp only [List.getElem_cons_succ]
    exact ⟨e0.trans ih.1, (e 1).trans ih.2.1, (e 2).trans ih.2.2.1, (e 3).trans ih.2.2.2.1, (e 4).trans ih.2.2.2.2⟩
theorem rCells_set : ∀ (rs : List Raw) (i : Nat) (h : i < rs.length) (m : ByteArray), (rCells rs).set (i * 5) (.string m) = rCells (rs.set i (rs[i].to m))
  | [], i, h, _ => absurd h (by simp)
  | r :: rs, 0, _, m => rfl
  | r :: rs, i + 1, h, m => by
    have ih := rCells_set rs i (by simpa using h) m
    simp only [List.set_cons_succ, List.getElem_cons_succ]
    rw [rCells_cons, rCells_cons, ← ih, List.set_append_right _ _ (by simp; omega)]
    congr 2
    simp
    omega
def OwnR (w : World) (B : Nat) (v : Value) (rs : List Raw) : Prop := w.ownsRow B 45 5 v rs.length (rCells rs)
theorem OwnR.below {w w' : World} {B : Nat} {v : Value} {rs : List Raw} (h : OwnR w B v rs) (hb : Below w.heap.size w w') : OwnR w' B v rs := ownsRow_below h hb
theorem OwnR.in_ {w : World} {B g n cap : Nat} {rs : List Raw} (h : OwnR w B (.slice (some ⟨g, 0, none⟩) n cap) rs) (hn : rs.length = n) : RawsIn w (some ⟨g, 0, none⟩) rs := by
  subst hn
  by_cases h0 : rs.length = 0
  · exact Or.inl h0
  · obtain ⟨g', cap', e, h1, h2⟩ := World.ownsRow.form h (by omega)
    simp only [Value.slice.injEq, Option.some.injEq, Addr.mk.injEq] at e
    refine Or.inr ⟨g, 0, rfl, by rw [e.1.1]; exact h2, fun i hi => ?_⟩
    obtain ⟨a0, a1, a2, a3, a4⟩ := rCells_at rs i hi
    have c := fun j (hj : j < rs.length * 5) => World.ownsRow.cellAt h j hj
    simp only [Nat.zero_add]
    exact ⟨(c _ (by omega)).trans a0, (c _ (by omega)).trans a1, (c _ (by omega)).trans a2, (c _ (by omega)).trans a3, (c _ (by omega)).trans a4⟩
/-- A copy of raw entries. -/
theorem copy_raws {W : World} {ao : Option Addr} {nr cap : Nat} {rs : List Raw} (ty : TypeId) (hl : rs.length = nr) (h : RawsIn W ao rs) (hb : nr ≤ 2932031007317) :
    ∃ v' w', (Builtin.append_ #[22, 22] ty #[.slice none 0 0, .slice ao nr cap]).run Try.prog W = .ok v' w' ∧ OwnR w' W.heap.size v' rs ∧ Below W.heap.size W w' := by
  obtain ⟨q0, qi, qz0, qz1, qz2⟩ := info_parts Try.infoRaw
  by_cases h0 : rs.length = 0
  · have e0 : rs = [] := List.eq_nil_of_length_eq_zero h0
    subst e0
    have en : nr = 0 := by simpa using hl.symm
    subst en
    refine ⟨.slice none 0 0, W, ?_, World.ownsRow_nil W _ _ _, Below.refl _ _⟩
    cases ao with
    | none => simp [Builtin.append_, run_underlying Try.underlying22, sizeOf, typeInfo, qi, Builtin.lenOf, Builtin.firstCells]
    | some a => simp [Builtin.append_, run_underlying Try.underlying22, sizeOf, typeInfo, qi, Builtin.lenOf, Builtin.firstCells, loadCells, loadCellsFrom]
  · rcases h with h | ⟨b, off, rfl, hbw, hat⟩
    · exact absurd h h0
    subst hl
    obtain ⟨v', w', hr, hown, hg, _, _⟩ := run_append_own_at (P := Try.prog) W W.heap.size 22 ty 45 q0 (.agg #[.string ByteArray.empty, .int .i64 0, .int .i64 0, .int .i64 0, .int .i64 0]) 5 48 Try.underlying22 qi qz0 qz1 qz2 rfl (by decide) (.slice none 0 0) 0 [] (World.ownsRow_nil W _ _ _) ⟨b, off, none⟩ rs.length cap (rCells rs) (rCells_length rs)
      (fun j u hu => by
        have hj : j < rs.length * 5 := by
          have := (List.getElem?_eq_some_iff.1 hu).1
          rw [rCells_length] at this; exact this
        have ea : Addr.add ⟨b, off, none⟩ j = ⟨b, off + j, none⟩ := by cases j <;> simp [Addr.add]
        rw [ea]
        have hi : j / 5 < rs.length := by omega
        obtain ⟨t0, t1, t2, t3, t4⟩ := hat (j / 5) hi
        obtain ⟨a0, a1, a2, a3, a4⟩ := rCells_at rs (j / 5) hi
        have hm : j % 5 = 0 ∨ j % 5 = 1 ∨ j % 5 = 2 ∨ j % 5 = 3 ∨ j % 5 = 4 := by omega
        rcases hm with hm | hm | hm | hm | hm
        · have e : j = j / 5 * 5 := by omega
          rw [e] at hu ⊢
          rw [a0] at hu
          simp only [Option.some.injEq] at hu
          subst hu
          exact t0
        · have e : j = j / 5 * 5 + 1 := by omega
          rw [e] at hu ⊢
          rw [a1] at hu
          simp only [Option.some.injEq] at hu
          subst hu
          rw [← Nat.add_assoc]
          exact t1
        · have e : j = j / 5 * 5 + 2 := by omega
          rw [e] at hu ⊢
          rw [a2] at hu
          simp only [Option.some.injEq] at hu
          subst hu
          rw [← Nat.add_assoc]
          exact t2
        · have e : j = j / 5 * 5 + 3 := by omega
          rw [e] at hu ⊢
          rw [a3] at hu
          simp only [Option.some.injEq] at hu
          subst hu
          rw [← Nat.add_assoc]
          exact t3
        · have e : j = j / 5 * 5 + 4 := by omega
          rw [e] at hu ⊢
          rw [a4] at hu
          simp only [Option.some.injEq] at hu
          subst hu
          rw [← Nat.add_assoc]
          exact t4)
      (rCells_one rs) (by unfold maxLen; omega) (by omega) (Nat.le_refl _)
    have hbl : Below W.heap.size W w' := (Below.refl _ _).grown hg (Nat.le_refl _) (fun k hk => by simp [Value.ownBlock] at hk)
    exact ⟨v', w', hr, by unfold OwnR; simpa using hown, hbl⟩
/-- Another memo is stored. -/
theorem OwnR.put {w : World} {B g n cap i : Nat} {rs : List Raw} (h : OwnR w B (.slice (some ⟨g, 0, none⟩) n cap) rs) (hn : rs.length = n) (hi : i < rs.length) (m : ByteArray) : OwnR (w.setCell ⟨g, i * 5, none⟩ (.string m)) B (.slice (some ⟨g, 0, none⟩) n cap) (rs.set i (rs[i].to m)) := by
  subst hn
  have s := World.ownsRow.stored h (i * 5) (.string m)
  unfold OwnR
  rw [List.length_set, ← rCells_set rs i hi m]
  exact s.1
end Go.Proofs.Ytpkkhkkkgjhkeab
