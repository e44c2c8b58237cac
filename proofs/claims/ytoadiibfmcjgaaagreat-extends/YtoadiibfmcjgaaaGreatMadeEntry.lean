/-
  THE WALK of signetkeep.entry: an entry that is balanced, out of raw numbers.
-/
import Derived.Test.YtoadiibfmcjgaaaGreatMadeSpec
import Derived.Test.YtoadiibfmcjgaaaGreatPick
import Derived.Test.YtoadiibfmcjgaaaGreatTb
import Derived.Deep.AppendLies
namespace Go.Proofs.YtoadiibfmcjgaaaGreat
open Go.RowKit
set_option maxRecDepth 100000
attribute [local go_sem ↓] Go.wp_at_zero Go.wp_at_succ

theorem Tryz.infoPst2 : (Tryz.prog.info? 50).map (fun i => (i.zero, i.size, i.bytes)) = some (some (.agg #[.int .i64 0, .int .i64 0]), 2, 16) := by kernel_rfl
/-- Postings, cell by cell. -/
def pCells (ps : List Sg.Pst) : List Value := ps.flatMap fun p => [.int .i64 p.acct, .int .i64 p.amt]
theorem pCells_append (a b : List Sg.Pst) : pCells (a ++ b) = pCells a ++ pCells b := by unfold pCells; rw [List.flatMap_append]
/-- A list of postings that is the call's own. -/
def OwnP (w : World) (base : Nat) (v : Value) (ps : List Sg.Pst) : Prop := w.ownsRow base 50 2 v ps.length (pCells ps)
theorem OwnP.below {w w' : World} {base : Nat} {v : Value} {ps : List Sg.Pst} (h : OwnP w base v ps) (hb : Below w.heap.size w w') : OwnP w' base v ps := ownsRow_below h hb

theorem new_block2' (w : World) (o o' : Obj) (cs : Array Value) (t : TypeId) : (((w.alloc o).alloc o').alloc (.cells cs t)).heap[w.heap.size + 1 + 1]? = some (.cells cs t (0, 0)) := by
  have := heap_alloc_new ((w.alloc o).alloc o') (.cells cs t)
  have e : ((w.alloc o).alloc o').heap.size = w.heap.size + 1 + 1 := by simp
  rw [e] at this
  exact this

end Go.Proofs.YtoadiibfmcjgaaaGreat
