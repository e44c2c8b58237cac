/-
  signetref.Seal.
-/
import Derived.Test.YtoadiibfmcjgaabCloseWalk
import Derived.Test.YtoadiibfmcjgaabPackageWalk
namespace Go.Proofs.Ytoadiibfmcjgaab
open Go.RowKit
set_option maxRecDepth 100000
attribute [local go_sem ↓] Go.wp_at_zero Go.wp_at_succ

namespace Sg
/-- What Seal answers. -/
def package (h : Hist) : ByteArray := if closeErr h = 0 then pkTo h (balances h) (totals h) h.pers.length else ByteArray.empty
def headOf (h : Hist) : ByteArray := if closeErr h = 0 then (hdTo h (balances h) (totals h) h.pers.length).2 else ByteArray.empty
end Sg

end Go.Proofs.Ytoadiibfmcjgaab
