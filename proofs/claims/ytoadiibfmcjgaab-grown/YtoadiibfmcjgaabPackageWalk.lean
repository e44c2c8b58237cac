/-
  THE WALK of signetref.Books.Package.
-/
import Derived.Test.YtoadiibfmcjgaabPackage
namespace Go.Proofs.Ytoadiibfmcjgaab
open Go.RowKit
set_option maxRecDepth 100000
attribute [local go_sem ↓] Go.wp_at_zero Go.wp_at_succ

end Go.Proofs.Ytoadiibfmcjgaab
