/- No store, no drive, a drive without power. -/
import Derived.Test.YtijbgdihnjnllaaGreatSMake
namespace Go.Proofs.YtijbgdihnjnllaaGreat
open Go.RowKit
set_option linter.unusedVariables false
set_option maxRecDepth 20000
section
variable {w0 w : World} {d N : Nat} {O : List Nat} {s : DS}
end
end Go.Proofs.YtijbgdihnjnllaaGreat
