/- Contracts of the document's answers for layer 3: what is small. -/
import Derived.Test.YtfipcdhodojodaaGreatChecked
import Derived.Test.YtfipcdhodojodaaGreatKBas
import Derived.Test.YtfipcdhodojodaaGreatKRef
namespace Go.Proofs.YtfipcdhodojodaaGreat
open Go.RowKit
set_option linter.unusedVariables false
set_option linter.unusedSimpArgs false
set_option linter.unusedVariables false
set_option linter.unusedSimpArgs false
end Go.Proofs.YtfipcdhodojodaaGreat
namespace Go.Proofs.YtfipcdhodojodaaGreat
open Go.RowKit
set_option linter.unusedVariables false
set_option linter.unusedSimpArgs false
end Go.Proofs.YtfipcdhodojodaaGreat
