import Derived.Test.YtlmflighkkgikaaP47

namespace Go.Proofs.Ytlmflighkkgikaa
open Go.ChangeShapes Go.WideShapes Go.ChangeAt Go.RowKit Go.Deep
section
variable {H : Type} {enc : TypeId × Value → H}
end
end Go.Proofs.Ytlmflighkkgikaa
