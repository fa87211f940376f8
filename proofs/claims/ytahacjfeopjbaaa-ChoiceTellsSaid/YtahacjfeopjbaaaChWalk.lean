/-
  What the six functions of layer 18 answer: all of it.
  Conditions: none beyond those that each theorem states.
-/
import Derived.Test.YtahacjfeopjbaaaChW
set_option maxRecDepth 4000
namespace Go.Proofs.Ytahacjfeopjbaaa
open Go.RowKit
end Go.Proofs.Ytahacjfeopjbaaa
