/-
  Having a topic in common: the walk of Meet.
-/
import Derived.Test.YtlpkeimcklhdbaaTcovers
namespace Go.Proofs.Ytlpkeimcklhdbaa
open Go.ChangeShapes Go.WideShapes Go.ChangeAt Go.RowKit Go.Shelf

attribute [local go_sem] Oper.semAt_some

end Go.Proofs.Ytlpkeimcklhdbaa
