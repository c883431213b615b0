/-
  What comes in: the size of a string.
-/
import Derived.Test.YtpklphdhigkmmaaOpen
import Derived.Laws.IdiomArrays
namespace Go.Proofs.Ytpklphdhigkmmaa
open Go.ChangeShapes Go.WideShapes Go.ChangeAt Go.RowKit Go.Joins

theorem strBound {s : ByteArray} (h : s.size ≤ maxLen) : s.size ≤ 9223372036854775807 := by unfold maxLen at h; omega
end Go.Proofs.Ytpklphdhigkmmaa
