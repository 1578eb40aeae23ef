/- Contracts of the functions of Go's library that the program calls, at this translation: each is one application of a theorem of the library. -/
import Derived.Shelf.Strings.Prefix
import Derived.Shelf.Strconv.ErrVarAll
import Derived.Shelf.Strconv.AtoiAll
import Derived.Test.YtehbegjocdahmaaDoorProg
namespace Go.Proofs
open Go.Shelf
end Go.Proofs
