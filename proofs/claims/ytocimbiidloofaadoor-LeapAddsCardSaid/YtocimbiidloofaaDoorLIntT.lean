/- Contracts of strconv.FormatUint at base 10 and of integer.Text (Shelf: internal_strconv_small, _numDigits, _formatBase10, strings_Repeat). -/
import Derived.Test.YtocimbiidloofaaDoorLIntM

import Derived.Test.YtocimbiidloofaaDoorShelf

import Derived.Test.YtocimbiidloofaaDoorLDig

import Derived.Test.YtocimbiidloofaaDoorLGen

import Derived.Lib.AppendIntMem

import Derived.Lib.ItoaLen

import Derived.Lib.Walk

import Derived.WalkLawsBesides

import Derived.WalkSpells

namespace Go.Proofs.YtocimbiidloofaaDoor

open Go.RowKit Go.Sort Go.Lib

set_option linter.unusedVariables false
abbrev Tab (w : World) : Prop := Lib.TabIs Tryd.prog w "internal/strconv.uint64pow10" .u64 Lib.pow10Tab
theorem gTab : Tryd.prog.globalNamed "internal/strconv.uint64pow10" = some 4 := by kernel_rfl
theorem tab_below {w w' : World} (h : Tab w) (hb : Below w.heap.size w w') : Tab w' := Joins.tab_stays gTab h hb (Nat.le_refl _)
end Go.Proofs.YtocimbiidloofaaDoor
