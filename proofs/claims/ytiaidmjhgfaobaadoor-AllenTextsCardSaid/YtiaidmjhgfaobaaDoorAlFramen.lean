/- What the rows of this group have in common: the listed tables, and how a span reads. -/
import Derived.Test.YtiaidmjhgfaobaaDoorAlTabF
import Derived.Test.YtiaidmjhgfaobaaDoorAlUn
import Derived.Test.YtiaidmjhgfaobaaDoorLIvF
namespace Go.Proofs.YtiaidmjhgfaobaaDoor
open Go.ChangeShapes Go.WideShapes Go.RowKit
theorem own : ownKnob Tryd.prog.godebug = none := by kernel_rfl
theorem table {W : World} (h : laidMetH Tryd.prog [("civiltime/interval.names", Rows.laid_civiltime_interval_names), ("unicode/utf8.acceptRanges", Rows.laid_unicode_utf8_acceptRanges), ("civiltime/allen.compositions", Rows.laid_civiltime_allen_compositions), ("civiltime/allen.places", Rows.laid_civiltime_allen_places), ("unicode/utf8.first", Rows.laid_unicode_utf8_first)] W) : Tabs W := by
  have h2 : laidMet Tryd.prog [("civiltime/interval.names", Rows.laid_civiltime_interval_names), ("unicode/utf8.acceptRanges", Rows.laid_unicode_utf8_acceptRanges), ("civiltime/allen.compositions", Rows.laid_civiltime_allen_compositions), ("civiltime/allen.places", Rows.laid_civiltime_allen_places), ("unicode/utf8.first", Rows.laid_unicode_utf8_first)] W := h
  exact ⟨comp_of_head h2.tail.tail, place_of_head h2.tail.tail.tail, names_of_head h2⟩
end Go.Proofs.YtiaidmjhgfaobaaDoor
