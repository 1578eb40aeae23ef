/-
  DERIVED. GIVEN WITH THE SEED: THE PROGRAM's TIES (one call each: nine closed facts by the kernel) AND EACH ROW's TIE, after the 31st guide's Derived/Test/Toyas{Tie, Card}.lean. No idea stands in it: it is a product of the set-up. Laid BY PROGRAM, IN A SANDBOX (cutbox-door.mjs). By AI agents, Wed Nov 11 2026. No macro, syntax, notation, axiom, sorry.
-/
import Derived.Test.YtiaidmjhgfaobaaDoorRows
import Derived.LaidByTextLater
import Derived.SevenTiedAt
import Derived.LaidSub
import Derived.LaidOnce
namespace Go.Proofs.YtiaidmjhgfaobaaDoor
open Go
set_option maxRecDepth 100000
theorem seatTie1 : Tryd.prog.laidByTextLater [("civiltime/interval.names", Rows.laid_civiltime_interval_names), ("civiltime/interval.sharing", Rows.laid_civiltime_interval_sharing), ("unicode/utf8.acceptRanges", Rows.laid_unicode_utf8_acceptRanges), ("civiltime/allen.compositions", Rows.laid_civiltime_allen_compositions), ("civiltime/allen.places", Rows.laid_civiltime_allen_places)] [.data, .data, .data, .data, .data] true :=
  Program.laidByTextLater_by_one 68 8 170 (by kernel_rfl) (by kernel_rfl) (by kernel_rfl) (by kernel_rfl) (by kernel_rfl) (by kernel_rfl) (fun _ _ => by kernel_rfl)
theorem pin_laid_unicode_utf8_first : Tryd.pinned.checked.prog.pinnedFits "unicode/utf8.first" = true := by kernel_rfl
theorem noOwnUnsafe : Tryd.pinned.checked.prog.headLifts.contains "ownunsafe" = false := by kernel_rfl
theorem tie : Tryd.prog.laidByTextLater [("civiltime/allen.compositions", Rows.laid_civiltime_allen_compositions), ("civiltime/allen.places", Rows.laid_civiltime_allen_places)] [.data, .data] true :=
  Program.laidByTextLater.sub seatTie1 ["civiltime/allen.compositions", "civiltime/allen.places"] (by kernel_rfl) (by kernel_rfl)
theorem allenComposes_row_tie : Rows.allenComposesRow.laidByTextAt .later Tryd.pinned [.data, .data] true :=
  OpenClaim.laidByTextAt_later rfl rfl tie noOwnUnsafe
theorem allenConvex_row_tie : Rows.allenConvexRow.laidByTextAt .later Tryd.pinned [.data, .data] true :=
  OpenClaim.laidByTextAt_later rfl rfl tie noOwnUnsafe
theorem allenAlgebra_row_tie : Rows.allenAlgebraRow.laidByTextAt .later Tryd.pinned [.data, .data] true :=
  OpenClaim.laidByTextAt_later rfl rfl tie noOwnUnsafe
theorem tie2 : Tryd.prog.laidByTextLater [("civiltime/interval.sharing", Rows.laid_civiltime_interval_sharing), ("civiltime/allen.compositions", Rows.laid_civiltime_allen_compositions), ("civiltime/allen.places", Rows.laid_civiltime_allen_places)] [.data, .data, .data] true :=
  Program.laidByTextLater.sub seatTie1 ["civiltime/interval.sharing", "civiltime/allen.compositions", "civiltime/allen.places"] (by kernel_rfl) (by kernel_rfl)
theorem allenBasics_row_tie : Rows.allenBasicsRow.laidByTextAt .later Tryd.pinned [.data, .data, .data] true :=
  OpenClaim.laidByTextAt_later rfl rfl tie2 noOwnUnsafe
theorem allenPossible_row_tie : Rows.allenPossibleRow.laidByTextAt .later Tryd.pinned [.data, .data, .data] true :=
  OpenClaim.laidByTextAt_later rfl rfl tie2 noOwnUnsafe
theorem allenSound_row_tie : Rows.allenSoundRow.laidByTextAt .later Tryd.pinned [.data, .data, .data] true :=
  OpenClaim.laidByTextAt_later rfl rfl tie2 noOwnUnsafe
theorem allenTight_row_tie : Rows.allenTightRow.laidByTextAt .later Tryd.pinned [.data, .data, .data] true :=
  OpenClaim.laidByTextAt_later rfl rfl tie2 noOwnUnsafe
theorem allenParts_row_tie : Rows.allenPartsRow.laidByTextAt .later Tryd.pinned [.data, .data, .data] true :=
  OpenClaim.laidByTextAt_later rfl rfl tie2 noOwnUnsafe
theorem fits3 : Tryd.pinned.checked.prog.listedFits [("civiltime/interval.names", Rows.laid_civiltime_interval_names), ("unicode/utf8.acceptRanges", Rows.laid_unicode_utf8_acceptRanges), ("civiltime/allen.compositions", Rows.laid_civiltime_allen_compositions), ("civiltime/allen.places", Rows.laid_civiltime_allen_places), ("unicode/utf8.first", Rows.laid_unicode_utf8_first)] = true := by
  unfold Program.listedFits
  rw [noOwnUnsafe]
  kernel_rfl
theorem tie3 : Tryd.prog.laidByTextLater [("civiltime/interval.names", Rows.laid_civiltime_interval_names), ("unicode/utf8.acceptRanges", Rows.laid_unicode_utf8_acceptRanges), ("civiltime/allen.compositions", Rows.laid_civiltime_allen_compositions), ("civiltime/allen.places", Rows.laid_civiltime_allen_places)] [.data, .data, .data, .data] true :=
  Program.laidByTextLater.sub seatTie1 ["civiltime/interval.names", "unicode/utf8.acceptRanges", "civiltime/allen.compositions", "civiltime/allen.places"] (by kernel_rfl) (by kernel_rfl)
theorem allenTexts_row_tie : Rows.allenTextsRow.laidByTextAt .later Tryd.pinned [.data, .data, .data, .data, .pinned] true :=
  OpenClaim.laidByTextAt_pinned rfl rfl tie3 rfl rfl rfl rfl (fun y hy _e => by
    simp only [Rows.allenTextsRow, List.zip_cons_cons, List.zip_nil_right, List.mem_cons, List.mem_nil_iff, or_false] at hy
    rcases hy with rfl | rfl | rfl | rfl | rfl
    · cases _e
    · cases _e
    · cases _e
    · cases _e
    · exact ⟨pin_laid_unicode_utf8_first, by kernel_rfl⟩) fits3
theorem allenBack_row_tie : Rows.allenBackRow.laidByTextAt .later Tryd.pinned [.data, .data, .data, .data, .pinned] true :=
  OpenClaim.laidByTextAt_pinned rfl rfl tie3 rfl rfl rfl rfl (fun y hy _e => by
    simp only [Rows.allenBackRow, List.zip_cons_cons, List.zip_nil_right, List.mem_cons, List.mem_nil_iff, or_false] at hy
    rcases hy with rfl | rfl | rfl | rfl | rfl
    · cases _e
    · cases _e
    · cases _e
    · cases _e
    · exact ⟨pin_laid_unicode_utf8_first, by kernel_rfl⟩) fits3
theorem allenComposesUpto_row_tie : Rows.allenComposesUptoRow.laidByTextAt .later Tryd.pinned [.data, .data] true :=
  OpenClaim.laidByTextAt_later rfl rfl tie noOwnUnsafe
theorem allenBasicsUpto_row_tie : Rows.allenBasicsUptoRow.laidByTextAt .later Tryd.pinned [.data, .data, .data] true :=
  OpenClaim.laidByTextAt_later rfl rfl tie2 noOwnUnsafe
theorem allenTextsUpto_row_tie : Rows.allenTextsUptoRow.laidByTextAt .later Tryd.pinned [.data, .data, .data, .data, .pinned] true :=
  OpenClaim.laidByTextAt_pinned rfl rfl tie3 rfl rfl rfl rfl (fun y hy _e => by
    simp only [Rows.allenTextsUptoRow, List.zip_cons_cons, List.zip_nil_right, List.mem_cons, List.mem_nil_iff, or_false] at hy
    rcases hy with rfl | rfl | rfl | rfl | rfl
    · cases _e
    · cases _e
    · cases _e
    · cases _e
    · exact ⟨pin_laid_unicode_utf8_first, by kernel_rfl⟩) fits3
theorem allenConvexUpto_row_tie : Rows.allenConvexUptoRow.laidByTextAt .later Tryd.pinned [.data, .data] true :=
  OpenClaim.laidByTextAt_later rfl rfl tie noOwnUnsafe
theorem allenPossibleUpto_row_tie : Rows.allenPossibleUptoRow.laidByTextAt .later Tryd.pinned [.data, .data, .data] true :=
  OpenClaim.laidByTextAt_later rfl rfl tie2 noOwnUnsafe
theorem allenSoundUpto_row_tie : Rows.allenSoundUptoRow.laidByTextAt .later Tryd.pinned [.data, .data, .data] true :=
  OpenClaim.laidByTextAt_later rfl rfl tie2 noOwnUnsafe
theorem allenTightUpto_row_tie : Rows.allenTightUptoRow.laidByTextAt .later Tryd.pinned [.data, .data, .data] true :=
  OpenClaim.laidByTextAt_later rfl rfl tie2 noOwnUnsafe
theorem allenAlgebraUpto_row_tie : Rows.allenAlgebraUptoRow.laidByTextAt .later Tryd.pinned [.data, .data] true :=
  OpenClaim.laidByTextAt_later rfl rfl tie noOwnUnsafe
theorem allenBackUpto_row_tie : Rows.allenBackUptoRow.laidByTextAt .later Tryd.pinned [.data, .data, .data, .data, .pinned] true :=
  OpenClaim.laidByTextAt_pinned rfl rfl tie3 rfl rfl rfl rfl (fun y hy _e => by
    simp only [Rows.allenBackUptoRow, List.zip_cons_cons, List.zip_nil_right, List.mem_cons, List.mem_nil_iff, or_false] at hy
    rcases hy with rfl | rfl | rfl | rfl | rfl
    · cases _e
    · cases _e
    · cases _e
    · cases _e
    · exact ⟨pin_laid_unicode_utf8_first, by kernel_rfl⟩) fits3
theorem allenPartsUpto_row_tie : Rows.allenPartsUptoRow.laidByTextAt .later Tryd.pinned [.data, .data, .data] true :=
  OpenClaim.laidByTextAt_later rfl rfl tie2 noOwnUnsafe
end Go.Proofs.YtiaidmjhgfaobaaDoor
