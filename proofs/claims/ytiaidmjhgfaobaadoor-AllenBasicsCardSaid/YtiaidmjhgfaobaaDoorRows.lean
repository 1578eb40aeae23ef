/-
  NARROWER THAN 'FOR EVERY INPUT', by the rows' own cells (each row's printed sentence says how): AllenComposes: laid · AllenBasics: laid · AllenTexts: laid · AllenConvex: laid · AllenPossible: laid · AllenSound: laid · AllenTight: laid · AllenAlgebra: laid · AllenBack: laid · AllenParts: laid.
  DERIVED. THE GIVEN ROWS OF THIS SEAT. 10 by the template 'for every input the law returns true; each argument reads behind the call as it read before'; 0 by the template 'total and deterministic' (their statements: YtiaidmjhgfaobaaDoorTotals.lean).
  GIVEN WITH THE SEED: the statements are not yours to turn. If you find one false, say at which input.
  Laid BY PROGRAM, IN A SANDBOX (cutbox-rows.mjs): the forced cells as the released guide's own fill.sh prints them over the translation 4b697e0064afecb1… (all of the seat's roots in one cut). By AI agents, Wed Nov 11 2026. No macro, syntax, notation, axiom, sorry.
-/
import Derived.Test.YtiaidmjhgfaobaaDoorChecked
import GoSem.PinnedTables
import GoSem.Claim
import GoSem.ClaimJoined
import GoSem.ClaimMapViews
import Derived.JoinedTies
import Derived.KernelRfl
namespace Go.Proofs.YtiaidmjhgfaobaaDoor
/- THE CELL 'sum', in the pinned program and in every row, IS THE sha256 OF THE DUMP (.gsa) THAT YtiaidmjhgfaobaaDoorProg.lean LOADS. Nothing in Lean hashes anything: it is a label: what it is worth is what the hold of that sum in a sandbox is worth. -/
noncomputable def Tryd.pinned : Pinned := { name := "ytiaidmjhgfaobaadoor", sum := "4b697e0064afecb1aaf1f259d43ebe82f36fecbb54f81b82691bf1fd8a18ad76", checked := Tryd.checked }
namespace Rows
def none {H : Type} : Left H := { results := [], args := [] }

/- WHAT THE LISTED PACKAGE-LEVEL VARIABLES READ AS WHEN THE CALL BEGINS. Each datum BY PROGRAM (the guide's laid-datum.mjs) off the statement by which the dump's own 'gosem.cut.vars' lays the variable. In a bare row this is a premise. The card (YtiaidmjhgfaobaaDoorCards.lean) ties it to the program's text. -/
def laid_civiltime_allen_compositions {H : Type} : DataW H := .agg [.agg [.lit (.int .u16 1), .lit (.int .u16 1), .lit (.int .u16 1), .lit (.int .u16 1), .lit (.int .u16 31), .lit (.int .u16 31), .lit (.int .u16 1), .lit (.int .u16 1), .lit (.int .u16 1), .lit (.int .u16 1), .lit (.int .u16 31), .lit (.int .u16 31), .lit (.int .u16 8191)], .agg [.lit (.int .u16 1), .lit (.int .u16 1), .lit (.int .u16 1), .lit (.int .u16 2), .lit (.int .u16 28), .lit (.int .u16 28), .lit (.int .u16 2), .lit (.int .u16 1), .lit (.int .u16 1), .lit (.int .u16 2), .lit (.int .u16 28), .lit (.int .u16 224), .lit (.int .u16 7936)], .agg [.lit (.int .u16 1), .lit (.int .u16 1), .lit (.int .u16 7), .lit (.int .u16 4), .lit (.int .u16 28), .lit (.int .u16 28), .lit (.int .u16 4), .lit (.int .u16 7), .lit (.int .u16 391), .lit (.int .u16 388), .lit (.int .u16 2044), .lit (.int .u16 1792), .lit (.int .u16 7936)], .agg [.lit (.int .u16 1), .lit (.int .u16 1), .lit (.int .u16 7), .lit (.int .u16 8), .lit (.int .u16 16), .lit (.int .u16 16), .lit (.int .u16 8), .lit (.int .u16 7), .lit (.int .u16 391), .lit (.int .u16 584), .lit (.int .u16 1072), .lit (.int .u16 2048), .lit (.int .u16 4096)], .agg [.lit (.int .u16 1), .lit (.int .u16 1), .lit (.int .u16 31), .lit (.int .u16 16), .lit (.int .u16 16), .lit (.int .u16 16), .lit (.int .u16 16), .lit (.int .u16 31), .lit (.int .u16 8191), .lit (.int .u16 7216), .lit (.int .u16 7216), .lit (.int .u16 4096), .lit (.int .u16 4096)], .agg [.lit (.int .u16 1), .lit (.int .u16 2), .lit (.int .u16 28), .lit (.int .u16 16), .lit (.int .u16 16), .lit (.int .u16 32), .lit (.int .u16 32), .lit (.int .u16 224), .lit (.int .u16 7936), .lit (.int .u16 7168), .lit (.int .u16 7168), .lit (.int .u16 4096), .lit (.int .u16 4096)], .agg [.lit (.int .u16 1), .lit (.int .u16 2), .lit (.int .u16 4), .lit (.int .u16 8), .lit (.int .u16 16), .lit (.int .u16 32), .lit (.int .u16 64), .lit (.int .u16 128), .lit (.int .u16 256), .lit (.int .u16 512), .lit (.int .u16 1024), .lit (.int .u16 2048), .lit (.int .u16 4096)], .agg [.lit (.int .u16 1), .lit (.int .u16 2), .lit (.int .u16 4), .lit (.int .u16 4), .lit (.int .u16 28), .lit (.int .u16 224), .lit (.int .u16 128), .lit (.int .u16 128), .lit (.int .u16 256), .lit (.int .u16 256), .lit (.int .u16 1792), .lit (.int .u16 1792), .lit (.int .u16 7936)], .agg [.lit (.int .u16 391), .lit (.int .u16 388), .lit (.int .u16 388), .lit (.int .u16 388), .lit (.int .u16 2044), .lit (.int .u16 1792), .lit (.int .u16 256), .lit (.int .u16 256), .lit (.int .u16 256), .lit (.int .u16 256), .lit (.int .u16 1792), .lit (.int .u16 1792), .lit (.int .u16 7936)], .agg [.lit (.int .u16 391), .lit (.int .u16 388), .lit (.int .u16 388), .lit (.int .u16 584), .lit (.int .u16 1072), .lit (.int .u16 1024), .lit (.int .u16 512), .lit (.int .u16 256), .lit (.int .u16 256), .lit (.int .u16 512), .lit (.int .u16 1024), .lit (.int .u16 2048), .lit (.int .u16 4096)], .agg [.lit (.int .u16 391), .lit (.int .u16 388), .lit (.int .u16 2044), .lit (.int .u16 1072), .lit (.int .u16 1072), .lit (.int .u16 1024), .lit (.int .u16 1024), .lit (.int .u16 1792), .lit (.int .u16 7936), .lit (.int .u16 7168), .lit (.int .u16 7168), .lit (.int .u16 4096), .lit (.int .u16 4096)], .agg [.lit (.int .u16 391), .lit (.int .u16 584), .lit (.int .u16 1072), .lit (.int .u16 1072), .lit (.int .u16 1072), .lit (.int .u16 2048), .lit (.int .u16 2048), .lit (.int .u16 2048), .lit (.int .u16 4096), .lit (.int .u16 4096), .lit (.int .u16 4096), .lit (.int .u16 4096), .lit (.int .u16 4096)], .agg [.lit (.int .u16 8191), .lit (.int .u16 7216), .lit (.int .u16 7216), .lit (.int .u16 7216), .lit (.int .u16 7216), .lit (.int .u16 4096), .lit (.int .u16 4096), .lit (.int .u16 4096), .lit (.int .u16 4096), .lit (.int .u16 4096), .lit (.int .u16 4096), .lit (.int .u16 4096), .lit (.int .u16 4096)]]
def laid_civiltime_allen_places {H : Type} : DataW H := .agg [.agg [.lit (.int .i64 1), .lit (.int .i64 1)], .agg [.lit (.int .i64 1), .lit (.int .i64 2)], .agg [.lit (.int .i64 1), .lit (.int .i64 3)], .agg [.lit (.int .i64 2), .lit (.int .i64 3)], .agg [.lit (.int .i64 3), .lit (.int .i64 3)], .agg [.lit (.int .i64 3), .lit (.int .i64 4)], .agg [.lit (.int .i64 2), .lit (.int .i64 4)], .agg [.lit (.int .i64 1), .lit (.int .i64 4)], .agg [.lit (.int .i64 1), .lit (.int .i64 5)], .agg [.lit (.int .i64 2), .lit (.int .i64 5)], .agg [.lit (.int .i64 3), .lit (.int .i64 5)], .agg [.lit (.int .i64 4), .lit (.int .i64 5)], .agg [.lit (.int .i64 5), .lit (.int .i64 5)]]
def laid_civiltime_interval_sharing {H : Type} : DataW H := .agg [.agg [.lit (.int .i64 2), .lit (.int .i64 7), .lit (.int .i64 8)], .agg [.lit (.int .i64 3), .lit (.int .i64 6), .lit (.int .i64 9)], .agg [.lit (.int .i64 4), .lit (.int .i64 5), .lit (.int .i64 10)]]
def laid_civiltime_interval_names {H : Type} : DataW H := .agg [.lit (.string [98, 101, 102, 111, 114, 101]), .lit (.string [109, 101, 101, 116, 115]), .lit (.string [111, 118, 101, 114, 108, 97, 112, 115]), .lit (.string [115, 116, 97, 114, 116, 115]), .lit (.string [100, 117, 114, 105, 110, 103]), .lit (.string [102, 105, 110, 105, 115, 104, 101, 115]), .lit (.string [101, 113, 117, 97, 108, 115]), .lit (.string [102, 105, 110, 105, 115, 104, 101, 100, 98, 121]), .lit (.string [99, 111, 110, 116, 97, 105, 110, 115]), .lit (.string [115, 116, 97, 114, 116, 101, 100, 98, 121]), .lit (.string [111, 118, 101, 114, 108, 97, 112, 112, 101, 100, 98, 121]), .lit (.string [109, 101, 116, 98, 121]), .lit (.string [97, 102, 116, 101, 114])]
def laid_unicode_utf8_acceptRanges {H : Type} : DataW H := .agg [.agg [.lit (.int .u8 128), .lit (.int .u8 191)], .agg [.lit (.int .u8 160), .lit (.int .u8 191)], .agg [.lit (.int .u8 128), .lit (.int .u8 159)], .agg [.lit (.int .u8 144), .lit (.int .u8 191)], .agg [.lit (.int .u8 128), .lit (.int .u8 143)], .agg [.lit (.int .u8 0), .lit (.int .u8 0)], .agg [.lit (.int .u8 0), .lit (.int .u8 0)], .agg [.lit (.int .u8 0), .lit (.int .u8 0)], .agg [.lit (.int .u8 0), .lit (.int .u8 0)], .agg [.lit (.int .u8 0), .lit (.int .u8 0)], .agg [.lit (.int .u8 0), .lit (.int .u8 0)], .agg [.lit (.int .u8 0), .lit (.int .u8 0)], .agg [.lit (.int .u8 0), .lit (.int .u8 0)], .agg [.lit (.int .u8 0), .lit (.int .u8 0)], .agg [.lit (.int .u8 0), .lit (.int .u8 0)], .agg [.lit (.int .u8 0), .lit (.int .u8 0)]]
/-- One of Go's own tables, pinned by name: the form's constant. -/
def laid_unicode_utf8_first : DataW Unit := Go.Pinned.utf8First

/-- 'civiltimelaw11.AllenComposes': WHATEVER THE INPUT: true; the input reads as it did. -/
def allenComposesSpec : ChangeSpec := { name := "allenComposes", fn := fun _ => fun
  | [d1, d2] => { results := [.lit (.bool true)], args := [d1, d2] }
  | _ => none }
def allenComposesRow : OpenClaim := { program := "ytiaidmjhgfaobaadoor", sum := "4b697e0064afecb1aaf1f259d43ebe82f36fecbb54f81b82691bf1fd8a18ad76", func := "civiltime/civiltimelaw11.AllenComposes", spec := "allenComposes", unfollowed := true, recurses := true, named := ["civiltime/allen.compositions", "civiltime/allen.places"], apart := false, laid := [("civiltime/allen.compositions", laid_civiltime_allen_compositions), ("civiltime/allen.places", laid_civiltime_allen_places)] }
def AllenComposesSaid : Prop := allenComposesRow.holds Tryd.pinned (OpenSpec.ofChange allenComposesSpec)

/-- ITS FALSE NEIGHBOUR: 'it returns false'. Refute it at one input. -/
def allenComposesWrong : ChangeSpec := { name := "allenComposes", fn := fun _ => fun
  | [d1, d2] => { results := [.lit (.bool false)], args := [d1, d2] }
  | _ => none }
def AllenComposesWrongFalsely : Prop := allenComposesRow.holds Tryd.pinned (OpenSpec.ofChange allenComposesWrong)

/-- 'civiltimelaw11.AllenBasics': WHATEVER THE INPUT: true; the input reads as it did. -/
def allenBasicsSpec : ChangeSpec := { name := "allenBasics", fn := fun _ => fun
  | [d1, d2, d3, d4, d5] => { results := [.lit (.bool true)], args := [d1, d2, d3, d4, d5] }
  | _ => none }
def allenBasicsRow : OpenClaim := { program := "ytiaidmjhgfaobaadoor", sum := "4b697e0064afecb1aaf1f259d43ebe82f36fecbb54f81b82691bf1fd8a18ad76", func := "civiltime/civiltimelaw11.AllenBasics", spec := "allenBasics", unfollowed := true, recurses := true, named := ["civiltime/allen.compositions", "civiltime/allen.places", "civiltime/interval.sharing"], apart := false, laid := [("civiltime/interval.sharing", laid_civiltime_interval_sharing), ("civiltime/allen.compositions", laid_civiltime_allen_compositions), ("civiltime/allen.places", laid_civiltime_allen_places)] }
def AllenBasicsSaid : Prop := allenBasicsRow.holds Tryd.pinned (OpenSpec.ofChange allenBasicsSpec)

/-- ITS FALSE NEIGHBOUR: 'it returns false'. Refute it at one input. -/
def allenBasicsWrong : ChangeSpec := { name := "allenBasics", fn := fun _ => fun
  | [d1, d2, d3, d4, d5] => { results := [.lit (.bool false)], args := [d1, d2, d3, d4, d5] }
  | _ => none }
def AllenBasicsWrongFalsely : Prop := allenBasicsRow.holds Tryd.pinned (OpenSpec.ofChange allenBasicsWrong)

/-- 'civiltimelaw11.AllenTexts': WHATEVER THE INPUT: true; the input reads as it did. -/
def allenTextsSpec : ChangeSpec := { name := "allenTexts", fn := fun _ => fun
  | [d1, d2] => { results := [.lit (.bool true)], args := [d1, d2] }
  | _ => none }
def allenTextsRow : OpenClaim := { program := "ytiaidmjhgfaobaadoor", sum := "4b697e0064afecb1aaf1f259d43ebe82f36fecbb54f81b82691bf1fd8a18ad76", func := "civiltime/civiltimelaw11.AllenTexts", spec := "allenTexts", inPlace := ["internal/bytealg.CountString", "internal/bytealg.IndexByteString", "internal/bytealg.IndexString", "internal/abi.NoEscape", "internal/bytealg.MakeNoZero"], unfollowed := true, recurses := true, named := ["civiltime/allen.compositions", "civiltime/allen.places", "unicode/utf8.first", "unicode/utf8.acceptRanges", "internal/bytealg.MaxLen", "civiltime/interval.names"], apart := false, laid := [("civiltime/interval.names", laid_civiltime_interval_names), ("unicode/utf8.acceptRanges", laid_unicode_utf8_acceptRanges), ("civiltime/allen.compositions", laid_civiltime_allen_compositions), ("civiltime/allen.places", laid_civiltime_allen_places), ("unicode/utf8.first", laid_unicode_utf8_first)] }
def AllenTextsSaid : Prop := allenTextsRow.holds Tryd.pinned (OpenSpec.ofChange allenTextsSpec)

/-- ITS FALSE NEIGHBOUR: 'it returns false'. Refute it at one input. -/
def allenTextsWrong : ChangeSpec := { name := "allenTexts", fn := fun _ => fun
  | [d1, d2] => { results := [.lit (.bool false)], args := [d1, d2] }
  | _ => none }
def AllenTextsWrongFalsely : Prop := allenTextsRow.holds Tryd.pinned (OpenSpec.ofChange allenTextsWrong)

/-- 'civiltimelaw11.AllenConvex': WHATEVER THE INPUT: true; the input reads as it did. -/
def allenConvexSpec : ChangeSpec := { name := "allenConvex", fn := fun _ => fun
  | [d1, d2] => { results := [.lit (.bool true)], args := [d1, d2] }
  | _ => none }
def allenConvexRow : OpenClaim := { program := "ytiaidmjhgfaobaadoor", sum := "4b697e0064afecb1aaf1f259d43ebe82f36fecbb54f81b82691bf1fd8a18ad76", func := "civiltime/civiltimelaw11.AllenConvex", spec := "allenConvex", unfollowed := true, recurses := true, named := ["civiltime/allen.compositions", "civiltime/allen.places"], apart := false, laid := [("civiltime/allen.compositions", laid_civiltime_allen_compositions), ("civiltime/allen.places", laid_civiltime_allen_places)] }
def AllenConvexSaid : Prop := allenConvexRow.holds Tryd.pinned (OpenSpec.ofChange allenConvexSpec)

/-- ITS FALSE NEIGHBOUR: 'it returns false'. Refute it at one input. -/
def allenConvexWrong : ChangeSpec := { name := "allenConvex", fn := fun _ => fun
  | [d1, d2] => { results := [.lit (.bool false)], args := [d1, d2] }
  | _ => none }
def AllenConvexWrongFalsely : Prop := allenConvexRow.holds Tryd.pinned (OpenSpec.ofChange allenConvexWrong)

/-- 'civiltimelaw11.AllenPossible': WHATEVER THE INPUT: true; the input reads as it did. -/
def allenPossibleSpec : ChangeSpec := { name := "allenPossible", fn := fun _ => fun
  | [d1, d2, d3, d4] => { results := [.lit (.bool true)], args := [d1, d2, d3, d4] }
  | _ => none }
def allenPossibleRow : OpenClaim := { program := "ytiaidmjhgfaobaadoor", sum := "4b697e0064afecb1aaf1f259d43ebe82f36fecbb54f81b82691bf1fd8a18ad76", func := "civiltime/civiltimelaw11.AllenPossible", spec := "allenPossible", unfollowed := true, recurses := true, named := ["civiltime/allen.compositions", "civiltime/allen.places", "civiltime/interval.sharing"], apart := false, laid := [("civiltime/interval.sharing", laid_civiltime_interval_sharing), ("civiltime/allen.compositions", laid_civiltime_allen_compositions), ("civiltime/allen.places", laid_civiltime_allen_places)] }
def AllenPossibleSaid : Prop := allenPossibleRow.holds Tryd.pinned (OpenSpec.ofChange allenPossibleSpec)

/-- ITS FALSE NEIGHBOUR: 'it returns false'. Refute it at one input. -/
def allenPossibleWrong : ChangeSpec := { name := "allenPossible", fn := fun _ => fun
  | [d1, d2, d3, d4] => { results := [.lit (.bool false)], args := [d1, d2, d3, d4] }
  | _ => none }
def AllenPossibleWrongFalsely : Prop := allenPossibleRow.holds Tryd.pinned (OpenSpec.ofChange allenPossibleWrong)

/-- 'civiltimelaw11.AllenSound': WHATEVER THE INPUT: true; the input reads as it did. -/
def allenSoundSpec : ChangeSpec := { name := "allenSound", fn := fun _ => fun
  | [d1, d2, d3] => { results := [.lit (.bool true)], args := [d1, d2, d3] }
  | _ => none }
def allenSoundRow : OpenClaim := { program := "ytiaidmjhgfaobaadoor", sum := "4b697e0064afecb1aaf1f259d43ebe82f36fecbb54f81b82691bf1fd8a18ad76", func := "civiltime/civiltimelaw11.AllenSound", spec := "allenSound", unfollowed := true, recurses := true, named := ["civiltime/allen.compositions", "civiltime/allen.places", "civiltime/interval.sharing"], apart := false, laid := [("civiltime/interval.sharing", laid_civiltime_interval_sharing), ("civiltime/allen.compositions", laid_civiltime_allen_compositions), ("civiltime/allen.places", laid_civiltime_allen_places)] }
def AllenSoundSaid : Prop := allenSoundRow.holds Tryd.pinned (OpenSpec.ofChange allenSoundSpec)

/-- ITS FALSE NEIGHBOUR: 'it returns false'. Refute it at one input. -/
def allenSoundWrong : ChangeSpec := { name := "allenSound", fn := fun _ => fun
  | [d1, d2, d3] => { results := [.lit (.bool false)], args := [d1, d2, d3] }
  | _ => none }
def AllenSoundWrongFalsely : Prop := allenSoundRow.holds Tryd.pinned (OpenSpec.ofChange allenSoundWrong)

/-- 'civiltimelaw11.AllenTight': WHATEVER THE INPUT: true; the input reads as it did. -/
def allenTightSpec : ChangeSpec := { name := "allenTight", fn := fun _ => fun
  | [d1, d2] => { results := [.lit (.bool true)], args := [d1, d2] }
  | _ => none }
def allenTightRow : OpenClaim := { program := "ytiaidmjhgfaobaadoor", sum := "4b697e0064afecb1aaf1f259d43ebe82f36fecbb54f81b82691bf1fd8a18ad76", func := "civiltime/civiltimelaw11.AllenTight", spec := "allenTight", unfollowed := true, recurses := true, named := ["civiltime/allen.compositions", "civiltime/allen.places", "civiltime/interval.sharing"], apart := false, laid := [("civiltime/interval.sharing", laid_civiltime_interval_sharing), ("civiltime/allen.compositions", laid_civiltime_allen_compositions), ("civiltime/allen.places", laid_civiltime_allen_places)] }
def AllenTightSaid : Prop := allenTightRow.holds Tryd.pinned (OpenSpec.ofChange allenTightSpec)

/-- ITS FALSE NEIGHBOUR: 'it returns false'. Refute it at one input. -/
def allenTightWrong : ChangeSpec := { name := "allenTight", fn := fun _ => fun
  | [d1, d2] => { results := [.lit (.bool false)], args := [d1, d2] }
  | _ => none }
def AllenTightWrongFalsely : Prop := allenTightRow.holds Tryd.pinned (OpenSpec.ofChange allenTightWrong)

/-- 'civiltimelaw11.AllenAlgebra': WHATEVER THE INPUT: true; the input reads as it did. -/
def allenAlgebraSpec : ChangeSpec := { name := "allenAlgebra", fn := fun _ => fun
  | [d1, d2, d3] => { results := [.lit (.bool true)], args := [d1, d2, d3] }
  | _ => none }
def allenAlgebraRow : OpenClaim := { program := "ytiaidmjhgfaobaadoor", sum := "4b697e0064afecb1aaf1f259d43ebe82f36fecbb54f81b82691bf1fd8a18ad76", func := "civiltime/civiltimelaw11.AllenAlgebra", spec := "allenAlgebra", unfollowed := true, recurses := true, named := ["civiltime/allen.compositions", "civiltime/allen.places"], apart := false, laid := [("civiltime/allen.compositions", laid_civiltime_allen_compositions), ("civiltime/allen.places", laid_civiltime_allen_places)] }
def AllenAlgebraSaid : Prop := allenAlgebraRow.holds Tryd.pinned (OpenSpec.ofChange allenAlgebraSpec)

/-- ITS FALSE NEIGHBOUR: 'it returns false'. Refute it at one input. -/
def allenAlgebraWrong : ChangeSpec := { name := "allenAlgebra", fn := fun _ => fun
  | [d1, d2, d3] => { results := [.lit (.bool false)], args := [d1, d2, d3] }
  | _ => none }
def AllenAlgebraWrongFalsely : Prop := allenAlgebraRow.holds Tryd.pinned (OpenSpec.ofChange allenAlgebraWrong)

/-- 'civiltimelaw11.AllenBack': WHATEVER THE INPUT: true; the input reads as it did. -/
def allenBackSpec : ChangeSpec := { name := "allenBack", fn := fun _ => fun
  | [d1, d2] => { results := [.lit (.bool true)], args := [d1, d2] }
  | _ => none }
def allenBackRow : OpenClaim := { program := "ytiaidmjhgfaobaadoor", sum := "4b697e0064afecb1aaf1f259d43ebe82f36fecbb54f81b82691bf1fd8a18ad76", func := "civiltime/civiltimelaw11.AllenBack", spec := "allenBack", inPlace := ["internal/abi.NoEscape", "internal/bytealg.MakeNoZero", "internal/bytealg.CountString", "internal/bytealg.IndexByteString", "internal/bytealg.IndexString"], unfollowed := true, recurses := true, named := ["civiltime/allen.compositions", "civiltime/allen.places", "civiltime/interval.names", "unicode/utf8.first", "unicode/utf8.acceptRanges", "internal/bytealg.MaxLen"], apart := false, laid := [("civiltime/interval.names", laid_civiltime_interval_names), ("unicode/utf8.acceptRanges", laid_unicode_utf8_acceptRanges), ("civiltime/allen.compositions", laid_civiltime_allen_compositions), ("civiltime/allen.places", laid_civiltime_allen_places), ("unicode/utf8.first", laid_unicode_utf8_first)] }
def AllenBackSaid : Prop := allenBackRow.holds Tryd.pinned (OpenSpec.ofChange allenBackSpec)

/-- ITS FALSE NEIGHBOUR: 'it returns false'. Refute it at one input. -/
def allenBackWrong : ChangeSpec := { name := "allenBack", fn := fun _ => fun
  | [d1, d2] => { results := [.lit (.bool false)], args := [d1, d2] }
  | _ => none }
def AllenBackWrongFalsely : Prop := allenBackRow.holds Tryd.pinned (OpenSpec.ofChange allenBackWrong)

/-- 'civiltimelaw11.AllenParts': WHATEVER THE INPUT: true; the input reads as it did. -/
def allenPartsSpec : ChangeSpec := { name := "allenParts", fn := fun _ => fun
  | [d1, d2, d3, d4] => { results := [.lit (.bool true)], args := [d1, d2, d3, d4] }
  | _ => none }
def allenPartsRow : OpenClaim := { program := "ytiaidmjhgfaobaadoor", sum := "4b697e0064afecb1aaf1f259d43ebe82f36fecbb54f81b82691bf1fd8a18ad76", func := "civiltime/civiltimelaw11.AllenParts", spec := "allenParts", unfollowed := true, recurses := true, named := ["civiltime/allen.compositions", "civiltime/allen.places", "civiltime/interval.sharing"], apart := false, laid := [("civiltime/interval.sharing", laid_civiltime_interval_sharing), ("civiltime/allen.compositions", laid_civiltime_allen_compositions), ("civiltime/allen.places", laid_civiltime_allen_places)] }
def AllenPartsSaid : Prop := allenPartsRow.holds Tryd.pinned (OpenSpec.ofChange allenPartsSpec)

/-- ITS FALSE NEIGHBOUR: 'it returns false'. Refute it at one input. -/
def allenPartsWrong : ChangeSpec := { name := "allenParts", fn := fun _ => fun
  | [d1, d2, d3, d4] => { results := [.lit (.bool false)], args := [d1, d2, d3, d4] }
  | _ => none }
def AllenPartsWrongFalsely : Prop := allenPartsRow.holds Tryd.pinned (OpenSpec.ofChange allenPartsWrong)

/- THE SECOND FORM. 'bulk': how many values and letters a reading holds, each counted each time it is reached (what is shared counts as often as it is met; a slice's spare places count too). A statement '..UptoSaid' is the law's where the arguments, and the package variables that the reading takes, are together of bulk at most 1048576: NARROWER than '..Said'. Prove '..Said' where nothing that the law and all that it calls make is longer than what came in: it says more and counts as full. Else prove '..UptoSaid'. A law counts once. -/
mutual
def uptoBulk {H : Type} : DataW H → Nat
  | .lit (.string bytes) => bytes.length + 1
  | .lit _ => 1
  | .nil => 1
  | .ptr d => uptoBulk d + 1
  | .slice elems spare => uptoBulkAll elems + uptoBulkAll spare + 1
  | .agg parts => uptoBulkAll parts + 1
  | .iface _ d => uptoBulk d + 1
  | .map entries => uptoBulkEntries entries + 1
  | .held _ => 1
def uptoBulkAll {H : Type} : List (DataW H) → Nat
  | [] => 0
  | d :: r => uptoBulk d + uptoBulkAll r
def uptoBulkEntries {H : Type} : List (Lit × DataW H) → Nat
  | [] => 0
  | x :: r => uptoBulkEntry x + uptoBulkEntries r
def uptoBulkEntry {H : Type} : Lit × DataW H → Nat
  | (.string bytes, d) => bytes.length + uptoBulk d + 1
  | (_, d) => uptoBulk d + 1
 end
def uptoSmall : (H : Type) → List (DataW H) → Bool := fun _ ds => decide (uptoBulkAll ds ≤ 1048576)
def OpenSpec.upto (s : _root_.Go.ChangeSpec) : _root_.Go.OpenSpec := { _root_.Go.OpenSpec.ofChange s with cond := some uptoSmall }

/-- 'civiltimelaw11.AllenComposes', WHERE WHAT IT READS IS OF BULK AT MOST 1048576: true; the input reads as it did. -/
def allenComposesUptoRow : OpenClaim := { program := "ytiaidmjhgfaobaadoor", sum := "4b697e0064afecb1aaf1f259d43ebe82f36fecbb54f81b82691bf1fd8a18ad76", func := "civiltime/civiltimelaw11.AllenComposes", spec := "allenComposes", unfollowed := true, recurses := true, named := ["civiltime/allen.compositions", "civiltime/allen.places"], apart := false, laid := [("civiltime/allen.compositions", laid_civiltime_allen_compositions), ("civiltime/allen.places", laid_civiltime_allen_places)], narrowed := true }
def AllenComposesUptoSaid : Prop := allenComposesUptoRow.holds Tryd.pinned (OpenSpec.upto allenComposesSpec)

/-- 'civiltimelaw11.AllenBasics', WHERE WHAT IT READS IS OF BULK AT MOST 1048576: true; the input reads as it did. -/
def allenBasicsUptoRow : OpenClaim := { program := "ytiaidmjhgfaobaadoor", sum := "4b697e0064afecb1aaf1f259d43ebe82f36fecbb54f81b82691bf1fd8a18ad76", func := "civiltime/civiltimelaw11.AllenBasics", spec := "allenBasics", unfollowed := true, recurses := true, named := ["civiltime/allen.compositions", "civiltime/allen.places", "civiltime/interval.sharing"], apart := false, laid := [("civiltime/interval.sharing", laid_civiltime_interval_sharing), ("civiltime/allen.compositions", laid_civiltime_allen_compositions), ("civiltime/allen.places", laid_civiltime_allen_places)], narrowed := true }
def AllenBasicsUptoSaid : Prop := allenBasicsUptoRow.holds Tryd.pinned (OpenSpec.upto allenBasicsSpec)

/-- 'civiltimelaw11.AllenTexts', WHERE WHAT IT READS IS OF BULK AT MOST 1048576: true; the input reads as it did. -/
def allenTextsUptoRow : OpenClaim := { program := "ytiaidmjhgfaobaadoor", sum := "4b697e0064afecb1aaf1f259d43ebe82f36fecbb54f81b82691bf1fd8a18ad76", func := "civiltime/civiltimelaw11.AllenTexts", spec := "allenTexts", inPlace := ["internal/bytealg.CountString", "internal/bytealg.IndexByteString", "internal/bytealg.IndexString", "internal/abi.NoEscape", "internal/bytealg.MakeNoZero"], unfollowed := true, recurses := true, named := ["civiltime/allen.compositions", "civiltime/allen.places", "unicode/utf8.first", "unicode/utf8.acceptRanges", "internal/bytealg.MaxLen", "civiltime/interval.names"], apart := false, laid := [("civiltime/interval.names", laid_civiltime_interval_names), ("unicode/utf8.acceptRanges", laid_unicode_utf8_acceptRanges), ("civiltime/allen.compositions", laid_civiltime_allen_compositions), ("civiltime/allen.places", laid_civiltime_allen_places), ("unicode/utf8.first", laid_unicode_utf8_first)], narrowed := true }
def AllenTextsUptoSaid : Prop := allenTextsUptoRow.holds Tryd.pinned (OpenSpec.upto allenTextsSpec)

/-- 'civiltimelaw11.AllenConvex', WHERE WHAT IT READS IS OF BULK AT MOST 1048576: true; the input reads as it did. -/
def allenConvexUptoRow : OpenClaim := { program := "ytiaidmjhgfaobaadoor", sum := "4b697e0064afecb1aaf1f259d43ebe82f36fecbb54f81b82691bf1fd8a18ad76", func := "civiltime/civiltimelaw11.AllenConvex", spec := "allenConvex", unfollowed := true, recurses := true, named := ["civiltime/allen.compositions", "civiltime/allen.places"], apart := false, laid := [("civiltime/allen.compositions", laid_civiltime_allen_compositions), ("civiltime/allen.places", laid_civiltime_allen_places)], narrowed := true }
def AllenConvexUptoSaid : Prop := allenConvexUptoRow.holds Tryd.pinned (OpenSpec.upto allenConvexSpec)

/-- 'civiltimelaw11.AllenPossible', WHERE WHAT IT READS IS OF BULK AT MOST 1048576: true; the input reads as it did. -/
def allenPossibleUptoRow : OpenClaim := { program := "ytiaidmjhgfaobaadoor", sum := "4b697e0064afecb1aaf1f259d43ebe82f36fecbb54f81b82691bf1fd8a18ad76", func := "civiltime/civiltimelaw11.AllenPossible", spec := "allenPossible", unfollowed := true, recurses := true, named := ["civiltime/allen.compositions", "civiltime/allen.places", "civiltime/interval.sharing"], apart := false, laid := [("civiltime/interval.sharing", laid_civiltime_interval_sharing), ("civiltime/allen.compositions", laid_civiltime_allen_compositions), ("civiltime/allen.places", laid_civiltime_allen_places)], narrowed := true }
def AllenPossibleUptoSaid : Prop := allenPossibleUptoRow.holds Tryd.pinned (OpenSpec.upto allenPossibleSpec)

/-- 'civiltimelaw11.AllenSound', WHERE WHAT IT READS IS OF BULK AT MOST 1048576: true; the input reads as it did. -/
def allenSoundUptoRow : OpenClaim := { program := "ytiaidmjhgfaobaadoor", sum := "4b697e0064afecb1aaf1f259d43ebe82f36fecbb54f81b82691bf1fd8a18ad76", func := "civiltime/civiltimelaw11.AllenSound", spec := "allenSound", unfollowed := true, recurses := true, named := ["civiltime/allen.compositions", "civiltime/allen.places", "civiltime/interval.sharing"], apart := false, laid := [("civiltime/interval.sharing", laid_civiltime_interval_sharing), ("civiltime/allen.compositions", laid_civiltime_allen_compositions), ("civiltime/allen.places", laid_civiltime_allen_places)], narrowed := true }
def AllenSoundUptoSaid : Prop := allenSoundUptoRow.holds Tryd.pinned (OpenSpec.upto allenSoundSpec)

/-- 'civiltimelaw11.AllenTight', WHERE WHAT IT READS IS OF BULK AT MOST 1048576: true; the input reads as it did. -/
def allenTightUptoRow : OpenClaim := { program := "ytiaidmjhgfaobaadoor", sum := "4b697e0064afecb1aaf1f259d43ebe82f36fecbb54f81b82691bf1fd8a18ad76", func := "civiltime/civiltimelaw11.AllenTight", spec := "allenTight", unfollowed := true, recurses := true, named := ["civiltime/allen.compositions", "civiltime/allen.places", "civiltime/interval.sharing"], apart := false, laid := [("civiltime/interval.sharing", laid_civiltime_interval_sharing), ("civiltime/allen.compositions", laid_civiltime_allen_compositions), ("civiltime/allen.places", laid_civiltime_allen_places)], narrowed := true }
def AllenTightUptoSaid : Prop := allenTightUptoRow.holds Tryd.pinned (OpenSpec.upto allenTightSpec)

/-- 'civiltimelaw11.AllenAlgebra', WHERE WHAT IT READS IS OF BULK AT MOST 1048576: true; the input reads as it did. -/
def allenAlgebraUptoRow : OpenClaim := { program := "ytiaidmjhgfaobaadoor", sum := "4b697e0064afecb1aaf1f259d43ebe82f36fecbb54f81b82691bf1fd8a18ad76", func := "civiltime/civiltimelaw11.AllenAlgebra", spec := "allenAlgebra", unfollowed := true, recurses := true, named := ["civiltime/allen.compositions", "civiltime/allen.places"], apart := false, laid := [("civiltime/allen.compositions", laid_civiltime_allen_compositions), ("civiltime/allen.places", laid_civiltime_allen_places)], narrowed := true }
def AllenAlgebraUptoSaid : Prop := allenAlgebraUptoRow.holds Tryd.pinned (OpenSpec.upto allenAlgebraSpec)

/-- 'civiltimelaw11.AllenBack', WHERE WHAT IT READS IS OF BULK AT MOST 1048576: true; the input reads as it did. -/
def allenBackUptoRow : OpenClaim := { program := "ytiaidmjhgfaobaadoor", sum := "4b697e0064afecb1aaf1f259d43ebe82f36fecbb54f81b82691bf1fd8a18ad76", func := "civiltime/civiltimelaw11.AllenBack", spec := "allenBack", inPlace := ["internal/abi.NoEscape", "internal/bytealg.MakeNoZero", "internal/bytealg.CountString", "internal/bytealg.IndexByteString", "internal/bytealg.IndexString"], unfollowed := true, recurses := true, named := ["civiltime/allen.compositions", "civiltime/allen.places", "civiltime/interval.names", "unicode/utf8.first", "unicode/utf8.acceptRanges", "internal/bytealg.MaxLen"], apart := false, laid := [("civiltime/interval.names", laid_civiltime_interval_names), ("unicode/utf8.acceptRanges", laid_unicode_utf8_acceptRanges), ("civiltime/allen.compositions", laid_civiltime_allen_compositions), ("civiltime/allen.places", laid_civiltime_allen_places), ("unicode/utf8.first", laid_unicode_utf8_first)], narrowed := true }
def AllenBackUptoSaid : Prop := allenBackUptoRow.holds Tryd.pinned (OpenSpec.upto allenBackSpec)

/-- 'civiltimelaw11.AllenParts', WHERE WHAT IT READS IS OF BULK AT MOST 1048576: true; the input reads as it did. -/
def allenPartsUptoRow : OpenClaim := { program := "ytiaidmjhgfaobaadoor", sum := "4b697e0064afecb1aaf1f259d43ebe82f36fecbb54f81b82691bf1fd8a18ad76", func := "civiltime/civiltimelaw11.AllenParts", spec := "allenParts", unfollowed := true, recurses := true, named := ["civiltime/allen.compositions", "civiltime/allen.places", "civiltime/interval.sharing"], apart := false, laid := [("civiltime/interval.sharing", laid_civiltime_interval_sharing), ("civiltime/allen.compositions", laid_civiltime_allen_compositions), ("civiltime/allen.places", laid_civiltime_allen_places)], narrowed := true }
def AllenPartsUptoSaid : Prop := allenPartsUptoRow.holds Tryd.pinned (OpenSpec.upto allenPartsSpec)

end Rows
end Go.Proofs.YtiaidmjhgfaobaaDoor
