/-
  NARROWER THAN 'FOR EVERY INPUT', by the rows' own cells (each row's printed sentence says how): WeekDates: laid · WeekDays: laid · WeekYears: laid · WeekTexts: laid · WeekOrdinals: laid · WeekBack: laid · WeekNext: laid · WeekMinimal: laid · WeekParses: laid.
  DERIVED. THE GIVEN ROWS OF THIS SEAT. 9 by the template 'for every input the law returns true; each argument reads behind the call as it read before'; 0 by the template 'total and deterministic' (their statements: YtimpaaimdjlhjaaDoorTotals.lean).
  GIVEN WITH THE SEED: the statements are not yours to turn. If you find one false, say at which input.
  Laid BY PROGRAM, IN A SANDBOX (cutbox-rows.mjs): the forced cells as the released guide's own fill.sh prints them over the translation fe67abd46a348d15… (all of the seat's roots in one cut). By AI agents, Wed Nov 11 2026. No macro, syntax, notation, axiom, sorry.
-/
import Derived.Test.YtimpaaimdjlhjaaDoorChecked
import GoSem.Claim
import GoSem.ClaimJoined
import GoSem.ClaimMapViews
import Derived.JoinedTies
import Derived.KernelRfl
namespace Go.Proofs.YtimpaaimdjlhjaaDoor
/- THE CELL 'sum', in the pinned program and in every row, IS THE sha256 OF THE DUMP (.gsa) THAT YtimpaaimdjlhjaaDoorProg.lean LOADS. Nothing in Lean hashes anything: it is a label: what it is worth is what the hold of that sum in a sandbox is worth. -/
noncomputable def Tryd.pinned : Pinned := { name := "ytimpaaimdjlhjaadoor", sum := "fe67abd46a348d15665be7b674e75c1ed2fb41dd6b4a3be399d7809639574de8", checked := Tryd.checked }
namespace Rows
def none {H : Type} : Left H := { results := [], args := [] }

/- WHAT THE LISTED PACKAGE-LEVEL VARIABLES READ AS WHEN THE CALL BEGINS. Each datum BY PROGRAM (the guide's laid-datum.mjs) off the statement by which the dump's own 'gosem.cut.vars' lays the variable. In a bare row this is a premise. The card (YtimpaaimdjlhjaaDoorCards.lean) ties it to the program's text. -/
def laid_civiltime_civil_lengths {H : Type} : DataW H := .agg [.lit (.int .i64 0), .lit (.int .i64 31), .lit (.int .i64 28), .lit (.int .i64 31), .lit (.int .i64 30), .lit (.int .i64 31), .lit (.int .i64 30), .lit (.int .i64 31), .lit (.int .i64 31), .lit (.int .i64 30), .lit (.int .i64 31), .lit (.int .i64 30), .lit (.int .i64 31)]
def laid_math_bits_deBruijn32tab {H : Type} : DataW H := .agg [.lit (.int .u8 0), .lit (.int .u8 1), .lit (.int .u8 28), .lit (.int .u8 2), .lit (.int .u8 29), .lit (.int .u8 14), .lit (.int .u8 24), .lit (.int .u8 3), .lit (.int .u8 30), .lit (.int .u8 22), .lit (.int .u8 20), .lit (.int .u8 15), .lit (.int .u8 25), .lit (.int .u8 17), .lit (.int .u8 4), .lit (.int .u8 8), .lit (.int .u8 31), .lit (.int .u8 27), .lit (.int .u8 13), .lit (.int .u8 23), .lit (.int .u8 21), .lit (.int .u8 19), .lit (.int .u8 16), .lit (.int .u8 7), .lit (.int .u8 26), .lit (.int .u8 12), .lit (.int .u8 18), .lit (.int .u8 6), .lit (.int .u8 11), .lit (.int .u8 5), .lit (.int .u8 10), .lit (.int .u8 9)]
def laid_math_bits_deBruijn64tab {H : Type} : DataW H := .agg [.lit (.int .u8 0), .lit (.int .u8 1), .lit (.int .u8 56), .lit (.int .u8 2), .lit (.int .u8 57), .lit (.int .u8 49), .lit (.int .u8 28), .lit (.int .u8 3), .lit (.int .u8 61), .lit (.int .u8 58), .lit (.int .u8 42), .lit (.int .u8 50), .lit (.int .u8 38), .lit (.int .u8 29), .lit (.int .u8 17), .lit (.int .u8 4), .lit (.int .u8 62), .lit (.int .u8 47), .lit (.int .u8 59), .lit (.int .u8 36), .lit (.int .u8 45), .lit (.int .u8 43), .lit (.int .u8 51), .lit (.int .u8 22), .lit (.int .u8 53), .lit (.int .u8 39), .lit (.int .u8 33), .lit (.int .u8 30), .lit (.int .u8 24), .lit (.int .u8 18), .lit (.int .u8 12), .lit (.int .u8 5), .lit (.int .u8 63), .lit (.int .u8 55), .lit (.int .u8 48), .lit (.int .u8 27), .lit (.int .u8 60), .lit (.int .u8 41), .lit (.int .u8 37), .lit (.int .u8 16), .lit (.int .u8 46), .lit (.int .u8 35), .lit (.int .u8 44), .lit (.int .u8 21), .lit (.int .u8 52), .lit (.int .u8 32), .lit (.int .u8 23), .lit (.int .u8 11), .lit (.int .u8 54), .lit (.int .u8 26), .lit (.int .u8 40), .lit (.int .u8 15), .lit (.int .u8 34), .lit (.int .u8 20), .lit (.int .u8 31), .lit (.int .u8 10), .lit (.int .u8 25), .lit (.int .u8 14), .lit (.int .u8 19), .lit (.int .u8 9), .lit (.int .u8 13), .lit (.int .u8 8), .lit (.int .u8 7), .lit (.int .u8 6)]
def laid_internal_strconv_uint64pow10 {H : Type} : DataW H := .agg [.lit (.int .u64 1), .lit (.int .u64 10), .lit (.int .u64 100), .lit (.int .u64 1000), .lit (.int .u64 10000), .lit (.int .u64 100000), .lit (.int .u64 1000000), .lit (.int .u64 10000000), .lit (.int .u64 100000000), .lit (.int .u64 1000000000), .lit (.int .u64 10000000000), .lit (.int .u64 100000000000), .lit (.int .u64 1000000000000), .lit (.int .u64 10000000000000), .lit (.int .u64 100000000000000), .lit (.int .u64 1000000000000000), .lit (.int .u64 10000000000000000), .lit (.int .u64 100000000000000000), .lit (.int .u64 1000000000000000000), .lit (.int .u64 10000000000000000000)]
def laid_strconv_ErrRange {H : Type} : DataW H := .iface "*errors.errorString" (.ptr (.agg [.lit (.string [118, 97, 108, 117, 101, 32, 111, 117, 116, 32, 111, 102, 32, 114, 97, 110, 103, 101])]))
def laid_strconv_ErrSyntax {H : Type} : DataW H := .iface "*errors.errorString" (.ptr (.agg [.lit (.string [105, 110, 118, 97, 108, 105, 100, 32, 115, 121, 110, 116, 97, 120])]))

/-- 'civiltimelaw03.WeekDates': WHATEVER THE INPUT: true; the input reads as it did. -/
def weekDatesSpec : ChangeSpec := { name := "weekDates", fn := fun _ => fun
  | [d1, d2] => { results := [.lit (.bool true)], args := [d1, d2] }
  | _ => none }
def weekDatesRow : OpenClaim := { program := "ytimpaaimdjlhjaadoor", sum := "fe67abd46a348d15665be7b674e75c1ed2fb41dd6b4a3be399d7809639574de8", func := "civiltime/civiltimelaw03.WeekDates", spec := "weekDates", named := ["civiltime/civil.lengths"], apart := false, laid := [("civiltime/civil.lengths", laid_civiltime_civil_lengths)] }
def WeekDatesSaid : Prop := weekDatesRow.holds Tryd.pinned (OpenSpec.ofChange weekDatesSpec)

/-- ITS FALSE NEIGHBOUR: 'it returns false'. Refute it at one input. -/
def weekDatesWrong : ChangeSpec := { name := "weekDates", fn := fun _ => fun
  | [d1, d2] => { results := [.lit (.bool false)], args := [d1, d2] }
  | _ => none }
def WeekDatesWrongFalsely : Prop := weekDatesRow.holds Tryd.pinned (OpenSpec.ofChange weekDatesWrong)

/-- 'civiltimelaw03.WeekDays': WHATEVER THE INPUT: true; the input reads as it did. -/
def weekDaysSpec : ChangeSpec := { name := "weekDays", fn := fun _ => fun
  | [d1, d2] => { results := [.lit (.bool true)], args := [d1, d2] }
  | _ => none }
def weekDaysRow : OpenClaim := { program := "ytimpaaimdjlhjaadoor", sum := "fe67abd46a348d15665be7b674e75c1ed2fb41dd6b4a3be399d7809639574de8", func := "civiltime/civiltimelaw03.WeekDays", spec := "weekDays", named := ["civiltime/civil.lengths"], apart := false, laid := [("civiltime/civil.lengths", laid_civiltime_civil_lengths)] }
def WeekDaysSaid : Prop := weekDaysRow.holds Tryd.pinned (OpenSpec.ofChange weekDaysSpec)

/-- ITS FALSE NEIGHBOUR: 'it returns false'. Refute it at one input. -/
def weekDaysWrong : ChangeSpec := { name := "weekDays", fn := fun _ => fun
  | [d1, d2] => { results := [.lit (.bool false)], args := [d1, d2] }
  | _ => none }
def WeekDaysWrongFalsely : Prop := weekDaysRow.holds Tryd.pinned (OpenSpec.ofChange weekDaysWrong)

/-- 'civiltimelaw03.WeekYears': WHATEVER THE INPUT: true; the input reads as it did. -/
def weekYearsSpec : ChangeSpec := { name := "weekYears", fn := fun _ => fun
  | [d1, d2] => { results := [.lit (.bool true)], args := [d1, d2] }
  | _ => none }
def weekYearsRow : OpenClaim := { program := "ytimpaaimdjlhjaadoor", sum := "fe67abd46a348d15665be7b674e75c1ed2fb41dd6b4a3be399d7809639574de8", func := "civiltime/civiltimelaw03.WeekYears", spec := "weekYears", named := ["civiltime/civil.lengths"], apart := false, laid := [("civiltime/civil.lengths", laid_civiltime_civil_lengths)] }
def WeekYearsSaid : Prop := weekYearsRow.holds Tryd.pinned (OpenSpec.ofChange weekYearsSpec)

/-- ITS FALSE NEIGHBOUR: 'it returns false'. Refute it at one input. -/
def weekYearsWrong : ChangeSpec := { name := "weekYears", fn := fun _ => fun
  | [d1, d2] => { results := [.lit (.bool false)], args := [d1, d2] }
  | _ => none }
def WeekYearsWrongFalsely : Prop := weekYearsRow.holds Tryd.pinned (OpenSpec.ofChange weekYearsWrong)

/-- 'civiltimelaw03.WeekTexts': WHATEVER THE INPUT: true; the input reads as it did. -/
def weekTextsSpec : ChangeSpec := { name := "weekTexts", fn := fun _ => fun
  | [d1, d2] => { results := [.lit (.bool true)], args := [d1, d2] }
  | _ => none }
def weekTextsRow : OpenClaim := { program := "ytimpaaimdjlhjaadoor", sum := "fe67abd46a348d15665be7b674e75c1ed2fb41dd6b4a3be399d7809639574de8", func := "civiltime/civiltimelaw03.WeekTexts", spec := "weekTexts", inPlace := ["internal/abi.NoEscape", "internal/bytealg.MakeNoZero"], named := ["civiltime/civil.lengths", "strconv.ErrSyntax", "strconv.ErrRange", "internal/strconv.uint64pow10", "math/bits.deBruijn32tab", "math/bits.deBruijn64tab"], apart := false, laid := [("math/bits.deBruijn32tab", laid_math_bits_deBruijn32tab), ("math/bits.deBruijn64tab", laid_math_bits_deBruijn64tab), ("internal/strconv.uint64pow10", laid_internal_strconv_uint64pow10), ("strconv.ErrRange", laid_strconv_ErrRange), ("strconv.ErrSyntax", laid_strconv_ErrSyntax), ("civiltime/civil.lengths", laid_civiltime_civil_lengths)] }
def WeekTextsSaid : Prop := weekTextsRow.holds Tryd.pinned (OpenSpec.ofChange weekTextsSpec)

/-- ITS FALSE NEIGHBOUR: 'it returns false'. Refute it at one input. -/
def weekTextsWrong : ChangeSpec := { name := "weekTexts", fn := fun _ => fun
  | [d1, d2] => { results := [.lit (.bool false)], args := [d1, d2] }
  | _ => none }
def WeekTextsWrongFalsely : Prop := weekTextsRow.holds Tryd.pinned (OpenSpec.ofChange weekTextsWrong)

/-- 'civiltimelaw03.WeekOrdinals': WHATEVER THE INPUT: true; the input reads as it did. -/
def weekOrdinalsSpec : ChangeSpec := { name := "weekOrdinals", fn := fun _ => fun
  | [d1, d2, d3] => { results := [.lit (.bool true)], args := [d1, d2, d3] }
  | _ => none }
def weekOrdinalsRow : OpenClaim := { program := "ytimpaaimdjlhjaadoor", sum := "fe67abd46a348d15665be7b674e75c1ed2fb41dd6b4a3be399d7809639574de8", func := "civiltime/civiltimelaw03.WeekOrdinals", spec := "weekOrdinals", named := ["civiltime/civil.lengths"], apart := false, laid := [("civiltime/civil.lengths", laid_civiltime_civil_lengths)] }
def WeekOrdinalsSaid : Prop := weekOrdinalsRow.holds Tryd.pinned (OpenSpec.ofChange weekOrdinalsSpec)

/-- ITS FALSE NEIGHBOUR: 'it returns false'. Refute it at one input. -/
def weekOrdinalsWrong : ChangeSpec := { name := "weekOrdinals", fn := fun _ => fun
  | [d1, d2, d3] => { results := [.lit (.bool false)], args := [d1, d2, d3] }
  | _ => none }
def WeekOrdinalsWrongFalsely : Prop := weekOrdinalsRow.holds Tryd.pinned (OpenSpec.ofChange weekOrdinalsWrong)

/-- 'civiltimelaw03.WeekBack': WHATEVER THE INPUT: true; the input reads as it did. -/
def weekBackSpec : ChangeSpec := { name := "weekBack", fn := fun _ => fun
  | [d1, d2, d3] => { results := [.lit (.bool true)], args := [d1, d2, d3] }
  | _ => none }
def weekBackRow : OpenClaim := { program := "ytimpaaimdjlhjaadoor", sum := "fe67abd46a348d15665be7b674e75c1ed2fb41dd6b4a3be399d7809639574de8", func := "civiltime/civiltimelaw03.WeekBack", spec := "weekBack", named := ["civiltime/civil.lengths"], apart := false, laid := [("civiltime/civil.lengths", laid_civiltime_civil_lengths)] }
def WeekBackSaid : Prop := weekBackRow.holds Tryd.pinned (OpenSpec.ofChange weekBackSpec)

/-- ITS FALSE NEIGHBOUR: 'it returns false'. Refute it at one input. -/
def weekBackWrong : ChangeSpec := { name := "weekBack", fn := fun _ => fun
  | [d1, d2, d3] => { results := [.lit (.bool false)], args := [d1, d2, d3] }
  | _ => none }
def WeekBackWrongFalsely : Prop := weekBackRow.holds Tryd.pinned (OpenSpec.ofChange weekBackWrong)

/-- 'civiltimelaw03.WeekNext': WHATEVER THE INPUT: true; the input reads as it did. -/
def weekNextSpec : ChangeSpec := { name := "weekNext", fn := fun _ => fun
  | [d1, d2] => { results := [.lit (.bool true)], args := [d1, d2] }
  | _ => none }
def weekNextRow : OpenClaim := { program := "ytimpaaimdjlhjaadoor", sum := "fe67abd46a348d15665be7b674e75c1ed2fb41dd6b4a3be399d7809639574de8", func := "civiltime/civiltimelaw03.WeekNext", spec := "weekNext", named := ["civiltime/civil.lengths"], apart := false, laid := [("civiltime/civil.lengths", laid_civiltime_civil_lengths)] }
def WeekNextSaid : Prop := weekNextRow.holds Tryd.pinned (OpenSpec.ofChange weekNextSpec)

/-- ITS FALSE NEIGHBOUR: 'it returns false'. Refute it at one input. -/
def weekNextWrong : ChangeSpec := { name := "weekNext", fn := fun _ => fun
  | [d1, d2] => { results := [.lit (.bool false)], args := [d1, d2] }
  | _ => none }
def WeekNextWrongFalsely : Prop := weekNextRow.holds Tryd.pinned (OpenSpec.ofChange weekNextWrong)

/-- 'civiltimelaw03.WeekMinimal': WHATEVER THE INPUT: true; the input reads as it did. -/
def weekMinimalSpec : ChangeSpec := { name := "weekMinimal", fn := fun _ => fun
  | [d1, d2, d3] => { results := [.lit (.bool true)], args := [d1, d2, d3] }
  | _ => none }
def weekMinimalRow : OpenClaim := { program := "ytimpaaimdjlhjaadoor", sum := "fe67abd46a348d15665be7b674e75c1ed2fb41dd6b4a3be399d7809639574de8", func := "civiltime/civiltimelaw03.WeekMinimal", spec := "weekMinimal", named := ["civiltime/civil.lengths"], apart := false, laid := [("civiltime/civil.lengths", laid_civiltime_civil_lengths)] }
def WeekMinimalSaid : Prop := weekMinimalRow.holds Tryd.pinned (OpenSpec.ofChange weekMinimalSpec)

/-- ITS FALSE NEIGHBOUR: 'it returns false'. Refute it at one input. -/
def weekMinimalWrong : ChangeSpec := { name := "weekMinimal", fn := fun _ => fun
  | [d1, d2, d3] => { results := [.lit (.bool false)], args := [d1, d2, d3] }
  | _ => none }
def WeekMinimalWrongFalsely : Prop := weekMinimalRow.holds Tryd.pinned (OpenSpec.ofChange weekMinimalWrong)

/-- 'civiltimelaw03.WeekParses': WHATEVER THE INPUT: true; the input reads as it did. -/
def weekParsesSpec : ChangeSpec := { name := "weekParses", fn := fun _ => fun
  | [d1, d2] => { results := [.lit (.bool true)], args := [d1, d2] }
  | _ => none }
def weekParsesRow : OpenClaim := { program := "ytimpaaimdjlhjaadoor", sum := "fe67abd46a348d15665be7b674e75c1ed2fb41dd6b4a3be399d7809639574de8", func := "civiltime/civiltimelaw03.WeekParses", spec := "weekParses", inPlace := ["internal/abi.NoEscape", "internal/bytealg.MakeNoZero"], named := ["civiltime/civil.lengths", "internal/strconv.uint64pow10", "math/bits.deBruijn32tab", "math/bits.deBruijn64tab", "strconv.ErrSyntax", "strconv.ErrRange"], apart := false, laid := [("math/bits.deBruijn32tab", laid_math_bits_deBruijn32tab), ("math/bits.deBruijn64tab", laid_math_bits_deBruijn64tab), ("internal/strconv.uint64pow10", laid_internal_strconv_uint64pow10), ("strconv.ErrRange", laid_strconv_ErrRange), ("strconv.ErrSyntax", laid_strconv_ErrSyntax), ("civiltime/civil.lengths", laid_civiltime_civil_lengths)] }
def WeekParsesSaid : Prop := weekParsesRow.holds Tryd.pinned (OpenSpec.ofChange weekParsesSpec)

/-- ITS FALSE NEIGHBOUR: 'it returns false'. Refute it at one input. -/
def weekParsesWrong : ChangeSpec := { name := "weekParses", fn := fun _ => fun
  | [d1, d2] => { results := [.lit (.bool false)], args := [d1, d2] }
  | _ => none }
def WeekParsesWrongFalsely : Prop := weekParsesRow.holds Tryd.pinned (OpenSpec.ofChange weekParsesWrong)

/- THE SECOND FORM. 'bulk': how many values and letters a reading holds, each counted each time it is reached (what is shared counts as often as it is met; a slice's spare places count too). A statement '..UptoSaid' is the law's where the arguments, and the package variables that the reading takes, are together of bulk at most 1048576: NARROWER than '..Said'. Prove '..Said' where nothing that the law and all that it calls make is longer than what came in: it says more and counts as full. Else prove '..UptoSaid'. A law counts once. -/
mutual
def uptoBulk {H : Type} : DataW H → Nat
  | .lit (.string bytes) => bytes.length + 1
  | .lit _ => 1
  | .nil => 1
  | .ptr d => uptoBulk d + 1
  | .slice elems spare => uptoBulkAll elems + uptoBulkAll spare + 1
  | .agg parts => uptoBulkAll parts + 1
  | .iface _ d => uptoBulk d + 1
  | .map entries => uptoBulkEntries entries + 1
  | .held _ => 1
def uptoBulkAll {H : Type} : List (DataW H) → Nat
  | [] => 0
  | d :: r => uptoBulk d + uptoBulkAll r
def uptoBulkEntries {H : Type} : List (Lit × DataW H) → Nat
  | [] => 0
  | x :: r => uptoBulkEntry x + uptoBulkEntries r
def uptoBulkEntry {H : Type} : Lit × DataW H → Nat
  | (.string bytes, d) => bytes.length + uptoBulk d + 1
  | (_, d) => uptoBulk d + 1
 end
def uptoSmall : (H : Type) → List (DataW H) → Bool := fun _ ds => decide (uptoBulkAll ds ≤ 1048576)
def OpenSpec.upto (s : _root_.Go.ChangeSpec) : _root_.Go.OpenSpec := { _root_.Go.OpenSpec.ofChange s with cond := some uptoSmall }

/-- 'civiltimelaw03.WeekDates', WHERE WHAT IT READS IS OF BULK AT MOST 1048576: true; the input reads as it did. -/
def weekDatesUptoRow : OpenClaim := { program := "ytimpaaimdjlhjaadoor", sum := "fe67abd46a348d15665be7b674e75c1ed2fb41dd6b4a3be399d7809639574de8", func := "civiltime/civiltimelaw03.WeekDates", spec := "weekDates", named := ["civiltime/civil.lengths"], apart := false, laid := [("civiltime/civil.lengths", laid_civiltime_civil_lengths)], narrowed := true }
def WeekDatesUptoSaid : Prop := weekDatesUptoRow.holds Tryd.pinned (OpenSpec.upto weekDatesSpec)

/-- 'civiltimelaw03.WeekDays', WHERE WHAT IT READS IS OF BULK AT MOST 1048576: true; the input reads as it did. -/
def weekDaysUptoRow : OpenClaim := { program := "ytimpaaimdjlhjaadoor", sum := "fe67abd46a348d15665be7b674e75c1ed2fb41dd6b4a3be399d7809639574de8", func := "civiltime/civiltimelaw03.WeekDays", spec := "weekDays", named := ["civiltime/civil.lengths"], apart := false, laid := [("civiltime/civil.lengths", laid_civiltime_civil_lengths)], narrowed := true }
def WeekDaysUptoSaid : Prop := weekDaysUptoRow.holds Tryd.pinned (OpenSpec.upto weekDaysSpec)

/-- 'civiltimelaw03.WeekYears', WHERE WHAT IT READS IS OF BULK AT MOST 1048576: true; the input reads as it did. -/
def weekYearsUptoRow : OpenClaim := { program := "ytimpaaimdjlhjaadoor", sum := "fe67abd46a348d15665be7b674e75c1ed2fb41dd6b4a3be399d7809639574de8", func := "civiltime/civiltimelaw03.WeekYears", spec := "weekYears", named := ["civiltime/civil.lengths"], apart := false, laid := [("civiltime/civil.lengths", laid_civiltime_civil_lengths)], narrowed := true }
def WeekYearsUptoSaid : Prop := weekYearsUptoRow.holds Tryd.pinned (OpenSpec.upto weekYearsSpec)

/-- 'civiltimelaw03.WeekTexts', WHERE WHAT IT READS IS OF BULK AT MOST 1048576: true; the input reads as it did. -/
def weekTextsUptoRow : OpenClaim := { program := "ytimpaaimdjlhjaadoor", sum := "fe67abd46a348d15665be7b674e75c1ed2fb41dd6b4a3be399d7809639574de8", func := "civiltime/civiltimelaw03.WeekTexts", spec := "weekTexts", inPlace := ["internal/abi.NoEscape", "internal/bytealg.MakeNoZero"], named := ["civiltime/civil.lengths", "strconv.ErrSyntax", "strconv.ErrRange", "internal/strconv.uint64pow10", "math/bits.deBruijn32tab", "math/bits.deBruijn64tab"], apart := false, laid := [("math/bits.deBruijn32tab", laid_math_bits_deBruijn32tab), ("math/bits.deBruijn64tab", laid_math_bits_deBruijn64tab), ("internal/strconv.uint64pow10", laid_internal_strconv_uint64pow10), ("strconv.ErrRange", laid_strconv_ErrRange), ("strconv.ErrSyntax", laid_strconv_ErrSyntax), ("civiltime/civil.lengths", laid_civiltime_civil_lengths)], narrowed := true }
def WeekTextsUptoSaid : Prop := weekTextsUptoRow.holds Tryd.pinned (OpenSpec.upto weekTextsSpec)

/-- 'civiltimelaw03.WeekOrdinals', WHERE WHAT IT READS IS OF BULK AT MOST 1048576: true; the input reads as it did. -/
def weekOrdinalsUptoRow : OpenClaim := { program := "ytimpaaimdjlhjaadoor", sum := "fe67abd46a348d15665be7b674e75c1ed2fb41dd6b4a3be399d7809639574de8", func := "civiltime/civiltimelaw03.WeekOrdinals", spec := "weekOrdinals", named := ["civiltime/civil.lengths"], apart := false, laid := [("civiltime/civil.lengths", laid_civiltime_civil_lengths)], narrowed := true }
def WeekOrdinalsUptoSaid : Prop := weekOrdinalsUptoRow.holds Tryd.pinned (OpenSpec.upto weekOrdinalsSpec)

/-- 'civiltimelaw03.WeekBack', WHERE WHAT IT READS IS OF BULK AT MOST 1048576: true; the input reads as it did. -/
def weekBackUptoRow : OpenClaim := { program := "ytimpaaimdjlhjaadoor", sum := "fe67abd46a348d15665be7b674e75c1ed2fb41dd6b4a3be399d7809639574de8", func := "civiltime/civiltimelaw03.WeekBack", spec := "weekBack", named := ["civiltime/civil.lengths"], apart := false, laid := [("civiltime/civil.lengths", laid_civiltime_civil_lengths)], narrowed := true }
def WeekBackUptoSaid : Prop := weekBackUptoRow.holds Tryd.pinned (OpenSpec.upto weekBackSpec)

/-- 'civiltimelaw03.WeekNext', WHERE WHAT IT READS IS OF BULK AT MOST 1048576: true; the input reads as it did. -/
def weekNextUptoRow : OpenClaim := { program := "ytimpaaimdjlhjaadoor", sum := "fe67abd46a348d15665be7b674e75c1ed2fb41dd6b4a3be399d7809639574de8", func := "civiltime/civiltimelaw03.WeekNext", spec := "weekNext", named := ["civiltime/civil.lengths"], apart := false, laid := [("civiltime/civil.lengths", laid_civiltime_civil_lengths)], narrowed := true }
def WeekNextUptoSaid : Prop := weekNextUptoRow.holds Tryd.pinned (OpenSpec.upto weekNextSpec)

/-- 'civiltimelaw03.WeekMinimal', WHERE WHAT IT READS IS OF BULK AT MOST 1048576: true; the input reads as it did. -/
def weekMinimalUptoRow : OpenClaim := { program := "ytimpaaimdjlhjaadoor", sum := "fe67abd46a348d15665be7b674e75c1ed2fb41dd6b4a3be399d7809639574de8", func := "civiltime/civiltimelaw03.WeekMinimal", spec := "weekMinimal", named := ["civiltime/civil.lengths"], apart := false, laid := [("civiltime/civil.lengths", laid_civiltime_civil_lengths)], narrowed := true }
def WeekMinimalUptoSaid : Prop := weekMinimalUptoRow.holds Tryd.pinned (OpenSpec.upto weekMinimalSpec)

/-- 'civiltimelaw03.WeekParses', WHERE WHAT IT READS IS OF BULK AT MOST 1048576: true; the input reads as it did. -/
def weekParsesUptoRow : OpenClaim := { program := "ytimpaaimdjlhjaadoor", sum := "fe67abd46a348d15665be7b674e75c1ed2fb41dd6b4a3be399d7809639574de8", func := "civiltime/civiltimelaw03.WeekParses", spec := "weekParses", inPlace := ["internal/abi.NoEscape", "internal/bytealg.MakeNoZero"], named := ["civiltime/civil.lengths", "internal/strconv.uint64pow10", "math/bits.deBruijn32tab", "math/bits.deBruijn64tab", "strconv.ErrSyntax", "strconv.ErrRange"], apart := false, laid := [("math/bits.deBruijn32tab", laid_math_bits_deBruijn32tab), ("math/bits.deBruijn64tab", laid_math_bits_deBruijn64tab), ("internal/strconv.uint64pow10", laid_internal_strconv_uint64pow10), ("strconv.ErrRange", laid_strconv_ErrRange), ("strconv.ErrSyntax", laid_strconv_ErrSyntax), ("civiltime/civil.lengths", laid_civiltime_civil_lengths)], narrowed := true }
def WeekParsesUptoSaid : Prop := weekParsesUptoRow.holds Tryd.pinned (OpenSpec.upto weekParsesSpec)

end Rows
end Go.Proofs.YtimpaaimdjlhjaaDoor
