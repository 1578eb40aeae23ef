/- TsCk. -/
import Derived.Test.YtmamlgaogpkagaaGreatQLPlain
import Derived.Deep.AppendLies
import Derived.Deep.RegionHeld3
import Derived.Laws.AppendOwnNone
import Derived.Lay
import Derived.Lib.SmallJoins
import Derived.StillTailTactics
import Derived.Test.YtmamlgaogpkagaaGreatShelf
import Derived.Test.YtmamlgaogpkagaaGreatShelfSort
import Derived.WalkLawsBesides
namespace Go.Proofs.YtmamlgaogpkagaaGreat
open Go.RowKit
set_option linter.unusedVariables false
set_option linter.unusedSimpArgs false
theorem lw_join {f:Int→Bool} {a b c:Int} (ab:a<b) (bc:b<c) (l0:-4398046511104≤a) (l1:c≤4398046511104) (few:(caL f a c).length≤2000):ruOf (caL f a b++caL f b c)=(caL f a c,0):=by
 have sp:∀ u v:Int,a≤u→v≤c→∀ q,q∈caL f u v→spB q=true:=fun u v hu hv q hq=>by
  have:=ca_ends _ _ _ q hq;have:=(ca_cn f u v).lt q hq;exact spB_iff.2 ⟨by omega,by omega,by omega⟩
 have ss:spsB (caL f a b++caL f b c)=true:=by
  unfold spsB
  rw [List.all_eq_true];intro q hq
  rcases List.mem_append.1 hq with h | h
  ·exact sp a b (Int.le_refl a) (by omega) q h
  ·exact sp b c (by omega) (Int.le_refl c) q h
 have e:cbL 1 (caL f a b++caL f b c) []=caL f a c:=by
  obtain ⟨cc,m,-,-⟩:=cb_spec 1 (caL f a b++caL f b c) [];refine ca_eq cc fun x=>?_;rw [m]
  show (inB _ x || inB [] x)=_
  rw [inB_nil,Bool.or_false];have ia:inB (caL f a b++caL f b c) x=(inB (caL f a b) x || inB (caL f b c) x):=by unfold inB;rw [List.any_append]
  rw [ia,ca_in,ca_in,Bool.eq_iff_iff]
  simp only [Bool.or_eq_true,Bool.and_eq_true,decide_eq_true_eq]
  constructor
  ·rintro (⟨⟨i,j⟩,k⟩ | ⟨⟨i,j⟩,k⟩)
   ·exact ⟨⟨i,by omega⟩,k⟩
   ·exact ⟨⟨by omega,j⟩,k⟩
  ·rintro ⟨⟨i,j⟩,k⟩
   by_cases z:x<b
   ·exact Or.inl ⟨⟨i,z⟩,k⟩
   ·exact Or.inr ⟨⟨by omega,j⟩,k⟩
 unfold ruOf
 rw [if_pos ss,e]
 unfold ruFull
 rw [if_neg (by omega)]
end Go.Proofs.YtmamlgaogpkagaaGreat
