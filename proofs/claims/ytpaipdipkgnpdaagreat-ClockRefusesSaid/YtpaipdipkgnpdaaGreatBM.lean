import Derived.Test.YtpaipdipkgnpdaaGreatEvW17
section
set_option linter.unusedSimpArgs false
set_option linter.unusedVariables false
namespace Go.Proofs
namespace Clock
open Go Go.RowKit Go.Aev
end Clock
end Go.Proofs
end
section
set_option linter.unusedSimpArgs false
set_option linter.unusedVariables false
namespace Go.Proofs
namespace Clock
open Go Go.RowKit Go.Aev
end Clock
end Go.Proofs
end
section
set_option linter.unusedSimpArgs false
set_option linter.unusedVariables false
namespace Go.Proofs
namespace Clock
open Go Go.RowKit Go.Aev
theorem r142_iff (lo hi a b:Int):r142 lo hi a b=true↔a≤lo∧lo≤hi∧hi≤b:=by
 unfold r142; repeat' split
 all_goals simp only [decide_eq_true_eq,Bool.false_eq_true,false_iff,true_iff]
 all_goals omega
theorem r78_iff (lo hi a b:Int):r78 lo hi a b=true↔a≤lo∧lo≤hi∧hi≤b:=by
 unfold r78; repeat' split
 all_goals simp only [decide_eq_true_eq,Bool.false_eq_true,false_iff,true_iff]
 all_goals omega
theorem r85_iff (lo hi:Int):r85 lo hi=true↔0≤lo∧lo≤hi∧hi≤1073741823:=r142_iff _ _ _ _
theorem r141_iff (n:Int):r141 n=true↔1≤n∧n≤1099511627776:=by
 unfold r141; split<;>simp<;>omega
theorem r143_iff (s:Se) (x:Stp):r143 s x=true↔s.zHi<x.at_∧x.at_<s.eLo∧0≤x.lo∧x.lo≤x.hi∧x.hi≤36000:=by
 have h:=r142_iff x.lo x.hi 0 36000
 unfold r143
 by_cases h1:s.zHi<x.at_
 ·rw [if_pos h1]
  by_cases h2:x.at_<s.eLo
  ·rw [if_pos h2,h]; omega
  ·rw [if_neg h2]; simp; omega
 ·rw [if_neg h1]; simp; omega
theorem R82_77 (s:Se) (h1:0≤s.zHi∧s.zHi≤43199) (h2:0≤s.eLo∧s.eLo≤43199):∀ (l:List Stp) (k:Nat),(R82_0 s l k=.inl false∧R77_0 s l k=.inl 1)∨(R82_0 s l k=.inr ()∧R77_0 s l k=.inr ())
 | [],k=>.inr ⟨rfl,rfl⟩
 | x :: l,k=>by
  have ih:=R82_77 s h1 h2 l (k+1)
  have e1:=r143_iff s x
  have e2:=r78_iff x.lo x.hi 0 36000
  rw [R82_0,R77_0,wr64 (n:=s.zHi+1) (by omega),wr64 (n:=s.eLo - 1) (by omega)]
  by_cases c:r143 s x=true
  ·have c':=e1.1 c
   rw [if_pos c,if_neg (show ¬ x.at_<s.zHi+1 by omega),if_neg (show ¬ s.eLo - 1<x.at_ by omega),if_pos (e2.2 (by omega))]
   by_cases d:0<(k:Int)
   ·rw [if_pos d,if_pos d]
    by_cases e:x.at_≤(lget s.stops (k - 1)).at_
    ·rw [if_pos e,if_pos e]; exact .inl ⟨rfl,rfl⟩
    ·rw [if_neg e,if_neg e]; exact ih
   ·rw [if_neg d,if_neg d]; exact ih
  ·left
   rw [if_neg c]
   refine ⟨rfl,?_⟩
   by_cases d1:x.at_<s.zHi+1
   ·rw [if_pos d1]
   rw [if_neg d1]
   by_cases d2:s.eLo - 1<x.at_
   ·rw [if_pos d2]
   rw [if_neg d2,if_neg (fun h=>c (e1.2 (by have:=e2.1 h; omega)))]
theorem r82_77 (s:Se) (hl:¬ 4<(s.stops.length:Int)):(r82 s=true∧r77 s=0)∨(r82 s=false∧r77 s=1):=by
 unfold r82 r77
 rw [if_neg hl]
 have b1:=r141_iff s.id
 have b2:=r85_iff s.inLo s.inHi; have c2:=r78_iff s.inLo s.inHi 0 1073741823
 have b3:=r85_iff s.outLo s.outHi; have c3:=r78_iff s.outLo s.outHi 0 1073741823
 have b4:=r142_iff s.rLo s.rHi 900000 1100000; have c4:=r78_iff s.rLo s.rHi 900000 1100000
 have b5:=r142_iff s.zLo s.zHi 0 43199; have c5:=r78_iff s.zLo s.zHi 0 43199
 have b6:=r142_iff s.eLo s.eHi 0 43199; have c6:=r78_iff s.eLo s.eHi 0 43199
 have i1:r141 s.id=true↔¬ (s.id<1)∧¬ (1099511627776<s.id):=by rw [b1]; omega
 have i2:r78 s.inLo s.inHi 0 1073741823=r85 s.inLo s.inHi:=Bool.eq_iff_iff.2 (c2.trans b2.symm)
 have i3:r78 s.outLo s.outHi 0 1073741823=r85 s.outLo s.outHi:=Bool.eq_iff_iff.2 (c3.trans b3.symm)
 have i4:r78 s.rLo s.rHi 900000 1100000=r142 s.rLo s.rHi 900000 1100000:=Bool.eq_iff_iff.2 (c4.trans b4.symm)
 have i5:r78 s.zLo s.zHi 0 43199=r142 s.zLo s.zHi 0 43199:=Bool.eq_iff_iff.2 (c5.trans b5.symm)
 have i6:r78 s.eLo s.eHi 0 43199=r142 s.eLo s.eHi 0 43199:=Bool.eq_iff_iff.2 (c6.trans b6.symm)
 rw [i2,i3,i4,i5,i6]
 by_cases a1:r141 s.id=true
 ·obtain ⟨x1,x2⟩:=i1.1 a1
  rw [if_pos a1,if_neg x1,if_neg x2]
  by_cases a2:r85 s.inLo s.inHi=true
  ·rw [if_pos a2,if_pos a2]
   by_cases a3:r85 s.outLo s.outHi=true
   ·rw [if_pos a3,if_pos a3]
    by_cases a4:r142 s.rLo s.rHi 900000 1100000=true
    ·rw [if_pos a4,if_pos a4]
     by_cases a5:r142 s.zLo s.zHi 0 43199=true
     ·rw [if_pos a5,if_pos a5]
      by_cases a6:r142 s.eLo s.eHi 0 43199=true
      ·rw [if_pos a6,if_pos a6]
       by_cases a7:s.eLo<s.zLo
       ·rw [if_pos a7,if_pos a7]; exact .inr ⟨rfl,rfl⟩
       rw [if_neg a7,if_neg a7]
       by_cases a8:s.eHi<s.zHi
       ·rw [if_pos a8,if_pos a8]; exact .inr ⟨rfl,rfl⟩
       rw [if_neg a8,if_neg a8]
       have y5:=b5.1 a5; have y6:=b6.1 a6
       rcases R82_77 s (by omega) (by omega) s.stops 0 with ⟨h1,h2⟩|⟨h1,h2⟩
       ·rw [h1,h2]; exact .inr ⟨rfl,rfl⟩
       ·rw [h1,h2]; exact .inl ⟨rfl,rfl⟩
      ·rw [if_neg a6,if_neg a6]; exact .inr ⟨rfl,rfl⟩
     ·rw [if_neg a5,if_neg a5]; exact .inr ⟨rfl,rfl⟩
    ·rw [if_neg a4]
     by_cases a5:r142 s.zLo s.zHi 0 43199=true
     ·rw [if_pos a5]
      by_cases a6:r142 s.eLo s.eHi 0 43199=true
      ·rw [if_pos a6,if_neg a4]; exact .inr ⟨rfl,rfl⟩
      ·rw [if_neg a6]; exact .inr ⟨rfl,rfl⟩
     ·rw [if_neg a5]; exact .inr ⟨rfl,rfl⟩
   ·rw [if_neg a3,if_neg a3]; exact .inr ⟨rfl,rfl⟩
  ·rw [if_neg a2,if_neg a2]; exact .inr ⟨rfl,rfl⟩
 ·right
  rw [if_neg a1]
  refine ⟨rfl,?_⟩
  by_cases x1:s.id<1
  ·rw [if_pos x1]
  ·rw [if_neg x1,if_pos (by have:=mt i1.2 a1; omega)]
end Clock
end Go.Proofs
end
