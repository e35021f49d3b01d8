import Derived.Test.YtohfdkdjfoonjaaGreatDoorEvH40
set_option linter.unusedSimpArgs false
set_option linter.unusedVariables false
namespace Go.Proofs
namespace House
open Go Go.RowKit Go.Aev
set_option maxRecDepth 100000
theorem R19_map (h:Hs) (a b cc ti:Int):∀ (m ws:List Wy),R19_0 h a b cc ti m ws=ws++m.map unw:=by
 intro m
 induction m with
 | nil=>intro ws; simp [R19_0]
 | cons w m ih=>intro ws; rw [R19_0,ih,List.map_cons,List.append_assoc]; rfl
theorem r19_pl (h:Hs) (a b cc ti:Int):(⟨h.rooms,[],R19_0 h a b cc ti h.ways []⟩:Hs)=pl h:=by rw [R19_map]; rfl
theorem r56_val {h:Hs} (hV:r59 h=0) {a b:Int} (ha:0≤a∧a<(h.rooms.length:Int)) (hb:0≤b∧b<(h.rooms.length:Int)) :
  r56 h a b=if lget (r106 (pl h) a 0) (Int.toNat b)=1073741824 then (0,5) else (lget (r106 (pl h) a 0) (Int.toNat b),0):=by
 have e84:∀ c,r84 h c=if c=true then 0 else 1:=fun c=>by rw [r84_sel,if_pos hV]
 have T:=r106_tm (h:=pl h) (fr:=a) (pl_ok hV) (ti:=0) (by decide)
 have bT:=T.at (lget_some (l:=r106 (pl h) a 0) (i:=Int.toNat b) (by rw [T.len]; show Int.toNat b<h.rooms.length; omega))
 unfold r56
 rw [if_pos (r102_iff.2 ha),e84,if_pos (r102_iff.2 hb),if_pos rfl,r119_get hV a (by omega)]
 split
 ·rw [if_pos (by decide)]
 ·rw [if_neg (by omega)]
theorem r19_true (h:Hs) (a b cc ti:Int):r19 h a b cc ti=true:=by
 unfold r19
 by_cases w:(¬ ((r68 h)=true))∨(¬ ((r69 ti)=true))
 ·rw [if_pos w]
 rw [if_neg w,r19_pl]
 have c1:r68 h=true:=Decidable.byContradiction fun q=>w (.inl q)
 have c2:r69 ti=true:=Decidable.byContradiction fun q=>w (.inr q)
 have hV:=(r68_ok c1).2
 have ht:=r69_iff.1 c2
 have hA:=r70_room c1 a
 have hB:=r70_room c1 b
 have hC:=r70_room c1 cc
 generalize r70 a (h.rooms.length:Int)=A at *
 generalize r70 b (h.rooms.length:Int)=B at *
 generalize r70 cc (h.rooms.length:Int)=C at *
 have hP:=pl_ok hV
 have e1:r41 h A ti=(r106 h A ti,0):=r41_val hV hA ht
 have e2:r41 (pl h) A ti=(r106 (pl h) A ti,0):=r41_val hP hA ht
 have l1:(r106 h A ti).length=h.rooms.length:=r106_len hV ht
 have l2:(r106 (pl h) A ti).length=h.rooms.length:=r106_len hP ht
 have bD:∀ X Y:Int,0≤Y∧Y<(h.rooms.length:Int)→0≤lget (r106 (pl h) X 0) (Int.toNat Y)∧lget (r106 (pl h) X 0) (Int.toNat Y)≤1073741824:=fun X Y hY=>by
  have T:=r106_tm (h:=pl h) (fr:=X) hP (ti:=0) (by decide)
  exact T.at (lget_some (by rw [T.len]; show Int.toNat Y<h.rooms.length; omega))
 have b1:=bD A B hB; have b2:=bD B C hC; have b3:=bD A C hC
 have s:=shift hV hA ht (i:=Int.toNat C) (by omega)
 have dsl:=doors_slow hV hA ht (i:=Int.toNat C) (by omega)
 have tr:=triangle hV hA hB (i:=Int.toNat C) (by omega)
 rw [e1,e2,r56_val hV hA hB,r56_val hV hB hC,r56_val hV hA hC]
 generalize lget (r106 (pl h) A 0) (Int.toNat B)=x at *
 generalize lget (r106 (pl h) B 0) (Int.toNat C)=y at *
 generalize lget (r106 (pl h) A 0) (Int.toNat C)=z at *
 rw [if_neg (by
  rintro ⟨q1,q2,q3⟩
  have hx:¬ x=1073741824:=fun e=>by rw [if_pos e] at q1; cases q1
  have hy:¬ y=1073741824:=fun e=>by rw [if_pos e] at q2; cases q2
  have k:=tr (by omega) (by omega)
  have hz:¬ z=1073741824:=by omega
  rw [if_neg hx,if_neg hy,if_neg hz] at q3
  rcases q3 with q3|q3
  ·exact q3 rfl
  ·have q3:x+y<z:=q3
   omega)]
 rw [if_neg (by rintro (q|q|q|q); exact q rfl; exact q rfl; exact q (by show ((r106 h A ti).length:Int)=_; omega); exact q (by show ((r106 (pl h) A ti).length:Int)=_; omega))]
 apply decide_eq_true
 show lget (r106 (pl h) A ti) (Int.toNat C)=_∧_≤lget (r106 h A ti) (Int.toNat C)
 have want:(if (((if z=1073741824 then ((0:Int),(5:Int)) else (z,0)).2)=0)∧((ti+((if z=1073741824 then ((0:Int),(5:Int)) else (z,0)).1))≤1073741823) then ti+((if z=1073741824 then ((0:Int),(5:Int)) else (z,0)).1) else 1073741824)=min (z+ti) 1073741824:=by
  by_cases hz:z=1073741824
  ·rw [if_pos hz,if_neg (fun q=>by cases q.1)]; omega
  ·rw [if_neg hz]
   show (if (0:Int)=0∧ti+z≤1073741823 then ti+z else 1073741824)=_
   by_cases g:ti+z≤1073741823
   ·rw [if_pos ⟨rfl,g⟩]; omega
   ·rw [if_neg (fun q=>g q.2)]; omega
 rw [want,← s]
 exact ⟨rfl,dsl⟩
end House
end Go.Proofs
