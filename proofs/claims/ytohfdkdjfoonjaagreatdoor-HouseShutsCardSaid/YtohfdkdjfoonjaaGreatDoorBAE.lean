import Derived.Test.YtohfdkdjfoonjaaGreatDoorEvM26
import Derived.Test.YtohfdkdjfoonjaaGreatDoorAE7
section
set_option linter.unusedSimpArgs false
set_option linter.unusedVariables false
namespace Go.Proofs
namespace House
open Go Go.RowKit Go.Aev
set_option maxRecDepth 100000
theorem tz197:szOf Tryz.prog 197=some 1:=by kernel_rfl
theorem tt197:inTab Tryz.prog 197=true:=by kernel_rfl
theorem t0_197:zeroOf Tryz.prog 197=some (.slice none 0 0):=by kernel_rfl
theorem TY_EvH41:type_of% (And.intro TY_EvH38 (And.intro (And.intro (And.intro Tryz.underlying72 tz72) (And.intro tt72 t0_72)) (And.intro (And.intro Tryz.underlying197 tz197) (And.intro tt197 t0_197)))):=(And.intro TY_EvH38 (And.intro (And.intro (And.intro Tryz.underlying72 tz72) (And.intro tt72 t0_72)) (And.intro (And.intro Tryz.underlying197 tz197) (And.intro tt197 t0_197))))
set_option maxHeartbeats 4000000 in
theorem c163 (k:Nat) (hk:k≤65536) (S:AS):∃ v' S',(evL Tryz.prog E0).call 163 #[.slice none 0 0,.int .i64 (k:Int)] S=some (v',S')∧Agree S S'∧OwnG 36 k S.next S' v' ([]:List Sp):=by
 generalize hz:(evL Tryz.prog E0).call 163 _ _=z
 rw [L_call,evCall_said rfl Tryz.func163 rfl (by decide) Tryz.ntmps163 Tryz.results163] at hz
 have w1:IntKind.i64.wrap ((0:Int) - 0)=0:=rfl
 have w2:IntKind.i64.wrap ((k:Int) - 0)=(k:Int):=by rw [IntWalk.i64_in]<;>omega
 have hneg:decide ((k:Int)<0)=false:=decide_eq_false (by omega)
 have hc:capV Tryz.prog 40 (.slice none 0 0)=some (.int .i64 0):=by simp [capV,Tryz.underlying40]
 have hl:lenV Tryz.prog 40 (.slice none 0 0)=some (.int .i64 0):=(Lst.nil (α:=Int) S).len Tryz.underlying40
 have hs0:aSlice Tryz.prog 40 (.slice none 0 0) none (some (.int .i64 0)) S=some (.slice none 0 0):=by kernel_rfl
 by_cases hk0:k=0
 ·subst hk0
  have h0:decide (0<((0:Nat):Int))=false:=decide_eq_false (by omega)
  simp (disch:=first|omega|assumption) only [E0_G,SY,setArgs,off,agreeKind,Nat.reduceAdd,Nat.reduceSub,Nat.reduceLT,Nat.reduceBEq,op_cap,w1,w2,hneg,hc,hl,h0] at hz
  exact ⟨_,S,hz.symm,Agree.refl S,.inl ⟨rfl,rfl,rfl⟩⟩
 ·have h0:decide (0<(k:Int))=true:=decide_eq_true (by omega)
  obtain ⟨S1,z0,z1,a1,o1⟩:=zeros_own (P:=Tryz.prog) (t:=40) (tx:=3) (el:=36) (x0:=(⟨0,0⟩:Sp)) (n:=k) (k:=.i64) (kk:=.i64) S Tryz.underlying40 Tryz.underlying3 ti36 t0_36 rfl tz36 rfl hk (by omega)
  obtain ⟨r1,r2⟩:=OwnG.room (P:=Tryz.prog) (t:=40) o1 Tryz.underlying40 tz36 (by simp) (by omega)
  simp (disch:=first|omega|assumption) only [E0_G,SY,setArgs,off,agreeKind,Nat.reduceAdd,Nat.reduceSub,Nat.reduceLT,Nat.reduceBEq,op_cap,opB_appendZ,firstOf_none,w1,w2,hneg,hc,hl,h0,hs0,z0,z1,r1] at hz
  exact ⟨_,S1,hz.symm,a1,r2⟩
set_option maxHeartbeats 2000000 in
theorem c155 (l:List Sp) (hl:l.length≤65536) (S:AS) (v_l:Value) (hv_l:Lst S v_l l) :
  ∃ v' S',(evL Tryz.prog E0).call 155 #[v_l] S=some (v',S')∧Agree S S'∧Own 36 S.next S' v' (l):=by
 generalize hz:(evL Tryz.prog E0).call 155 _ _=z
 rw [L_call,evCall_said rfl Tryz.func155 rfl (by decide) Tryz.ntmps155 Tryz.results155] at hz
 have yb1:=fun dst ty pos after g f S=>bin_eqlSl (P:=Tryz.prog) (E:=E0) (r:=evL Tryz.prog E0) dst ty pos after g f S (hv_l).form
 have yc1:=fun S=>slEq_lst (hv_l) 36 S
 try simp (disch:=first|omega|assumption) only [E0_G,SY,setArgs,off,agreeKind,Nat.reduceAdd,Nat.reduceSub,Nat.reduceLT,Nat.reduceBEq,TY_EvH41,yb1,yc1,opB_eql,opC_eql,strEq_sl,firstOf_none] at hz
 rcases dB (nilB v_l) with ⟨h2a,h2⟩|⟨h2a,h2⟩
 ·try simp (disch:=first|omega|assumption) only [E0_G,SY,off,agreeKind,Nat.reduceLT,Nat.reduceBEq,h2a] at hz
  have hr:l=[]:=nilB_nil hv_l h2
  exact ⟨.slice none 0 0,S,by first|(rw [hr]; exact hz.symm)|exact hz.symm,(Agree.refl S),by rw [hr]; exact by first|exact Own.nil _ _ _|exact OwnL.nil _ _ _ _ (by decide)⟩
 have y3:aBuildSlice Tryz.prog 40 0 [] S=some (.slice (some ⟨S.next,0,none⟩) 0 0,S.push (.cells [] 36 2 true true)):=by kernel_rfl
 obtain ⟨S4,e4,n4,b4,a4⟩:=push_open S (.cells [] 36 2 true true)
 have g4:Agree S S4:=a4
 have o5:Own 36 S.next S4 (.slice (some ⟨S.next,0,none⟩) 0 0) ([]:List Sp):=.inr ⟨_,true,rfl,Nat.le_refl _,by omega,b4⟩
 obtain ⟨u6,S6,k6,o6,n6,f6,d6⟩:=own_append (P:=Tryz.prog) (t:=40) (tx:=40) (n:=1) (v:=.slice (some ⟨S.next,0,none⟩) 0 0) o5 (hv_l.agree g4) (by omega) (by first|omega|(simp; omega)|simp) (by first|omega|(simp; omega)|simp) Tryz.underlying40 Tryz.underlying40 ti36 tv36 rfl tz36
 obtain ⟨pu6,nu6,cu6,rfl⟩:=own_slice o6
 have g6:Agree S S6:=⟨Nat.le_trans (g4).1 n6,fun id hid=>(f6 id (by have:=(g4).1; omega) (by first|(simp [blkOf]; done)|exact o5.ne (by omega)|assumption)).trans ((g4).2 id hid)⟩
 try simp (disch:=first|omega|assumption) only [E0_G,SY,off,agreeKind,partVals,Nat.reduceAdd,Nat.reduceLT,Nat.reduceBEq,h2a,y3,e4,k6] at hz
 have hr:l=([])++l:=by simp
 exact ⟨.slice pu6 nu6 cu6,S6,by first|(rw [hr]; exact hz.symm)|exact hz.symm,g6,by rw [hr]; exact o6.low (by omega)⟩
def R151_0 (ll:List (List Sp))  : List (List Sp)→Nat→Nat
 | [],sz=>sz
 | x2 :: l',sz=>R151_0 ll l' (sz+x2.length)
def R151_1 (ll:List (List Sp))  : List (List Sp)→List Sp→(List Sp)
 | [],acc=>acc
 | x13 :: l',acc=>R151_1 ll l' (acc++x13)
def r151 (ll:List (List Sp)):List Sp:=R151_1 ll ll ([]:List Sp)
set_option maxHeartbeats 8000000 in
theorem c151 (ll:List (List Sp)) (hll:ll.length≤100) (hsum:(ll.map List.length).sum≤65536) (S:AS) (v_ll:Value) (hv_ll:LstR S v_ll ll) :
  ∃ v' S',(evL Tryz.prog E0).call 151 #[v_ll] S=some (v',S')∧Agree S S'∧Own 36 S.next S' v' (r151 ll):=by
 have q0:∀ (m:List (List Sp)) (sz:Nat),R151_0 ll m sz=sz+(m.map List.length).sum:=by
  intro m
  induction m with
  | nil=>intro sz; rfl
  | cons x m ih=>intro sz; rw [R151_0,ih,List.map_cons,List.sum_cons]; omega
 have q1:∀ (m:List (List Sp)) (acc:List Sp),R151_1 ll m acc=acc++m.flatten:=by
  intro m
  induction m with
  | nil=>intro acc; simp [R151_1]
  | cons x m ih=>intro acc; rw [R151_1,ih,List.flatten_cons,List.append_assoc]
 have hq0:R151_0 ll ll 0=(ll.map List.length).sum:=by rw [q0]; omega
 generalize hz:(evL Tryz.prog E0).call 151 _ _=z
 rw [L_call,evCall_said rfl Tryz.func151 rfl (by decide) Tryz.ntmps151 Tryz.results151] at hz
 have w1:=(hv_ll).len (P:=Tryz.prog) (t:=197) Tryz.underlying197
 try simp (disch:=first|omega|assumption) only [E0_G,SY,setArgs,off,agreeKind,Nat.reduceAdd,Nat.reduceSub,Nat.reduceLT,Nat.reduceBEq,w1] at hz
 generalize hL2:Rec.loop _ _ _ _=L2 at hz
 obtain ⟨x2,t2,S2e,rfl,hQ2⟩:=loop_met hL2 (fun m t S'=>∃ (sz:Nat) (k:Nat),m+k=ll.length∧sz+((ll.drop k).map List.length).sum=(ll.map List.length).sum∧k≤ll.length∧t.get 0=some (v_ll)∧t.get 3=some (.int .i64 (sz:Int))∧t.get 9=some (v_ll)∧t.get 10=some (.int .i64 (ll.length:Int))∧t.get 11=some (.int .i64 (k:Int))∧Agree S S'∧S.next≤S'.next∧R151_0 ll (ll.drop k) sz=R151_0 ll ll 0)
  (fun x t S'=>x=.exit 0∧∃ (sz:Nat) (k:Nat),t.get 0=some (v_ll)∧t.get 3=some (.int .i64 (sz:Int))∧Agree S S'∧S.next≤S'.next∧sz+((ll.drop k).map List.length).sum=(ll.map List.length).sum∧k≤ll.length∧R151_0 ll ll 0=sz) (ll.length - 0) (by refine ⟨0,0,?_,?_,?_,?_,?_,?_,?_,?_,(Agree.refl S),Nat.le_refl _,rfl⟩<;>first|(simp only [SY,eq_self,Nat.reduceBEq]<;>rfl)|omega|assumption|(rw [List.length_append]; omega)|(simp; omega)|simp) (by
   rintro m t S2 ⟨sz,k,hi2_0,hi2_1,hi2_2,g2_0,g2_3,g2_9,g2_10,g2_11,ga2,gn2,hd2⟩
   refine .run fun z he=>?_
   try simp (disch:=first|omega|assumption) only [E0_G,SY,off,agreeKind,Nat.reduceLT,Nat.reduceBEq,g2_10,g2_11] at he
   rcases dP ((k:Int)<(ll.length:Int)) with ⟨h3a,h3⟩|⟨h3a,h3⟩
   ·have hx2:ll[k]?=some (ll[k]'(by first|omega|simp; omega)):=List.getElem?_eq_getElem _
    generalize ll[k]'_=x2 at hx2
    have es5:=sum_drop hx2
    obtain ⟨id4,of4,cc4,ty4,wr4,ex4,cs4,i4,j4,l4,⟨w4,rp4,rw4⟩,q4⟩:=LstR.at (hv_ll) (P:=Tryz.prog) (t:=197) Tryz.underlying197 tz40 hx2
    subst rp4
    have j4:=(ga2.2 id4 l4).trans j4
    have m4_0:cc4[of4]?=some w4:=q4 0 (by decide)
    have rl4:=rw4.flat
    have w6:=(rl4.agree ga2).len (P:=Tryz.prog) (t:=40) Tryz.underlying40
    have w7:IntKind.i64.wrap ((sz:Int)+(x2.length:Int))=((sz+x2.length:Nat):Int):=by rw [IntWalk.i64_in]<;>omega
    try simp (disch:=first|omega|assumption) only [E0_G,SY,off,agreeKind,ldA,aggD,Nat.reduceAdd,Nat.reduceLT,Nat.reduceBEq,TY_EvH41,g2_3,g2_9,g2_11,h3a,i4,j4,m4_0,w6,w7] at he
    have h8:¬ (((sz+x2.length:Nat):Int)<0):=by omega
    have h8a:=decide_eq_false h8
    have w9:IntKind.i64.wrap ((k:Int)+1)=((k+1:Nat):Int):=by rw [IntWalk.i64_in]<;>omega
    try simp (disch:=first|omega|assumption) only [E0_G,SY,off,agreeKind,Nat.reduceAdd,Nat.reduceLT,Nat.reduceBEq,g2_11,h8a,w9] at he
    rw [drop_cons' hx2] at hd2
    have hf:=(show _=(R151_0 ll (ll.drop (k+1)) (sz+x2.length):Nat) from rfl).symm.trans hd2
    refine .next he (m - 1) (by omega) ⟨(sz+x2.length),(k+1),?_,?_,?_,?_,?_,?_,?_,?_,ga2,by omega,hf⟩<;>first|(simp only [SY,eq_self,Nat.reduceBEq,g2_0,g2_3,g2_9,g2_10,g2_11]<;>rfl)|omega|assumption|(rw [List.length_append]; omega)|(simp; omega)|simp
   try simp (disch:=first|omega|assumption) only [SY,h3a] at he
   rw [List.drop_eq_nil_of_le (show ll.length≤k by omega)] at hd2
   have hf:=(show _=(sz:Nat) from rfl).symm.trans hd2
   refine .exit he ⟨rfl,⟨sz,k,?_,?_,ga2,by omega,?_,?_,hf.symm⟩⟩<;>first|(simp only [SY,eq_self,Nat.reduceBEq,g2_0,g2_3]<;>rfl)|omega|assumption|(rw [List.length_append]; omega)|(simp; omega)|simp)
 obtain ⟨rfl,sz,k,ge2_0,ge2_3,ge2,gm2,hj2_0,hj2_1,hR2⟩:=hQ2
 obtain rfl:sz=R151_0 ll ll 0:=hR2.symm
 obtain ⟨u11,S11,k11,a11,oo11⟩:=c163 (R151_0 ll ll 0) (by omega) S2e
 have l11:=a11.1
 obtain ⟨pu11,nu11,cu11,rfl⟩:=oo11.slice
 have g11:Agree S S11:=ge2.trans a11
 have w12:=(hv_ll.agree g11).len (P:=Tryz.prog) (t:=197) Tryz.underlying197
 try simp (disch:=first|omega|assumption) only [E0_G,SY,off,agreeKind,vals,eq_self,if_true,Nat.reduceAdd,Nat.reduceLT,Nat.reduceBEq,w1,ge2_0,ge2_3,k11] at hz
 have hq0:R151_0 ll ll 0=(ll.map List.length).sum:=by rw [q0]; omega
 generalize hL13:Rec.loop _ _ _ _=L13 at hz
 obtain ⟨x13,t13,S13e,rfl,hQ13⟩:=loop_met hL13 (fun m t S'=>∃ (v_acc:Value) (acc:List Sp) (k2:Nat),m+k2=ll.length∧acc.length+((ll.drop k2).map List.length).sum=(R151_0 ll ll 0)∧k2≤ll.length∧t.get 6=some (v_acc)∧t.get 25=some (v_ll)∧t.get 26=some (.int .i64 (ll.length:Int))∧t.get 27=some (.int .i64 (k2:Int))∧Agree S S'∧S11.next≤S'.next∧OwnG 36 (R151_0 ll ll 0) S2e.next S' v_acc acc∧R151_1 ll (ll.drop k2) acc=R151_1 ll ll ([]:List Sp))
  (fun x t S'=>x=.exit 2∧∃ (v_acc:Value) (acc:List Sp) (k2:Nat),t.get 6=some (v_acc)∧Agree S S'∧S11.next≤S'.next∧OwnG 36 (R151_0 ll ll 0) S2e.next S' v_acc acc∧acc.length+((ll.drop k2).map List.length).sum=(R151_0 ll ll 0)∧k2≤ll.length∧R151_1 ll ll ([]:List Sp)=acc) (ll.length - 0) (by refine ⟨.slice pu11 nu11 cu11,([]:List Sp),0,?_,?_,?_,?_,?_,?_,?_,g11,Nat.le_refl _,oo11,rfl⟩<;>first|(simp only [SY,eq_self,Nat.reduceBEq]<;>rfl)|omega|assumption|(rw [List.length_append]; omega)|(simp; omega)|simp) (by
   rintro m t S13 ⟨v_acc,acc,k2,hi13_0,hi13_1,hi13_2,g13_6,g13_25,g13_26,g13_27,ga13,gn13,ow_acc,hd13⟩
   refine .run fun z he=>?_
   try simp (disch:=first|omega|assumption) only [E0_G,SY,off,agreeKind,Nat.reduceLT,Nat.reduceBEq,g13_26,g13_27] at he
   rcases dP ((k2:Int)<(ll.length:Int)) with ⟨h14a,h14⟩|⟨h14a,h14⟩
   ·have hx13:ll[k2]?=some (ll[k2]'(by first|omega|simp; omega)):=List.getElem?_eq_getElem _
    generalize ll[k2]'_=x13 at hx13
    have es16:=sum_drop hx13
    obtain ⟨id15,of15,cc15,ty15,wr15,ex15,cs15,i15,j15,l15,⟨w15,rp15,rw15⟩,q15⟩:=LstR.at (hv_ll) (P:=Tryz.prog) (t:=197) Tryz.underlying197 tz40 hx13
    subst rp15
    have j15:=(ga13.2 id15 l15).trans j15
    have m15_0:cc15[of15]?=some w15:=q15 0 (by decide)
    have rl15:=rw15.flat
    obtain ⟨u17,S17,k17,o17,n17,f17,d17⟩:=ownG_append (P:=Tryz.prog) (t:=40) (tx:=40) (n:=1) (v:=v_acc) ow_acc (rl15.agree ga13) (by omega) (by first|omega|(simp; omega)|simp) (by first|omega|(simp; omega)|simp) (by first|omega|(simp; omega)|simp) Tryz.underlying40 Tryz.underlying40 ti36 tv36 rfl tz36
    obtain ⟨pu17,nu17,cu17,rfl⟩:=o17.slice
    have g17:Agree S S17:=⟨Nat.le_trans (ga13).1 n17,fun id hid=>(f17 id (by have:=(ga13).1; omega) (by first|(simp [blkOf]; done)|exact ow_acc.ne (by omega)|assumption)).trans ((ga13).2 id hid)⟩
    have w18:IntKind.i64.wrap ((k2:Int)+1)=((k2+1:Nat):Int):=by rw [IntWalk.i64_in]<;>omega
    try simp (disch:=first|omega|assumption) only [E0_G,SY,off,agreeKind,ldA,aggD,Nat.reduceAdd,Nat.reduceLT,Nat.reduceBEq,TY_EvH41,g13_6,g13_25,g13_27,h14a,i15,j15,m15_0,k17,w18] at he
    rw [drop_cons' hx13] at hd13
    have hf:=(show _=(R151_1 ll (ll.drop (k2+1)) (acc++x13):(List Sp)) from rfl).symm.trans hd13
    refine .next he (m - 1) (by omega) ⟨.slice pu17 nu17 cu17,acc++x13,(k2+1),?_,?_,?_,?_,?_,?_,?_,g17,by omega,(o17.low (by omega)),hf⟩<;>first|(simp only [SY,eq_self,Nat.reduceBEq,g13_6,g13_25,g13_26,g13_27]<;>rfl)|omega|assumption|(rw [List.length_append]; omega)|(simp; omega)|simp
   try simp (disch:=first|omega|assumption) only [SY,h14a] at he
   rw [List.drop_eq_nil_of_le (show ll.length≤k2 by omega)] at hd13
   have hf:=(show _=(acc:(List Sp)) from rfl).symm.trans hd13
   refine .exit he ⟨rfl,⟨v_acc,acc,k2,?_,ga13,by omega,(ow_acc.low (by omega)),?_,?_,hf.symm⟩⟩<;>first|(simp only [SY,eq_self,Nat.reduceBEq,g13_6]<;>rfl)|omega|assumption|(rw [List.length_append]; omega)|(simp; omega)|simp)
 obtain ⟨rfl,v_acc,acc,k2,ge13_6,ge13,gm13,oe_acc13,hj13_0,hj13_1,hR13⟩:=hQ13
 obtain rfl:acc=R151_1 ll ll ([]:List Sp):=hR13.symm
 try simp (disch:=first|omega|assumption) only [E0_G,SY,off,agreeKind,eq_self,if_true,Nat.reduceAdd,Nat.reduceLT,Nat.reduceBEq,ge13_6] at hz
 have hr:r151 ll=R151_1 ll ll ([]:List Sp):=rfl
 exact ⟨v_acc,S13e,by first|(rw [hr]; exact hz.symm)|exact hz.symm,ge13,by rw [hr]; exact (oe_acc13.own (by rw [q1]; simp [List.length_flatten,q0])).low (by omega)⟩
end House
end Go.Proofs
end
section
set_option linter.unusedSimpArgs false
set_option linter.unusedVariables false
namespace Go.Proofs
namespace House
open Go Go.RowKit Go.Aev
set_option maxRecDepth 100000
theorem TY_EvH42:type_of% TY_EvH41:=TY_EvH41
def R123_0 (l:List Sp) (slo shi:Int)  : List Sp→List Sp→List Sp→Int→Int→(List Sp) × (List Sp) × Int × Int
 | [],bf,bh,ulo,uhi=>(bf,bh,ulo,uhi)
 | x3 :: l',bf,bh,ulo,uhi=>(if (x3.hi+1)<ulo then R123_0 l slo shi l' (bf++([(⟨x3.lo,x3.hi⟩:Sp)])) bh ulo uhi else (if (uhi+1)<x3.lo then R123_0 l slo shi l' bf (bh++([(⟨x3.lo,x3.hi⟩:Sp)])) ulo uhi else R123_0 l slo shi l' bf bh (min ulo x3.lo) (max uhi x3.hi)))
def r123 (l:List Sp) (slo shi:Int):List Sp:=(r151 ([(R123_0 l slo shi l ([]) ([]) slo shi).1,[(⟨(R123_0 l slo shi l ([]) ([]) slo shi).2.2.1,(R123_0 l slo shi l ([]) ([]) slo shi).2.2.2⟩:Sp)],(R123_0 l slo shi l ([]) ([]) slo shi).2.1]:List (List Sp)))
set_option maxHeartbeats 8000000 in
theorem c123 (l:List Sp) (slo shi:Int) (hl:l.length≤100) (hb:∀ y ∈ l,0≤y.lo∧y.lo≤y.hi∧y.hi≤1073741823) (hs:0≤slo∧slo≤shi∧shi≤1073741823) (S:AS) (v_l:Value) (hv_l:Lst S v_l l) :
  ∃ v' S',(evL Tryz.prog E0).call 123 #[v_l,.agg #[.int .i64 slo,.int .i64 shi]] S=some (v',S')∧Agree S S'∧Own 36 S.next S' v' (r123 l slo shi):=by
 generalize hz:(evL Tryz.prog E0).call 123 _ _=z
 rw [L_call,evCall_said rfl Tryz.func123 rfl (by decide) Tryz.ntmps123 Tryz.results123] at hz
 obtain ⟨S1,e1,n1,b1,a1⟩:=push_open S (.cells [.int .i64 slo,.int .i64 shi] 36 0 true true)
 have g1:Agree S S1:=a1
 have w2:=(hv_l.agree g1).len (P:=Tryz.prog) (t:=40) Tryz.underlying40
 try simp (disch:=first|omega|assumption) only [E0_G,SY,setArgs,off,agreeKind,boxed,Nat.reduceAdd,Nat.reduceSub,Nat.reduceLT,Nat.reduceBEq,e1,w2] at hz
 generalize hL3:Rec.loop _ _ _ _=L3 at hz
 obtain ⟨x3,t3,S3e,rfl,hQ3⟩:=loop_met hL3 (fun m t S'=>∃ (v_bf:Value) (bf:List Sp) (v_bh:Value) (bh:List Sp) (ulo:Int) (uhi:Int) (k:Nat),m+k=l.length∧0≤ulo∧ulo≤1073741823∧0≤uhi∧uhi≤1073741823∧bf.length≤k∧bh.length≤k∧k≤l.length∧t.get 3=some (.pointer (some ⟨S.next,0,none⟩))∧t.get 5=some (v_bf)∧t.get 6=some (v_bh)∧t.get 9=some (v_l)∧t.get 10=some (.int .i64 (l.length:Int))∧t.get 11=some (.int .i64 (k:Int))∧S'.heap.get S.next=some (.cells [.int .i64 ulo,.int .i64 uhi] 36 0 true true)∧Agree S S'∧S1.next≤S'.next∧Own 36 S1.next S' v_bf bf∧Own 36 S1.next S' v_bh bh∧(∀ b,blkOf v_bf=some b→blkOf v_bh≠some b)∧R123_0 l slo shi (l.drop k) bf bh ulo uhi=R123_0 l slo shi l ([]) ([]) slo shi)
  (fun x t S'=>x=.exit 0∧∃ (v_bf:Value) (bf:List Sp) (v_bh:Value) (bh:List Sp) (ulo:Int) (uhi:Int) (k:Nat),t.get 3=some (.pointer (some ⟨S.next,0,none⟩))∧t.get 5=some (v_bf)∧t.get 6=some (v_bh)∧S'.heap.get S.next=some (.cells [.int .i64 ulo,.int .i64 uhi] 36 0 true true)∧Agree S S'∧S1.next≤S'.next∧Own 36 S1.next S' v_bf bf∧Own 36 S1.next S' v_bh bh∧(∀ b,blkOf v_bf=some b→blkOf v_bh≠some b)∧0≤ulo∧ulo≤1073741823∧0≤uhi∧uhi≤1073741823∧bf.length≤k∧bh.length≤k∧k≤l.length∧R123_0 l slo shi l ([]) ([]) slo shi=(bf,bh,ulo,uhi)) (l.length - 0) (by refine ⟨.slice none 0 0,[],.slice none 0 0,[],slo,shi,0,?_,?_,?_,?_,?_,?_,?_,?_,?_,?_,?_,?_,?_,?_,b1,g1,Nat.le_refl _,by first|exact Own.nil _ _ _|exact OwnL.nil _ _ _ _ (by decide),by first|exact Own.nil _ _ _|exact OwnL.nil _ _ _ _ (by decide),(fun b hb=>by simp [blkOf]),rfl⟩<;>first|(simp only [SY,eq_self,Nat.reduceBEq]<;>rfl)|omega|assumption|(simp; omega)|simp) (by
   rintro m t S3 ⟨v_bf,bf,v_bh,bh,ulo,uhi,k,hi3_0,hi3_1,hi3_2,hi3_3,hi3_4,hi3_5,hi3_6,hi3_7,g3_3,g3_5,g3_6,g3_9,g3_10,g3_11,bb3_1,ga3,gn3,ow_bf,ow_bh,pr3_0,hd3⟩
   refine .run fun z he=>?_
   try simp (disch:=first|omega|assumption) only [E0_G,SY,off,agreeKind,Nat.reduceLT,Nat.reduceBEq,g3_10,g3_11] at he
   rcases dP ((k:Int)<(l.length:Int)) with ⟨h4a,h4⟩|⟨h4a,h4⟩
   ·have hx3:l[k]?=some (l[k]'(by first|omega|simp; omega)):=List.getElem?_eq_getElem _
    generalize l[k]'_=x3 at hx3
    have eb6:=hb _ (List.mem_of_getElem? hx3)
    obtain ⟨id5,of5,cc5,ty5,wr5,ex5,i5,j5,l5,q5⟩:=(hv_l).at (P:=Tryz.prog) (t:=40) Tryz.underlying40 tz36 hx3
    have j5:=(ga3.2 id5 l5).trans j5
    have m5_0:cc5[of5]?=some (.int .i64 x3.lo):=q5 0 (show 0<2 by decide)
    have m5_1:cc5[of5+1]?=some (.int .i64 x3.hi):=q5 1 (show 1<2 by decide)
    obtain ⟨S7,e7,n7,b7,a7⟩:=push_open S3 (.cells [.int .i64 0,.int .i64 0] 36 0 true true)
    have v1_7:=(a7.2 S.next (by omega)).trans bb3_1
    have ow_8:=ow_bf.agree a7
    have ow_9:=ow_bh.agree a7
    have g7:Agree S S7:=ga3.trans a7
    have ne10:blkOf (v_bf)≠some S3.next:=ow_bf.new (Nat.le_refl _)
    have ne11:blkOf (v_bh)≠some S3.next:=ow_bh.new (Nat.le_refl _)
    obtain ⟨S12,k12,n12,b12,q12⟩:=st_at (o:=0) (c':=[.int .i64 x3.lo,.int .i64 x3.hi]) (v:=.agg #[.int .i64 x3.lo,.int .i64 x3.hi]) tz36 b7 rfl rfl (show 0+2≤2 by decide) rfl
    have v1_12:=(q12 S.next (by omega)).trans v1_7
    have ow_13:=ow_8.frame (by omega) (fun id hid hb=>q12 id (fun e=>(show blkOf (v_bf)≠some S3.next from by first|exact ow_8.ne (by omega)|exact ow_8.new (by omega)|assumption) (e ▸ hb)))
    have ow_14:=ow_9.frame (by omega) (fun id hid hb=>q12 id (fun e=>(show blkOf (v_bh)≠some S3.next from by first|exact ow_9.ne (by omega)|exact ow_9.new (by omega)|assumption) (e ▸ hb)))
    have g12:Agree S S12:=⟨by have:=(g7).1; omega,fun id hid=>(q12 id (by have:=(g7).1; omega)).trans ((g7).2 id hid)⟩
    have w15:IntKind.i64.wrap (x3.hi+1)=x3.hi+1:=by rw [IntWalk.i64_in]; omega
    try simp (disch:=first|omega|assumption) only [E0_G,SY,off,agreeKind,allocV,ldA,rdCells,aggD,aField,Nat.reduceAdd,Nat.reduceLT,Nat.reduceBEq,TY_EvH42,g3_3,g3_9,g3_11,h4a,i5,j5,m5_0,m5_1,e7,v1_12,k12,b12,w15] at he
    rcases dP ((x3.hi+1)<ulo) with ⟨h16a,h16⟩|⟨h16a,h16⟩
    ·have y17:aBuildSlice Tryz.prog 40 1 [(0,.agg #[.int .i64 x3.lo,.int .i64 x3.hi])] S12=some (.slice (some ⟨S12.next,0,none⟩) 1 1,S12.push (.cells [.int .i64 x3.lo,.int .i64 x3.hi] 36 2 true true)):=by kernel_rfl
     obtain ⟨S18,e18,n18,b18,a18⟩:=push_open S12 (.cells [.int .i64 x3.lo,.int .i64 x3.hi] 36 2 true true)
     have v1_18:=(a18.2 S.next (by omega)).trans v1_12
     have ow_19:=ow_13.agree a18
     have ow_20:=ow_14.agree a18
     have g18:Agree S S18:=g12.trans a18
     have ne21:blkOf (v_bf)≠some S12.next:=ow_13.new (Nat.le_refl _)
     have ne22:blkOf (v_bh)≠some S12.next:=ow_14.new (Nat.le_refl _)
     have o23:Own 36 S12.next S18 (.slice (some ⟨S12.next,0,none⟩) 1 1) ([(⟨x3.lo,x3.hi⟩:Sp)]:List Sp):=.inr ⟨_,true,rfl,Nat.le_refl _,by omega,b18⟩
     have ap24:∀ b,blkOf (v_bf)=some b→blkOf (.slice (some ⟨S12.next,0,none⟩) 1 1)≠some b:=fun b hb=>o23.ne (Nat.lt_of_lt_of_le (ow_13.lt hb) (by omega))
     have ap25:∀ b,blkOf (v_bh)=some b→blkOf (.slice (some ⟨S12.next,0,none⟩) 1 1)≠some b:=fun b hb=>o23.ne (Nat.lt_of_lt_of_le (ow_14.lt hb) (by omega))
     obtain ⟨u26,S26,k26,o26,n26,f26,d26⟩:=own_append (P:=Tryz.prog) (t:=40) (tx:=40) (n:=1) (v:=v_bf) ow_19 (o23.rows) (by omega) (by first|omega|(simp; omega)|simp) (by first|omega|(simp; omega)|simp) Tryz.underlying40 Tryz.underlying40 ti36 tv36 rfl tz36
     obtain ⟨pu26,nu26,cu26,rfl⟩:=own_slice o26
     have v1_26:=(f26 S.next (by omega) (by first|(simp [blkOf]; done)|exact ow_19.ne (by omega)|exact ow_19.new (by omega)|assumption)).trans v1_18
     have apow_27:∀ b,blkOf (v_bh)=some b→blkOf (.slice pu26 nu26 cu26)≠some b:=fun b hb=>d26 b (ow_20.lt hb) ((fun b h1 h2=>pr3_0 b h2 h1) b hb)
     have ow_27:=ow_20.frame n26 (fun id hid hb=>f26 id hid ((fun b h1 h2=>pr3_0 b h2 h1) id hb))
     have apo23_28:∀ b,blkOf (.slice (some ⟨S12.next,0,none⟩) 1 1)=some b→blkOf (.slice pu26 nu26 cu26)≠some b:=fun b hb=>d26 b (o23.lt hb) ((fun b h1 h2=>ap24 b h2 h1) b hb)
     have o23_28:=o23.frame n26 (fun id hid hb=>f26 id hid ((fun b h1 h2=>ap24 b h2 h1) id hb))
     have g26:Agree S S26:=⟨Nat.le_trans (g18).1 n26,fun id hid=>(f26 id (by have:=(g18).1; omega) (by first|(simp [blkOf]; done)|exact ow_19.ne (by omega)|assumption)).trans ((g18).2 id hid)⟩
     have ne29:blkOf (.slice pu26 nu26 cu26)≠some S.next:=by first|exact o26.ne (by omega)|exact o26.new (by omega)|exact d26 _ (by omega) (by first|(simp [blkOf]; done)|exact ow_19.ne (by omega)|exact ow_19.new (by omega)|assumption)
     have ne30:blkOf (.slice pu26 nu26 cu26)≠some S3.next:=by first|exact o26.ne (by omega)|exact o26.new (by omega)|exact d26 _ (by omega) (by first|(simp [blkOf]; done)|exact ow_19.ne (by omega)|exact ow_19.new (by omega)|assumption)
     have w31:IntKind.i64.wrap ((k:Int)+1)=((k+1:Nat):Int):=by rw [IntWalk.i64_in]<;>omega
     try simp (disch:=first|omega|assumption) only [E0_G,SY,off,agreeKind,partVals,ldA,rdCells,aggD,Nat.reduceAdd,Nat.reduceLT,Nat.reduceBEq,TY_EvH42,g3_5,g3_11,b12,h16a,y17,e18,k26,w31] at he
     rw [drop_cons' hx3] at hd3
     have hf:=(show _=(R123_0 l slo shi (l.drop (k+1)) (bf++([(⟨x3.lo,x3.hi⟩:Sp)])) bh ulo uhi:(List Sp) × (List Sp) × Int × Int) from (if_pos h16).trans (rfl)).symm.trans hd3
     refine .next he (m - 1) (by omega) ⟨.slice pu26 nu26 cu26,bf++([(⟨x3.lo,x3.hi⟩:Sp)]),v_bh,bh,ulo,uhi,(k+1),?_,?_,?_,?_,?_,?_,?_,?_,?_,?_,?_,?_,?_,?_,v1_26,g26,by omega,(o26.low (by omega)),(ow_27.low (by omega)),(fun b h1 h2=>apow_27 b h2 h1),hf⟩<;>first|(simp only [SY,eq_self,Nat.reduceBEq,g3_3,g3_5,g3_6,g3_9,g3_10,g3_11]<;>rfl)|omega|assumption|(simp; omega)|simp
    have w32:IntKind.i64.wrap (uhi+1)=uhi+1:=by rw [IntWalk.i64_in]; omega
    try simp (disch:=first|omega|assumption) only [E0_G,SY,off,agreeKind,ldA,aggD,aField,Nat.reduceAdd,Nat.reduceLT,Nat.reduceBEq,TY_EvH42,g3_3,v1_12,b12,h16a,w32] at he
    rcases dP ((uhi+1)<x3.lo) with ⟨h33a,h33⟩|⟨h33a,h33⟩
    ·have y34:aBuildSlice Tryz.prog 40 1 [(0,.agg #[.int .i64 x3.lo,.int .i64 x3.hi])] S12=some (.slice (some ⟨S12.next,0,none⟩) 1 1,S12.push (.cells [.int .i64 x3.lo,.int .i64 x3.hi] 36 2 true true)):=by kernel_rfl
     obtain ⟨S35,e35,n35,b35,a35⟩:=push_open S12 (.cells [.int .i64 x3.lo,.int .i64 x3.hi] 36 2 true true)
     have v1_35:=(a35.2 S.next (by omega)).trans v1_12
     have ow_36:=ow_13.agree a35
     have ow_37:=ow_14.agree a35
     have g35:Agree S S35:=g12.trans a35
     have ne38:blkOf (v_bf)≠some S12.next:=ow_13.new (Nat.le_refl _)
     have ne39:blkOf (v_bh)≠some S12.next:=ow_14.new (Nat.le_refl _)
     have o40:Own 36 S12.next S35 (.slice (some ⟨S12.next,0,none⟩) 1 1) ([(⟨x3.lo,x3.hi⟩:Sp)]:List Sp):=.inr ⟨_,true,rfl,Nat.le_refl _,by omega,b35⟩
     have ap41:∀ b,blkOf (v_bf)=some b→blkOf (.slice (some ⟨S12.next,0,none⟩) 1 1)≠some b:=fun b hb=>o40.ne (Nat.lt_of_lt_of_le (ow_13.lt hb) (by omega))
     have ap42:∀ b,blkOf (v_bh)=some b→blkOf (.slice (some ⟨S12.next,0,none⟩) 1 1)≠some b:=fun b hb=>o40.ne (Nat.lt_of_lt_of_le (ow_14.lt hb) (by omega))
     obtain ⟨u43,S43,k43,o43,n43,f43,d43⟩:=own_append (P:=Tryz.prog) (t:=40) (tx:=40) (n:=1) (v:=v_bh) ow_37 (o40.rows) (by omega) (by first|omega|(simp; omega)|simp) (by first|omega|(simp; omega)|simp) Tryz.underlying40 Tryz.underlying40 ti36 tv36 rfl tz36
     obtain ⟨pu43,nu43,cu43,rfl⟩:=own_slice o43
     have v1_43:=(f43 S.next (by omega) (by first|(simp [blkOf]; done)|exact ow_37.ne (by omega)|exact ow_37.new (by omega)|assumption)).trans v1_35
     have apow_44:∀ b,blkOf (v_bf)=some b→blkOf (.slice pu43 nu43 cu43)≠some b:=fun b hb=>d43 b (ow_36.lt hb) (pr3_0 b hb)
     have ow_44:=ow_36.frame n43 (fun id hid hb=>f43 id hid (pr3_0 id hb))
     have apo40_45:∀ b,blkOf (.slice (some ⟨S12.next,0,none⟩) 1 1)=some b→blkOf (.slice pu43 nu43 cu43)≠some b:=fun b hb=>d43 b (o40.lt hb) ((fun b h1 h2=>ap42 b h2 h1) b hb)
     have o40_45:=o40.frame n43 (fun id hid hb=>f43 id hid ((fun b h1 h2=>ap42 b h2 h1) id hb))
     have g43:Agree S S43:=⟨Nat.le_trans (g35).1 n43,fun id hid=>(f43 id (by have:=(g35).1; omega) (by first|(simp [blkOf]; done)|exact ow_37.ne (by omega)|assumption)).trans ((g35).2 id hid)⟩
     have ne46:blkOf (.slice pu43 nu43 cu43)≠some S.next:=by first|exact o43.ne (by omega)|exact o43.new (by omega)|exact d43 _ (by omega) (by first|(simp [blkOf]; done)|exact ow_37.ne (by omega)|exact ow_37.new (by omega)|assumption)
     have ne47:blkOf (.slice pu43 nu43 cu43)≠some S3.next:=by first|exact o43.ne (by omega)|exact o43.new (by omega)|exact d43 _ (by omega) (by first|(simp [blkOf]; done)|exact ow_37.ne (by omega)|exact ow_37.new (by omega)|assumption)
     have w48:IntKind.i64.wrap ((k:Int)+1)=((k+1:Nat):Int):=by rw [IntWalk.i64_in]<;>omega
     try simp (disch:=first|omega|assumption) only [E0_G,SY,off,agreeKind,partVals,ldA,rdCells,aggD,Nat.reduceAdd,Nat.reduceLT,Nat.reduceBEq,TY_EvH42,g3_6,g3_11,b12,h33a,y34,e35,k43,w48] at he
     rw [drop_cons' hx3] at hd3
     have hf:=(show _=(R123_0 l slo shi (l.drop (k+1)) bf (bh++([(⟨x3.lo,x3.hi⟩:Sp)])) ulo uhi:(List Sp) × (List Sp) × Int × Int) from (if_neg h16).trans ((if_pos h33).trans (rfl))).symm.trans hd3
     refine .next he (m - 1) (by omega) ⟨v_bf,bf,.slice pu43 nu43 cu43,bh++([(⟨x3.lo,x3.hi⟩:Sp)]),ulo,uhi,(k+1),?_,?_,?_,?_,?_,?_,?_,?_,?_,?_,?_,?_,?_,?_,v1_43,g43,by omega,(ow_44.low (by omega)),(o43.low (by omega)),apow_44,hf⟩<;>first|(simp only [SY,eq_self,Nat.reduceBEq,g3_3,g3_5,g3_6,g3_9,g3_10,g3_11]<;>rfl)|omega|assumption|(simp; omega)|simp
    have y49:aBuild Tryz.prog 36 [(0,.int .i64 (min ulo x3.lo)),(1,.int .i64 (max uhi x3.hi))]=some (.agg #[.int .i64 (min ulo x3.lo),.int .i64 (max uhi x3.hi)]):=by kernel_rfl
    obtain ⟨S50,k50,n50,b50,q50⟩:=st_at (o:=0) (c':=[.int .i64 (min ulo x3.lo),.int .i64 (max uhi x3.hi)]) (v:=.agg #[.int .i64 (min ulo x3.lo),.int .i64 (max uhi x3.hi)]) tz36 v1_12 rfl rfl (show 0+2≤2 by decide) rfl
    have ow_51:=ow_13.frame (by omega) (fun id hid hb=>q50 id (fun e=>(show blkOf (v_bf)≠some S.next from by first|exact ow_13.ne (by omega)|exact ow_13.new (by omega)|assumption) (e ▸ hb)))
    have ow_52:=ow_14.frame (by omega) (fun id hid hb=>q50 id (fun e=>(show blkOf (v_bh)≠some S.next from by first|exact ow_14.ne (by omega)|exact ow_14.new (by omega)|assumption) (e ▸ hb)))
    have g50:Agree S S50:=⟨by have:=(g12).1; omega,fun id hid=>(q50 id (by have:=(g12).1; omega)).trans ((g12).2 id hid)⟩
    have w53:IntKind.i64.wrap ((k:Int)+1)=((k+1:Nat):Int):=by rw [IntWalk.i64_in]<;>omega
    try simp (disch:=first|omega|assumption) only [E0_G,SY,off,agreeKind,partVals,ldA,aggD,aField,Nat.reduceAdd,Nat.reduceLT,Nat.reduceBEq,TY_EvH42,g3_3,g3_11,v1_12,b12,h33a,y49,k50,w53] at he
    rw [drop_cons' hx3] at hd3
    have hf:=(show _=(R123_0 l slo shi (l.drop (k+1)) bf bh (min ulo x3.lo) (max uhi x3.hi):(List Sp) × (List Sp) × Int × Int) from (if_neg h16).trans ((if_neg h33).trans (rfl))).symm.trans hd3
    refine .next he (m - 1) (by omega) ⟨v_bf,bf,v_bh,bh,min ulo x3.lo,max uhi x3.hi,(k+1),?_,?_,?_,?_,?_,?_,?_,?_,?_,?_,?_,?_,?_,?_,b50,g50,by omega,(ow_51.low (by omega)),(ow_52.low (by omega)),pr3_0,hf⟩<;>first|(simp only [SY,eq_self,Nat.reduceBEq,g3_3,g3_5,g3_6,g3_9,g3_10,g3_11]<;>rfl)|omega|assumption|(simp; omega)|simp
   try simp (disch:=first|omega|assumption) only [SY,h4a] at he
   rw [List.drop_eq_nil_of_le (show l.length≤k by omega)] at hd3
   have hf:=(show _=((bf,bh,ulo,uhi):(List Sp) × (List Sp) × Int × Int) from rfl).symm.trans hd3
   refine .exit he ⟨rfl,⟨v_bf,bf,v_bh,bh,ulo,uhi,k,?_,?_,?_,bb3_1,ga3,by omega,(ow_bf.low (by omega)),(ow_bh.low (by omega)),pr3_0,?_,?_,?_,?_,?_,?_,?_,hf.symm⟩⟩<;>first|(simp only [SY,eq_self,Nat.reduceBEq,g3_3,g3_5,g3_6]<;>rfl)|omega|assumption|(simp; omega)|simp)
 obtain ⟨rfl,v_bf,bf,v_bh,bh,ulo,uhi,k,ge3_3,ge3_5,ge3_6,be3_1,ge3,gm3,oe_bf3,oe_bh3,pe3_0,hj3_0,hj3_1,hj3_2,hj3_3,hj3_4,hj3_5,hj3_6,hR3⟩:=hQ3
 obtain rfl:bf=(R123_0 l slo shi l ([]) ([]) slo shi).1:=by rw [hR3]
 obtain rfl:bh=(R123_0 l slo shi l ([]) ([]) slo shi).2.1:=by rw [hR3]
 obtain rfl:ulo=(R123_0 l slo shi l ([]) ([]) slo shi).2.2.1:=by rw [hR3]
 obtain rfl:uhi=(R123_0 l slo shi l ([]) ([]) slo shi).2.2.2:=by rw [hR3]
 have y55:aBuildSlice Tryz.prog 40 1 [(0,.agg #[.int .i64 ((R123_0 l slo shi l ([]) ([]) slo shi).2.2.1),.int .i64 ((R123_0 l slo shi l ([]) ([]) slo shi).2.2.2)])] S3e=some (.slice (some ⟨S3e.next,0,none⟩) 1 1,S3e.push (.cells [.int .i64 ((R123_0 l slo shi l ([]) ([]) slo shi).2.2.1),.int .i64 ((R123_0 l slo shi l ([]) ([]) slo shi).2.2.2)] 36 2 true true)):=by kernel_rfl
 obtain ⟨S56,e56,n56,b56,a56⟩:=push_open S3e (.cells [.int .i64 ((R123_0 l slo shi l ([]) ([]) slo shi).2.2.1),.int .i64 ((R123_0 l slo shi l ([]) ([]) slo shi).2.2.2)] 36 2 true true)
 have oe_57:=oe_bf3.agree a56
 have oe_58:=oe_bh3.agree a56
 have g56:Agree S S56:=ge3.trans a56
 have ne59:blkOf (v_bf)≠some S3e.next:=oe_bf3.new (Nat.le_refl _)
 have ne60:blkOf (v_bh)≠some S3e.next:=oe_bh3.new (Nat.le_refl _)
 have o61:Own 36 S3e.next S56 (.slice (some ⟨S3e.next,0,none⟩) 1 1) ([(⟨(R123_0 l slo shi l ([]) ([]) slo shi).2.2.1,(R123_0 l slo shi l ([]) ([]) slo shi).2.2.2⟩:Sp)]:List Sp):=.inr ⟨_,true,rfl,Nat.le_refl _,by omega,b56⟩
 have ap62:∀ b,blkOf (v_bf)=some b→blkOf (.slice (some ⟨S3e.next,0,none⟩) 1 1)≠some b:=fun b hb=>o61.ne (Nat.lt_of_lt_of_le (oe_bf3.lt hb) (by omega))
 have ap63:∀ b,blkOf (v_bh)=some b→blkOf (.slice (some ⟨S3e.next,0,none⟩) 1 1)≠some b:=fun b hb=>o61.ne (Nat.lt_of_lt_of_le (oe_bh3.lt hb) (by omega))
 obtain ⟨p65_,n65_,c65_,e65_⟩:=(oe_57.rows).form
 obtain ⟨p66_,n66_,c66_,e66_⟩:=(oe_58.rows).form
 have y64:aBuildSlice Tryz.prog 197 3 [(0,v_bf),(1,.slice (some ⟨S3e.next,0,none⟩) 1 1),(2,v_bh)] S56=some (.slice (some ⟨S56.next,0,none⟩) 3 3,S56.push (.cells [v_bf,.slice (some ⟨S3e.next,0,none⟩) 1 1,v_bh] 40 1 true true)):=by rw [e65_,e66_]; kernel_rfl
 obtain ⟨S67,e67,n67,b67,a67⟩:=push_open S56 (.cells [v_bf,.slice (some ⟨S3e.next,0,none⟩) 1 1,v_bh] 40 1 true true)
 have oe_68:=oe_57.agree a67
 have oe_69:=oe_58.agree a67
 have o61_70:=o61.agree a67
 have g67:Agree S S67:=g56.trans a67
 have ne71:blkOf (v_bf)≠some S56.next:=oe_57.new (Nat.le_refl _)
 have ne72:blkOf (v_bh)≠some S56.next:=oe_58.new (Nat.le_refl _)
 have ne73:blkOf (.slice (some ⟨S3e.next,0,none⟩) 1 1)≠some S56.next:=o61.new (Nat.le_refl _)
 have o74:Own 40 S56.next S67 (.slice (some ⟨S56.next,0,none⟩) 3 3) [(⟨p65_,n65_,c65_⟩:Sl),(⟨(some ⟨S3e.next,0,none⟩),1,1⟩:Sl),(⟨p66_,n66_,c66_⟩:Sl)]:=.inr ⟨_,true,rfl,Nat.le_refl _,by omega,(by have q_:=b67; rw [e65_,e66_] at q_; exact q_)⟩
 obtain ⟨u75,S75,k75,a75,oo75⟩:=c151 ([(R123_0 l slo shi l ([]) ([]) slo shi).1,[(⟨(R123_0 l slo shi l ([]) ([]) slo shi).2.2.1,(R123_0 l slo shi l ([]) ([]) slo shi).2.2.2⟩:Sp)],(R123_0 l slo shi l ([]) ([]) slo shi).2.1]:List (List Sp)) (by simp) (by simp only [List.map_cons,List.map_nil,List.sum_cons,List.sum_nil,List.length_cons,List.length_nil]; omega) S67 (.slice (some ⟨S56.next,0,none⟩) 3 3) ((heads3 (o74.rows) (show Lst _ (Sl.v ⟨p65_,n65_,c65_⟩) _ from by show Lst _ (.slice p65_ n65_ c65_) _; rw [← e65_]; exact oe_68.rows) (o61_70.rows) (show Lst _ (Sl.v ⟨p66_,n66_,c66_⟩) _ from by show Lst _ (.slice p66_ n66_ c66_) _; rw [← e66_]; exact oe_69.rows)))
 have l75:=a75.1
 obtain ⟨pu75,nu75,cu75,rfl⟩:=own_slice oo75
 have ap76:∀ b,blkOf (v_bf)=some b→blkOf (.slice pu75 nu75 cu75)≠some b:=fun b hb=>oo75.ne (Nat.lt_of_lt_of_le (oe_68.lt hb) (by omega))
 have ap77:∀ b,blkOf (v_bh)=some b→blkOf (.slice pu75 nu75 cu75)≠some b:=fun b hb=>oo75.ne (Nat.lt_of_lt_of_le (oe_69.lt hb) (by omega))
 have ap78:∀ b,blkOf (.slice (some ⟨S3e.next,0,none⟩) 1 1)=some b→blkOf (.slice pu75 nu75 cu75)≠some b:=fun b hb=>oo75.ne (Nat.lt_of_lt_of_le (o61_70.lt hb) (by omega))
 have ap79:∀ b,blkOf (.slice (some ⟨S56.next,0,none⟩) 3 3)=some b→blkOf (.slice pu75 nu75 cu75)≠some b:=fun b hb=>oo75.ne (Nat.lt_of_lt_of_le (o74.lt hb) (by omega))
 have oe_80:=oe_68.agree a75
 have oe_81:=oe_69.agree a75
 have o61_82:=o61_70.agree a75
 have o74_83:=o74.agree a75
 have g75:Agree S S75:=g67.trans a75
 try simp (disch:=first|omega|assumption) only [E0_G,SY,off,agreeKind,partVals,vals,ldA,rdCells,aggD,eq_self,if_true,Nat.reduceAdd,Nat.reduceLT,Nat.reduceBEq,TY_EvH42,ge3_3,ge3_5,ge3_6,be3_1,y55,e56,y64,e67,k75] at hz
 have hr:r123 l slo shi=(r151 ([(R123_0 l slo shi l ([]) ([]) slo shi).1,[(⟨(R123_0 l slo shi l ([]) ([]) slo shi).2.2.1,(R123_0 l slo shi l ([]) ([]) slo shi).2.2.2⟩:Sp)],(R123_0 l slo shi l ([]) ([]) slo shi).2.1]:List (List Sp))):=rfl
 exact ⟨.slice pu75 nu75 cu75,S75,by first|(rw [hr]; exact hz.symm)|exact hz.symm,g75,by rw [hr]; exact oo75.low (by omega)⟩
end House
end Go.Proofs
end
