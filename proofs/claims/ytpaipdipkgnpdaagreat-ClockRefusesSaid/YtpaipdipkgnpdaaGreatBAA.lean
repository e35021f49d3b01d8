import Derived.Test.YtpaipdipkgnpdaaGreatBZ
section
set_option linter.unusedSimpArgs false
set_option linter.unusedVariables false
namespace Go.Proofs
namespace Clock
open Go Go.RowKit Go.Aev
set_option maxRecDepth 100000
theorem TY_EvW27:type_of% TY_EvW26:=TY_EvW26
theorem lp80_0 (r:Rc) (hk:r.strikes.length≤100) (S2:AS) (b5 pm pr pq:Nat) (vf:Value) (cl:Nat) (S:AS) (t:T Value) (v:Value) (hS:St80 S2 b5 pm S v (nodesK 0) [] cl) (z:Option (X × St))
  (g1:t.get 1=some vf) (g2:t.get 2=some (.pointer (some ⟨pr,0,none⟩))) (g4:t.get 4=some (.pointer (some ⟨pq,0,none⟩))) (g5:t.get 5=some (.pointer (some ⟨b5,0,none⟩))) (g21:t.get 21=some (.int .i64 (r.strikes.length:Int))) (g22:t.get 22=some (.int .i64 0))
  (hz:(evL Tryz.prog E0).loop none (C80 0) ⟨⟨t,87⟩,[],S⟩=z) :
  ∃ t' S' v',z=some (.exit 0,⟨⟨t',87⟩,[],S'⟩)∧St80 S2 b5 pm S' v' (nodesK r.strikes.length) [] cl∧t'.get 1=some vf∧t'.get 2=some (.pointer (some ⟨pr,0,none⟩))∧t'.get 4=some (.pointer (some ⟨pq,0,none⟩))∧t'.get 5=some (.pointer (some ⟨b5,0,none⟩)):=by
 obtain ⟨xo,to,So,rfl,hQ⟩:=loop_met hz (fun m t S'=>∃ v k,St80 S2 b5 pm S' v (nodesK k) [] cl∧k≤r.strikes.length∧m=r.strikes.length - k∧t.get 1=some vf∧t.get 2=some (.pointer (some ⟨pr,0,none⟩))∧t.get 4=some (.pointer (some ⟨pq,0,none⟩))∧t.get 5=some (.pointer (some ⟨b5,0,none⟩))∧t.get 21=some (.int .i64 (r.strikes.length:Int))∧t.get 22=some (.int .i64 ((k:Nat):Int)))
  (fun x t S'=>x=.exit 0∧∃ v,St80 S2 b5 pm S' v (nodesK r.strikes.length) [] cl∧t.get 1=some vf∧t.get 2=some (.pointer (some ⟨pr,0,none⟩))∧t.get 4=some (.pointer (some ⟨pq,0,none⟩))∧t.get 5=some (.pointer (some ⟨b5,0,none⟩))) (r.strikes.length - 0)
  ⟨v,0,hS,Nat.zero_le _,rfl,g1,g2,g4,g5,g21,g22⟩ (by
   clear g1 g2 g4 g5 g21 g22 hS hz t v S
   rintro m t S ⟨v,k,hS,hkl,rfl,g1,g2,g4,g5,g21,g22⟩
   refine .run fun z he=>?_
   change evCode _ _ _ _ (Code.seq _ (Code.seq _ (Code.seq (Code.block _ (Code.seq _ (Code.region _ _ _))) _))) _=_ at he
   have wk:IntKind.i64.wrap ((k:Int)+1)=((k+1:Nat):Int):=by rw [IntWalk.i64_in]<;>omega
   by_cases hlt:(k:Int)<(r.strikes.length:Int)
   ·have hlt':=decide_eq_true hlt
    have h1:=hS.1
    simp (disch:=first|omega|assumption) only [E0_G,SY,off,agreeKind,Nat.reduceAdd,Nat.reduceLT,Nat.reduceBEq,g21,g22,hlt'] at he
    rw [code_draws _ _ _ (by kernel_rfl)] at he
    generalize hnd:needy _=ndd at he
    have nn5:ndd 5=false:=by rw [← hnd]; kernel_rfl
    have nn7:ndd 7=false:=by rw [← hnd]; kernel_rfl
    obtain ⟨Sa,ka,aa⟩:=c113 (k:Int) S
    have la:=aa.1
    have sa:E0.same S Sa=true:=symEnv_same aa
    obtain ⟨p1,p2,p3,p4,p5,p6,p7,p8,p9,p10⟩:=hS
    have p1a:=(aa.2 b5 p5).trans p1
    obtain ⟨S3,u,S4,S5,e3,k4,k5,hS5,hn5,-⟩:=St80.app (S':=Sa) ⟨p1a,p2.agree aa,(aa.2 pm p6).trans p3,fun q hq=>(aa.2 q (by omega)).trans (p4 q hq),by omega,by omega,p7,p8,by omega,p10⟩ (by rw [nodesK_len]; omega) ⟨(r113 (k:Int)).1,(r113 (k:Int)).2⟩
    have y1:aBuildSlice Tryz.prog 36 1 [(0,.agg #[.int .i64 (r113 (k:Int)).1,.int .i64 (r113 (k:Int)).2])] Sa=some (.slice (some ⟨Sa.next,0,none⟩) 1 1,Sa.push (.cells [.int .i64 (r113 (k:Int)).1,.int .i64 (r113 (k:Int)).2] 131 2 true true)):=by kernel_rfl
    obtain ⟨Sx,ex,nx,_,ax⟩:=push_open Sa (.cells [.int .i64 (r113 (k:Int)).1,.int .i64 (r113 (k:Int)).2] 131 2 true true)
    obtain rfl:Sx=S3:=ex.symm.trans e3
    have sx:E0.same Sa Sx=true:=symEnv_same ax
    simp (disch:=first|omega|assumption) only [E0_G,SY,off,agreeKind,partVals,vals,ldA,aggD,aField,Nat.reduceAdd,Nat.reduceLT,Nat.reduceBEq,TY_EvW27,store_agree,store_refl E0_same,nn5,nn7,g5,g22,h1,ka,y1,e3,k4,k5,wk] at he
    exact .next he (r.strikes.length - (k+1)) (by omega) ⟨u,k+1,by rw [nodesK_succ]; exact ⟨hS5.1,hS5.2.1,hS5.2.2.1,hS5.2.2.2.1,hS5.2.2.2.2.1,hS5.2.2.2.2.2.1,p7,p8,by have:=hS5.2.2.2.2.2.2.2.2.1; omega,p10⟩,by omega,rfl,by simp only [SY,eq_self,Nat.reduceBEq,g1]<;>rfl,by simp only [SY,eq_self,Nat.reduceBEq,g2]<;>rfl,by simp only [SY,eq_self,Nat.reduceBEq,g4]<;>rfl,by simp only [SY,eq_self,Nat.reduceBEq,g5]<;>rfl,by simp only [SY,eq_self,Nat.reduceBEq,g21]<;>rfl,by simp only [SY,eq_self,Nat.reduceBEq]<;>rfl⟩
   ·have hlt':=decide_eq_false hlt
    simp (disch:=first|omega|assumption) only [E0_G,SY,off,agreeKind,Nat.reduceLT,Nat.reduceBEq,g21,g22,hlt'] at he
    obtain rfl:k=r.strikes.length:=by omega
    exact .exit he ⟨rfl,v,hS,by simp only [SY,eq_self,Nat.reduceBEq,g1]<;>rfl,by simp only [SY,eq_self,Nat.reduceBEq,g2]<;>rfl,by simp only [SY,eq_self,Nat.reduceBEq,g4]<;>rfl,by simp only [SY,eq_self,Nat.reduceBEq,g5]<;>rfl⟩)
 obtain ⟨rfl,v',h1,h2,h3,h4,h5⟩:=hQ
 exact ⟨to,So,v',rfl,h1,h2,h3,h4,h5⟩
theorem lp80_1 (M:List Int) (hM:M.length≤500) (n0:Nat) (hn0:n0≤100) (S2:AS) (b5 pm pr pq:Nat) (vm:Value) (cl:Nat) (S:AS) (t:T Value) (v:Value) (hS:St80 S2 b5 pm S v (nodesK n0) [] cl) (hv:Lst S vm M) (z:Option (X × St))
  (g2:t.get 2=some (.pointer (some ⟨pr,0,none⟩))) (g4:t.get 4=some (.pointer (some ⟨pq,0,none⟩))) (g5:t.get 5=some (.pointer (some ⟨b5,0,none⟩))) (g35:t.get 35=some vm) (g36:t.get 36=some (.int .i64 (M.length:Int))) (g37:t.get 37=some (.int .i64 0))
  (hz:(evL Tryz.prog E0).loop none (C80 1) ⟨⟨t,87⟩,[],S⟩=z) :
  ∃ t' S' v',z=some (.exit 2,⟨⟨t',87⟩,[],S'⟩)∧St80 S2 b5 pm S' v' (nodesK n0++M.map fun p=>(⟨4,p⟩:Nd)) [] cl∧t'.get 2=some (.pointer (some ⟨pr,0,none⟩))∧t'.get 4=some (.pointer (some ⟨pq,0,none⟩))∧t'.get 5=some (.pointer (some ⟨b5,0,none⟩)):=by
 obtain ⟨xo,to,So,rfl,hQ⟩:=loop_met hz (fun m t S'=>∃ v k,St80 S2 b5 pm S' v (nodesK n0++(M.take k).map fun p=>(⟨4,p⟩:Nd)) [] cl∧Lst S' vm M∧k≤M.length∧m=M.length - k∧t.get 2=some (.pointer (some ⟨pr,0,none⟩))∧t.get 4=some (.pointer (some ⟨pq,0,none⟩))∧t.get 5=some (.pointer (some ⟨b5,0,none⟩))∧t.get 35=some vm∧t.get 36=some (.int .i64 (M.length:Int))∧t.get 37=some (.int .i64 ((k:Nat):Int)))
  (fun x t S'=>x=.exit 2∧∃ v,St80 S2 b5 pm S' v (nodesK n0++M.map fun p=>(⟨4,p⟩:Nd)) [] cl∧t.get 2=some (.pointer (some ⟨pr,0,none⟩))∧t.get 4=some (.pointer (some ⟨pq,0,none⟩))∧t.get 5=some (.pointer (some ⟨b5,0,none⟩))) (M.length - 0)
  ⟨v,0,by simpa using hS,hv,Nat.zero_le _,rfl,g2,g4,g5,g35,g36,g37⟩ (by
   clear g2 g4 g5 g35 g36 g37 hS hz hv t v S
   rintro m t S ⟨v,k,hS,hv,hkl,rfl,g2,g4,g5,g35,g36,g37⟩
   refine .run fun z he=>?_
   change evCode _ _ _ _ (Code.seq _ (Code.seq _ (Code.seq (Code.block _ (Code.seq _ (Code.region _ _ _))) _))) _=_ at he
   have wk:IntKind.i64.wrap ((k:Int)+1)=((k+1:Nat):Int):=by rw [IntWalk.i64_in]<;>omega
   by_cases hlt:(k:Int)<(M.length:Int)
   ·have hlt':=decide_eq_true hlt
    obtain ⟨x,hx⟩:∃ x,M[k]?=some x:=⟨M[k]'(by omega),by simp⟩
    have h1:=hS.1
    obtain ⟨i1,o1,cc1,ty1,wr1,ex1,ix1,hh1,ll1,qq1,-⟩:=hv.at2 (P:=Tryz.prog) (t:=31) Tryz.underlying31 tz3 hx
    have m1:cc1[o1]?=some (.int .i64 x):=qq1 0 (show 0<1 by decide)
    simp (disch:=first|omega|assumption) only [E0_G,SY,off,agreeKind,ldA,aggD,Nat.reduceAdd,Nat.reduceLT,Nat.reduceBEq,TY_EvW27,g35,g36,g37,hlt',ix1,hh1,m1] at he
    rw [code_draws _ _ _ (by kernel_rfl)] at he
    generalize hnd:needy _=ndd at he
    have nn5:ndd 5=false:=by rw [← hnd]; kernel_rfl
    have nn7:ndd 7=false:=by rw [← hnd]; kernel_rfl
    obtain ⟨Sa,ka,aa⟩:=c98 x S
    have la:=aa.1
    have sa:E0.same S Sa=true:=symEnv_same aa
    obtain ⟨p1,p2,p3,p4,p5,p6,p7,p8,p9,p10⟩:=hS
    have p1a:=(aa.2 b5 p5).trans p1
    obtain ⟨S3,u,S4,S5,e3,k4,k5,hS5,hn5,hf5⟩:=St80.app (S':=Sa) ⟨p1a,p2.agree aa,(aa.2 pm p6).trans p3,fun q hq=>(aa.2 q (by omega)).trans (p4 q hq),by omega,by omega,p7,p8,by omega,p10⟩ (by rw [List.length_append,nodesK_len,List.length_map,List.length_take]; omega) ⟨(r98 x).1,(r98 x).2⟩
    have y1:aBuildSlice Tryz.prog 36 1 [(0,.agg #[.int .i64 (r98 x).1,.int .i64 (r98 x).2])] Sa=some (.slice (some ⟨Sa.next,0,none⟩) 1 1,Sa.push (.cells [.int .i64 (r98 x).1,.int .i64 (r98 x).2] 131 2 true true)):=by kernel_rfl
    obtain ⟨Sx,ex,nx,_,ax⟩:=push_open Sa (.cells [.int .i64 (r98 x).1,.int .i64 (r98 x).2] 131 2 true true)
    obtain rfl:Sx=S3:=ex.symm.trans e3
    have sx:E0.same Sa Sx=true:=symEnv_same ax
    simp (disch:=first|omega|assumption) only [E0_G,SY,off,agreeKind,partVals,vals,ldA,aggD,aField,Nat.reduceAdd,Nat.reduceLT,Nat.reduceBEq,TY_EvW27,store_agree,store_refl E0_same,nn5,nn7,g5,g37,h1,ka,y1,e3,k4,k5,wk] at he
    have htk:nodesK n0++(M.take (k+1)).map (fun p=>(⟨4,p⟩:Nd))=(nodesK n0++(M.take k).map fun p=>(⟨4,p⟩:Nd))++[⟨(r98 x).1,(r98 x).2⟩]:=by
     rw [List.take_add_one,hx]; simp [r98]
    exact .next he (M.length - (k+1)) (by omega) ⟨u,k+1,by rw [htk]; exact ⟨hS5.1,hS5.2.1,hS5.2.2.1,hS5.2.2.2.1,hS5.2.2.2.2.1,hS5.2.2.2.2.2.1,p7,p8,by have:=hS5.2.2.2.2.2.2.2.2.1; omega,p10⟩,lst_keep (hv.agree aa) hn5 hf5,by omega,rfl,by simp only [SY,eq_self,Nat.reduceBEq,g2]<;>rfl,by simp only [SY,eq_self,Nat.reduceBEq,g4]<;>rfl,by simp only [SY,eq_self,Nat.reduceBEq,g5]<;>rfl,by simp only [SY,eq_self,Nat.reduceBEq,g35]<;>rfl,by simp only [SY,eq_self,Nat.reduceBEq,g36]<;>rfl,by simp only [SY,eq_self,Nat.reduceBEq]<;>rfl⟩
   ·have hlt':=decide_eq_false hlt
    simp (disch:=first|omega|assumption) only [E0_G,SY,off,agreeKind,Nat.reduceLT,Nat.reduceBEq,g36,g37,hlt'] at he
    obtain rfl:k=M.length:=by omega
    rw [List.take_length] at hS
    exact .exit he ⟨rfl,v,hS,by simp only [SY,eq_self,Nat.reduceBEq,g2]<;>rfl,by simp only [SY,eq_self,Nat.reduceBEq,g4]<;>rfl,by simp only [SY,eq_self,Nat.reduceBEq,g5]<;>rfl⟩)
 obtain ⟨rfl,v',h1,h3,h4,h5⟩:=hQ
 exact ⟨to,So,v',rfl,h1,h3,h4,h5⟩
theorem lp80_2 (N:List Nd) (hN:N.length≤1000) (S2:AS) (b5 pm pr pq:Nat) (cl:Nat) (S:AS) (t:T Value) (v:Value) (hS:St80 S2 b5 pm S v N [] cl) (z:Option (X × St))
  (g2:t.get 2=some (.pointer (some ⟨pr,0,none⟩))) (g4:t.get 4=some (.pointer (some ⟨pq,0,none⟩))) (g5:t.get 5=some (.pointer (some ⟨b5,0,none⟩))) (g50:t.get 50=some v) (g51:t.get 51=some (.int .i64 (N.length:Int))) (g52:t.get 52=some (.int .i64 0))
  (hz:(evL Tryz.prog E0).loop none (C80 2) ⟨⟨t,87⟩,[],S⟩=z) :
  ∃ t' S' cl',z=some (.exit 4,⟨⟨t',87⟩,[],S'⟩)∧St80 S2 b5 pm S' v N (idxL N 0 []) cl'∧t'.get 2=some (.pointer (some ⟨pr,0,none⟩))∧t'.get 4=some (.pointer (some ⟨pq,0,none⟩))∧t'.get 5=some (.pointer (some ⟨b5,0,none⟩)):=by
 obtain ⟨xo,to,So,rfl,hQ⟩:=loop_met hz (fun m t S'=>∃ k es cl,St80 S2 b5 pm S' v N es cl∧idxL (N.drop k) k es=idxL N 0 []∧k≤N.length∧m=N.length - k∧t.get 2=some (.pointer (some ⟨pr,0,none⟩))∧t.get 4=some (.pointer (some ⟨pq,0,none⟩))∧t.get 5=some (.pointer (some ⟨b5,0,none⟩))∧t.get 50=some v∧t.get 51=some (.int .i64 (N.length:Int))∧t.get 52=some (.int .i64 ((k:Nat):Int)))
  (fun x t S'=>x=.exit 4∧∃ cl,St80 S2 b5 pm S' v N (idxL N 0 []) cl∧t.get 2=some (.pointer (some ⟨pr,0,none⟩))∧t.get 4=some (.pointer (some ⟨pq,0,none⟩))∧t.get 5=some (.pointer (some ⟨b5,0,none⟩))) (N.length - 0)
  ⟨0,[],cl,hS,rfl,Nat.zero_le _,rfl,g2,g4,g5,g50,g51,g52⟩ (by
   clear g2 g4 g5 g50 g51 g52 hS hz t cl S
   rintro m t S ⟨k,es,cl,hS,hix,hkl,rfl,g2,g4,g5,g50,g51,g52⟩
   refine .run fun z he=>?_
   change evCode _ _ _ _ (Code.seq _ (Code.seq _ (Code.seq (Code.block _ (Code.seq _ _)) _))) _=_ at he
   have wk:IntKind.i64.wrap ((k:Int)+1)=((k+1:Nat):Int):=by rw [IntWalk.i64_in]<;>omega
   by_cases hlt:(k:Int)<(N.length:Int)
   ·have hlt':=decide_eq_true hlt
    obtain ⟨x,hx⟩:∃ x,N[k]?=some x:=⟨N[k]'(by omega),by simp⟩
    obtain ⟨p1,p2,p3,p4,p5,p6,p7,p8,p9,p10⟩:=hS
    obtain ⟨i1,o1,cc1,ty1,wr1,ex1,ix1,hh1,ll1,qq1,-⟩:=p2.rows.at2 (P:=Tryz.prog) (t:=36) Tryz.underlying36 tz131 hx
    have m0:cc1[o1]?=some (.int .i64 x.kind):=qq1 0 (show 0<2 by decide)
    have m1:cc1[o1+1]?=some (.int .i64 x.n):=qq1 1 (show 1<2 by decide)
    obtain ⟨S3,e3,n3,b3,a3⟩:=push_open S (.cells [.int .i64 0,.int .i64 0] 131 0 true true)
    obtain ⟨S4,e4,n4,b4,q4⟩:=st_at (P:=Tryz.prog) (o:=0) (c':=[.int .i64 x.kind,.int .i64 x.n]) (v:=.agg #[.int .i64 x.kind,.int .i64 x.n]) tz131 b3 rfl rfl (show 0+2≤2 by decide) rfl
    have f4:∀ q,q<S.next→S4.heap.get q=S.heap.get q:=fun q hq=>(q4 q (by omega)).trans (a3.2 q hq)
    have p1a:=(f4 b5 p5).trans p1
    have p3a:=(f4 pm p6).trans p3
    obtain ⟨S5,cl',u5,n5,b5',q5⟩:=put_nd p3a x (k:Int)
    simp (disch:=first|omega|assumption) only [E0_G,SY,off,agreeKind,allocV,ldA,rdCells,aggD,aField,Nat.reduceAdd,Nat.reduceLT,Nat.reduceBEq,TY_EvW27,g5,g50,g51,g52,hlt',ix1,hh1,m0,m1,e3,e4,p1a,b4,op_mapUpdate,u5,wk] at he
    have em:=own_nem p2 p3
    refine .next he (N.length - (k+1)) (by omega) ⟨k+1,nPut es x (k:Int),cl',⟨(q5 b5 (by omega)).trans p1a,p2.frame (by omega) (fun id hid hb=>(q5 id (fun e=>em (by rw [← e]; exact hb))).trans (f4 id hid)),b5',fun q hq=>(q5 q (by omega)).trans ((f4 q (by omega)).trans (p4 q hq)),by omega,by omega,p7,p8,by omega,p10⟩,?_,by omega,rfl,by simp only [SY,eq_self,Nat.reduceBEq,g2]<;>rfl,by simp only [SY,eq_self,Nat.reduceBEq,g4]<;>rfl,by simp only [SY,eq_self,Nat.reduceBEq,g5]<;>rfl,by simp only [SY,eq_self,Nat.reduceBEq,g50]<;>rfl,by simp only [SY,eq_self,Nat.reduceBEq,g51]<;>rfl,by simp only [SY,eq_self,Nat.reduceBEq]<;>rfl⟩
    rw [drop_cons' hx,idxL] at hix
    exact hix
   ·have hlt':=decide_eq_false hlt
    simp (disch:=first|omega|assumption) only [E0_G,SY,off,agreeKind,Nat.reduceLT,Nat.reduceBEq,g51,g52,hlt'] at he
    obtain rfl:k=N.length:=by omega
    rw [List.drop_length,idxL] at hix
    subst hix
    exact .exit he ⟨rfl,cl,hS,by simp only [SY,eq_self,Nat.reduceBEq,g2]<;>rfl,by simp only [SY,eq_self,Nat.reduceBEq,g4]<;>rfl,by simp only [SY,eq_self,Nat.reduceBEq,g5]<;>rfl⟩)
 obtain ⟨rfl,v',h1,h3,h4,h5⟩:=hQ
 exact ⟨to,So,v',rfl,h1,h3,h4,h5⟩
end Clock
end Go.Proofs
end
section
set_option linter.unusedSimpArgs false
set_option linter.unusedVariables false
namespace Go.Proofs
namespace Clock
open Go Go.RowKit Go.Aev
set_option maxRecDepth 100000
theorem TY_EvW28:type_of% TY_EvW27:=TY_EvW27
theorem St80.agree {S2:AS} {b5 pm:Nat} {S' S'':AS} {v:Value} {nodes:List Nd} {es:List (Nd × Int)} {cl:Nat} (h:St80 S2 b5 pm S' v nodes es cl) (aa:Agree S' S''):St80 S2 b5 pm S'' v nodes es cl:=by
 obtain ⟨p1,p2,p3,p4,p5,p6,p7,p8,p9,p10⟩:=h
 have la:=aa.1
 exact ⟨(aa.2 b5 p5).trans p1,p2.agree aa,(aa.2 pm p6).trans p3,fun q hq=>(aa.2 q (by omega)).trans (p4 q hq),by omega,by omega,p7,p8,by omega,p10⟩
theorem link80 (S0:AS) (b5 pm:Nat) (hb5:b5<S0.next) (S:AS) (v vl:Value) (l0 ys:List Lk) (kf:FuncId) (cs ds:Array Value) (hyl:l0.length+ys.length≤1000000) (ho:∀ a S',E0.orc kf a S'=none) (hf:Feeds Tryz.prog E0 (fun id=>id=b5) S0 kf cs ds argsL ys)
  (hoff:Off (fun id=>id=b5) S0 S) (hb:S.heap.get b5=some (.cells [v,.map (some pm),vl] 124 0 true true)) (o:Own 107 S0.next S vl l0) :
  ∃ vl' S3 S4,(evL Tryz.prog E0).call 132 #[vl,.func (.func kf) cs ds] S=some (vl',S3)∧S3.heap.get b5=some (.cells [v,.map (some pm),vl] 124 0 true true)∧stA Tryz.prog 39 ⟨b5,2,none⟩ vl' S3=some S4∧Off (fun id=>id=b5) S0 S4∧S4.heap.get b5=some (.cells [v,.map (some pm),vl'] 124 0 true true)∧Own 107 S0.next S4 vl' (l0++ys):=by
 have hn:=hoff.1
 obtain ⟨vl',S3,k3,o3,n3,f3⟩:=c132 kf cs ds ys l0 hyl ho _ S0 S hf hoff vl o
 obtain ⟨pu,nu,cu,rfl⟩:=own_slice o3
 have b3:=(f3 b5 (by omega) (o.ne hb5)).trans hb
 obtain ⟨S4,k4,n4,b4,q4⟩:=st_at (P:=Tryz.prog) (t:=39) (o:=2) (c':=[v,.map (some pm),.slice pu nu cu]) (v:=.slice pu nu cu) tz39 b3 rfl rfl (show 2+1≤3 by decide) rfl
 refine ⟨_,S3,S4,k3,b3,k4,⟨by omega,fun id hid hne=>?_⟩,b4,o3.frame (by omega) (fun id hid hb=>q4 id (fun e=>o3.ne hb5 (by rw [← e]; exact hb)))⟩
 exact (q4 id hne).trans ((f3 id (by omega) (o.ne hid)).trans (hoff.2 id hid hne))
theorem cpp_len:∀ (l acc:List Int) (x:Int),(cpp acc x l).length≤acc.length+l.length
 | [],acc,x=>by simp [cpp]
 | y :: l,acc,x=>by
  unfold cpp
  split
  ·have:=cpp_len l acc x; simp only [List.length_cons]; omega
  ·have:=cpp_len l (acc++[y]) y; simp only [List.length_append,List.length_cons,List.length_nil] at this ⊢; omega
theorem cps_len (l:List Int):(cps l).length≤l.length:=by
 cases l with
 | nil=>simp [cps]
 | cons x l=>have:=cpp_len l [x] x; simp only [cps,List.length_cons,List.length_nil] at this ⊢; omega
theorem r127_len (r:Rc) (further:List Int) (hs:r.strikes.length≤20) (hf:further.length≤5):(r127 r further).length≤60:=by
 unfold r127
 refine Nat.le_trans (cps_len _) ?_
 rw [srtI_len,List.length_append,R127_len]
 simp only [List.length_append,List.length_cons,List.length_nil]; omega
theorem in169_len (s:Se) (x:Nd) (k:Nat):∀ (l:List Nd) (n:Nat),(in169 s x k l n).length=2 * l.length
 | [],_=>rfl
 | z :: l,n=>by rw [in169,List.length_cons,List.length_cons,in169_len s x k l,List.length_cons]; omega
theorem out169_len (s:Se):∀ (l:List Nd) (k:Nat),l.length≤100→(out169 s l k).length≤200 * l.length
 | [],_,_=>by simp [out169]
 | x :: l,k,h=>by
  simp only [List.length_cons] at h
  have:=out169_len s l (k+1) (by omega)
  rw [out169,List.length_append,in169_len,List.length_cons]; omega
theorem R167_len (es:List (Nd × Int)):∀ (l:List (Nd × Sp)) (p:Int),(R167 es p l).length≤l.length
 | [],_=>by simp [R167]
 | b :: l,p=>by
  have:=R167_len es l (nAt es b.1)
  rw [R167,List.length_append,List.length_cons]
  split<;>simp only [List.length_cons,List.length_nil]<;>omega
theorem tolds_len (r:Rc):(tolds r).length=2+r.sights.length:=by
 unfold tolds r187
 simp only [List.length_cons]
 have:∀ (a b c d e f g h i j k:Int) (st:List Stp) (sk:List Sk) (sg l:List Sg),(R187_0 a b c d e f g h i j k st sk sg l).length=l.length:=by
  intro a b c d e f g h i j k st sk sg l
  induction l with
  | nil=>rfl
  | cons x l ih=>rw [R187_0,List.length_cons,ih,List.length_cons]
 rw [this]; omega
theorem rowsR_len (r:Rc):(rowsR r).length=2+r.strikes.length:=by
 unfold rowsR r186
 simp only [List.length_cons]
 have:∀ (a b c d e f g h i j k:Int) (st:List Stp) (sk:List Sk) (sg:List Sg) (l:List Sk) (n:Nat),(R186_0 a b c d e f g h i j k st sk sg l n).length=l.length+1:=by
  intro a b c d e f g h i j k st sk sg l
  induction l with
  | nil=>intro n; rfl
  | cons x l ih=>intro n; rw [R186_0,List.length_cons,ih,List.length_cons]
 rw [this]; omega
theorem nodesR_len (r:Rc) (further:List Int) (hs:r.strikes.length≤20) (hf:further.length≤5):(nodesR r further).length≤83:=by
 have:=r127_len r further hs hf
 rw [nodesR,List.length_append,nodesK_len,List.length_map]; omega
set_option maxHeartbeats 16000000 in
theorem c80 (r:Rc) (further:List Int) (hp:r.ses.stops.length≤12) (hs:r.strikes.length≤20) (hg:r.sights.length≤20) (hf:further.length≤5) (h1:1≤r.ses.rLo) (h2:1≤r.ses.rHi) (S:AS) (v0 v1 v2 vf:Value) (q0:Lst S v0 r.ses.stops) (q1:Lst S v1 r.strikes) (q2:Lst S v2 r.sights) (qf:Lst S vf further) :
  ∃ vn pm cl vl S',(evL Tryz.prog E0).call 80 #[.agg (rcCells r v0 v1 v2).toArray,vf] S=some (.agg #[vn,.map (some pm),vl],S')∧Agree S S'∧Lst S' vn (nodesR r further)∧S'.heap.get pm=some (.mapb (mapN (idxR r further)) cl)∧pm<S'.next∧Lst S' vl (linksR r further):=by
 generalize hz:(evL Tryz.prog E0).call 80 _ _=z
 rw [L_call,evCall_said rfl Tryz.func80 rfl (by decide) Tryz.ntmps80 Tryz.results80] at hz
 obtain ⟨S1,e1,n1,b1,a1⟩:=push_open S (.cells (rcCells r v0 v1 v2) 30 0 true true)
 obtain ⟨S2,e2,n2,b2,a2⟩:=push_open S1 (.cells [.slice none 0 0,.map none,.slice none 0 0] 124 0 true true)
 obtain ⟨S3,e3,n3,b3,a3⟩:=push_open S2 (.cells [.int .i64 0,.int .i64 0,.int .i64 1,.int .i64 0,.int .i64 2,.int .i64 0] 131 2 true true)
 obtain ⟨S4,e4,n4,b4,a4⟩:=push_open S3 (.mapb [] 0)
 obtain ⟨S5,e5,n5,b5,a5⟩:=push_open S4 (.cells [.slice none 0 0,.map none,.slice none 0 0] 124 0 true true)
 obtain ⟨S6,e6,n6,b6,q6⟩:=st_at (P:=Tryz.prog) (o:=0) (c':=[.slice (some ⟨S2.next,0,none⟩) 3 3,.map (some S3.next),.slice none 0 0]) (v:=.agg #[.slice (some ⟨S2.next,0,none⟩) 3 3,.map (some S3.next),.slice none 0 0]) tz124 b5 rfl rfl (show 0+3≤3 by decide) rfl
 have y0:aBuildSlice Tryz.prog 36 3 [(0,.agg #[.int .i64 0,.int .i64 0]),(1,.agg #[.int .i64 1,.int .i64 0]),(2,.agg #[.int .i64 2,.int .i64 0])] S2=some (.slice (some ⟨S2.next,0,none⟩) 3 3,S2.push (.cells [.int .i64 0,.int .i64 0,.int .i64 1,.int .i64 0,.int .i64 2,.int .i64 0] 131 2 true true)):=by kernel_rfl
 have y1:∀ a b,aBuild Tryz.prog 124 [(0,.slice (some ⟨a,0,none⟩) 3 3),(1,.map (some b))]=some (.agg #[.slice (some ⟨a,0,none⟩) 3 3,.map (some b),.slice none 0 0]):=fun a b=>by kernel_rfl
 have y2:∀ a,aBuild Tryz.prog 131 [(0,.int .i64 a)]=some (.agg #[.int .i64 a,.int .i64 0]):=fun a=>by kernel_rfl
 have f2:∀ q,q<S2.next→S6.heap.get q=S2.heap.get q:=fun q hq=>(q6 q (by omega)).trans ((a5.2 q (by omega)).trans ((a4.2 q (by omega)).trans (a3.2 q hq)))
 have ag6:Agree S S6:=⟨by omega,fun id hid=>(f2 id (by omega)).trans ((a2.2 id (by omega)).trans (a1.2 id hid))⟩
 have w1:=(q1.agree ag6).len (P:=Tryz.prog) (t:=27) Tryz.underlying27
 have hS6:St80 S2 S4.next S3.next S6 (.slice (some ⟨S2.next,0,none⟩) 3 3) (nodesK 0) [] 0 :=
  ⟨b6,.inr ⟨S2.next,true,rfl,Nat.le_refl _,by omega,(q6 _ (by omega)).trans ((a5.2 _ (by omega)).trans ((a4.2 _ (by omega)).trans b3))⟩,(q6 _ (by omega)).trans ((a5.2 _ (by omega)).trans b4),f2,by omega,by omega,by omega,by omega,by omega,by omega⟩
 have br2:S2.heap.get S.next=some (.cells (rcCells r v0 v1 v2) 30 0 true true):=(a2.2 _ (by omega)).trans b1
 have br6:=(f2 S.next (by omega)).trans br2
 simp (disch:=first|omega|assumption) only [E0_G,SY,setArgs,off,agreeKind,partVals,allocV,boxed,ldA,aggD,aField,Nat.reduceAdd,Nat.reduceSub,Nat.reduceLT,Nat.reduceBEq,TY_EvW28,op_makeMap,e1,e2,y2,y0,e3,e4,y1,e5,e6,br6,w1] at hz
 generalize hL:Rec.loop _ _ _ _=LL at hz
 obtain ⟨t7,S7,v7,rfl,hS7,g1,g2,g4,g5⟩:=lp80_0 r (by omega) S2 S4.next S3.next S.next S1.next vf 0 S6 _ _ hS6 _ (by simp only [SY,eq_self,Nat.reduceBEq]<;>rfl) (by simp only [SY,eq_self,Nat.reduceBEq]<;>rfl) (by simp only [SY,eq_self,Nat.reduceBEq]<;>rfl) (by simp only [SY,eq_self,Nat.reduceBEq]<;>rfl) (by simp only [SY,eq_self,Nat.reduceBEq]<;>rfl) (by simp only [SY,eq_self,Nat.reduceBEq]<;>rfl) hL
 have l7:=hS7.2.2.2.2.2.2.2.2.1
 have ag7:Agree S S7:=⟨by omega,fun id hid=>(hS7.2.2.2.1 id (by omega)).trans ((a2.2 id (by omega)).trans (a1.2 id hid))⟩
 have br7:=(hS7.2.2.2.1 S.next (by omega)).trans br2
 obtain ⟨vm,S8,k8,a8,hv8⟩:=c127 r further hp hs hg hf S7 v0 (q0.agree ag7) v1 (q1.agree ag7) v2 (q2.agree ag7) vf (qf.agree ag7)
 have wM:=hv8.len (P:=Tryz.prog) (t:=31) Tryz.underlying31
 simp (disch:=first|omega|assumption) only [E0_G,SY,off,agreeKind,vals,ldA,rdCells,aggD,eq_self,if_true,Nat.reduceAdd,Nat.reduceLT,Nat.reduceBEq,TY_EvW28,g1,g2,br7,k8,wM] at hz
 generalize hL:Rec.loop _ _ _ _=LL at hz
 have hM:=r127_len r further hs hf
 obtain ⟨t9,S9,v9,rfl,hS9,g2,g4,g5⟩:=lp80_1 (r127 r further) (by omega) r.strikes.length (by omega) S2 S4.next S3.next S.next S1.next vm 0 S8 _ _ (hS7.agree a8) hv8 _ (by simp only [SY,eq_self,Nat.reduceBEq,g2]<;>rfl) (by simp only [SY,eq_self,Nat.reduceBEq,g4]<;>rfl) (by simp only [SY,eq_self,Nat.reduceBEq,g5]<;>rfl) (by simp only [SY,eq_self,Nat.reduceBEq]<;>rfl) (by simp only [SY,eq_self,Nat.reduceBEq]<;>rfl) (by simp only [SY,eq_self,Nat.reduceBEq]<;>rfl) hL
 have hN:=nodesR_len r further hs hf
 change St80 S2 S4.next S3.next S9 v9 (nodesR r further) [] 0 at hS9
 have b9:=hS9.1
 have wN:=hS9.2.1.rows.len (P:=Tryz.prog) (t:=36) Tryz.underlying36
 simp (disch:=first|omega|assumption) only [E0_G,SY,off,agreeKind,ldA,aggD,aField,eq_self,if_true,Nat.reduceAdd,Nat.reduceLT,Nat.reduceBEq,TY_EvW28,g5,b9,wN] at hz
 generalize hL:Rec.loop _ _ _ _=LL at hz
 obtain ⟨t10,S10,cl,rfl,hS10,g2,g4,g5⟩:=lp80_2 (nodesR r further) (by omega) S2 S4.next S3.next S.next S1.next 0 S9 _ v9 hS9 _ (by simp only [SY,eq_self,Nat.reduceBEq,g2]<;>rfl) (by simp only [SY,eq_self,Nat.reduceBEq,g4]<;>rfl) (by simp only [SY,eq_self,Nat.reduceBEq,g5]<;>rfl) (by simp only [SY,eq_self,Nat.reduceBEq]<;>rfl) (by simp only [SY,eq_self,Nat.reduceBEq]<;>rfl) (by simp only [SY,eq_self,Nat.reduceBEq]<;>rfl) hL
 have hlv:=hS10.2.2.2.2.2.2.2.2.1
 have b10:=hS10.1
 have br10:=(hS10.2.2.2.1 S.next (by omega)).trans br2
 have bq10:=(hS10.2.2.2.1 S1.next (by omega)).trans b2
 have l5:=hS10.2.2.2.2.1
 simp (disch:=first|omega|assumption) only [SY,eq_self,if_true] at hz
 rw [code_draws _ _ _ (by kernel_rfl)] at hz
 generalize hnd:needy _=ndd at hz
 obtain ⟨S11,k11,a11,n11,x11,z11⟩:=c128 r v0 v1 v2 v9 (.map (some S3.next)) (.slice none 0 0) S10
 have b11:=(a11.2 S4.next (by omega)).trans b10
 have br11:=(a11.2 S.next (by omega)).trans br10
 obtain ⟨S12,k12,a12,n12,x12,z12⟩:=c129 r v0 v1 v2 v9 (.map (some S3.next)) (.slice none 0 0) S11
 have b12:=(a12.2 S4.next (by omega)).trans b11
 have br12:=(a12.2 S.next (by omega)).trans br11
 obtain ⟨S13,k13,a13,n13,x13,z13⟩:=c130 r v0 v1 v2 v9 (.map (some S3.next)) (.slice none 0 0) S12
 have b13:=(a13.2 S4.next (by omega)).trans b12
 have br13:=(a13.2 S.next (by omega)).trans br12
 obtain ⟨S14,k14,a14,n14,x14,z14⟩:=c131 r v0 v1 v2 v9 (.map (some S3.next)) (.slice none 0 0) S13
 have b14:=(a14.2 S4.next (by omega)).trans b13
 have s11:E0.same S10 S11=true:=symEnv_same a11
 have s12:E0.same S11 S12=true:=symEnv_same a12
 have s13:E0.same S12 S13=true:=symEnv_same a13
 have s14:E0.same S13 S14=true:=symEnv_same a14
 obtain ⟨S15,e15,n15,b15,a15⟩:=push_open S14 (.cells [.func (.func 165) #[] #[.pointer (some ⟨S10.next+1,0,none⟩),.pointer (some ⟨S10.next,0,none⟩)],.func (.func 167) #[] #[.pointer (some ⟨S11.next+1,0,none⟩),.pointer (some ⟨S11.next,0,none⟩)],.func (.func 168) #[] #[.pointer (some ⟨S12.next+1,0,none⟩),.pointer (some ⟨S12.next,0,none⟩)],.func (.func 169) #[] #[.pointer (some ⟨S13.next+1,0,none⟩),.pointer (some ⟨S13.next,0,none⟩)]] 177 1 true true)
 have s15:E0.same S14 S15=true:=symEnv_same a15
 have y5:∀ f1 f2 f3 f4:Array Value,aBuildSlice Tryz.prog 179 4 [(0,.func (.func 165) #[] f1),(1,.func (.func 167) #[] f2),(2,.func (.func 168) #[] f3),(3,.func (.func 169) #[] f4)] S14=some (.slice (some ⟨S14.next,0,none⟩) 4 4,S14.push (.cells [.func (.func 165) #[] f1,.func (.func 167) #[] f2,.func (.func 168) #[] f3,.func (.func 169) #[] f4] 177 1 true true)):=fun f1 f2 f3 f4=>by kernel_rfl
 have wl4:lenV Tryz.prog 179 (.slice (some ⟨S14.next,0,none⟩) 4 4)=some (.int .i64 4):=by kernel_rfl
 simp (disch:=first|omega|assumption) only [E0_G,SY,agreeKind,partVals,vals,ldA,rdCells,aggD,Nat.reduceAdd,Nat.reduceLT,Nat.reduceBEq,TY_EvW28,store_agree,store_refl E0_same,g2,g5,b10,br10,k11,b11,br11,k12,b12,br12,k13,b13,br13,k14,y5,e15,wl4] at hz
 have hb15:S15.heap.get S4.next=some (.cells [v9,.map (some S3.next),.slice none 0 0] 124 0 true true):=(a15.2 _ (by omega)).trans b14
 have ag15:Agree S10 S15:=a11.trans (a12.trans (a13.trans (a14.trans a15)))
 have aS15:Agree S S15:=⟨by omega,fun id hid=>(ag15.2 id (by omega)).trans ((hS10.2.2.2.1 id (by omega)).trans ((a2.2 id (by omega)).trans (a1.2 id hid)))⟩
 have kb:∀ {α:Type} [Cel α] {v:Value} {l:List α},Lst S v l→∀ b,blkOf v=some b→¬ (b=S4.next):=fun h b hb e=>by
  have:=lst_low (h.agree a1) (by omega) hb
  omega
 have hS15:=hS10.agree ag15
 obtain ⟨-,o15,m15,-,-,lm15,-,-,-,nm15⟩:=hS15
 have hbr:∀ p,S15.heap.get p=some (.cells (rcCells r v0 v1 v2) 30 0 true true)→p<S15.next→p≠S4.next→BxR (fun id=>id=S4.next) S15 p r:=fun p h hl hne=>⟨v0,v1,v2,h,hl,hne,q0.agree aS15,q1.agree aS15,q2.agree aS15,kb q0,kb q1,kb q2⟩
 have hbg:∀ p,S15.heap.get p=some (.cells [v9,.map (some S3.next),.slice none 0 0] 124 0 true true)→p<S15.next→p≠S4.next→BxG (fun id=>id=S4.next) S15 p (nodesR r further) (idxR r further):=fun p h hl hne=>⟨v9,S3.next,cl,_,h,hl,hne,m15,lm15,nm15,o15.rows,fun b hb e=>own_ne0 o15 hb15 (e ▸ hb)⟩
 have F0:=feed165 r (by omega) (by omega) _ S15 _ _ _ _ (hbr (S10.next+1) ((a15.2 _ (by omega)).trans ((a14.2 _ (by omega)).trans ((a13.2 _ (by omega)).trans ((a12.2 _ (by omega)).trans z11)))) (by omega) (by omega)) (hbg S10.next ((a15.2 _ (by omega)).trans ((a14.2 _ (by omega)).trans ((a13.2 _ (by omega)).trans ((a12.2 _ (by omega)).trans x11)))) (by omega) (by omega))
 have F1:=feed167 r (by omega) (by omega) _ S15 _ _ _ _ (hbr (S11.next+1) ((a15.2 _ (by omega)).trans ((a14.2 _ (by omega)).trans ((a13.2 _ (by omega)).trans z12))) (by omega) (by omega)) (hbg S11.next ((a15.2 _ (by omega)).trans ((a14.2 _ (by omega)).trans ((a13.2 _ (by omega)).trans x12))) (by omega) (by omega))
 have F2:=feed168 r (by omega) (by omega) _ S15 _ _ _ _ (hbr (S12.next+1) ((a15.2 _ (by omega)).trans ((a14.2 _ (by omega)).trans z13)) (by omega) (by omega)) (hbg S12.next ((a15.2 _ (by omega)).trans ((a14.2 _ (by omega)).trans x13)) (by omega) (by omega))
 have F3:=feed169 r (by omega) h1 h2 hp _ S15 _ _ _ (by omega) _ (hbr (S13.next+1) ((a15.2 _ (by omega)).trans z14) (by omega) (by omega)) (hbg S13.next ((a15.2 _ (by omega)).trans x14) (by omega) (by omega))
 have L0:(r165 r (idxR r further)).length≤100:=by rw [show (r165 r (idxR r further)).length=_ from flat2_len (lk165_two _) _,tolds_len]; omega
 have L1:(r167 r (idxR r further)).length≤100:=Nat.le_trans (R167_len _ _ _) (by rw [rowsR_len]; omega)
 have L2:(r168 r (idxR r further)).length≤100:=by rw [show (r168 r (idxR r further)).length=_ from flat2_len (lk168_two _) _,rowsR_len]; omega
 have L3:(r169 r (nodesR r further)).length≤20000:=by
  have hd:((nodesR r further).drop (3+r.strikes.length)).length≤100:=by rw [List.length_drop]; omega
  have:=out169_len r.ses _ (3+r.strikes.length) hd
  unfold r169; omega
 obtain ⟨w1',A1,B1,c1',d1,s1',o1,p1,r1⟩:=link80 S15 S4.next S3.next (by omega) S15 v9 (.slice none 0 0) [] _ _ _ _ (by simp only [List.length_nil]; omega) (fun _ _=>rfl) F0 (Off.refl _ _) hb15 (Own.nil _ _ _)
 have lo1:=o1.1
 obtain ⟨w2',A2,B2,c2',d2,s2',o2,p2,r2⟩:=link80 S15 S4.next S3.next (by omega) B1 v9 w1' _ _ _ _ _ (by simp only [List.length_append,List.length_nil]; omega) (fun _ _=>rfl) F1 o1 p1 r1
 obtain ⟨w3',A3,B3,c3',d3,s3',o3,p3,r3⟩:=link80 S15 S4.next S3.next (by omega) B2 v9 w2' _ _ _ _ _ (by simp only [List.length_append,List.length_nil]; omega) (fun _ _=>rfl) F2 o2 p2 r2
 obtain ⟨w4',A4,B4,c4',d4,s4',o4,p4,r4⟩:=link80 S15 S4.next S3.next (by omega) B3 v9 w3' _ _ _ _ _ (by simp only [List.length_append,List.length_nil]; omega) (fun _ _=>rfl) F3 o3 p3 r3
 have i0:aIndexAddr Tryz.prog 179 (.slice (some ⟨S14.next,0,none⟩) 4 4) (.int .i64 0)=some (.pointer (some ⟨S14.next,0,none⟩)):=by kernel_rfl
 have i1:aIndexAddr Tryz.prog 179 (.slice (some ⟨S14.next,0,none⟩) 4 4) (.int .i64 1)=some (.pointer (some ⟨S14.next,1,none⟩)):=by kernel_rfl
 have i2:aIndexAddr Tryz.prog 179 (.slice (some ⟨S14.next,0,none⟩) 4 4) (.int .i64 2)=some (.pointer (some ⟨S14.next,2,none⟩)):=by kernel_rfl
 have i3:aIndexAddr Tryz.prog 179 (.slice (some ⟨S14.next,0,none⟩) 4 4) (.int .i64 3)=some (.pointer (some ⟨S14.next,3,none⟩)):=by kernel_rfl
 have b15_1:=(o1.2 S14.next (by omega) (by omega)).trans b15
 have b15_2:=(o2.2 S14.next (by omega) (by omega)).trans b15
 have b15_3:=(o3.2 S14.next (by omega) (by omega)).trans b15
 have wr0:IntKind.i64.wrap (0+1)=1:=by decide
 have wr1:IntKind.i64.wrap (1+1)=2:=by decide
 have wr2:IntKind.i64.wrap (2+1)=3:=by decide
 have wr3:IntKind.i64.wrap (3+1)=4:=by decide
 rw [L_loop_step] at hz
 simp (disch:=first|omega|assumption) only [E0_G,SY,off,agreeKind,vals,ldA,aggD,aField,Nat.reduceAdd,Nat.reduceLT,Nat.reduceBEq,Int.reduceLT,TY_EvW28,g5,b15,i0,hb15,c1',s1',wr0] at hz
 rw [L_loop_step] at hz
 simp (disch:=first|omega|assumption) only [E0_G,SY,off,agreeKind,vals,ldA,aggD,aField,Nat.reduceAdd,Nat.reduceLT,Nat.reduceBEq,Int.reduceLT,TY_EvW28,g5,b15_1,i1,p1,c2',s2',wr1] at hz
 rw [L_loop_step] at hz
 simp (disch:=first|omega|assumption) only [E0_G,SY,off,agreeKind,vals,ldA,aggD,aField,Nat.reduceAdd,Nat.reduceLT,Nat.reduceBEq,Int.reduceLT,TY_EvW28,g5,b15_2,i2,p2,c3',s3',wr2] at hz
 rw [L_loop_step] at hz
 simp (disch:=first|omega|assumption) only [E0_G,SY,off,agreeKind,vals,ldA,aggD,aField,Nat.reduceAdd,Nat.reduceLT,Nat.reduceBEq,Int.reduceLT,TY_EvW28,g5,b15_3,i3,p3,c4',s4',wr3] at hz
 rw [L_loop_step] at hz
 obtain ⟨pu,nu,cu,rfl⟩:=own_slice r4
 obtain ⟨pv,nv,cv,rfl⟩:=own_slice o15
 have bq4:=(o4.2 S1.next (by omega) (by omega)).trans ((ag15.2 S1.next (by omega)).trans bq10)
 obtain ⟨SE,eE,nE,bE,qE⟩:=st_at (P:=Tryz.prog) (o:=0) (c':=[(.slice pv nv cv),.map (some S3.next),.slice pu nu cu]) (v:=.agg #[(.slice pv nv cv),.map (some S3.next),.slice pu nu cu]) tz124 bq4 rfl rfl (show 0+3≤3 by decide) rfl
 simp (disch:=first|omega|assumption) only [E0_G,SY,off,agreeKind,ldA,rdCells,aggD,eq_self,if_true,Nat.reduceAdd,Nat.reduceLT,Nat.reduceBEq,Int.reduceLT,TY_EvW28,g4,g5,p4,eE,bE] at hz
 have l4:=o4.1
 refine ⟨_,S3.next,cl,_,SE,hz.symm,⟨by omega,fun id hid=>?_⟩,?_,?_,by omega,?_⟩
 ·exact (qE id (by omega)).trans ((o4.2 id (by omega) (by omega)).trans (aS15.2 id hid))
 ·refine (o15.rows.off o4 (fun b hb e=>own_ne0 o15 hb15 (e ▸ hb))).frame (by omega) (fun id hid hb=>qE id (fun e=>o15.ne (show S1.next<S2.next by omega) (e ▸ hb)))
 ·exact (qE _ (by omega)).trans ((o4.2 S3.next lm15 nm15).trans m15)
 ·have hl:=r4.rows
  rw [List.nil_append] at hl
  exact hl.frame (by omega) (fun id hid hb=>qE id (fun e=>r4.ne (show S1.next<S15.next by omega) (e ▸ hb)))
end Clock
end Go.Proofs
end
