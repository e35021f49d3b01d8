import Derived.Test.YtohfdkdjfoonjaaGreatDoorEvH46
import Derived.Test.YtohfdkdjfoonjaaGreatDoorAE7
set_option linter.unusedSimpArgs false
set_option linter.unusedVariables false
namespace Go.Proofs
namespace House
open Go Go.RowKit Go.Aev
set_option maxRecDepth 100000
theorem TY_EvH47:type_of% TY_EvH46:=TY_EvH46
def R66_0 (h:Hs) (door:Int) (slo shi:Int)  : List Sp→List Sp→Int→Int→(List Sp) × Int × Int
 | [],rest,ulo,uhi=>(rest,ulo,uhi)
 | x19 :: l',rest,ulo,uhi=>(if (x19.hi+1)<ulo then R66_0 h door slo shi l' (rest++([(⟨x19.lo,x19.hi⟩:Sp)])) ulo uhi else (if (uhi+1)<x19.lo then R66_0 h door slo shi l' (rest++([(⟨x19.lo,x19.hi⟩:Sp)])) ulo uhi else R66_0 h door slo shi l' rest (min ulo x19.lo) (max uhi x19.hi)))
def R66_1 (h:Hs) (door:Int) (slo shi:Int)  : Nat→Nat→Nat
 | 0,k2=>k2
 | m'+1,k2=>(if (k2:Int)<(((R66_0 h door slo shi ((lget h.doors (Int.toNat door)).shut) ([]) slo shi).1).length:Int) then (if ((lget ((R66_0 h door slo shi ((lget h.doors (Int.toNat door)).shut) ([]) slo shi).1) k2).lo)<((R66_0 h door slo shi ((lget h.doors (Int.toNat door)).shut) ([]) slo shi).2.1) then R66_1 h door slo shi m' (k2+1) else k2) else k2)
def R66_2 (h:Hs) (door:Int) (slo shi:Int)  : List Dr→List Dr→Nat→(List Dr)
 | [],ds,i=>ds
 | x124 :: l',ds,i=>(if (i:Int)=door then R66_2 h door slo shi l' (ds++([(⟨x124.hours,((((R66_0 h door slo shi ((lget h.doors (Int.toNat door)).shut) ([]) slo shi).1).take (R66_1 h door slo shi ((R66_0 h door slo shi (lget h.doors (Int.toNat door)).shut ([]) slo shi).1.length+1) 0))++([(⟨(R66_0 h door slo shi ((lget h.doors (Int.toNat door)).shut) ([]) slo shi).2.1,(R66_0 h door slo shi ((lget h.doors (Int.toNat door)).shut) ([]) slo shi).2.2⟩:Sp)]))++(((R66_0 h door slo shi ((lget h.doors (Int.toNat door)).shut) ([]) slo shi).1).drop (R66_1 h door slo shi ((R66_0 h door slo shi (lget h.doors (Int.toNat door)).shut ([]) slo shi).1.length+1) 0))⟩:Dr)])) (i+1) else R66_2 h door slo shi l' (ds++([x124])) (i+1))
def r66 (h:Hs) (door:Int) (slo shi:Int):Hs × Int:=(if (r85 h door 0)=0 then (if shi<slo then ((⟨[],[],[]⟩:Hs),1) else (if (r69 slo)=true then (if (r69 shi)=true then (if 8<((((((R66_0 h door slo shi ((lget h.doors (Int.toNat door)).shut) ([]) slo shi).1).take (R66_1 h door slo shi ((R66_0 h door slo shi (lget h.doors (Int.toNat door)).shut ([]) slo shi).1.length+1) 0))++([(⟨(R66_0 h door slo shi ((lget h.doors (Int.toNat door)).shut) ([]) slo shi).2.1,(R66_0 h door slo shi ((lget h.doors (Int.toNat door)).shut) ([]) slo shi).2.2⟩:Sp)]))++(((R66_0 h door slo shi ((lget h.doors (Int.toNat door)).shut) ([]) slo shi).1).drop (R66_1 h door slo shi ((R66_0 h door slo shi (lget h.doors (Int.toNat door)).shut ([]) slo shi).1.length+1) 0))).length:Int) then ((⟨[],[],[]⟩:Hs),2) else ((⟨h.rooms,R66_2 h door slo shi h.doors ([]) 0,h.ways⟩:Hs),0)) else ((⟨[],[],[]⟩:Hs),1)) else ((⟨[],[],[]⟩:Hs),1))) else ((⟨[],[],[]⟩:Hs),(r85 h door 0)))
set_option maxHeartbeats 8000000 in
theorem c66 (h:Hs) (door:Int) (slo shi:Int) (hF:Few h) (hs:∀ x ∈ h.rooms,x.name.size≤9223372036854775807) (S:AS) (v_h_rooms:Value) (hv_h_rooms:LstR S v_h_rooms h.rooms) (v_h_doors:Value) (hv_h_doors:LstR S v_h_doors h.doors) (v_h_ways:Value) (hv_h_ways:Lst S v_h_ways h.ways) :
  ∃ v'0 v'1 v'2 S',(evL Tryz.prog E0).call 66 #[.agg #[v_h_rooms,v_h_doors,v_h_ways],.int .i64 door,.agg #[.int .i64 slo,.int .i64 shi]] S=some (.tuple #[.agg #[v'0,v'1,v'2],.int .i64 (r66 h door slo shi).2],S')∧Agree S S'∧LstR S' v'0 ((r66 h door slo shi).1.rooms)∧LstR S' v'1 ((r66 h door slo shi).1.doors)∧Lst S' v'2 ((r66 h door slo shi).1.ways):=by
 have qr:=hF.r; have qd:=hF.d; have qw:=hF.w
 generalize hz:(evL Tryz.prog E0).call 66 _ _=z
 rw [L_call,evCall_said rfl Tryz.func66 rfl (by decide) Tryz.ntmps66 Tryz.results66] at hz
 obtain ⟨S1,e1,n1,b1,a1⟩:=push_open S (.cells [v_h_rooms,v_h_doors,v_h_ways] 26 0 true true)
 have g1:Agree S S1:=a1
 have s1:E0.same S S1=true:=symEnv_same a1
 obtain ⟨S2,e2,n2,b2,a2⟩:=push_open S1 (.cells [.int .i64 slo,.int .i64 shi] 36 0 true true)
 have v1_2:=(a2.2 S.next (by omega)).trans b1
 have g2:Agree S S2:=g1.trans a2
 have s2:E0.same S1 S2=true:=symEnv_same a2
 obtain ⟨S3,e3,n3,b3,a3⟩:=push_open S2 (.cells [.slice none 0 0,.slice none 0 0,.slice none 0 0] 26 0 true true)
 have v1_3:=(a3.2 S.next (by omega)).trans v1_2
 have v2_3:=(a3.2 S1.next (by omega)).trans b2
 have g3:Agree S S3:=g2.trans a3
 have s3:E0.same S2 S3=true:=symEnv_same a3
 obtain ⟨S4,k4,a4⟩:=c85 h door 0 hF S3 (v_h_rooms) (hv_h_rooms.agree g3) (v_h_doors) (hv_h_doors.agree g3) (v_h_ways) (hv_h_ways.agree g3)
 have l4:=a4.1
 have s4:E0.same S3 S4=true:=symEnv_same a4
 have v1_4:=(a4.2 S.next (by omega)).trans v1_3
 have v2_4:=(a4.2 S1.next (by omega)).trans v2_3
 have v3_4:=(a4.2 S2.next (by omega)).trans b3
 have g4:Agree S S4:=g3.trans a4
 try simp (disch:=first|omega|assumption) only [E0_G,SY,setArgs,off,agreeKind,vals,allocV,boxed,ldA,rdCells,aggD,Nat.reduceAdd,Nat.reduceSub,Nat.reduceLT,Nat.reduceBEq,TY_EvH47,e1,e2,v1_3,e3,k4] at hz
 rcases dP ((r85 h door 0)=0) with ⟨h5a,h5⟩|⟨h5a,h5⟩
 ·have lq6:=r85_ok h5
  have hV:=(r85_ok h5).1
  try simp (disch:=first|omega|assumption) only [E0_G,SY,off,agreeKind,ldA,aggD,aField,Nat.reduceAdd,Nat.reduceLT,Nat.reduceBEq,TY_EvH47,v2_4,h5a] at hz
  rcases dP (shi<slo) with ⟨h7a,h7⟩|⟨h7a,h7⟩
  ·have y8:aBuild Tryz.prog 26 []=some (.agg #[.slice none 0 0,.slice none 0 0,.slice none 0 0]):=by kernel_rfl
   obtain ⟨S9,k9,n9,b9,q9⟩:=st_at (o:=0) (c':=[.slice none 0 0,.slice none 0 0,.slice none 0 0]) (v:=.agg #[.slice none 0 0,.slice none 0 0,.slice none 0 0]) tz26 v3_4 rfl rfl (show 0+3≤3 by decide) rfl
   have g9:Agree S S9:=⟨by have:=(g4).1; omega,fun id hid=>(q9 id (by have:=(g4).1; omega)).trans ((g4).2 id hid)⟩
   try simp (disch:=first|omega|assumption) only [E0_G,SY,off,agreeKind,partVals,ldA,rdCells,aggD,Nat.reduceAdd,Nat.reduceLT,Nat.reduceBEq,TY_EvH47,h7a,y8,k9,b9] at hz
   have hr:r66 h door slo shi=((⟨[],[],[]⟩:Hs),1):=(if_pos h5).trans ((if_pos h7).trans (rfl))
   exact ⟨.slice none 0 0,.slice none 0 0,.slice none 0 0,S9,by first|(rw [hr]; exact hz.symm)|exact hz.symm,g9,by rw [hr]; exact .inl ⟨rfl,.inl rfl⟩,by rw [hr]; exact .inl ⟨rfl,.inl rfl⟩,by rw [hr]; exact .inl ⟨rfl,.inl rfl⟩⟩
  obtain ⟨S10,k10,a10⟩:=c69 slo  S4
  have l10:=a10.1
  have s10:E0.same S4 S10=true:=symEnv_same a10
  have v1_10:=(a10.2 S.next (by omega)).trans v1_4
  have v2_10:=(a10.2 S1.next (by omega)).trans v2_4
  have v3_10:=(a10.2 S2.next (by omega)).trans v3_4
  have g10:Agree S S10:=g4.trans a10
  try simp (disch:=first|omega|assumption) only [E0_G,SY,off,agreeKind,vals,ldA,aggD,aField,Nat.reduceAdd,Nat.reduceLT,Nat.reduceBEq,TY_EvH47,v2_4,h7a,k10] at hz
  rcases dB ((r69 slo)) with ⟨h11a,h11⟩|⟨h11a,h11⟩
  ·have lq12:=r69_iff.1 h11
   obtain ⟨S13,k13,a13⟩:=c69 shi  S10
   have l13:=a13.1
   have s13:E0.same S10 S13=true:=symEnv_same a13
   have v1_13:=(a13.2 S.next (by omega)).trans v1_10
   have v2_13:=(a13.2 S1.next (by omega)).trans v2_10
   have v3_13:=(a13.2 S2.next (by omega)).trans v3_10
   have g13:Agree S S13:=g10.trans a13
   try simp (disch:=first|omega|assumption) only [E0_G,SY,off,agreeKind,vals,ldA,aggD,aField,Nat.reduceAdd,Nat.reduceLT,Nat.reduceBEq,TY_EvH47,v2_10,h11a,k13] at hz
   rcases dB ((r69 shi)) with ⟨h14a,h14⟩|⟨h14a,h14⟩
   ·have lq15:=r69_iff.1 h14
    have qz16:((Int.toNat door:Nat):Int)=door:=Int.toNat_of_nonneg (by first|omega|simp; omega)
    have hx17:h.doors[(Int.toNat door)]?=some (lget h.doors (Int.toNat door)):=lget_some (by first|omega|simp; omega)
    have ed18:=(okd hV (List.mem_of_getElem? hx17)).sl
    obtain ⟨id17,of17,cc17,ty17,wr17,ex17,cs17,i17,j17,l17,rp17,q17⟩:=LstR.at (hv_h_doors) (P:=Tryz.prog) (t:=23) Tryz.underlying23 tz98 hx17
    obtain ⟨w17_0,w17_1,rp17,rr17_0,rr17_1⟩:=rp17
    have rq17:cs17=[w17_0,w17_1]:=rp17
    subst rq17
    have j17:=(g13.2 id17 l17).trans j17
    have m17_0:cc17[of17]?=some (w17_0):=q17 0 (show 0<2 by decide)
    have m17_1:cc17[of17+1]?=some (w17_1):=q17 1 (show 1<2 by decide)
    rw [qz16] at i17
    try simp (disch:=first|omega|assumption) only [E0_G,SY,off,agreeKind,ldA,aggD,aField,Nat.reduceAdd,Nat.reduceLT,Nat.reduceBEq,TY_EvH47,v1_13,h14a,i17,j17,m17_1] at hz
    generalize hL19:Rec.loop _ _ _ _=L19 at hz
    obtain ⟨x19,t19,S19e,rfl,hQ19⟩:=loop_met hL19 (fun m t S'=>∃ (v_rest:Value) (rest:List Sp) (ulo:Int) (uhi:Int) (k:Nat),m+k=((lget h.doors (Int.toNat door)).shut).length∧0≤ulo∧ulo≤1073741823∧0≤uhi∧uhi≤1073741823∧rest.length≤k∧k≤((lget h.doors (Int.toNat door)).shut).length∧t.get 1=some (.int .i64 door)∧t.get 3=some (.pointer (some ⟨S.next,0,none⟩))∧t.get 5=some (.pointer (some ⟨S1.next,0,none⟩))∧t.get 6=some (.pointer (some ⟨S2.next,0,none⟩))∧t.get 9=some (v_rest)∧t.get 10=some (w17_1)∧t.get 11=some (.int .i64 (k:Int))∧S'.heap.get S.next=some (.cells [v_h_rooms,v_h_doors,v_h_ways] 26 0 true true)∧S'.heap.get S1.next=some (.cells [.int .i64 ulo,.int .i64 uhi] 36 0 true true)∧S'.heap.get S2.next=some (.cells [.slice none 0 0,.slice none 0 0,.slice none 0 0] 26 0 true true)∧Agree S S'∧S13.next≤S'.next∧Own 36 S13.next S' v_rest rest∧R66_0 h door slo shi (((lget h.doors (Int.toNat door)).shut).drop k) rest ulo uhi=R66_0 h door slo shi ((lget h.doors (Int.toNat door)).shut) ([]) slo shi)
     (fun x t S'=>x=.exit 0∧∃ (v_rest:Value) (rest:List Sp) (ulo:Int) (uhi:Int) (k:Nat),t.get 1=some (.int .i64 door)∧t.get 3=some (.pointer (some ⟨S.next,0,none⟩))∧t.get 5=some (.pointer (some ⟨S1.next,0,none⟩))∧t.get 6=some (.pointer (some ⟨S2.next,0,none⟩))∧t.get 9=some (v_rest)∧S'.heap.get S.next=some (.cells [v_h_rooms,v_h_doors,v_h_ways] 26 0 true true)∧S'.heap.get S1.next=some (.cells [.int .i64 ulo,.int .i64 uhi] 36 0 true true)∧S'.heap.get S2.next=some (.cells [.slice none 0 0,.slice none 0 0,.slice none 0 0] 26 0 true true)∧Agree S S'∧S13.next≤S'.next∧Own 36 S13.next S' v_rest rest∧0≤ulo∧ulo≤1073741823∧0≤uhi∧uhi≤1073741823∧rest.length≤k∧k≤((lget h.doors (Int.toNat door)).shut).length∧R66_0 h door slo shi ((lget h.doors (Int.toNat door)).shut) ([]) slo shi=(rest,ulo,uhi)) (((lget h.doors (Int.toNat door)).shut).length - 0) (by refine ⟨.slice none 0 0,[],slo,shi,0,?_,?_,?_,?_,?_,?_,?_,?_,?_,?_,?_,?_,?_,?_,v1_13,v2_13,v3_13,g13,Nat.le_refl _,by first|exact Own.nil _ _ _|exact OwnR.nil _ _ _,rfl⟩<;>first|(simp only [SY,eq_self,Nat.reduceBEq]<;>rfl)|omega|assumption|(simp; omega)|simp) (by
      rintro m t S19 ⟨v_rest,rest,ulo,uhi,k,hi19_0,hi19_1,hi19_2,hi19_3,hi19_4,hi19_5,hi19_6,g19_1,g19_3,g19_5,g19_6,g19_9,g19_10,g19_11,bb19_1,bb19_2,bb19_3,ga19,gn19,ow_rest,hd19⟩
      refine .run fun z he=>?_
      have w20:=(rr17_1.agree ga19).len (P:=Tryz.prog) (t:=40) Tryz.underlying40
      try simp (disch:=first|omega|assumption) only [E0_G,SY,off,agreeKind,Nat.reduceAdd,Nat.reduceLT,Nat.reduceBEq,g19_10,g19_11,w20] at he
      rcases dP ((k:Int)<(((lget h.doors (Int.toNat door)).shut).length:Int)) with ⟨h21a,h21⟩|⟨h21a,h21⟩
      ·try simp (disch:=first|omega|assumption) only [SY,h21a] at he
       rw [code_draws _ _ _ (by kernel_rfl)] at he
       generalize hnd22:needy _=nd22 at he
       have hx19:((lget h.doors (Int.toNat door)).shut)[k]?=some (((lget h.doors (Int.toNat door)).shut)[k]'(by first|omega|simp; omega)):=List.getElem?_eq_getElem _
       generalize ((lget h.doors (Int.toNat door)).shut)[k]'_=x19 at hx19
       have eb24:=(okd hV (List.mem_of_getElem? (lget_some (l:=h.doors) (i:=Int.toNat door) (by omega)))).s _ (List.mem_of_getElem? hx19)
       obtain ⟨id23,of23,cc23,ty23,wr23,ex23,i23,j23,l23,q23⟩:=(rr17_1).at (P:=Tryz.prog) (t:=40) Tryz.underlying40 tz36 hx19
       have jr23:=j23
       have j23:=(ga19.2 id23 l23).trans jr23
       have m23_0:cc23[of23]?=some (.int .i64 x19.lo):=q23 0 (show 0<2 by decide)
       have m23_1:cc23[of23+1]?=some (.int .i64 x19.hi):=q23 1 (show 1<2 by decide)
       have w25:IntKind.i64.wrap (x19.hi+1)=x19.hi+1:=by rw [IntWalk.i64_in]; omega
       try simp (disch:=first|omega|assumption) only [E0_G,SY,agreeKind,ldA,aggD,aField,Nat.reduceAdd,Nat.reduceLT,Nat.reduceBEq,TY_EvH47,g19_5,g19_10,g19_11,bb19_2,store_refl E0_same,i23,j23,m23_1,w25] at he
       rcases dP ((x19.hi+1)<ulo) with ⟨h26a,h26⟩|⟨h26a,h26⟩
       ·have eb28:=(okd hV (List.mem_of_getElem? (lget_some (l:=h.doors) (i:=Int.toNat door) (by omega)))).s _ (List.mem_of_getElem? hx19)
        obtain ⟨id27,of27,cc27,ty27,wr27,ex27,i27,j27,l27,q27⟩:=(rr17_1).at (P:=Tryz.prog) (t:=40) Tryz.underlying40 tz36 hx19
        have j27:=(ga19.2 id27 l27).trans j27
        have j27_23:=(ga19.2 id23 l23).trans jr23
        have m27_0:cc27[of27]?=some (.int .i64 x19.lo):=q27 0 (show 0<2 by decide)
        have m27_1:cc27[of27+1]?=some (.int .i64 x19.hi):=q27 1 (show 1<2 by decide)
        have y29:aBuildSlice Tryz.prog 40 1 [(0,.agg #[.int .i64 x19.lo,.int .i64 x19.hi])] S19=some (.slice (some ⟨S19.next,0,none⟩) 1 1,S19.push (.cells [.int .i64 x19.lo,.int .i64 x19.hi] 36 2 true true)):=by kernel_rfl
        obtain ⟨S30,e30,n30,b30,a30⟩:=push_open S19 (.cells [.int .i64 x19.lo,.int .i64 x19.hi] 36 2 true true)
        have v1_30:=(a30.2 S.next (by omega)).trans bb19_1
        have v2_30:=(a30.2 S1.next (by omega)).trans bb19_2
        have v3_30:=(a30.2 S2.next (by omega)).trans bb19_3
        have ow_31:=ow_rest.agree a30
        have g30:Agree S S30:=ga19.trans a30
        have s30:E0.same S19 S30=true:=symEnv_same a30
        have ne32:blkOf (v_rest)≠some S19.next:=ow_rest.new (Nat.le_refl _)
        have o33:Own 36 S19.next S30 (.slice (some ⟨S19.next,0,none⟩) 1 1) ([(⟨x19.lo,x19.hi⟩:Sp)]:List Sp):=.inr ⟨_,true,rfl,Nat.le_refl _,by omega,b30⟩
        have ap34:∀ b,blkOf (v_rest)=some b→blkOf (.slice (some ⟨S19.next,0,none⟩) 1 1)≠some b:=fun b hb=>o33.ne (Nat.lt_of_lt_of_le (ow_rest.lt hb) (by omega))
        obtain ⟨u35,S35,k35,o35,n35,f35,d35⟩:=own_append (P:=Tryz.prog) (t:=40) (tx:=40) (n:=1) (v:=v_rest) ow_31 (o33.rows) (by omega) (by first|omega|(simp; omega)|simp) (by first|omega|(simp; omega)|simp) Tryz.underlying40 Tryz.underlying40 ti36 tv36 rfl tz36
        obtain ⟨pu35,nu35,cu35,rfl⟩:=own_slice o35
        have v1_35:=(f35 S.next (by omega) (by first|(simp [blkOf]; done)|exact ow_31.ne (by omega)|exact ow_31.new (by omega)|assumption)).trans v1_30
        have v2_35:=(f35 S1.next (by omega) (by first|(simp [blkOf]; done)|exact ow_31.ne (by omega)|exact ow_31.new (by omega)|assumption)).trans v2_30
        have v3_35:=(f35 S2.next (by omega) (by first|(simp [blkOf]; done)|exact ow_31.ne (by omega)|exact ow_31.new (by omega)|assumption)).trans v3_30
        have apo33_36:∀ b,blkOf (.slice (some ⟨S19.next,0,none⟩) 1 1)=some b→blkOf (.slice pu35 nu35 cu35)≠some b:=fun b hb=>d35 b (o33.lt hb) ((fun b h1 h2=>ap34 b h2 h1) b hb)
        have o33_36:=o33.frame n35 (fun id hid hb=>f35 id hid ((fun b h1 h2=>ap34 b h2 h1) id hb))
        have g35:Agree S S35:=⟨Nat.le_trans (g30).1 n35,fun id hid=>(f35 id (by have:=(g30).1; omega) (by first|(simp [blkOf]; done)|exact ow_31.ne (by omega)|assumption)).trans ((g30).2 id hid)⟩
        have ne37:blkOf (.slice pu35 nu35 cu35)≠some S.next:=by first|exact o35.ne (by omega)|exact o35.new (by omega)|exact d35 _ (by omega) (by first|(simp [blkOf]; done)|exact ow_31.ne (by omega)|exact ow_31.new (by omega)|assumption)
        have ne38:blkOf (.slice pu35 nu35 cu35)≠some S1.next:=by first|exact o35.ne (by omega)|exact o35.new (by omega)|exact d35 _ (by omega) (by first|(simp [blkOf]; done)|exact ow_31.ne (by omega)|exact ow_31.new (by omega)|assumption)
        have ne39:blkOf (.slice pu35 nu35 cu35)≠some S2.next:=by first|exact o35.ne (by omega)|exact o35.new (by omega)|exact d35 _ (by omega) (by first|(simp [blkOf]; done)|exact ow_31.ne (by omega)|exact ow_31.new (by omega)|assumption)
        have w40:IntKind.i64.wrap ((k:Int)+1)=((k+1:Nat):Int):=by rw [IntWalk.i64_in]<;>omega
        try simp (disch:=first|omega|assumption) only [E0_G,SY,off,agreeKind,partVals,ldA,rdCells,aggD,Nat.reduceAdd,Nat.reduceLT,Nat.reduceBEq,TY_EvH47,g19_9,g19_10,g19_11,store_agree,store_refl E0_same,i23,j23,m23_0,m23_1,h26a,y29,e30,k35,w40] at he
        rw [drop_cons' hx19] at hd19
        have hf:=(show _=(R66_0 h door slo shi (((lget h.doors (Int.toNat door)).shut).drop (k+1)) (rest++([(⟨x19.lo,x19.hi⟩:Sp)])) ulo uhi:(List Sp) × Int × Int) from (if_pos h26).trans (rfl)).symm.trans hd19
        refine .next he (m - 1) (by omega) ⟨.slice pu35 nu35 cu35,rest++([(⟨x19.lo,x19.hi⟩:Sp)]),ulo,uhi,(k+1),?_,?_,?_,?_,?_,?_,?_,?_,?_,?_,?_,?_,?_,?_,v1_35,v2_35,v3_35,g35,by omega,(o35.low (by omega)),hf⟩<;>first|(simp only [SY,eq_self,Nat.reduceBEq,g19_1,g19_3,g19_5,g19_6,g19_9,g19_10,g19_11]<;>rfl)|omega|assumption|(simp; omega)|simp
       have w41:IntKind.i64.wrap (uhi+1)=uhi+1:=by rw [IntWalk.i64_in]; omega
       have eb43:=(okd hV (List.mem_of_getElem? (lget_some (l:=h.doors) (i:=Int.toNat door) (by omega)))).s _ (List.mem_of_getElem? hx19)
       obtain ⟨id42,of42,cc42,ty42,wr42,ex42,i42,j42,l42,q42⟩:=(rr17_1).at (P:=Tryz.prog) (t:=40) Tryz.underlying40 tz36 hx19
       have jr42:=j42
       have j42:=(ga19.2 id42 l42).trans jr42
       have j42_23:=(ga19.2 id23 l23).trans jr23
       have m42_0:cc42[of42]?=some (.int .i64 x19.lo):=q42 0 (show 0<2 by decide)
       have m42_1:cc42[of42+1]?=some (.int .i64 x19.hi):=q42 1 (show 1<2 by decide)
       try simp (disch:=first|omega|assumption) only [E0_G,SY,agreeKind,ldA,aggD,aField,Nat.reduceAdd,Nat.reduceLT,Nat.reduceBEq,TY_EvH47,g19_5,g19_10,g19_11,bb19_2,store_refl E0_same,i23,j23,m23_0,h26a,w41] at he
       rcases dP ((uhi+1)<x19.lo) with ⟨h44a,h44⟩|⟨h44a,h44⟩
       ·have eb46:=(okd hV (List.mem_of_getElem? (lget_some (l:=h.doors) (i:=Int.toNat door) (by omega)))).s _ (List.mem_of_getElem? hx19)
        obtain ⟨id45,of45,cc45,ty45,wr45,ex45,i45,j45,l45,q45⟩:=(rr17_1).at (P:=Tryz.prog) (t:=40) Tryz.underlying40 tz36 hx19
        have j45:=(ga19.2 id45 l45).trans j45
        have j45_23:=(ga19.2 id23 l23).trans jr23
        have j45_42:=(ga19.2 id42 l42).trans jr42
        have m45_0:cc45[of45]?=some (.int .i64 x19.lo):=q45 0 (show 0<2 by decide)
        have m45_1:cc45[of45+1]?=some (.int .i64 x19.hi):=q45 1 (show 1<2 by decide)
        have y47:aBuildSlice Tryz.prog 40 1 [(0,.agg #[.int .i64 x19.lo,.int .i64 x19.hi])] S19=some (.slice (some ⟨S19.next,0,none⟩) 1 1,S19.push (.cells [.int .i64 x19.lo,.int .i64 x19.hi] 36 2 true true)):=by kernel_rfl
        obtain ⟨S48,e48,n48,b48,a48⟩:=push_open S19 (.cells [.int .i64 x19.lo,.int .i64 x19.hi] 36 2 true true)
        have v1_48:=(a48.2 S.next (by omega)).trans bb19_1
        have v2_48:=(a48.2 S1.next (by omega)).trans bb19_2
        have v3_48:=(a48.2 S2.next (by omega)).trans bb19_3
        have ow_49:=ow_rest.agree a48
        have g48:Agree S S48:=ga19.trans a48
        have s48:E0.same S19 S48=true:=symEnv_same a48
        have ne50:blkOf (v_rest)≠some S19.next:=ow_rest.new (Nat.le_refl _)
        have o51:Own 36 S19.next S48 (.slice (some ⟨S19.next,0,none⟩) 1 1) ([(⟨x19.lo,x19.hi⟩:Sp)]:List Sp):=.inr ⟨_,true,rfl,Nat.le_refl _,by omega,b48⟩
        have ap52:∀ b,blkOf (v_rest)=some b→blkOf (.slice (some ⟨S19.next,0,none⟩) 1 1)≠some b:=fun b hb=>o51.ne (Nat.lt_of_lt_of_le (ow_rest.lt hb) (by omega))
        obtain ⟨u53,S53,k53,o53,n53,f53,d53⟩:=own_append (P:=Tryz.prog) (t:=40) (tx:=40) (n:=1) (v:=v_rest) ow_49 (o51.rows) (by omega) (by first|omega|(simp; omega)|simp) (by first|omega|(simp; omega)|simp) Tryz.underlying40 Tryz.underlying40 ti36 tv36 rfl tz36
        obtain ⟨pu53,nu53,cu53,rfl⟩:=own_slice o53
        have v1_53:=(f53 S.next (by omega) (by first|(simp [blkOf]; done)|exact ow_49.ne (by omega)|exact ow_49.new (by omega)|assumption)).trans v1_48
        have v2_53:=(f53 S1.next (by omega) (by first|(simp [blkOf]; done)|exact ow_49.ne (by omega)|exact ow_49.new (by omega)|assumption)).trans v2_48
        have v3_53:=(f53 S2.next (by omega) (by first|(simp [blkOf]; done)|exact ow_49.ne (by omega)|exact ow_49.new (by omega)|assumption)).trans v3_48
        have apo51_54:∀ b,blkOf (.slice (some ⟨S19.next,0,none⟩) 1 1)=some b→blkOf (.slice pu53 nu53 cu53)≠some b:=fun b hb=>d53 b (o51.lt hb) ((fun b h1 h2=>ap52 b h2 h1) b hb)
        have o51_54:=o51.frame n53 (fun id hid hb=>f53 id hid ((fun b h1 h2=>ap52 b h2 h1) id hb))
        have g53:Agree S S53:=⟨Nat.le_trans (g48).1 n53,fun id hid=>(f53 id (by have:=(g48).1; omega) (by first|(simp [blkOf]; done)|exact ow_49.ne (by omega)|assumption)).trans ((g48).2 id hid)⟩
        have ne55:blkOf (.slice pu53 nu53 cu53)≠some S.next:=by first|exact o53.ne (by omega)|exact o53.new (by omega)|exact d53 _ (by omega) (by first|(simp [blkOf]; done)|exact ow_49.ne (by omega)|exact ow_49.new (by omega)|assumption)
        have ne56:blkOf (.slice pu53 nu53 cu53)≠some S1.next:=by first|exact o53.ne (by omega)|exact o53.new (by omega)|exact d53 _ (by omega) (by first|(simp [blkOf]; done)|exact ow_49.ne (by omega)|exact ow_49.new (by omega)|assumption)
        have ne57:blkOf (.slice pu53 nu53 cu53)≠some S2.next:=by first|exact o53.ne (by omega)|exact o53.new (by omega)|exact d53 _ (by omega) (by first|(simp [blkOf]; done)|exact ow_49.ne (by omega)|exact ow_49.new (by omega)|assumption)
        have w58:IntKind.i64.wrap ((k:Int)+1)=((k+1:Nat):Int):=by rw [IntWalk.i64_in]<;>omega
        try simp (disch:=first|omega|assumption) only [E0_G,SY,off,agreeKind,partVals,ldA,rdCells,aggD,Nat.reduceAdd,Nat.reduceLT,Nat.reduceBEq,TY_EvH47,g19_9,g19_10,g19_11,store_agree,store_refl E0_same,i23,j23,m23_0,m23_1,h44a,y47,e48,k53,w58] at he
        rw [drop_cons' hx19] at hd19
        have hf:=(show _=(R66_0 h door slo shi (((lget h.doors (Int.toNat door)).shut).drop (k+1)) (rest++([(⟨x19.lo,x19.hi⟩:Sp)])) ulo uhi:(List Sp) × Int × Int) from (if_neg h26).trans ((if_pos h44).trans (rfl))).symm.trans hd19
        refine .next he (m - 1) (by omega) ⟨.slice pu53 nu53 cu53,rest++([(⟨x19.lo,x19.hi⟩:Sp)]),ulo,uhi,(k+1),?_,?_,?_,?_,?_,?_,?_,?_,?_,?_,?_,?_,?_,?_,v1_53,v2_53,v3_53,g53,by omega,(o53.low (by omega)),hf⟩<;>first|(simp only [SY,eq_self,Nat.reduceBEq,g19_1,g19_3,g19_5,g19_6,g19_9,g19_10,g19_11]<;>rfl)|omega|assumption|(simp; omega)|simp
       try simp (disch:=first|omega|assumption) only [SY,store_refl E0_same,h44a] at he
       rw [code_draws _ _ _ (by kernel_rfl)] at he
       generalize hnd59:needy _=nd59 at he
       have nn59_17:nd59 17=false:=by rw [← hnd59]; kernel_rfl
       have eb61:=(okd hV (List.mem_of_getElem? (lget_some (l:=h.doors) (i:=Int.toNat door) (by omega)))).s _ (List.mem_of_getElem? hx19)
       obtain ⟨id60,of60,cc60,ty60,wr60,ex60,i60,j60,l60,q60⟩:=(rr17_1).at (P:=Tryz.prog) (t:=40) Tryz.underlying40 tz36 hx19
       have jr60:=j60
       have j60:=(ga19.2 id60 l60).trans jr60
       have j60_23:=(ga19.2 id23 l23).trans jr23
       have j60_42:=(ga19.2 id42 l42).trans jr42
       have m60_0:cc60[of60]?=some (.int .i64 x19.lo):=q60 0 (show 0<2 by decide)
       have m60_1:cc60[of60+1]?=some (.int .i64 x19.hi):=q60 1 (show 1<2 by decide)
       have eb63:=(okd hV (List.mem_of_getElem? (lget_some (l:=h.doors) (i:=Int.toNat door) (by omega)))).s _ (List.mem_of_getElem? hx19)
       obtain ⟨id62,of62,cc62,ty62,wr62,ex62,i62,j62,l62,q62⟩:=(rr17_1).at (P:=Tryz.prog) (t:=40) Tryz.underlying40 tz36 hx19
       have j62:=(ga19.2 id62 l62).trans j62
       have j62_23:=(ga19.2 id23 l23).trans jr23
       have j62_42:=(ga19.2 id42 l42).trans jr42
       have j62_60:=(ga19.2 id60 l60).trans jr60
       have m62_0:cc62[of62]?=some (.int .i64 x19.lo):=q62 0 (show 0<2 by decide)
       have m62_1:cc62[of62+1]?=some (.int .i64 x19.hi):=q62 1 (show 1<2 by decide)
       have y64:aBuild Tryz.prog 36 [(0,.int .i64 (min ulo x19.lo)),(1,.int .i64 (max uhi x19.hi))]=some (.agg #[.int .i64 (min ulo x19.lo),.int .i64 (max uhi x19.hi)]):=by kernel_rfl
       obtain ⟨S65,k65,n65,b65,q65⟩:=st_at (o:=0) (c':=[.int .i64 (min ulo x19.lo),.int .i64 (max uhi x19.hi)]) (v:=.agg #[.int .i64 (min ulo x19.lo),.int .i64 (max uhi x19.hi)]) tz36 bb19_2 rfl rfl (show 0+2≤2 by decide) rfl
       have v1_65:=(q65 S.next (by omega)).trans bb19_1
       have v3_65:=(q65 S2.next (by omega)).trans bb19_3
       have ow_66:=ow_rest.frame (by omega) (fun id hid hb=>q65 id (fun e=>(show blkOf (v_rest)≠some S1.next from by first|exact ow_rest.ne (by omega)|exact ow_rest.new (by omega)|assumption) (e ▸ hb)))
       have g65:Agree S S65:=⟨by have:=(ga19).1; omega,fun id hid=>(q65 id (by have:=(ga19).1; omega)).trans ((ga19).2 id hid)⟩
       have w67:IntKind.i64.wrap ((k:Int)+1)=((k+1:Nat):Int):=by rw [IntWalk.i64_in]<;>omega
       try simp (disch:=first|omega|assumption) only [E0_G,SY,off,agreeKind,partVals,ldA,aggD,aField,Nat.reduceAdd,Nat.reduceLT,Nat.reduceBEq,TY_EvH47,g19_5,g19_10,g19_11,bb19_2,store_refl E0_same,i23,j23,m23_0,m23_1,nn59_17,y64,k65,w67] at he
       rw [drop_cons' hx19] at hd19
       have hf:=(show _=(R66_0 h door slo shi (((lget h.doors (Int.toNat door)).shut).drop (k+1)) rest (min ulo x19.lo) (max uhi x19.hi):(List Sp) × Int × Int) from (if_neg h26).trans ((if_neg h44).trans (rfl))).symm.trans hd19
       refine .next he (m - 1) (by omega) ⟨v_rest,rest,min ulo x19.lo,max uhi x19.hi,(k+1),?_,?_,?_,?_,?_,?_,?_,?_,?_,?_,?_,?_,?_,?_,v1_65,b65,v3_65,g65,by omega,(ow_66.low (by omega)),hf⟩<;>first|(simp only [SY,eq_self,Nat.reduceBEq,g19_1,g19_3,g19_5,g19_6,g19_9,g19_10,g19_11]<;>rfl)|omega|assumption|(simp; omega)|simp
      try simp (disch:=first|omega|assumption) only [SY,h21a] at he
      rw [List.drop_eq_nil_of_le (show ((lget h.doors (Int.toNat door)).shut).length≤k by omega)] at hd19
      have hf:=(show _=((rest,ulo,uhi):(List Sp) × Int × Int) from rfl).symm.trans hd19
      refine .exit he ⟨rfl,⟨v_rest,rest,ulo,uhi,k,?_,?_,?_,?_,?_,bb19_1,bb19_2,bb19_3,ga19,by omega,(ow_rest.low (by omega)),?_,?_,?_,?_,?_,?_,hf.symm⟩⟩<;>first|(simp only [SY,eq_self,Nat.reduceBEq,g19_1,g19_3,g19_5,g19_6,g19_9]<;>rfl)|omega|assumption|(simp; omega)|simp)
    obtain ⟨rfl,v_rest,rest,ulo,uhi,k,ge19_1,ge19_3,ge19_5,ge19_6,ge19_9,be19_1,be19_2,be19_3,ge19,gm19,oe_rest19,hj19_0,hj19_1,hj19_2,hj19_3,hj19_4,hj19_5,hR19⟩:=hQ19
    obtain rfl:rest=(R66_0 h door slo shi ((lget h.doors (Int.toNat door)).shut) ([]) slo shi).1:=by rw [hR19]
    obtain rfl:ulo=(R66_0 h door slo shi ((lget h.doors (Int.toNat door)).shut) ([]) slo shi).2.1:=by rw [hR19]
    obtain rfl:uhi=(R66_0 h door slo shi ((lget h.doors (Int.toNat door)).shut) ([]) slo shi).2.2:=by rw [hR19]
    try simp (disch:=first|omega|assumption) only [E0_G,SY,off,agreeKind,eq_self,if_true,Nat.reduceLT] at hz
    generalize hL69:Rec.loop _ _ _ _=L69 at hz
    obtain ⟨x69,t69,S69e,rfl,hQ69⟩:=loop_met hL69 (fun m t S'=>∃ (k2:Nat),m+k2=(R66_0 h door slo shi (lget h.doors (Int.toNat door)).shut ([]) slo shi).1.length+1∧k2≤(R66_0 h door slo shi (lget h.doors (Int.toNat door)).shut ([]) slo shi).1.length∧t.get 1=some (.int .i64 door)∧t.get 3=some (.pointer (some ⟨S.next,0,none⟩))∧t.get 5=some (.pointer (some ⟨S1.next,0,none⟩))∧t.get 6=some (.pointer (some ⟨S2.next,0,none⟩))∧t.get 9=some (v_rest)∧t.get 12=some (.int .i64 (k2:Int))∧S'.heap.get S.next=some (.cells [v_h_rooms,v_h_doors,v_h_ways] 26 0 true true)∧S'.heap.get S1.next=some (.cells [.int .i64 ((R66_0 h door slo shi ((lget h.doors (Int.toNat door)).shut) ([]) slo shi).2.1),.int .i64 ((R66_0 h door slo shi ((lget h.doors (Int.toNat door)).shut) ([]) slo shi).2.2)] 36 0 true true)∧S'.heap.get S2.next=some (.cells [.slice none 0 0,.slice none 0 0,.slice none 0 0] 26 0 true true)∧Agree S S'∧S19e.next≤S'.next∧Own 36 S13.next S' v_rest ((R66_0 h door slo shi ((lget h.doors (Int.toNat door)).shut) ([]) slo shi).1)∧R66_1 h door slo shi m k2=R66_1 h door slo shi ((R66_0 h door slo shi (lget h.doors (Int.toNat door)).shut ([]) slo shi).1.length+1) 0)
     (fun x t S'=>x=.exit 2∧∃ (k2:Nat),t.get 1=some (.int .i64 door)∧t.get 3=some (.pointer (some ⟨S.next,0,none⟩))∧t.get 5=some (.pointer (some ⟨S1.next,0,none⟩))∧t.get 6=some (.pointer (some ⟨S2.next,0,none⟩))∧t.get 9=some (v_rest)∧t.get 12=some (.int .i64 (k2:Int))∧S'.heap.get S.next=some (.cells [v_h_rooms,v_h_doors,v_h_ways] 26 0 true true)∧S'.heap.get S1.next=some (.cells [.int .i64 ((R66_0 h door slo shi ((lget h.doors (Int.toNat door)).shut) ([]) slo shi).2.1),.int .i64 ((R66_0 h door slo shi ((lget h.doors (Int.toNat door)).shut) ([]) slo shi).2.2)] 36 0 true true)∧S'.heap.get S2.next=some (.cells [.slice none 0 0,.slice none 0 0,.slice none 0 0] 26 0 true true)∧Agree S S'∧S19e.next≤S'.next∧Own 36 S13.next S' v_rest ((R66_0 h door slo shi ((lget h.doors (Int.toNat door)).shut) ([]) slo shi).1)∧k2≤(R66_0 h door slo shi (lget h.doors (Int.toNat door)).shut ([]) slo shi).1.length∧R66_1 h door slo shi ((R66_0 h door slo shi (lget h.doors (Int.toNat door)).shut ([]) slo shi).1.length+1) 0=k2) ((R66_0 h door slo shi (lget h.doors (Int.toNat door)).shut ([]) slo shi).1.length+1) (by refine ⟨0,?_,?_,?_,?_,?_,?_,?_,?_,be19_1,be19_2,be19_3,ge19,Nat.le_refl _,oe_rest19,rfl⟩<;>first|(simp only [SY,eq_self,Nat.reduceBEq,ge19_1,ge19_3,ge19_5,ge19_6,ge19_9]<;>rfl)|omega|assumption|(simp; omega)|simp) (by
      rintro m t S69 ⟨k2,hi69_0,hi69_1,g69_1,g69_3,g69_5,g69_6,g69_9,g69_12,bb69_1,bb69_2,bb69_3,ga69,gn69,cw69_0,hd69⟩
      refine .run fun z he=>?_
      try simp (disch:=first|omega|assumption) only [SY] at he
      rw [code_draws _ _ _ (by kernel_rfl)] at he
      generalize hnd70:needy _=nd70 at he
      have w71:=(cw69_0.rows).len (P:=Tryz.prog) (t:=40) Tryz.underlying40
      try simp (disch:=first|omega|assumption) only [E0_G,SY,agreeKind,Nat.reduceAdd,Nat.reduceLT,Nat.reduceBEq,g69_9,g69_12,store_refl E0_same,w71] at he
      rcases dP ((k2:Int)<(((R66_0 h door slo shi ((lget h.doors (Int.toNat door)).shut) ([]) slo shi).1).length:Int)) with ⟨h72a,h72⟩|⟨h72a,h72⟩
      ·have hx73:((R66_0 h door slo shi ((lget h.doors (Int.toNat door)).shut) ([]) slo shi).1)[k2]?=some (lget ((R66_0 h door slo shi ((lget h.doors (Int.toNat door)).shut) ([]) slo shi).1) k2):=lget_some (by first|omega|simp; omega)
       obtain ⟨id73,of73,cc73,ty73,wr73,ex73,i73,j73,l73,q73,lb73,bk73,oq73⟩:=cw69_0.at4 (P:=Tryz.prog) (t:=40) Tryz.underlying40 tz36 hx73
       have m73_0:cc73[of73]?=some (.int .i64 ((lget ((R66_0 h door slo shi ((lget h.doors (Int.toNat door)).shut) ([]) slo shi).1) k2).lo)):=q73 0 (show 0<2 by decide)
       have m73_1:cc73[of73+1]?=some (.int .i64 ((lget ((R66_0 h door slo shi ((lget h.doors (Int.toNat door)).shut) ([]) slo shi).1) k2).hi)):=q73 1 (show 1<2 by decide)
       try simp (disch:=first|omega|assumption) only [E0_G,SY,agreeKind,ldA,aggD,aField,Nat.reduceAdd,Nat.reduceLT,Nat.reduceBEq,TY_EvH47,g69_5,g69_9,g69_12,bb69_2,store_refl E0_same,h72a,i73,j73,m73_0] at he
       rcases dP (((lget ((R66_0 h door slo shi ((lget h.doors (Int.toNat door)).shut) ([]) slo shi).1) k2).lo)<((R66_0 h door slo shi ((lget h.doors (Int.toNat door)).shut) ([]) slo shi).2.1)) with ⟨h74a,h74⟩|⟨h74a,h74⟩
       ·have w75:IntKind.i64.wrap ((k2:Int)+1)=((k2+1:Nat):Int):=by rw [IntWalk.i64_in]<;>omega
        try simp (disch:=first|omega|assumption) only [E0_G,SY,off,agreeKind,Nat.reduceAdd,Nat.reduceLT,Nat.reduceBEq,g69_12,store_refl E0_same,h74a,w75] at he
        obtain ⟨m',rfl⟩:∃ m',m=m'+1:=⟨m - 1,by omega⟩
        have hf:=(show _=(R66_1 h door slo shi m' (k2+1):Nat) from (if_pos h72).trans ((if_pos h74).trans (rfl))).symm.trans hd69
        refine .next he m' (by omega) ⟨(k2+1),?_,?_,?_,?_,?_,?_,?_,?_,bb69_1,bb69_2,bb69_3,ga69,by omega,cw69_0,hf⟩<;>first|(simp only [SY,eq_self,Nat.reduceBEq,g69_1,g69_3,g69_5,g69_6,g69_9,g69_12]<;>rfl)|omega|assumption|(simp; omega)|simp
       try simp (disch:=first|omega|assumption) only [SY,store_refl E0_same,h74a] at he
       obtain ⟨m',rfl⟩:∃ m',m=m'+1:=⟨m - 1,by omega⟩
       have hf:=(show _=(k2:Nat) from (if_pos h72).trans ((if_neg h74).trans (rfl))).symm.trans hd69
       refine .exit he ⟨rfl,⟨k2,?_,?_,?_,?_,?_,?_,bb69_1,bb69_2,bb69_3,ga69,by omega,cw69_0,?_,hf.symm⟩⟩<;>first|(simp only [SY,eq_self,Nat.reduceBEq,g69_1,g69_3,g69_5,g69_6,g69_9,g69_12]<;>rfl)|omega|assumption|(simp; omega)|simp
      try simp (disch:=first|omega|assumption) only [E0_G,SY,agreeKind,Nat.reduceAdd,Nat.reduceLT,Nat.reduceBEq,store_refl E0_same,h72a] at he
      obtain ⟨m',rfl⟩:∃ m',m=m'+1:=⟨m - 1,by omega⟩
      have hf:=(show _=(k2:Nat) from (if_neg h72).trans (rfl)).symm.trans hd69
      refine .exit he ⟨rfl,⟨k2,?_,?_,?_,?_,?_,?_,bb69_1,bb69_2,bb69_3,ga69,by omega,cw69_0,?_,hf.symm⟩⟩<;>first|(simp only [SY,eq_self,Nat.reduceBEq,g69_1,g69_3,g69_5,g69_6,g69_9,g69_12]<;>rfl)|omega|assumption|(simp; omega)|simp)
    obtain ⟨rfl,k2,ge69_1,ge69_3,ge69_5,ge69_6,ge69_9,ge69_12,be69_1,be69_2,be69_3,ge69,gm69,ce69_0,hj69_0,hR69⟩:=hQ69
    obtain rfl:k2=R66_1 h door slo shi ((R66_0 h door slo shi (lget h.doors (Int.toNat door)).shut ([]) slo shi).1.length+1) 0:=hR69.symm
    obtain ⟨p77,k77,r77,z77⟩:=(ce69_0.rows).take (P:=Tryz.prog) (t:=40) Tryz.underlying40 tz36 (i:=(R66_1 h door slo shi ((R66_0 h door slo shi (lget h.doors (Int.toNat door)).shut ([]) slo shi).1.length+1) 0)) (by first|omega|simp; omega) ce69_0.good
    obtain ⟨u78,S78,k78,o78,n78,f78,d78⟩:=own_append (P:=Tryz.prog) (t:=40) (tx:=40) (n:=1) (v:=.slice none 0 0) (Own.nil 36 S69e.next S69e) (r77) (by omega) (by first|omega|(simp; omega)|simp) (by first|omega|(simp; omega)|simp) Tryz.underlying40 Tryz.underlying40 ti36 tv36 rfl tz36
    obtain ⟨pu78,nu78,cu78,rfl⟩:=own_slice o78
    have v1_78:=(f78 S.next (by omega) (by first|(simp [blkOf]; done)|exact (Own.nil 36 S69e.next S69e).ne (by omega)|exact (Own.nil 36 S69e.next S69e).new (by omega)|assumption)).trans be69_1
    have v2_78:=(f78 S1.next (by omega) (by first|(simp [blkOf]; done)|exact (Own.nil 36 S69e.next S69e).ne (by omega)|exact (Own.nil 36 S69e.next S69e).new (by omega)|assumption)).trans be69_2
    have v3_78:=(f78 S2.next (by omega) (by first|(simp [blkOf]; done)|exact (Own.nil 36 S69e.next S69e).ne (by omega)|exact (Own.nil 36 S69e.next S69e).new (by omega)|assumption)).trans be69_3
    have apoce69_79:∀ b,blkOf (v_rest)=some b→blkOf (.slice pu78 nu78 cu78)≠some b:=fun b hb=>d78 b (ce69_0.lt hb) ((fun b hb=>by simp [blkOf]) b hb)
    have oce69_79:=ce69_0.frame n78 (fun id hid hb=>f78 id hid ((fun b hb=>by simp [blkOf]) id hb))
    have g78:Agree S S78:=⟨Nat.le_trans (ge69).1 n78,fun id hid=>(f78 id (by have:=(ge69).1; omega) (by first|(simp [blkOf]; done)|exact (Own.nil 36 S69e.next S69e).ne (by omega)|assumption)).trans ((ge69).2 id hid)⟩
    have ne80:blkOf (.slice pu78 nu78 cu78)≠some S.next:=by first|exact o78.ne (by omega)|exact o78.new (by omega)|exact d78 _ (by omega) (by first|(simp [blkOf]; done)|exact (Own.nil 36 S69e.next S69e).ne (by omega)|exact (Own.nil 36 S69e.next S69e).new (by omega)|assumption)
    have ne81:blkOf (.slice pu78 nu78 cu78)≠some S1.next:=by first|exact o78.ne (by omega)|exact o78.new (by omega)|exact d78 _ (by omega) (by first|(simp [blkOf]; done)|exact (Own.nil 36 S69e.next S69e).ne (by omega)|exact (Own.nil 36 S69e.next S69e).new (by omega)|assumption)
    have ne82:blkOf (.slice pu78 nu78 cu78)≠some S2.next:=by first|exact o78.ne (by omega)|exact o78.new (by omega)|exact d78 _ (by omega) (by first|(simp [blkOf]; done)|exact (Own.nil 36 S69e.next S69e).ne (by omega)|exact (Own.nil 36 S69e.next S69e).new (by omega)|assumption)
    simp only [List.nil_append] at o78
    have y83:aBuildSlice Tryz.prog 40 1 [(0,.agg #[.int .i64 ((R66_0 h door slo shi ((lget h.doors (Int.toNat door)).shut) ([]) slo shi).2.1),.int .i64 ((R66_0 h door slo shi ((lget h.doors (Int.toNat door)).shut) ([]) slo shi).2.2)])] S78=some (.slice (some ⟨S78.next,0,none⟩) 1 1,S78.push (.cells [.int .i64 ((R66_0 h door slo shi ((lget h.doors (Int.toNat door)).shut) ([]) slo shi).2.1),.int .i64 ((R66_0 h door slo shi ((lget h.doors (Int.toNat door)).shut) ([]) slo shi).2.2)] 36 2 true true)):=by kernel_rfl
    obtain ⟨S84,e84,n84,b84,a84⟩:=push_open S78 (.cells [.int .i64 ((R66_0 h door slo shi ((lget h.doors (Int.toNat door)).shut) ([]) slo shi).2.1),.int .i64 ((R66_0 h door slo shi ((lget h.doors (Int.toNat door)).shut) ([]) slo shi).2.2)] 36 2 true true)
    have v1_84:=(a84.2 S.next (by omega)).trans v1_78
    have v3_84:=(a84.2 S2.next (by omega)).trans v3_78
    have oce69_85:=oce69_79.agree a84
    have o78_86:=o78.agree a84
    have g84:Agree S S84:=g78.trans a84
    have s84:E0.same S78 S84=true:=symEnv_same a84
    have ne87:blkOf (v_rest)≠some S78.next:=oce69_79.new (Nat.le_refl _)
    have ne88:blkOf (.slice pu78 nu78 cu78)≠some S78.next:=o78.new (Nat.le_refl _)
    have o89:Own 36 S78.next S84 (.slice (some ⟨S78.next,0,none⟩) 1 1) ([(⟨(R66_0 h door slo shi ((lget h.doors (Int.toNat door)).shut) ([]) slo shi).2.1,(R66_0 h door slo shi ((lget h.doors (Int.toNat door)).shut) ([]) slo shi).2.2⟩:Sp)]:List Sp):=.inr ⟨_,true,rfl,Nat.le_refl _,by omega,b84⟩
    have ap90:∀ b,blkOf (v_rest)=some b→blkOf (.slice (some ⟨S78.next,0,none⟩) 1 1)≠some b:=fun b hb=>o89.ne (Nat.lt_of_lt_of_le (oce69_79.lt hb) (by omega))
    have ap91:∀ b,blkOf (.slice pu78 nu78 cu78)=some b→blkOf (.slice (some ⟨S78.next,0,none⟩) 1 1)≠some b:=fun b hb=>o89.ne (Nat.lt_of_lt_of_le (o78.lt hb) (by omega))
    obtain ⟨u92,S92,k92,o92,n92,f92,d92⟩:=own_append (P:=Tryz.prog) (t:=40) (tx:=40) (n:=1) (v:=.slice pu78 nu78 cu78) o78_86 (o89.rows) (by omega) (by first|omega|(simp; omega)|simp) (by first|omega|(simp; omega)|simp) Tryz.underlying40 Tryz.underlying40 ti36 tv36 rfl tz36
    obtain ⟨pu92,nu92,cu92,rfl⟩:=own_slice o92
    have v1_92:=(f92 S.next (by omega) (by first|(simp [blkOf]; done)|exact o78_86.ne (by omega)|exact o78_86.new (by omega)|assumption)).trans v1_84
    have v3_92:=(f92 S2.next (by omega) (by first|(simp [blkOf]; done)|exact o78_86.ne (by omega)|exact o78_86.new (by omega)|assumption)).trans v3_84
    have apoce69_93:∀ b,blkOf (v_rest)=some b→blkOf (.slice pu92 nu92 cu92)≠some b:=fun b hb=>d92 b (oce69_85.lt hb) (apoce69_79 b hb)
    have oce69_93:=oce69_85.frame n92 (fun id hid hb=>f92 id hid (apoce69_79 id hb))
    have apo89_94:∀ b,blkOf (.slice (some ⟨S78.next,0,none⟩) 1 1)=some b→blkOf (.slice pu92 nu92 cu92)≠some b:=fun b hb=>d92 b (o89.lt hb) ((fun b h1 h2=>ap91 b h2 h1) b hb)
    have o89_94:=o89.frame n92 (fun id hid hb=>f92 id hid ((fun b h1 h2=>ap91 b h2 h1) id hb))
    have g92:Agree S S92:=⟨Nat.le_trans (g84).1 n92,fun id hid=>(f92 id (by have:=(g84).1; omega) (by first|(simp [blkOf]; done)|exact o78_86.ne (by omega)|assumption)).trans ((g84).2 id hid)⟩
    have ne95:blkOf (.slice pu92 nu92 cu92)≠some S.next:=by first|exact o92.ne (by omega)|exact o92.new (by omega)|exact d92 _ (by omega) (by first|(simp [blkOf]; done)|exact o78_86.ne (by omega)|exact o78_86.new (by omega)|assumption)
    have ne96:blkOf (.slice pu92 nu92 cu92)≠some S1.next:=by first|exact o92.ne (by omega)|exact o92.new (by omega)|exact d92 _ (by omega) (by first|(simp [blkOf]; done)|exact o78_86.ne (by omega)|exact o78_86.new (by omega)|assumption)
    have ne97:blkOf (.slice pu92 nu92 cu92)≠some S2.next:=by first|exact o92.ne (by omega)|exact o92.new (by omega)|exact d92 _ (by omega) (by first|(simp [blkOf]; done)|exact o78_86.ne (by omega)|exact o78_86.new (by omega)|assumption)
    obtain ⟨p98,k98,r98,z98⟩:=(oce69_93.rows).drop (P:=Tryz.prog) (t:=40) Tryz.underlying40 tz36 (i:=(R66_1 h door slo shi ((R66_0 h door slo shi (lget h.doors (Int.toNat door)).shut ([]) slo shi).1.length+1) 0)) (by first|omega|simp; omega) oce69_93.good
    obtain ⟨u99,S99,k99,o99,n99,f99,d99⟩:=own_append (P:=Tryz.prog) (t:=40) (tx:=40) (n:=1) (v:=.slice pu92 nu92 cu92) o92 (r98) (by omega) (by first|omega|(simp; omega)|simp) (by first|omega|(simp; omega)|simp) Tryz.underlying40 Tryz.underlying40 ti36 tv36 rfl tz36
    obtain ⟨pu99,nu99,cu99,rfl⟩:=own_slice o99
    have v1_99:=(f99 S.next (by omega) (by first|(simp [blkOf]; done)|exact o92.ne (by omega)|exact o92.new (by omega)|assumption)).trans v1_92
    have v3_99:=(f99 S2.next (by omega) (by first|(simp [blkOf]; done)|exact o92.ne (by omega)|exact o92.new (by omega)|assumption)).trans v3_92
    have apoce69_100:∀ b,blkOf (v_rest)=some b→blkOf (.slice pu99 nu99 cu99)≠some b:=fun b hb=>d99 b (oce69_93.lt hb) (apoce69_93 b hb)
    have oce69_100:=oce69_93.frame n99 (fun id hid hb=>f99 id hid (apoce69_93 id hb))
    have apo89_101:∀ b,blkOf (.slice (some ⟨S78.next,0,none⟩) 1 1)=some b→blkOf (.slice pu99 nu99 cu99)≠some b:=fun b hb=>d99 b (o89_94.lt hb) (apo89_94 b hb)
    have o89_101:=o89_94.frame n99 (fun id hid hb=>f99 id hid (apo89_94 id hb))
    have g99:Agree S S99:=⟨Nat.le_trans (g92).1 n99,fun id hid=>(f99 id (by have:=(g92).1; omega) (by first|(simp [blkOf]; done)|exact o92.ne (by omega)|assumption)).trans ((g92).2 id hid)⟩
    have ne102:blkOf (.slice pu99 nu99 cu99)≠some S.next:=by first|exact o99.ne (by omega)|exact o99.new (by omega)|exact d99 _ (by omega) (by first|(simp [blkOf]; done)|exact o92.ne (by omega)|exact o92.new (by omega)|assumption)
    have ne103:blkOf (.slice pu99 nu99 cu99)≠some S1.next:=by first|exact o99.ne (by omega)|exact o99.new (by omega)|exact d99 _ (by omega) (by first|(simp [blkOf]; done)|exact o92.ne (by omega)|exact o92.new (by omega)|assumption)
    have ne104:blkOf (.slice pu99 nu99 cu99)≠some S2.next:=by first|exact o99.ne (by omega)|exact o99.new (by omega)|exact d99 _ (by omega) (by first|(simp [blkOf]; done)|exact o92.ne (by omega)|exact o92.new (by omega)|assumption)
    have w105:=(o99.rows).len (P:=Tryz.prog) (t:=40) Tryz.underlying40
    try simp (disch:=first|omega|assumption) only [E0_G,SY,off,agreeKind,partVals,ldA,rdCells,aggD,eq_self,if_true,Nat.reduceAdd,Nat.reduceLT,Nat.reduceBEq,TY_EvH47,ge69_5,ge69_9,ge69_12,k77,v2_78,k78,y83,e84,k92,k98,k99,w105] at hz
    rcases dP (8<((((((R66_0 h door slo shi ((lget h.doors (Int.toNat door)).shut) ([]) slo shi).1).take (R66_1 h door slo shi ((R66_0 h door slo shi (lget h.doors (Int.toNat door)).shut ([]) slo shi).1.length+1) 0))++([(⟨(R66_0 h door slo shi ((lget h.doors (Int.toNat door)).shut) ([]) slo shi).2.1,(R66_0 h door slo shi ((lget h.doors (Int.toNat door)).shut) ([]) slo shi).2.2⟩:Sp)]))++(((R66_0 h door slo shi ((lget h.doors (Int.toNat door)).shut) ([]) slo shi).1).drop (R66_1 h door slo shi ((R66_0 h door slo shi (lget h.doors (Int.toNat door)).shut ([]) slo shi).1.length+1) 0))).length:Int)) with ⟨h106a,h106⟩|⟨h106a,h106⟩
    ·have y107:aBuild Tryz.prog 26 []=some (.agg #[.slice none 0 0,.slice none 0 0,.slice none 0 0]):=by kernel_rfl
     obtain ⟨S108,k108,n108,b108,q108⟩:=st_at (o:=0) (c':=[.slice none 0 0,.slice none 0 0,.slice none 0 0]) (v:=.agg #[.slice none 0 0,.slice none 0 0,.slice none 0 0]) tz26 v3_99 rfl rfl (show 0+3≤3 by decide) rfl
     have oce69_109:=oce69_100.frame (by omega) (fun id hid hb=>q108 id (fun e=>(show blkOf (v_rest)≠some S2.next from by first|exact oce69_100.ne (by omega)|exact oce69_100.new (by omega)|assumption) (e ▸ hb)))
     have o99_110:=o99.frame (by omega) (fun id hid hb=>q108 id (fun e=>(show blkOf (.slice pu99 nu99 cu99)≠some S2.next from by first|exact o99.ne (by omega)|exact o99.new (by omega)|assumption) (e ▸ hb)))
     have o89_111:=o89_101.frame (by omega) (fun id hid hb=>q108 id (fun e=>(show blkOf (.slice (some ⟨S78.next,0,none⟩) 1 1)≠some S2.next from by first|exact o89_101.ne (by omega)|exact o89_101.new (by omega)|assumption) (e ▸ hb)))
     have g108:Agree S S108:=⟨by have:=(g99).1; omega,fun id hid=>(q108 id (by have:=(g99).1; omega)).trans ((g99).2 id hid)⟩
     try simp (disch:=first|omega|assumption) only [E0_G,SY,off,agreeKind,partVals,ldA,rdCells,aggD,Nat.reduceAdd,Nat.reduceLT,Nat.reduceBEq,TY_EvH47,ge69_6,h106a,y107,k108,b108] at hz
     have hr:r66 h door slo shi=((⟨[],[],[]⟩:Hs),2):=(if_pos h5).trans ((if_neg h7).trans ((if_pos h11).trans ((if_pos h14).trans ((if_pos h106).trans (rfl)))))
     exact ⟨.slice none 0 0,.slice none 0 0,.slice none 0 0,S108,by first|(rw [hr]; exact hz.symm)|exact hz.symm,g108,by rw [hr]; exact .inl ⟨rfl,.inl rfl⟩,by rw [hr]; exact .inl ⟨rfl,.inl rfl⟩,by rw [hr]; exact .inl ⟨rfl,.inl rfl⟩⟩
    have y112:aBuild Tryz.prog 26 [(0,v_h_rooms),(2,v_h_ways)]=some (.agg #[v_h_rooms,.slice none 0 0,v_h_ways]):=by obtain ⟨p0_,n0_,c0_,e0_⟩:=(hv_h_rooms).form; rw [e0_]; obtain ⟨p1_,n1_,c1_,e1_⟩:=(hv_h_ways).form; rw [e1_]; kernel_rfl
    obtain ⟨S113,e113,n113,b113,a113⟩:=push_open S99 (.cells [.slice none 0 0,.slice none 0 0,.slice none 0 0] 26 0 true true)
    have v1_113:=(a113.2 S.next (by omega)).trans v1_99
    have v3_113:=(a113.2 S2.next (by omega)).trans v3_99
    have oce69_114:=oce69_100.agree a113
    have o99_115:=o99.agree a113
    have o89_116:=o89_101.agree a113
    have g113:Agree S S113:=g99.trans a113
    have s113:E0.same S99 S113=true:=symEnv_same a113
    have ne117:blkOf (v_rest)≠some S99.next:=oce69_100.new (Nat.le_refl _)
    have ne118:blkOf (.slice pu99 nu99 cu99)≠some S99.next:=o99.new (Nat.le_refl _)
    have ne119:blkOf (.slice (some ⟨S78.next,0,none⟩) 1 1)≠some S99.next:=o89_101.new (Nat.le_refl _)
    obtain ⟨S120,k120,n120,b120,q120⟩:=st_at (o:=0) (c':=[v_h_rooms,.slice none 0 0,v_h_ways]) (v:=.agg #[v_h_rooms,.slice none 0 0,v_h_ways]) tz26 b113 (by obtain ⟨p0_,n0_,c0_,e0_⟩:=(hv_h_rooms).form; rw [e0_]; obtain ⟨p1_,n1_,c1_,e1_⟩:=(hv_h_ways).form; rw [e1_]; rfl) rfl (show 0+3≤3 by decide) rfl
    have v1_120:=(q120 S.next (by omega)).trans v1_113
    have v3_120:=(q120 S2.next (by omega)).trans v3_113
    have oce69_121:=oce69_114.frame (by omega) (fun id hid hb=>q120 id (fun e=>(show blkOf (v_rest)≠some S99.next from by first|exact oce69_114.ne (by omega)|exact oce69_114.new (by omega)|assumption) (e ▸ hb)))
    have o99_122:=o99_115.frame (by omega) (fun id hid hb=>q120 id (fun e=>(show blkOf (.slice pu99 nu99 cu99)≠some S99.next from by first|exact o99_115.ne (by omega)|exact o99_115.new (by omega)|assumption) (e ▸ hb)))
    have o89_123:=o89_116.frame (by omega) (fun id hid hb=>q120 id (fun e=>(show blkOf (.slice (some ⟨S78.next,0,none⟩) 1 1)≠some S99.next from by first|exact o89_116.ne (by omega)|exact o89_116.new (by omega)|assumption) (e ▸ hb)))
    have g120:Agree S S120:=⟨by have:=(g113).1; omega,fun id hid=>(q120 id (by have:=(g113).1; omega)).trans ((g113).2 id hid)⟩
    try simp (disch:=first|omega|assumption) only [E0_G,SY,off,agreeKind,partVals,allocV,ldA,aggD,aField,Nat.reduceAdd,Nat.reduceLT,Nat.reduceBEq,TY_EvH47,ge69_3,v1_99,h106a,y112,e113,k120] at hz
    generalize hL124:Rec.loop _ _ _ _=L124 at hz
    obtain ⟨x124,t124,S124e,rfl,hQ124⟩:=loop_met hL124 (fun m t S'=>∃ (v_ds:Value) (ds:List Dr) (i:Nat),m+i=h.doors.length∧ds.length=i∧i≤h.doors.length∧t.get 1=some (.int .i64 door)∧t.get 3=some (.pointer (some ⟨S.next,0,none⟩))∧t.get 6=some (.pointer (some ⟨S2.next,0,none⟩))∧t.get 13=some (.slice pu99 nu99 cu99)∧t.get 14=some (.pointer (some ⟨S99.next,0,none⟩))∧t.get 15=some (.int .i64 (i:Int))∧S'.heap.get S.next=some (.cells [v_h_rooms,v_h_doors,v_h_ways] 26 0 true true)∧S'.heap.get S2.next=some (.cells [.slice none 0 0,.slice none 0 0,.slice none 0 0] 26 0 true true)∧S'.heap.get S99.next=some (.cells [v_h_rooms,v_ds,v_h_ways] 26 0 true true)∧Agree S S'∧S120.next≤S'.next∧OwnR 98 S.next S' v_ds ds∧Own 36 S69e.next S' (.slice pu99 nu99 cu99) (((((R66_0 h door slo shi ((lget h.doors (Int.toNat door)).shut) ([]) slo shi).1).take (R66_1 h door slo shi ((R66_0 h door slo shi (lget h.doors (Int.toNat door)).shut ([]) slo shi).1.length+1) 0))++([(⟨(R66_0 h door slo shi ((lget h.doors (Int.toNat door)).shut) ([]) slo shi).2.1,(R66_0 h door slo shi ((lget h.doors (Int.toNat door)).shut) ([]) slo shi).2.2⟩:Sp)]))++(((R66_0 h door slo shi ((lget h.doors (Int.toNat door)).shut) ([]) slo shi).1).drop (R66_1 h door slo shi ((R66_0 h door slo shi (lget h.doors (Int.toNat door)).shut ([]) slo shi).1.length+1) 0)))∧(∀ b,blkOf v_ds=some b→blkOf (.slice pu99 nu99 cu99)≠some b)∧R66_2 h door slo shi (h.doors.drop i) ds i=R66_2 h door slo shi h.doors ([]) 0)
     (fun x t S'=>x=.exit 4∧∃ (v_ds:Value) (ds:List Dr) (i:Nat),t.get 6=some (.pointer (some ⟨S2.next,0,none⟩))∧t.get 14=some (.pointer (some ⟨S99.next,0,none⟩))∧S'.heap.get S.next=some (.cells [v_h_rooms,v_h_doors,v_h_ways] 26 0 true true)∧S'.heap.get S2.next=some (.cells [.slice none 0 0,.slice none 0 0,.slice none 0 0] 26 0 true true)∧S'.heap.get S99.next=some (.cells [v_h_rooms,v_ds,v_h_ways] 26 0 true true)∧Agree S S'∧S120.next≤S'.next∧OwnR 98 S.next S' v_ds ds∧Own 36 S69e.next S' (.slice pu99 nu99 cu99) (((((R66_0 h door slo shi ((lget h.doors (Int.toNat door)).shut) ([]) slo shi).1).take (R66_1 h door slo shi ((R66_0 h door slo shi (lget h.doors (Int.toNat door)).shut ([]) slo shi).1.length+1) 0))++([(⟨(R66_0 h door slo shi ((lget h.doors (Int.toNat door)).shut) ([]) slo shi).2.1,(R66_0 h door slo shi ((lget h.doors (Int.toNat door)).shut) ([]) slo shi).2.2⟩:Sp)]))++(((R66_0 h door slo shi ((lget h.doors (Int.toNat door)).shut) ([]) slo shi).1).drop (R66_1 h door slo shi ((R66_0 h door slo shi (lget h.doors (Int.toNat door)).shut ([]) slo shi).1.length+1) 0)))∧(∀ b,blkOf v_ds=some b→blkOf (.slice pu99 nu99 cu99)≠some b)∧ds.length=i∧i≤h.doors.length∧R66_2 h door slo shi h.doors ([]) 0=ds) (h.doors.length - 0) (by refine ⟨.slice none 0 0,[],0,?_,?_,?_,?_,?_,?_,?_,?_,?_,v1_120,v3_120,b120,g120,Nat.le_refl _,by first|exact Own.nil _ _ _|exact OwnR.nil _ _ _,o99_122,(fun b hb=>by simp [blkOf] at hb),rfl⟩<;>first|(simp only [SY,eq_self,Nat.reduceBEq,ge69_1,ge69_3,ge69_6]<;>rfl)|omega|assumption|(simp; omega)|simp) (by
      rintro m t S124 ⟨v_ds,ds,i,hi124_0,hi124_1,hi124_2,g124_1,g124_3,g124_6,g124_13,g124_14,g124_15,bb124_1,bb124_3,bb124_113,ga124,gn124,ow_ds,cw124_0,pr124_0,hd124⟩
      refine .run fun z he=>?_
      have w125:=(hv_h_doors.agree ga124).len (P:=Tryz.prog) (t:=23) Tryz.underlying23
      try simp (disch:=first|omega|assumption) only [E0_G,SY,off,agreeKind,ldA,aggD,aField,Nat.reduceAdd,Nat.reduceLT,Nat.reduceBEq,TY_EvH47,g124_3,g124_15,bb124_1,w125] at he
      rcases dP ((i:Int)<(h.doors.length:Int)) with ⟨h126a,h126⟩|⟨h126a,h126⟩
      ·have hx124:h.doors[i]?=some (h.doors[i]'(by first|omega|simp; omega)):=List.getElem?_eq_getElem _
       generalize h.doors[i]'_=x124 at hx124
       have ed128:=(okd hV (List.mem_of_getElem? hx124)).sl
       obtain ⟨id127,of127,cc127,ty127,wr127,ex127,cs127,i127,j127,l127,rp127,q127⟩:=LstR.at (hv_h_doors) (P:=Tryz.prog) (t:=23) Tryz.underlying23 tz98 hx124
       obtain ⟨w127_0,w127_1,rp127,rr127_0,rr127_1⟩:=rp127
       have rq127:cs127=[w127_0,w127_1]:=rp127
       subst rq127
       have j127:=(ga124.2 id127 l127).trans j127
       have m127_0:cc127[of127]?=some (w127_0):=q127 0 (show 0<2 by decide)
       have m127_1:cc127[of127+1]?=some (w127_1):=q127 1 (show 1<2 by decide)
       obtain ⟨S129,e129,n129,b129,a129⟩:=push_open S124 (.cells [.slice none 0 0,.slice none 0 0] 98 0 true true)
       have v1_129:=(a129.2 S.next (by omega)).trans bb124_1
       have v3_129:=(a129.2 S2.next (by omega)).trans bb124_3
       have v113_129:=(a129.2 S99.next (by omega)).trans bb124_113
       have ocw124_130:=cw124_0.agree a129
       have ow_131:=ow_ds.agree a129
       have g129:Agree S S129:=ga124.trans a129
       have s129:E0.same S124 S129=true:=symEnv_same a129
       have ne132:blkOf (.slice pu99 nu99 cu99)≠some S124.next:=cw124_0.new (Nat.le_refl _)
       have ne133:blkOf (v_ds)≠some S124.next:=ow_ds.new (Nat.le_refl _)
       obtain ⟨S134,k134,n134,b134,q134⟩:=st_at (o:=0) (c':=[w127_0,w127_1]) (v:=.agg #[w127_0,w127_1]) tz98 b129 (by obtain ⟨p0_,n0_,c0_,e0_⟩:=(rr127_0).form; rw [e0_]; obtain ⟨p1_,n1_,c1_,e1_⟩:=(rr127_1).form; rw [e1_]; rfl) rfl (show 0+2≤2 by decide) rfl
       have v1_134:=(q134 S.next (by omega)).trans v1_129
       have v3_134:=(q134 S2.next (by omega)).trans v3_129
       have v113_134:=(q134 S99.next (by omega)).trans v113_129
       have ocw124_135:=ocw124_130.frame (by omega) (fun id hid hb=>q134 id (fun e=>(show blkOf (.slice pu99 nu99 cu99)≠some S124.next from by first|exact ocw124_130.ne (by omega)|exact ocw124_130.new (by omega)|assumption) (e ▸ hb)))
       have ow_136:=ow_131.box b129 (by decide) (by omega) q134
       have g134:Agree S S134:=⟨by have:=(g129).1; omega,fun id hid=>(q134 id (by have:=(g129).1; omega)).trans ((g129).2 id hid)⟩
       try simp (disch:=first|omega|assumption) only [E0_G,SY,off,agreeKind,allocV,ldA,rdCells,aggD,aField,Nat.reduceAdd,Nat.reduceLT,Nat.reduceBEq,TY_EvH47,g124_1,g124_3,g124_15,bb124_1,h126a,i127,j127,m127_0,m127_1,e129,k134] at he
       rcases dP ((i:Int)=door) with ⟨h137a,h137⟩|⟨h137a,h137⟩
       ·obtain ⟨S138,k138,n138,b138,q138⟩:=st_at (o:=1) (c':=[w127_0,.slice pu99 nu99 cu99]) (v:=.slice pu99 nu99 cu99) tz40 b134 rfl rfl (show 1+1≤2 by decide) rfl
        have v1_138:=(q138 S.next (by omega)).trans v1_134
        have v3_138:=(q138 S2.next (by omega)).trans v3_134
        have v113_138:=(q138 S99.next (by omega)).trans v113_134
        have ocw124_139:=ocw124_135.frame (by omega) (fun id hid hb=>q138 id (fun e=>(show blkOf (.slice pu99 nu99 cu99)≠some S124.next from by first|exact ocw124_135.ne (by omega)|exact ocw124_135.new (by omega)|assumption) (e ▸ hb)))
        have ow_140:=ow_136.box b134 (by decide) (by omega) q138
        have g138:Agree S S138:=⟨by have:=(g134).1; omega,fun id hid=>(q138 id (by have:=(g134).1; omega)).trans ((g134).2 id hid)⟩
        have y141:aBuildSlice Tryz.prog 23 1 [(0,.agg #[w127_0,.slice pu99 nu99 cu99])] S138=some (.slice (some ⟨S138.next,0,none⟩) 1 1,S138.push (.cells [w127_0,.slice pu99 nu99 cu99] 98 2 true true)):=by kernel_rfl
        obtain ⟨S142,e142,n142,b142,a142⟩:=push_open S138 (.cells [w127_0,.slice pu99 nu99 cu99] 98 2 true true)
        have v1_142:=(a142.2 S.next (by omega)).trans v1_138
        have v3_142:=(a142.2 S2.next (by omega)).trans v3_138
        have v113_142:=(a142.2 S99.next (by omega)).trans v113_138
        have v129_142:=(a142.2 S124.next (by omega)).trans b138
        have ocw124_143:=ocw124_139.agree a142
        have ow_144:=ow_140.agree a142
        have g142:Agree S S142:=g138.trans a142
        have s142:E0.same S138 S142=true:=symEnv_same a142
        have ne145:blkOf (.slice pu99 nu99 cu99)≠some S138.next:=ocw124_139.new (Nat.le_refl _)
        have ne146:blkOf (v_ds)≠some S138.next:=ow_140.new (Nat.le_refl _)
        have o147:OwnR 98 S.next S142 (.slice (some ⟨S138.next,0,none⟩) 1 1) [(⟨x124.hours,((((R66_0 h door slo shi ((lget h.doors (Int.toNat door)).shut) ([]) slo shi).1).take (R66_1 h door slo shi ((R66_0 h door slo shi (lget h.doors (Int.toNat door)).shut ([]) slo shi).1.length+1) 0))++([(⟨(R66_0 h door slo shi ((lget h.doors (Int.toNat door)).shut) ([]) slo shi).2.1,(R66_0 h door slo shi ((lget h.doors (Int.toNat door)).shut) ([]) slo shi).2.2⟩:Sp)]))++(((R66_0 h door slo shi ((lget h.doors (Int.toNat door)).shut) ([]) slo shi).1).drop (R66_1 h door slo shi ((R66_0 h door slo shi (lget h.doors (Int.toNat door)).shut ([]) slo shi).1.length+1) 0))⟩:Dr)]:=OwnR.one b142 (by omega) (by omega) rfl (ones_2 (rr127_0).one (ocw124_143.rows).one) (kept_mk (KL.of rr127_0 g142 (Nat.le_refl _) (by decide)) (KL.own ocw124_143 (by decide) (by decide)))
        obtain ⟨u148,S148,k148,o148,n148,f148,d148⟩:=ownr_append (P:=Tryz.prog) (t:=23) (tx:=23) (n:=1) (v:=v_ds) ow_144 o147 (by omega) (by first|omega|(simp; omega)|simp) (by first|omega|(simp; omega)|simp) Tryz.underlying23 Tryz.underlying23 ti98 tv98 rfl tz98
        obtain ⟨pu148,nu148,cu148,rfl⟩:=o148.slice
        have v1_148:=(f148 S.next (by omega) (by first|(simp [blkOf]; done)|exact ow_144.nebox v1_142 (by decide))).trans v1_142
        have v3_148:=(f148 S2.next (by omega) (by first|(simp [blkOf]; done)|exact ow_144.nebox v3_142 (by decide))).trans v3_142
        have v113_148:=(f148 S99.next (by omega) (by first|(simp [blkOf]; done)|exact ow_144.nebox v113_142 (by decide))).trans v113_142
        have v129_148:=(f148 S124.next (by omega) (by first|(simp [blkOf]; done)|exact ow_144.nebox v129_142 (by decide))).trans v129_142
        have apocw124_149:∀ b,blkOf (.slice pu99 nu99 cu99)=some b→blkOf (.slice pu148 nu148 cu148)≠some b:=fun b hb=>d148 b (ocw124_143.lt hb) ((fun b hb=>ow_144.apart ocw124_143 (by decide) b hb) b hb)
        have ocw124_149:=ocw124_143.frame n148 (fun id hid hb=>f148 id hid ((fun b hb=>ow_144.apart ocw124_143 (by decide) b hb) id hb))
        have g148:Agree S S148:=⟨Nat.le_trans (g142).1 n148,fun id hid=>(f148 id (by have:=(g142).1; omega) (by first|(simp [blkOf]; done)|exact ow_144.ne (by omega)|assumption)).trans ((g142).2 id hid)⟩
        have ne150:blkOf (.slice pu148 nu148 cu148)≠some S.next:=o148.nebox v1_148 (by decide)
        have ne151:blkOf (.slice pu148 nu148 cu148)≠some S2.next:=o148.nebox v3_148 (by decide)
        have ne152:blkOf (.slice pu148 nu148 cu148)≠some S99.next:=o148.nebox v113_148 (by decide)
        have ne153:blkOf (.slice pu148 nu148 cu148)≠some S124.next:=o148.nebox v129_148 (by decide)
        obtain ⟨S154,k154,n154,b154,q154⟩:=st_at (o:=1) (c':=[v_h_rooms,.slice pu148 nu148 cu148,v_h_ways]) (v:=.slice pu148 nu148 cu148) tz23 v113_148 rfl rfl (show 1+1≤3 by decide) rfl
        have v1_154:=(q154 S.next (by omega)).trans v1_148
        have v3_154:=(q154 S2.next (by omega)).trans v3_148
        have ocw124_155:=ocw124_149.frame (by omega) (fun id hid hb=>q154 id (fun e=>(show blkOf (.slice pu99 nu99 cu99)≠some S99.next from by first|exact ocw124_149.ne (by omega)|exact ocw124_149.new (by omega)|assumption) (e ▸ hb)))
        have o148_156:=o148.box v113_148 (by decide) (by omega) q154
        have g154:Agree S S154:=⟨by have:=(g148).1; omega,fun id hid=>(q154 id (by have:=(g148).1; omega)).trans ((g148).2 id hid)⟩
        have w157:IntKind.i64.wrap ((i:Int)+1)=((i+1:Nat):Int):=by rw [IntWalk.i64_in]<;>omega
        try simp (disch:=first|omega|assumption) only [E0_G,SY,off,agreeKind,partVals,ldA,rdCells,aggD,aField,Nat.reduceAdd,Nat.reduceLT,Nat.reduceBEq,TY_EvH47,g124_13,g124_14,g124_15,h137a,v113_138,k138,b138,y141,e142,k148,k154,w157] at he
        rw [drop_cons' hx124] at hd124
        have hf:=(show _=(R66_2 h door slo shi (h.doors.drop (i+1)) (ds++([(⟨x124.hours,((((R66_0 h door slo shi ((lget h.doors (Int.toNat door)).shut) ([]) slo shi).1).take (R66_1 h door slo shi ((R66_0 h door slo shi (lget h.doors (Int.toNat door)).shut ([]) slo shi).1.length+1) 0))++([(⟨(R66_0 h door slo shi ((lget h.doors (Int.toNat door)).shut) ([]) slo shi).2.1,(R66_0 h door slo shi ((lget h.doors (Int.toNat door)).shut) ([]) slo shi).2.2⟩:Sp)]))++(((R66_0 h door slo shi ((lget h.doors (Int.toNat door)).shut) ([]) slo shi).1).drop (R66_1 h door slo shi ((R66_0 h door slo shi (lget h.doors (Int.toNat door)).shut ([]) slo shi).1.length+1) 0))⟩:Dr)])) (i+1):(List Dr)) from (if_pos h137).trans (rfl)).symm.trans hd124
        refine .next he (m - 1) (by omega) ⟨.slice pu148 nu148 cu148,ds++([(⟨x124.hours,((((R66_0 h door slo shi ((lget h.doors (Int.toNat door)).shut) ([]) slo shi).1).take (R66_1 h door slo shi ((R66_0 h door slo shi (lget h.doors (Int.toNat door)).shut ([]) slo shi).1.length+1) 0))++([(⟨(R66_0 h door slo shi ((lget h.doors (Int.toNat door)).shut) ([]) slo shi).2.1,(R66_0 h door slo shi ((lget h.doors (Int.toNat door)).shut) ([]) slo shi).2.2⟩:Sp)]))++(((R66_0 h door slo shi ((lget h.doors (Int.toNat door)).shut) ([]) slo shi).1).drop (R66_1 h door slo shi ((R66_0 h door slo shi (lget h.doors (Int.toNat door)).shut ([]) slo shi).1.length+1) 0))⟩:Dr)]),(i+1),?_,?_,?_,?_,?_,?_,?_,?_,?_,v1_154,v3_154,b154,g154,by omega,o148_156,ocw124_155,(fun b h1 h2=>apocw124_149 b h2 h1),hf⟩<;>first|(simp only [SY,eq_self,Nat.reduceBEq,g124_1,g124_3,g124_6,g124_13,g124_14,g124_15]<;>rfl)|omega|assumption|(simp; omega)|simp
       have y158:aBuildSlice Tryz.prog 23 1 [(0,.agg #[w127_0,w127_1])] S134=some (.slice (some ⟨S134.next,0,none⟩) 1 1,S134.push (.cells [w127_0,w127_1] 98 2 true true)):=by kernel_rfl
       obtain ⟨S159,e159,n159,b159,a159⟩:=push_open S134 (.cells [w127_0,w127_1] 98 2 true true)
       have v1_159:=(a159.2 S.next (by omega)).trans v1_134
       have v3_159:=(a159.2 S2.next (by omega)).trans v3_134
       have v113_159:=(a159.2 S99.next (by omega)).trans v113_134
       have v129_159:=(a159.2 S124.next (by omega)).trans b134
       have ocw124_160:=ocw124_135.agree a159
       have ow_161:=ow_136.agree a159
       have g159:Agree S S159:=g134.trans a159
       have s159:E0.same S134 S159=true:=symEnv_same a159
       have ne162:blkOf (.slice pu99 nu99 cu99)≠some S134.next:=ocw124_135.new (Nat.le_refl _)
       have ne163:blkOf (v_ds)≠some S134.next:=ow_136.new (Nat.le_refl _)
       have o164:OwnR 98 S.next S159 (.slice (some ⟨S134.next,0,none⟩) 1 1) [x124]:=OwnR.one b159 (by omega) (by omega) rfl (ones_2 (rr127_0).one (rr127_1).one) (kept_mk (KL.of rr127_0 g159 (Nat.le_refl _) (by decide)) (KL.of rr127_1 g159 (Nat.le_refl _) (by decide)))
       obtain ⟨u165,S165,k165,o165,n165,f165,d165⟩:=ownr_append (P:=Tryz.prog) (t:=23) (tx:=23) (n:=1) (v:=v_ds) ow_161 o164 (by omega) (by first|omega|(simp; omega)|simp) (by first|omega|(simp; omega)|simp) Tryz.underlying23 Tryz.underlying23 ti98 tv98 rfl tz98
       obtain ⟨pu165,nu165,cu165,rfl⟩:=o165.slice
       have v1_165:=(f165 S.next (by omega) (by first|(simp [blkOf]; done)|exact ow_161.nebox v1_159 (by decide))).trans v1_159
       have v3_165:=(f165 S2.next (by omega) (by first|(simp [blkOf]; done)|exact ow_161.nebox v3_159 (by decide))).trans v3_159
       have v113_165:=(f165 S99.next (by omega) (by first|(simp [blkOf]; done)|exact ow_161.nebox v113_159 (by decide))).trans v113_159
       have v129_165:=(f165 S124.next (by omega) (by first|(simp [blkOf]; done)|exact ow_161.nebox v129_159 (by decide))).trans v129_159
       have apocw124_166:∀ b,blkOf (.slice pu99 nu99 cu99)=some b→blkOf (.slice pu165 nu165 cu165)≠some b:=fun b hb=>d165 b (ocw124_160.lt hb) ((fun b hb=>ow_161.apart ocw124_160 (by decide) b hb) b hb)
       have ocw124_166:=ocw124_160.frame n165 (fun id hid hb=>f165 id hid ((fun b hb=>ow_161.apart ocw124_160 (by decide) b hb) id hb))
       have g165:Agree S S165:=⟨Nat.le_trans (g159).1 n165,fun id hid=>(f165 id (by have:=(g159).1; omega) (by first|(simp [blkOf]; done)|exact ow_161.ne (by omega)|assumption)).trans ((g159).2 id hid)⟩
       have ne167:blkOf (.slice pu165 nu165 cu165)≠some S.next:=o165.nebox v1_165 (by decide)
       have ne168:blkOf (.slice pu165 nu165 cu165)≠some S2.next:=o165.nebox v3_165 (by decide)
       have ne169:blkOf (.slice pu165 nu165 cu165)≠some S99.next:=o165.nebox v113_165 (by decide)
       have ne170:blkOf (.slice pu165 nu165 cu165)≠some S124.next:=o165.nebox v129_165 (by decide)
       obtain ⟨S171,k171,n171,b171,q171⟩:=st_at (o:=1) (c':=[v_h_rooms,.slice pu165 nu165 cu165,v_h_ways]) (v:=.slice pu165 nu165 cu165) tz23 v113_165 rfl rfl (show 1+1≤3 by decide) rfl
       have v1_171:=(q171 S.next (by omega)).trans v1_165
       have v3_171:=(q171 S2.next (by omega)).trans v3_165
       have ocw124_172:=ocw124_166.frame (by omega) (fun id hid hb=>q171 id (fun e=>(show blkOf (.slice pu99 nu99 cu99)≠some S99.next from by first|exact ocw124_166.ne (by omega)|exact ocw124_166.new (by omega)|assumption) (e ▸ hb)))
       have o165_173:=o165.box v113_165 (by decide) (by omega) q171
       have g171:Agree S S171:=⟨by have:=(g165).1; omega,fun id hid=>(q171 id (by have:=(g165).1; omega)).trans ((g165).2 id hid)⟩
       have w174:IntKind.i64.wrap ((i:Int)+1)=((i+1:Nat):Int):=by rw [IntWalk.i64_in]<;>omega
       try simp (disch:=first|omega|assumption) only [E0_G,SY,off,agreeKind,partVals,ldA,rdCells,aggD,aField,Nat.reduceAdd,Nat.reduceLT,Nat.reduceBEq,TY_EvH47,g124_14,g124_15,v113_134,b134,h137a,y158,e159,k165,k171,w174] at he
       rw [drop_cons' hx124] at hd124
       have hf:=(show _=(R66_2 h door slo shi (h.doors.drop (i+1)) (ds++([x124])) (i+1):(List Dr)) from (if_neg h137).trans (rfl)).symm.trans hd124
       refine .next he (m - 1) (by omega) ⟨.slice pu165 nu165 cu165,ds++([x124]),(i+1),?_,?_,?_,?_,?_,?_,?_,?_,?_,v1_171,v3_171,b171,g171,by omega,o165_173,ocw124_172,(fun b h1 h2=>apocw124_166 b h2 h1),hf⟩<;>first|(simp only [SY,eq_self,Nat.reduceBEq,g124_1,g124_3,g124_6,g124_13,g124_14,g124_15]<;>rfl)|omega|assumption|(simp; omega)|simp
      try simp (disch:=first|omega|assumption) only [SY,h126a] at he
      rw [List.drop_eq_nil_of_le (show h.doors.length≤i by omega)] at hd124
      have hf:=(show _=(ds:(List Dr)) from rfl).symm.trans hd124
      refine .exit he ⟨rfl,⟨v_ds,ds,i,?_,?_,bb124_1,bb124_3,bb124_113,ga124,by omega,ow_ds,cw124_0,pr124_0,?_,?_,hf.symm⟩⟩<;>first|(simp only [SY,eq_self,Nat.reduceBEq,g124_6,g124_14]<;>rfl)|omega|assumption|(simp; omega)|simp)
    obtain ⟨rfl,v_ds,ds,i,ge124_6,ge124_14,be124_1,be124_3,be124_113,ge124,gm124,oe_ds124,ce124_0,pe124_0,hj124_0,hj124_1,hR124⟩:=hQ124
    obtain rfl:ds=R66_2 h door slo shi h.doors ([]) 0:=hR124.symm
    obtain ⟨S176,k176,n176,b176,q176⟩:=st_at (o:=0) (c':=[v_h_rooms,v_ds,v_h_ways]) (v:=.agg #[v_h_rooms,v_ds,v_h_ways]) tz26 be124_3 (by obtain ⟨p0_,n0_,c0_,e0_⟩:=(hv_h_rooms).form; rw [e0_]; obtain ⟨p1_,n1_,c1_,e1_⟩:=(oe_ds124.rows).form; rw [e1_]; obtain ⟨p2_,n2_,c2_,e2_⟩:=(hv_h_ways).form; rw [e2_]; rfl) rfl (show 0+3≤3 by decide) rfl
    have oce124_177:=ce124_0.frame (by omega) (fun id hid hb=>q176 id (fun e=>(show blkOf (.slice pu99 nu99 cu99)≠some S2.next from by first|exact ce124_0.ne (by omega)|exact ce124_0.new (by omega)|assumption) (e ▸ hb)))
    have oe_178:=oe_ds124.box be124_3 (by decide) (by omega) q176
    have g176:Agree S S176:=⟨by have:=(ge124).1; omega,fun id hid=>(q176 id (by have:=(ge124).1; omega)).trans ((ge124).2 id hid)⟩
    try simp (disch:=first|omega|assumption) only [E0_G,SY,off,agreeKind,ldA,rdCells,aggD,eq_self,if_true,Nat.reduceAdd,Nat.reduceLT,Nat.reduceBEq,TY_EvH47,ge124_6,ge124_14,be124_113,k176,b176] at hz
    have hr:r66 h door slo shi=((⟨h.rooms,R66_2 h door slo shi h.doors ([]) 0,h.ways⟩:Hs),0):=(if_pos h5).trans ((if_neg h7).trans ((if_pos h11).trans ((if_pos h14).trans ((if_neg h106).trans (rfl)))))
    exact ⟨v_h_rooms,v_ds,v_h_ways,S176,by first|(rw [hr]; exact hz.symm)|exact hz.symm,g176,by rw [hr]; exact hv_h_rooms.agree g176,by rw [hr]; exact oe_178.rows,by rw [hr]; exact hv_h_ways.agree g176⟩
   have y179:aBuild Tryz.prog 26 []=some (.agg #[.slice none 0 0,.slice none 0 0,.slice none 0 0]):=by kernel_rfl
   obtain ⟨S180,k180,n180,b180,q180⟩:=st_at (o:=0) (c':=[.slice none 0 0,.slice none 0 0,.slice none 0 0]) (v:=.agg #[.slice none 0 0,.slice none 0 0,.slice none 0 0]) tz26 v3_13 rfl rfl (show 0+3≤3 by decide) rfl
   have g180:Agree S S180:=⟨by have:=(g13).1; omega,fun id hid=>(q180 id (by have:=(g13).1; omega)).trans ((g13).2 id hid)⟩
   try simp (disch:=first|omega|assumption) only [E0_G,SY,off,agreeKind,partVals,ldA,rdCells,aggD,Nat.reduceAdd,Nat.reduceLT,Nat.reduceBEq,TY_EvH47,h14a,y179,k180,b180] at hz
   have hr:r66 h door slo shi=((⟨[],[],[]⟩:Hs),1):=(if_pos h5).trans ((if_neg h7).trans ((if_pos h11).trans ((if_neg h14).trans (rfl))))
   exact ⟨.slice none 0 0,.slice none 0 0,.slice none 0 0,S180,by first|(rw [hr]; exact hz.symm)|exact hz.symm,g180,by rw [hr]; exact .inl ⟨rfl,.inl rfl⟩,by rw [hr]; exact .inl ⟨rfl,.inl rfl⟩,by rw [hr]; exact .inl ⟨rfl,.inl rfl⟩⟩
  have y181:aBuild Tryz.prog 26 []=some (.agg #[.slice none 0 0,.slice none 0 0,.slice none 0 0]):=by kernel_rfl
  obtain ⟨S182,k182,n182,b182,q182⟩:=st_at (o:=0) (c':=[.slice none 0 0,.slice none 0 0,.slice none 0 0]) (v:=.agg #[.slice none 0 0,.slice none 0 0,.slice none 0 0]) tz26 v3_10 rfl rfl (show 0+3≤3 by decide) rfl
  have g182:Agree S S182:=⟨by have:=(g10).1; omega,fun id hid=>(q182 id (by have:=(g10).1; omega)).trans ((g10).2 id hid)⟩
  try simp (disch:=first|omega|assumption) only [E0_G,SY,off,agreeKind,partVals,ldA,rdCells,aggD,Nat.reduceAdd,Nat.reduceLT,Nat.reduceBEq,TY_EvH47,h11a,y181,k182,b182] at hz
  have hr:r66 h door slo shi=((⟨[],[],[]⟩:Hs),1):=(if_pos h5).trans ((if_neg h7).trans ((if_neg h11).trans (rfl)))
  exact ⟨.slice none 0 0,.slice none 0 0,.slice none 0 0,S182,by first|(rw [hr]; exact hz.symm)|exact hz.symm,g182,by rw [hr]; exact .inl ⟨rfl,.inl rfl⟩,by rw [hr]; exact .inl ⟨rfl,.inl rfl⟩,by rw [hr]; exact .inl ⟨rfl,.inl rfl⟩⟩
 have y183:aBuild Tryz.prog 26 []=some (.agg #[.slice none 0 0,.slice none 0 0,.slice none 0 0]):=by kernel_rfl
 obtain ⟨S184,k184,n184,b184,q184⟩:=st_at (o:=0) (c':=[.slice none 0 0,.slice none 0 0,.slice none 0 0]) (v:=.agg #[.slice none 0 0,.slice none 0 0,.slice none 0 0]) tz26 v3_4 rfl rfl (show 0+3≤3 by decide) rfl
 have g184:Agree S S184:=⟨by have:=(g4).1; omega,fun id hid=>(q184 id (by have:=(g4).1; omega)).trans ((g4).2 id hid)⟩
 try simp (disch:=first|omega|assumption) only [E0_G,SY,off,agreeKind,partVals,ldA,rdCells,aggD,Nat.reduceAdd,Nat.reduceLT,Nat.reduceBEq,TY_EvH47,h5a,y183,k184,b184] at hz
 have hr:r66 h door slo shi=((⟨[],[],[]⟩:Hs),(r85 h door 0)):=(if_neg h5).trans (rfl)
 exact ⟨.slice none 0 0,.slice none 0 0,.slice none 0 0,S184,by first|(rw [hr]; exact hz.symm)|exact hz.symm,g184,by rw [hr]; exact .inl ⟨rfl,.inl rfl⟩,by rw [hr]; exact .inl ⟨rfl,.inl rfl⟩,by rw [hr]; exact .inl ⟨rfl,.inl rfl⟩⟩
end House
end Go.Proofs
