import Derived.Test.YtohfdkdjfoonjaaGreatDoorEvH22
section
set_option linter.unusedSimpArgs false
set_option linter.unusedVariables false
namespace Go.Proofs
namespace House
open Go Go.RowKit Go.Aev
set_option maxRecDepth 100000
theorem TY_EvH23:type_of% TY_EvH22:=TY_EvH22
def R148_0 (rooms:List Rm) (doors:List Dr) (ways:List Wy)  : List Wy→Nat→List Pg
 | [],kv=>[]
 | _x :: l',kv=>(if (r144 (⟨rooms,doors,ways⟩:Hs) (kv:Int) false).2=true then ((⟨((r144 (⟨rooms,doors,ways⟩:Hs) (kv:Int) false).1).1,((r144 (⟨rooms,doors,ways⟩:Hs) (kv:Int) false).1).2.1,((r144 (⟨rooms,doors,ways⟩:Hs) (kv:Int) false).1).2.2.1,((r144 (⟨rooms,doors,ways⟩:Hs) (kv:Int) false).1).2.2.2.1,((r144 (⟨rooms,doors,ways⟩:Hs) (kv:Int) false).1).2.2.2.2.1,((r144 (⟨rooms,doors,ways⟩:Hs) (kv:Int) false).1).2.2.2.2.2⟩:Pg) :: (if (r144 (⟨rooms,doors,ways⟩:Hs) (kv:Int) true).2=true then ((⟨((r144 (⟨rooms,doors,ways⟩:Hs) (kv:Int) true).1).1,((r144 (⟨rooms,doors,ways⟩:Hs) (kv:Int) true).1).2.1,((r144 (⟨rooms,doors,ways⟩:Hs) (kv:Int) true).1).2.2.1,((r144 (⟨rooms,doors,ways⟩:Hs) (kv:Int) true).1).2.2.2.1,((r144 (⟨rooms,doors,ways⟩:Hs) (kv:Int) true).1).2.2.2.2.1,((r144 (⟨rooms,doors,ways⟩:Hs) (kv:Int) true).1).2.2.2.2.2⟩:Pg) :: R148_0 rooms doors ways l' (kv+1)) else R148_0 rooms doors ways l' (kv+1))) else (if (r144 (⟨rooms,doors,ways⟩:Hs) (kv:Int) true).2=true then ((⟨((r144 (⟨rooms,doors,ways⟩:Hs) (kv:Int) true).1).1,((r144 (⟨rooms,doors,ways⟩:Hs) (kv:Int) true).1).2.1,((r144 (⟨rooms,doors,ways⟩:Hs) (kv:Int) true).1).2.2.1,((r144 (⟨rooms,doors,ways⟩:Hs) (kv:Int) true).1).2.2.2.1,((r144 (⟨rooms,doors,ways⟩:Hs) (kv:Int) true).1).2.2.2.2.1,((r144 (⟨rooms,doors,ways⟩:Hs) (kv:Int) true).1).2.2.2.2.2⟩:Pg) :: R148_0 rooms doors ways l' (kv+1)) else R148_0 rooms doors ways l' (kv+1)))
def r148 (rooms:List Rm) (doors:List Dr) (ways:List Wy):List Pg:=R148_0 rooms doors ways ways 0
set_option maxHeartbeats 8000000 in
theorem it148 (rooms:List Rm) (doors:List Dr) (ways:List Wy) (hw:ways.length≤70) (S:AS) (y:Nat) (I J:Nat→(Nat→Prop)→AS→Prop) (T0:Nat→Prop) (hy:YieldS Tryz.prog E0 S y (fun b:Pg=>#[Value.agg (cellsOf b).toArray]) (r148 rooms doors ways) I J) (h0:I 0 T0 S) (Sb:AS) (hag:Agree Sb S) (hT:∀ id,T0 id→Sb.next≤id) (v_rooms:Value) (hv_rooms:LstR Sb v_rooms rooms) (v_doors:Value) (hv_doors:LstR Sb v_doors doors) (v_ways:Value) (hv_ways:Lst Sb v_ways ways) (p_h:Nat) (g_h:S.heap.get p_h=some (.cells [v_rooms,v_doors,v_ways] 26 0 true true)) (l_h:p_h<S.next) (n_h:¬ T0 p_h) :
  ∃ S' T',(evL Tryz.prog E0).call 148 #[.func (.yield y) #[] #[],.pointer (some ⟨p_h,0,none⟩)] S=some (.tuple #[],S')∧(I (r148 rooms doors ways).length T' S'∨∃ i b,(r148 rooms doors ways)[i]?=some b∧J i T' S')∧Off T0 S S'∧Wider T0 S T':=by
 have hbeg:(r148 rooms doors ways).drop 0=R148_0 rooms doors ways ways 0:=rfl
 generalize hz:(evL Tryz.prog E0).call 148 _ _=z
 rw [L_call,evCall_said rfl Tryz.func148 rfl (by decide) Tryz.ntmps148 Tryz.results148] at hz
 have w1:=((hv_ways.agree (Off.base hag hT (Off.refl T0 S)))).len (P:=Tryz.prog) (t:=24) Tryz.underlying24
 try simp (disch:=first|omega|assumption) only [E0_G,SY,setArgs,off,agreeKind,ldA,aggD,aField,Nat.reduceAdd,Nat.reduceSub,Nat.reduceLT,Nat.reduceBEq,TY_EvH23,g_h,w1] at hz
 generalize hL2:Rec.loop _ _ _ _=L2 at hz
 obtain ⟨x2,t2,S2e,rfl,hQ2⟩:=loop_met hL2 (fun m t S'=>∃ (cI:Nat) (TI:Nat→Prop) (kv:Nat),m+kv=ways.length∧kv≤ways.length∧cI≤(r148 rooms doors ways).length∧t.get 0=some (.func (.yield y) #[] #[])∧t.get 1=some (.pointer (some ⟨p_h,0,none⟩))∧t.get 10=some (.int .i64 (ways.length:Int))∧t.get 11=some (.int .i64 (kv:Int))∧S'.heap.get p_h=some (.cells [v_rooms,v_doors,v_ways] 26 0 true true)∧Off T0 S S'∧S.next≤S'.next∧I cI TI S'∧Wider T0 S TI∧¬ TI p_h∧(r148 rooms doors ways).drop cI=R148_0 rooms doors ways (ways.drop kv) kv)
  (fun x t S'=>(x=.exit 0∧∃ (cI:Nat) (TI:Nat→Prop) (kv:Nat),S'.heap.get p_h=some (.cells [v_rooms,v_doors,v_ways] 26 0 true true)∧Off T0 S S'∧S.next≤S'.next∧I cI TI S'∧Wider T0 S TI∧¬ TI p_h∧kv≤ways.length∧cI≤(r148 rooms doors ways).length∧(r148 rooms doors ways).drop cI=[])∨(x=.ret∧∃ (cI:Nat) (TI:Nat→Prop) (bI:Pg),(r148 rooms doors ways)[cI]?=some bI∧J cI TI S'∧Off T0 S S'∧Wider T0 S TI)) (ways.length - 0) (by refine ⟨0,T0,0,?_,?_,?_,?_,?_,?_,?_,g_h,(Off.refl T0 S),Nat.le_refl _,h0,(Wider.refl T0 S),n_h,rfl⟩<;>first|(simp only [SY,eq_self,Nat.reduceBEq]<;>rfl)|omega|assumption|assumption|exact Dm.set (by assumption) _ (by omega)|exact Hd.init _ _|exact Hd.at (by omega) (by assumption) (by omega) (by assumption)|exact (Hd.get (by assumption) (by assumption)).2.2.1|exact lget_set_ge (by assumption) (by omega) (by omega)|exact Dm.push (by assumption) (by decide)|exact Dm.nil|(simp; omega)|simp) (by
   rintro m t S2 ⟨cI,TI,kv,hi2_0,hi2_1,hi2_2,g2_0,g2_1,g2_10,g2_11,bb2_h,ga2,gn2,hI2,ww2,nt2_h,hd2⟩
   refine .run fun z he=>?_
   try simp only [E0_G,SY,off,agreeKind,Nat.reduceLT,Nat.reduceBEq,g2_10,g2_11] at he
   rcases dP ((kv:Int)<(ways.length:Int)) with ⟨h3a,h3⟩|⟨h3a,h3⟩
   ·have y4:aBuildSlice Tryz.prog 148 2 [(0,.bool false),(1,.bool true)] S2=some (.slice (some ⟨S2.next,0,none⟩) 2 2,S2.push (.cells [.bool false,.bool true] 4 1 true true)):=by kernel_rfl
    obtain ⟨S5,e5,n5,b5,a5⟩:=push_open S2 (.cells [.bool false,.bool true] 4 1 true true)
    have nt5:¬ TI S2.next:=fun h=>by have:=hy.low _ _ _ hI2 _ h; omega
    have vh_5:=(a5.2 p_h (by omega)).trans bb2_h
    have g5:Off T0 S S5:=Off.agree ga2 a5
    have hI5:=hy.keep _ _ _ _ hI2 a5.1 (fun id hid _=>a5.2 id hid)
    have w6:lenV Tryz.prog 148 (.slice (some ⟨S2.next,0,none⟩) 2 2)=some (.int .i64 2):=by kernel_rfl
    try simp only [E0_G,SY,off,agreeKind,partVals,Nat.reduceAdd,Nat.reduceLT,Nat.reduceBEq,g2_11,h3a,y4,e5,w6] at he
    rw [L_loop_step] at he
    have i7:aIndexAddr Tryz.prog 148 (.slice (some ⟨S2.next,0,none⟩) 2 2) (.int .i64 0)=some (.pointer (some ⟨S2.next,0,none⟩)):=by kernel_rfl
    obtain ⟨S8,k8,a8⟩:=c144 (⟨rooms,doors,ways⟩:Hs) (kv:Int) false (by first|(show 0≤_∧_<(ways.length:Int); omega)|omega|assumption) S5 (v_rooms) ((hv_rooms.agree (Off.base hag hT g5))) (v_doors) ((hv_doors.agree (Off.base hag hT g5))) (v_ways) ((hv_ways.agree (Off.base hag hT g5)))
    have l8:=a8.1
    have vh_8:=(a8.2 p_h (by omega)).trans vh_5
    have v5_8:=(a8.2 S2.next (by omega)).trans b5
    have g8:Off T0 S S8:=Off.agree g5 a8
    have hI8:=hy.keep _ _ _ _ hI5 a8.1 (fun id hid _=>a8.2 id hid)
    obtain ⟨S9,e9,n9,b9,a9⟩:=push_open S8 (.cells [.int .i64 0,.bool false,.int .i64 0,.int .i64 0,.int .i64 0,.int .i64 0] 137 0 true true)
    have nt9:¬ TI S8.next:=fun h=>by have:=hy.low _ _ _ hI8 _ h; omega
    have vh_9:=(a9.2 p_h (by omega)).trans vh_8
    have v5_9:=(a9.2 S2.next (by omega)).trans v5_8
    have g9:Off T0 S S9:=Off.agree g8 a9
    have hI9:=hy.keep _ _ _ _ hI8 a9.1 (fun id hid _=>a9.2 id hid)
    obtain ⟨S10,k10,n10,b10,q10⟩:=st_at (o:=0) (c':=[.int .i64 (((r144 (⟨rooms,doors,ways⟩:Hs) (kv:Int) false).1).1),.bool (((r144 (⟨rooms,doors,ways⟩:Hs) (kv:Int) false).1).2.1),.int .i64 (((r144 (⟨rooms,doors,ways⟩:Hs) (kv:Int) false).1).2.2.1),.int .i64 (((r144 (⟨rooms,doors,ways⟩:Hs) (kv:Int) false).1).2.2.2.1),.int .i64 (((r144 (⟨rooms,doors,ways⟩:Hs) (kv:Int) false).1).2.2.2.2.1),.int .i64 (((r144 (⟨rooms,doors,ways⟩:Hs) (kv:Int) false).1).2.2.2.2.2)]) (v:=.agg #[.int .i64 (((r144 (⟨rooms,doors,ways⟩:Hs) (kv:Int) false).1).1),.bool (((r144 (⟨rooms,doors,ways⟩:Hs) (kv:Int) false).1).2.1),.int .i64 (((r144 (⟨rooms,doors,ways⟩:Hs) (kv:Int) false).1).2.2.1),.int .i64 (((r144 (⟨rooms,doors,ways⟩:Hs) (kv:Int) false).1).2.2.2.1),.int .i64 (((r144 (⟨rooms,doors,ways⟩:Hs) (kv:Int) false).1).2.2.2.2.1),.int .i64 (((r144 (⟨rooms,doors,ways⟩:Hs) (kv:Int) false).1).2.2.2.2.2)]) tz137 b9 rfl rfl (show 0+6≤6 by decide) rfl
    have vh_10:=(q10 p_h (by omega)).trans vh_9
    have v5_10:=(q10 S2.next (by omega)).trans v5_9
    have g10:Off T0 S S10:=Off.put g9 (by omega) n10 q10
    have hI10:=hy.keep _ _ _ _ hI9 (by omega) (fun id hid hh=>q10 id (fun e=>hh.elim (fun h'=>nt9 (e ▸ h')) (fun h'=>by omega)))
    try simp (disch:=first|omega|assumption) only [E0_G,SY,off,agreeKind,vals,allocV,ldA,rdCells,aggD,aExtract,Nat.reduceAdd,Nat.reduceLT,Nat.reduceBEq,Int.reduceLT,TY_EvH23,g2_1,vh_5,b5,i7,k8,e9,k10] at he
    rcases dB ((r144 (⟨rooms,doors,ways⟩:Hs) (kv:Int) false).2) with ⟨h11a,h11⟩|⟨h11a,h11⟩
    ·rw [drop_cons' (List.getElem?_eq_getElem (show kv<_ by omega))] at hd2
     have yy12:=drop_unc (x:=(⟨((r144 (⟨rooms,doors,ways⟩:Hs) (kv:Int) false).1).1,((r144 (⟨rooms,doors,ways⟩:Hs) (kv:Int) false).1).2.1,((r144 (⟨rooms,doors,ways⟩:Hs) (kv:Int) false).1).2.2.1,((r144 (⟨rooms,doors,ways⟩:Hs) (kv:Int) false).1).2.2.2.1,((r144 (⟨rooms,doors,ways⟩:Hs) (kv:Int) false).1).2.2.2.2.1,((r144 (⟨rooms,doors,ways⟩:Hs) (kv:Int) false).1).2.2.2.2.2⟩:Pg)) (hd2.trans ((if_pos h11).trans (rfl)))
     rcases hy.step _ _ _ _ yy12.1 hI10 with ⟨S12,T12,k12,hI12,f12,w12⟩|⟨S12,T12,k12,hI12,f12,w12⟩
     ·replace k12:(evL Tryz.prog E0).round y #[.agg #[.int .i64 (((r144 (⟨rooms,doors,ways⟩:Hs) (kv:Int) false).1).1),.bool (((r144 (⟨rooms,doors,ways⟩:Hs) (kv:Int) false).1).2.1),.int .i64 (((r144 (⟨rooms,doors,ways⟩:Hs) (kv:Int) false).1).2.2.1),.int .i64 (((r144 (⟨rooms,doors,ways⟩:Hs) (kv:Int) false).1).2.2.2.1),.int .i64 (((r144 (⟨rooms,doors,ways⟩:Hs) (kv:Int) false).1).2.2.2.2.1),.int .i64 (((r144 (⟨rooms,doors,ways⟩:Hs) (kv:Int) false).1).2.2.2.2.2)]] S10=some (.bool true,S12):=k12
      have l12:=f12.1
      have cl12:=(List.getElem?_eq_some_iff.1 yy12.1).1
      have vh_12:=(f12.2 p_h (by omega) nt2_h).trans vh_10
      have nth_12:¬ T12 p_h:=w12.not (by omega) nt2_h
      have v5_12:=(f12.2 S2.next (by omega) nt5).trans v5_10
      have nt5_12:¬ T12 S2.next:=w12.not (by omega) nt5
      have v9_12:=(f12.2 S8.next (by omega) nt9).trans b10
      have nt9_12:¬ T12 S8.next:=w12.not (by omega) nt9
      have g12:Off T0 S S12:=Off.trans g10 ww2 f12
      have ww12:Wider T0 S T12:=Wider.trans ww2 w12 (g10).1
      have w13:IntKind.i64.wrap (0+1)=1:=rfl
      try simp only [E0_G,SY,off,agreeKind,vals,ldA,rdCells,aggD,Nat.reduceAdd,Nat.reduceLT,Nat.reduceBEq,TY_EvH23,calledV_yield,firstOf_none,op_round,roundV_some,g2_0,b10,h11a,k12,w13] at he
      rw [L_loop_step] at he
      have i14:aIndexAddr Tryz.prog 148 (.slice (some ⟨S2.next,0,none⟩) 2 2) (.int .i64 1)=some (.pointer (some ⟨S2.next,1,none⟩)):=by kernel_rfl
      obtain ⟨S15,k15,a15⟩:=c144 (⟨rooms,doors,ways⟩:Hs) (kv:Int) true (by first|(show 0≤_∧_<(ways.length:Int); omega)|omega|assumption) S12 (v_rooms) ((hv_rooms.agree (Off.base hag hT g12))) (v_doors) ((hv_doors.agree (Off.base hag hT g12))) (v_ways) ((hv_ways.agree (Off.base hag hT g12)))
      have l15:=a15.1
      have vh_15:=(a15.2 p_h (by omega)).trans vh_12
      have v5_15:=(a15.2 S2.next (by omega)).trans v5_12
      have v9_15:=(a15.2 S8.next (by omega)).trans v9_12
      have g15:Off T0 S S15:=Off.agree g12 a15
      have hI15:=hy.keep _ _ _ _ hI12 a15.1 (fun id hid _=>a15.2 id hid)
      obtain ⟨S16,e16,n16,b16,a16⟩:=push_open S15 (.cells [.int .i64 0,.bool false,.int .i64 0,.int .i64 0,.int .i64 0,.int .i64 0] 137 0 true true)
      have nt16:¬ T12 S15.next:=fun h=>by have:=hy.low _ _ _ hI15 _ h; omega
      have vh_16:=(a16.2 p_h (by omega)).trans vh_15
      have v5_16:=(a16.2 S2.next (by omega)).trans v5_15
      have v9_16:=(a16.2 S8.next (by omega)).trans v9_15
      have g16:Off T0 S S16:=Off.agree g15 a16
      have hI16:=hy.keep _ _ _ _ hI15 a16.1 (fun id hid _=>a16.2 id hid)
      obtain ⟨S17,k17,n17,b17,q17⟩:=st_at (o:=0) (c':=[.int .i64 (((r144 (⟨rooms,doors,ways⟩:Hs) (kv:Int) true).1).1),.bool (((r144 (⟨rooms,doors,ways⟩:Hs) (kv:Int) true).1).2.1),.int .i64 (((r144 (⟨rooms,doors,ways⟩:Hs) (kv:Int) true).1).2.2.1),.int .i64 (((r144 (⟨rooms,doors,ways⟩:Hs) (kv:Int) true).1).2.2.2.1),.int .i64 (((r144 (⟨rooms,doors,ways⟩:Hs) (kv:Int) true).1).2.2.2.2.1),.int .i64 (((r144 (⟨rooms,doors,ways⟩:Hs) (kv:Int) true).1).2.2.2.2.2)]) (v:=.agg #[.int .i64 (((r144 (⟨rooms,doors,ways⟩:Hs) (kv:Int) true).1).1),.bool (((r144 (⟨rooms,doors,ways⟩:Hs) (kv:Int) true).1).2.1),.int .i64 (((r144 (⟨rooms,doors,ways⟩:Hs) (kv:Int) true).1).2.2.1),.int .i64 (((r144 (⟨rooms,doors,ways⟩:Hs) (kv:Int) true).1).2.2.2.1),.int .i64 (((r144 (⟨rooms,doors,ways⟩:Hs) (kv:Int) true).1).2.2.2.2.1),.int .i64 (((r144 (⟨rooms,doors,ways⟩:Hs) (kv:Int) true).1).2.2.2.2.2)]) tz137 b16 rfl rfl (show 0+6≤6 by decide) rfl
      have vh_17:=(q17 p_h (by omega)).trans vh_16
      have v5_17:=(q17 S2.next (by omega)).trans v5_16
      have v9_17:=(q17 S8.next (by omega)).trans v9_16
      have g17:Off T0 S S17:=Off.put g16 (by omega) n17 q17
      have hI17:=hy.keep _ _ _ _ hI16 (by omega) (fun id hid hh=>q17 id (fun e=>hh.elim (fun h'=>nt16 (e ▸ h')) (fun h'=>by omega)))
      try simp (disch:=first|omega|assumption) only [E0_G,SY,off,agreeKind,vals,allocV,ldA,rdCells,aggD,aExtract,Nat.reduceAdd,Nat.reduceLT,Nat.reduceBEq,Int.reduceLT,TY_EvH23,g2_1,vh_12,v5_12,i14,k15,e16,k17] at he
      rcases dB ((r144 (⟨rooms,doors,ways⟩:Hs) (kv:Int) true).2) with ⟨h18a,h18⟩|⟨h18a,h18⟩
      ·have yy19:=drop_unc (x:=(⟨((r144 (⟨rooms,doors,ways⟩:Hs) (kv:Int) true).1).1,((r144 (⟨rooms,doors,ways⟩:Hs) (kv:Int) true).1).2.1,((r144 (⟨rooms,doors,ways⟩:Hs) (kv:Int) true).1).2.2.1,((r144 (⟨rooms,doors,ways⟩:Hs) (kv:Int) true).1).2.2.2.1,((r144 (⟨rooms,doors,ways⟩:Hs) (kv:Int) true).1).2.2.2.2.1,((r144 (⟨rooms,doors,ways⟩:Hs) (kv:Int) true).1).2.2.2.2.2⟩:Pg)) (yy12.2.trans ((if_pos h18).trans (rfl)))
       rcases hy.step _ _ _ _ yy19.1 hI17 with ⟨S19,T19,k19,hI19,f19,w19⟩|⟨S19,T19,k19,hI19,f19,w19⟩
       ·replace k19:(evL Tryz.prog E0).round y #[.agg #[.int .i64 (((r144 (⟨rooms,doors,ways⟩:Hs) (kv:Int) true).1).1),.bool (((r144 (⟨rooms,doors,ways⟩:Hs) (kv:Int) true).1).2.1),.int .i64 (((r144 (⟨rooms,doors,ways⟩:Hs) (kv:Int) true).1).2.2.1),.int .i64 (((r144 (⟨rooms,doors,ways⟩:Hs) (kv:Int) true).1).2.2.2.1),.int .i64 (((r144 (⟨rooms,doors,ways⟩:Hs) (kv:Int) true).1).2.2.2.2.1),.int .i64 (((r144 (⟨rooms,doors,ways⟩:Hs) (kv:Int) true).1).2.2.2.2.2)]] S17=some (.bool true,S19):=k19
        have l19:=f19.1
        have cl19:=(List.getElem?_eq_some_iff.1 yy19.1).1
        have vh_19:=(f19.2 p_h (by omega) nth_12).trans vh_17
        have nth_19:¬ T19 p_h:=w19.not (by omega) nth_12
        have v5_19:=(f19.2 S2.next (by omega) nt5_12).trans v5_17
        have nt5_19:¬ T19 S2.next:=w19.not (by omega) nt5_12
        have v9_19:=(f19.2 S8.next (by omega) nt9_12).trans v9_17
        have nt9_19:¬ T19 S8.next:=w19.not (by omega) nt9_12
        have v16_19:=(f19.2 S15.next (by omega) nt16).trans b17
        have nt16_19:¬ T19 S15.next:=w19.not (by omega) nt16
        have g19:Off T0 S S19:=Off.trans g17 ww12 f19
        have ww19:Wider T0 S T19:=Wider.trans ww12 w19 (g17).1
        have w20:IntKind.i64.wrap (1+1)=2:=rfl
        try simp only [E0_G,SY,off,agreeKind,vals,ldA,rdCells,aggD,Nat.reduceAdd,Nat.reduceLT,Nat.reduceBEq,TY_EvH23,calledV_yield,firstOf_none,op_round,roundV_some,g2_0,b17,h18a,k19,w20] at he
        rw [L_loop_step] at he
        have w21:IntKind.i64.wrap ((kv:Int)+1)=((kv+1:Nat):Int):=by rw [IntWalk.i64_in]<;>omega
        try simp only [E0_G,SY,off,agreeKind,eq_self,if_true,Nat.reduceAdd,Nat.reduceLT,Nat.reduceBEq,Int.reduceLT,g2_11,w21] at he
        have hf:=yy19.2.trans (show _=(R148_0 rooms doors ways (ways.drop (kv+1)) (kv+1):List Pg) from rfl)
        refine .next he (m - 1) (by omega) ⟨((cI+1)+1),T19,(kv+1),?_,?_,?_,?_,?_,?_,?_,vh_19,g19,by omega,hI19,ww19,nth_19,hf⟩<;>first|(simp only [SY,eq_self,Nat.reduceBEq,g2_0,g2_1,g2_10,g2_11]<;>rfl)|omega|assumption|assumption|exact Dm.set (by assumption) _ (by omega)|exact Hd.init _ _|exact Hd.at (by omega) (by assumption) (by omega) (by assumption)|exact (Hd.get (by assumption) (by assumption)).2.2.1|exact lget_set_ge (by assumption) (by omega) (by omega)|exact Dm.push (by assumption) (by decide)|exact Dm.nil|(simp; omega)|simp
       replace k19:(evL Tryz.prog E0).round y #[.agg #[.int .i64 (((r144 (⟨rooms,doors,ways⟩:Hs) (kv:Int) true).1).1),.bool (((r144 (⟨rooms,doors,ways⟩:Hs) (kv:Int) true).1).2.1),.int .i64 (((r144 (⟨rooms,doors,ways⟩:Hs) (kv:Int) true).1).2.2.1),.int .i64 (((r144 (⟨rooms,doors,ways⟩:Hs) (kv:Int) true).1).2.2.2.1),.int .i64 (((r144 (⟨rooms,doors,ways⟩:Hs) (kv:Int) true).1).2.2.2.2.1),.int .i64 (((r144 (⟨rooms,doors,ways⟩:Hs) (kv:Int) true).1).2.2.2.2.2)]] S17=some (.bool false,S19):=k19
       have l19:=f19.1
       have cl19:=(List.getElem?_eq_some_iff.1 yy19.1).1
       have vh_19:=(f19.2 p_h (by omega) nth_12).trans vh_17
       have nth_19:¬ T19 p_h:=w19.not (by omega) nth_12
       have v5_19:=(f19.2 S2.next (by omega) nt5_12).trans v5_17
       have nt5_19:¬ T19 S2.next:=w19.not (by omega) nt5_12
       have v9_19:=(f19.2 S8.next (by omega) nt9_12).trans v9_17
       have nt9_19:¬ T19 S8.next:=w19.not (by omega) nt9_12
       have v16_19:=(f19.2 S15.next (by omega) nt16).trans b17
       have nt16_19:¬ T19 S15.next:=w19.not (by omega) nt16
       have g19:Off T0 S S19:=Off.trans g17 ww12 f19
       have ww19:Wider T0 S T19:=Wider.trans ww12 w19 (g17).1
       try simp only [E0_G,SY,off,agreeKind,vals,ldA,rdCells,aggD,Nat.reduceAdd,Nat.reduceLT,Nat.reduceBEq,TY_EvH23,calledV_yield,firstOf_none,op_round,roundV_some,g2_0,b17,h18a,k19] at he
       exact .ret he (.inr ⟨rfl,(cI+1),T19,_,yy19.1,hI19,g19,ww19⟩)
      have w22:IntKind.i64.wrap (1+1)=2:=rfl
      try simp only [E0_G,SY,off,agreeKind,Nat.reduceAdd,Nat.reduceLT,Nat.reduceBEq,h18a,w22] at he
      rw [L_loop_step] at he
      have w23:IntKind.i64.wrap ((kv:Int)+1)=((kv+1:Nat):Int):=by rw [IntWalk.i64_in]<;>omega
      try simp only [E0_G,SY,off,agreeKind,eq_self,if_true,Nat.reduceAdd,Nat.reduceLT,Nat.reduceBEq,Int.reduceLT,g2_11,w23] at he
      have hf:=yy12.2.trans (show _=(R148_0 rooms doors ways (ways.drop (kv+1)) (kv+1):List Pg) from (if_neg h18).trans (rfl))
      refine .next he (m - 1) (by omega) ⟨(cI+1),T12,(kv+1),?_,?_,?_,?_,?_,?_,?_,vh_17,g17,by omega,hI17,ww12,nth_12,hf⟩<;>first|(simp only [SY,eq_self,Nat.reduceBEq,g2_0,g2_1,g2_10,g2_11]<;>rfl)|omega|assumption|assumption|exact Dm.set (by assumption) _ (by omega)|exact Hd.init _ _|exact Hd.at (by omega) (by assumption) (by omega) (by assumption)|exact (Hd.get (by assumption) (by assumption)).2.2.1|exact lget_set_ge (by assumption) (by omega) (by omega)|exact Dm.push (by assumption) (by decide)|exact Dm.nil|(simp; omega)|simp
     replace k12:(evL Tryz.prog E0).round y #[.agg #[.int .i64 (((r144 (⟨rooms,doors,ways⟩:Hs) (kv:Int) false).1).1),.bool (((r144 (⟨rooms,doors,ways⟩:Hs) (kv:Int) false).1).2.1),.int .i64 (((r144 (⟨rooms,doors,ways⟩:Hs) (kv:Int) false).1).2.2.1),.int .i64 (((r144 (⟨rooms,doors,ways⟩:Hs) (kv:Int) false).1).2.2.2.1),.int .i64 (((r144 (⟨rooms,doors,ways⟩:Hs) (kv:Int) false).1).2.2.2.2.1),.int .i64 (((r144 (⟨rooms,doors,ways⟩:Hs) (kv:Int) false).1).2.2.2.2.2)]] S10=some (.bool false,S12):=k12
     have l12:=f12.1
     have cl12:=(List.getElem?_eq_some_iff.1 yy12.1).1
     have vh_12:=(f12.2 p_h (by omega) nt2_h).trans vh_10
     have nth_12:¬ T12 p_h:=w12.not (by omega) nt2_h
     have v5_12:=(f12.2 S2.next (by omega) nt5).trans v5_10
     have nt5_12:¬ T12 S2.next:=w12.not (by omega) nt5
     have v9_12:=(f12.2 S8.next (by omega) nt9).trans b10
     have nt9_12:¬ T12 S8.next:=w12.not (by omega) nt9
     have g12:Off T0 S S12:=Off.trans g10 ww2 f12
     have ww12:Wider T0 S T12:=Wider.trans ww2 w12 (g10).1
     try simp only [E0_G,SY,off,agreeKind,vals,ldA,rdCells,aggD,Nat.reduceAdd,Nat.reduceLT,Nat.reduceBEq,TY_EvH23,calledV_yield,firstOf_none,op_round,roundV_some,g2_0,b10,h11a,k12] at he
     exact .ret he (.inr ⟨rfl,cI,T12,_,yy12.1,hI12,g12,ww12⟩)
    have w24:IntKind.i64.wrap (0+1)=1:=rfl
    try simp only [E0_G,SY,off,agreeKind,Nat.reduceAdd,Nat.reduceLT,Nat.reduceBEq,h11a,w24] at he
    rw [L_loop_step] at he
    have i25:aIndexAddr Tryz.prog 148 (.slice (some ⟨S2.next,0,none⟩) 2 2) (.int .i64 1)=some (.pointer (some ⟨S2.next,1,none⟩)):=by kernel_rfl
    obtain ⟨S26,k26,a26⟩:=c144 (⟨rooms,doors,ways⟩:Hs) (kv:Int) true (by first|(show 0≤_∧_<(ways.length:Int); omega)|omega|assumption) S10 (v_rooms) ((hv_rooms.agree (Off.base hag hT g10))) (v_doors) ((hv_doors.agree (Off.base hag hT g10))) (v_ways) ((hv_ways.agree (Off.base hag hT g10)))
    have l26:=a26.1
    have vh_26:=(a26.2 p_h (by omega)).trans vh_10
    have v5_26:=(a26.2 S2.next (by omega)).trans v5_10
    have v9_26:=(a26.2 S8.next (by omega)).trans b10
    have g26:Off T0 S S26:=Off.agree g10 a26
    have hI26:=hy.keep _ _ _ _ hI10 a26.1 (fun id hid _=>a26.2 id hid)
    obtain ⟨S27,e27,n27,b27,a27⟩:=push_open S26 (.cells [.int .i64 0,.bool false,.int .i64 0,.int .i64 0,.int .i64 0,.int .i64 0] 137 0 true true)
    have nt27:¬ TI S26.next:=fun h=>by have:=hy.low _ _ _ hI26 _ h; omega
    have vh_27:=(a27.2 p_h (by omega)).trans vh_26
    have v5_27:=(a27.2 S2.next (by omega)).trans v5_26
    have v9_27:=(a27.2 S8.next (by omega)).trans v9_26
    have g27:Off T0 S S27:=Off.agree g26 a27
    have hI27:=hy.keep _ _ _ _ hI26 a27.1 (fun id hid _=>a27.2 id hid)
    obtain ⟨S28,k28,n28,b28,q28⟩:=st_at (o:=0) (c':=[.int .i64 (((r144 (⟨rooms,doors,ways⟩:Hs) (kv:Int) true).1).1),.bool (((r144 (⟨rooms,doors,ways⟩:Hs) (kv:Int) true).1).2.1),.int .i64 (((r144 (⟨rooms,doors,ways⟩:Hs) (kv:Int) true).1).2.2.1),.int .i64 (((r144 (⟨rooms,doors,ways⟩:Hs) (kv:Int) true).1).2.2.2.1),.int .i64 (((r144 (⟨rooms,doors,ways⟩:Hs) (kv:Int) true).1).2.2.2.2.1),.int .i64 (((r144 (⟨rooms,doors,ways⟩:Hs) (kv:Int) true).1).2.2.2.2.2)]) (v:=.agg #[.int .i64 (((r144 (⟨rooms,doors,ways⟩:Hs) (kv:Int) true).1).1),.bool (((r144 (⟨rooms,doors,ways⟩:Hs) (kv:Int) true).1).2.1),.int .i64 (((r144 (⟨rooms,doors,ways⟩:Hs) (kv:Int) true).1).2.2.1),.int .i64 (((r144 (⟨rooms,doors,ways⟩:Hs) (kv:Int) true).1).2.2.2.1),.int .i64 (((r144 (⟨rooms,doors,ways⟩:Hs) (kv:Int) true).1).2.2.2.2.1),.int .i64 (((r144 (⟨rooms,doors,ways⟩:Hs) (kv:Int) true).1).2.2.2.2.2)]) tz137 b27 rfl rfl (show 0+6≤6 by decide) rfl
    have vh_28:=(q28 p_h (by omega)).trans vh_27
    have v5_28:=(q28 S2.next (by omega)).trans v5_27
    have v9_28:=(q28 S8.next (by omega)).trans v9_27
    have g28:Off T0 S S28:=Off.put g27 (by omega) n28 q28
    have hI28:=hy.keep _ _ _ _ hI27 (by omega) (fun id hid hh=>q28 id (fun e=>hh.elim (fun h'=>nt27 (e ▸ h')) (fun h'=>by omega)))
    try simp (disch:=first|omega|assumption) only [E0_G,SY,off,agreeKind,vals,allocV,ldA,rdCells,aggD,aExtract,Nat.reduceAdd,Nat.reduceLT,Nat.reduceBEq,Int.reduceLT,TY_EvH23,g2_1,vh_10,v5_10,i25,k26,e27,k28] at he
    rcases dB ((r144 (⟨rooms,doors,ways⟩:Hs) (kv:Int) true).2) with ⟨h29a,h29⟩|⟨h29a,h29⟩
    ·rw [drop_cons' (List.getElem?_eq_getElem (show kv<_ by omega))] at hd2
     have yy30:=drop_unc (x:=(⟨((r144 (⟨rooms,doors,ways⟩:Hs) (kv:Int) true).1).1,((r144 (⟨rooms,doors,ways⟩:Hs) (kv:Int) true).1).2.1,((r144 (⟨rooms,doors,ways⟩:Hs) (kv:Int) true).1).2.2.1,((r144 (⟨rooms,doors,ways⟩:Hs) (kv:Int) true).1).2.2.2.1,((r144 (⟨rooms,doors,ways⟩:Hs) (kv:Int) true).1).2.2.2.2.1,((r144 (⟨rooms,doors,ways⟩:Hs) (kv:Int) true).1).2.2.2.2.2⟩:Pg)) (hd2.trans ((if_neg h11).trans ((if_pos h29).trans (rfl))))
     rcases hy.step _ _ _ _ yy30.1 hI28 with ⟨S30,T30,k30,hI30,f30,w30⟩|⟨S30,T30,k30,hI30,f30,w30⟩
     ·replace k30:(evL Tryz.prog E0).round y #[.agg #[.int .i64 (((r144 (⟨rooms,doors,ways⟩:Hs) (kv:Int) true).1).1),.bool (((r144 (⟨rooms,doors,ways⟩:Hs) (kv:Int) true).1).2.1),.int .i64 (((r144 (⟨rooms,doors,ways⟩:Hs) (kv:Int) true).1).2.2.1),.int .i64 (((r144 (⟨rooms,doors,ways⟩:Hs) (kv:Int) true).1).2.2.2.1),.int .i64 (((r144 (⟨rooms,doors,ways⟩:Hs) (kv:Int) true).1).2.2.2.2.1),.int .i64 (((r144 (⟨rooms,doors,ways⟩:Hs) (kv:Int) true).1).2.2.2.2.2)]] S28=some (.bool true,S30):=k30
      have l30:=f30.1
      have cl30:=(List.getElem?_eq_some_iff.1 yy30.1).1
      have vh_30:=(f30.2 p_h (by omega) nt2_h).trans vh_28
      have nth_30:¬ T30 p_h:=w30.not (by omega) nt2_h
      have v5_30:=(f30.2 S2.next (by omega) nt5).trans v5_28
      have nt5_30:¬ T30 S2.next:=w30.not (by omega) nt5
      have v9_30:=(f30.2 S8.next (by omega) nt9).trans v9_28
      have nt9_30:¬ T30 S8.next:=w30.not (by omega) nt9
      have v27_30:=(f30.2 S26.next (by omega) nt27).trans b28
      have nt27_30:¬ T30 S26.next:=w30.not (by omega) nt27
      have g30:Off T0 S S30:=Off.trans g28 ww2 f30
      have ww30:Wider T0 S T30:=Wider.trans ww2 w30 (g28).1
      have w31:IntKind.i64.wrap (1+1)=2:=rfl
      try simp only [E0_G,SY,off,agreeKind,vals,ldA,rdCells,aggD,Nat.reduceAdd,Nat.reduceLT,Nat.reduceBEq,TY_EvH23,calledV_yield,firstOf_none,op_round,roundV_some,g2_0,b28,h29a,k30,w31] at he
      rw [L_loop_step] at he
      have w32:IntKind.i64.wrap ((kv:Int)+1)=((kv+1:Nat):Int):=by rw [IntWalk.i64_in]<;>omega
      try simp only [E0_G,SY,off,agreeKind,eq_self,if_true,Nat.reduceAdd,Nat.reduceLT,Nat.reduceBEq,Int.reduceLT,g2_11,w32] at he
      have hf:=yy30.2.trans (show _=(R148_0 rooms doors ways (ways.drop (kv+1)) (kv+1):List Pg) from rfl)
      refine .next he (m - 1) (by omega) ⟨(cI+1),T30,(kv+1),?_,?_,?_,?_,?_,?_,?_,vh_30,g30,by omega,hI30,ww30,nth_30,hf⟩<;>first|(simp only [SY,eq_self,Nat.reduceBEq,g2_0,g2_1,g2_10,g2_11]<;>rfl)|omega|assumption|assumption|exact Dm.set (by assumption) _ (by omega)|exact Hd.init _ _|exact Hd.at (by omega) (by assumption) (by omega) (by assumption)|exact (Hd.get (by assumption) (by assumption)).2.2.1|exact lget_set_ge (by assumption) (by omega) (by omega)|exact Dm.push (by assumption) (by decide)|exact Dm.nil|(simp; omega)|simp
     replace k30:(evL Tryz.prog E0).round y #[.agg #[.int .i64 (((r144 (⟨rooms,doors,ways⟩:Hs) (kv:Int) true).1).1),.bool (((r144 (⟨rooms,doors,ways⟩:Hs) (kv:Int) true).1).2.1),.int .i64 (((r144 (⟨rooms,doors,ways⟩:Hs) (kv:Int) true).1).2.2.1),.int .i64 (((r144 (⟨rooms,doors,ways⟩:Hs) (kv:Int) true).1).2.2.2.1),.int .i64 (((r144 (⟨rooms,doors,ways⟩:Hs) (kv:Int) true).1).2.2.2.2.1),.int .i64 (((r144 (⟨rooms,doors,ways⟩:Hs) (kv:Int) true).1).2.2.2.2.2)]] S28=some (.bool false,S30):=k30
     have l30:=f30.1
     have cl30:=(List.getElem?_eq_some_iff.1 yy30.1).1
     have vh_30:=(f30.2 p_h (by omega) nt2_h).trans vh_28
     have nth_30:¬ T30 p_h:=w30.not (by omega) nt2_h
     have v5_30:=(f30.2 S2.next (by omega) nt5).trans v5_28
     have nt5_30:¬ T30 S2.next:=w30.not (by omega) nt5
     have v9_30:=(f30.2 S8.next (by omega) nt9).trans v9_28
     have nt9_30:¬ T30 S8.next:=w30.not (by omega) nt9
     have v27_30:=(f30.2 S26.next (by omega) nt27).trans b28
     have nt27_30:¬ T30 S26.next:=w30.not (by omega) nt27
     have g30:Off T0 S S30:=Off.trans g28 ww2 f30
     have ww30:Wider T0 S T30:=Wider.trans ww2 w30 (g28).1
     try simp only [E0_G,SY,off,agreeKind,vals,ldA,rdCells,aggD,Nat.reduceAdd,Nat.reduceLT,Nat.reduceBEq,TY_EvH23,calledV_yield,firstOf_none,op_round,roundV_some,g2_0,b28,h29a,k30] at he
     exact .ret he (.inr ⟨rfl,cI,T30,_,yy30.1,hI30,g30,ww30⟩)
    have w33:IntKind.i64.wrap (1+1)=2:=rfl
    try simp only [E0_G,SY,off,agreeKind,Nat.reduceAdd,Nat.reduceLT,Nat.reduceBEq,h29a,w33] at he
    rw [L_loop_step] at he
    have w34:IntKind.i64.wrap ((kv:Int)+1)=((kv+1:Nat):Int):=by rw [IntWalk.i64_in]<;>omega
    try simp only [E0_G,SY,off,agreeKind,eq_self,if_true,Nat.reduceAdd,Nat.reduceLT,Nat.reduceBEq,Int.reduceLT,g2_11,w34] at he
    rw [drop_cons' (List.getElem?_eq_getElem (show kv<_ by omega))] at hd2
    have hf:=hd2.trans (show _=(R148_0 rooms doors ways (ways.drop (kv+1)) (kv+1):List Pg) from (if_neg h11).trans ((if_neg h29).trans (rfl)))
    refine .next he (m - 1) (by omega) ⟨cI,TI,(kv+1),?_,?_,?_,?_,?_,?_,?_,vh_28,g28,by omega,hI28,ww2,nt2_h,hf⟩<;>first|(simp only [SY,eq_self,Nat.reduceBEq,g2_0,g2_1,g2_10,g2_11]<;>rfl)|omega|assumption|assumption|exact Dm.set (by assumption) _ (by omega)|exact Hd.init _ _|exact Hd.at (by omega) (by assumption) (by omega) (by assumption)|exact (Hd.get (by assumption) (by assumption)).2.2.1|exact lget_set_ge (by assumption) (by omega) (by omega)|exact Dm.push (by assumption) (by decide)|exact Dm.nil|(simp; omega)|simp
   try simp only [SY,h3a] at he
   rw [List.drop_eq_nil_of_le (show ways.length≤kv by omega)] at hd2
   have hf:=hd2.trans (show _=([]:List Pg) from rfl)
   refine .exit he (.inl ⟨rfl,⟨cI,TI,kv,bb2_h,ga2,by omega,hI2,ww2,nt2_h,?_,?_,hf⟩⟩)<;>first|(simp only [SY,setArgs,off,agreeKind,partVals,vals,allocV,boxed,ldA,rdCells,oneB,aggD,aField,aFieldV,aExtract,eq_self,ne_eq,if_true,if_false,not_false_eq_true,Nat.reduceAdd,Nat.reduceSub,Nat.reduceMul,Nat.reduceLT,Nat.reduceEqDiff,Nat.reduceBEq,reduceIte,Int.reduceEq,Int.reduceLT,Int.reduceLE,reduceCtorEq,g2_0,g2_1,g2_10,g2_11]<;>rfl)|omega|assumption|assumption|exact Dm.set (by assumption) _ (by omega)|exact Hd.init _ _|exact Hd.at (by omega) (by assumption) (by omega) (by assumption)|exact (Hd.get (by assumption) (by assumption)).2.2.1|exact lget_set_ge (by assumption) (by omega) (by omega)|exact Dm.push (by assumption) (by decide)|exact Dm.nil|(simp; omega)|simp)
 rcases hQ2 with ⟨rfl,hQ2⟩|⟨rfl,hQ2⟩
 ·obtain ⟨cI,TI,kv,be2_h,ge2,gm2,hIe2,we2,nte2_h,hj2_0,hj2_1,hR2⟩:=hQ2
  try simp only [SY,eq_self,if_true] at hz
  have hc:cI=(r148 rooms doors ways).length:=Nat.le_antisymm (by omega) (drop_end hR2)
  exact ⟨S2e,TI,hz.symm,.inl (hc ▸ hIe2),ge2,we2⟩
 obtain ⟨cI,TI,bI,hb2,hJ2,ge2,we2⟩:=hQ2
 try simp only [SY] at hz
 exact ⟨S2e,TI,hz.symm,.inr ⟨cI,_,hb2,hJ2⟩,ge2,we2⟩
end House
end Go.Proofs
end
section
set_option linter.unusedSimpArgs false
set_option linter.unusedVariables false
namespace Go.Proofs
namespace House
open Go Go.RowKit Go.Aev
set_option maxRecDepth 100000
abbrev argsP:Pg→Array Value:=fun b=>#[Value.agg (cellsOf b).toArray]
def Yields (S:AS) (kf:FuncId) (cs ds:Array Value) (ys:List Pg):Prop :=
 ∀ (Sx:AS) (y:Nat) (I J:Nat→(Nat→Prop)→AS→Prop) (T0:Nat→Prop),Agree S Sx→(∀ id,T0 id→S.next≤id)→YieldS Tryz.prog E0 Sx y argsP ys I J→I 0 T0 Sx →
  ∃ S' T',(evL Tryz.prog E0).call kf (cs++#[.func (.yield y) #[] #[]]++ds) Sx=some (.tuple #[],S')∧(I ys.length T' S'∨∃ i b,ys[i]?=some b∧J i T' S')∧Off T0 Sx S'∧Wider T0 Sx T'
noncomputable def R147:Code × Code:=((Tryz.f147.body.bind findR).getD (.skip,.skip))
set_option maxHeartbeats 8000000 in
theorem rg147 (kf:FuncId) (cs ds:Array Value) (ys:List Pg) (hyl:ys.length≤1000000) (ho:∀ a S',E0.orc kf a S'=none) (S:AS) (t:T Value) (d:List Nat) (z:Option (X × St)) (S0:AS) (hit:Yields S0 kf cs ds ys) (ag0:Agree S0 S) (p2:Nat)
  (g2:t.get 2=some (.pointer (some ⟨p2,0,none⟩))) (g6:t.get 6=some (.func (.func kf) cs ds)) (h2:S.heap.get p2=some (.cells [.slice none 0 0] 134 0 true true)) (l2:p2<S.next) (l0:S0.next≤p2)
  (hz:evCode Tryz.prog E0 (evL Tryz.prog E0) none (.rangeFunc (.tmp 6) #[7] R147.1 R147.2) ⟨⟨t,13⟩,d,S⟩=z) :
  ∃ S' po' no' co',z=some (.normal,⟨⟨t,13⟩,S.next :: d,S'⟩)∧S.next<S'.next∧S'.heap.get p2=some (.cells [.slice po' no' co'] 134 0 true true)∧Own 137 (S.next+1) S' (.slice po' no' co') ys ∧
   S'.heap.get S.next=some (.dfd true)∧∀ q,q<S.next→q≠p2→S'.heap.get q=S.heap.get q:=by
 obtain ⟨x,S',rfl,hQ⟩:=range_met hz (k:=kf) (cs:=cs) (ds:=ds) g6 ho
  (fun x S'=>x=.normal∧∃ po' no' co',S.next<S'.next∧S'.heap.get p2=some (.cells [.slice po' no' co'] 134 0 true true)∧Own 137 (S.next+1) S' (.slice po' no' co') ys ∧
   S'.heap.get S.next=some (.dfd true)∧∀ q,q<S.next→q≠p2→S'.heap.get q=S.heap.get q)
  (by
   intro L0 S1 S2 e1 e2 hbg
   obtain rfl:=hbg.eq
   obtain ⟨Sx,ex1,nx1,bx1,ax1⟩:=push_open S (.dfd true)
   obtain rfl:Sx=S1:=ex1.symm.trans e1
   obtain ⟨Sy,ex2,nx2,bx2,ax2⟩:=push_open Sx (.loop ⟨.ready,none,t,13,#[7],R147.1,R147.2⟩)
   obtain rfl:Sy=S2:=ex2.symm.trans e2
   have ag:=ax1.trans ax2
   generalize hy:Sx.next=y at *
   have hys':y=S.next+1:=by omega
   have a01:=ag0.1
   have key:=hit Sy y (fun i T S'=>Sy.next≤S'.next∧i≤ys.length∧S'.heap.get y=some (.loop ⟨.ready,none,t,13,#[7],R147.1,R147.2⟩) ∧
     ∃ po' no' co',S'.heap.get p2=some (.cells [.slice po' no' co'] 134 0 true true)∧Own 137 Sy.next S' (.slice po' no' co') (ys.take i)∧T=fun id=>id=p2∨id=y∨blkOf (.slice po' no' co')=some id)
    (fun _ _ _=>False) (fun id=>id=p2∨id=y∨blkOf (.slice none 0 0)=some id) (ag0.trans ag) ?_ ?_ ?_
   ·obtain ⟨S3,T3,hc,hIJ,off3,_⟩:=key
    rcases hIJ with ⟨hn3,_,hy3,po',no',co',hp2,ow3,rfl⟩|⟨_,_,_,hF⟩
    case inr=>exact hF.elim
    refine ⟨_,S3,_,.normal,hc,hy3,by simp,rfl,rfl,po',no',co',?_,?_,?_,?_,?_⟩
    ·show S.next<S3.next; omega
    ·simp only [T.get_set]; rw [if_neg (by omega)]; exact hp2
    ·rw [List.take_length] at ow3
     have hlow:S.next+1≤Sy.next:=by omega
     refine Own.low (lo:=Sy.next) ?_ hlow
     refine ow3.frame (Nat.le_refl _) fun id hid hbk=>?_
     have:id≠y:=fun e=>ow3.ne (show y<Sy.next by omega) (by rw [← e]; exact hbk)
     simp only [T.get_set]; rw [if_neg this]
    ·simp only [T.get_set]; rw [if_neg (by omega)]
     exact (off3.2 S.next (by omega) (fun h=>h.elim (fun h=>by omega) fun h=>h.elim (fun h=>by omega) (fun h=>by simp [blkOf] at h))).trans ((ax2.2 S.next (by omega)).trans bx1)
    ·intro q hq h1
     simp only [T.get_set]; rw [if_neg (by omega)]
     exact (off3.2 q (by omega) (fun h=>h.elim h1 fun h=>h.elim (fun h=>by omega) (fun h=>by simp [blkOf] at h))).trans (ag.2 q hq)
   ·rintro q (h|h|h)
    ·omega
    ·omega
    ·simp [blkOf] at h
   ·refine ⟨?_,?_,?_⟩
    ·rintro i T S' ⟨hn',_,_,po',no',co',_,ow',rfl⟩ id (rfl|rfl|hid)
     ·omega
     ·omega
     ·exact ow'.lt hid
    ·rintro i T S' S'' ⟨hn',hi,hy',po',no',co',h9',ow',rfl⟩ hle hk
     exact ⟨by omega,hi,(hk y (by omega) (.inl (.inr (.inl rfl)))).trans hy',po',no',co',(hk p2 (by omega) (.inl (.inl rfl))).trans h9',ow'.frame hle (fun id hid hb=>hk id hid (.inl (.inr (.inr hb)))),rfl⟩
    ·rintro i T S' b hbi ⟨hn',hi,hy',po',no',co',h9',ow',rfl⟩
     left
     have hi2:i<ys.length:=(List.getElem?_eq_some_iff.1 hbi).1
     have htk:ys.take (i+1)=ys.take i++[b]:=by rw [List.take_add_one,hbi]; simp
     rw [htk]
     have hlen:(ys.take i).length≤1000000:=by rw [List.length_take]; omega
     generalize ys.take i=L at *
     have hny:blkOf (.slice po' no' co')≠some y:=ow'.ne (by omega)
     have hn3:blkOf (.slice po' no' co')≠some p2:=ow'.ne (by omega)
     obtain ⟨S4,rr1,T',rr2,rr3,rr4⟩:=round_run (P:=Tryz.prog) (E:=E0) (l:=y) (b:=Value.agg (cellsOf b).toArray) (show 7<13 by decide) hy' (Q:=fun S4=>∃ T':Nat→Prop,(Sy.next≤S4.next∧i+1≤ys.length∧S4.heap.get y=some (.loop ⟨.ready,none,t,13,#[7],R147.1,R147.2⟩) ∧
      ∃ po' no' co',S4.heap.get p2=some (.cells [.slice po' no' co'] 134 0 true true)∧Own 137 Sy.next S4 (.slice po' no' co') (L++[b])∧T'=fun id=>id=p2∨id=y∨blkOf (.slice po' no' co')=some id) ∧
       Off (fun id=>id=p2∨id=y∨blkOf (.slice po' no' co')=some id) S' S4∧Wider (fun id=>id=p2∨id=y∨blkOf (.slice po' no' co')=some id) S' T') (by
      intro zA hA
      change evCode _ _ _ _ (Code.region 2 _ _) ⟨⟨t.set 7 (some (.agg #[.int .i64 b.way,.bool b.back,.int .i64 b.fr,.int .i64 b.to,.int .i64 b.secs,.int .i64 b.door])),13⟩,[],S'⟩=_ at hA
      obtain ⟨S5,e5,n5,b5,a5⟩:=push_open S' (.cells [.int .i64 0,.bool false,.int .i64 0,.int .i64 0,.int .i64 0,.int .i64 0] 137 0 true true)
      obtain ⟨S6,e6,n6,b6,q6⟩:=st_at (P:=Tryz.prog) (o:=0) (c':=[.int .i64 b.way,.bool b.back,.int .i64 b.fr,.int .i64 b.to,.int .i64 b.secs,.int .i64 b.door]) (v:=.agg #[.int .i64 b.way,.bool b.back,.int .i64 b.fr,.int .i64 b.to,.int .i64 b.secs,.int .i64 b.door]) tz137 b5 rfl rfl (show 0+6≤6 by decide) rfl
      simp (disch:=first|omega|assumption) only [E0_G,SY,setArgs,off,agreeKind,partVals,vals,allocV,boxed,ldA,rdCells,oneB,aggD,aField,aFieldV,aExtract,eq_self,ne_eq,if_true,if_false,not_false_eq_true,Nat.reduceAdd,Nat.reduceSub,Nat.reduceMul,Nat.reduceLT,Nat.reduceEqDiff,Nat.reduceBEq,reduceIte,Int.reduceEq,Int.reduceLT,Int.reduceLE,reduceCtorEq,TY_EvH23,e5,e6] at hA
      refine ⟨_,S6,hA.symm,?_,?_⟩
      ·exact (q6 y (by omega)).trans ((a5.2 y (by omega)).trans hy')
      intro S7 n7 b7 q7 zB hB
      change evCode _ _ _ _ (Code.block 1 (Code.region 3 _ _)) _=_ at hB
      have u3:S7.heap.get p2=some (.cells [.slice po' no' co'] 134 0 true true):=(q7 p2 (by omega)).trans ((q6 p2 (by omega)).trans ((a5.2 p2 (by omega)).trans h9'))
      have u6:S7.heap.get S'.next=some (.cells [.int .i64 b.way,.bool b.back,.int .i64 b.fr,.int .i64 b.to,.int .i64 b.secs,.int .i64 b.door] 137 0 true true):=(q7 S'.next (by omega)).trans b6
      have ow7:Own 137 Sy.next S7 (.slice po' no' co') L:=ow'.frame (by omega) fun id hid hbk=>(q7 id (fun e=>hny (by rw [← e]; exact hbk))).trans ((q6 id (by omega)).trans (a5.2 id hid))
      obtain ⟨S8,e8,n8,b8,a8⟩:=push_open S7 (.cells [.int .i64 b.way,.bool b.back,.int .i64 b.fr,.int .i64 b.to,.int .i64 b.secs,.int .i64 b.door] 137 6 true true)
      have o8:Own 137 S7.next S8 (.slice (some ⟨S7.next,0,none⟩) 1 1) ([b]:List Pg):=.inr ⟨_,true,rfl,Nat.le_refl _,by omega,b8⟩
      obtain ⟨u,S9,k9,o9,n9,f9,d9⟩:=own_append (P:=Tryz.prog) (t:=134) (tx:=134) (n:=5) (v:=.slice po' no' co') (ow7.agree a8) o8.rows (by omega) (by omega) (by simp) Tryz.underlying134 Tryz.underlying134 ti137 tv137 rfl tz137
      obtain ⟨pu,nu,cu,rfl⟩:=own_slice o9
      have v3:S9.heap.get p2=some (.cells [.slice po' no' co'] 134 0 true true):=(f9 p2 (by omega) hn3).trans ((a8.2 p2 (by omega)).trans u3)
      obtain ⟨S10,k10,n10,b10,q10⟩:=st_at (P:=Tryz.prog) (o:=0) (c':=[.slice pu nu cu]) (v:=.slice pu nu cu) tz134 v3 rfl rfl (show 0+1≤1 by decide) rfl
      have d3:=d9 p2 (by omega) hn3
      have y8:aBuildSlice Tryz.prog 134 1 [(0,.agg #[.int .i64 b.way,.bool b.back,.int .i64 b.fr,.int .i64 b.to,.int .i64 b.secs,.int .i64 b.door])] S7=some (.slice (some ⟨S7.next,0,none⟩) 1 1,S7.push (.cells [.int .i64 b.way,.bool b.back,.int .i64 b.fr,.int .i64 b.to,.int .i64 b.secs,.int .i64 b.door] 137 6 true true)):=by kernel_rfl
      simp (disch:=first|omega|assumption) only [E0_G,SY,setArgs,off,agreeKind,partVals,vals,allocV,boxed,ldA,rdCells,oneB,aggD,aField,aFieldV,aExtract,eq_self,ne_eq,if_true,if_false,not_false_eq_true,Nat.reduceAdd,Nat.reduceSub,Nat.reduceMul,Nat.reduceLT,Nat.reduceEqDiff,Nat.reduceBEq,reduceIte,Int.reduceEq,Int.reduceLT,Int.reduceLE,reduceCtorEq,TY_EvH23,g2,u3,u6,y8,e8,k9,k10] at hB
      have dy:=d9 y (by omega) hny
      refine ⟨_,_,S10,hB.symm,(q10 y (by omega)).trans ((f9 y (by omega) hny).trans ((a8.2 y (by omega)).trans b7)),?_⟩
      intro S11 n11 b11 q11
      refine ⟨_,⟨by omega,by omega,b11,pu,nu,cu,(q11 p2 (by omega)).trans b10,?_,rfl⟩,?_,?_⟩
      ·exact o9.frame (by omega) fun id hid hbk=>(q11 id (fun e=>dy (by rw [← e]; exact hbk))).trans (q10 id (fun e=>d3 (by rw [← e]; exact hbk)))
      ·exact ⟨by omega,fun id hid hT=>(q11 id (fun e=>hT (.inr (.inl e)))).trans ((q10 id (fun e=>hT (.inl e))).trans ((f9 id (by omega) (fun h=>hT (.inr (.inr h)))).trans ((a8.2 id (by omega)).trans ((q7 id (fun e=>hT (.inr (.inl e)))).trans ((q6 id (by omega)).trans (a5.2 id hid))))))⟩
      ·intro id hT
       refine hT.elim (fun h=>.inl (.inl h)) fun h=>h.elim (fun h=>.inl (.inr (.inl h))) fun h=>?_
       by_cases hid:id<S'.next
       ·by_cases ho':blkOf (.slice po' no' co')=some id
        ·exact .inl (.inr (.inr ho'))
        ·exact absurd h (d9 id (by omega) ho')
       ·exact .inr (by omega))
     exact ⟨S4,T',rr1,rr2,rr3,rr4⟩
   ·exact ⟨Nat.le_refl _,Nat.zero_le _,bx2,none,0,0,(ag.2 p2 l2).trans h2,Own.nil _ _ _,rfl⟩)
 obtain ⟨rfl,po',no',co',q1,q2,q3,q4,q5⟩:=hQ
 exact ⟨S',po',no',co',rfl,q1,q2,q3,q4,q5⟩
set_option maxHeartbeats 4000000 in
theorem c147 (kf:FuncId) (cs ds:Array Value) (ys:List Pg) (hyl:ys.length≤1000000) (ho:∀ a S',E0.orc kf a S'=none) (S:AS) (hit:Yields S kf cs ds ys) :
  ∃ v S',(evL Tryz.prog E0).call 147 #[.slice none 0 0,.func (.func kf) cs ds] S=some (v,S')∧Agree S S'∧Own 137 S.next S' v ys:=by
 generalize hz:(evL Tryz.prog E0).call 147 _ _=z
 rw [L_call,evCall_said rfl Tryz.func147 rfl (by decide) Tryz.ntmps147 Tryz.results147] at hz
 obtain ⟨S1,e1,n1,b1,a1⟩:=push_open S (.cells [.slice none 0 0] 134 0 true true)
 simp (disch:=first|omega|assumption) only [E0_G,SY,setArgs,off,agreeKind,partVals,vals,allocV,boxed,ldA,rdCells,oneB,aggD,aField,aFieldV,aExtract,eq_self,ne_eq,if_true,if_false,not_false_eq_true,Nat.reduceAdd,Nat.reduceSub,Nat.reduceMul,Nat.reduceLT,Nat.reduceEqDiff,Nat.reduceBEq,reduceIte,Int.reduceEq,Int.reduceLT,Int.reduceLE,reduceCtorEq,TY_EvH23,e1] at hz
 generalize hR:evCode Tryz.prog E0 (evL Tryz.prog E0) none (.rangeFunc _ _ _ _) _=R at hz
 obtain ⟨S2,po,no,co,rfl,n2,b2,o2,t2,f2⟩:=rg147 kf cs ds ys hyl ho S1 _ _ _ S hit a1 S.next (by simp only [SY,setArgs,off,agreeKind,partVals,vals,allocV,boxed,ldA,rdCells,oneB,aggD,aField,aFieldV,aExtract,eq_self,ne_eq,if_true,if_false,not_false_eq_true,Nat.reduceAdd,Nat.reduceSub,Nat.reduceMul,Nat.reduceLT,Nat.reduceEqDiff,Nat.reduceBEq,reduceIte,Int.reduceEq,Int.reduceLT,Int.reduceLE,reduceCtorEq]<;>rfl) (by simp only [SY,setArgs,off,agreeKind,partVals,vals,allocV,boxed,ldA,rdCells,oneB,aggD,aField,aFieldV,aExtract,eq_self,ne_eq,if_true,if_false,not_false_eq_true,Nat.reduceAdd,Nat.reduceSub,Nat.reduceMul,Nat.reduceLT,Nat.reduceEqDiff,Nat.reduceBEq,reduceIte,Int.reduceEq,Int.reduceLT,Int.reduceLE,reduceCtorEq]<;>rfl) b1 (by omega) (Nat.le_refl _) hR
 simp (disch:=first|omega|assumption) only [E0_G,SY,setArgs,off,agreeKind,partVals,vals,allocV,boxed,ldA,rdCells,oneB,aggD,aField,aFieldV,aExtract,eq_self,ne_eq,if_true,if_false,not_false_eq_true,Nat.reduceAdd,Nat.reduceSub,Nat.reduceMul,Nat.reduceLT,Nat.reduceEqDiff,Nat.reduceBEq,reduceIte,Int.reduceEq,Int.reduceLT,Int.reduceLE,reduceCtorEq,TY_EvH23,b2] at hz
 obtain ⟨S3,k3,n3,q3⟩:=take1 t2
 rw [handed_take k3] at hz
 simp (disch:=first|omega|assumption) only [E0_G,SY,setArgs,off,agreeKind,partVals,vals,allocV,boxed,ldA,rdCells,oneB,aggD,aField,aFieldV,aExtract,eq_self,ne_eq,if_true,if_false,not_false_eq_true,Nat.reduceAdd,Nat.reduceSub,Nat.reduceMul,Nat.reduceLT,Nat.reduceEqDiff,Nat.reduceBEq,reduceIte,Int.reduceEq,Int.reduceLT,Int.reduceLE,reduceCtorEq,TY_EvH23,b2] at hz
 have hn:blkOf (.slice po no co)≠some S1.next:=o2.ne (by omega)
 refine ⟨_,S3,hz.symm,⟨by omega,fun id hid=>(q3 id (by omega)).trans ((f2 id (by omega) (by omega)).trans (a1.2 id hid))⟩,?_⟩
 exact (o2.frame (by omega) fun id hid hb=>q3 id (fun e=>hn (by rw [← e]; exact hb))).low (by omega)
set_option maxHeartbeats 4000000 in
theorem c107 (kf:FuncId) (cs ds:Array Value) (ys:List Pg) (hyl:ys.length≤1000000) (ho:∀ a S',E0.orc kf a S'=none) (S:AS) (hit:Yields S kf cs ds ys) :
  ∃ v S',(evL Tryz.prog E0).call 107 #[.func (.func kf) cs ds] S=some (v,S')∧Agree S S'∧Own 137 S.next S' v ys:=by
 generalize hz:(evL Tryz.prog E0).call 107 _ _=z
 rw [L_call,evCall_said rfl Tryz.func107 rfl (by decide) Tryz.ntmps107 Tryz.results107] at hz
 obtain ⟨v,S1,k1,a1,o1⟩:=c147 kf cs ds ys hyl ho S hit
 simp (disch:=first|omega|assumption) only [E0_G,SY,setArgs,off,agreeKind,partVals,vals,allocV,boxed,ldA,rdCells,oneB,aggD,aField,aFieldV,aExtract,eq_self,ne_eq,if_true,if_false,not_false_eq_true,Nat.reduceAdd,Nat.reduceSub,Nat.reduceMul,Nat.reduceLT,Nat.reduceEqDiff,Nat.reduceBEq,reduceIte,Int.reduceEq,Int.reduceLT,Int.reduceLE,reduceCtorEq,TY_EvH23,k1] at hz
 exact ⟨v,S1,hz.symm,a1,o1⟩
set_option maxHeartbeats 4000000 in
theorem c108 (v0 v1 v2:Value) (S:AS):∃ S',(evL Tryz.prog E0).call 108 #[.agg #[v0,v1,v2]] S=some (.func (.func 148) #[] #[.pointer (some ⟨S.next,0,none⟩)],S')∧Agree S S'∧S'.next=S.next+1∧S'.heap.get S.next=some (.cells [v0,v1,v2] 26 0 true true):=by
 obtain ⟨S1,e1,n1,b1,a1⟩:=push_open S (.cells [v0,v1,v2] 26 0 true true)
 refine ⟨S1,?_,a1,by omega,b1⟩
 rw [L_call,evCall_said rfl Tryz.func108 rfl (by decide) Tryz.ntmps108 Tryz.results108]
 simp (disch:=first|omega|assumption) only [E0_G,SY,setArgs,off,agreeKind,partVals,vals,allocV,boxed,ldA,rdCells,oneB,aggD,aField,aFieldV,aExtract,eq_self,ne_eq,if_true,if_false,not_false_eq_true,Nat.reduceAdd,Nat.reduceSub,Nat.reduceMul,Nat.reduceLT,Nat.reduceEqDiff,Nat.reduceBEq,reduceIte,Int.reduceEq,Int.reduceLT,Int.reduceLE,reduceCtorEq,e1,op_makeFunc1]
theorem R148_len (rooms:List Rm) (doors:List Dr) (ways:List Wy):∀ (m:List Wy) (k:Nat),(R148_0 rooms doors ways m k).length≤2 * m.length:=by
 intro m
 induction m with
 | nil=>intro k; simp [R148_0]
 | cons w m ih =>
  intro k
  have:=ih (k+1)
  rw [R148_0]
  split
  ·split<;>simp only [List.length_cons]<;>omega
  ·split<;>simp only [List.length_cons]<;>omega
def psg (h:Hs):List Pg:=r148 h.rooms h.doors h.ways
theorem psg_len (h:Hs):(psg h).length≤2 * h.ways.length:=R148_len _ _ _ _ _
theorem yields (h:Hs) (hw:h.ways.length≤70) (S:AS) (p:Nat) (v0 v1 v2:Value) (hp:S.heap.get p=some (.cells [v0,v1,v2] 26 0 true true)) (lp:p<S.next) (h0:LstR S v0 h.rooms) (h1:LstR S v1 h.doors) (h2:Lst S v2 h.ways) :
  Yields S 148 #[] #[.pointer (some ⟨p,0,none⟩)] (psg h):=by
 intro Sx y I J T0 ha hT hy hI
 exact it148 h.rooms h.doors h.ways hw Sx y I J T0 hy hI S ha hT v0 h0 v1 h1 v2 h2 p ((ha.2 p lp).trans hp) (by have:=ha.1; omega) (fun h=>by have:=hT p h; omega)
end House
end Go.Proofs
end
section
set_option linter.unusedSimpArgs false
set_option linter.unusedVariables false
namespace Go.Proofs
namespace House
open Go Go.RowKit Go.Aev
set_option maxRecDepth 100000
theorem tz57:szOf Tryz.prog 57=some 2:=by kernel_rfl
theorem tt57:inTab Tryz.prog 57=true:=by kernel_rfl
theorem t0_57:zeroOf Tryz.prog 57=some (.agg #[.slice none 0 0,.int .i64 0]):=by kernel_rfl
theorem tz58:szOf Tryz.prog 58=some 2:=by kernel_rfl
theorem tt58:inTab Tryz.prog 58=true:=by kernel_rfl
theorem t0_58:zeroOf Tryz.prog 58=some (.agg #[.slice none 0 0,.int .i64 0]):=by kernel_rfl
theorem TY_EvH25:type_of% (And.intro TY_EvH23 (And.intro (And.intro (And.intro Tryz.underlying57 tz57) (And.intro tt57 t0_57)) (And.intro (And.intro Tryz.underlying58 tz58) (And.intro tt58 t0_58)))):=(And.intro TY_EvH23 (And.intro (And.intro (And.intro Tryz.underlying57 tz57) (And.intro tt57 t0_57)) (And.intro (And.intro Tryz.underlying58 tz58) (And.intro tt58 t0_58))))
structure OkQ (h:Hs) (p:Pg):Prop where
 ok:OkP h p
 f:0≤p.fr∧p.fr<(h.rooms.length:Int)
 t:0≤p.to∧p.to<(h.rooms.length:Int)
 p:p.back=true→0<p.secs
theorem R148_mem (h:Hs):∀ (m:List Wy) (k:Nat),m.length+k=h.ways.length→∀ p ∈ R148_0 h.rooms h.doors h.ways m k,∃ (w:Int) (b:Bool),0≤w∧w<h.ways.length∧(r144 h w b).2=true∧p=⟨(r144 h w b).1.1,(r144 h w b).1.2.1,(r144 h w b).1.2.2.1,(r144 h w b).1.2.2.2.1,(r144 h w b).1.2.2.2.2.1,(r144 h w b).1.2.2.2.2.2⟩:=by
 intro m
 induction m with
 | nil=>intro k _ p hp; simp [R148_0] at hp
 | cons w m ih =>
  intro k hk p hp
  have ih:=ih (k+1) (by simp only [List.length_cons] at hk; omega) p
  have hk:k<h.ways.length:=by simp only [List.length_cons] at hk; omega
  rw [R148_0] at hp
  split at hp
  ·rcases List.mem_cons.1 hp with rfl|hp
   ·exact ⟨k,false,by omega,by omega,by assumption,rfl⟩
   ·split at hp
    ·rcases List.mem_cons.1 hp with rfl|hp
     ·exact ⟨k,true,by omega,by omega,by assumption,rfl⟩
     ·exact ih hp
    ·exact ih hp
  ·split at hp
   ·rcases List.mem_cons.1 hp with rfl|hp
    ·exact ⟨k,true,by omega,by omega,by assumption,rfl⟩
    ·exact ih hp
   ·exact ih hp
theorem psg_ok {h:Hs} (hV:r59 h=0) {p:Pg} (hp:p ∈ psg h):OkQ h p:=by
 obtain ⟨w,b,h1,h2,h3,rfl⟩:=R148_mem h h.ways 0 (by simp) p hp
 have q:=r144_ok (b:=b) hV ⟨h1,h2⟩
 have k:=okw_at hV (n:=w) ⟨h1,h2⟩
 have k4:=k.a; have k5:=k.b
 refine ⟨⟨hV,⟨q.1,q.2.1⟩,q.2.2⟩,?_,?_,?_⟩
 ·unfold r144; split<;>(simp only; omega)
 ·unfold r144; split<;>(simp only; omega)
 ·unfold r144 at h3 ⊢
  split
  ·rename_i hb; rw [if_pos hb] at h3; intro _; simpa using h3
  ·intro hb; simp at hb
theorem r145_ge {h:Hs} {p:Pg} (hP:OkP h p) {t:Int} (ht:0≤t∧t≤1073741823):t≤r145 p t h∧r145 p t h≤1073741824:=by
 have hs:=hP.s; have hd:=hP.d
 unfold r145
 split
 ·have:=r89_ge (oko hP.v (List.mem_of_getElem? (lget_some (l:=h.doors) (i:=Int.toNat p.door) (by omega)))) ht
  omega
 ·omega
theorem hc145 {h:Hs} (hV:r59 h=0) {S:AS} {p:Nat} {v0 v1 v2:Value} (hp:S.heap.get p=some (.cells [v0,v1,v2] 26 0 true true)) (lp:p<S.next) (h0:LstR S v0 h.rooms) (h1:LstR S v1 h.doors) (h2:Lst S v2 h.ways) :
  ∀ S',Agree S S'→∀ (x:Pg) (t:Int),x ∈ psg h→0≤t∧t≤1073741823→∃ S'',(evL Tryz.prog E0).call 145 (#[]++#[.agg (cellsOf x).toArray,.int .i64 t]++#[.pointer (some ⟨p,0,none⟩)]) S'=some (.int .i64 (r145 x t h),S'')∧Agree S' S'' :=
 fun S' ha x t hx ht=>c145 x t h (psg_ok hV hx).ok ht S' v0 (h0.agree ha) v1 (h1.agree ha) v2 (h2.agree ha) p ((ha.2 p lp).trans hp) (by have:=ha.1; omega)
theorem rooms_pos {h:Hs} (hV:r59 h=0):0<h.rooms.length:=(valid_parts hV).2.2.2.2.2
theorem psg_hp {h:Hs} (hV:r59 h=0):∀ p ∈ psg h,0≤p.fr∧p.fr<(h.rooms.length:Int)∧0≤p.to∧p.to<(h.rooms.length:Int):=fun p hp=>⟨(psg_ok hV hp).f.1,(psg_ok hV hp).f.2,(psg_ok hV hp).t.1,(psg_ok hV hp).t.2⟩
theorem psg_hg {h:Hs} (hV:r59 h=0):∀ p ∈ psg h,∀ t,0≤t∧t≤1073741823→0≤(fun (p:Pg) (t:Int)=>r145 p t h) p t∧(fun (p:Pg) (t:Int)=>r145 p t h) p t≤1073741824:=fun p hp t ht=>by have:=r145_ge (psg_ok hV hp).ok ht; simp only; omega
theorem r104_ok {h:Hs} {k t:Int} (e:r104 h k t=0):r59 h=0∧0≤k∧k<(h.rooms.length:Int)∧0≤t∧t≤1073741823:=by
 unfold r104 at e
 split at e
 ·rename_i h1
  split at e
  ·rename_i h2
   split at e
   ·rename_i h3
    have h2:0≤k∧k<(h.rooms.length:Int):=by
     unfold r122 at h2
     have:=r71_iff.1 h2; omega
    have h3:=r69_iff.1 h3
    exact ⟨h1,h2.1,h2.2,h3.1,h3.2⟩
   ·cases e
  ·cases e
 ·rename_i h1; exact absurd e h1
def r114 (h:Hs) (fr:Int) (ti:Int):(List Int × List Int) × List Pg:=((((r109 h.rooms.length fr ti (psg h:List Pg) (fun (p:Pg) (t:Int)=>r145 p t h)).1),((r109 h.rooms.length fr ti (psg h:List Pg) (fun (p:Pg) (t:Int)=>r145 p t h)).2)),psg h)
set_option maxHeartbeats 8000000 in
theorem c114 (h:Hs) (fr:Int) (ti:Int) (hF:Few h) (hV:r59 h=0) (hf:0≤fr∧fr<(h.rooms.length:Int)) (ht:0≤ti∧ti≤1073741823) (S:AS) (v_h_rooms:Value) (hv_h_rooms:LstR S v_h_rooms h.rooms) (v_h_doors:Value) (hv_h_doors:LstR S v_h_doors h.doors) (v_h_ways:Value) (hv_h_ways:Lst S v_h_ways h.ways) :
  ∃ v'0 v'1 v'2 S',(evL Tryz.prog E0).call 114 #[.agg #[v_h_rooms,v_h_doors,v_h_ways],.int .i64 fr,.int .i64 ti] S=some (.tuple #[.agg #[v'0,v'1],v'2],S')∧Agree S S'∧Own 3 S.next S' v'0 ((r114 h fr ti).1.1)∧Own 3 S.next S' v'1 ((r114 h fr ti).1.2)∧Own 137 S.next S' v'2 (r114 h fr ti).2∧(∀ b,blkOf v'0=some b→blkOf v'1≠some b)∧(∀ b,blkOf v'0=some b→blkOf v'2≠some b)∧(∀ b,blkOf v'1=some b→blkOf v'2≠some b):=by
 have qr:=hF.r; have qd:=hF.d; have qw:=hF.w
 generalize hz:(evL Tryz.prog E0).call 114 _ _=z
 rw [L_call,evCall_said rfl Tryz.func114 rfl (by decide) Tryz.ntmps114 Tryz.results114] at hz
 obtain ⟨S1,e1,n1,b1,a1⟩:=push_open S (.cells [v_h_rooms,v_h_doors,v_h_ways] 26 0 true true)
 have g1:Agree S S1:=a1
 have s1:E0.same S S1=true:=symEnv_same a1
 obtain ⟨S2,e2,n2,b2,a2⟩:=push_open S1 (.cells [.slice none 0 0,.slice none 0 0] 142 0 true true)
 have v1_2:=(a2.2 S.next (by omega)).trans b1
 have g2:Agree S S2:=g1.trans a2
 have s2:E0.same S1 S2=true:=symEnv_same a2
 obtain ⟨S3,k3,a3,n3,b3⟩:=c108 (v_h_rooms) (v_h_doors) (v_h_ways) S2
 have l3:=a3.1
 have s3:E0.same S2 S3=true:=symEnv_same a3
 have v1_3:=(a3.2 S.next (by omega)).trans v1_2
 have v2_3:=(a3.2 S1.next (by omega)).trans b2
 have g3:Agree S S3:=g2.trans a3
 obtain ⟨u4,S4,k4,a4,oo4⟩:=c107 148 #[] #[.pointer (some ⟨S2.next,0,none⟩)] (psg h) (by have:=psg_len h; omega) (fun a S'=>rfl) S3 (yields h (by omega) S3 S2.next _ _ _ b3 (by omega) (hv_h_rooms.agree g3) (hv_h_doors.agree g3) (hv_h_ways.agree g3))
 have l4:=a4.1
 obtain ⟨pu4,nu4,cu4,rfl⟩:=own_slice oo4
 have s4:E0.same S3 S4=true:=symEnv_same a4
 have v1_4:=(a4.2 S.next (by omega)).trans v1_3
 have v2_4:=(a4.2 S1.next (by omega)).trans v2_3
 have g4:Agree S S4:=g3.trans a4
 try simp only [E0_G,SY,setArgs,off,agreeKind,vals,allocV,boxed,ldA,rdCells,aggD,Nat.reduceAdd,Nat.reduceSub,Nat.reduceLT,Nat.reduceBEq,TY_EvH25,e1,v1_2,e2,k3,k4] at hz
 rw [code_draws _ _ _ (by kernel_rfl)] at hz
 generalize hnd5:needy _=nd5 at hz
 have nn5_10:nd5 10=false:=by rw [← hnd5]; kernel_rfl
 have w6:=(hv_h_rooms.agree g4).len (P:=Tryz.prog) (t:=22) Tryz.underlying22
 obtain ⟨S7,k7,a7,n7,b7⟩:=c97 (v_h_rooms) (v_h_doors) (v_h_ways) S4
 have l7:=a7.1
 have s7:E0.same S4 S7=true:=symEnv_same a7
 have v2_7:=(a7.2 S1.next (by omega)).trans v2_4
 have o4_8:=oo4.agree a7
 have g7:Agree S S7:=g4.trans a7
 obtain ⟨u9_0,u9_1,S9,k9,a9,oo9_0,oo9_1,ab9_0_1⟩:=c109 h.rooms.length fr ti (psg h:List Pg) (fun (p:Pg) (t:Int)=>r145 p t h) ⟨rooms_pos hV,by omega⟩ (by omega) (by omega) (by have:=psg_len h; omega) (psg_hp hV) (psg_hg hV) S7 (.slice pu4 nu4 cu4) (o4_8.rows) 145 #[] #[.pointer (some ⟨S4.next,0,none⟩)] (hc145 hV b7 (by omega) (hv_h_rooms.agree g7) (hv_h_doors.agree g7) (hv_h_ways.agree g7))
 obtain ⟨pu9_0,nu9_0,cu9_0,rfl⟩:=own_slice oo9_0
 have ap10:∀ b,blkOf (.slice pu4 nu4 cu4)=some b→blkOf (.slice pu9_0 nu9_0 cu9_0)≠some b:=fun b hb=>oo9_0.ne (Nat.lt_of_lt_of_le (o4_8.lt hb) (by omega))
 obtain ⟨pu9_1,nu9_1,cu9_1,rfl⟩:=own_slice oo9_1
 have ap11:∀ b,blkOf (.slice pu4 nu4 cu4)=some b→blkOf (.slice pu9_1 nu9_1 cu9_1)≠some b:=fun b hb=>oo9_1.ne (Nat.lt_of_lt_of_le (o4_8.lt hb) (by omega))
 have l9:=a9.1
 have s9:E0.same S7 S9=true:=symEnv_same a9
 have v2_9:=(a9.2 S1.next (by omega)).trans v2_7
 have o4_12:=o4_8.agree a9
 have g9:Agree S S9:=g7.trans a9
 obtain ⟨S13,k13,n13,b13,q13⟩:=st_at (o:=0) (c':=[.slice pu9_0 nu9_0 cu9_0,.slice pu9_1 nu9_1 cu9_1]) (v:=.agg #[.slice pu9_0 nu9_0 cu9_0,.slice pu9_1 nu9_1 cu9_1]) tz142 v2_9 rfl rfl (show 0+2≤2 by decide) rfl
 have o4_14:=o4_12.frame (by omega) (fun id hid hb=>q13 id (fun e=>(show blkOf (.slice pu4 nu4 cu4)≠some S1.next from by first|exact o4_12.ne (by omega)|exact o4_12.new (by omega)|assumption) (e ▸ hb)))
 have o9_15:=oo9_0.frame (by omega) (fun id hid hb=>q13 id (fun e=>(show blkOf (.slice pu9_0 nu9_0 cu9_0)≠some S1.next from by first|exact oo9_0.ne (by omega)|exact oo9_0.new (by omega)|assumption) (e ▸ hb)))
 have o9_16:=oo9_1.frame (by omega) (fun id hid hb=>q13 id (fun e=>(show blkOf (.slice pu9_1 nu9_1 cu9_1)≠some S1.next from by first|exact oo9_1.ne (by omega)|exact oo9_1.new (by omega)|assumption) (e ▸ hb)))
 have g13:Agree S S13:=⟨by have:=(g9).1; omega,fun id hid=>(q13 id (by have:=(g9).1; omega)).trans ((g9).2 id hid)⟩
 try simp (disch:=first|omega|assumption) only [E0_G,SY,agreeKind,vals,ldA,rdCells,aggD,aField,Nat.reduceAdd,Nat.reduceLT,Nat.reduceBEq,TY_EvH25,v1_4,nn5_10,store_agree,store_refl E0_same,w6,k7,k9,k13,b13] at hz
 have hr:r114 h fr ti=((((r109 h.rooms.length fr ti (psg h:List Pg) (fun (p:Pg) (t:Int)=>r145 p t h)).1),((r109 h.rooms.length fr ti (psg h:List Pg) (fun (p:Pg) (t:Int)=>r145 p t h)).2)),psg h):=rfl
 exact ⟨.slice pu9_0 nu9_0 cu9_0,.slice pu9_1 nu9_1 cu9_1,.slice pu4 nu4 cu4,S13,by first|(rw [hr]; exact hz.symm)|exact hz.symm,g13,by rw [hr]; exact o9_15.low (by omega),by rw [hr]; exact o9_16.low (by omega),by rw [hr]; exact o4_14.low (by omega),ab9_0_1,(fun b h1 h2=>ap10 b h2 h1),(fun b h1 h2=>ap11 b h2 h1)⟩
def r106 (h:Hs) (fr:Int) (ti:Int):List Int:=((r114 h fr ti).1.1)
set_option maxHeartbeats 8000000 in
theorem c106 (h:Hs) (fr:Int) (ti:Int) (hF:Few h) (hV:r59 h=0) (hf:0≤fr∧fr<(h.rooms.length:Int)) (ht:0≤ti∧ti≤1073741823) (S:AS) (v_h_rooms:Value) (hv_h_rooms:LstR S v_h_rooms h.rooms) (v_h_doors:Value) (hv_h_doors:LstR S v_h_doors h.doors) (v_h_ways:Value) (hv_h_ways:Lst S v_h_ways h.ways) :
  ∃ v' S',(evL Tryz.prog E0).call 106 #[.agg #[v_h_rooms,v_h_doors,v_h_ways],.int .i64 fr,.int .i64 ti] S=some (v',S')∧Agree S S'∧Own 3 S.next S' v' (r106 h fr ti):=by
 have qr:=hF.r; have qd:=hF.d; have qw:=hF.w
 generalize hz:(evL Tryz.prog E0).call 106 _ _=z
 rw [L_call,evCall_said rfl Tryz.func106 rfl (by decide) Tryz.ntmps106 Tryz.results106] at hz
 obtain ⟨S1,e1,n1,b1,a1⟩:=push_open S (.cells [v_h_rooms,v_h_doors,v_h_ways] 26 0 true true)
 have g1:Agree S S1:=a1
 obtain ⟨u2_0,u2_1,u2_2,S2,k2,a2,oo2_0,oo2_1,oo2_2,ab2_0_1,ab2_0_2,ab2_1_2⟩:=c114 h fr ti hF hV (by omega) (by omega) S1 (v_h_rooms) (hv_h_rooms.agree g1) (v_h_doors) (hv_h_doors.agree g1) (v_h_ways) (hv_h_ways.agree g1)
 obtain ⟨pu2_0,nu2_0,cu2_0,rfl⟩:=own_slice oo2_0
 obtain ⟨pu2_1,nu2_1,cu2_1,rfl⟩:=own_slice oo2_1
 obtain ⟨pu2_2,nu2_2,cu2_2,rfl⟩:=own_slice oo2_2
 have l2:=a2.1
 have g2:Agree S S2:=g1.trans a2
 obtain ⟨S3,e3,n3,b3,a3⟩:=push_open S2 (.cells [.slice none 0 0,.slice none 0 0] 142 0 true true)
 have o2_4:=oo2_0.agree a3
 have o2_5:=oo2_1.agree a3
 have o2_6:=oo2_2.agree a3
 have g3:Agree S S3:=g2.trans a3
 have ne7:blkOf (.slice pu2_0 nu2_0 cu2_0)≠some S2.next:=oo2_0.new (Nat.le_refl _)
 have ne8:blkOf (.slice pu2_1 nu2_1 cu2_1)≠some S2.next:=oo2_1.new (Nat.le_refl _)
 have ne9:blkOf (.slice pu2_2 nu2_2 cu2_2)≠some S2.next:=oo2_2.new (Nat.le_refl _)
 obtain ⟨S10,k10,n10,b10,q10⟩:=st_at (o:=0) (c':=[.slice pu2_0 nu2_0 cu2_0,.slice pu2_1 nu2_1 cu2_1]) (v:=.agg #[.slice pu2_0 nu2_0 cu2_0,.slice pu2_1 nu2_1 cu2_1]) tz142 b3 rfl rfl (show 0+2≤2 by decide) rfl
 have o2_11:=o2_4.frame (by omega) (fun id hid hb=>q10 id (fun e=>(show blkOf (.slice pu2_0 nu2_0 cu2_0)≠some S2.next from by first|exact o2_4.ne (by omega)|exact o2_4.new (by omega)|assumption) (e ▸ hb)))
 have o2_12:=o2_5.frame (by omega) (fun id hid hb=>q10 id (fun e=>(show blkOf (.slice pu2_1 nu2_1 cu2_1)≠some S2.next from by first|exact o2_5.ne (by omega)|exact o2_5.new (by omega)|assumption) (e ▸ hb)))
 have o2_13:=o2_6.frame (by omega) (fun id hid hb=>q10 id (fun e=>(show blkOf (.slice pu2_2 nu2_2 cu2_2)≠some S2.next from by first|exact o2_6.ne (by omega)|exact o2_6.new (by omega)|assumption) (e ▸ hb)))
 have g10:Agree S S10:=⟨by have:=(g3).1; omega,fun id hid=>(q10 id (by have:=(g3).1; omega)).trans ((g3).2 id hid)⟩
 try simp (disch:=first|omega|assumption) only [E0_G,SY,setArgs,off,agreeKind,vals,allocV,boxed,ldA,rdCells,aggD,aField,aExtract,Nat.reduceAdd,Nat.reduceSub,Nat.reduceLT,Nat.reduceBEq,TY_EvH25,e1,b1,k2,e3,k10,b10] at hz
 have hr:r106 h fr ti=((r114 h fr ti).1.1):=rfl
 exact ⟨.slice pu2_0 nu2_0 cu2_0,S10,by first|(rw [hr]; exact hz.symm)|exact hz.symm,g10,by rw [hr]; exact o2_11.low (by omega)⟩
def r41 (h:Hs) (fr:Int) (ti:Int):List Int × Int:=(if (r102 h fr)=true then (if (r84 h (r88 ti))=0 then ((r106 h fr ti),0) else ([],(r84 h (r88 ti)))) else ([],(r84 h false)))
set_option maxHeartbeats 8000000 in
theorem c41 (h:Hs) (fr:Int) (ti:Int) (hF:Few h) (hs:∀ x ∈ h.rooms,x.name.size≤9223372036854775807) (S:AS) (v_h_rooms:Value) (hv_h_rooms:LstR S v_h_rooms h.rooms) (v_h_doors:Value) (hv_h_doors:LstR S v_h_doors h.doors) (v_h_ways:Value) (hv_h_ways:Lst S v_h_ways h.ways) :
  ∃ v' S',(evL Tryz.prog E0).call 41 #[.agg #[v_h_rooms,v_h_doors,v_h_ways],.int .i64 fr,.int .i64 ti] S=some (.tuple #[v',.int .i64 (r41 h fr ti).2],S')∧Agree S S'∧Own 3 S.next S' v' (r41 h fr ti).1:=by
 have qr:=hF.r; have qd:=hF.d; have qw:=hF.w
 generalize hz:(evL Tryz.prog E0).call 41 _ _=z
 rw [L_call,evCall_said rfl Tryz.func41 rfl (by decide) Tryz.ntmps41 Tryz.results41] at hz
 obtain ⟨S1,e1,n1,b1,a1⟩:=push_open S (.cells [v_h_rooms,v_h_doors,v_h_ways] 26 0 true true)
 have g1:Agree S S1:=a1
 have s1:E0.same S S1=true:=symEnv_same a1
 try simp only [E0_G,SY,setArgs,off,agreeKind,boxed,Nat.reduceAdd,Nat.reduceSub,Nat.reduceLT,Nat.reduceBEq,e1] at hz
 rw [code_draws _ _ _ (by kernel_rfl)] at hz
 generalize hnd2:needy _=nd2 at hz
 obtain ⟨S3,k3,a3⟩:=c102 h fr  S1 (v_h_rooms) (hv_h_rooms.agree g1) (v_h_doors) (hv_h_doors.agree g1) (v_h_ways) (hv_h_ways.agree g1)
 have l3:=a3.1
 have s3:E0.same S1 S3=true:=symEnv_same a3
 have v1_3:=(a3.2 S.next (by omega)).trans b1
 have g3:Agree S S3:=g1.trans a3
 try simp (disch:=first|omega|assumption) only [E0_G,SY,agreeKind,vals,ldA,rdCells,aggD,Nat.reduceAdd,Nat.reduceLT,Nat.reduceBEq,TY_EvH25,b1,store_agree,store_refl E0_same,k3] at hz
 rcases dB ((r102 h fr)) with ⟨h4a,h4⟩|⟨h4a,h4⟩
 ·have lq5:=r102_iff.1 h4
  obtain ⟨S6,k6,a6⟩:=c88 ti  S3
  have l6:=a6.1
  have s6:E0.same S3 S6=true:=symEnv_same a6
  have v1_6:=(a6.2 S.next (by omega)).trans v1_3
  have g6:Agree S S6:=g3.trans a6
  obtain ⟨S7,k7,a7⟩:=c84 h (r88 ti) hF hs S6 (v_h_rooms) (hv_h_rooms.agree g6) (v_h_doors) (hv_h_doors.agree g6) (v_h_ways) (hv_h_ways.agree g6)
  have l7:=a7.1
  have s7:E0.same S6 S7=true:=symEnv_same a7
  have v1_7:=(a7.2 S.next (by omega)).trans v1_6
  have g7:Agree S S7:=g6.trans a7
  try simp (disch:=first|omega|assumption) only [E0_G,SY,off,agreeKind,vals,Nat.reduceAdd,Nat.reduceLT,Nat.reduceBEq,store_agree,store_refl E0_same,h4a,k6,k7] at hz
  rcases dP ((r84 h (r88 ti))=0) with ⟨h8a,h8⟩|⟨h8a,h8⟩
  ·have hV:=(r84_ok h8).1
   have lq9:=r88_iff.1 (r84_ok h8).2
   obtain ⟨u10,S10,k10,a10,oo10⟩:=c106 h fr ti hF hV (by omega) (by omega) S7 (v_h_rooms) (hv_h_rooms.agree g7) (v_h_doors) (hv_h_doors.agree g7) (v_h_ways) (hv_h_ways.agree g7)
   have l10:=a10.1
   obtain ⟨pu10,nu10,cu10,rfl⟩:=own_slice oo10
   have s10:E0.same S7 S10=true:=symEnv_same a10
   have g10:Agree S S10:=g7.trans a10
   try simp (disch:=first|omega|assumption) only [E0_G,SY,off,agreeKind,vals,ldA,rdCells,aggD,Nat.reduceAdd,Nat.reduceLT,Nat.reduceBEq,TY_EvH25,store_agree,store_refl E0_same,v1_7,h8a,k10] at hz
   have hr:r41 h fr ti=((r106 h fr ti),0):=(if_pos h4).trans ((if_pos h8).trans (rfl))
   exact ⟨.slice pu10 nu10 cu10,S10,by first|(rw [hr]; exact hz.symm)|exact hz.symm,g10,by rw [hr]; exact oo10.low (by omega)⟩
  try simp only [E0_G,SY,off,agreeKind,Nat.reduceAdd,Nat.reduceLT,Nat.reduceBEq,store_refl E0_same,h8a] at hz
  have hr:r41 h fr ti=([],(r84 h (r88 ti))):=(if_pos h4).trans ((if_neg h8).trans (rfl))
  exact ⟨.slice none 0 0,S7,by first|(rw [hr]; exact hz.symm)|exact hz.symm,g7,by rw [hr]; exact Own.nil _ _ _⟩
 obtain ⟨S11,k11,a11⟩:=c84 h false hF hs S3 (v_h_rooms) (hv_h_rooms.agree g3) (v_h_doors) (hv_h_doors.agree g3) (v_h_ways) (hv_h_ways.agree g3)
 have l11:=a11.1
 have s11:E0.same S3 S11=true:=symEnv_same a11
 have g11:Agree S S11:=g3.trans a11
 try simp (disch:=first|omega|assumption) only [E0_G,SY,off,agreeKind,vals,Nat.reduceAdd,Nat.reduceLT,Nat.reduceBEq,store_agree,store_refl E0_same,h4a,k11] at hz
 have h12:¬ ((r84 h false)=0):=r84_false
 have h12a:=decide_eq_false h12
 try simp only [E0_G,SY,off,agreeKind,Nat.reduceAdd,Nat.reduceLT,Nat.reduceBEq,store_refl E0_same,h12a] at hz
 have hr:r41 h fr ti=([],(r84 h false)):=(if_neg h4).trans (rfl)
 exact ⟨.slice none 0 0,S11,by first|(rw [hr]; exact hz.symm)|exact hz.symm,g11,by rw [hr]; exact Own.nil _ _ _⟩
end House
end Go.Proofs
end
