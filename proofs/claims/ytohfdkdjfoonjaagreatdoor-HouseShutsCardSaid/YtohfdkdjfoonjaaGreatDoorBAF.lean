import Derived.Test.YtohfdkdjfoonjaaGreatDoorBAE
import Derived.Test.YtohfdkdjfoonjaaGreatDoorAE7
section
set_option linter.unusedSimpArgs false
set_option linter.unusedVariables false
namespace Go.Proofs
namespace House
open Go Go.RowKit Go.Aev
set_option maxRecDepth 100000
theorem TY_EvH43:type_of% TY_EvH42:=TY_EvH42
instance:Cel Rm:=⟨2,fun x=>[.string x.name,.int .i64 x.floor],fun _=>rfl,fun _=>rfl⟩
theorem rooms_flat {S:AS} {v:Value} {l:List Rm} (h:LstR S v l):Lst S v l:=by
 rcases h with ⟨rfl,h⟩|⟨id,off,c,ty,cap,wr,ex,q1,q2,q3,q4,q5⟩
 ·exact .inl ⟨rfl,h⟩
 ·refine .inr ⟨id,off,c,ty,cap,wr,ex,q1,q2,q3,q4,fun i x hx j hj=>?_⟩
  obtain ⟨cs,⟨p1,_⟩,p2⟩:=q5 i x hx
  rw [p1] at p2
  exact p2 j hj
def NamesB (l:List Rm):Prop:=∀ x ∈ l,x.name.size≤9223372036854775807
theorem rooms_names {S:AS} {v:Value} {l:List Rm} (h:LstR S v l):NamesB l:=by
 intro x hx
 rcases h with ⟨rfl,h⟩|⟨id,off,c,ty,cap,wr,ex,q1,q2,q3,q4,q5⟩
 ·simp at hx
 ·obtain ⟨i,hi,rfl⟩:=List.mem_iff_getElem.1 hx
  obtain ⟨cs,⟨_,p⟩,_⟩:=q5 i _ (List.getElem?_eq_getElem hi)
  exact p
theorem rooms_rows {S:AS} {v:Value} {l:List Rm} (h:Lst S v l) (hn:NamesB l):LstR S v l:=by
 rcases h with h|⟨id,off,c,ty,cap,wr,ex,q1,q2,q3,q4,q5⟩
 ·exact .inl h
 ·exact .inr ⟨id,off,c,ty,cap,wr,ex,q1,q2,q3,q4,fun i x hx=>⟨_,⟨rfl,hn x (List.mem_of_getElem? hx)⟩,q5 i x hx⟩⟩
instance:RepF Dr where
 toRep:=inferInstance
 frame:=fun ⟨w0,w1,h,h1,h2⟩ hn hf=>⟨w0,w1,h,h1.frameL (by decide) hn hf,h2.frameL (by decide) hn hf⟩
 one:=fun ⟨w0,w1,h,h1,h2⟩=>by rw [h]; exact ones_2 h1.one h2.one
instance:RepF Rm where
 toRep:=inferInstance
 frame:=fun h _ _=>h
 one:=fun h=>by rw [h.1]; rfl
theorem kept_dr {el lo:Nat} {S:AS} {cs:List Value} {x:Dr} (h:Kept el lo S cs x):∃ w0 w1,cs=[w0,w1]∧KL el lo S w0 x.hours∧KL el lo S w1 x.shut:=by
 obtain ⟨w0,w1,rfl,_,_⟩:=h.now
 refine ⟨w0,w1,rfl,fun S' k=>?_,fun S' k=>?_⟩
 ·obtain ⟨u0,u1,e,h0,h1⟩:=h S' k; cases e; exact h0
 ·obtain ⟨u0,u1,e,h0,h1⟩:=h S' k; cases e; exact h1
theorem kept_mk {el lo:Nat} {S:AS} {w0 w1:Value} {a b:List Sp} (h:KL el lo S w0 a) (k:KL el lo S w1 b):Kept el lo S [w0,w1] (⟨a,b⟩:Dr):=fun S' q=>⟨w0,w1,rfl,h S' q,k S' q⟩
set_option maxHeartbeats 2000000 in
theorem c152 (l:List Rm) (hl:l.length≤65536) (S:AS) (v_l:Value) (hv_l:Lst S v_l l) :
  ∃ v' S',(evL Tryz.prog E0).call 152 #[v_l] S=some (v',S')∧Agree S S'∧Own 110 S.next S' v' (l):=by
 generalize hz:(evL Tryz.prog E0).call 152 _ _=z
 rw [L_call,evCall_said rfl Tryz.func152 rfl (by decide) Tryz.ntmps152 Tryz.results152] at hz
 have yb1:=fun dst ty pos after g f S=>bin_eqlSl (P:=Tryz.prog) (E:=E0) (r:=evL Tryz.prog E0) dst ty pos after g f S (hv_l).form
 have yc1:=fun S=>slEq_lst (hv_l) 110 S
 try simp (disch:=first|omega|assumption) only [E0_G,SY,setArgs,off,agreeKind,Nat.reduceAdd,Nat.reduceSub,Nat.reduceLT,Nat.reduceBEq,TY_EvH43,yb1,yc1,opB_eql,opC_eql,strEq_sl,firstOf_none] at hz
 rcases dB (nilB v_l) with ⟨h2a,h2⟩|⟨h2a,h2⟩
 ·try simp (disch:=first|omega|assumption) only [E0_G,SY,off,agreeKind,Nat.reduceLT,Nat.reduceBEq,h2a] at hz
  have hr:l=[]:=nilB_nil hv_l h2
  exact ⟨.slice none 0 0,S,by first|(rw [hr]; exact hz.symm)|exact hz.symm,(Agree.refl S),by rw [hr]; exact Own.nil _ _ _⟩
 have y3:aBuildSlice Tryz.prog 22 0 [] S=some (.slice (some ⟨S.next,0,none⟩) 0 0,S.push (.cells [] 110 2 true true)):=by kernel_rfl
 obtain ⟨S4,e4,n4,b4,a4⟩:=push_open S (.cells [] 110 2 true true)
 have g4:Agree S S4:=a4
 have o5:Own 110 S.next S4 (.slice (some ⟨S.next,0,none⟩) 0 0) ([]:List Rm):=.inr ⟨_,true,rfl,Nat.le_refl _,by omega,b4⟩
 obtain ⟨u6,S6,k6,o6,n6,f6,d6⟩:=own_append (P:=Tryz.prog) (t:=22) (tx:=22) (n:=1) (v:=.slice (some ⟨S.next,0,none⟩) 0 0) o5 (hv_l.agree g4) (by omega) (by first|omega|(simp; omega)|simp) (by first|omega|(simp; omega)|simp) Tryz.underlying22 Tryz.underlying22 ti110 tv110 rfl tz110
 obtain ⟨pu6,nu6,cu6,rfl⟩:=own_slice o6
 have g6:Agree S S6:=⟨Nat.le_trans (g4).1 n6,fun id hid=>(f6 id (by have:=(g4).1; omega) (by first|(simp [blkOf]; done)|exact o5.ne (by omega)|assumption)).trans ((g4).2 id hid)⟩
 try simp (disch:=first|omega|assumption) only [E0_G,SY,off,agreeKind,partVals,Nat.reduceAdd,Nat.reduceLT,Nat.reduceBEq,h2a,y3,e4,k6] at hz
 have hr:l=([])++l:=by simp
 exact ⟨.slice pu6 nu6 cu6,S6,by first|(rw [hr]; exact hz.symm)|exact hz.symm,g6,by rw [hr]; exact o6.low (by omega)⟩
set_option maxHeartbeats 2000000 in
theorem c153 (l:List (Raw 2)) (hl:l.length≤65536) (S:AS) (v_l:Value) (hv_l:Lst S v_l l) :
  ∃ v' S',(evL Tryz.prog E0).call 153 #[v_l] S=some (v',S')∧Agree S S'∧Own 98 S.next S' v' (l):=by
 generalize hz:(evL Tryz.prog E0).call 153 _ _=z
 rw [L_call,evCall_said rfl Tryz.func153 rfl (by decide) Tryz.ntmps153 Tryz.results153] at hz
 have yb1:=fun dst ty pos after g f S=>bin_eqlSl (P:=Tryz.prog) (E:=E0) (r:=evL Tryz.prog E0) dst ty pos after g f S (hv_l).form
 have yc1:=fun S=>slEq_lst (hv_l) 98 S
 try simp (disch:=first|omega|assumption) only [E0_G,SY,setArgs,off,agreeKind,Nat.reduceAdd,Nat.reduceSub,Nat.reduceLT,Nat.reduceBEq,TY_EvH43,yb1,yc1,opB_eql,opC_eql,strEq_sl,firstOf_none] at hz
 rcases dB (nilB v_l) with ⟨h2a,h2⟩|⟨h2a,h2⟩
 ·try simp (disch:=first|omega|assumption) only [E0_G,SY,off,agreeKind,Nat.reduceLT,Nat.reduceBEq,h2a] at hz
  have hr:l=[]:=nilB_nil hv_l h2
  exact ⟨.slice none 0 0,S,by first|(rw [hr]; exact hz.symm)|exact hz.symm,(Agree.refl S),by rw [hr]; exact Own.nil _ _ _⟩
 have y3:aBuildSlice Tryz.prog 23 0 [] S=some (.slice (some ⟨S.next,0,none⟩) 0 0,S.push (.cells [] 98 2 true true)):=by kernel_rfl
 obtain ⟨S4,e4,n4,b4,a4⟩:=push_open S (.cells [] 98 2 true true)
 have g4:Agree S S4:=a4
 have o5:Own 98 S.next S4 (.slice (some ⟨S.next,0,none⟩) 0 0) ([]:List (Raw 2)):=.inr ⟨_,true,rfl,Nat.le_refl _,by omega,b4⟩
 obtain ⟨u6,S6,k6,o6,n6,f6,d6⟩:=own_append (P:=Tryz.prog) (t:=23) (tx:=23) (n:=1) (v:=.slice (some ⟨S.next,0,none⟩) 0 0) o5 (hv_l.agree g4) (by omega) (by first|omega|(simp; omega)|simp) (by first|omega|(simp; omega)|simp) Tryz.underlying23 Tryz.underlying23 ti98 tv98 rfl tz98
 obtain ⟨pu6,nu6,cu6,rfl⟩:=own_slice o6
 have g6:Agree S S6:=⟨Nat.le_trans (g4).1 n6,fun id hid=>(f6 id (by have:=(g4).1; omega) (by first|(simp [blkOf]; done)|exact o5.ne (by omega)|assumption)).trans ((g4).2 id hid)⟩
 try simp (disch:=first|omega|assumption) only [E0_G,SY,off,agreeKind,partVals,Nat.reduceAdd,Nat.reduceLT,Nat.reduceBEq,h2a,y3,e4,k6] at hz
 have hr:l=([])++l:=by simp
 exact ⟨.slice pu6 nu6 cu6,S6,by first|(rw [hr]; exact hz.symm)|exact hz.symm,g6,by rw [hr]; exact o6.low (by omega)⟩
theorem cr153 {S0:AS} (l:List Dr) (hl:l.length≤65536) (S:AS) (v:Value) (hv:LstR S0 v l) (ha:Agree S0 S) (lo:Nat) (h1:S0.next≤lo) (h2:lo≤S.next) :
  ∃ v' S',(evL Tryz.prog E0).call 153 #[v] S=some (v',S')∧Agree S S'∧OwnR 98 lo S' v' l:=by
 obtain ⟨rs,q1,q2,q3⟩:=hv.raw
 obtain ⟨v',S',k1,k2,k3⟩:=c153 rs (by omega) S v (q1.agree ha)
 exact ⟨v',S',k1,k2,OwnR.of (k3.low h2) q2 q3 (ha.trans k2) h1⟩
end House
end Go.Proofs
end
section
set_option linter.unusedSimpArgs false
set_option linter.unusedVariables false
namespace Go.Proofs
namespace House
open Go Go.RowKit Go.Aev
set_option maxRecDepth 100000
theorem TY_EvH44:type_of% TY_EvH43:=TY_EvH43
theorem doors_same {l ds:List Dr} {k:Nat} (h:ds=l) {x:Dr} (hx:ds[k]?=some x):ds.set k ⟨x.hours,x.shut⟩=l:=by
 subst h
 obtain ⟨hk,rfl⟩:=List.getElem?_eq_some_iff.1 hx
 exact List.set_getElem_self hk
def R124_0 (h:Hs)  : List Dr→List Dr→Nat→Unit
 | [],ds,k=>()
 | _x :: l',ds,k=>R124_0 h l' (ds.set k (⟨(((lget ds k).hours:List Sp)),(((lget ds k).shut:List Sp))⟩:Dr)) (k+1)
set_option maxHeartbeats 8000000 in
theorem c124 (h:Hs) (hF:Few h) (hD:∀ x ∈ h.doors,x.hours.length≤65536∧x.shut.length≤65536) (S:AS) (v_h_rooms:Value) (hv_h_rooms:LstR S v_h_rooms h.rooms) (v_h_doors:Value) (hv_h_doors:LstR S v_h_doors h.doors) (v_h_ways:Value) (hv_h_ways:Lst S v_h_ways h.ways) :
  ∃ v'0 v'1 v'2 S',(evL Tryz.prog E0).call 124 #[.agg #[v_h_rooms,v_h_doors,v_h_ways]] S=some (.agg #[v'0,v'1,v'2],S')∧Agree S S'∧Own 110 S.next S' v'0 ((h).rooms)∧OwnR 98 S.next S' v'1 ((h).doors)∧Own 92 S.next S' v'2 ((h).ways)∧(∀ b,blkOf v'0=some b→blkOf v'1≠some b)∧(∀ b,blkOf v'0=some b→blkOf v'2≠some b)∧(∀ b,blkOf v'1=some b→blkOf v'2≠some b):=by
 have qr:=hF.r; have qd:=hF.d; have qw:=hF.w
 generalize hz:(evL Tryz.prog E0).call 124 _ _=z
 rw [L_call,evCall_said rfl Tryz.func124 rfl (by decide) Tryz.ntmps124 Tryz.results124] at hz
 obtain ⟨S1,e1,n1,b1,a1⟩:=push_open S (.cells [v_h_rooms,v_h_doors,v_h_ways] 26 0 true true)
 have g1:Agree S S1:=a1
 have s1:E0.same S S1=true:=symEnv_same a1
 obtain ⟨S2,e2,n2,b2,a2⟩:=push_open S1 (.cells [.slice none 0 0,.slice none 0 0,.slice none 0 0] 26 0 true true)
 have v1_2:=(a2.2 S.next (by omega)).trans b1
 have g2:Agree S S2:=g1.trans a2
 have s2:E0.same S1 S2=true:=symEnv_same a2
 try simp (disch:=first|omega|assumption) only [E0_G,SY,setArgs,off,agreeKind,allocV,boxed,Nat.reduceAdd,Nat.reduceSub,Nat.reduceLT,Nat.reduceBEq,TY_EvH44,e1,e2] at hz
 rw [code_draws _ _ _ (by kernel_rfl)] at hz
 generalize hnd3:needy _=nd3 at hz
 have nn3_10:nd3 10=false:=by rw [← hnd3]; kernel_rfl
 have nn3_12:nd3 12=false:=by rw [← hnd3]; kernel_rfl
 have nn3_14:nd3 14=false:=by rw [← hnd3]; kernel_rfl
 obtain ⟨u4,S4,k4,a4,oo4⟩:=c152 (h.rooms:List Rm) (by omega) S2 (v_h_rooms) (rooms_flat (hv_h_rooms.agree g2))
 have l4:=a4.1
 obtain ⟨pu4,nu4,cu4,rfl⟩:=own_slice oo4
 have s4:E0.same S2 S4=true:=symEnv_same a4
 have v1_4:=(a4.2 S.next (by omega)).trans v1_2
 have v2_4:=(a4.2 S1.next (by omega)).trans b2
 have g4:Agree S S4:=g2.trans a4
 obtain ⟨u5,S5,k5,a5,oo5⟩:=cr153 (h.doors:List Dr) (by omega) S4 (v_h_doors) hv_h_doors g4 S.next (Nat.le_refl _) (by omega)
 have l5:=a5.1
 obtain ⟨pu5,nu5,cu5,rfl⟩:=oo5.slice
 have ap6:∀ b,blkOf (.slice pu4 nu4 cu4)=some b→blkOf (.slice pu5 nu5 cu5)≠some b:=fun b hb=>oo5.apart (oo4.agree a5) (by decide) b hb
 have s5:E0.same S4 S5=true:=symEnv_same a5
 have v1_5:=(a5.2 S.next (by omega)).trans v1_4
 have v2_5:=(a5.2 S1.next (by omega)).trans v2_4
 have o4_7:=oo4.agree a5
 have g5:Agree S S5:=g4.trans a5
 obtain ⟨u8,S8,k8,a8,oo8⟩:=c154 (h.ways:List Wy) (by omega) S5 (v_h_ways) (hv_h_ways.agree g5)
 have l8:=a8.1
 obtain ⟨pu8,nu8,cu8,rfl⟩:=own_slice oo8
 have ap9:∀ b,blkOf (.slice pu4 nu4 cu4)=some b→blkOf (.slice pu8 nu8 cu8)≠some b:=fun b hb=>oo8.ne (Nat.lt_of_lt_of_le (o4_7.lt hb) (by omega))
 have ap10:∀ b,blkOf (.slice pu5 nu5 cu5)=some b→blkOf (.slice pu8 nu8 cu8)≠some b:=fun b hb=>oo8.ne (Nat.lt_of_lt_of_le (oo5.lt hb) (by omega))
 have s8:E0.same S5 S8=true:=symEnv_same a8
 have v1_8:=(a8.2 S.next (by omega)).trans v1_5
 have v2_8:=(a8.2 S1.next (by omega)).trans v2_5
 have o4_11:=o4_7.agree a8
 have o5_12:=oo5.agree a8
 have g8:Agree S S8:=g5.trans a8
 obtain ⟨S13,k13,n13,b13,q13⟩:=st_at (o:=0) (c':=[.slice pu4 nu4 cu4,v_h_doors,v_h_ways]) (v:=.slice pu4 nu4 cu4) tz22 v1_8 rfl rfl (show 0+1≤3 by decide) rfl
 have v2_13:=(q13 S1.next (by omega)).trans v2_8
 have o4_14:=o4_11.frame (by omega) (fun id hid hb=>q13 id (fun e=>(show blkOf (.slice pu4 nu4 cu4)≠some S.next from by first|exact o4_11.ne (by omega)|exact o4_11.new (by omega)|assumption) (e ▸ hb)))
 have o5_15:=o5_12.box v1_8 (by decide) (by omega) q13
 have o8_16:=oo8.frame (by omega) (fun id hid hb=>q13 id (fun e=>(show blkOf (.slice pu8 nu8 cu8)≠some S.next from by first|exact oo8.ne (by omega)|exact oo8.new (by omega)|assumption) (e ▸ hb)))
 have g13:Agree S S13:=⟨by have:=(g8).1; omega,fun id hid=>(q13 id (by have:=(g8).1; omega)).trans ((g8).2 id hid)⟩
 obtain ⟨S17,k17,n17,b17,q17⟩:=st_at (o:=1) (c':=[.slice pu4 nu4 cu4,.slice pu5 nu5 cu5,v_h_ways]) (v:=.slice pu5 nu5 cu5) tz23 b13 rfl rfl (show 1+1≤3 by decide) rfl
 have v2_17:=(q17 S1.next (by omega)).trans v2_13
 have o4_18:=o4_14.frame (by omega) (fun id hid hb=>q17 id (fun e=>(show blkOf (.slice pu4 nu4 cu4)≠some S.next from by first|exact o4_14.ne (by omega)|exact o4_14.new (by omega)|assumption) (e ▸ hb)))
 have o5_19:=o5_15.box b13 (by decide) (by omega) q17
 have o8_20:=o8_16.frame (by omega) (fun id hid hb=>q17 id (fun e=>(show blkOf (.slice pu8 nu8 cu8)≠some S.next from by first|exact o8_16.ne (by omega)|exact o8_16.new (by omega)|assumption) (e ▸ hb)))
 have g17:Agree S S17:=⟨by have:=(g13).1; omega,fun id hid=>(q17 id (by have:=(g13).1; omega)).trans ((g13).2 id hid)⟩
 obtain ⟨S21,k21,n21,b21,q21⟩:=st_at (o:=2) (c':=[.slice pu4 nu4 cu4,.slice pu5 nu5 cu5,.slice pu8 nu8 cu8]) (v:=.slice pu8 nu8 cu8) tz24 b17 rfl rfl (show 2+1≤3 by decide) rfl
 have v2_21:=(q21 S1.next (by omega)).trans v2_17
 have o4_22:=o4_18.frame (by omega) (fun id hid hb=>q21 id (fun e=>(show blkOf (.slice pu4 nu4 cu4)≠some S.next from by first|exact o4_18.ne (by omega)|exact o4_18.new (by omega)|assumption) (e ▸ hb)))
 have o5_23:=o5_19.box b17 (by decide) (by omega) q21
 have o8_24:=o8_20.frame (by omega) (fun id hid hb=>q21 id (fun e=>(show blkOf (.slice pu8 nu8 cu8)≠some S.next from by first|exact o8_20.ne (by omega)|exact o8_20.new (by omega)|assumption) (e ▸ hb)))
 have g21:Agree S S21:=⟨by have:=(g17).1; omega,fun id hid=>(q21 id (by have:=(g17).1; omega)).trans ((g17).2 id hid)⟩
 have w25:=(o5_23.rows).len (P:=Tryz.prog) (t:=23) Tryz.underlying23
 try simp (disch:=first|omega|assumption) only [E0_G,SY,off,agreeKind,vals,ldA,aggD,aField,Nat.reduceAdd,Nat.reduceLT,Nat.reduceBEq,TY_EvH44,v1_2,nn3_10,nn3_12,nn3_14,store_agree,store_refl E0_same,k4,v1_4,k5,v1_5,k8,k13,k17,k21,b21,w25] at hz
 generalize hL26:Rec.loop _ _ _ _=L26 at hz
 obtain ⟨x26,t26,S26e,rfl,hQ26⟩:=loop_met hL26 (fun m t S'=>∃ (ds:List Dr) (k:Nat),m+k=h.doors.length∧ds=h.doors∧ds.length=h.doors.length∧k≤h.doors.length∧t.get 1=some (.pointer (some ⟨S.next,0,none⟩))∧t.get 2=some (.pointer (some ⟨S1.next,0,none⟩))∧t.get 18=some (.slice pu5 nu5 cu5)∧t.get 19=some (.int .i64 (h.doors.length:Int))∧t.get 20=some (.int .i64 (k:Int))∧S'.heap.get S.next=some (.cells [.slice pu4 nu4 cu4,.slice pu5 nu5 cu5,.slice pu8 nu8 cu8] 26 0 true true)∧S'.heap.get S1.next=some (.cells [.slice none 0 0,.slice none 0 0,.slice none 0 0] 26 0 true true)∧Agree S S'∧S21.next≤S'.next∧OwnR 98 S.next S' (.slice pu5 nu5 cu5) ds∧Own 110 S2.next S' (.slice pu4 nu4 cu4) h.rooms∧Own 92 S5.next S' (.slice pu8 nu8 cu8) ((h.ways:List Wy))∧R124_0 h (h.doors.drop k) ds k=R124_0 h h.doors h.doors 0)
  (fun x t S'=>x=.exit 0∧∃ (ds:List Dr) (k:Nat),t.get 1=some (.pointer (some ⟨S.next,0,none⟩))∧t.get 2=some (.pointer (some ⟨S1.next,0,none⟩))∧S'.heap.get S.next=some (.cells [.slice pu4 nu4 cu4,.slice pu5 nu5 cu5,.slice pu8 nu8 cu8] 26 0 true true)∧S'.heap.get S1.next=some (.cells [.slice none 0 0,.slice none 0 0,.slice none 0 0] 26 0 true true)∧Agree S S'∧S21.next≤S'.next∧OwnR 98 S.next S' (.slice pu5 nu5 cu5) ds∧Own 110 S2.next S' (.slice pu4 nu4 cu4) h.rooms∧Own 92 S5.next S' (.slice pu8 nu8 cu8) ((h.ways:List Wy))∧ds=h.doors∧ds.length=h.doors.length∧k≤h.doors.length∧R124_0 h h.doors h.doors 0=()) (h.doors.length - 0) (by refine ⟨h.doors,0,?_,?_,?_,?_,?_,?_,?_,?_,?_,b21,v2_21,g21,Nat.le_refl _,o5_23,o4_22,o8_24,rfl⟩<;>first|(simp only [SY,eq_self,Nat.reduceBEq]<;>rfl)|omega|assumption|(exact doors_same (by assumption) (by assumption))|(simp; omega)|simp) (by
   rintro m t S26 ⟨ds,k,hi26_0,hi26_1,hi26_2,hi26_3,g26_1,g26_2,g26_18,g26_19,g26_20,bb26_1,bb26_2,ga26,gn26,ow_ds,cw26_0,cw26_1,hd26⟩
   refine .run fun z he=>?_
   try simp (disch:=first|omega|assumption) only [E0_G,SY,off,agreeKind,Nat.reduceLT,Nat.reduceBEq,g26_19,g26_20] at he
   rcases dP ((k:Int)<(h.doors.length:Int)) with ⟨h27a,h27⟩|⟨h27a,h27⟩
   ·have hx28:ds[k]?=some (lget ds k):=lget_some (by first|omega|simp; omega)
    have ed29:=hD _ (List.mem_of_getElem? (i:=k) (by rw [← (show ds=h.doors by assumption)]; exact hx28))
    have ed29a:=ed29.1; have ed29b:=ed29.2
    obtain ⟨id28,of28,cc28,ty28,wr28,ex28,cs28,i28,j28,l28,kp28,q28,bk28,oq28⟩:=ow_ds.at (P:=Tryz.prog) (t:=23) Tryz.underlying23 tz98 hx28
    obtain ⟨w28_0,w28_1,rfl,kl28_0,kl28_1⟩:=kept_dr kp28
    have m28_0:cc28[of28]?=some (w28_0):=q28 0 (show 0<2 by decide)
    have m28_1:cc28[of28+1]?=some (w28_1):=q28 1 (show 1<2 by decide)
    obtain ⟨S30,e30,n30,b30,a30⟩:=push_open S26 (.cells [.slice none 0 0,.slice none 0 0] 98 0 true true)
    have v1_30:=(a30.2 S.next (by omega)).trans bb26_1
    have v2_30:=(a30.2 S1.next (by omega)).trans bb26_2
    have ow_31:=ow_ds.agree a30
    have ocw26_32:=cw26_0.agree a30
    have ocw26_33:=cw26_1.agree a30
    have kl34:=kl28_0.agree a30
    have kl35:=kl28_1.agree a30
    have g30:Agree S S30:=ga26.trans a30
    have s30:E0.same S26 S30=true:=symEnv_same a30
    have ne36:blkOf (.slice pu5 nu5 cu5)≠some S26.next:=ow_ds.new (Nat.le_refl _)
    have ne37:blkOf (.slice pu4 nu4 cu4)≠some S26.next:=cw26_0.new (Nat.le_refl _)
    have ne38:blkOf (.slice pu8 nu8 cu8)≠some S26.next:=cw26_1.new (Nat.le_refl _)
    obtain ⟨S39,k39,n39,b39,q39⟩:=st_at (o:=0) (c':=[w28_0,w28_1]) (v:=.agg #[w28_0,w28_1]) tz98 b30 (by obtain ⟨p0_,n0_,c0_,e0_⟩:=(kl34.now).form; rw [e0_]; obtain ⟨p1_,n1_,c1_,e1_⟩:=(kl35.now).form; rw [e1_]; rfl) rfl (show 0+2≤2 by decide) rfl
    have v1_39:=(q39 S.next (by omega)).trans v1_30
    have v2_39:=(q39 S1.next (by omega)).trans v2_30
    have ow_40:=ow_31.box b30 (by decide) (by omega) q39
    have ocw26_41:=ocw26_32.frame (by omega) (fun id hid hb=>q39 id (fun e=>(show blkOf (.slice pu4 nu4 cu4)≠some S26.next from by first|exact ocw26_32.ne (by omega)|exact ocw26_32.new (by omega)|assumption) (e ▸ hb)))
    have ocw26_42:=ocw26_33.frame (by omega) (fun id hid hb=>q39 id (fun e=>(show blkOf (.slice pu8 nu8 cu8)≠some S26.next from by first|exact ocw26_33.ne (by omega)|exact ocw26_33.new (by omega)|assumption) (e ▸ hb)))
    have kl43:=kl34.box b30 n39 q39
    have kl44:=kl35.box b30 n39 q39
    have g39:Agree S S39:=⟨by have:=(g30).1; omega,fun id hid=>(q39 id (by have:=(g30).1; omega)).trans ((g30).2 id hid)⟩
    try simp (disch:=first|omega|assumption) only [E0_G,SY,off,agreeKind,allocV,ldA,rdCells,aggD,Nat.reduceAdd,Nat.reduceLT,Nat.reduceBEq,TY_EvH44,g26_18,g26_20,h27a,i28,j28,m28_0,m28_1,e30,k39] at he
    rw [code_draws _ _ _ (by kernel_rfl)] at he
    generalize hnd45:needy _=nd45 at he
    have nn45_11:nd45 11=false:=by rw [← hnd45]; kernel_rfl
    obtain ⟨u46,S46,k46,a46,oo46⟩:=c155 ((lget ds k).hours:List Sp) (by omega) S39 (w28_0) (kl43.now)
    have l46:=a46.1
    obtain ⟨pu46,nu46,cu46,rfl⟩:=own_slice oo46
    have ap47:∀ b,blkOf (.slice pu5 nu5 cu5)=some b→blkOf (.slice pu46 nu46 cu46)≠some b:=fun b hb=>oo46.ne (Nat.lt_of_lt_of_le (ow_40.lt hb) (by omega))
    have ap48:∀ b,blkOf (.slice pu4 nu4 cu4)=some b→blkOf (.slice pu46 nu46 cu46)≠some b:=fun b hb=>oo46.ne (Nat.lt_of_lt_of_le (ocw26_41.lt hb) (by omega))
    have ap49:∀ b,blkOf (.slice pu8 nu8 cu8)=some b→blkOf (.slice pu46 nu46 cu46)≠some b:=fun b hb=>oo46.ne (Nat.lt_of_lt_of_le (ocw26_42.lt hb) (by omega))
    have s46:E0.same S39 S46=true:=symEnv_same a46
    have v1_46:=(a46.2 S.next (by omega)).trans v1_39
    have v2_46:=(a46.2 S1.next (by omega)).trans v2_39
    have v30_46:=(a46.2 S26.next (by omega)).trans b39
    have ow_50:=ow_40.agree a46
    have ocw26_51:=ocw26_41.agree a46
    have ocw26_52:=ocw26_42.agree a46
    have kl53:=kl43.agree a46
    have kl54:=kl44.agree a46
    have g46:Agree S S46:=g39.trans a46
    obtain ⟨u55,S55,k55,a55,oo55⟩:=c155 ((lget ds k).shut:List Sp) (by omega) S46 (w28_1) (kl54.now)
    have l55:=a55.1
    obtain ⟨pu55,nu55,cu55,rfl⟩:=own_slice oo55
    have ap56:∀ b,blkOf (.slice pu5 nu5 cu5)=some b→blkOf (.slice pu55 nu55 cu55)≠some b:=fun b hb=>oo55.ne (Nat.lt_of_lt_of_le (ow_50.lt hb) (by omega))
    have ap57:∀ b,blkOf (.slice pu46 nu46 cu46)=some b→blkOf (.slice pu55 nu55 cu55)≠some b:=fun b hb=>oo55.ne (Nat.lt_of_lt_of_le (oo46.lt hb) (by omega))
    have ap58:∀ b,blkOf (.slice pu4 nu4 cu4)=some b→blkOf (.slice pu55 nu55 cu55)≠some b:=fun b hb=>oo55.ne (Nat.lt_of_lt_of_le (ocw26_51.lt hb) (by omega))
    have ap59:∀ b,blkOf (.slice pu8 nu8 cu8)=some b→blkOf (.slice pu55 nu55 cu55)≠some b:=fun b hb=>oo55.ne (Nat.lt_of_lt_of_le (ocw26_52.lt hb) (by omega))
    have s55:E0.same S46 S55=true:=symEnv_same a55
    have v1_55:=(a55.2 S.next (by omega)).trans v1_46
    have v2_55:=(a55.2 S1.next (by omega)).trans v2_46
    have ow_60:=ow_50.agree a55
    have o46_61:=oo46.agree a55
    have ocw26_62:=ocw26_51.agree a55
    have ocw26_63:=ocw26_52.agree a55
    have kl64:=kl53.agree a55
    have kl65:=kl54.agree a55
    have g55:Agree S S55:=g46.trans a55
    have y66:aBuild Tryz.prog 98 [(0,.slice pu46 nu46 cu46),(1,.slice pu55 nu55 cu55)]=some (.agg #[.slice pu46 nu46 cu46,.slice pu55 nu55 cu55]):=by kernel_rfl
    have ed68:=hD _ (List.mem_of_getElem? (i:=k) (by rw [← (show ds=h.doors by assumption)]; exact hx28))
    have ed68a:=ed68.1; have ed68b:=ed68.2
    obtain ⟨id67,of67,cc67,ty67,wr67,ex67,cs67,i67,j67,l67,kp67,q67,bk67,oq67⟩:=ow_60.at (P:=Tryz.prog) (t:=23) Tryz.underlying23 tz98 hx28
    obtain rfl:id28=id67:=Option.some.inj (bk28.symm.trans bk67)
    obtain rfl:of28=of67:=oq28.trans oq67.symm
    obtain ⟨w67_0,w67_1,rfl,kl67_0,kl67_1⟩:=kept_dr kp67
    have m67_0:cc67[of28]?=some (w67_0):=q67 0 (show 0<2 by decide)
    have m67_1:cc67[of28+1]?=some (w67_1):=q67 1 (show 1<2 by decide)
    obtain ⟨S69,k69,n69,o69,q69⟩:=ow_60.put (P:=Tryz.prog) (u:=.agg #[.slice pu46 nu46 cu46,.slice pu55 nu55 cu55]) (x':=(⟨(((lget ds k).hours:List Sp)),(((lget ds k).shut:List Sp))⟩:Dr)) tz98 (i:=k) (by first|omega|simp; omega) (cs:=[.slice pu46 nu46 cu46,.slice pu55 nu55 cu55]) rfl rfl (ones_2 (o46_61.rows).one (oo55.rows).one) bk67 (kept_mk (KL.own o46_61 (by decide) (by decide)) (KL.own oo55 (by decide) (by decide)))
    replace k69:stA Tryz.prog 98 ⟨id28,of28,none⟩ (.agg #[.slice pu46 nu46 cu46,.slice pu55 nu55 cu55]) S55=some S69:=by rw [oq28]; exact k69
    have v1_69:=(q69 S.next (fun e=>(show blkOf (.slice pu5 nu5 cu5)≠some S.next from by first|exact ow_60.nebox v1_55 (by decide)|exact ow_60.ne (by omega)|exact ow_60.new (by omega)|assumption) (e ▸ bk67))).trans v1_55
    have v2_69:=(q69 S1.next (fun e=>(show blkOf (.slice pu5 nu5 cu5)≠some S1.next from by first|exact ow_60.nebox v2_55 (by decide)|exact ow_60.ne (by omega)|exact ow_60.new (by omega)|assumption) (e ▸ bk67))).trans v2_55
    have o46_70:=o46_61.frame (by omega) (fun id hid hb=>q69 id (fun e=>(fun b h1 h2=>ow_60.apart o46_61 (by decide) b h1 h2) id hb (e ▸ bk67)))
    have o55_71:=oo55.frame (by omega) (fun id hid hb=>q69 id (fun e=>(fun b h1 h2=>ow_60.apart oo55 (by decide) b h1 h2) id hb (e ▸ bk67)))
    have ocw26_72:=ocw26_62.frame (by omega) (fun id hid hb=>q69 id (fun e=>(fun b h1 h2=>ow_60.apart ocw26_62 (by decide) b h1 h2) id hb (e ▸ bk67)))
    have ocw26_73:=ocw26_63.frame (by omega) (fun id hid hb=>q69 id (fun e=>(fun b h1 h2=>ow_60.apart ocw26_63 (by decide) b h1 h2) id hb (e ▸ bk67)))
    have g69:Agree S S69:=⟨by have:=(g55).1; omega,fun id hid=>(q69 id (fun e=>(show blkOf (.slice pu5 nu5 cu5)≠some id from ow_60.ne (by omega)) (e ▸ bk67))).trans ((g55).2 id hid)⟩
    have w74:IntKind.i64.wrap ((k:Int)+1)=((k+1:Nat):Int):=by rw [IntWalk.i64_in]<;>omega
    try simp (disch:=first|omega|assumption) only [E0_G,SY,off,agreeKind,partVals,vals,ldA,aggD,aField,Nat.reduceAdd,Nat.reduceLT,Nat.reduceBEq,TY_EvH44,g26_1,g26_20,i28,v1_39,b39,nn45_11,store_agree,store_refl E0_same,k46,v30_46,k55,y66,k69,w74] at he
    rw [drop_cons' (List.getElem?_eq_getElem (show k<_ by omega))] at hd26
    have hf:=(show _=(R124_0 h (h.doors.drop (k+1)) (ds.set k (⟨(((lget ds k).hours:List Sp)),(((lget ds k).shut:List Sp))⟩:Dr)) (k+1):Unit) from rfl).symm.trans hd26
    refine .next he (m - 1) (by omega) ⟨ds.set k (⟨(((lget ds k).hours:List Sp)),(((lget ds k).shut:List Sp))⟩:Dr),(k+1),?_,?_,?_,?_,?_,?_,?_,?_,?_,v1_69,v2_69,g69,by omega,o69,ocw26_72,ocw26_73,hf⟩<;>first|(simp only [SY,eq_self,Nat.reduceBEq,g26_1,g26_2,g26_18,g26_19,g26_20]<;>rfl)|omega|assumption|(exact doors_same (by assumption) (by assumption))|(simp; omega)|simp
   try simp (disch:=first|omega|assumption) only [SY,h27a] at he
   rw [List.drop_eq_nil_of_le (show h.doors.length≤k by omega)] at hd26
   have hf:=(show _=(():Unit) from rfl).symm.trans hd26
   refine .exit he ⟨rfl,⟨ds,k,?_,?_,bb26_1,bb26_2,ga26,by omega,ow_ds,cw26_0,cw26_1,?_,?_,?_,hf.symm⟩⟩<;>first|(simp only [SY,eq_self,Nat.reduceBEq,g26_1,g26_2]<;>rfl)|omega|assumption|(exact doors_same (by assumption) (by assumption))|(simp; omega)|simp)
 obtain ⟨rfl,ds,k,ge26_1,ge26_2,be26_1,be26_2,ge26,gm26,oe_ds26,ce26_0,ce26_1,hj26_0,hj26_1,hj26_2,hR26⟩:=hQ26
 obtain ⟨S76,k76,n76,b76,q76⟩:=st_at (o:=0) (c':=[.slice pu4 nu4 cu4,.slice pu5 nu5 cu5,.slice pu8 nu8 cu8]) (v:=.agg #[.slice pu4 nu4 cu4,.slice pu5 nu5 cu5,.slice pu8 nu8 cu8]) tz26 be26_2 rfl rfl (show 0+3≤3 by decide) rfl
 have oe_77:=oe_ds26.box be26_2 (by decide) (by omega) q76
 have oce26_78:=ce26_0.frame (by omega) (fun id hid hb=>q76 id (fun e=>(show blkOf (.slice pu4 nu4 cu4)≠some S1.next from by first|exact ce26_0.ne (by omega)|exact ce26_0.new (by omega)|assumption) (e ▸ hb)))
 have oce26_79:=ce26_1.frame (by omega) (fun id hid hb=>q76 id (fun e=>(show blkOf (.slice pu8 nu8 cu8)≠some S1.next from by first|exact ce26_1.ne (by omega)|exact ce26_1.new (by omega)|assumption) (e ▸ hb)))
 have g76:Agree S S76:=⟨by have:=(ge26).1; omega,fun id hid=>(q76 id (by have:=(ge26).1; omega)).trans ((ge26).2 id hid)⟩
 try simp (disch:=first|omega|assumption) only [E0_G,SY,off,agreeKind,ldA,rdCells,aggD,eq_self,if_true,Nat.reduceAdd,Nat.reduceLT,Nat.reduceBEq,TY_EvH44,ge26_1,ge26_2,be26_1,k76,b76] at hz
 have hr:h=(⟨h.rooms,ds,((h.ways:List Wy))⟩:Hs):=by rw [show ds=h.doors from by assumption]
 exact ⟨.slice pu4 nu4 cu4,.slice pu5 nu5 cu5,.slice pu8 nu8 cu8,S76,by first|(rw [hr]; exact hz.symm)|exact hz.symm,g76,by rw [hr]; exact oce26_78.low (by omega),by rw [hr]; exact oe_77,by rw [hr]; exact oce26_79.low (by omega),ap6,ap9,ap10⟩
end House
end Go.Proofs
end
section
set_option linter.unusedSimpArgs false
set_option linter.unusedVariables false
namespace Go.Proofs
namespace House
open Go Go.RowKit Go.Aev
set_option maxRecDepth 100000
theorem TY_EvH45:type_of% TY_EvH44:=TY_EvH44
def r65 (h:Hs) (door:Int) (slo shi:Int):Hs × Int:=(if (r87 h door)=true then (if (r84 h (r93 slo shi))=0 then (if 8<((r123 ((lget h.doors (Int.toNat door)).shut:List Sp) slo shi).length:Int) then ((⟨[],[],[]⟩:Hs),2) else ((⟨((h).rooms),((h).doors).set (Int.toNat door) (⟨(lget ((h).doors) (Int.toNat door)).hours,(r123 ((lget h.doors (Int.toNat door)).shut:List Sp) slo shi)⟩:Dr),((h).ways)⟩:Hs),0)) else ((⟨[],[],[]⟩:Hs),(r84 h (r93 slo shi)))) else ((⟨[],[],[]⟩:Hs),(r84 h false)))
set_option maxHeartbeats 8000000 in
theorem c65 (h:Hs) (door:Int) (slo shi:Int) (hF:Few h) (hs:∀ x ∈ h.rooms,x.name.size≤9223372036854775807) (S:AS) (v_h_rooms:Value) (hv_h_rooms:LstR S v_h_rooms h.rooms) (v_h_doors:Value) (hv_h_doors:LstR S v_h_doors h.doors) (v_h_ways:Value) (hv_h_ways:Lst S v_h_ways h.ways) :
  ∃ v'0 v'1 v'2 S',(evL Tryz.prog E0).call 65 #[.agg #[v_h_rooms,v_h_doors,v_h_ways],.int .i64 door,.agg #[.int .i64 slo,.int .i64 shi]] S=some (.tuple #[.agg #[v'0,v'1,v'2],.int .i64 (r65 h door slo shi).2],S')∧Agree S S'∧LstR S' v'0 ((r65 h door slo shi).1.rooms)∧LstR S' v'1 ((r65 h door slo shi).1.doors)∧Lst S' v'2 ((r65 h door slo shi).1.ways):=by
 have qr:=hF.r; have qd:=hF.d; have qw:=hF.w
 generalize hz:(evL Tryz.prog E0).call 65 _ _=z
 rw [L_call,evCall_said rfl Tryz.func65 rfl (by decide) Tryz.ntmps65 Tryz.results65] at hz
 obtain ⟨S1,e1,n1,b1,a1⟩:=push_open S (.cells [v_h_rooms,v_h_doors,v_h_ways] 26 0 true true)
 have g1:Agree S S1:=a1
 have s1:E0.same S S1=true:=symEnv_same a1
 obtain ⟨S2,e2,n2,b2,a2⟩:=push_open S1 (.cells [.int .i64 slo,.int .i64 shi] 36 0 true true)
 have v1_2:=(a2.2 S.next (by omega)).trans b1
 have g2:Agree S S2:=g1.trans a2
 have s2:E0.same S1 S2=true:=symEnv_same a2
 obtain ⟨S3,e3,n3,b3,a3⟩:=push_open S2 (.cells [.slice none 0 0,.slice none 0 0,.slice none 0 0] 26 0 true true)
 have v1_3:=(a3.2 S.next (by omega)).trans v1_2
 have v2_3:=(a3.2 S1.next (by omega)).trans b2
 have g3:Agree S S3:=g2.trans a3
 have s3:E0.same S2 S3=true:=symEnv_same a3
 try simp (disch:=first|omega|assumption) only [E0_G,SY,setArgs,off,agreeKind,allocV,boxed,Nat.reduceAdd,Nat.reduceSub,Nat.reduceLT,Nat.reduceBEq,TY_EvH45,e1,e2,e3] at hz
 rw [code_draws _ _ _ (by kernel_rfl)] at hz
 generalize hnd4:needy _=nd4 at hz
 obtain ⟨S5,k5,a5⟩:=c87 h door  S3 (v_h_rooms) (hv_h_rooms.agree g3) (v_h_doors) (hv_h_doors.agree g3) (v_h_ways) (hv_h_ways.agree g3)
 have l5:=a5.1
 have s5:E0.same S3 S5=true:=symEnv_same a5
 have v1_5:=(a5.2 S.next (by omega)).trans v1_3
 have v2_5:=(a5.2 S1.next (by omega)).trans v2_3
 have v3_5:=(a5.2 S2.next (by omega)).trans b3
 have g5:Agree S S5:=g3.trans a5
 try simp (disch:=first|omega|assumption) only [E0_G,SY,agreeKind,vals,ldA,rdCells,aggD,Nat.reduceAdd,Nat.reduceLT,Nat.reduceBEq,TY_EvH45,v1_3,store_agree,store_refl E0_same,k5] at hz
 rcases dB ((r87 h door)) with ⟨h6a,h6⟩|⟨h6a,h6⟩
 ·have lq7:=r87_iff.1 h6
  obtain ⟨S8,k8,a8⟩:=c93 slo shi  S5
  have l8:=a8.1
  have s8:E0.same S5 S8=true:=symEnv_same a8
  have v1_8:=(a8.2 S.next (by omega)).trans v1_5
  have v2_8:=(a8.2 S1.next (by omega)).trans v2_5
  have v3_8:=(a8.2 S2.next (by omega)).trans v3_5
  have g8:Agree S S8:=g5.trans a8
  obtain ⟨S9,k9,a9⟩:=c84 h (r93 slo shi) hF hs S8 (v_h_rooms) (hv_h_rooms.agree g8) (v_h_doors) (hv_h_doors.agree g8) (v_h_ways) (hv_h_ways.agree g8)
  have l9:=a9.1
  have s9:E0.same S8 S9=true:=symEnv_same a9
  have v1_9:=(a9.2 S.next (by omega)).trans v1_8
  have v2_9:=(a9.2 S1.next (by omega)).trans v2_8
  have v3_9:=(a9.2 S2.next (by omega)).trans v3_8
  have g9:Agree S S9:=g8.trans a9
  try simp (disch:=first|omega|assumption) only [E0_G,SY,off,agreeKind,vals,ldA,rdCells,aggD,Nat.reduceAdd,Nat.reduceLT,Nat.reduceBEq,TY_EvH45,store_agree,store_refl E0_same,v2_5,h6a,k8,k9] at hz
  rcases dP ((r84 h (r93 slo shi))=0) with ⟨h10a,h10⟩|⟨h10a,h10⟩
  ·have hV:=(r84_ok h10).1
   have lq11:=r93_iff.1 (r84_ok h10).2
   try simp (disch:=first|omega|assumption) only [SY,store_refl E0_same,h10a] at hz
   rw [code_draws _ _ _ (by kernel_rfl)] at hz
   generalize hnd12:needy _=nd12 at hz
   have qz13:((Int.toNat door:Nat):Int)=door:=Int.toNat_of_nonneg (by first|omega|simp; omega)
   have hx14:h.doors[(Int.toNat door)]?=some (lget h.doors (Int.toNat door)):=lget_some (by first|omega|simp; omega)
   obtain ⟨id14,of14,cc14,ty14,wr14,ex14,cs14,i14,j14,l14,rp14,q14⟩:=LstR.at (hv_h_doors) (P:=Tryz.prog) (t:=23) Tryz.underlying23 tz98 hx14
   obtain ⟨w14_0,w14_1,rp14,rr14_0,rr14_1⟩:=rp14
   have rq14:cs14=[w14_0,w14_1]:=rp14
   subst rq14
   have j14:=(g9.2 id14 l14).trans j14
   have m14_0:cc14[of14]?=some (w14_0):=q14 0 (show 0<2 by decide)
   have m14_1:cc14[of14+1]?=some (w14_1):=q14 1 (show 1<2 by decide)
   rw [qz13] at i14
   obtain ⟨u15,S15,k15,a15,oo15⟩:=c123 ((lget h.doors (Int.toNat door)).shut:List Sp) slo shi (Nat.le_trans (okd hV (List.mem_of_getElem? (by assumption))).sl (by decide)) (okd hV (List.mem_of_getElem? (by assumption))).s (by omega) S9 (w14_1) (rr14_1.agree g9)
   have l15:=a15.1
   obtain ⟨pu15,nu15,cu15,rfl⟩:=own_slice oo15
   have s15:E0.same S9 S15=true:=symEnv_same a15
   have v1_15:=(a15.2 S.next (by omega)).trans v1_9
   have v3_15:=(a15.2 S2.next (by omega)).trans v3_9
   have g15:Agree S S15:=g9.trans a15
   have w16:=(oo15.rows).len (P:=Tryz.prog) (t:=40) Tryz.underlying40
   try simp (disch:=first|omega|assumption) only [E0_G,SY,off,agreeKind,vals,ldA,rdCells,aggD,aField,Nat.reduceAdd,Nat.reduceLT,Nat.reduceBEq,TY_EvH45,store_agree,store_refl E0_same,v1_9,v2_9,i14,j14,m14_1,k15,w16] at hz
   rcases dP (8<((r123 ((lget h.doors (Int.toNat door)).shut:List Sp) slo shi).length:Int)) with ⟨h17a,h17⟩|⟨h17a,h17⟩
   ·have y18:aBuild Tryz.prog 26 []=some (.agg #[.slice none 0 0,.slice none 0 0,.slice none 0 0]):=by kernel_rfl
    obtain ⟨S19,k19,n19,b19,q19⟩:=st_at (o:=0) (c':=[.slice none 0 0,.slice none 0 0,.slice none 0 0]) (v:=.agg #[.slice none 0 0,.slice none 0 0,.slice none 0 0]) tz26 v3_15 rfl rfl (show 0+3≤3 by decide) rfl
    have o15_20:=oo15.frame (by omega) (fun id hid hb=>q19 id (fun e=>(show blkOf (.slice pu15 nu15 cu15)≠some S2.next from by first|exact oo15.ne (by omega)|exact oo15.new (by omega)|assumption) (e ▸ hb)))
    have g19:Agree S S19:=⟨by have:=(g15).1; omega,fun id hid=>(q19 id (by have:=(g15).1; omega)).trans ((g15).2 id hid)⟩
    try simp (disch:=first|omega|assumption) only [E0_G,SY,off,agreeKind,partVals,ldA,rdCells,aggD,Nat.reduceAdd,Nat.reduceLT,Nat.reduceBEq,TY_EvH45,store_refl E0_same,h17a,y18,k19,b19] at hz
    have hr:r65 h door slo shi=((⟨[],[],[]⟩:Hs),2):=(if_pos h6).trans ((if_pos h10).trans ((if_pos h17).trans (rfl)))
    exact ⟨.slice none 0 0,.slice none 0 0,.slice none 0 0,S19,by first|(rw [hr]; exact hz.symm)|exact hz.symm,g19,by rw [hr]; exact .inl ⟨rfl,.inl rfl⟩,by rw [hr]; exact .inl ⟨rfl,.inl rfl⟩,by rw [hr]; exact .inl ⟨rfl,.inl rfl⟩⟩
   obtain ⟨u21_0,u21_1,u21_2,S21,k21,a21,oo21_0,oo21_1,oo21_2,ab21_0_1,ab21_0_2,ab21_1_2⟩:=c124 h hF (fun y hy=>⟨Nat.le_trans (okd hV hy).hl (by decide),Nat.le_trans (okd hV hy).sl (by decide)⟩) S15 (v_h_rooms) (hv_h_rooms.agree g15) (v_h_doors) (hv_h_doors.agree g15) (v_h_ways) (hv_h_ways.agree g15)
   obtain ⟨pu21_0,nu21_0,cu21_0,rfl⟩:∃ p n c,u21_0=.slice p n c:=by first|exact own_slice oo21_0|exact oo21_0.slice
   have ap22:∀ b,blkOf (.slice pu15 nu15 cu15)=some b→blkOf (.slice pu21_0 nu21_0 cu21_0)≠some b:=fun b hb=>oo21_0.ne (Nat.lt_of_lt_of_le (oo15.lt hb) (by omega))
   obtain ⟨pu21_1,nu21_1,cu21_1,rfl⟩:∃ p n c,u21_1=.slice p n c:=by first|exact own_slice oo21_1|exact oo21_1.slice
   have ap23:∀ b,blkOf (.slice pu15 nu15 cu15)=some b→blkOf (.slice pu21_1 nu21_1 cu21_1)≠some b:=fun b hb=>oo21_1.ne (Nat.lt_of_lt_of_le (oo15.lt hb) (by omega))
   obtain ⟨pu21_2,nu21_2,cu21_2,rfl⟩:∃ p n c,u21_2=.slice p n c:=by first|exact own_slice oo21_2|exact oo21_2.slice
   have ap24:∀ b,blkOf (.slice pu15 nu15 cu15)=some b→blkOf (.slice pu21_2 nu21_2 cu21_2)≠some b:=fun b hb=>oo21_2.ne (Nat.lt_of_lt_of_le (oo15.lt hb) (by omega))
   have l21:=a21.1
   have s21:E0.same S15 S21=true:=symEnv_same a21
   have v1_21:=(a21.2 S.next (by omega)).trans v1_15
   have v3_21:=(a21.2 S2.next (by omega)).trans v3_15
   have o15_25:=oo15.agree a21
   have g21:Agree S S21:=g15.trans a21
   obtain ⟨S26,k26,n26,b26,q26⟩:=st_at (o:=0) (c':=[.slice pu21_0 nu21_0 cu21_0,.slice pu21_1 nu21_1 cu21_1,.slice pu21_2 nu21_2 cu21_2]) (v:=.agg #[.slice pu21_0 nu21_0 cu21_0,.slice pu21_1 nu21_1 cu21_1,.slice pu21_2 nu21_2 cu21_2]) tz26 v1_21 rfl rfl (show 0+3≤3 by decide) rfl
   have v3_26:=(q26 S2.next (by omega)).trans v3_21
   have o15_27:=o15_25.frame (by omega) (fun id hid hb=>q26 id (fun e=>(show blkOf (.slice pu15 nu15 cu15)≠some S.next from by first|exact o15_25.ne (by omega)|exact o15_25.new (by omega)|assumption) (e ▸ hb)))
   have o21_28:=oo21_0.frame (by omega) (fun id hid hb=>q26 id (fun e=>(show blkOf (.slice pu21_0 nu21_0 cu21_0)≠some S.next from by first|exact oo21_0.ne (by omega)|exact oo21_0.new (by omega)|assumption) (e ▸ hb)))
   have o21_29:=oo21_1.box v1_21 (by decide) (by omega) q26
   have o21_30:=oo21_2.frame (by omega) (fun id hid hb=>q26 id (fun e=>(show blkOf (.slice pu21_2 nu21_2 cu21_2)≠some S.next from by first|exact oo21_2.ne (by omega)|exact oo21_2.new (by omega)|assumption) (e ▸ hb)))
   have g26:Agree S S26:=⟨by have:=(g21).1; omega,fun id hid=>(q26 id (by have:=(g21).1; omega)).trans ((g21).2 id hid)⟩
   have qz31:((Int.toNat door:Nat):Int)=door:=Int.toNat_of_nonneg (by first|omega|simp; omega)
   have hx32:((h).doors)[(Int.toNat door)]?=some (lget ((h).doors) (Int.toNat door)):=lget_some (by first|omega|simp; omega)
   obtain ⟨id32,of32,cc32,ty32,wr32,ex32,cs32,i32,j32,l32,kp32,q32,bk32,oq32⟩:=o21_29.at (P:=Tryz.prog) (t:=23) Tryz.underlying23 tz98 hx32
   obtain ⟨w32_0,w32_1,rfl,kl32_0,kl32_1⟩:=kept_dr kp32
   have m32_0:cc32[of32]?=some (w32_0):=q32 0 (show 0<2 by decide)
   have m32_1:cc32[of32+1]?=some (w32_1):=q32 1 (show 1<2 by decide)
   rw [qz31] at i32
   obtain ⟨S33,k33,n33,o33,q33⟩:=o21_29.put1 (P:=Tryz.prog) hx32 j32 q32 rfl bk32 oq32 40 (.slice pu15 nu15 cu15) 1 (⟨(lget ((h).doors) (Int.toNat door)).hours,(r123 ((lget h.doors (Int.toNat door)).shut:List Sp) slo shi)⟩:Dr) tz40 rfl rfl (by decide) (ones_2 (kl32_0.now).one (o15_27.rows).one) (kept_mk kl32_0 (KL.own o15_27 (by decide) (by decide)))
   have v1_33:=(q33 S.next (fun e=>(show blkOf (.slice pu21_1 nu21_1 cu21_1)≠some S.next from by first|exact o21_29.nebox b26 (by decide)|exact o21_29.ne (by omega)|exact o21_29.new (by omega)|assumption) (e ▸ bk32))).trans b26
   have v3_33:=(q33 S2.next (fun e=>(show blkOf (.slice pu21_1 nu21_1 cu21_1)≠some S2.next from by first|exact o21_29.nebox v3_26 (by decide)|exact o21_29.ne (by omega)|exact o21_29.new (by omega)|assumption) (e ▸ bk32))).trans v3_26
   have o15_34:=o15_27.frame (by omega) (fun id hid hb=>q33 id (fun e=>(fun b h1 h2=>o21_29.apart o15_27 (by decide) b h1 h2) id hb (e ▸ bk32)))
   have o21_35:=o21_28.frame (by omega) (fun id hid hb=>q33 id (fun e=>(fun b h1 h2=>o21_29.apart o21_28 (by decide) b h1 h2) id hb (e ▸ bk32)))
   have o21_36:=o21_30.frame (by omega) (fun id hid hb=>q33 id (fun e=>(fun b h1 h2=>o21_29.apart o21_30 (by decide) b h1 h2) id hb (e ▸ bk32)))
   have g33:Agree S S33:=⟨by have:=(g26).1; omega,fun id hid=>(q33 id (fun e=>(show blkOf (.slice pu21_1 nu21_1 cu21_1)≠some id from o21_29.ne (by omega)) (e ▸ bk32))).trans ((g26).2 id hid)⟩
   obtain ⟨S37,k37,n37,b37,q37⟩:=st_at (o:=0) (c':=[.slice pu21_0 nu21_0 cu21_0,.slice pu21_1 nu21_1 cu21_1,.slice pu21_2 nu21_2 cu21_2]) (v:=.agg #[.slice pu21_0 nu21_0 cu21_0,.slice pu21_1 nu21_1 cu21_1,.slice pu21_2 nu21_2 cu21_2]) tz26 v3_33 rfl rfl (show 0+3≤3 by decide) rfl
   have o15_38:=o15_34.frame (by omega) (fun id hid hb=>q37 id (fun e=>(show blkOf (.slice pu15 nu15 cu15)≠some S2.next from by first|exact o15_34.ne (by omega)|exact o15_34.new (by omega)|assumption) (e ▸ hb)))
   have o21_39:=o21_35.frame (by omega) (fun id hid hb=>q37 id (fun e=>(show blkOf (.slice pu21_0 nu21_0 cu21_0)≠some S2.next from by first|exact o21_35.ne (by omega)|exact o21_35.new (by omega)|assumption) (e ▸ hb)))
   have o33_40:=o33.box v3_33 (by decide) (by omega) q37
   have o21_41:=o21_36.frame (by omega) (fun id hid hb=>q37 id (fun e=>(show blkOf (.slice pu21_2 nu21_2 cu21_2)≠some S2.next from by first|exact o21_36.ne (by omega)|exact o21_36.new (by omega)|assumption) (e ▸ hb)))
   have g37:Agree S S37:=⟨by have:=(g33).1; omega,fun id hid=>(q37 id (by have:=(g33).1; omega)).trans ((g33).2 id hid)⟩
   try simp (disch:=first|omega|assumption) only [E0_G,SY,off,agreeKind,vals,ldA,rdCells,aggD,aField,Nat.reduceAdd,Nat.reduceLT,Nat.reduceBEq,TY_EvH45,store_agree,store_refl E0_same,v1_15,h17a,k21,k26,b26,i32,v1_33,k33,k37,b37] at hz
   have hr:r65 h door slo shi=((⟨((h).rooms),((h).doors).set (Int.toNat door) (⟨(lget ((h).doors) (Int.toNat door)).hours,(r123 ((lget h.doors (Int.toNat door)).shut:List Sp) slo shi)⟩:Dr),((h).ways)⟩:Hs),0):=(if_pos h6).trans ((if_pos h10).trans ((if_neg h17).trans (rfl)))
   exact ⟨.slice pu21_0 nu21_0 cu21_0,.slice pu21_1 nu21_1 cu21_1,.slice pu21_2 nu21_2 cu21_2,S37,by first|(rw [hr]; exact hz.symm)|exact hz.symm,g37,by rw [hr]; exact rooms_rows (o21_39.rows) (rooms_names hv_h_rooms),by rw [hr]; exact o33_40.rows,by rw [hr]; exact o21_41.rows⟩
  have y42:aBuild Tryz.prog 26 []=some (.agg #[.slice none 0 0,.slice none 0 0,.slice none 0 0]):=by kernel_rfl
  obtain ⟨S43,k43,n43,b43,q43⟩:=st_at (o:=0) (c':=[.slice none 0 0,.slice none 0 0,.slice none 0 0]) (v:=.agg #[.slice none 0 0,.slice none 0 0,.slice none 0 0]) tz26 v3_9 rfl rfl (show 0+3≤3 by decide) rfl
  have g43:Agree S S43:=⟨by have:=(g9).1; omega,fun id hid=>(q43 id (by have:=(g9).1; omega)).trans ((g9).2 id hid)⟩
  try simp (disch:=first|omega|assumption) only [E0_G,SY,off,agreeKind,partVals,ldA,rdCells,aggD,Nat.reduceAdd,Nat.reduceLT,Nat.reduceBEq,TY_EvH45,store_refl E0_same,h10a,y42,k43,b43] at hz
  have hr:r65 h door slo shi=((⟨[],[],[]⟩:Hs),(r84 h (r93 slo shi))):=(if_pos h6).trans ((if_neg h10).trans (rfl))
  exact ⟨.slice none 0 0,.slice none 0 0,.slice none 0 0,S43,by first|(rw [hr]; exact hz.symm)|exact hz.symm,g43,by rw [hr]; exact .inl ⟨rfl,.inl rfl⟩,by rw [hr]; exact .inl ⟨rfl,.inl rfl⟩,by rw [hr]; exact .inl ⟨rfl,.inl rfl⟩⟩
 obtain ⟨S44,k44,a44⟩:=c84 h false hF hs S5 (v_h_rooms) (hv_h_rooms.agree g5) (v_h_doors) (hv_h_doors.agree g5) (v_h_ways) (hv_h_ways.agree g5)
 have l44:=a44.1
 have s44:E0.same S5 S44=true:=symEnv_same a44
 have v3_44:=(a44.2 S2.next (by omega)).trans v3_5
 have g44:Agree S S44:=g5.trans a44
 try simp (disch:=first|omega|assumption) only [E0_G,SY,off,agreeKind,vals,Nat.reduceAdd,Nat.reduceLT,Nat.reduceBEq,store_agree,store_refl E0_same,h6a,k44] at hz
 have h45:¬ ((r84 h false)=0):=r84_false
 have h45a:=decide_eq_false h45
 have y46:aBuild Tryz.prog 26 []=some (.agg #[.slice none 0 0,.slice none 0 0,.slice none 0 0]):=by kernel_rfl
 obtain ⟨S47,k47,n47,b47,q47⟩:=st_at (o:=0) (c':=[.slice none 0 0,.slice none 0 0,.slice none 0 0]) (v:=.agg #[.slice none 0 0,.slice none 0 0,.slice none 0 0]) tz26 v3_44 rfl rfl (show 0+3≤3 by decide) rfl
 have g47:Agree S S47:=⟨by have:=(g44).1; omega,fun id hid=>(q47 id (by have:=(g44).1; omega)).trans ((g44).2 id hid)⟩
 try simp (disch:=first|omega|assumption) only [E0_G,SY,off,agreeKind,partVals,ldA,rdCells,aggD,Nat.reduceAdd,Nat.reduceLT,Nat.reduceBEq,TY_EvH45,store_refl E0_same,h45a,y46,k47,b47] at hz
 have hr:r65 h door slo shi=((⟨[],[],[]⟩:Hs),(r84 h false)):=(if_neg h6).trans (rfl)
 exact ⟨.slice none 0 0,.slice none 0 0,.slice none 0 0,S47,by first|(rw [hr]; exact hz.symm)|exact hz.symm,g47,by rw [hr]; exact .inl ⟨rfl,.inl rfl⟩,by rw [hr]; exact .inl ⟨rfl,.inl rfl⟩,by rw [hr]; exact .inl ⟨rfl,.inl rfl⟩⟩
end House
end Go.Proofs
end
