import Derived.Test.YtohfdkdjfoonjaaGreatDoorBS
set_option linter.unusedSimpArgs false
set_option linter.unusedVariables false
namespace Go.Proofs
namespace House
open Go Go.RowKit Go.Aev
set_option maxRecDepth 100000
theorem tz134:szOf Tryz.prog 134=some 1:=by kernel_rfl
theorem tt134:inTab Tryz.prog 134=true:=by kernel_rfl
theorem t0_134:zeroOf Tryz.prog 134=some (.slice none 0 0):=by kernel_rfl
theorem tz141:szOf Tryz.prog 141=some 2:=by kernel_rfl
theorem tt141:inTab Tryz.prog 141=true:=by kernel_rfl
theorem t0_141:zeroOf Tryz.prog 141=some (.agg #[.slice none 0 0,.slice none 0 0]):=by kernel_rfl
theorem tz142:szOf Tryz.prog 142=some 2:=by kernel_rfl
theorem tt142:inTab Tryz.prog 142=true:=by kernel_rfl
theorem t0_142:zeroOf Tryz.prog 142=some (.agg #[.slice none 0 0,.slice none 0 0]):=by kernel_rfl
theorem tz148:szOf Tryz.prog 148=some 1:=by kernel_rfl
theorem tt148:inTab Tryz.prog 148=true:=by kernel_rfl
theorem t0_148:zeroOf Tryz.prog 148=some (.slice none 0 0):=by kernel_rfl
theorem TY_EvH21:type_of% (And.intro TY_EvH20 (And.intro (And.intro (And.intro (And.intro Tryz.underlying134 tz134) (And.intro tt134 t0_134)) (And.intro (And.intro Tryz.underlying141 tz141) (And.intro tt141 t0_141))) (And.intro (And.intro (And.intro Tryz.underlying142 tz142) (And.intro tt142 t0_142)) (And.intro (And.intro Tryz.underlying148 tz148) (And.intro tt148 t0_148))))):=(And.intro TY_EvH20 (And.intro (And.intro (And.intro (And.intro Tryz.underlying134 tz134) (And.intro tt134 t0_134)) (And.intro (And.intro Tryz.underlying141 tz141) (And.intro tt141 t0_141))) (And.intro (And.intro (And.intro Tryz.underlying142 tz142) (And.intro tt142 t0_142)) (And.intro (And.intro Tryz.underlying148 tz148) (And.intro tt148 t0_148)))))
theorem lget_set_le {l:List Int} {i j:Nat} {x c:Int} (h:lget l i≤c) (hx:x<lget l j):lget (l.set j x) i≤c:=by
 unfold lget at *
 rw [List.getD_eq_getElem?_getD] at *
 rw [List.getElem?_set]
 by_cases hj:j=i
 ·subst hj
  rw [if_pos rfl]
  split
  ·simp only [Option.getD_some]; omega
  ·rename_i hlt
   rw [List.getElem?_eq_none (by omega)] at h
   exact h
 ·rw [if_neg hj]; exact h
theorem cnt_lt {times:List Int} {left:List Bool} {here:Int} {m:Nat} (hH:Hr times left here) (h0:¬ here<0) (hl:here<(left.length:Int)) (h:left.count false<m+1):(left.set here.toNat true).count false<m:=by
 have q:=hH.get h0
 have:=cnt_set left here.toNat (by omega) q.2.2.2
 omega
theorem cnt_rep (n:Nat):(List.replicate n false).count false<n+1:=by rw [List.count_replicate_self]; omega
def R109_1 (rooms:Nat) (fr:Int) (ti:Int) (l:List Pg) (g:Pg→Int→Int) (times:List Int) (by_:List Int) (left:List Bool):List Int→Nat→Int→Int
 | [],kv,here=>here
 | x56 :: l',kv,here=>(if (lget left kv)=true then R109_1 rooms fr ti l g times by_ left l' (kv+1) here else (if x56≤1073741823 then (if here<0 then R109_1 rooms fr ti l g times by_ left l' (kv+1) (kv:Int) else (if x56<(lget times (Int.toNat here)) then R109_1 rooms fr ti l g times by_ left l' (kv+1) (kv:Int) else R109_1 rooms fr ti l g times by_ left l' (kv+1) here)) else R109_1 rooms fr ti l g times by_ left l' (kv+1) here))
def R109_2 (rooms:Nat) (fr:Int) (ti:Int) (l:List Pg) (g:Pg→Int→Int) (times:List Int) (by_:List Int) (left:List Bool):List Pg→List Int→List Int→Nat→(List Int) × (List Int)
 | [],times2,by2,jv=>(times2,by2)
 | x81 :: l',times2,by2,jv=>(if x81.fr=(R109_1 rooms fr ti l g times by_ left times 0 (-1)) then (if (g x81 (lget times2 (Int.toNat (R109_1 rooms fr ti l g times by_ left times 0 (-1)))))<(lget times2 (Int.toNat x81.to)) then R109_2 rooms fr ti l g times by_ left l' (times2.set (Int.toNat x81.to) (g x81 (lget times2 (Int.toNat (R109_1 rooms fr ti l g times by_ left times 0 (-1)))))) (by2.set (Int.toNat x81.to) (jv:Int)) (jv+1) else R109_2 rooms fr ti l g times by_ left l' times2 by2 (jv+1)) else R109_2 rooms fr ti l g times by_ left l' times2 by2 (jv+1))
def R109_0 (rooms:Nat) (fr:Int) (ti:Int) (l:List Pg) (g:Pg→Int→Int)  : Nat→List Int→List Int→List Bool→(List Int) × (List Int)
 | 0,times,by_,left=>(times,by_)
 | m'+1,times,by_,left=>(if (R109_1 rooms fr ti l g times by_ left times 0 (-1))<0 then (times,by_) else R109_0 rooms fr ti l g m' ((R109_2 rooms fr ti l g times by_ left l times by_ 0).1) ((R109_2 rooms fr ti l g times by_ left l times by_ 0).2) (left.set (Int.toNat (R109_1 rooms fr ti l g times by_ left times 0 (-1))) true))
def r109 (rooms:Nat) (fr:Int) (ti:Int) (l:List Pg) (g:Pg→Int→Int):(List Int × List Int):=((R109_0 rooms fr ti l g (rooms+1) ((List.replicate rooms (1073741824:Int)).set (Int.toNat fr) ti) (List.replicate rooms (-1:Int)) (List.replicate rooms false)).1,(R109_0 rooms fr ti l g (rooms+1) ((List.replicate rooms (1073741824:Int)).set (Int.toNat fr) ti) (List.replicate rooms (-1:Int)) (List.replicate rooms false)).2)
set_option maxHeartbeats 8000000 in
theorem c109 (rooms:Nat) (fr:Int) (ti:Int) (l:List Pg) (g:Pg→Int→Int) (hr:0<rooms∧rooms≤1000) (hf:0≤fr∧fr<rooms) (ht:0≤ti∧ti≤1073741823) (hl:l.length≤1000) (hp:∀ p ∈ l,0≤p.fr∧p.fr<rooms∧0≤p.to∧p.to<rooms) (hg:∀ p ∈ l,∀ t,0≤t∧t≤1073741823→0≤g p t∧g p t≤1073741824) (S:AS) (v_l:Value) (hv_l:Lst S v_l l) (kf_g:FuncId) (cs_g ds_g:Array Value) (hc_g:∀ S',Agree S S'→∀ (p:Pg) (t:Int),p ∈ l→0≤t∧t≤1073741823→∃ S'',(evL Tryz.prog E0).call kf_g (cs_g++#[.agg (cellsOf p).toArray,.int .i64 t]++ds_g) S'=some (.int .i64 (g p t),S'')∧Agree S' S'') :
  ∃ v'0 v'1 S',(evL Tryz.prog E0).call 109 #[.int .i64 (rooms:Int),.int .i64 fr,.int .i64 ti,v_l,.func (.func kf_g) cs_g ds_g] S=some (.agg #[v'0,v'1],S')∧Agree S S'∧Own 3 S.next S' v'0 ((r109 rooms fr ti l g).1)∧Own 3 S.next S' v'1 ((r109 rooms fr ti l g).2)∧(∀ b,blkOf v'0=some b→blkOf v'1≠some b):=by
 generalize hz:(evL Tryz.prog E0).call 109 _ _=z
 rw [L_call,evCall_said rfl Tryz.func109 rfl (by decide) Tryz.ntmps109 Tryz.results109] at hz
 obtain ⟨S1,e1,n1,b1,a1⟩:=push_open S (.cells [.slice none 0 0,.slice none 0 0] 142 0 true true)
 have g1:Agree S S1:=a1
 have s1:E0.same S S1=true:=symEnv_same a1
 have y2:aBuildSlice Tryz.prog 54 1 [(0,.int .i64 1073741824)] S1=some (.slice (some ⟨S1.next,0,none⟩) 1 1,S1.push (.cells [.int .i64 1073741824] 3 1 true true)):=by kernel_rfl
 obtain ⟨S3,e3,n3,b3,a3⟩:=push_open S1 (.cells [.int .i64 1073741824] 3 1 true true)
 have v1_3:=(a3.2 S.next (by omega)).trans b1
 have g3:Agree S S3:=g1.trans a3
 have s3:E0.same S1 S3=true:=symEnv_same a3
 have o4:Own 3 S1.next S3 (.slice (some ⟨S1.next,0,none⟩) 1 1) ([1073741824]:List Int):=.inr ⟨_,true,rfl,Nat.le_refl _,by omega,b3⟩
 obtain ⟨u5,S5,k5,a5,oo5⟩:=c149 1073741824 rooms (by omega) S3 (.slice (some ⟨S1.next,0,none⟩) 1 1) (o4.rows)
 have l5:=a5.1
 obtain ⟨pu5,nu5,cu5,rfl⟩:=own_slice oo5
 have ap6:∀ b,blkOf (.slice (some ⟨S1.next,0,none⟩) 1 1)=some b→blkOf (.slice pu5 nu5 cu5)≠some b:=fun b hb=>oo5.ne (Nat.lt_of_lt_of_le (o4.lt hb) (by omega))
 have s5:E0.same S3 S5=true:=symEnv_same a5
 have v1_5:=(a5.2 S.next (by omega)).trans v1_3
 have o4_7:=o4.agree a5
 have g5:Agree S S5:=g3.trans a5
 have y8:aBuildSlice Tryz.prog 54 1 [(0,.int .i64 (-1))] S5=some (.slice (some ⟨S5.next,0,none⟩) 1 1,S5.push (.cells [.int .i64 (-1)] 3 1 true true)):=by kernel_rfl
 obtain ⟨S9,e9,n9,b9,a9⟩:=push_open S5 (.cells [.int .i64 (-1)] 3 1 true true)
 have v1_9:=(a9.2 S.next (by omega)).trans v1_5
 have o4_10:=o4_7.agree a9
 have o5_11:=oo5.agree a9
 have g9:Agree S S9:=g5.trans a9
 have s9:E0.same S5 S9=true:=symEnv_same a9
 have ne12:blkOf (.slice (some ⟨S1.next,0,none⟩) 1 1)≠some S5.next:=o4_7.new (Nat.le_refl _)
 have ne13:blkOf (.slice pu5 nu5 cu5)≠some S5.next:=oo5.new (Nat.le_refl _)
 have o14:Own 3 S5.next S9 (.slice (some ⟨S5.next,0,none⟩) 1 1) ([-1]:List Int):=.inr ⟨_,true,rfl,Nat.le_refl _,by omega,b9⟩
 have ap15:∀ b,blkOf (.slice (some ⟨S1.next,0,none⟩) 1 1)=some b→blkOf (.slice (some ⟨S5.next,0,none⟩) 1 1)≠some b:=fun b hb=>o14.ne (Nat.lt_of_lt_of_le (o4_7.lt hb) (by omega))
 have ap16:∀ b,blkOf (.slice pu5 nu5 cu5)=some b→blkOf (.slice (some ⟨S5.next,0,none⟩) 1 1)≠some b:=fun b hb=>o14.ne (Nat.lt_of_lt_of_le (oo5.lt hb) (by omega))
 obtain ⟨u17,S17,k17,a17,oo17⟩:=c149 (-1) rooms (by omega) S9 (.slice (some ⟨S5.next,0,none⟩) 1 1) (o14.rows)
 have l17:=a17.1
 obtain ⟨pu17,nu17,cu17,rfl⟩:=own_slice oo17
 have ap18:∀ b,blkOf (.slice (some ⟨S1.next,0,none⟩) 1 1)=some b→blkOf (.slice pu17 nu17 cu17)≠some b:=fun b hb=>oo17.ne (Nat.lt_of_lt_of_le (o4_10.lt hb) (by omega))
 have ap19:∀ b,blkOf (.slice pu5 nu5 cu5)=some b→blkOf (.slice pu17 nu17 cu17)≠some b:=fun b hb=>oo17.ne (Nat.lt_of_lt_of_le (o5_11.lt hb) (by omega))
 have ap20:∀ b,blkOf (.slice (some ⟨S5.next,0,none⟩) 1 1)=some b→blkOf (.slice pu17 nu17 cu17)≠some b:=fun b hb=>oo17.ne (Nat.lt_of_lt_of_le (o14.lt hb) (by omega))
 have s17:E0.same S9 S17=true:=symEnv_same a17
 have v1_17:=(a17.2 S.next (by omega)).trans v1_9
 have o4_21:=o4_10.agree a17
 have o5_22:=o5_11.agree a17
 have o14_23:=o14.agree a17
 have g17:Agree S S17:=g9.trans a17
 have y24:aBuild Tryz.prog 142 [(0,.slice pu5 nu5 cu5),(1,.slice pu17 nu17 cu17)]=some (.agg #[.slice pu5 nu5 cu5,.slice pu17 nu17 cu17]):=by kernel_rfl
 obtain ⟨S25,e25,n25,b25,a25⟩:=push_open S17 (.cells [.slice none 0 0,.slice none 0 0] 142 0 true true)
 have v1_25:=(a25.2 S.next (by omega)).trans v1_17
 have o4_26:=o4_21.agree a25
 have o5_27:=o5_22.agree a25
 have o14_28:=o14_23.agree a25
 have o17_29:=oo17.agree a25
 have g25:Agree S S25:=g17.trans a25
 have s25:E0.same S17 S25=true:=symEnv_same a25
 have ne30:blkOf (.slice (some ⟨S1.next,0,none⟩) 1 1)≠some S17.next:=o4_21.new (Nat.le_refl _)
 have ne31:blkOf (.slice pu5 nu5 cu5)≠some S17.next:=o5_22.new (Nat.le_refl _)
 have ne32:blkOf (.slice (some ⟨S5.next,0,none⟩) 1 1)≠some S17.next:=o14_23.new (Nat.le_refl _)
 have ne33:blkOf (.slice pu17 nu17 cu17)≠some S17.next:=oo17.new (Nat.le_refl _)
 obtain ⟨S34,k34,n34,b34,q34⟩:=st_at (o:=0) (c':=[.slice pu5 nu5 cu5,.slice pu17 nu17 cu17]) (v:=.agg #[.slice pu5 nu5 cu5,.slice pu17 nu17 cu17]) tz142 b25 rfl rfl (show 0+2≤2 by decide) rfl
 have v1_34:=(q34 S.next (by omega)).trans v1_25
 have o4_35:=o4_26.frame (by omega) (fun id hid hb=>q34 id (fun e=>(show blkOf (.slice (some ⟨S1.next,0,none⟩) 1 1)≠some S17.next from by first|exact o4_26.ne (by omega)|exact o4_26.new (by omega)|assumption) (e ▸ hb)))
 have o5_36:=o5_27.frame (by omega) (fun id hid hb=>q34 id (fun e=>(show blkOf (.slice pu5 nu5 cu5)≠some S17.next from by first|exact o5_27.ne (by omega)|exact o5_27.new (by omega)|assumption) (e ▸ hb)))
 have o14_37:=o14_28.frame (by omega) (fun id hid hb=>q34 id (fun e=>(show blkOf (.slice (some ⟨S5.next,0,none⟩) 1 1)≠some S17.next from by first|exact o14_28.ne (by omega)|exact o14_28.new (by omega)|assumption) (e ▸ hb)))
 have o17_38:=o17_29.frame (by omega) (fun id hid hb=>q34 id (fun e=>(show blkOf (.slice pu17 nu17 cu17)≠some S17.next from by first|exact o17_29.ne (by omega)|exact o17_29.new (by omega)|assumption) (e ▸ hb)))
 have g34:Agree S S34:=⟨by have:=(g25).1; omega,fun id hid=>(q34 id (by have:=(g25).1; omega)).trans ((g25).2 id hid)⟩
 have qz39:((Int.toNat fr:Nat):Int)=fr:=Int.toNat_of_nonneg (by first|omega|simp; omega)
 have hx40:(List.replicate rooms (1073741824:Int))[(Int.toNat fr)]?=some (lget (List.replicate rooms (1073741824:Int)) (Int.toNat fr)):=lget_some (by first|omega|simp; omega)
 obtain ⟨id40,of40,cc40,ty40,wr40,ex40,i40,j40,l40,q40,lb40,bk40,oq40⟩:=o5_36.at4 (P:=Tryz.prog) (t:=54) Tryz.underlying54 tz3 hx40
 have m40_0:cc40[of40]?=some (.int .i64 (lget (List.replicate rooms (1073741824:Int)) (Int.toNat fr))):=q40 0 (show 0<1 by decide)
 rw [qz39] at i40
 obtain ⟨S41,k41,n41,o41,q41⟩:=o5_36.put1 (P:=Tryz.prog) (lget_some (l:=List.replicate rooms (1073741824:Int)) (by first|omega|simp; omega)) bk40 oq40 3 (.int .i64 ti) 0 ti tz3 rfl rfl (by decide) rfl
 replace k41:stA Tryz.prog 3 ⟨id40,of40,none⟩ (.int .i64 ti) S34=some S41:=k41
 have v1_41:=(q41 S.next (fun e=>(show blkOf (.slice pu5 nu5 cu5)≠some S.next from by first|exact o5_36.ne (by omega)|exact o5_36.new (by omega)|assumption) (e ▸ bk40))).trans v1_34
 have v25_41:=(q41 S17.next (fun e=>(show blkOf (.slice pu5 nu5 cu5)≠some S17.next from by first|exact o5_36.ne (by omega)|exact o5_36.new (by omega)|assumption) (e ▸ bk40))).trans b34
 have o4_42:=o4_35.frame (by omega) (fun id hid hb=>q41 id (fun e=>ap6 id hb (e ▸ bk40)))
 have o14_43:=o14_37.frame (by omega) (fun id hid hb=>q41 id (fun e=>(fun b h1 h2=>ap16 b h2 h1) id hb (e ▸ bk40)))
 have o17_44:=o17_38.frame (by omega) (fun id hid hb=>q41 id (fun e=>(fun b h1 h2=>ap19 b h2 h1) id hb (e ▸ bk40)))
 have g41:Agree S S41:=⟨by have:=(g34).1; omega,fun id hid=>(q41 id (fun e=>(show blkOf (.slice pu5 nu5 cu5)≠some id from o5_36.ne (by omega)) (e ▸ bk40))).trans ((g34).2 id hid)⟩
 obtain ⟨u45,S45,k45,vq45,a45,oo45⟩:=make_own (P:=Tryz.prog) (t:=148) (el:=4) (x0:=false) (n:=rooms) (k:=.i64) (k':=.i64) S41 Tryz.underlying148 ti4 t0_4 rfl tz4 rfl (by omega)
 subst vq45
 have l45:=a45.1
 have s45:E0.same S41 S45=true:=symEnv_same a45
 have ap46:∀ b,blkOf (.slice (some ⟨S1.next,0,none⟩) 1 1)=some b→blkOf (.slice (some ⟨S41.next,0,none⟩) rooms rooms)≠some b:=fun b hb=>oo45.ne (Nat.lt_of_lt_of_le (o4_42.lt hb) (by omega))
 have ap47:∀ b,blkOf (.slice pu5 nu5 cu5)=some b→blkOf (.slice (some ⟨S41.next,0,none⟩) rooms rooms)≠some b:=fun b hb=>oo45.ne (Nat.lt_of_lt_of_le (o41.lt hb) (by omega))
 have ap48:∀ b,blkOf (.slice (some ⟨S5.next,0,none⟩) 1 1)=some b→blkOf (.slice (some ⟨S41.next,0,none⟩) rooms rooms)≠some b:=fun b hb=>oo45.ne (Nat.lt_of_lt_of_le (o14_43.lt hb) (by omega))
 have ap49:∀ b,blkOf (.slice pu17 nu17 cu17)=some b→blkOf (.slice (some ⟨S41.next,0,none⟩) rooms rooms)≠some b:=fun b hb=>oo45.ne (Nat.lt_of_lt_of_le (o17_44.lt hb) (by omega))
 have v1_45:=(a45.2 S.next (by omega)).trans v1_41
 have v25_45:=(a45.2 S17.next (by omega)).trans v25_41
 have o4_50:=o4_42.agree a45
 have o41_51:=o41.agree a45
 have o14_52:=o14_43.agree a45
 have o17_53:=o17_44.agree a45
 have g45:Agree S S45:=g41.trans a45
 try simp (disch:=first|omega|assumption) only [E0_G,SY,setArgs,off,agreeKind,partVals,vals,allocV,ldA,aggD,aField,Nat.reduceAdd,Nat.reduceSub,Nat.reduceLT,Nat.reduceBEq,TY_EvH21,e1,cd_scope,y2,e3,k5,y8,e9,k17,y24,e25,k34,b34,i40,k41,k45,op_makeSlice] at hz
 generalize hL54:Rec.loop _ _ _ _=L54 at hz
 obtain ⟨x54,t54,S54e,rfl,hQ54⟩:=loop_met hL54 (fun m t S'=>∃ (times:List Int) (by_:List Int) (left:List Bool),left.count false<m∧Tm rooms times∧times.length=rooms∧by_.length=rooms∧left.length=rooms∧t.get 3=some (v_l)∧t.get 4=some (.func (.func kf_g) cs_g ds_g)∧t.get 10=some (.pointer (some ⟨S.next,0,none⟩))∧t.get 11=some (.pointer (some ⟨S17.next,0,none⟩))∧t.get 12=some (.slice (some ⟨S41.next,0,none⟩) rooms rooms)∧S'.heap.get S.next=some (.cells [.slice none 0 0,.slice none 0 0] 142 0 true true)∧S'.heap.get S17.next=some (.cells [.slice pu5 nu5 cu5,.slice pu17 nu17 cu17] 142 0 true true)∧Agree S S'∧S45.next≤S'.next∧Own 3 S3.next S' (.slice pu5 nu5 cu5) times∧Own 3 S9.next S' (.slice pu17 nu17 cu17) by_∧Own 4 S41.next S' (.slice (some ⟨S41.next,0,none⟩) rooms rooms) left∧R109_0 rooms fr ti l g m times by_ left=R109_0 rooms fr ti l g (rooms+1) ((List.replicate rooms (1073741824:Int)).set (Int.toNat fr) ti) (List.replicate rooms (-1:Int)) (List.replicate rooms false))
  (fun x t S'=>x=.exit 0∧∃ (times:List Int) (by_:List Int) (left:List Bool),t.get 10=some (.pointer (some ⟨S.next,0,none⟩))∧t.get 11=some (.pointer (some ⟨S17.next,0,none⟩))∧S'.heap.get S.next=some (.cells [.slice none 0 0,.slice none 0 0] 142 0 true true)∧S'.heap.get S17.next=some (.cells [.slice pu5 nu5 cu5,.slice pu17 nu17 cu17] 142 0 true true)∧Agree S S'∧S45.next≤S'.next∧Own 3 S3.next S' (.slice pu5 nu5 cu5) times∧Own 3 S9.next S' (.slice pu17 nu17 cu17) by_∧Own 4 S41.next S' (.slice (some ⟨S41.next,0,none⟩) rooms rooms) left∧Tm rooms times∧times.length=rooms∧by_.length=rooms∧left.length=rooms∧R109_0 rooms fr ti l g (rooms+1) ((List.replicate rooms (1073741824:Int)).set (Int.toNat fr) ti) (List.replicate rooms (-1:Int)) (List.replicate rooms false)=(times,by_)) (rooms+1) (by refine ⟨((List.replicate rooms (1073741824:Int)).set (Int.toNat fr) ti),(List.replicate rooms (-1:Int)),(List.replicate rooms false),?_,?_,?_,?_,?_,?_,?_,?_,?_,?_,v1_45,v25_45,g45,Nat.le_refl _,o41_51,o17_53,oo45,rfl⟩<;>first|(simp only [SY,eq_self,Nat.reduceBEq]<;>rfl)|omega|assumption|assumption|exact Tm.set (by assumption) _ (by omega)|exact Tm.set (Tm.rep _ (by decide)) _ (by omega)|exact Hr.init _ _|exact Hr.at (by omega) (by assumption) (by omega) (by assumption)|exact (Hr.get (by assumption) (by assumption)).2.2.1|exact lget_set_le (by assumption) (by omega)|exact cnt_lt (by assumption) (by omega) (by omega) (by omega)|exact cnt_rep _|(simp; omega)|simp) (by
   rintro m t S54 ⟨times,by_,left,hi54_0,hi54_1,hi54_2,hi54_3,hi54_4,g54_3,g54_4,g54_10,g54_11,g54_12,bb54_1,bb54_25,ga54,gn54,ow_times,ow_by_,ow_left,hd54⟩
   refine .run fun z he=>?_
   have w55:=(ow_times.rows).len (P:=Tryz.prog) (t:=54) Tryz.underlying54
   try simp (disch:=first|omega|assumption) only [E0_G,SY,off,agreeKind,ldA,aggD,aField,Nat.reduceAdd,Nat.reduceLT,Nat.reduceBEq,TY_EvH21,g54_11,bb54_25,w55] at he
   generalize hL56:Rec.loop _ _ _ _=L56 at he
   obtain ⟨x56,t56,S56e,rfl,hQ56⟩:=loop_met hL56 (fun m t S'=>∃ (kv:Nat) (here:Int),m+kv=times.length∧Hr times left here ∧ -1≤here∧here<(rooms:Int)∧kv≤times.length∧t.get 3=some (v_l)∧t.get 4=some (.func (.func kf_g) cs_g ds_g)∧t.get 10=some (.pointer (some ⟨S.next,0,none⟩))∧t.get 11=some (.pointer (some ⟨S17.next,0,none⟩))∧t.get 12=some (.slice (some ⟨S41.next,0,none⟩) rooms rooms)∧t.get 13=some (.int .i64 here)∧t.get 34=some (.slice pu5 nu5 cu5)∧t.get 35=some (.int .i64 (times.length:Int))∧t.get 36=some (.int .i64 (kv:Int))∧S'.heap.get S.next=some (.cells [.slice none 0 0,.slice none 0 0] 142 0 true true)∧S'.heap.get S17.next=some (.cells [.slice pu5 nu5 cu5,.slice pu17 nu17 cu17] 142 0 true true)∧Agree S S'∧S54.next≤S'.next∧Own 4 S41.next S' (.slice (some ⟨S41.next,0,none⟩) rooms rooms) left∧Own 3 S3.next S' (.slice pu5 nu5 cu5) times∧Own 3 S9.next S' (.slice pu17 nu17 cu17) by_∧R109_1 rooms fr ti l g times by_ left (times.drop kv) kv here=R109_1 rooms fr ti l g times by_ left times 0 (-1))
    (fun x t S'=>x=.exit 2∧∃ (kv:Nat) (here:Int),t.get 3=some (v_l)∧t.get 4=some (.func (.func kf_g) cs_g ds_g)∧t.get 10=some (.pointer (some ⟨S.next,0,none⟩))∧t.get 11=some (.pointer (some ⟨S17.next,0,none⟩))∧t.get 12=some (.slice (some ⟨S41.next,0,none⟩) rooms rooms)∧t.get 13=some (.int .i64 here)∧S'.heap.get S.next=some (.cells [.slice none 0 0,.slice none 0 0] 142 0 true true)∧S'.heap.get S17.next=some (.cells [.slice pu5 nu5 cu5,.slice pu17 nu17 cu17] 142 0 true true)∧Agree S S'∧S54.next≤S'.next∧Own 4 S41.next S' (.slice (some ⟨S41.next,0,none⟩) rooms rooms) left∧Own 3 S3.next S' (.slice pu5 nu5 cu5) times∧Own 3 S9.next S' (.slice pu17 nu17 cu17) by_∧Hr times left here ∧ -1≤here∧here<(rooms:Int)∧kv≤times.length∧R109_1 rooms fr ti l g times by_ left times 0 (-1)=here) (times.length - 0) (by refine ⟨0,-1,?_,?_,?_,?_,?_,?_,?_,?_,?_,?_,?_,?_,?_,?_,bb54_1,bb54_25,ga54,Nat.le_refl _,ow_left,ow_times,ow_by_,rfl⟩<;>first|(simp only [SY,eq_self,Nat.reduceBEq,Int.reduceLE,g54_3,g54_4,g54_10,g54_11,g54_12]<;>rfl)|omega|assumption|assumption|exact Tm.set (by assumption) _ (by omega)|exact Tm.set (Tm.rep _ (by decide)) _ (by omega)|exact Hr.init _ _|exact Hr.at (by omega) (by assumption) (by omega) (by assumption)|exact (Hr.get (by assumption) (by assumption)).2.2.1|exact lget_set_le (by assumption) (by omega)|exact cnt_lt (by assumption) (by omega) (by omega) (by omega)|exact cnt_rep _|(simp; omega)|simp) (by
     rintro m t S56 ⟨kv,here,hi56_0,hi56_1,hi56_2,hi56_3,hi56_4,g56_3,g56_4,g56_10,g56_11,g56_12,g56_13,g56_34,g56_35,g56_36,bb56_1,bb56_25,ga56,gn56,cw56_0,cw56_1,cw56_2,hd56⟩
     refine .run fun z he=>?_
     try simp only [E0_G,SY,off,agreeKind,Nat.reduceLT,Nat.reduceBEq,g56_35,g56_36] at he
     rcases dP ((kv:Int)<(times.length:Int)) with ⟨h57a,h57⟩|⟨h57a,h57⟩
     ·have hx56:times[kv]?=some (times[kv]'(by first|omega|simp; omega)):=List.getElem?_eq_getElem _
      generalize times[kv]'_=x56 at hx56
      have eb59:=Tm.at (by assumption:Tm rooms times) hx56
      obtain ⟨id58,of58,cc58,ty58,wr58,ex58,i58,j58,l58,q58,lb58,bk58,oq58⟩:=cw56_1.at4 (P:=Tryz.prog) (t:=54) Tryz.underlying54 tz3 hx56
      have m58_0:cc58[of58]?=some (.int .i64 x56):=q58 0 (show 0<1 by decide)
      have hx60:left[kv]?=some (lget left kv):=lget_some (by first|omega|simp; omega)
      obtain ⟨id60,of60,cc60,ty60,wr60,ex60,i60,j60,l60,q60,lb60,bk60,oq60⟩:=cw56_0.at4 (P:=Tryz.prog) (t:=148) Tryz.underlying148 tz4 hx60
      have m60_0:cc60[of60]?=some (.bool (lget left kv)):=q60 0 (show 0<1 by decide)
      try simp only [E0_G,SY,off,agreeKind,ldA,aggD,Nat.reduceAdd,Nat.reduceLT,Nat.reduceBEq,TY_EvH21,g56_12,g56_34,g56_36,h57a,i58,j58,m58_0,i60,j60,m60_0] at he
      rcases dB ((lget left kv)) with ⟨h61a,h61⟩|⟨h61a,h61⟩
      ·have w62:IntKind.i64.wrap ((kv:Int)+1)=((kv+1:Nat):Int):=by rw [IntWalk.i64_in]<;>omega
       try simp only [E0_G,SY,off,agreeKind,Nat.reduceAdd,Nat.reduceLT,Nat.reduceBEq,g56_36,h61a,w62] at he
       rw [drop_cons' hx56] at hd56
       have hf:=(show _=(R109_1 rooms fr ti l g times by_ left (times.drop (kv+1)) (kv+1) here:Int) from (if_pos h61).trans (rfl)).symm.trans hd56
       refine .next he (m - 1) (by omega) ⟨(kv+1),here,?_,?_,?_,?_,?_,?_,?_,?_,?_,?_,?_,?_,?_,?_,bb56_1,bb56_25,ga56,by omega,cw56_0,cw56_1,cw56_2,hf⟩<;>first|(simp only [SY,eq_self,Nat.reduceBEq,g56_3,g56_4,g56_10,g56_11,g56_12,g56_13,g56_34,g56_35,g56_36]<;>rfl)|omega|assumption|assumption|exact Tm.set (by assumption) _ (by omega)|exact Tm.set (Tm.rep _ (by decide)) _ (by omega)|exact Hr.init _ _|exact Hr.at (by omega) (by assumption) (by omega) (by assumption)|exact (Hr.get (by assumption) (by assumption)).2.2.1|exact lget_set_le (by assumption) (by omega)|exact cnt_lt (by assumption) (by omega) (by omega) (by omega)|exact cnt_rep _|(simp; omega)|simp
      try simp only [E0_G,SY,off,agreeKind,Nat.reduceAdd,Nat.reduceLT,Nat.reduceBEq,h61a] at he
      rcases dP (x56≤1073741823) with ⟨h63a,h63⟩|⟨h63a,h63⟩
      ·try simp only [E0_G,SY,off,agreeKind,Nat.reduceAdd,Nat.reduceLT,Nat.reduceBEq,g56_13,h63a] at he
       rcases dP (here<0) with ⟨h64a,h64⟩|⟨h64a,h64⟩
       ·have w65:IntKind.i64.wrap ((kv:Int)+1)=((kv+1:Nat):Int):=by rw [IntWalk.i64_in]<;>omega
        try simp only [E0_G,SY,off,agreeKind,Nat.reduceAdd,Nat.reduceLT,Nat.reduceBEq,g56_36,h64a,w65] at he
        rw [drop_cons' hx56] at hd56
        have hf:=(show _=(R109_1 rooms fr ti l g times by_ left (times.drop (kv+1)) (kv+1) (kv:Int):Int) from (if_neg h61).trans ((if_pos h63).trans ((if_pos h64).trans (rfl)))).symm.trans hd56
        refine .next he (m - 1) (by omega) ⟨(kv+1),(kv:Int),?_,?_,?_,?_,?_,?_,?_,?_,?_,?_,?_,?_,?_,?_,bb56_1,bb56_25,ga56,by omega,cw56_0,cw56_1,cw56_2,hf⟩<;>first|(simp only [SY,eq_self,Nat.reduceBEq,g56_3,g56_4,g56_10,g56_11,g56_12,g56_13,g56_34,g56_35,g56_36]<;>rfl)|omega|assumption|assumption|exact Tm.set (by assumption) _ (by omega)|exact Tm.set (Tm.rep _ (by decide)) _ (by omega)|exact Hr.init _ _|exact Hr.at (by omega) (by assumption) (by omega) (by assumption)|exact (Hr.get (by assumption) (by assumption)).2.2.1|exact lget_set_le (by assumption) (by omega)|exact cnt_lt (by assumption) (by omega) (by omega) (by omega)|exact cnt_rep _|(simp; omega)|simp
       have qz66:((Int.toNat here:Nat):Int)=here:=Int.toNat_of_nonneg (by first|omega|simp; omega)
       have hx67:times[(Int.toNat here)]?=some (lget times (Int.toNat here)):=lget_some (by first|omega|simp; omega)
       have eb68:=Tm.at (by assumption:Tm rooms times) hx67
       obtain ⟨id67,of67,cc67,ty67,wr67,ex67,i67,j67,l67,q67,lb67,bk67,oq67⟩:=cw56_1.at4 (P:=Tryz.prog) (t:=54) Tryz.underlying54 tz3 hx67
       have m67_0:cc67[of67]?=some (.int .i64 (lget times (Int.toNat here))):=q67 0 (show 0<1 by decide)
       rw [qz66] at i67
       try simp (disch:=first|omega|assumption) only [E0_G,SY,off,agreeKind,ldA,aggD,aField,Nat.reduceAdd,Nat.reduceLT,Nat.reduceBEq,TY_EvH21,g56_11,g56_13,bb56_25,h64a,i67,j67,m67_0] at he
       rcases dP (x56<(lget times (Int.toNat here))) with ⟨h69a,h69⟩|⟨h69a,h69⟩
       ·have w70:IntKind.i64.wrap ((kv:Int)+1)=((kv+1:Nat):Int):=by rw [IntWalk.i64_in]<;>omega
        try simp only [E0_G,SY,off,agreeKind,Nat.reduceAdd,Nat.reduceLT,Nat.reduceBEq,g56_36,h69a,w70] at he
        rw [drop_cons' hx56] at hd56
        have hf:=(show _=(R109_1 rooms fr ti l g times by_ left (times.drop (kv+1)) (kv+1) (kv:Int):Int) from (if_neg h61).trans ((if_pos h63).trans ((if_neg h64).trans ((if_pos h69).trans (rfl))))).symm.trans hd56
        refine .next he (m - 1) (by omega) ⟨(kv+1),(kv:Int),?_,?_,?_,?_,?_,?_,?_,?_,?_,?_,?_,?_,?_,?_,bb56_1,bb56_25,ga56,by omega,cw56_0,cw56_1,cw56_2,hf⟩<;>first|(simp only [SY,eq_self,Nat.reduceBEq,g56_3,g56_4,g56_10,g56_11,g56_12,g56_13,g56_34,g56_35,g56_36]<;>rfl)|omega|assumption|assumption|exact Tm.set (by assumption) _ (by omega)|exact Tm.set (Tm.rep _ (by decide)) _ (by omega)|exact Hr.init _ _|exact Hr.at (by omega) (by assumption) (by omega) (by assumption)|exact (Hr.get (by assumption) (by assumption)).2.2.1|exact lget_set_le (by assumption) (by omega)|exact cnt_lt (by assumption) (by omega) (by omega) (by omega)|exact cnt_rep _|(simp; omega)|simp
       have w71:IntKind.i64.wrap ((kv:Int)+1)=((kv+1:Nat):Int):=by rw [IntWalk.i64_in]<;>omega
       try simp only [E0_G,SY,off,agreeKind,Nat.reduceAdd,Nat.reduceLT,Nat.reduceBEq,g56_36,h69a,w71] at he
       rw [drop_cons' hx56] at hd56
       have hf:=(show _=(R109_1 rooms fr ti l g times by_ left (times.drop (kv+1)) (kv+1) here:Int) from (if_neg h61).trans ((if_pos h63).trans ((if_neg h64).trans ((if_neg h69).trans (rfl))))).symm.trans hd56
       refine .next he (m - 1) (by omega) ⟨(kv+1),here,?_,?_,?_,?_,?_,?_,?_,?_,?_,?_,?_,?_,?_,?_,bb56_1,bb56_25,ga56,by omega,cw56_0,cw56_1,cw56_2,hf⟩<;>first|(simp only [SY,eq_self,Nat.reduceBEq,g56_3,g56_4,g56_10,g56_11,g56_12,g56_13,g56_34,g56_35,g56_36]<;>rfl)|omega|assumption|assumption|exact Tm.set (by assumption) _ (by omega)|exact Tm.set (Tm.rep _ (by decide)) _ (by omega)|exact Hr.init _ _|exact Hr.at (by omega) (by assumption) (by omega) (by assumption)|exact (Hr.get (by assumption) (by assumption)).2.2.1|exact lget_set_le (by assumption) (by omega)|exact cnt_lt (by assumption) (by omega) (by omega) (by omega)|exact cnt_rep _|(simp; omega)|simp
      have w72:IntKind.i64.wrap ((kv:Int)+1)=((kv+1:Nat):Int):=by rw [IntWalk.i64_in]<;>omega
      try simp only [E0_G,SY,off,agreeKind,Nat.reduceAdd,Nat.reduceLT,Nat.reduceBEq,g56_36,h63a,w72] at he
      rw [drop_cons' hx56] at hd56
      have hf:=(show _=(R109_1 rooms fr ti l g times by_ left (times.drop (kv+1)) (kv+1) here:Int) from (if_neg h61).trans ((if_neg h63).trans (rfl))).symm.trans hd56
      refine .next he (m - 1) (by omega) ⟨(kv+1),here,?_,?_,?_,?_,?_,?_,?_,?_,?_,?_,?_,?_,?_,?_,bb56_1,bb56_25,ga56,by omega,cw56_0,cw56_1,cw56_2,hf⟩<;>first|(simp only [SY,eq_self,Nat.reduceBEq,g56_3,g56_4,g56_10,g56_11,g56_12,g56_13,g56_34,g56_35,g56_36]<;>rfl)|omega|assumption|assumption|exact Tm.set (by assumption) _ (by omega)|exact Tm.set (Tm.rep _ (by decide)) _ (by omega)|exact Hr.init _ _|exact Hr.at (by omega) (by assumption) (by omega) (by assumption)|exact (Hr.get (by assumption) (by assumption)).2.2.1|exact lget_set_le (by assumption) (by omega)|exact cnt_lt (by assumption) (by omega) (by omega) (by omega)|exact cnt_rep _|(simp; omega)|simp
     try simp only [SY,h57a] at he
     rw [List.drop_eq_nil_of_le (show times.length≤kv by omega)] at hd56
     have hf:=(show _=(here:Int) from rfl).symm.trans hd56
     refine .exit he ⟨rfl,⟨kv,here,?_,?_,?_,?_,?_,?_,bb56_1,bb56_25,ga56,by omega,cw56_0,cw56_1,cw56_2,?_,?_,?_,?_,hf.symm⟩⟩<;>first|(simp only [SY,eq_self,Nat.reduceBEq,g56_3,g56_4,g56_10,g56_11,g56_12,g56_13]<;>rfl)|omega|assumption|assumption|exact Tm.set (by assumption) _ (by omega)|exact Tm.set (Tm.rep _ (by decide)) _ (by omega)|exact Hr.init _ _|exact Hr.at (by omega) (by assumption) (by omega) (by assumption)|exact (Hr.get (by assumption) (by assumption)).2.2.1|exact lget_set_le (by assumption) (by omega)|exact cnt_lt (by assumption) (by omega) (by omega) (by omega)|exact cnt_rep _|(simp; omega)|simp)
   obtain ⟨rfl,kv,here,ge56_3,ge56_4,ge56_10,ge56_11,ge56_12,ge56_13,be56_1,be56_25,ge56,gm56,ce56_0,ce56_1,ce56_2,hj56_0,hj56_1,hj56_2,hj56_3,hR56⟩:=hQ56
   obtain rfl:here=R109_1 rooms fr ti l g times by_ left times 0 (-1):=hR56.symm
   try simp only [E0_G,SY,off,agreeKind,eq_self,if_true,Nat.reduceAdd,Nat.reduceLT,Nat.reduceBEq,ge56_13] at he
   rcases dP ((R109_1 rooms fr ti l g times by_ left times 0 (-1))<0) with ⟨h74a,h74⟩|⟨h74a,h74⟩
   ·try simp only [SY,if_false,reduceCtorEq,h74a] at he
    obtain ⟨m',rfl⟩:∃ m',m=m'+1:=⟨m - 1,by omega⟩
    have hf:=(show _=((times,by_):(List Int) × (List Int)) from (if_pos h74).trans (rfl)).symm.trans hd54
    refine .exit he ⟨rfl,⟨times,by_,left,?_,?_,be56_1,be56_25,ge56,by omega,ce56_1,ce56_2,ce56_0,?_,?_,?_,?_,hf.symm⟩⟩<;>first|(simp only [SY,eq_self,Nat.reduceBEq,ge56_10,ge56_11]<;>rfl)|omega|assumption|assumption|exact Tm.set (by assumption) _ (by omega)|exact Tm.set (Tm.rep _ (by decide)) _ (by omega)|exact Hr.init _ _|exact Hr.at (by omega) (by assumption) (by omega) (by assumption)|exact (Hr.get (by assumption) (by assumption)).2.2.1|exact lget_set_le (by assumption) (by omega)|exact cnt_lt (by assumption) (by omega) (by omega) (by omega)|exact cnt_rep _|(simp; omega)|simp
   have qz75:((Int.toNat (R109_1 rooms fr ti l g times by_ left times 0 (-1)):Nat):Int)=R109_1 rooms fr ti l g times by_ left times 0 (-1):=Int.toNat_of_nonneg (by first|omega|simp; omega)
   have hx76:left[(Int.toNat (R109_1 rooms fr ti l g times by_ left times 0 (-1)))]?=some (lget left (Int.toNat (R109_1 rooms fr ti l g times by_ left times 0 (-1)))):=lget_some (by first|omega|simp; omega)
   obtain ⟨id76,of76,cc76,ty76,wr76,ex76,i76,j76,l76,q76,lb76,bk76,oq76⟩:=ce56_0.at4 (P:=Tryz.prog) (t:=148) Tryz.underlying148 tz4 hx76
   have m76_0:cc76[of76]?=some (.bool (lget left (Int.toNat (R109_1 rooms fr ti l g times by_ left times 0 (-1))))):=q76 0 (show 0<1 by decide)
   rw [qz75] at i76
   obtain ⟨S77,k77,n77,o77,q77⟩:=ce56_0.put1 (P:=Tryz.prog) (lget_some (l:=left) (by first|omega|simp; omega)) bk76 oq76 4 (.bool true) 0 true tz4 rfl rfl (by decide) rfl
   replace k77:stA Tryz.prog 4 ⟨id76,of76,none⟩ (.bool true) S56e=some S77:=k77
   have v1_77:=(q77 S.next (fun e=>(show blkOf (.slice (some ⟨S41.next,0,none⟩) rooms rooms)≠some S.next from by first|exact ce56_0.ne (by omega)|exact ce56_0.new (by omega)|assumption) (e ▸ bk76))).trans be56_1
   have v25_77:=(q77 S17.next (fun e=>(show blkOf (.slice (some ⟨S41.next,0,none⟩) rooms rooms)≠some S17.next from by first|exact ce56_0.ne (by omega)|exact ce56_0.new (by omega)|assumption) (e ▸ bk76))).trans be56_25
   have oce56_78:=ce56_1.frame (by omega) (fun id hid hb=>q77 id (fun e=>ap47 id hb (e ▸ bk76)))
   have oce56_79:=ce56_2.frame (by omega) (fun id hid hb=>q77 id (fun e=>ap49 id hb (e ▸ bk76)))
   have g77:Agree S S77:=⟨by have:=(ge56).1; omega,fun id hid=>(q77 id (fun e=>(show blkOf (.slice (some ⟨S41.next,0,none⟩) rooms rooms)≠some id from ce56_0.ne (by omega)) (e ▸ bk76))).trans ((ge56).2 id hid)⟩
   have w80:=(hv_l.agree g77).len (P:=Tryz.prog) (t:=134) Tryz.underlying134
   try simp only [E0_G,SY,off,agreeKind,Nat.reduceAdd,Nat.reduceLT,Nat.reduceBEq,ge56_3,ge56_12,ge56_13,h74a,i76,k77,w80] at he
   generalize hL81:Rec.loop _ _ _ _=L81 at he
   obtain ⟨x81,t81,S81e,rfl,hQ81⟩:=loop_met hL81 (fun m t S'=>∃ (times2:List Int) (by2:List Int) (jv:Nat),m+jv=l.length∧Tm rooms times2∧times2.length=rooms∧by2.length=rooms∧lget times2 (Int.toNat (R109_1 rooms fr ti l g times by_ left times 0 (-1)))≤1073741823∧jv≤l.length∧t.get 3=some (v_l)∧t.get 4=some (.func (.func kf_g) cs_g ds_g)∧t.get 10=some (.pointer (some ⟨S.next,0,none⟩))∧t.get 11=some (.pointer (some ⟨S17.next,0,none⟩))∧t.get 12=some (.slice (some ⟨S41.next,0,none⟩) rooms rooms)∧t.get 13=some (.int .i64 (R109_1 rooms fr ti l g times by_ left times 0 (-1)))∧t.get 70=some (v_l)∧t.get 71=some (.int .i64 (l.length:Int))∧t.get 72=some (.int .i64 (jv:Int))∧S'.heap.get S.next=some (.cells [.slice none 0 0,.slice none 0 0] 142 0 true true)∧S'.heap.get S17.next=some (.cells [.slice pu5 nu5 cu5,.slice pu17 nu17 cu17] 142 0 true true)∧Agree S S'∧S77.next≤S'.next∧Own 3 S3.next S' (.slice pu5 nu5 cu5) times2∧Own 3 S9.next S' (.slice pu17 nu17 cu17) by2∧Own 4 S41.next S' (.slice (some ⟨S41.next,0,none⟩) rooms rooms) (left.set (Int.toNat (R109_1 rooms fr ti l g times by_ left times 0 (-1))) true)∧R109_2 rooms fr ti l g times by_ left (l.drop jv) times2 by2 jv=R109_2 rooms fr ti l g times by_ left l times by_ 0)
    (fun x t S'=>x=.exit 4∧∃ (times2:List Int) (by2:List Int) (jv:Nat),t.get 3=some (v_l)∧t.get 4=some (.func (.func kf_g) cs_g ds_g)∧t.get 10=some (.pointer (some ⟨S.next,0,none⟩))∧t.get 11=some (.pointer (some ⟨S17.next,0,none⟩))∧t.get 12=some (.slice (some ⟨S41.next,0,none⟩) rooms rooms)∧S'.heap.get S.next=some (.cells [.slice none 0 0,.slice none 0 0] 142 0 true true)∧S'.heap.get S17.next=some (.cells [.slice pu5 nu5 cu5,.slice pu17 nu17 cu17] 142 0 true true)∧Agree S S'∧S77.next≤S'.next∧Own 3 S3.next S' (.slice pu5 nu5 cu5) times2∧Own 3 S9.next S' (.slice pu17 nu17 cu17) by2∧Own 4 S41.next S' (.slice (some ⟨S41.next,0,none⟩) rooms rooms) (left.set (Int.toNat (R109_1 rooms fr ti l g times by_ left times 0 (-1))) true)∧Tm rooms times2∧times2.length=rooms∧by2.length=rooms∧lget times2 (Int.toNat (R109_1 rooms fr ti l g times by_ left times 0 (-1)))≤1073741823∧jv≤l.length∧R109_2 rooms fr ti l g times by_ left l times by_ 0=(times2,by2)) (l.length - 0) (by refine ⟨times,by_,0,?_,?_,?_,?_,?_,?_,?_,?_,?_,?_,?_,?_,?_,?_,?_,v1_77,v25_77,g77,Nat.le_refl _,oce56_78,oce56_79,o77,rfl⟩<;>first|(simp only [SY,eq_self,Nat.reduceBEq,ge56_3,ge56_4,ge56_10,ge56_11,ge56_12,ge56_13]<;>rfl)|omega|assumption|assumption|exact Tm.set (by assumption) _ (by omega)|exact Tm.set (Tm.rep _ (by decide)) _ (by omega)|exact Hr.init _ _|exact Hr.at (by omega) (by assumption) (by omega) (by assumption)|exact (Hr.get (by assumption) (by assumption)).2.2.1|exact lget_set_le (by assumption) (by omega)|exact cnt_lt (by assumption) (by omega) (by omega) (by omega)|exact cnt_rep _|(simp; omega)|simp) (by
     rintro m t S81 ⟨times2,by2,jv,hi81_0,hi81_1,hi81_2,hi81_3,hi81_4,hi81_5,g81_3,g81_4,g81_10,g81_11,g81_12,g81_13,g81_70,g81_71,g81_72,bb81_1,bb81_25,ga81,gn81,ow_times2,ow_by2,cw81_0,hd81⟩
     refine .run fun z he=>?_
     try simp only [E0_G,SY,off,agreeKind,Nat.reduceLT,Nat.reduceBEq,g81_71,g81_72] at he
     rcases dP ((jv:Int)<(l.length:Int)) with ⟨h82a,h82⟩|⟨h82a,h82⟩
     ·have hx81:l[jv]?=some (l[jv]'(by first|omega|simp; omega)):=List.getElem?_eq_getElem _
      generalize l[jv]'_=x81 at hx81
      have eb84:=hp _ (List.mem_of_getElem? hx81)
      obtain ⟨id83,of83,cc83,ty83,wr83,ex83,i83,j83,l83,q83⟩:=(hv_l).at (P:=Tryz.prog) (t:=134) Tryz.underlying134 tz137 hx81
      have j83:=(ga81.2 id83 l83).trans j83
      have m83_0:cc83[of83]?=some (.int .i64 x81.way):=q83 0 (show 0<6 by decide)
      have m83_1:cc83[of83+1]?=some (.bool x81.back):=q83 1 (show 1<6 by decide)
      have m83_2:cc83[of83+2]?=some (.int .i64 x81.fr):=q83 2 (show 2<6 by decide)
      have m83_3:cc83[of83+3]?=some (.int .i64 x81.to):=q83 3 (show 3<6 by decide)
      have m83_4:cc83[of83+4]?=some (.int .i64 x81.secs):=q83 4 (show 4<6 by decide)
      have m83_5:cc83[of83+5]?=some (.int .i64 x81.door):=q83 5 (show 5<6 by decide)
      obtain ⟨S85,e85,n85,b85,a85⟩:=push_open S81 (.cells [.int .i64 0,.bool false,.int .i64 0,.int .i64 0,.int .i64 0,.int .i64 0] 137 0 true true)
      have v1_85:=(a85.2 S.next (by omega)).trans bb81_1
      have v25_85:=(a85.2 S17.next (by omega)).trans bb81_25
      have ocw81_86:=cw81_0.agree a85
      have ow_87:=ow_times2.agree a85
      have ow_88:=ow_by2.agree a85
      have g85:Agree S S85:=ga81.trans a85
      have s85:E0.same S81 S85=true:=symEnv_same a85
      have ne89:blkOf (.slice (some ⟨S41.next,0,none⟩) rooms rooms)≠some S81.next:=cw81_0.new (Nat.le_refl _)
      have ne90:blkOf (.slice pu5 nu5 cu5)≠some S81.next:=ow_times2.new (Nat.le_refl _)
      have ne91:blkOf (.slice pu17 nu17 cu17)≠some S81.next:=ow_by2.new (Nat.le_refl _)
      obtain ⟨S92,k92,n92,b92,q92⟩:=st_at (o:=0) (c':=[.int .i64 x81.way,.bool x81.back,.int .i64 x81.fr,.int .i64 x81.to,.int .i64 x81.secs,.int .i64 x81.door]) (v:=.agg #[.int .i64 x81.way,.bool x81.back,.int .i64 x81.fr,.int .i64 x81.to,.int .i64 x81.secs,.int .i64 x81.door]) tz137 b85 rfl rfl (show 0+6≤6 by decide) rfl
      have v1_92:=(q92 S.next (by omega)).trans v1_85
      have v25_92:=(q92 S17.next (by omega)).trans v25_85
      have ocw81_93:=ocw81_86.frame (by omega) (fun id hid hb=>q92 id (fun e=>(show blkOf (.slice (some ⟨S41.next,0,none⟩) rooms rooms)≠some S81.next from by first|exact ocw81_86.ne (by omega)|exact ocw81_86.new (by omega)|assumption) (e ▸ hb)))
      have ow_94:=ow_87.frame (by omega) (fun id hid hb=>q92 id (fun e=>(show blkOf (.slice pu5 nu5 cu5)≠some S81.next from by first|exact ow_87.ne (by omega)|exact ow_87.new (by omega)|assumption) (e ▸ hb)))
      have ow_95:=ow_88.frame (by omega) (fun id hid hb=>q92 id (fun e=>(show blkOf (.slice pu17 nu17 cu17)≠some S81.next from by first|exact ow_88.ne (by omega)|exact ow_88.new (by omega)|assumption) (e ▸ hb)))
      have g92:Agree S S92:=⟨by have:=(g85).1; omega,fun id hid=>(q92 id (by have:=(g85).1; omega)).trans ((g85).2 id hid)⟩
      try simp (disch:=first|omega|assumption) only [E0_G,SY,off,agreeKind,allocV,ldA,rdCells,aggD,aField,Nat.reduceAdd,Nat.reduceLT,Nat.reduceBEq,TY_EvH21,g81_13,g81_70,g81_72,h82a,i83,j83,m83_0,m83_1,m83_2,m83_3,m83_4,m83_5,e85,k92,b92] at he
      rcases dP (x81.fr=(R109_1 rooms fr ti l g times by_ left times 0 (-1))) with ⟨h96a,h96⟩|⟨h96a,h96⟩
      ·try simp only [SY,h96a] at he
       rw [code_draws _ _ _ (by kernel_rfl)] at he
       generalize hnd97:needy _=nd97 at he
       have qz98:((Int.toNat (R109_1 rooms fr ti l g times by_ left times 0 (-1)):Nat):Int)=R109_1 rooms fr ti l g times by_ left times 0 (-1):=Int.toNat_of_nonneg (by first|omega|simp; omega)
       have hx99:times2[(Int.toNat (R109_1 rooms fr ti l g times by_ left times 0 (-1)))]?=some (lget times2 (Int.toNat (R109_1 rooms fr ti l g times by_ left times 0 (-1)))):=lget_some (by first|omega|simp; omega)
       have eb100:=Tm.at (by assumption:Tm rooms times2) hx99
       obtain ⟨id99,of99,cc99,ty99,wr99,ex99,i99,j99,l99,q99,lb99,bk99,oq99⟩:=ow_94.at4 (P:=Tryz.prog) (t:=54) Tryz.underlying54 tz3 hx99
       have m99_0:cc99[of99]?=some (.int .i64 (lget times2 (Int.toNat (R109_1 rooms fr ti l g times by_ left times 0 (-1))))):=q99 0 (show 0<1 by decide)
       rw [qz98] at i99
       obtain ⟨S101,k101,a101⟩:=hc_g S92 g92 x81 (lget times2 (Int.toNat (R109_1 rooms fr ti l g times by_ left times 0 (-1)))) (List.mem_of_getElem? hx81) (by omega)
       replace k101:(evL Tryz.prog E0).call kf_g (cs_g++#[.agg #[.int .i64 x81.way,.bool x81.back,.int .i64 x81.fr,.int .i64 x81.to,.int .i64 x81.secs,.int .i64 x81.door],.int .i64 (lget times2 (Int.toNat (R109_1 rooms fr ti l g times by_ left times 0 (-1))))]++ds_g) S92=some (.int .i64 (g x81 (lget times2 (Int.toNat (R109_1 rooms fr ti l g times by_ left times 0 (-1))))),S101):=k101
       have l101:=a101.1
       have s101:E0.same S92 S101=true:=symEnv_same a101
       have v1_101:=(a101.2 S.next (by omega)).trans v1_92
       have v25_101:=(a101.2 S17.next (by omega)).trans v25_92
       have v85_101:=(a101.2 S81.next (by omega)).trans b92
       have ocw81_102:=ocw81_93.agree a101
       have ow_103:=ow_94.agree a101
       have ow_104:=ow_95.agree a101
       have g101:Agree S S101:=g92.trans a101
       have p101:=hg x81 (List.mem_of_getElem? hx81) (lget times2 (Int.toNat (R109_1 rooms fr ti l g times by_ left times 0 (-1)))) (by omega)
       have qz105:((Int.toNat x81.to:Nat):Int)=x81.to:=Int.toNat_of_nonneg (by first|omega|simp; omega)
       have hx106:times2[(Int.toNat x81.to)]?=some (lget times2 (Int.toNat x81.to)):=lget_some (by first|omega|simp; omega)
       have eb107:=Tm.at (by assumption:Tm rooms times2) hx106
       obtain ⟨id106,of106,cc106,ty106,wr106,ex106,i106,j106,l106,q106,lb106,bk106,oq106⟩:=ow_103.at4 (P:=Tryz.prog) (t:=54) Tryz.underlying54 tz3 hx106
       have m106_0:cc106[of106]?=some (.int .i64 (lget times2 (Int.toNat x81.to))):=q106 0 (show 0<1 by decide)
       rw [qz105] at i106
       try simp (disch:=first|omega|assumption) only [E0_G,SY,off,agreeKind,vals,ldA,rdCells,aggD,aField,Nat.reduceAdd,Nat.reduceLT,Nat.reduceBEq,TY_EvH21,g81_4,g81_11,g81_13,v25_92,b92,store_agree,store_refl E0_same,i99,j99,m99_0,k101,v25_101,v85_101,i106,j106,m106_0] at he
       rcases dP ((g x81 (lget times2 (Int.toNat (R109_1 rooms fr ti l g times by_ left times 0 (-1)))))<(lget times2 (Int.toNat x81.to))) with ⟨h108a,h108⟩|⟨h108a,h108⟩
       ·try simp only [SY,store_refl E0_same,h108a] at he
        rw [code_draws3 _ _ _ [(Operand.tmp 101,Operand.tmp 107),(Operand.tmp 103,Operand.tmp 107)] (by kernel_rfl) (by kernel_rfl) (by kernel_rfl) (by kernel_rfl)] at he
        generalize hnd109:needy _=nd109 at he
        have nn109_11:nd109 11=false:=by rw [← hnd109]; kernel_rfl
        have nn109_13:nd109 13=false:=by rw [← hnd109]; kernel_rfl
        have qz110:((Int.toNat x81.to:Nat):Int)=x81.to:=Int.toNat_of_nonneg (by first|omega|simp; omega)
        have eb112:=Tm.at (by assumption:Tm rooms times2) hx106
        obtain ⟨id111,of111,cc111,ty111,wr111,ex111,i111,j111,l111,q111,lb111,bk111,oq111⟩:=ow_103.at4 (P:=Tryz.prog) (t:=54) Tryz.underlying54 tz3 hx106
        obtain rfl:id106=id111:=Option.some.inj (bk106.symm.trans bk111)
        obtain rfl:of106=of111:=oq106.trans oq111.symm
        have m111_0:cc111[of106]?=some (.int .i64 (lget times2 (Int.toNat x81.to))):=q111 0 (show 0<1 by decide)
        rw [qz110] at i111
        obtain ⟨S113,k113,n113,o113,q113⟩:=ow_103.put1 (P:=Tryz.prog) (lget_some (l:=times2) (by first|omega|simp; omega)) bk111 oq111 3 (.int .i64 (g x81 (lget times2 (Int.toNat (R109_1 rooms fr ti l g times by_ left times 0 (-1)))))) 0 (g x81 (lget times2 (Int.toNat (R109_1 rooms fr ti l g times by_ left times 0 (-1))))) tz3 rfl rfl (by decide) rfl
        replace k113:stA Tryz.prog 3 ⟨id106,of106,none⟩ (.int .i64 (g x81 (lget times2 (Int.toNat (R109_1 rooms fr ti l g times by_ left times 0 (-1)))))) S101=some S113:=k113
        have v1_113:=(q113 S.next (fun e=>(show blkOf (.slice pu5 nu5 cu5)≠some S.next from by first|exact ow_103.ne (by omega)|exact ow_103.new (by omega)|assumption) (e ▸ bk111))).trans v1_101
        have v25_113:=(q113 S17.next (fun e=>(show blkOf (.slice pu5 nu5 cu5)≠some S17.next from by first|exact ow_103.ne (by omega)|exact ow_103.new (by omega)|assumption) (e ▸ bk111))).trans v25_101
        have ocw81_114:=ocw81_102.frame (by omega) (fun id hid hb=>q113 id (fun e=>(fun b h1 h2=>ap47 b h2 h1) id hb (e ▸ bk111)))
        have ow_115:=ow_104.frame (by omega) (fun id hid hb=>q113 id (fun e=>(fun b h1 h2=>ap19 b h2 h1) id hb (e ▸ bk111)))
        have g113:Agree S S113:=⟨by have:=(g101).1; omega,fun id hid=>(q113 id (fun e=>(show blkOf (.slice pu5 nu5 cu5)≠some id from ow_103.ne (by omega)) (e ▸ bk111))).trans ((g101).2 id hid)⟩
        have qz116:((Int.toNat x81.to:Nat):Int)=x81.to:=Int.toNat_of_nonneg (by first|omega|simp; omega)
        have hx117:by2[(Int.toNat x81.to)]?=some (lget by2 (Int.toNat x81.to)):=lget_some (by first|omega|simp; omega)
        obtain ⟨id117,of117,cc117,ty117,wr117,ex117,i117,j117,l117,q117,lb117,bk117,oq117⟩:=ow_115.at4 (P:=Tryz.prog) (t:=54) Tryz.underlying54 tz3 hx117
        have m117_0:cc117[of117]?=some (.int .i64 (lget by2 (Int.toNat x81.to))):=q117 0 (show 0<1 by decide)
        rw [qz116] at i117
        obtain ⟨S118,k118,n118,o118,q118⟩:=ow_115.put1 (P:=Tryz.prog) (lget_some (l:=by2) (by first|omega|simp; omega)) bk117 oq117 3 (.int .i64 (jv:Int)) 0 (jv:Int) tz3 rfl rfl (by decide) rfl
        replace k118:stA Tryz.prog 3 ⟨id117,of117,none⟩ (.int .i64 (jv:Int)) S113=some S118:=k118
        have v1_118:=(q118 S.next (fun e=>(show blkOf (.slice pu17 nu17 cu17)≠some S.next from by first|exact ow_115.ne (by omega)|exact ow_115.new (by omega)|assumption) (e ▸ bk117))).trans v1_113
        have v25_118:=(q118 S17.next (fun e=>(show blkOf (.slice pu17 nu17 cu17)≠some S17.next from by first|exact ow_115.ne (by omega)|exact ow_115.new (by omega)|assumption) (e ▸ bk117))).trans v25_113
        have ocw81_119:=ocw81_114.frame (by omega) (fun id hid hb=>q118 id (fun e=>(fun b h1 h2=>ap49 b h2 h1) id hb (e ▸ bk117)))
        have o113_120:=o113.frame (by omega) (fun id hid hb=>q118 id (fun e=>ap19 id hb (e ▸ bk117)))
        have g118:Agree S S118:=⟨by have:=(g113).1; omega,fun id hid=>(q118 id (fun e=>(show blkOf (.slice pu17 nu17 cu17)≠some id from ow_115.ne (by omega)) (e ▸ bk117))).trans ((g113).2 id hid)⟩
        have nb121:=nbeq (show S17.next≠id106 from fun e=>(show blkOf (.slice pu5 nu5 cu5)≠some S17.next from by first|exact o113_120.ne (by omega)|exact o113_120.new (by omega)|assumption) (e ▸ bk111))
        have nb122:=nbeq (show S81.next≠id106 from fun e=>(show blkOf (.slice pu5 nu5 cu5)≠some S81.next from by first|exact o113_120.ne (by omega)|exact o113_120.new (by omega)|assumption) (e ▸ bk111))
        have w123:IntKind.i64.wrap ((jv:Int)+1)=((jv+1:Nat):Int):=by rw [IntWalk.i64_in]<;>omega
        try simp (disch:=first|omega|assumption) only [E0_G,SY,off,agreeKind,ldA,aggD,aField,eq_self,if_true,Nat.reduceAdd,Nat.reduceLT,Nat.reduceBEq,TY_EvH21,g81_11,g81_72,store_refl E0_same,v25_101,v85_101,i106,nn109_11,nn109_13,k113,i117,k118,nb121,nb122,behindD_some,disW_pp,List.all_cons,List.all_nil,w123] at he
        rw [drop_cons' hx81] at hd81
        have hf:=(show _=(R109_2 rooms fr ti l g times by_ left (l.drop (jv+1)) (times2.set (Int.toNat x81.to) (g x81 (lget times2 (Int.toNat (R109_1 rooms fr ti l g times by_ left times 0 (-1)))))) (by2.set (Int.toNat x81.to) (jv:Int)) (jv+1):(List Int) × (List Int)) from (if_pos h96).trans ((if_pos h108).trans (rfl))).symm.trans hd81
        refine .next he (m - 1) (by omega) ⟨times2.set (Int.toNat x81.to) (g x81 (lget times2 (Int.toNat (R109_1 rooms fr ti l g times by_ left times 0 (-1))))),by2.set (Int.toNat x81.to) (jv:Int),(jv+1),?_,?_,?_,?_,?_,?_,?_,?_,?_,?_,?_,?_,?_,?_,?_,v1_118,v25_118,g118,by omega,o113_120,o118,ocw81_119,hf⟩<;>first|(simp only [SY,eq_self,Nat.reduceBEq,g81_3,g81_4,g81_10,g81_11,g81_12,g81_13,g81_70,g81_71,g81_72]<;>rfl)|omega|assumption|assumption|exact Tm.set (by assumption) _ (by omega)|exact Tm.set (Tm.rep _ (by decide)) _ (by omega)|exact Hr.init _ _|exact Hr.at (by omega) (by assumption) (by omega) (by assumption)|exact (Hr.get (by assumption) (by assumption)).2.2.1|exact lget_set_le (by assumption) (by omega)|exact cnt_lt (by assumption) (by omega) (by omega) (by omega)|exact cnt_rep _|(simp; omega)|simp
       have w124:IntKind.i64.wrap ((jv:Int)+1)=((jv+1:Nat):Int):=by rw [IntWalk.i64_in]<;>omega
       try simp only [E0_G,SY,off,agreeKind,Nat.reduceAdd,Nat.reduceLT,Nat.reduceBEq,g81_72,store_refl E0_same,h108a,w124] at he
       rw [drop_cons' hx81] at hd81
       have hf:=(show _=(R109_2 rooms fr ti l g times by_ left (l.drop (jv+1)) times2 by2 (jv+1):(List Int) × (List Int)) from (if_pos h96).trans ((if_neg h108).trans (rfl))).symm.trans hd81
       refine .next he (m - 1) (by omega) ⟨times2,by2,(jv+1),?_,?_,?_,?_,?_,?_,?_,?_,?_,?_,?_,?_,?_,?_,?_,v1_101,v25_101,g101,by omega,ow_103,ow_104,ocw81_102,hf⟩<;>first|(simp only [SY,eq_self,Nat.reduceBEq,g81_3,g81_4,g81_10,g81_11,g81_12,g81_13,g81_70,g81_71,g81_72]<;>rfl)|omega|assumption|assumption|exact Tm.set (by assumption) _ (by omega)|exact Tm.set (Tm.rep _ (by decide)) _ (by omega)|exact Hr.init _ _|exact Hr.at (by omega) (by assumption) (by omega) (by assumption)|exact (Hr.get (by assumption) (by assumption)).2.2.1|exact lget_set_le (by assumption) (by omega)|exact cnt_lt (by assumption) (by omega) (by omega) (by omega)|exact cnt_rep _|(simp; omega)|simp
      have w125:IntKind.i64.wrap ((jv:Int)+1)=((jv+1:Nat):Int):=by rw [IntWalk.i64_in]<;>omega
      try simp only [E0_G,SY,off,agreeKind,eq_self,if_true,Nat.reduceAdd,Nat.reduceLT,Nat.reduceBEq,g81_72,h96a,w125] at he
      rw [drop_cons' hx81] at hd81
      have hf:=(show _=(R109_2 rooms fr ti l g times by_ left (l.drop (jv+1)) times2 by2 (jv+1):(List Int) × (List Int)) from (if_neg h96).trans (rfl)).symm.trans hd81
      refine .next he (m - 1) (by omega) ⟨times2,by2,(jv+1),?_,?_,?_,?_,?_,?_,?_,?_,?_,?_,?_,?_,?_,?_,?_,v1_92,v25_92,g92,by omega,ow_94,ow_95,ocw81_93,hf⟩<;>first|(simp only [SY,eq_self,Nat.reduceBEq,g81_3,g81_4,g81_10,g81_11,g81_12,g81_13,g81_70,g81_71,g81_72]<;>rfl)|omega|assumption|assumption|exact Tm.set (by assumption) _ (by omega)|exact Tm.set (Tm.rep _ (by decide)) _ (by omega)|exact Hr.init _ _|exact Hr.at (by omega) (by assumption) (by omega) (by assumption)|exact (Hr.get (by assumption) (by assumption)).2.2.1|exact lget_set_le (by assumption) (by omega)|exact cnt_lt (by assumption) (by omega) (by omega) (by omega)|exact cnt_rep _|(simp; omega)|simp
     try simp only [SY,h82a] at he
     rw [List.drop_eq_nil_of_le (show l.length≤jv by omega)] at hd81
     have hf:=(show _=((times2,by2):(List Int) × (List Int)) from rfl).symm.trans hd81
     refine .exit he ⟨rfl,⟨times2,by2,jv,?_,?_,?_,?_,?_,bb81_1,bb81_25,ga81,by omega,ow_times2,ow_by2,cw81_0,?_,?_,?_,?_,?_,hf.symm⟩⟩<;>first|(simp only [SY,eq_self,Nat.reduceBEq,g81_3,g81_4,g81_10,g81_11,g81_12]<;>rfl)|omega|assumption|assumption|exact Tm.set (by assumption) _ (by omega)|exact Tm.set (Tm.rep _ (by decide)) _ (by omega)|exact Hr.init _ _|exact Hr.at (by omega) (by assumption) (by omega) (by assumption)|exact (Hr.get (by assumption) (by assumption)).2.2.1|exact lget_set_le (by assumption) (by omega)|exact cnt_lt (by assumption) (by omega) (by omega) (by omega)|exact cnt_rep _|(simp; omega)|simp)
   obtain ⟨rfl,times2,by2,jv,ge81_3,ge81_4,ge81_10,ge81_11,ge81_12,be81_1,be81_25,ge81,gm81,oe_times281,oe_by281,ce81_0,hj81_0,hj81_1,hj81_2,hj81_3,hj81_4,hR81⟩:=hQ81
   obtain rfl:times2=(R109_2 rooms fr ti l g times by_ left l times by_ 0).1:=by rw [hR81]
   obtain rfl:by2=(R109_2 rooms fr ti l g times by_ left l times by_ 0).2:=by rw [hR81]
   try simp only [SY,eq_self,if_true] at he
   obtain ⟨m',rfl⟩:∃ m',m=m'+1:=⟨m - 1,by omega⟩
   have hf:=(show _=(R109_0 rooms fr ti l g m' ((R109_2 rooms fr ti l g times by_ left l times by_ 0).1) ((R109_2 rooms fr ti l g times by_ left l times by_ 0).2) (left.set (Int.toNat (R109_1 rooms fr ti l g times by_ left times 0 (-1))) true):(List Int) × (List Int)) from (if_neg h74).trans (rfl)).symm.trans hd54
   refine .next he m' (by omega) ⟨(R109_2 rooms fr ti l g times by_ left l times by_ 0).1,(R109_2 rooms fr ti l g times by_ left l times by_ 0).2,left.set (Int.toNat (R109_1 rooms fr ti l g times by_ left times 0 (-1))) true,?_,?_,?_,?_,?_,?_,?_,?_,?_,?_,be81_1,be81_25,ge81,by omega,oe_times281,oe_by281,ce81_0,hf⟩<;>first|(simp only [eq_self,ge81_3,ge81_4,ge81_10,ge81_11,ge81_12]<;>rfl)|omega|assumption|assumption|exact Tm.set (by assumption) _ (by omega)|exact Tm.set (Tm.rep _ (by decide)) _ (by omega)|exact Hr.init _ _|exact Hr.at (by omega) (by assumption) (by omega) (by assumption)|exact (Hr.get (by assumption) (by assumption)).2.2.1|exact lget_set_le (by assumption) (by omega)|exact cnt_lt (by assumption) (by omega) (by omega) (by omega)|exact cnt_rep _|(simp; omega)|simp)
 obtain ⟨rfl,times,by_,left,ge54_10,ge54_11,be54_1,be54_25,ge54,gm54,oe_times54,oe_by_54,oe_left54,hj54_0,hj54_1,hj54_2,hj54_3,hR54⟩:=hQ54
 obtain rfl:times=(R109_0 rooms fr ti l g (rooms+1) ((List.replicate rooms (1073741824:Int)).set (Int.toNat fr) ti) (List.replicate rooms (-1:Int)) (List.replicate rooms false)).1:=by rw [hR54]
 obtain rfl:by_=(R109_0 rooms fr ti l g (rooms+1) ((List.replicate rooms (1073741824:Int)).set (Int.toNat fr) ti) (List.replicate rooms (-1:Int)) (List.replicate rooms false)).2:=by rw [hR54]
 obtain ⟨S128,k128,n128,b128,q128⟩:=st_at (o:=0) (c':=[.slice pu5 nu5 cu5,.slice pu17 nu17 cu17]) (v:=.agg #[.slice pu5 nu5 cu5,.slice pu17 nu17 cu17]) tz142 be54_1 rfl rfl (show 0+2≤2 by decide) rfl
 have oe_129:=oe_left54.frame (by omega) (fun id hid hb=>q128 id (fun e=>(show blkOf (.slice (some ⟨S41.next,0,none⟩) rooms rooms)≠some S.next from by first|exact oe_left54.ne (by omega)|exact oe_left54.new (by omega)|assumption) (e ▸ hb)))
 have oe_130:=oe_times54.frame (by omega) (fun id hid hb=>q128 id (fun e=>(show blkOf (.slice pu5 nu5 cu5)≠some S.next from by first|exact oe_times54.ne (by omega)|exact oe_times54.new (by omega)|assumption) (e ▸ hb)))
 have oe_131:=oe_by_54.frame (by omega) (fun id hid hb=>q128 id (fun e=>(show blkOf (.slice pu17 nu17 cu17)≠some S.next from by first|exact oe_by_54.ne (by omega)|exact oe_by_54.new (by omega)|assumption) (e ▸ hb)))
 have g128:Agree S S128:=⟨by have:=(ge54).1; omega,fun id hid=>(q128 id (by have:=(ge54).1; omega)).trans ((ge54).2 id hid)⟩
 try simp only [E0_G,SY,off,agreeKind,ldA,rdCells,aggD,eq_self,if_true,Nat.reduceAdd,Nat.reduceLT,Nat.reduceBEq,TY_EvH21,ge54_10,ge54_11,be54_25,k128,b128] at hz
 have hr:r109 rooms fr ti l g=((R109_0 rooms fr ti l g (rooms+1) ((List.replicate rooms (1073741824:Int)).set (Int.toNat fr) ti) (List.replicate rooms (-1:Int)) (List.replicate rooms false)).1,(R109_0 rooms fr ti l g (rooms+1) ((List.replicate rooms (1073741824:Int)).set (Int.toNat fr) ti) (List.replicate rooms (-1:Int)) (List.replicate rooms false)).2):=rfl
 exact ⟨.slice pu5 nu5 cu5,.slice pu17 nu17 cu17,S128,by first|(rw [hr]; exact hz.symm)|exact hz.symm,g128,by rw [hr]; exact oe_130.low (by omega),by rw [hr]; exact oe_131.low (by omega),ap19⟩
end House
end Go.Proofs
