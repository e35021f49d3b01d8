import Derived.Test.YtpaipdipkgnpdaaGreatEvO12
import Derived.Test.YtpaipdipkgnpdaaGreatBP
section
set_option linter.unusedSimpArgs false
set_option linter.unusedVariables false
namespace Go.Proofs
namespace Clock
open Go Go.RowKit Go.Aev
set_option maxRecDepth 100000
def insI (x:Int):List Int→List Int
 | []=>[x]
 | y :: l=>if x≤y then x :: y :: l else y :: insI x l
def srtI:List Int→List Int
 | []=>[]
 | x :: l=>insI x (srtI l)
theorem insI_perm (x:Int):∀ l:List Int,(insI x l).Perm (x :: l)
 | []=>List.Perm.refl _
 | y :: l=>by
  unfold insI
  split
  ·exact List.Perm.refl _
  ·exact ((insI_perm x l).cons y).trans (List.Perm.swap x y l)
theorem srtI_perm:∀ l:List Int,(srtI l).Perm l
 | []=>List.Perm.refl _
 | x :: l=>(insI_perm x (srtI l)).trans ((srtI_perm l).cons x)
theorem insI_sorted (x:Int):∀ l:List Int,l.Pairwise (·≤·)→(insI x l).Pairwise (·≤·)
 | [],_=>by simp [insI]
 | y :: l,h=>by
  unfold insI
  split
  ·rename_i hx
   refine List.Pairwise.cons (fun z hz=>?_) h
   rcases List.mem_cons.1 hz with rfl|hz
   ·exact hx
   ·exact Int.le_trans hx ((List.pairwise_cons.1 h).1 z hz)
  ·rename_i hx
   refine List.Pairwise.cons (fun z hz=>?_) (insI_sorted x l (List.pairwise_cons.1 h).2)
   have:=(insI_perm x l).mem_iff.1 hz
   rcases List.mem_cons.1 this with rfl|h2
   ·omega
   ·exact (List.pairwise_cons.1 h).1 z h2
theorem srtI_sorted:∀ l:List Int,(srtI l).Pairwise (·≤·)
 | []=>List.Pairwise.nil
 | x :: l=>insI_sorted x _ (srtI_sorted l)
theorem srt_unique {a b:List Int} (h:a.Perm b) (ha:a.Pairwise (·≤·)) (hb:b.Pairwise (·≤·)):a=b :=
 List.Perm.eq_of_pairwise (fun x y _ _ h1 h2=>Int.le_antisymm h1 h2) ha hb h
theorem Srt.pairwise {l:List Int} (h:Srt 0 l.length l):l.Pairwise (·≤·):=by
 rw [List.pairwise_iff_getElem]
 intro i j hi hj hij
 have:=h i j (Nat.zero_le _) hij hj
 unfold lget at this
 rw [List.getD_eq_getElem?_getD,List.getD_eq_getElem?_getD,List.getElem?_eq_getElem hi,List.getElem?_eq_getElem hj] at this
 exact this
theorem srtI_len (l:List Int):(srtI l).length=l.length:=(srtI_perm l).length_eq
set_option maxHeartbeats 4000000 in
theorem c112 (l:List Int) (hl:l.length≤1000) (lo:Nat) (S:AS) (v:Value) (ho:Own 3 lo S v l) (id:Nat) (hb:blkOf v=some id) :
  ∃ S',(evL Tryz.prog E0).call 112 #[v] S=some (.tuple #[],S')∧Keep v S S'∧Own 3 lo S' v (srtI l):=by
 generalize hz:(evL Tryz.prog E0).call 112 _ _=z
 rw [L_call,evCall_said rfl Tryz.func112 rfl (by decide) Tryz.ntmps112 Tryz.results112] at hz
 have w1:=ho.rows.len (P:=Tryz.prog) (t:=31) Tryz.underlying31
 have w2:IntKind.u64.wrap (l.length:Int)=(l.length:Int):=IntWalk.u64_in _ (by omega)
 obtain ⟨r,k2,_⟩:=c158g l.length hl S
 obtain ⟨S1,l1,k1,kp1,ow1,hs1,hr1⟩:=c157g l.length 0 l.length (by omega) (by omega) l hl lo S v ho id hb (Nat.le_refl _) (r:Int) (fun h=>by omega)
 have k1':(evL Tryz.prog E0).call 157 #[v,.int .i64 0,.int .i64 (l.length:Int),.int .i64 (r:Int)] S=some (.tuple #[],S1):=k1
 simp (disch:=first|omega|assumption) only [E0_G,SY,setArgs,off,agreeKind,vals,Nat.reduceAdd,Nat.reduceSub,Nat.reduceLT,Nat.reduceBEq,TY_EvO0,w1,w2,k2,k1'] at hz
 have e:l1=srtI l:=srt_unique (hs1.perm.trans (srtI_perm l).symm) (Srt.pairwise (by rw [hs1.len]; exact hr1)) (srtI_sorted l)
 exact ⟨S1,hz.symm,kp1,e ▸ ow1⟩
end Clock
end Go.Proofs
end
section
set_option linter.unusedSimpArgs false
set_option linter.unusedVariables false
namespace Go.Proofs
namespace Clock
open Go Go.RowKit Go.Aev
set_option maxRecDepth 100000
section
variable {P:Program} {E:Env} {r:Rec}
variable (dst:Option Tmp) (ty:TypeId) (pos:String) (after:Array Edge) (g:Option (Nat × Bool)) (f:Fr) (S:AS)
theorem op_clear (t:TypeId) (x:Operand):evOp P E r ⟨dst,.call ⟨.builtin .clear,#[x],#[t]⟩,ty,pos,after,g⟩ f S=firstOf ((f.val E.G x).bind fun u=>aClear P t u S) (evOpB P E r ⟨dst,.call ⟨.builtin .clear,#[x],#[t]⟩,ty,pos,after,g⟩ f S):=by
 refine firstOf_of fun z hz=>?_
 obtain ⟨u,hu,hz⟩:=Option.bind_eq_some_iff.1 hz
 exact op_struct1 (z:=(some z.1,z.2)) dst ty pos after g f S rfl (by simp) (by simp) (by simp) (by simp) hu (by simp [evStruct,hu,hz])
end
theorem clear_own {lo:Nat} {S:AS} {l:List Int} {id len:Nat} (ho:Own 3 lo S (.slice (some ⟨id,0,none⟩) len len) l) {i:Nat} (hi:i<l.length) :
  ∃ S',aClear Tryz.prog 31 (.slice (some ⟨id,i * 1,none⟩) (len - i) (len - i)) S=some (.tuple #[],S')∧S'.next=S.next∧Own 3 lo S' (.slice (some ⟨id,0,none⟩) len len) (l.take i++List.replicate (l.length - i) 0)∧∀ q,q≠id→S'.heap.get q=S.heap.get q:=by
 rcases ho with ⟨rfl,_⟩|⟨id',ex,h0,h1,h2,h3⟩
 ·simp at hi
 ·simp only [Value.slice.injEq,Option.some.injEq,Addr.mk.injEq,and_true] at h0
  obtain ⟨rfl,rfl,_⟩:=h0
  have hfl:∀ m:List Int,(m.map cellsOf).flatten=m.map fun x=>Value.int .i64 x:=by
   intro m; induction m with
   | nil=>rfl
   | cons a m ih=>rw [List.map_cons,List.flatten_cons,ih]; rfl
  obtain ⟨k,hk⟩:∃ k,l.length - i=k+1:=⟨l.length - i - 1,by omega⟩
  have hzc:(Builtin.zeroCells (Value.int IntKind.i64 0).cells (k+1)).toList=(List.replicate (k+1) (0:Int)).map fun x=>Value.int .i64 x:=by
   apply List.ext_getElem?
   intro q
   by_cases hq:q<k+1
   ·simp [Builtin.zeroCells,Value.cells,hq,Nat.mod_one]
   ·simp [Builtin.zeroCells,Value.cells,hq]
  obtain ⟨S1,k1,k2,k3,k4⟩:=wr_open 3 1 ex id ((List.replicate (k+1) (0:Int)).map fun x=>Value.int .i64 x) (i * 1) 0 ((l.map cellsOf).flatten) S h3 (by simp [oneB]) (by rw [hfl]; simp; omega)
  refine ⟨S1,?_,k2,.inr ⟨id,ex,?_,h1,by omega,?_⟩,k4⟩
  ·rw [hk]
   simp only [aClear,Tryz.underlying31,t0_3,hzc,ai_storeCells,k1,Option.map_some]
  ·have:(l.take i++List.replicate (l.length - i) 0).length=l.length:=by simp; omega
   rw [this]
  ·rw [k3,hfl,hfl]
   congr 2
   rw [hk]
   simp only [List.map_append,List.map_take,List.map_replicate,List.length_replicate,Nat.mul_one,Nat.add_zero,List.append_assoc]
   rw [List.drop_eq_nil_of_le (by simp; omega)]
   simp
def cpp:List Int→Int→List Int→List Int
 | acc,_,[]=>acc
 | acc,p,y :: l=>if y=p then cpp acc p l else cpp (acc++[y]) y l
def cps:List Int→List Int
 | []=>[]
 | x :: l=>cpp [x] x l
theorem lget_set'2 (l:List Int) (i j:Nat) (x:Int) (h:i<l.length):lget (l.set i x) j=if i=j then x else lget l j:=by
 unfold lget
 rw [List.getD_eq_getElem?_getD,List.getD_eq_getElem?_getD,List.getElem?_set]
 by_cases c:i=j
 ·subst c; simp [h]
 ·simp [c]
theorem take_set (l:List Int) (k:Nat) (x:Int) (h:k<l.length):(l.set k x).take (k+1)=l.take k++[x]:=by
 rw [List.take_add_one,List.getElem?_set_self h,List.take_set_of_le (Nat.le_refl k)]
 rfl
theorem cut2 {lo:Nat} {S:AS} {v:Value} {l:List Int} (ho:Own 3 lo S v l) {id:Nat} (hb:blkOf v=some id) :
  id<S.next∧∃ c ex,S.heap.get id=some (.cells c 3 1 true ex)∧(∀ i:Nat,i<l.length→aIndexAddr Tryz.prog 31 v (.int .i64 (i:Int))=some (.pointer (some ⟨id,i * 1,none⟩))∧c[i * 1]?=some (.int .i64 (lget l i))) ∧
   ∀ k j:Nat,k+j<l.length→aIndexAddr Tryz.prog 31 (.slice (some ⟨id,k * 1,none⟩) (l.length - k) (l.length - k)) (.int .i64 (j:Int))=some (.pointer (some ⟨id,(k+j) * 1,none⟩)):=by
 obtain ⟨_,h2,c,ex,h3,h4⟩:=own_cut ho hb
 refine ⟨h2,c,ex,h3,fun i hi=>?_,fun k j hkj=>?_⟩
 ·obtain ⟨of,rfl,h5,h6⟩:=h4 i hi; exact ⟨h5,h6⟩
 ·have hb:inB (j:Int) (l.length - k)=true:=inBnd (by omega)
  simp [aIndexAddr,Tryz.underlying31,tz3,hb,addr_add,Nat.mul_one]
set_option maxHeartbeats 8000000 in
theorem c164 (l:List Int) (hl:l.length≤1000) (lo:Nat) (S:AS) (id:Nat) (ho:Own 3 lo S (.slice (some ⟨id,0,none⟩) l.length l.length) l) :
  ∃ v' S',(evL Tryz.prog E0).call 164 #[.slice (some ⟨id,0,none⟩) l.length l.length] S=some (v',S')∧Keep (.slice (some ⟨id,0,none⟩) l.length l.length) S S'∧blkOf v'=some id∧Lst S' v' (cps l):=by
 have hb:blkOf (.slice (some ⟨id,0,none⟩) l.length l.length)=some id:=rfl
 generalize hv:(Value.slice (some ⟨id,0,none⟩) l.length l.length)=v at *
 have len:lenV Tryz.prog 31 v=some (.int .i64 (l.length:Int)):=ho.rows.len (P:=Tryz.prog) (t:=31) Tryz.underlying31
 generalize hz:(evL Tryz.prog E0).call 164 _ _=z
 rw [L_call,evCall_said rfl Tryz.func164 rfl (by decide) Tryz.ntmps164 Tryz.results164] at hz
 simp (disch:=first|omega|assumption) only [E0_G,SY,setArgs,off,agreeKind,Nat.reduceAdd,Nat.reduceSub,Nat.reduceLT,Nat.reduceBEq,store_refl E0_same,len] at hz
 rcases dP ((l.length:Int)<2) with ⟨h1a,h1⟩|⟨h1a,h1⟩
 ·simp (disch:=first|omega|assumption) only [E0_G,SY,off,agreeKind,Nat.reduceAdd,Nat.reduceLT,Nat.reduceBEq,store_refl E0_same,h1a] at hz
  refine ⟨v,S,hz.symm,Keep.refl v S,hb,?_⟩
  have e:cps l=l:=by
   match l,h1 with
   | [],_=>rfl
   | [x],_=>rfl
   | _ :: _ :: _,h=>simp at h; omega
  rw [e]; exact ho.rows
 simp (disch:=first|omega|assumption) only [E0_G,SY,off,agreeKind,Nat.reduceLT,store_refl E0_same,h1a] at hz
 generalize hL1:Rec.loop _ _ _ _=L1 at hz
 obtain ⟨x1,t1,S1e,rfl,hQ1⟩:=loop_met hL1 (fun m t S'=>∃ (k:Nat),m+k=l.length∧1≤k∧cpp (l.take k) (lget l (k - 1)) (l.drop k)=cps l∧t.get 0=some v∧t.get 3=some (.int .i64 (k:Int))∧S'=S)
  (fun x t S'=>(x=.exit 0∧t.get 0=some v∧S'=S∧l=cps l)∨(x=.ret∧∃ v',t.get 2=some v'∧Keep v S S'∧blkOf v'=some id∧Lst S' v' (cps l))) (l.length - 1)
  ⟨1,by omega,by omega,by
   match l,h1 with
   | x :: y :: l,_=>rfl
   | [x],h=>simp at h
   | [],h=>simp at h,by simp only [SY,eq_self,Nat.reduceBEq]<;>rfl,by simp only [SY,Nat.reduceBEq]<;>rfl,rfl⟩ (by
   rintro m t S1 ⟨k,hm,hk,hc,g0,g3,rfl⟩
   refine .run fun z he=>?_
   simp (disch:=first|omega|assumption) only [E0_G,SY,off,agreeKind,Nat.reduceAdd,Nat.reduceLT,Nat.reduceBEq,store_refl E0_same,g0,g3,len] at he
   rcases dP ((k:Int)<(l.length:Int)) with ⟨h3a,h3⟩|⟨h3a,h3⟩
   ·simp (disch:=first|omega|assumption) only [SY,store_refl E0_same,h3a] at he
    rw [code_draws _ _ _ (by kernel_rfl)] at he
    generalize hnd1:needy _=nd1 at he
    have w1:IntKind.i64.wrap ((k:Int) - 1)=((k - 1:Nat):Int):=by rw [IntWalk.i64_in]<;>omega
    obtain ⟨ltA,ccA,exA,hxA,hcA,hdA⟩:=cut2 ho hb
    obtain ⟨ia,pa⟩:=hcA k (by omega)
    obtain ⟨ib,pb⟩:=hcA (k - 1) (by omega)
    simp (disch:=first|omega|assumption) only [E0_G,SY,agreeKind,ldA,aggD,Nat.reduceAdd,Nat.reduceLT,Nat.reduceBEq,TY_EvO0,store_refl E0_same,g0,g3,w1,hxA,ia,pa,ib,pb] at he
    rcases dP (lget l k=lget l (k - 1)) with ⟨h4a,h4⟩|⟨h4a,h4⟩
    ·have sl1:=Own.lo_at (P:=Tryz.prog) (t:=31) (len:=l.length) (by rw [hv]; exact ho) Tryz.underlying31 tz3 (i:=k) (by omega)
     rw [hv] at sl1
     have sl2:aSlice Tryz.prog 31 v (some (.int .i64 (k:Int))) none S1=some (.slice (some ⟨id,k * 1,none⟩) (l.length - k) (l.length - k)):=sl1.1
     have len2:lenV Tryz.prog 31 (.slice (some ⟨id,k * 1,none⟩) (l.length - k) (l.length - k))=some (.int .i64 ((l.length - k:Nat):Int)):=by simp only [lenV,Tryz.underlying31]
     simp (disch:=first|omega|assumption) only [E0_G,SY,off,agreeKind,Nat.reduceAdd,Nat.reduceLT,Nat.reduceBEq,store_refl E0_same,g0,g3,h4a,sl2] at he
     generalize hL2:Rec.loop _ _ _ _=L2 at he
     obtain ⟨x2,t2,S2e,rfl,hQ2⟩:=loop_met hL2 (fun m t S'=>∃ (k3 k2:Nat) (o:List Int),m+(k+k2)=l.length∧1≤k2∧1≤k3∧k3<k+k2∧o.length=l.length∧(∀ i,k+k2 - 1≤i→lget o i=lget l i)∧cpp (o.take k3) (lget l (k+k2 - 1)) (l.drop (k+k2))=cps l ∧
       t.get 0=some v∧t.get 3=some (.int .i64 (k3:Int))∧t.get 4=some (.slice (some ⟨id,k * 1,none⟩) (l.length - k) (l.length - k))∧t.get 5=some (.int .i64 (k2:Int))∧Keep v S1 S'∧Own 3 lo S' v o)
      (fun x t S'=>x=.exit 2∧∃ (k3:Nat) (o:List Int),1≤k3∧k3<l.length∧o.length=l.length∧o.take k3=cps l∧t.get 0=some v∧t.get 3=some (.int .i64 (k3:Int))∧Keep v S1 S'∧Own 3 lo S' v o) (l.length - (k+1))
      ⟨k,1,l,by omega,by omega,by omega,by omega,rfl,fun _ _=>rfl,by
       rw [List.drop_eq_getElem_cons (show k<l.length by omega)] at hc
       have e:l[k]=lget l k:=by unfold lget; rw [List.getD_eq_getElem?_getD,List.getElem?_eq_getElem (by omega)]; rfl
       rw [e] at hc
       simp only [cpp,if_pos h4] at hc
       rw [Nat.add_sub_cancel,h4]; exact hc,
       by simp only [SY,eq_self,Nat.reduceBEq,g0]<;>rfl,by simp only [SY,eq_self,Nat.reduceBEq,g3]<;>rfl,by simp only [SY,eq_self,Nat.reduceBEq]<;>rfl,by simp only [SY,Nat.reduceBEq]<;>rfl,Keep.refl v S1,ho⟩ (by
       rintro m t S2 ⟨k3,k2,o,hm2,hk2,hk3,hkk,hol,hoe,hc2,f0,f3,f4,f5,kp,ow⟩
       refine .run fun z he=>?_
       simp (disch:=first|omega|assumption) only [E0_G,SY,off,agreeKind,Nat.reduceAdd,Nat.reduceLT,Nat.reduceBEq,store_refl E0_same,f4,f5,len2] at he
       rcases dP ((k2:Int)<((l.length - k:Nat):Int)) with ⟨h5a,h5⟩|⟨h5a,h5⟩
       ·simp (disch:=first|omega|assumption) only [SY,store_refl E0_same,h5a] at he
        rw [code_draws _ _ _ (by kernel_rfl)] at he
        generalize hnd2:needy _=nd2 at he
        have w2:IntKind.i64.wrap ((k2:Int) - 1)=((k2 - 1:Nat):Int):=by rw [IntWalk.i64_in]<;>omega
        have w3:IntKind.i64.wrap ((k2:Int)+1)=((k2+1:Nat):Int):=by rw [IntWalk.i64_in]<;>omega
        have w4:IntKind.i64.wrap ((k3:Int)+1)=((k3+1:Nat):Int):=by rw [IntWalk.i64_in]<;>omega
        obtain ⟨ltB,ccB,exB,hxB,hcB,hdB⟩:=cut2 ow hb
        have ic:=hdB k k2 (by omega)
        have id_:=hdB k (k2 - 1) (by omega)
        rw [hol] at ic id_
        have pc:=(hcB (k+k2) (by omega)).2
        have pd:=(hcB (k+(k2 - 1)) (by omega)).2
        obtain ⟨ie,pe⟩:=hcB k3 (by omega)
        simp (disch:=first|omega|assumption) only [E0_G,SY,agreeKind,ldA,aggD,Nat.reduceAdd,Nat.reduceLT,Nat.reduceBEq,TY_EvO0,store_refl E0_same,f4,f5,w2,hxB,ic,id_,pc,pd] at he
        have q1:lget o (k+k2)=lget l (k+k2):=hoe _ (by omega)
        have q2:lget o (k+(k2 - 1))=lget l (k+k2 - 1):=by rw [show k+(k2 - 1)=k+k2 - 1 by omega]; exact hoe _ (by omega)
        have hdr:l.drop (k+k2)=lget l (k+k2) :: l.drop (k+k2+1):=by
         rw [List.drop_eq_getElem_cons (show k+k2<l.length by omega)]
         congr 1
         unfold lget; rw [List.getD_eq_getElem?_getD,List.getElem?_eq_getElem (by omega)]; rfl
        rw [hdr] at hc2
        rcases dP (lget o (k+k2)=lget o (k+(k2 - 1))) with ⟨h6a,h6⟩|⟨h6a,h6⟩
        ·simp (disch:=first|omega|assumption) only [E0_G,SY,off,agreeKind,Nat.reduceAdd,Nat.reduceLT,Nat.reduceBEq,store_refl E0_same,f5,h6a,w3] at he
         simp only [cpp,if_pos (show lget l (k+k2)=lget l (k+k2 - 1) by rw [← q1,← q2]; exact h6)] at hc2
         exact .next he (m - 1) (by omega) ⟨k3,k2+1,o,by omega,by omega,by omega,by omega,hol,fun i hi=>hoe i (by omega),by
          rw [show k+(k2+1) - 1=k+k2 by omega,show k+(k2+1)=k+k2+1 by omega,← q1,h6,q2]; exact hc2,
          by simp only [SY,eq_self,Nat.reduceBEq,f0]<;>rfl,by simp only [SY,eq_self,Nat.reduceBEq,f3]<;>rfl,by simp only [SY,eq_self,Nat.reduceBEq,f4]<;>rfl,by simp only [SY,eq_self,Nat.reduceBEq,f5]<;>rfl,kp,ow⟩
        obtain ⟨S3,e3,n3,o3,q3⟩:=ow.put (P:=Tryz.prog) (u:=.int .i64 (lget o (k+k2))) tz3 (i:=k3) (by omega) (x:=lget o (k+k2)) rfl hb
        have e3':stA Tryz.prog 3 ⟨id,k3 * 1,none⟩ (.int .i64 (lget o (k+k2))) S2=some S3:=e3
        simp (disch:=first|omega|assumption) only [E0_G,SY,off,agreeKind,ldA,aggD,Nat.reduceAdd,Nat.reduceLT,Nat.reduceBEq,TY_EvO0,store_refl E0_same,f0,f3,f4,f5,h6a,w3,w4,hxB,ic,pc,ie,e3'] at he
        simp only [cpp,if_neg (show ¬ lget l (k+k2)=lget l (k+k2 - 1) by rw [← q1,← q2]; exact h6)] at hc2
        exact .next he (m - 1) (by omega) ⟨k3+1,k2+1,_,by omega,by omega,by omega,by omega,by rw [List.length_set]; exact hol,fun i hi=>by
          rw [lget_set'2 _ _ _ _ (by omega),if_neg (by omega)]; exact hoe i (by omega),by
         rw [show k+(k2+1) - 1=k+k2 by omega,show k+(k2+1)=k+k2+1 by omega,take_set _ _ _ (by omega),q1]; exact hc2,
         by simp only [SY,eq_self,Nat.reduceBEq,f0]<;>rfl,by simp only [SY,eq_self,Nat.reduceBEq]<;>rfl,by simp only [SY,eq_self,Nat.reduceBEq,f4]<;>rfl,by simp only [SY,eq_self,Nat.reduceBEq]<;>rfl,kp.trans (Keep.put n3 hb q3),o3⟩
       simp (disch:=first|omega|assumption) only [SY,store_refl E0_same,h5a] at he
       have e:l.drop (k+k2)=[]:=List.drop_eq_nil_of_le (by omega)
       rw [e] at hc2
       exact .exit he ⟨rfl,k3,o,by omega,by omega,hol,hc2,by simp only [SY,eq_self,Nat.reduceBEq,f0]<;>rfl,by simp only [SY,eq_self,Nat.reduceBEq,f3]<;>rfl,kp,ow⟩)
     obtain ⟨rfl,k3,o,hk3,hk3l,hol,hot,f0,f3,kp,ow⟩:=hQ2
     rw [← hv,← hol] at ow
     have sl3:=Own.lo_at (P:=Tryz.prog) (t:=31) ow Tryz.underlying31 tz3 (i:=k3) (by omega)
     have sl4:aSlice Tryz.prog 31 v (some (.int .i64 (k3:Int))) none S2e=some (.slice (some ⟨id,k3 * 1,none⟩) (l.length - k3) (l.length - k3)):=by have:=sl3.1; rw [hol,hv] at this; exact this
     obtain ⟨S4,e4,n4,o4,q4⟩:=clear_own ow (i:=k3) (by omega)
     rw [hol] at e4
     have sl5:=Own.hi_at (P:=Tryz.prog) (t:=31) (len:=o.length) (l:=o.take k3++List.replicate (o.length - k3) 0) o4 Tryz.underlying31 tz3 (i:=k3) (by simp; omega) (by simp; omega)
     rw [hol,hv] at sl5
     simp (disch:=first|omega|assumption) only [E0_G,SY,off,agreeKind,eq_self,if_true,Nat.reduceAdd,Nat.reduceLT,Nat.reduceBEq,op_clear,store_refl E0_same,f0,f3,sl4,e4,sl5] at he
     refine .ret he (.inr ⟨rfl,_,by simp only [SY,Nat.reduceBEq]<;>rfl,kp.trans (Keep.put n4 hb q4),rfl,?_⟩)
     obtain ⟨lt5,c5,ex5,hx5,hc5,_⟩:=cut2 (v:=.slice (some ⟨id,0,none⟩) o.length o.length) o4 (id:=id) rfl
     rw [← hot]
     refine .inr ⟨id,0,c5,3,l.length,true,ex5,by rw [List.length_take]; congr 1; omega,by rw [List.length_take]; omega,hx5,lt5,fun i x hi j hj=>?_⟩
     have hj:j=0:=by have:j<1:=hj; omega
     subst hj
     have hik:i<k3:=by
      have:=(List.getElem?_eq_some_iff.1 hi).1
      rw [List.length_take] at this; omega
     have h7:=(hc5 i (by simp; omega)).2
     have h8:lget (o.take k3++List.replicate (o.length - k3) 0) i=x:=lget_of (by rw [List.getElem?_append_left (by rw [List.length_take]; omega)]; exact hi)
     rw [h8] at h7
     show c5[0+i * 1+0]?=_
     rw [Nat.zero_add,Nat.add_zero,h7]; rfl
    have w5:IntKind.i64.wrap ((k:Int)+1)=((k+1:Nat):Int):=by rw [IntWalk.i64_in]<;>omega
    simp (disch:=first|omega|assumption) only [E0_G,SY,off,agreeKind,Nat.reduceAdd,Nat.reduceLT,Nat.reduceBEq,store_refl E0_same,g3,h4a,w5] at he
    rw [List.drop_eq_getElem_cons (show k<l.length by omega)] at hc
    have e:l[k]=lget l k:=by unfold lget; rw [List.getD_eq_getElem?_getD,List.getElem?_eq_getElem (by omega)]; rfl
    rw [e] at hc
    simp only [cpp,if_neg h4] at hc
    exact .next he (m - 1) (by omega) ⟨k+1,by omega,by omega,by
     rw [Nat.add_sub_cancel,List.take_add_one,List.getElem?_eq_getElem (show k<l.length by omega),e]; exact hc,by simp only [SY,eq_self,Nat.reduceBEq,g0]<;>rfl,by simp only [SY,eq_self,Nat.reduceBEq]<;>rfl,rfl⟩
   simp (disch:=first|omega|assumption) only [SY,store_refl E0_same,h3a] at he
   have e:l.drop k=[]:=List.drop_eq_nil_of_le (by omega)
   have e2:l.take k=l:=List.take_of_length_le (by omega)
   rw [e,e2] at hc
   exact .exit he (.inl ⟨rfl,by simp only [SY,eq_self,Nat.reduceBEq,g0]<;>rfl,rfl,hc⟩))
 rcases hQ1 with ⟨rfl,g0,rfl,hc⟩|⟨rfl,v',g2,kp,hb',hL⟩
 ·simp (disch:=first|omega|assumption) only [E0_G,SY,off,agreeKind,eq_self,if_true,Nat.reduceAdd,Nat.reduceLT,Nat.reduceBEq,store_refl E0_same,g0] at hz
  exact ⟨v,S1e,hz.symm,Keep.refl v S1e,hb,by rw [← hc]; exact ho.rows⟩
 ·simp (disch:=first|omega|assumption) only [SY,store_refl E0_same,g2] at hz
  exact ⟨v',S1e,hz.symm,kp,hb',hL⟩
end Clock
end Go.Proofs
end
