import Derived.Test.YtohfdkdjfoonjaaGreatDoorEvH32
import Derived.Test.YtohfdkdjfoonjaaGreatDoorEvM16
set_option linter.unusedSimpArgs false
set_option linter.unusedVariables false
namespace Go.Proofs
namespace House
open Go Go.RowKit Go.Aev
set_option maxRecDepth 100000
instance:Cel Stp:=⟨3,fun x=>[.int .i64 x.way,.bool x.back,.int .i64 x.at_],fun _=>rfl,fun _=>rfl⟩
def Keep (v:Value) (S S':AS):Prop:=S.next≤S'.next∧∀ q,q<S.next→blkOf v≠some q→S'.heap.get q=S.heap.get q
theorem Keep.refl (v:Value) (S:AS):Keep v S S:=⟨Nat.le_refl _,fun _ _ _=>rfl⟩
theorem Keep.trans {v:Value} {S S' S'':AS} (h:Keep v S S') (h':Keep v S' S''):Keep v S S'':=⟨Nat.le_trans h.1 h'.1,fun q hq hn=>(h'.2 q (Nat.lt_of_lt_of_le hq h.1) hn).trans (h.2 q hq hn)⟩
theorem Keep.put {v:Value} {S S':AS} {id:Nat} (hn:S'.next=S.next) (hb:blkOf v=some id) (h:∀ q,q≠id→S'.heap.get q=S.heap.get q):Keep v S S' :=
 ⟨Nat.le_of_eq hn.symm,fun q _ hq=>h q (fun e=>hq (by rw [hb,e]))⟩
def swpS (l:List Stp) (i j:Nat):List Stp:=(l.set i (lget l j)).set j (lget l i)
theorem own_blk {lo:Nat} {S:AS} {v:Value} {l:List Stp} (ho:Own 94 lo S v l) (h:0<l.length):∃ id,blkOf v=some id:=by
 rcases ho with ⟨rfl,_⟩|⟨id',ex,rfl,h1,h2,h3⟩
 ·simp at h
 ·exact ⟨id',rfl⟩
theorem own_cut94 {lo:Nat} {S:AS} {v:Value} {l:List Stp} (ho:Own 94 lo S v l) {id:Nat} (hb:blkOf v=some id) :
  lo≤id∧id<S.next∧∃ c ex,S.heap.get id=some (.cells c 94 3 true ex)∧∀ i:Nat,i<l.length→∃ of,of=i * 3∧aIndexAddr Tryz.prog 47 v (.int .i64 (i:Int))=some (.pointer (some ⟨id,of,none⟩)) ∧
   c[of]?=some (.int .i64 (lget l i).way)∧c[of+1]?=some (.bool (lget l i).back)∧c[of+2]?=some (.int .i64 (lget l i).at_):=by
 have ho':=ho
 rcases ho with ⟨rfl,rfl⟩|⟨id',ex,rfl,h1,h2,h3⟩
 ·simp [blkOf] at hb
 ·obtain rfl:id'=id:=by simpa [blkOf] using hb
  refine ⟨h1,h2,_,ex,h3,fun i hi=>?_⟩
  obtain ⟨id',c,ex',hb',h1',h2',h4,h5,h6⟩:=ho'.at (P:=Tryz.prog) (t:=47) Tryz.underlying47 (by decide +kernel) (lget_some hi)
  obtain rfl:id'=_:=by simpa [blkOf] using hb'.symm
  rw [h3] at h5
  simp only [Option.some.injEq,ABlk.cells.injEq] at h5
  obtain ⟨rfl,-⟩:=h5
  exact ⟨_,rfl,h4,h6 0 (by decide),h6 1 (by decide),h6 2 (by decide)⟩
theorem own_swp94 {lo:Nat} {S:AS} {v:Value} {l:List Stp} (ho:Own 94 lo S v l) {id:Nat} (hb:blkOf v=some id) {i j:Nat} (hi:i<l.length) (hj:j<l.length) {oi oj:Nat} (hoi:oi=i * 3) (hoj:oj=j * 3) :
  ∃ S1 S2,stA Tryz.prog 94 ⟨id,oi,none⟩ (.agg #[.int .i64 (lget l j).way,.bool (lget l j).back,.int .i64 (lget l j).at_]) S=some S1 ∧
   stA Tryz.prog 94 ⟨id,oj,none⟩ (.agg #[.int .i64 (lget l i).way,.bool (lget l i).back,.int .i64 (lget l i).at_]) S1=some S2∧Own 94 lo S2 v (swpS l i j)∧Keep v S S2∧S2.next=S.next:=by
 subst hoi hoj
 obtain ⟨S1,e1,n1,o1,f1⟩:=ho.put (P:=Tryz.prog) (u:=.agg #[.int .i64 (lget l j).way,.bool (lget l j).back,.int .i64 (lget l j).at_]) (by decide +kernel) hi (x:=lget l j) rfl hb
 obtain ⟨S2,e2,n2,o2,f2⟩:=o1.put (P:=Tryz.prog) (u:=.agg #[.int .i64 (lget l i).way,.bool (lget l i).back,.int .i64 (lget l i).at_]) (by decide +kernel) (i:=j) (by rw [List.length_set]; exact hj) (x:=lget l i) rfl hb
 exact ⟨S1,S2,e1,e2,o2,(Keep.put n1 hb f1).trans (Keep.put n2 hb f2),by omega⟩
def Trn (l o:List Stp) (i:Nat):Prop:=o.length=l.length∧∀ q,q<l.length→lget o q=if q<i∨l.length≤q+i then lget l (l.length - 1 - q) else lget l q
theorem Trn.step {l o:List Stp} {i:Nat} (h:Trn l o i) (hi:2 * i+1<l.length):Trn l (swpS o i (l.length - 1 - i)) (i+1):=by
 have hl:=h.1
 refine ⟨by unfold swpS; rw [List.length_set,List.length_set]; exact hl,fun q hq=>?_⟩
 have a1:=h.2 i (by omega); rw [if_neg (by omega)] at a1
 have a2:=h.2 (l.length - 1 - i) (by omega); rw [if_neg (by omega)] at a2
 unfold swpS
 by_cases e:l.length - 1 - i=q
 ·subst e
  rw [lget_set_self (by rw [List.length_set]; omega),a1,if_pos (by omega)]
  congr 1; omega
 ·rw [lget_set_ne e]
  by_cases e2:i=q
  ·subst e2
   rw [lget_set_self (by omega),a2,if_pos (by omega)]
  ·rw [lget_set_ne e2,h.2 q hq]
   by_cases c:q<i∨l.length≤q+i
   ·rw [if_pos c,if_pos (by omega)]
   ·rw [if_neg c,if_neg (by omega)]
theorem Trn.fin {l o:List Stp} {i:Nat} (h:Trn l o i) (hi:l.length≤2 * i+1):o=l.reverse:=by
 have hl:=h.1
 apply List.ext_getElem (by rw [List.length_reverse]; exact hl)
 intro q h1 h2
 have k:=h.2 q (by omega)
 have k1:lget o q=o[q]:=lget_of (List.getElem?_eq_getElem h1)
 rw [← k1,k,List.getElem_reverse]
 split
 ·exact lget_of (List.getElem?_eq_getElem (by omega))
 ·rw [lget_of (List.getElem?_eq_getElem (by omega:q<l.length))]
  congr 1; omega
set_option maxHeartbeats 4000000 in
theorem c115 (l:List Stp) (hn:l.length≤100000) (lo:Nat) (S:AS) (v:Value) (ho:Own 94 lo S v l) :
  ∃ S',(evL Tryz.prog E0).call 115 #[v] S=some (.tuple #[],S')∧Keep v S S'∧Own 94 lo S' v l.reverse:=by
 generalize hz:(evL Tryz.prog E0).call 115 _ _=z
 rw [L_call,evCall_said rfl Tryz.func115 rfl (by decide) Tryz.ntmps115 Tryz.results115] at hz
 have w0:IntKind.i64.wrap ((l.length:Int) - 1)=(l.length:Int) - 1:=by rw [IntWalk.i64_in]<;>omega
 have hlen:=(ho.rows).len (P:=Tryz.prog) (t:=47) Tryz.underlying47
 try simp (disch:=first|omega|assumption) only [E0_G,SY,setArgs,off,agreeKind,partVals,vals,allocV,boxed,ldA,rdCells,oneB,aggD,aField,aFieldV,aExtract,eq_self,ne_eq,if_true,if_false,not_false_eq_true,Nat.reduceAdd,Nat.reduceSub,Nat.reduceMul,Nat.reduceLT,Nat.reduceEqDiff,Nat.reduceBEq,reduceIte,Int.reduceEq,Int.reduceLT,Int.reduceLE,reduceCtorEq,off,agreeKind,vals,ldA,aggD,aField,Nat.reduceAdd,Nat.reduceSub,Nat.reduceLT,Nat.reduceBEq,setArgs,TY_EvH32,hlen,w0] at hz
 generalize hL1:Rec.loop _ _ _ _=L1 at hz
 obtain ⟨x1,t1,S1e,rfl,hQ1⟩:=loop_met hL1 (fun m t S'=>∃ (i:Nat) (o:List Stp),m+i=l.length+1∧2 * i≤l.length+1∧Trn l o i∧t.get 0=some v∧t.get 2=some (.int .i64 (i:Int))∧t.get 3=some (.int .i64 ((l.length:Int) - 1 - i))∧Keep v S S'∧Own 94 lo S' v o)
  (fun x t S'=>x=.exit 0∧Keep v S S'∧Own 94 lo S' v l.reverse) (l.length+1)
  ⟨0,l,by omega,by omega,⟨rfl,fun q hq=>by rw [if_neg (by omega)]⟩,by simp only [SY,setArgs,off,agreeKind,partVals,vals,allocV,boxed,ldA,rdCells,oneB,aggD,aField,aFieldV,aExtract,eq_self,ne_eq,if_true,if_false,not_false_eq_true,Nat.reduceAdd,Nat.reduceSub,Nat.reduceMul,Nat.reduceLT,Nat.reduceEqDiff,Nat.reduceBEq,reduceIte,Int.reduceEq,Int.reduceLT,Int.reduceLE,reduceCtorEq,w0]<;>rfl,by simp only [SY,setArgs,off,agreeKind,partVals,vals,allocV,boxed,ldA,rdCells,oneB,aggD,aField,aFieldV,aExtract,eq_self,ne_eq,if_true,if_false,not_false_eq_true,Nat.reduceAdd,Nat.reduceSub,Nat.reduceMul,Nat.reduceLT,Nat.reduceEqDiff,Nat.reduceBEq,reduceIte,Int.reduceEq,Int.reduceLT,Int.reduceLE,reduceCtorEq,w0]<;>rfl,by simp only [SY,setArgs,off,agreeKind,partVals,vals,allocV,boxed,ldA,rdCells,oneB,aggD,aField,aFieldV,aExtract,eq_self,ne_eq,if_true,if_false,not_false_eq_true,Nat.reduceAdd,Nat.reduceSub,Nat.reduceMul,Nat.reduceLT,Nat.reduceEqDiff,Nat.reduceBEq,reduceIte,Int.reduceEq,Int.reduceLT,Int.reduceLE,reduceCtorEq,w0]<;>first|rfl|(congr 2; omega),Keep.refl v S,ho⟩ (by
   rintro m t S1 ⟨i,o,hm,hi,hs,g0,g2,g3,kp,ow⟩
   refine .run fun z he=>?_
   have hlo:=hs.1
   try simp (disch:=first|omega|assumption) only [E0_G,SY,setArgs,off,agreeKind,partVals,vals,allocV,boxed,ldA,rdCells,oneB,aggD,aField,aFieldV,aExtract,eq_self,ne_eq,if_true,if_false,not_false_eq_true,Nat.reduceAdd,Nat.reduceSub,Nat.reduceMul,Nat.reduceLT,Nat.reduceEqDiff,Nat.reduceBEq,reduceIte,Int.reduceEq,Int.reduceLT,Int.reduceLE,reduceCtorEq,off,agreeKind,vals,ldA,aggD,aField,Nat.reduceAdd,Nat.reduceSub,Nat.reduceLT,Nat.reduceBEq,setArgs,TY_EvH32,g0,g2,g3] at he
   rcases dP ((i:Int)<(l.length:Int) - 1 - i) with ⟨h3a,h3⟩|⟨h3a,h3⟩
   ·skip
    try simp (disch:=first|omega|assumption) only [E0_G,SY,setArgs,off,agreeKind,partVals,vals,allocV,boxed,ldA,rdCells,oneB,aggD,aField,aFieldV,aExtract,eq_self,ne_eq,if_true,if_false,not_false_eq_true,Nat.reduceAdd,Nat.reduceSub,Nat.reduceMul,Nat.reduceLT,Nat.reduceEqDiff,Nat.reduceBEq,reduceIte,Int.reduceEq,Int.reduceLT,Int.reduceLE,reduceCtorEq,off,agreeKind,vals,ldA,aggD,aField,Nat.reduceAdd,Nat.reduceSub,Nat.reduceLT,Nat.reduceBEq,setArgs,TY_EvH32,g0,g2,g3,h3a] at he
    have w1:IntKind.i64.wrap ((i:Int)+1)=((i+1:Nat):Int):=by rw [IntWalk.i64_in]<;>omega
    have w2:IntKind.i64.wrap ((l.length:Int) - 1 - i - 1)=(l.length:Int) - 1 - ((i+1:Nat):Int):=by rw [IntWalk.i64_in]<;>omega
    have ej:(l.length:Int) - 1 - i=((l.length - 1 - i:Nat):Int):=by omega
    rw [code_draws _ _ _ (by kernel_rfl)] at he
    generalize hnd1:needy _=nd1 at he
    obtain ⟨id,hb⟩:=own_blk ow (by omega)
    obtain ⟨loA,ltA,ccA,exA,hxA,hcA⟩:=own_cut94 ow hb
    obtain ⟨ofAj,hoAj,iaAj,pAj0,pAj1,pAj2⟩:=hcA (l.length - 1 - i) (by omega)
    obtain ⟨ofAi,hoAi,iaAi,pAi0,pAi1,pAi2⟩:=hcA (i) (by omega)
    obtain ⟨SxA,SyA,exA,eyA,owA,kpA,nxA⟩:=own_swp94 ow hb (i:=i) (j:=l.length - 1 - i) (by omega) (by omega) hoAi hoAj
    rw [← ej] at iaAj
    try simp (disch:=first|omega|assumption) only [E0_G,SY,setArgs,off,agreeKind,partVals,vals,allocV,boxed,ldA,rdCells,oneB,aggD,aField,aFieldV,aExtract,eq_self,ne_eq,if_true,if_false,not_false_eq_true,Nat.reduceAdd,Nat.reduceSub,Nat.reduceMul,Nat.reduceLT,Nat.reduceEqDiff,Nat.reduceBEq,reduceIte,Int.reduceEq,Int.reduceLT,Int.reduceLE,reduceCtorEq,off,agreeKind,vals,ldA,aggD,aField,Nat.reduceAdd,Nat.reduceSub,Nat.reduceLT,Nat.reduceBEq,setArgs,TY_EvH32,store_agree,store_refl E0_same,g0,g2,g3,w1,w2,hxA,iaAj,pAj0,pAj1,pAj2,iaAi,pAi0,pAi1,pAi2,exA,eyA] at he
    exact .next he (m - 1) (by omega) ⟨i+1,_,by omega,by omega,hs.step (by omega),by simp only [SY,setArgs,off,agreeKind,partVals,vals,allocV,boxed,ldA,rdCells,oneB,aggD,aField,aFieldV,aExtract,eq_self,ne_eq,if_true,if_false,not_false_eq_true,Nat.reduceAdd,Nat.reduceSub,Nat.reduceMul,Nat.reduceLT,Nat.reduceEqDiff,Nat.reduceBEq,reduceIte,Int.reduceEq,Int.reduceLT,Int.reduceLE,reduceCtorEq,g0,g2,g3]<;>rfl,by simp only [SY,setArgs,off,agreeKind,partVals,vals,allocV,boxed,ldA,rdCells,oneB,aggD,aField,aFieldV,aExtract,eq_self,ne_eq,if_true,if_false,not_false_eq_true,Nat.reduceAdd,Nat.reduceSub,Nat.reduceMul,Nat.reduceLT,Nat.reduceEqDiff,Nat.reduceBEq,reduceIte,Int.reduceEq,Int.reduceLT,Int.reduceLE,reduceCtorEq,g0,g2,g3]<;>rfl,by simp only [SY,setArgs,off,agreeKind,partVals,vals,allocV,boxed,ldA,rdCells,oneB,aggD,aField,aFieldV,aExtract,eq_self,ne_eq,if_true,if_false,not_false_eq_true,Nat.reduceAdd,Nat.reduceSub,Nat.reduceMul,Nat.reduceLT,Nat.reduceEqDiff,Nat.reduceBEq,reduceIte,Int.reduceEq,Int.reduceLT,Int.reduceLE,reduceCtorEq,g0,g2,g3]<;>rfl,kp.trans kpA,owA⟩
   ·skip
    try simp (disch:=first|omega|assumption) only [E0_G,SY,setArgs,off,agreeKind,partVals,vals,allocV,boxed,ldA,rdCells,oneB,aggD,aField,aFieldV,aExtract,eq_self,ne_eq,if_true,if_false,not_false_eq_true,Nat.reduceAdd,Nat.reduceSub,Nat.reduceMul,Nat.reduceLT,Nat.reduceEqDiff,Nat.reduceBEq,reduceIte,Int.reduceEq,Int.reduceLT,Int.reduceLE,reduceCtorEq,off,agreeKind,vals,ldA,aggD,aField,Nat.reduceAdd,Nat.reduceSub,Nat.reduceLT,Nat.reduceBEq,setArgs,TY_EvH32,g0,g2,g3,h3a] at he
    exact .exit he ⟨rfl,kp,hs.fin (by omega) ▸ ow⟩)
 obtain ⟨rfl,kp,ow⟩:=hQ1
 try simp (disch:=first|omega|assumption) only [E0_G,SY,setArgs,off,agreeKind,partVals,vals,allocV,boxed,ldA,rdCells,oneB,aggD,aField,aFieldV,aExtract,eq_self,ne_eq,if_true,if_false,not_false_eq_true,Nat.reduceAdd,Nat.reduceSub,Nat.reduceMul,Nat.reduceLT,Nat.reduceEqDiff,Nat.reduceBEq,reduceIte,Int.reduceEq,Int.reduceLT,Int.reduceLE,reduceCtorEq,off,agreeKind,vals,Nat.reduceAdd,Nat.reduceSub,Nat.reduceLT,Nat.reduceBEq,TY_EvH32] at hz
 exact ⟨_,hz.symm,kp,ow⟩
end House
end Go.Proofs
