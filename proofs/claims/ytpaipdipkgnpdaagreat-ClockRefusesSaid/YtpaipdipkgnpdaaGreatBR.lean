import Derived.Test.YtpaipdipkgnpdaaGreatBQ
section
set_option linter.unusedSimpArgs false
set_option linter.unusedVariables false
namespace Go.Proofs
namespace Clock
open Go Go.RowKit Go.Aev
set_option maxRecDepth 100000
theorem tz240:szOf Tryz.prog 240=some 1:=by kernel_rfl
theorem tt240:inTab Tryz.prog 240=true:=by kernel_rfl
theorem t0_240:zeroOf Tryz.prog 240=some (.int .u64 0):=by kernel_rfl
def tabB (P:Program) (t:TypeId) (s:ByteArray):Bool:=(List.range 256).all fun k=>match aIndexV P t (.string s) (.int .u8 (k:Int)) with
 | some (.int .u8 r)=>decide (0≤r∧r≤8∧(k=0∨2 ^ r.toNat≤2 * k))
 | _=>false
theorem tab_ok (P:Program) (t:TypeId) (s:ByteArray) (h:tabB P t s=true) (k:Nat) (hk:k<256):∃ r:Int,aIndexV P t (.string s) (.int .u8 (k:Int))=some (.int .u8 r)∧0≤r∧r≤8∧(k=0∨2 ^ r.toNat≤2 * k):=by
 have h1:=List.all_eq_true.1 h k (List.mem_range.2 hk)
 split at h1
 ·rename_i r e
  have:=of_decide_eq_true h1
  exact ⟨r,e,this⟩
 ·simp at h1
set_option maxHeartbeats 8000000 in
theorem c185g (k:Nat) (hk:k≤1000) (S:AS):∃ r:Nat,(evL Tryz.prog E0).call 185 #[.int .u64 (k:Int)] S=some (.int .i64 (r:Int),S)∧(k=0∨2 ^ r≤2 * k):=by
 generalize hz:(evL Tryz.prog E0).call 185 _ _=z
 rw [L_call,evCall_said rfl Tryz.func185 rfl (by decide) Tryz.ntmps185 Tryz.results185] at hz
 have h1:decide (4294967296≤(k:Int))=false:=decide_eq_false (by omega)
 have h2:decide (65536≤(k:Int))=false:=decide_eq_false (by omega)
 rcases dP ((256:Int)≤(k:Int)) with ⟨h3a,h3⟩|⟨h3a,h3⟩
 ·have hf:Int.fdiv (k:Int) (2 ^ (min (Int.toNat 8) IntKind.u64.bits))=((k / 256:Nat):Int):=by
   show Int.fdiv (k:Int) 256=_
   rw [Int.fdiv_eq_ediv_of_nonneg _ (by decide)]; omega
  have h4:IntKind.u8.wrap ((k / 256:Nat):Int)=((k / 256:Nat):Int):=by rw [IntKind.wrap_u8]; omega
  have h6:IntKind.i64.wrap ((0:Int)+8)=8:=by decide
  simp (disch:=first|omega|assumption) only [E0_G,SY,setArgs,off,agreeKind,Nat.reduceAdd,Nat.reduceSub,Nat.reduceLT,Nat.reduceBEq,Int.reduceLT,Tryz.underlying232,Tryz.underlying5,h1,h2,h3a,hf,h4,h6] at hz
  generalize hv:aIndexV _ _ _ _=v at hz
  obtain ⟨r,hr,r1,r2,r3⟩:∃ r:Int,v=some (.int .u8 r)∧0≤r∧r≤8∧(k / 256=0∨2 ^ r.toNat≤2 * (k / 256)):=by rw [← hv]; exact tab_ok _ _ _ (by kernel_rfl) (k / 256) (by omega)
  subst hr
  have h7:IntKind.i64.wrap r=r:=by rw [IntWalk.i64_in] ; omega
  have h8:IntKind.i64.wrap (8+r)=((8+r.toNat:Nat):Int):=by rw [IntWalk.i64_in]<;>omega
  simp (disch:=first|omega|assumption) only [E0_G,SY,off,agreeKind,Nat.reduceAdd,Nat.reduceLT,Nat.reduceBEq,TY_EvO0,Tryz.underlying5,h7,h8] at hz
  refine ⟨8+r.toNat,hz.symm,.inr ?_⟩
  rw [Nat.pow_add]
  rcases r3 with r3|r3
  ·omega
  ·have:2 ^ 8 * 2 ^ r.toNat≤256 * (2 * (k / 256)):=Nat.mul_le_mul_left 256 r3
   omega
 ·have h4:IntKind.u8.wrap (k:Int)=(k:Int):=by rw [IntKind.wrap_u8]; omega
  simp (disch:=first|omega|assumption) only [E0_G,SY,setArgs,off,agreeKind,Nat.reduceAdd,Nat.reduceSub,Nat.reduceLT,Nat.reduceBEq,Tryz.underlying232,Tryz.underlying5,h1,h2,h3a,h4] at hz
  generalize hv:aIndexV _ _ _ _=v at hz
  obtain ⟨r,hr,r1,r2,r3⟩:∃ r:Int,v=some (.int .u8 r)∧0≤r∧r≤8∧(k=0∨2 ^ r.toNat≤2 * k):=by rw [← hv]; exact tab_ok _ _ _ (by kernel_rfl) k (by omega)
  subst hr
  have h7:IntKind.i64.wrap r=r:=by rw [IntWalk.i64_in] ; omega
  have h8:IntKind.i64.wrap (0+r)=((r.toNat:Nat):Int):=by rw [IntWalk.i64_in]<;>omega
  simp (disch:=first|omega|assumption) only [E0_G,SY,off,agreeKind,Nat.reduceAdd,Nat.reduceLT,Nat.reduceBEq,TY_EvO0,Tryz.underlying5,h7,h8] at hz
  exact ⟨r.toNat,hz.symm,r3⟩
theorem c158g (k:Nat) (hk:k≤1000) (S:AS):∃ r:Nat,(evL Tryz.prog E0).call 158 #[.int .u64 (k:Int)] S=some (.int .i64 (r:Int),S)∧(k=0∨2 ^ r≤2 * k):=by
 generalize hz:(evL Tryz.prog E0).call 158 _ _=z
 rw [L_call,evCall_said rfl Tryz.func158 rfl (by decide) Tryz.ntmps158 Tryz.results158] at hz
 obtain ⟨r,hr,h⟩:=c185g k hk S
 simp (disch:=first|omega|assumption) only [E0_G,SY,setArgs,off,agreeKind,vals,Nat.reduceAdd,Nat.reduceSub,Nat.reduceLT,Nat.reduceBEq,hr] at hz
 exact ⟨r,hz.symm,h⟩
theorem pow_small {r k:Nat} (hk:k≤1000) (h:2 ^ r≤2 * k):r≤10:=by
 rcases Nat.lt_or_ge r 11 with h1|h1
 ·omega
 ·have:2 ^ 11≤2 ^ r:=Nat.pow_le_pow_right (by omega) h1
  have e:2 ^ 11=2048:=by decide
  omega
theorem c195 (k:Nat) (hk:k≤1000) (h0:1≤k) (S:AS):∃ q:Nat,(evL Tryz.prog E0).call 195 #[.int .i64 (k:Int)] S=some (.int .u64 (q:Int),S)∧1≤q∧q≤2 * k:=by
 generalize hz:(evL Tryz.prog E0).call 195 _ _=z
 rw [L_call,evCall_said rfl Tryz.func195 rfl (by decide) Tryz.ntmps195 Tryz.results195] at hz
 obtain ⟨r,hr,h⟩:=c158g k hk S
 have h':2 ^ r≤2 * k:=by omega
 have hr10:=pow_small hk h'
 have hp:1≤2 ^ r:=Nat.one_le_two_pow
 have w1:IntKind.u64.wrap (k:Int)=(k:Int):=IntWalk.u64_in _ (by omega)
 have w2:decide ((r:Int)<0)=false:=decide_eq_false (by omega)
 have hm:min (Int.toNat (r:Int)) IntKind.u64.bits=r:=by show min r 64=r; omega
 have w3:IntKind.u64.wrap (1 * 2 ^ (min (Int.toNat (r:Int)) IntKind.u64.bits))=((2 ^ r:Nat):Int):=by
  rw [hm,Int.one_mul]
  have e:(2:Int) ^ r=((2 ^ r:Nat):Int):=by rw [Int.natCast_pow]; rfl
  rw [e]
  exact IntWalk.u64_in _ (by omega)
 simp (disch:=first|omega|assumption) only [E0_G,SY,setArgs,off,agreeKind,vals,Nat.reduceAdd,Nat.reduceSub,Nat.reduceLT,Nat.reduceBEq,TY_EvO0,w1,hr,w2,w3] at hz
 exact ⟨2 ^ r,hz.symm,hp,h'⟩
set_option maxHeartbeats 4000000 in
theorem c196 (S:AS) (p:Nat) (w:Int) (hp:S.heap.get p=some (.cells [.int .u64 w] 240 0 true true)) (lp:p<S.next) :
  ∃ S' x w',(evL Tryz.prog E0).call 196 #[.pointer (some ⟨p,0,none⟩)] S=some (.int .u64 x,S')∧Kc p S S'∧S'.heap.get p=some (.cells [.int .u64 w'] 240 0 true true):=by
 generalize hz:(evL Tryz.prog E0).call 196 _ _=z
 rw [L_call,evCall_said rfl Tryz.func196 rfl (by decide) Tryz.ntmps196 Tryz.results196] at hz
 simp (disch:=first|omega|assumption) only [E0_G,SY,setArgs,off,agreeKind,Nat.reduceAdd,Nat.reduceSub,Nat.reduceLT] at hz
 rw [code_draws _ _ _ (by kernel_rfl)] at hz
 generalize hnd1:needy _=nd1 at hz
 obtain ⟨w1,hw1⟩:∃ w',IntKind.u64.wrap (BitVec.ofInt IntKind.u64.bits w ^^^ BitVec.ofInt IntKind.u64.bits (IntKind.u64.wrap (w * 2 ^ (min (Int.toNat 13) IntKind.u64.bits)))).toNat=w':=⟨_,rfl⟩
 obtain ⟨S1,e1,n1,b1,q1⟩:=st_at (P:=Tryz.prog) (o:=0) (c':=[.int .u64 w1]) (v:=.int .u64 w1) tz240 hp rfl rfl (show 0+1≤1 by decide) rfl
 simp (disch:=first|omega|assumption) only [E0_G,SY,agreeKind,ldA,aggD,Nat.reduceAdd,Nat.reduceLT,Nat.reduceBEq,Int.reduceLT,op_nilCheck,nilV_some,store_refl E0_same,Tryz.underlying240,hp,hw1,e1] at hz
 rw [code_draws _ _ _ (by kernel_rfl)] at hz
 generalize hnd2:needy _=nd2 at hz
 obtain ⟨w2,hw2⟩:∃ w',IntKind.u64.wrap (BitVec.ofInt IntKind.u64.bits w1 ^^^ BitVec.ofInt IntKind.u64.bits (Int.fdiv w1 (2 ^ (min (Int.toNat 7) IntKind.u64.bits)))).toNat=w':=⟨_,rfl⟩
 obtain ⟨S2,e2,n2,b2,q2⟩:=st_at (P:=Tryz.prog) (o:=0) (c':=[.int .u64 w2]) (v:=.int .u64 w2) tz240 b1 rfl rfl (show 0+1≤1 by decide) rfl
 simp (disch:=first|omega|assumption) only [E0_G,SY,agreeKind,ldA,aggD,Nat.reduceAdd,Nat.reduceLT,Nat.reduceBEq,Int.reduceLT,op_nilCheck,nilV_some,store_refl E0_same,Tryz.underlying240,b1,hw2,e2] at hz
 rw [code_draws _ _ _ (by kernel_rfl)] at hz
 generalize hnd3:needy _=nd3 at hz
 obtain ⟨w3,hw3⟩:∃ w',IntKind.u64.wrap (BitVec.ofInt IntKind.u64.bits w2 ^^^ BitVec.ofInt IntKind.u64.bits (IntKind.u64.wrap (w2 * 2 ^ (min (Int.toNat 17) IntKind.u64.bits)))).toNat=w':=⟨_,rfl⟩
 obtain ⟨S3,e3,n3,b3,q3⟩:=st_at (P:=Tryz.prog) (o:=0) (c':=[.int .u64 w3]) (v:=.int .u64 w3) tz240 b2 rfl rfl (show 0+1≤1 by decide) rfl
 simp (disch:=first|omega|assumption) only [E0_G,SY,off,agreeKind,ldA,aggD,Nat.reduceAdd,Nat.reduceLT,Nat.reduceBEq,Int.reduceLT,op_nilCheck,nilV_some,store_refl E0_same,Tryz.underlying240,b2,hw3,e3,b3] at hz
 exact ⟨S3,_,w3,hz.symm,⟨by omega,fun q hq hn=>(q3 q hn).trans ((q2 q hn).trans (q1 q hn))⟩,b3⟩
theorem u64_and (x m:Int) (hm:0≤m∧m≤100000):∃ q:Nat,IntKind.u64.wrap (BitVec.ofInt IntKind.u64.bits x &&& BitVec.ofInt IntKind.u64.bits m).toNat=(q:Int)∧(q:Int)≤m:=by
 refine ⟨(BitVec.ofInt IntKind.u64.bits x &&& BitVec.ofInt IntKind.u64.bits m).toNat,?_,?_⟩
 ·have:=(BitVec.ofInt IntKind.u64.bits x &&& BitVec.ofInt IntKind.u64.bits m).isLt
  have e:(2:Nat) ^ IntKind.u64.bits=18446744073709551616:=by decide
  exact IntWalk.u64_in _ (by omega)
 ·rw [BitVec.toNat_and]
  have h1:=Nat.and_le_right (n:=(BitVec.ofInt IntKind.u64.bits x).toNat) (m:=(BitVec.ofInt IntKind.u64.bits m).toNat)
  have h2:(BitVec.ofInt IntKind.u64.bits m).toNat=m.toNat:=by
   show (BitVec.ofInt 64 m).toNat=m.toNat
   rw [BitVec.toNat_ofInt]; omega
  omega
end Clock
end Go.Proofs
end
section
set_option linter.unusedSimpArgs false
set_option linter.unusedVariables false
namespace Go.Proofs
namespace Clock
open Go Go.RowKit Go.Aev
set_option maxRecDepth 100000
set_option maxHeartbeats 8000000 in
theorem c177 (l:List Int) (hn:l.length≤1000) (lo:Nat) (S:AS) (v:Value) (ho:Own 3 lo S v l) (id:Nat) (hb:blkOf v=some id) (a b:Nat) (hab:a+13≤b) (hbl:b≤l.length) :
  ∃ S' l',(evL Tryz.prog E0).call 177 #[v,.int .i64 (a:Int),.int .i64 (b:Int)] S=some (.tuple #[],S')∧Keep v S S'∧Own 3 lo S' v l'∧Sw a b l l':=by
 generalize hz:(evL Tryz.prog E0).call 177 _ _=z
 rw [L_call,evCall_said rfl Tryz.func177 rfl (by decide) Tryz.ntmps177 Tryz.results177] at hz
 obtain ⟨S1,e1,n1,b1,a1⟩:=push_open S (.cells [.int .u64 0] 240 0 true true)
 have hnb:blkOf v≠some S.next:=ho.new (Nat.le_refl _)
 have np:id≠S.next:=fun e=>hnb (by rw [hb,e])
 obtain ⟨S2,e2,n2,b2,q2⟩:=st_at (P:=Tryz.prog) (o:=0) (c':=[.int .u64 ((b - a:Nat):Int)]) (v:=.int .u64 ((b - a:Nat):Int)) tz240 b1 rfl rfl (show 0+1≤1 by decide) rfl
 have o2:Own 3 lo S2 v l:=(ho.agree a1).frame (by omega) fun id' hid hb'=>q2 id' (fun e=>hnb (by rw [hb',e]))
 have kp2:Keep v S S2:=⟨by omega,fun q hq _=>(q2 q (by omega)).trans (a1.2 q hq)⟩
 obtain ⟨md,k3,md1,md2⟩:=c195 (b - a) (by omega) (by omega) S2
 have w0:IntKind.i64.wrap ((b:Int) - (a:Int))=((b - a:Nat):Int):=by rw [IntWalk.i64_in]<;>omega
 have w8:decide ((8:Int)≤((b - a:Nat):Int))=true:=decide_eq_true (by omega)
 have wu:IntKind.u64.wrap ((b - a:Nat):Int)=((b - a:Nat):Int):=IntWalk.u64_in _ (by omega)
 have w1:IntKind.i64.wrap (Int.tdiv ((b - a:Nat):Int) 4)=(((b - a) / 4:Nat):Int):=by rw [show Int.tdiv ((b - a:Nat):Int) 4=(((b - a) / 4:Nat):Int) from rfl,IntWalk.i64_in]<;>omega
 have w2:IntKind.i64.wrap ((((b - a) / 4:Nat):Int) * 2)=(((b - a) / 4 * 2:Nat):Int):=by rw [IntWalk.i64_in]<;>omega
 have w3:IntKind.i64.wrap ((a:Int)+(((b - a) / 4 * 2:Nat):Int))=((a+(b - a) / 4 * 2:Nat):Int):=by rw [IntWalk.i64_in]<;>omega
 have w4:IntKind.i64.wrap (((a+(b - a) / 4 * 2:Nat):Int) - 1)=((a+(b - a) / 4 * 2 - 1:Nat):Int):=by rw [IntWalk.i64_in]<;>omega
 have w5:IntKind.i64.wrap (((a+(b - a) / 4 * 2:Nat):Int)+1)=((a+(b - a) / 4 * 2+1:Nat):Int):=by rw [IntWalk.i64_in]<;>omega
 simp (disch:=first|omega|assumption) only [E0_G,SY,setArgs,off,agreeKind,vals,allocV,Nat.reduceAdd,Nat.reduceSub,Nat.reduceLT,Nat.reduceBEq,Int.reduceEq,TY_EvO0,store_refl E0_same,w0,w8,wu,w1,w2,w3,w4,e1,e2,tt240,t0_240,Tryz.underlying240,k3] at hz
 generalize hL1:Rec.loop _ _ _ _=L1 at hz
 obtain ⟨x1,t1,S1e,rfl,hQ1⟩:=loop_met hL1 (fun m t S'=>∃ (i:Nat) (o:List Int) (w:Int),m+i=a+(b - a) / 4 * 2+2∧a+(b - a) / 4 * 2 - 1≤i∧Sw a b l o∧S'.heap.get S.next=some (.cells [.int .u64 w] 240 0 true true)∧S.next<S'.next∧t.get 0=some (v)∧t.get 1=some (.int .i64 (a:Int))∧t.get 6=some (.int .i64 ((b - a:Nat):Int))∧t.get 7=some (.pointer (some ⟨S.next,0,none⟩))∧t.get 8=some (.int .u64 (md:Int))∧t.get 9=some (.int .i64 (i:Int))∧Keep v S S'∧Own 3 lo S' v o)
  (fun x t S'=>x=.exit 0∧∃ (o:List Int),Sw a b l o∧Keep v S S'∧Own 3 lo S' v o) 3
  ⟨a+(b - a) / 4 * 2 - 1,l,_,by omega,by omega,Sw.refl,b2,by omega,by simp only [SY,eq_self,Nat.reduceBEq]<;>rfl,by simp only [SY,eq_self,Nat.reduceBEq]<;>rfl,by simp only [SY,eq_self,Nat.reduceBEq]<;>rfl,by simp only [SY,eq_self,Nat.reduceBEq]<;>rfl,by simp only [SY,eq_self,Nat.reduceBEq]<;>rfl,by simp only [SY,eq_self,Nat.reduceBEq]<;>rfl,kp2,o2⟩ (by
   rintro m t S3 ⟨i,o,w,hm,hi,hs,hbx,hnx,g0,g1,g8,g9,g10,g11,kp,ow⟩
   refine .run fun z he=>?_
   have hlo:=hs.len
   simp (disch:=first|omega|assumption) only [E0_G,SY,off,agreeKind,Nat.reduceAdd,Nat.reduceLT,Nat.reduceBEq,Int.reduceEq,store_refl E0_same,g1,g8,g11,w1,w2,w3,w5] at he
   rcases dP ((i:Int)≤((a+(b - a) / 4 * 2+1:Nat):Int)) with ⟨h3a,h3⟩|⟨h3a,h3⟩
   ·obtain ⟨S4,x,w',k4,kc4,b4⟩:=c196 S3 S.next w hbx hnx
    have l4:=kc4.1
    have o4:=kc4.own ow hnb
    have u1:IntKind.u64.wrap ((md:Int) - 1)=((md - 1:Nat):Int):=by rw [IntWalk.u64_in]<;>omega
    obtain ⟨q,u2,u3⟩:=u64_and x ((md - 1:Nat):Int) (by omega)
    have u4:IntKind.i64.wrap (q:Int)=(q:Int):=by rw [IntWalk.i64_in]; omega
    have u5:IntKind.i64.wrap ((i:Int)+1)=((i+1:Nat):Int):=by rw [IntWalk.i64_in]<;>omega
    simp (disch:=first|omega|assumption) only [E0_G,SY,off,agreeKind,vals,Nat.reduceAdd,Nat.reduceLT,Nat.reduceBEq,TY_EvO0,store_refl E0_same,g8,g9,g10,h3a,k4,u1,u2,u4] at he
    have kp4:Keep v S S4:=⟨by have:=kp.1; omega,fun q' hq hn=>(kc4.2 q' (by omega) (by omega)).trans (kp.2 q' hq hn)⟩
    rcases dP (((b - a:Nat):Int)≤(q:Int)) with ⟨h5a,h5⟩|⟨h5a,h5⟩
    ·have u7:IntKind.i64.wrap ((q:Int) - ((b - a:Nat):Int))=((q - (b - a):Nat):Int):=by rw [IntWalk.i64_in]<;>omega
     simp (disch:=first|omega|assumption) only [E0_G,SY,off,agreeKind,Nat.reduceAdd,Nat.reduceLT,Nat.reduceBEq,store_refl E0_same,g8,h5a,u7] at he
     have u6:IntKind.i64.wrap ((a:Int)+(((q - (b - a):Nat):Int):Int))=((a+(q - (b - a)):Nat):Int):=by rw [IntWalk.i64_in]<;>omega
     rw [code_draws _ _ _ (by kernel_rfl)] at he
     generalize hnd1:needy _=nd1 at he
     obtain ⟨loD,ltD,ccD,exD,hxD,hcD⟩:=own_cut o4 hb
     obtain ⟨ofDj,hoDj,iaDj,pDj0⟩:=hcD ((a+(q - (b - a)))) (by omega)
     obtain ⟨ofDi,hoDi,iaDi,pDi0⟩:=hcD (i) (by omega)
     obtain ⟨SxD,SyD,exD,eyD,owD,kpD,nxD⟩:=own_swp o4 hb (i:=i) (j:=(a+(q - (b - a)))) (by omega) (by omega) hoDi hoDj
     simp (disch:=first|omega|assumption) only [E0_G,SY,off,agreeKind,ldA,aggD,Nat.reduceAdd,Nat.reduceLT,Nat.reduceBEq,TY_EvO0,store_refl E0_same,g0,g1,g11,u6,u5,hxD,iaDj,pDj0,iaDi,pDi0,exD,eyD] at he
     exact .next he (m - 1) (by omega) ⟨i+1,_,w',by omega,by omega,Sw.step i (a+(q - (b - a))) hs (by omega) (by omega) (by omega) (by omega) hbl,(kpD.2 S.next (by omega) hnb).trans b4,by omega,by simp only [SY,eq_self,Nat.reduceBEq,g0]<;>rfl,by simp only [SY,eq_self,Nat.reduceBEq,g1]<;>rfl,by simp only [SY,eq_self,Nat.reduceBEq,g8]<;>rfl,by simp only [SY,eq_self,Nat.reduceBEq,g9]<;>rfl,by simp only [SY,eq_self,Nat.reduceBEq,g10]<;>rfl,by simp only [SY,eq_self,Nat.reduceBEq,g11]<;>rfl,kp4.trans kpD,owD⟩
    simp (disch:=first|omega|assumption) only [SY,store_refl E0_same,h5a] at he
    have u6:IntKind.i64.wrap ((a:Int)+(q:Int))=((a+(q):Nat):Int):=by rw [IntWalk.i64_in]<;>omega
    rw [code_draws _ _ _ (by kernel_rfl)] at he
    generalize hnd2:needy _=nd2 at he
    obtain ⟨loD,ltD,ccD,exD,hxD,hcD⟩:=own_cut o4 hb
    obtain ⟨ofDj,hoDj,iaDj,pDj0⟩:=hcD ((a+(q))) (by omega)
    obtain ⟨ofDi,hoDi,iaDi,pDi0⟩:=hcD (i) (by omega)
    obtain ⟨SxD,SyD,exD,eyD,owD,kpD,nxD⟩:=own_swp o4 hb (i:=i) (j:=(a+(q))) (by omega) (by omega) hoDi hoDj
    simp (disch:=first|omega|assumption) only [E0_G,SY,off,agreeKind,ldA,aggD,Nat.reduceAdd,Nat.reduceLT,Nat.reduceBEq,TY_EvO0,store_refl E0_same,g0,g1,g11,u6,u5,hxD,iaDj,pDj0,iaDi,pDi0,exD,eyD] at he
    exact .next he (m - 1) (by omega) ⟨i+1,_,w',by omega,by omega,Sw.step i (a+(q)) hs (by omega) (by omega) (by omega) (by omega) hbl,(kpD.2 S.next (by omega) hnb).trans b4,by omega,by simp only [SY,eq_self,Nat.reduceBEq,g0]<;>rfl,by simp only [SY,eq_self,Nat.reduceBEq,g1]<;>rfl,by simp only [SY,eq_self,Nat.reduceBEq,g8]<;>rfl,by simp only [SY,eq_self,Nat.reduceBEq,g9]<;>rfl,by simp only [SY,eq_self,Nat.reduceBEq,g10]<;>rfl,by simp only [SY,eq_self,Nat.reduceBEq,g11]<;>rfl,kp4.trans kpD,owD⟩
   simp (disch:=first|omega|assumption) only [SY,store_refl E0_same,h3a] at he
   exact .exit he ⟨rfl,o,hs,kp,ow⟩)
 obtain ⟨rfl,o,hs,kp,ow⟩:=hQ1
 simp (disch:=first|omega|assumption) only [SY,eq_self,if_true,store_refl E0_same] at hz
 exact ⟨_,o,hz.symm,kp,ow,hs⟩
end Clock
end Go.Proofs
end
section
set_option linter.unusedSimpArgs false
set_option linter.unusedVariables false
namespace Go.Proofs
namespace Clock
open Go Go.RowKit Go.Aev
set_option maxRecDepth 100000
theorem le_up {o:List Int} {a i:Nat} {pv:Int} (h:∀ u:Nat,a<u→u<i→(lget o u)≤pv) (hi:¬ pv<(lget o i)):∀ u:Nat,a<u→u<i+1→(lget o u)≤pv:=by
 intro u h1 h2
 by_cases e:u=i
 ·subst e; omega
 ·exact h u h1 (by omega)
theorem lt_dn {o:List Int} {j b:Nat} {pv:Int} (h:∀ u:Nat,j<u→u<b→pv<(lget o u)) (hj:pv<(lget o j)):∀ u:Nat,j - 1<u→u<b→pv<(lget o u):=by
 intro u h1 h2
 by_cases e:u=j
 ·subst e; exact hj
 ·exact h u (by omega) h2
theorem swp_head {l:List Int} {a q:Nat} (ha:a<l.length) (hq:q<l.length):(lget (swp l a q) a)=(lget l q):=by
 rw [lget_swp _ _ _ _ ha hq]
 split
 ·rename_i h; rw [h]
 ·rw [if_pos rfl]
set_option maxHeartbeats 8000000 in
theorem c182 (l:List Int) (hn:l.length≤1000) (lo:Nat) (S:AS) (v:Value) (ho:Own 3 lo S v l) (id:Nat) (hb:blkOf v=some id) (a b q:Nat) (hab:a<b) (hbl:b≤l.length) (hq:a≤q∧q<b) :
  ∃ S' l' x,(evL Tryz.prog E0).call 182 #[v,.int .i64 (a:Int),.int .i64 (b:Int),.int .i64 (q:Int)] S=some (.int .i64 ((x:Nat):Int),S')∧Keep v S S'∧Own 3 lo S' v l'∧Sw a b l l'∧(a+1≤x∧x≤b) ∧
   (∀ u,a≤u→u<x→(lget l' u)≤(lget l q))∧∀ u,x≤u→u<b→(lget l q)<(lget l' u):=by
 generalize hz:(evL Tryz.prog E0).call 182 _ _=z
 rw [L_call,evCall_said rfl Tryz.func182 rfl (by decide) Tryz.ntmps182 Tryz.results182] at hz
 have w1:IntKind.i64.wrap ((a:Int)+1)=((a+1:Nat):Int):=by rw [IntWalk.i64_in]<;>omega
 have w2:IntKind.i64.wrap ((b:Int) - 1)=((b - 1:Nat):Int):=by rw [IntWalk.i64_in]<;>omega
 simp (disch:=first|omega|assumption) only [E0_G,SY,setArgs,off,agreeKind,Nat.reduceAdd,Nat.reduceSub,Nat.reduceLT] at hz
 rw [code_draws _ _ _ (by kernel_rfl)] at hz
 generalize hnd1:needy _=nd1 at hz
 obtain ⟨loD,ltD,ccD,exD,hxD,hcD⟩:=own_cut ho hb
 obtain ⟨ofDj,hoDj,iaDj,pDj0⟩:=hcD (q) (by omega)
 obtain ⟨ofDi,hoDi,iaDi,pDi0⟩:=hcD (a) (by omega)
 obtain ⟨SxD,SyD,exD,eyD,owD,kpD,nxD⟩:=own_swp ho hb (i:=a) (j:=q) (by omega) (by omega) hoDi hoDj
 simp (disch:=first|omega|assumption) only [E0_G,SY,off,agreeKind,ldA,aggD,Nat.reduceAdd,Nat.reduceLT,Nat.reduceBEq,TY_EvO0,store_refl E0_same,w1,w2,hxD,iaDj,pDj0,iaDi,pDi0,exD,eyD] at hz
 have hpv:=swp_head (l:=l) (a:=a) (q:=q) (by omega) (by omega)
 have hl1:(swp l a q).length=l.length:=swp_len _ _ _
 have hs0:Sw a b l (swp l a q):=Sw.step a q Sw.refl (Nat.le_refl _) hab hq.1 hq.2 hbl
 generalize swp l a q=l1 at *
 generalize (lget l q)=pv at *
 generalize hL1:Rec.loop _ _ _ _=L1 at hz
 obtain ⟨x1,t1,S1e,rfl,hQ1⟩:=loop_met hL1 (fun m t S'=>∃ (i j:Nat) (o:List Int),m+i=j+2∧a+1≤i∧i≤j+1∧a≤j∧j<b∧Sw (a+1) b l1 o∧(∀ u:Nat,a<u→u<i→(lget o u)≤pv)∧(∀ u:Nat,j<u→u<b→pv<(lget o u))∧t.get 0=some (v)∧t.get 1=some (.int .i64 (a:Int))∧t.get 9=some (.int .i64 (i:Int))∧t.get 10=some (.int .i64 (j:Int))∧Keep v S S'∧Own 3 lo S' v o)
  (fun x t S'=>x=.exit 0∧∃ (i j:Nat) (o:List Int),a+1≤i∧i≤j+1∧a≤j∧j<b∧i=j+1∧Sw (a+1) b l1 o∧(∀ u:Nat,a<u→u<i→(lget o u)≤pv)∧(∀ u:Nat,j<u→u<b→pv<(lget o u))∧t.get 9=some (.int .i64 (i:Int))∧Keep v S S'∧Own 3 lo S' v o) (b - 1+2 - (a+1))
  ⟨a+1,b - 1,l1,by omega,by omega,by omega,by omega,by omega,Sw.refl,(fun u h1 h2=>by omega),(fun u h1 h2=>by omega),by simp only [SY,eq_self,Nat.reduceBEq]<;>rfl,by simp only [SY,eq_self,Nat.reduceBEq]<;>rfl,by simp only [SY,eq_self,Nat.reduceBEq]<;>rfl,by simp only [SY,eq_self,Nat.reduceBEq]<;>rfl,kpD,owD⟩ (by
   rintro m t S1 ⟨i,j,o,hm,hi1,hij,haj,hjb,hs,hlow,hupp,g0,g1,g11,g12,kp,ow⟩
   refine .run fun z he=>?_
   have hlo:=hs.len
   have hpa:(lget o a)=pv:=by rw [hs.out a (by omega)]; exact hpv
   simp (disch:=first|omega|assumption) only [SY] at he
   generalize hL2:Rec.loop _ _ _ _=L2 at he
   obtain ⟨x2,t2,S2e,rfl,hQ2⟩:=loop_met hL2 (fun m t S'=>∃ (i':Nat),m+i'=j+2∧i≤i'∧i'≤j+1∧(∀ u:Nat,a<u→u<i'→(lget o u)≤pv)∧t.get 0=some (v)∧t.get 1=some (.int .i64 (a:Int))∧t.get 9=some (.int .i64 (i':Int))∧t.get 10=some (.int .i64 (j:Int))∧Keep v S S'∧Own 3 lo S' v o)
    (fun x t S'=>x=.exit 2∧∃ (i':Nat),i≤i'∧i'≤j+1∧(∀ u:Nat,a<u→u<i'→(lget o u)≤pv)∧(j<i'∨pv<(lget o i'))∧t.get 0=some (v)∧t.get 1=some (.int .i64 (a:Int))∧t.get 9=some (.int .i64 (i':Int))∧t.get 10=some (.int .i64 (j:Int))∧Keep v S S'∧Own 3 lo S' v o) (j+2 - i)
    ⟨i,by omega,by omega,by omega,hlow,by simp only [eq_self,g0]<;>rfl,by simp only [eq_self,g1]<;>rfl,by simp only [eq_self,g11]<;>rfl,by simp only [eq_self,g12]<;>rfl,kp,ow⟩ (by
     clear he hL2 hL1 hz
     rintro m t S2 ⟨i',hm2,hi2,hij2,hlow2,g0,g1,g11,g12,kp2,ow2⟩
     refine .run fun z he=>?_
     simp (disch:=first|omega|assumption) only [SY,store_refl E0_same] at he
     rw [code_draws _ _ _ (by kernel_rfl)] at he
     generalize hnd2:needy _=nd2 at he
     rcases dP ((i':Int)≤(j:Int)) with ⟨h4a,h4⟩|⟨h4a,h4⟩
     ·obtain ⟨loB,ltB,ccB,exB,hxB,hcB⟩:=own_cut ow2 hb
      obtain ⟨ofBx,hoBx,iaBx,pBx0⟩:=hcB (a) (by omega)
      obtain ⟨ofBy,hoBy,iaBy,pBy0⟩:=hcB (i') (by omega)
      obtain ⟨SC,kC,aC⟩:=cL (lget o a) (lget o i') S2
      have sC:E0.same S2 SC=true:=symEnv_same aC
      simp (disch:=first|omega|assumption) only [E0_G,SY,agreeKind,vals,ldA,aggD,Nat.reduceAdd,Nat.reduceLT,Nat.reduceBEq,TY_EvO0,store_agree,store_refl E0_same,g0,g1,g11,g12,h4a,hxB,iaBx,pBx0,iaBy,pBy0,kC] at he
      rcases dP (cmpI (lget o a) (lget o i')<0) with ⟨h5a,h5⟩|⟨h5a,h5⟩
      ·simp (disch:=first|omega|assumption) only [SY,store_refl E0_same,h5a] at he
       rw [cmpI_lt,hpa] at h5
       exact .exit he ⟨rfl,i',hi2,hij2,hlow2,.inr h5,by simp only [SY,eq_self,Nat.reduceBEq,g0]<;>rfl,by simp only [SY,eq_self,Nat.reduceBEq,g1]<;>rfl,by simp only [SY,eq_self,Nat.reduceBEq,g11]<;>rfl,by simp only [SY,eq_self,Nat.reduceBEq,g12]<;>rfl,kp2.trans (Keep.of aC),ow2.agree aC⟩
      have u1:IntKind.i64.wrap ((i':Int)+1)=((i'+1:Nat):Int):=by rw [IntWalk.i64_in]<;>omega
      simp (disch:=first|omega|assumption) only [E0_G,SY,off,agreeKind,Nat.reduceAdd,Nat.reduceLT,Nat.reduceBEq,store_refl E0_same,g11,h5a,u1] at he
      rw [cmpI_lt,hpa] at h5
      exact .next he (m - 1) (by omega) ⟨i'+1,by omega,by omega,by omega,le_up hlow2 h5,by simp only [SY,eq_self,Nat.reduceBEq,g0]<;>rfl,by simp only [SY,eq_self,Nat.reduceBEq,g1]<;>rfl,by simp only [SY,eq_self,Nat.reduceBEq,g11]<;>rfl,by simp only [SY,eq_self,Nat.reduceBEq,g12]<;>rfl,kp2.trans (Keep.of aC),ow2.agree aC⟩
     simp (disch:=first|omega|assumption) only [E0_G,SY,agreeKind,Nat.reduceAdd,Nat.reduceLT,Nat.reduceBEq,store_refl E0_same,g11,g12,h4a] at he
     exact .exit he ⟨rfl,i',hi2,hij2,hlow2,.inl (by omega),by simp only [SY,eq_self,Nat.reduceBEq,g0]<;>rfl,by simp only [SY,eq_self,Nat.reduceBEq,g1]<;>rfl,by simp only [SY,eq_self,Nat.reduceBEq,g11]<;>rfl,by simp only [SY,eq_self,Nat.reduceBEq,g12]<;>rfl,kp2,ow2⟩)
   obtain ⟨rfl,i2,hi2,hij2,hlow2,hst2,g0,g1,g11,g12,kp2,ow2⟩:=hQ2
   simp (disch:=first|omega|assumption) only [SY,eq_self,if_true,store_refl E0_same] at he
   generalize hL3:Rec.loop _ _ _ _=L3 at he
   obtain ⟨x3,t3,S3e,rfl,hQ3⟩:=loop_met hL3 (fun m t S'=>∃ (j':Nat),m+i2=j'+2∧j'≤j∧i2≤j'+1∧a≤j'∧(∀ u:Nat,j'<u→u<b→pv<(lget o u))∧t.get 0=some (v)∧t.get 1=some (.int .i64 (a:Int))∧t.get 9=some (.int .i64 (i2:Int))∧t.get 10=some (.int .i64 (j':Int))∧Keep v S S'∧Own 3 lo S' v o)
    (fun x t S'=>x=.exit 4∧∃ (j':Nat),j'≤j∧i2≤j'+1∧a≤j'∧(∀ u:Nat,j'<u→u<b→pv<(lget o u))∧(j'<i2∨¬ pv<(lget o j'))∧t.get 0=some (v)∧t.get 1=some (.int .i64 (a:Int))∧t.get 9=some (.int .i64 (i2:Int))∧t.get 10=some (.int .i64 (j':Int))∧Keep v S S'∧Own 3 lo S' v o) (j+2 - i2)
    ⟨j,by omega,by omega,by omega,by omega,hupp,by simp only [eq_self,g0]<;>rfl,by simp only [eq_self,g1]<;>rfl,by simp only [eq_self,g11]<;>rfl,by simp only [eq_self,g12]<;>rfl,kp2,ow2⟩ (by
     clear he hL3 hL1 hz
     clear g0 g1 g11 g12
     rintro m t S3 ⟨j',hm3,hj3,hij3,haj3,hupp3,g0,g1,g11,g12,kp3,ow3⟩
     refine .run fun z he=>?_
     simp (disch:=first|omega|assumption) only [SY,store_refl E0_same] at he
     rw [code_draws _ _ _ (by kernel_rfl)] at he
     generalize hnd3:needy _=nd3 at he
     rcases dP ((i2:Int)≤(j':Int)) with ⟨h4a,h4⟩|⟨h4a,h4⟩
     ·obtain ⟨loB,ltB,ccB,exB,hxB,hcB⟩:=own_cut ow3 hb
      obtain ⟨ofBx,hoBx,iaBx,pBx0⟩:=hcB (a) (by omega)
      obtain ⟨ofBy,hoBy,iaBy,pBy0⟩:=hcB (j') (by omega)
      obtain ⟨SC,kC,aC⟩:=cL (lget o a) (lget o j') S3
      have sC:E0.same S3 SC=true:=symEnv_same aC
      simp (disch:=first|omega|assumption) only [E0_G,SY,agreeKind,vals,ldA,aggD,Nat.reduceAdd,Nat.reduceLT,Nat.reduceBEq,TY_EvO0,store_agree,store_refl E0_same,g0,g1,g11,g12,h4a,hxB,iaBx,pBx0,iaBy,pBy0,kC] at he
      rcases dP (cmpI (lget o a) (lget o j')<0) with ⟨h5a,h5⟩|⟨h5a,h5⟩
      ·have u1:IntKind.i64.wrap ((j':Int) - 1)=((j' - 1:Nat):Int):=by rw [IntWalk.i64_in]<;>omega
       simp (disch:=first|omega|assumption) only [E0_G,SY,off,agreeKind,Nat.reduceAdd,Nat.reduceLT,Nat.reduceBEq,store_refl E0_same,g12,h5a,u1] at he
       rw [cmpI_lt,hpa] at h5
       exact .next he (m - 1) (by omega) ⟨j' - 1,by omega,by omega,by omega,by omega,lt_dn hupp3 h5,by simp only [SY,eq_self,Nat.reduceBEq,g0]<;>rfl,by simp only [SY,eq_self,Nat.reduceBEq,g1]<;>rfl,by simp only [SY,eq_self,Nat.reduceBEq,g11]<;>rfl,by simp only [SY,eq_self,Nat.reduceBEq,g12]<;>rfl,kp3.trans (Keep.of aC),ow3.agree aC⟩
      simp (disch:=first|omega|assumption) only [SY,store_refl E0_same,h5a] at he
      rw [cmpI_lt,hpa] at h5
      exact .exit he ⟨rfl,j',hj3,hij3,haj3,hupp3,.inr h5,by simp only [SY,eq_self,Nat.reduceBEq,g0]<;>rfl,by simp only [SY,eq_self,Nat.reduceBEq,g1]<;>rfl,by simp only [SY,eq_self,Nat.reduceBEq,g11]<;>rfl,by simp only [SY,eq_self,Nat.reduceBEq,g12]<;>rfl,kp3.trans (Keep.of aC),ow3.agree aC⟩
     simp (disch:=first|omega|assumption) only [E0_G,SY,agreeKind,Nat.reduceAdd,Nat.reduceLT,Nat.reduceBEq,store_refl E0_same,g11,g12,h4a] at he
     exact .exit he ⟨rfl,j',hj3,hij3,haj3,hupp3,.inl (by omega),by simp only [SY,eq_self,Nat.reduceBEq,g0]<;>rfl,by simp only [SY,eq_self,Nat.reduceBEq,g1]<;>rfl,by simp only [SY,eq_self,Nat.reduceBEq,g11]<;>rfl,by simp only [SY,eq_self,Nat.reduceBEq,g12]<;>rfl,kp3,ow3⟩)
   obtain ⟨rfl,j2,hj3,hij3,haj3,hupp3,hst3,g0',g1',g11',g12',kp3,ow3⟩:=hQ3
   simp (disch:=first|omega|assumption) only [E0_G,SY,off,agreeKind,eq_self,if_true,Nat.reduceAdd,Nat.reduceLT,Nat.reduceBEq,store_refl E0_same,g11',g12'] at he
   rcases dP ((j2:Int)<(i2:Int)) with ⟨h6a,h6⟩|⟨h6a,h6⟩
   ·simp (disch:=first|omega|assumption) only [SY,if_false,reduceCtorEq,store_refl E0_same,h6a] at he
    exact .exit he ⟨rfl,i2,j2,o,by omega,by omega,by omega,by omega,by omega,hs,hlow2,hupp3,by simp only [SY,eq_self,Nat.reduceBEq,g11']<;>rfl,kp3,ow3⟩
   have u1:IntKind.i64.wrap ((i2:Int)+1)=((i2+1:Nat):Int):=by rw [IntWalk.i64_in]<;>omega
   have u2:IntKind.i64.wrap ((j2:Int) - 1)=((j2 - 1:Nat):Int):=by rw [IntWalk.i64_in]<;>omega
   simp (disch:=first|omega|assumption) only [SY,store_refl E0_same,h6a] at he
   rw [code_draws _ _ _ (by kernel_rfl)] at he
   generalize hnd4:needy _=nd4 at he
   obtain ⟨loF,ltF,ccF,exF,hxF,hcF⟩:=own_cut ow3 hb
   obtain ⟨ofFj,hoFj,iaFj,pFj0⟩:=hcF (j2) (by omega)
   obtain ⟨ofFi,hoFi,iaFi,pFi0⟩:=hcF (i2) (by omega)
   obtain ⟨SxF,SyF,exF,eyF,owF,kpF,nxF⟩:=own_swp ow3 hb (i:=i2) (j:=j2) (by omega) (by omega) hoFi hoFj
   simp (disch:=first|omega|assumption) only [E0_G,SY,off,agreeKind,ldA,aggD,Nat.reduceAdd,Nat.reduceLT,Nat.reduceBEq,TY_EvO0,store_refl E0_same,g0',g11',g12',u1,u2,hxF,iaFj,pFj0,iaFi,pFi0,exF,eyF] at he
   have hne:i2≠j2:=fun e=>by subst e; omega
   have gg:=fun u=>lget_swp o i2 j2 u (by omega) (by omega)
   exact .next he (j2 - 1+2 - (i2+1)) (by omega) ⟨i2+1,j2 - 1,_,by omega,by omega,by omega,by omega,by omega,Sw.step i2 j2 hs (by omega) (by omega) (by omega) (by omega) (by omega),
    (fun u h1 h2=>by
     rw [gg]
     by_cases e1:j2=u
     ·omega
     ·rw [if_neg e1]
      by_cases e2:i2=u
      ·rw [if_pos e2]; omega
      ·rw [if_neg e2]; exact hlow2 u h1 (by omega)),
    (fun u h1 h2=>by
     rw [gg]
     by_cases e1:j2=u
     ·rw [if_pos e1]; omega
     ·rw [if_neg e1,if_neg (by omega)]; exact hupp3 u (by omega) h2),by simp only [SY,eq_self,Nat.reduceBEq,g0']<;>rfl,by simp only [SY,eq_self,Nat.reduceBEq,g1']<;>rfl,by simp only [SY,eq_self,Nat.reduceBEq,g11']<;>rfl,by simp only [SY,eq_self,Nat.reduceBEq,g12']<;>rfl,kp3.trans kpF,owF⟩)
 obtain ⟨rfl,i,j,o,hi1,hij,haj,hjb,he1,hs,hlow,hupp,g11,kp,ow⟩:=hQ1
 simp (disch:=first|omega|assumption) only [E0_G,SY,off,agreeKind,eq_self,if_true,Nat.reduceAdd,Nat.reduceLT,Nat.reduceBEq,store_refl E0_same,g11] at hz
 have hpa:(lget o a)=pv:=by rw [hs.out a (by omega)]; exact hpv
 exact ⟨_,o,i,hz.symm,kp,ow,hs0.trans (hs.mono (by omega) (Nat.le_refl _) (by omega)),⟨by omega,by omega⟩,
  (fun u h1 h2=>by
   by_cases e:u=a
   ·subst e; omega
   ·exact hlow u (by omega) h2),(fun u h1 h2=>hupp u (by omega) h2)⟩
end Clock
end Go.Proofs
end
