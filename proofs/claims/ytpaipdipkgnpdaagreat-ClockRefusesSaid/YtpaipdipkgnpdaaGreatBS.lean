import Derived.Test.YtpaipdipkgnpdaaGreatBR
section
set_option linter.unusedSimpArgs false
set_option linter.unusedVariables false
namespace Go.Proofs
namespace Clock
open Go Go.RowKit Go.Aev
set_option maxRecDepth 100000
theorem lt_up {o:List Int} {a i:Nat} {pv:Int} (h:∀ u:Nat,a<u→u<i→(lget o u)<pv) (hi:(lget o i)<pv):∀ u:Nat,a<u→u<i+1→(lget o u)<pv:=by
 intro u h1 h2
 by_cases e:u=i
 ·subst e; omega
 ·exact h u h1 (by omega)
theorem le_dn {o:List Int} {j b:Nat} {pv:Int} (h:∀ u:Nat,j<u→u<b→pv≤(lget o u)) (hj:¬ (lget o j)<pv):∀ u:Nat,j - 1<u→u<b→pv≤(lget o u):=by
 intro u h1 h2
 by_cases e:u=j
 ·subst e; omega
 ·exact h u (by omega) h2
theorem part_swap {o:List Int} {a b i j:Nat} {pv:Int} (hi:a<i) (hij:i≤j) (hjb:j<b) (hb:b≤o.length) (hlow:∀ u:Nat,a<u→u<i→(lget o u)<pv) (hupp:∀ u:Nat,j<u→u<b→pv≤(lget o u)) (h1:¬ (lget o i)<pv) (h2:(lget o j)<pv) :
  i+1≤j∧(∀ u:Nat,a<u→u<i+1→(lget (swp o i j) u)<pv)∧∀ u:Nat,j - 1<u→u<b→pv≤(lget (swp o i j) u):=by
 have hne:i≠j:=fun e=>by subst e; omega
 have gg:=fun u=>lget_swp o i j u (by omega) (by omega)
 refine ⟨by omega,fun u h1' h2'=>?_,fun u h1' h2'=>?_⟩
 ·rw [gg,if_neg (by omega)]
  by_cases e2:i=u
  ·rw [if_pos e2]; exact h2
  ·rw [if_neg e2]; exact hlow u h1' (by omega)
 ·rw [gg]
  by_cases e1:j=u
  ·rw [if_pos e1]; omega
  ·rw [if_neg e1,if_neg (by omega)]; exact hupp u (by omega) h2'
theorem part_end {o:List Int} {a b j:Nat} {pv:Int} (haj:a≤j) (hjb:j<b) (hb:b≤o.length) (hp:(lget o a)=pv) (hlow:∀ u:Nat,a<u→u<j+1→(lget o u)<pv) (hupp:∀ u:Nat,j<u→u<b→pv≤(lget o u)) :
  (lget (swp o j a) j)=pv∧(∀ u:Nat,a≤u→u<j→(lget (swp o j a) u)≤pv)∧∀ u:Nat,j<u→u<b→pv≤(lget (swp o j a) u):=by
 have gg:=fun u=>lget_swp o j a u (by omega) (by omega)
 refine ⟨?_,fun u h1 h2=>?_,fun u h1 h2=>?_⟩
 ·rw [gg]
  by_cases e1:a=j
  ·rw [if_pos e1,← e1]; exact hp
  ·rw [if_neg e1,if_pos rfl]; exact hp
 ·rw [gg]
  by_cases e1:a=u
  ·rw [if_pos e1]; have:=hlow j (by omega) (by omega); omega
  ·rw [if_neg e1,if_neg (by omega)]; have:=hlow u (by omega) (by omega); omega
 ·rw [gg,if_neg (by omega),if_neg (by omega)]; exact hupp u h1 h2
set_option maxHeartbeats 16000000 in
theorem c183 (l:List Int) (hn:l.length≤1000) (lo:Nat) (S:AS) (v:Value) (ho:Own 3 lo S v l) (id:Nat) (hb:blkOf v=some id) (a b q:Nat) (hab:a<b) (hbl:b≤l.length) (hq:a≤q∧q<b) :
  ∃ S' l' x y,(evL Tryz.prog E0).call 183 #[v,.int .i64 (a:Int),.int .i64 (b:Int),.int .i64 (q:Int)] S=some (.tuple #[.int .i64 ((x:Nat):Int),.bool y],S')∧Keep v S S'∧Own 3 lo S' v l'∧Sw a b l l'∧(a≤x∧x<b) ∧
   (∀ u,a≤u→u<x→(lget l' u)≤(lget l' x))∧∀ u,x<u→u<b→(lget l' x)≤(lget l' u):=by
 generalize hz:(evL Tryz.prog E0).call 183 _ _=z
 rw [L_call,evCall_said rfl Tryz.func183 rfl (by decide) Tryz.ntmps183 Tryz.results183] at hz
 have w1:IntKind.i64.wrap ((a:Int)+1)=((a+1:Nat):Int):=by rw [IntWalk.i64_in]<;>omega
 have w2:IntKind.i64.wrap ((b:Int) - 1)=((b - 1:Nat):Int):=by rw [IntWalk.i64_in]<;>omega
 simp (disch:=first|omega|assumption) only [E0_G,SY,setArgs,off,agreeKind,Nat.reduceAdd,Nat.reduceSub,Nat.reduceLT] at hz
 rw [code_draws _ _ _ (by kernel_rfl)] at hz
 generalize hnd1:needy _=nd1 at hz
 obtain ⟨loD,ltD,ccD,exD,hxD,hcD⟩:=own_cut ho hb
 obtain ⟨ofDj,hoDj,iaDj,pDj0⟩:=hcD (q) (by omega)
 obtain ⟨ofDi,hoDi,iaDi,pDi0⟩:=hcD (a) (by omega)
 obtain ⟨SxD,SyD,exD,eyD,owD,kpD,nxD⟩:=own_swp ho hb (i:=a) (j:=q) (by omega) (by omega) hoDi hoDj
 simp (disch:=first|omega|assumption) only [E0_G,SY,off,agreeKind,ldA,aggD,Nat.reduceAdd,Nat.reduceLT,Nat.reduceBEq,TY_EvO0,store_refl E0_same,w1,w2,hxD,iaDj,pDj0,iaDi,pDi0,exD,eyD] at hz
 have hpv:=swp_head (l:=l) (a:=a) (q:=q) (by omega) (by omega)
 have hl1:(swp l a q).length=l.length:=swp_len _ _ _
 have hs0:Sw a b l (swp l a q):=Sw.step a q Sw.refl (Nat.le_refl _) hab hq.1 hq.2 hbl
 generalize swp l a q=l1 at *
 generalize (lget l q)=pv at *
 generalize hL1:Rec.loop _ _ _ _=L1 at hz
 obtain ⟨x1,t1,S1e,rfl,hQ1⟩:=loop_met hL1 (fun m t S'=>∃ (i':Nat),m+i'=(b - 1)+2∧a+1≤i'∧i'≤(b - 1)+1∧(∀ u:Nat,a<u→u<i'→(lget l1 u)<pv)∧t.get 0=some (v)∧t.get 1=some (.int .i64 (a:Int))∧t.get 10=some (.int .i64 (i':Int))∧t.get 11=some (.int .i64 (((b - 1):Nat):Int))∧Keep v S S'∧Own 3 lo S' v l1)
  (fun x t S'=>x=.exit 0∧∃ (i':Nat),a+1≤i'∧i'≤(b - 1)+1∧(∀ u:Nat,a<u→u<i'→(lget l1 u)<pv)∧((b - 1)<i'∨¬ (lget l1 i')<pv)∧t.get 0=some (v)∧t.get 1=some (.int .i64 (a:Int))∧t.get 10=some (.int .i64 (i':Int))∧t.get 11=some (.int .i64 (((b - 1):Nat):Int))∧Keep v S S'∧Own 3 lo S' v l1) ((b - 1)+2 - (a+1))
  ⟨(a+1),by omega,by omega,by omega,(fun u h1 h2=>by omega),by simp only [SY,eq_self,Nat.reduceBEq]<;>rfl,by simp only [SY,eq_self,Nat.reduceBEq]<;>rfl,by simp only [SY,eq_self,Nat.reduceBEq]<;>rfl,by simp only [SY,eq_self,Nat.reduceBEq]<;>rfl,kpD,owD⟩ (by
   clear hL1 hz
   rintro m t S2 ⟨i',hm2,hi2,hij2,hlow2,g0,g1,g12,g13,kp2,ow2⟩
   refine .run fun z he=>?_
   simp (disch:=first|omega|assumption) only [SY,store_refl E0_same] at he
   rw [code_draws _ _ _ (by kernel_rfl)] at he
   generalize hnd2:needy _=nd2 at he
   rcases dP ((i':Int)≤(((b - 1):Nat):Int)) with ⟨h4a,h4⟩|⟨h4a,h4⟩
   ·obtain ⟨loB,ltB,ccB,exB,hxB,hcB⟩:=own_cut ow2 hb
    obtain ⟨ofBy,hoBy,iaBy,pBy0⟩:=hcB (i') (by omega)
    obtain ⟨ofBx,hoBx,iaBx,pBx0⟩:=hcB (a) (by omega)
    obtain ⟨SC,kC,aC⟩:=cL (lget l1 i') (lget l1 a) S2
    have sC:E0.same S2 SC=true:=symEnv_same aC
    simp (disch:=first|omega|assumption) only [E0_G,SY,agreeKind,vals,ldA,aggD,Nat.reduceAdd,Nat.reduceLT,Nat.reduceBEq,TY_EvO0,store_agree,store_refl E0_same,g0,g1,g12,g13,h4a,hxB,iaBy,pBy0,iaBx,pBx0,kC] at he
    rcases dP (cmpI (lget l1 i') (lget l1 a)<0) with ⟨h5a,h5⟩|⟨h5a,h5⟩
    ·have u1:IntKind.i64.wrap ((i':Int)+1)=((i'+1:Nat):Int):=by rw [IntWalk.i64_in]<;>omega
     simp (disch:=first|omega|assumption) only [E0_G,SY,off,agreeKind,Nat.reduceAdd,Nat.reduceLT,Nat.reduceBEq,store_refl E0_same,g12,h5a,u1] at he
     rw [cmpI_lt,hpv] at h5
     exact .next he (m - 1) (by omega) ⟨i'+1,by omega,by omega,by omega,lt_up hlow2 h5,by simp only [SY,eq_self,Nat.reduceBEq,g0]<;>rfl,by simp only [SY,eq_self,Nat.reduceBEq,g1]<;>rfl,by simp only [SY,eq_self,Nat.reduceBEq,g12]<;>rfl,by simp only [SY,eq_self,Nat.reduceBEq,g13]<;>rfl,kp2.trans (Keep.of aC),ow2.agree aC⟩
    simp (disch:=first|omega|assumption) only [SY,store_refl E0_same,h5a] at he
    rw [cmpI_lt,hpv] at h5
    exact .exit he ⟨rfl,i',hi2,hij2,hlow2,.inr h5,by simp only [SY,eq_self,Nat.reduceBEq,g0]<;>rfl,by simp only [SY,eq_self,Nat.reduceBEq,g1]<;>rfl,by simp only [SY,eq_self,Nat.reduceBEq,g12]<;>rfl,by simp only [SY,eq_self,Nat.reduceBEq,g13]<;>rfl,kp2.trans (Keep.of aC),ow2.agree aC⟩
   simp (disch:=first|omega|assumption) only [E0_G,SY,agreeKind,Nat.reduceAdd,Nat.reduceLT,Nat.reduceBEq,store_refl E0_same,g12,g13,h4a] at he
   exact .exit he ⟨rfl,i',hi2,hij2,hlow2,.inl (by omega),by simp only [SY,eq_self,Nat.reduceBEq,g0]<;>rfl,by simp only [SY,eq_self,Nat.reduceBEq,g1]<;>rfl,by simp only [SY,eq_self,Nat.reduceBEq,g12]<;>rfl,by simp only [SY,eq_self,Nat.reduceBEq,g13]<;>rfl,kp2,ow2⟩)
 obtain ⟨rfl,i1,hi1,hij1,hlow1,hst1,g0_1,g1_1,g12_1,g13_1,kp1,ow1⟩:=hQ1
 simp (disch:=first|omega|assumption) only [SY,eq_self,if_true,store_refl E0_same] at hz
 generalize hL2:Rec.loop _ _ _ _=L2 at hz
 obtain ⟨x2,t2,S2e,rfl,hQ2⟩:=loop_met hL2 (fun m t S'=>∃ (j':Nat),m+i1=j'+2∧j'≤(b - 1)∧i1≤j'+1∧a≤j'∧(∀ u:Nat,j'<u→u<b→pv≤(lget l1 u))∧t.get 0=some (v)∧t.get 1=some (.int .i64 (a:Int))∧t.get 10=some (.int .i64 (i1:Int))∧t.get 11=some (.int .i64 (j':Int))∧Keep v S S'∧Own 3 lo S' v l1)
  (fun x t S'=>x=.exit 2∧∃ (j':Nat),j'≤(b - 1)∧i1≤j'+1∧a≤j'∧(∀ u:Nat,j'<u→u<b→pv≤(lget l1 u))∧(j'<i1∨(lget l1 j')<pv)∧t.get 0=some (v)∧t.get 1=some (.int .i64 (a:Int))∧t.get 10=some (.int .i64 (i1:Int))∧t.get 11=some (.int .i64 (j':Int))∧Keep v S S'∧Own 3 lo S' v l1) ((b - 1)+2 - i1)
  ⟨((b - 1)),by omega,by omega,by omega,by omega,(fun u h1 h2=>by omega),by simp only [eq_self,g0_1]<;>rfl,by simp only [eq_self,g1_1]<;>rfl,by simp only [eq_self,g12_1]<;>rfl,by simp only [eq_self,g13_1]<;>rfl,kp1,ow1⟩ (by
   clear hL2 hz
   rintro m t S3 ⟨j',hm3,hj3,hij3,haj3,hupp3,g0,g1,g12,g13,kp3,ow3⟩
   refine .run fun z he=>?_
   simp (disch:=first|omega|assumption) only [SY,store_refl E0_same] at he
   rw [code_draws _ _ _ (by kernel_rfl)] at he
   generalize hnd3:needy _=nd3 at he
   rcases dP ((i1:Int)≤(j':Int)) with ⟨h4a,h4⟩|⟨h4a,h4⟩
   ·obtain ⟨loB,ltB,ccB,exB,hxB,hcB⟩:=own_cut ow3 hb
    obtain ⟨ofBy,hoBy,iaBy,pBy0⟩:=hcB (j') (by omega)
    obtain ⟨ofBx,hoBx,iaBx,pBx0⟩:=hcB (a) (by omega)
    obtain ⟨SC,kC,aC⟩:=cL (lget l1 j') (lget l1 a) S3
    have sC:E0.same S3 SC=true:=symEnv_same aC
    simp (disch:=first|omega|assumption) only [E0_G,SY,agreeKind,vals,ldA,aggD,Nat.reduceAdd,Nat.reduceLT,Nat.reduceBEq,TY_EvO0,store_agree,store_refl E0_same,g0,g1,g12,g13,h4a,hxB,iaBy,pBy0,iaBx,pBx0,kC] at he
    rcases dP (cmpI (lget l1 j') (lget l1 a)<0) with ⟨h5a,h5⟩|⟨h5a,h5⟩
    ·simp (disch:=first|omega|assumption) only [SY,store_refl E0_same,h5a] at he
     rw [cmpI_lt,hpv] at h5
     exact .exit he ⟨rfl,j',hj3,hij3,haj3,hupp3,.inr h5,by simp only [SY,eq_self,Nat.reduceBEq,g0]<;>rfl,by simp only [SY,eq_self,Nat.reduceBEq,g1]<;>rfl,by simp only [SY,eq_self,Nat.reduceBEq,g12]<;>rfl,by simp only [SY,eq_self,Nat.reduceBEq,g13]<;>rfl,kp3.trans (Keep.of aC),ow3.agree aC⟩
    have u1:IntKind.i64.wrap ((j':Int) - 1)=((j' - 1:Nat):Int):=by rw [IntWalk.i64_in]<;>omega
    simp (disch:=first|omega|assumption) only [E0_G,SY,off,agreeKind,Nat.reduceAdd,Nat.reduceLT,Nat.reduceBEq,store_refl E0_same,g13,h5a,u1] at he
    rw [cmpI_lt,hpv] at h5
    exact .next he (m - 1) (by omega) ⟨j' - 1,by omega,by omega,by omega,by omega,le_dn hupp3 h5,by simp only [SY,eq_self,Nat.reduceBEq,g0]<;>rfl,by simp only [SY,eq_self,Nat.reduceBEq,g1]<;>rfl,by simp only [SY,eq_self,Nat.reduceBEq,g12]<;>rfl,by simp only [SY,eq_self,Nat.reduceBEq,g13]<;>rfl,kp3.trans (Keep.of aC),ow3.agree aC⟩
   simp (disch:=first|omega|assumption) only [E0_G,SY,agreeKind,Nat.reduceAdd,Nat.reduceLT,Nat.reduceBEq,store_refl E0_same,g12,g13,h4a] at he
   exact .exit he ⟨rfl,j',hj3,hij3,haj3,hupp3,.inl (by omega),by simp only [SY,eq_self,Nat.reduceBEq,g0]<;>rfl,by simp only [SY,eq_self,Nat.reduceBEq,g1]<;>rfl,by simp only [SY,eq_self,Nat.reduceBEq,g12]<;>rfl,by simp only [SY,eq_self,Nat.reduceBEq,g13]<;>rfl,kp3,ow3⟩)
 obtain ⟨rfl,j2,hj2,hij2,haj2,hupp2,hst2,g0_2,g1_2,g12_2,g13_2,kp2,ow2⟩:=hQ2
 simp (disch:=first|omega|assumption) only [E0_G,SY,off,agreeKind,eq_self,if_true,Nat.reduceAdd,Nat.reduceLT,Nat.reduceBEq,store_refl E0_same,g12_2,g13_2] at hz
 rcases dP ((j2:Int)<(i1:Int)) with ⟨h6a,h6⟩|⟨h6a,h6⟩
 ·simp (disch:=first|omega|assumption) only [SY,store_refl E0_same,h6a] at hz
  rw [code_draws _ _ _ (by kernel_rfl)] at hz
  generalize hnd4:needy _=nd4 at hz
  obtain ⟨loZ,ltZ,ccZ,exZ,hxZ,hcZ⟩:=own_cut ow2 hb
  obtain ⟨ofZj,hoZj,iaZj,pZj0⟩:=hcZ (a) (by omega)
  obtain ⟨ofZi,hoZi,iaZi,pZi0⟩:=hcZ (j2) (by omega)
  obtain ⟨SxZ,SyZ,exZ,eyZ,owZ,kpZ,nxZ⟩:=own_swp ow2 hb (i:=j2) (j:=a) (by omega) (by omega) hoZi hoZj
  simp (disch:=first|omega|assumption) only [E0_G,SY,off,agreeKind,ldA,aggD,Nat.reduceAdd,Nat.reduceLT,Nat.reduceBEq,TY_EvO0,store_refl E0_same,g0_2,g1_2,g13_2,hxZ,iaZj,pZj0,iaZi,pZi0,exZ,eyZ] at hz
  obtain ⟨z1,z2,z3⟩:=part_end (o:=l1) (a:=a) (b:=b) (j:=j2) (pv:=pv) (by omega) (by omega) (by omega) hpv (fun u h1 h2=>hlow1 u h1 (by omega)) hupp2
  exact ⟨_,swp l1 j2 a,j2,true,hz.symm,kp2.trans kpZ,owZ,Sw.step j2 a hs0 (by omega) (by omega) (Nat.le_refl _) hab hbl,⟨by omega,by omega⟩,by rw [z1]; exact z2,by rw [z1]; exact z3⟩
 have u1:IntKind.i64.wrap ((i1:Int)+1)=((i1+1:Nat):Int):=by rw [IntWalk.i64_in]<;>omega
 have u2:IntKind.i64.wrap ((j2:Int) - 1)=((j2 - 1:Nat):Int):=by rw [IntWalk.i64_in]<;>omega
 simp (disch:=first|omega|assumption) only [SY,store_refl E0_same,h6a] at hz
 rw [code_draws _ _ _ (by kernel_rfl)] at hz
 generalize hnd5:needy _=nd5 at hz
 obtain ⟨loE,ltE,ccE,exE,hxE,hcE⟩:=own_cut ow2 hb
 obtain ⟨ofEj,hoEj,iaEj,pEj0⟩:=hcE (j2) (by omega)
 obtain ⟨ofEi,hoEi,iaEi,pEi0⟩:=hcE (i1) (by omega)
 obtain ⟨SxE,SyE,exE,eyE,owE,kpE,nxE⟩:=own_swp ow2 hb (i:=i1) (j:=j2) (by omega) (by omega) hoEi hoEj
 simp (disch:=first|omega|assumption) only [E0_G,SY,off,agreeKind,ldA,aggD,Nat.reduceAdd,Nat.reduceLT,Nat.reduceBEq,TY_EvO0,store_refl E0_same,g0_2,g12_2,g13_2,u1,u2,hxE,iaEj,pEj0,iaEi,pEi0,exE,eyE] at hz
 obtain ⟨e1,e2,e3⟩:=part_swap (o:=l1) (a:=a) (b:=b) (i:=i1) (j:=j2) (pv:=pv) (by omega) (by omega) (by omega) (by omega) hlow1 hupp2 (by omega) (by omega)
 generalize hL5:Rec.loop _ _ _ _=L5 at hz
 obtain ⟨x5,t5,S5e,rfl,hQ5⟩:=loop_met hL5 (fun m t S'=>∃ (i j:Nat) (o:List Int),m+i=j+2∧a+1≤i∧i≤j+1∧a≤j∧j<b∧Sw (a+1) b l1 o∧(∀ u:Nat,a<u→u<i→(lget o u)<pv)∧(∀ u:Nat,j<u→u<b→pv≤(lget o u))∧t.get 0=some (v)∧t.get 1=some (.int .i64 (a:Int))∧t.get 10=some (.int .i64 (i:Int))∧t.get 11=some (.int .i64 (j:Int))∧Keep v S S'∧Own 3 lo S' v o)
  (fun x t S'=>x=.exit 4∧∃ (j:Nat) (o:List Int),a≤j∧j<b∧Sw (a+1) b l1 o∧(∀ u:Nat,a<u→u<j+1→(lget o u)<pv)∧(∀ u:Nat,j<u→u<b→pv≤(lget o u))∧t.get 0=some (v)∧t.get 1=some (.int .i64 (a:Int))∧t.get 11=some (.int .i64 (j:Int))∧Keep v S S'∧Own 3 lo S' v o) (j2 - 1+2 - (i1+1))
  ⟨i1+1,j2 - 1,_,by omega,by omega,by omega,by omega,by omega,Sw.step i1 j2 Sw.refl (by omega) (by omega) (by omega) (by omega) (by omega),e2,e3,by simp only [SY,eq_self,Nat.reduceBEq,g0_2]<;>rfl,by simp only [SY,eq_self,Nat.reduceBEq,g1_2]<;>rfl,by simp only [SY,eq_self,Nat.reduceBEq,g12_2]<;>rfl,by simp only [SY,eq_self,Nat.reduceBEq,g13_2]<;>rfl,kp2.trans kpE,owE⟩ (by
   clear g0_1 g1_1 g12_1 g13_1 g0_2 g1_2 g12_2 g13_2
   rintro m t S1 ⟨i,j,o,hm,hi1',hij,haj,hjb,hs,hlow,hupp,g0,g1,g12,g13,kp,ow⟩
   refine .run fun z he=>?_
   have hlo:=hs.len
   have hpa:(lget o a)=pv:=by rw [hs.out a (by omega)]; exact hpv
   simp (disch:=first|omega|assumption) only [SY] at he
   generalize hL6:Rec.loop _ _ _ _=L6 at he
   obtain ⟨x6,t6,S6e,rfl,hQ6⟩:=loop_met hL6 (fun m t S'=>∃ (i':Nat),m+i'=j+2∧i≤i'∧i'≤j+1∧(∀ u:Nat,a<u→u<i'→(lget o u)<pv)∧t.get 0=some (v)∧t.get 1=some (.int .i64 (a:Int))∧t.get 10=some (.int .i64 (i':Int))∧t.get 11=some (.int .i64 (j:Int))∧Keep v S S'∧Own 3 lo S' v o)
    (fun x t S'=>x=.exit 6∧∃ (i':Nat),i≤i'∧i'≤j+1∧(∀ u:Nat,a<u→u<i'→(lget o u)<pv)∧(j<i'∨¬ (lget o i')<pv)∧t.get 0=some (v)∧t.get 1=some (.int .i64 (a:Int))∧t.get 10=some (.int .i64 (i':Int))∧t.get 11=some (.int .i64 (j:Int))∧Keep v S S'∧Own 3 lo S' v o) (j+2 - (i))
    ⟨(i),by omega,by omega,by omega,hlow,by simp only [eq_self,g0]<;>rfl,by simp only [eq_self,g1]<;>rfl,by simp only [eq_self,g12]<;>rfl,by simp only [eq_self,g13]<;>rfl,kp,ow⟩ (by
     clear he hL6 hL5 hz
     rintro m t S2 ⟨i',hm2,hi2,hij2,hlow2,f0,f1,f12,f13,kp2,ow2⟩
     refine .run fun z he=>?_
     simp (disch:=first|omega|assumption) only [SY,store_refl E0_same] at he
     rw [code_draws _ _ _ (by kernel_rfl)] at he
     generalize hnd6:needy _=nd6 at he
     rcases dP ((i':Int)≤(j:Int)) with ⟨h4a,h4⟩|⟨h4a,h4⟩
     ·obtain ⟨loB,ltB,ccB,exB,hxB,hcB⟩:=own_cut ow2 hb
      obtain ⟨ofBy,hoBy,iaBy,pBy0⟩:=hcB (i') (by omega)
      obtain ⟨ofBx,hoBx,iaBx,pBx0⟩:=hcB (a) (by omega)
      obtain ⟨SC,kC,aC⟩:=cL (lget o i') (lget o a) S2
      have sC:E0.same S2 SC=true:=symEnv_same aC
      simp (disch:=first|omega|assumption) only [E0_G,SY,agreeKind,vals,ldA,aggD,Nat.reduceAdd,Nat.reduceLT,Nat.reduceBEq,TY_EvO0,store_agree,store_refl E0_same,f0,f1,f12,f13,h4a,hxB,iaBy,pBy0,iaBx,pBx0,kC] at he
      rcases dP (cmpI (lget o i') (lget o a)<0) with ⟨h5a,h5⟩|⟨h5a,h5⟩
      ·have u1:IntKind.i64.wrap ((i':Int)+1)=((i'+1:Nat):Int):=by rw [IntWalk.i64_in]<;>omega
       simp (disch:=first|omega|assumption) only [E0_G,SY,off,agreeKind,Nat.reduceAdd,Nat.reduceLT,Nat.reduceBEq,store_refl E0_same,f12,h5a,u1] at he
       rw [cmpI_lt,hpa] at h5
       exact .next he (m - 1) (by omega) ⟨i'+1,by omega,by omega,by omega,lt_up hlow2 h5,by simp only [SY,eq_self,Nat.reduceBEq,f0]<;>rfl,by simp only [SY,eq_self,Nat.reduceBEq,f1]<;>rfl,by simp only [SY,eq_self,Nat.reduceBEq,f12]<;>rfl,by simp only [SY,eq_self,Nat.reduceBEq,f13]<;>rfl,kp2.trans (Keep.of aC),ow2.agree aC⟩
      simp (disch:=first|omega|assumption) only [SY,store_refl E0_same,h5a] at he
      rw [cmpI_lt,hpa] at h5
      exact .exit he ⟨rfl,i',hi2,hij2,hlow2,.inr h5,by simp only [SY,eq_self,Nat.reduceBEq,f0]<;>rfl,by simp only [SY,eq_self,Nat.reduceBEq,f1]<;>rfl,by simp only [SY,eq_self,Nat.reduceBEq,f12]<;>rfl,by simp only [SY,eq_self,Nat.reduceBEq,f13]<;>rfl,kp2.trans (Keep.of aC),ow2.agree aC⟩
     simp (disch:=first|omega|assumption) only [E0_G,SY,agreeKind,Nat.reduceAdd,Nat.reduceLT,Nat.reduceBEq,store_refl E0_same,f12,f13,h4a] at he
     exact .exit he ⟨rfl,i',hi2,hij2,hlow2,.inl (by omega),by simp only [SY,eq_self,Nat.reduceBEq,f0]<;>rfl,by simp only [SY,eq_self,Nat.reduceBEq,f1]<;>rfl,by simp only [SY,eq_self,Nat.reduceBEq,f12]<;>rfl,by simp only [SY,eq_self,Nat.reduceBEq,f13]<;>rfl,kp2,ow2⟩)
   obtain ⟨rfl,i6,hi6,hij6,hlow6,hst6,f0_6,f1_6,f12_6,f13_6,kp6,ow6⟩:=hQ6
   simp (disch:=first|omega|assumption) only [SY,eq_self,if_true,store_refl E0_same] at he
   generalize hL7:Rec.loop _ _ _ _=L7 at he
   obtain ⟨x7,t7,S7e,rfl,hQ7⟩:=loop_met hL7 (fun m t S'=>∃ (j':Nat),m+i6=j'+2∧j'≤j∧i6≤j'+1∧a≤j'∧(∀ u:Nat,j'<u→u<b→pv≤(lget o u))∧t.get 0=some (v)∧t.get 1=some (.int .i64 (a:Int))∧t.get 10=some (.int .i64 (i6:Int))∧t.get 11=some (.int .i64 (j':Int))∧Keep v S S'∧Own 3 lo S' v o)
    (fun x t S'=>x=.exit 8∧∃ (j':Nat),j'≤j∧i6≤j'+1∧a≤j'∧(∀ u:Nat,j'<u→u<b→pv≤(lget o u))∧(j'<i6∨(lget o j')<pv)∧t.get 0=some (v)∧t.get 1=some (.int .i64 (a:Int))∧t.get 10=some (.int .i64 (i6:Int))∧t.get 11=some (.int .i64 (j':Int))∧Keep v S S'∧Own 3 lo S' v o) (j+2 - i6)
    ⟨(j),by omega,by omega,by omega,by omega,hupp,by simp only [eq_self,f0_6]<;>rfl,by simp only [eq_self,f1_6]<;>rfl,by simp only [eq_self,f12_6]<;>rfl,by simp only [eq_self,f13_6]<;>rfl,kp6,ow6⟩ (by
     clear he hL7 hL5 hz
     rintro m t S3 ⟨j',hm3,hj3,hij3,haj3,hupp3,f0,f1,f12,f13,kp3,ow3⟩
     refine .run fun z he=>?_
     simp (disch:=first|omega|assumption) only [SY,store_refl E0_same] at he
     rw [code_draws _ _ _ (by kernel_rfl)] at he
     generalize hnd7:needy _=nd7 at he
     rcases dP ((i6:Int)≤(j':Int)) with ⟨h4a,h4⟩|⟨h4a,h4⟩
     ·obtain ⟨loB,ltB,ccB,exB,hxB,hcB⟩:=own_cut ow3 hb
      obtain ⟨ofBy,hoBy,iaBy,pBy0⟩:=hcB (j') (by omega)
      obtain ⟨ofBx,hoBx,iaBx,pBx0⟩:=hcB (a) (by omega)
      obtain ⟨SC,kC,aC⟩:=cL (lget o j') (lget o a) S3
      have sC:E0.same S3 SC=true:=symEnv_same aC
      simp (disch:=first|omega|assumption) only [E0_G,SY,agreeKind,vals,ldA,aggD,Nat.reduceAdd,Nat.reduceLT,Nat.reduceBEq,TY_EvO0,store_agree,store_refl E0_same,f0,f1,f12,f13,h4a,hxB,iaBy,pBy0,iaBx,pBx0,kC] at he
      rcases dP (cmpI (lget o j') (lget o a)<0) with ⟨h5a,h5⟩|⟨h5a,h5⟩
      ·simp (disch:=first|omega|assumption) only [SY,store_refl E0_same,h5a] at he
       rw [cmpI_lt,hpa] at h5
       exact .exit he ⟨rfl,j',hj3,hij3,haj3,hupp3,.inr h5,by simp only [SY,eq_self,Nat.reduceBEq,f0]<;>rfl,by simp only [SY,eq_self,Nat.reduceBEq,f1]<;>rfl,by simp only [SY,eq_self,Nat.reduceBEq,f12]<;>rfl,by simp only [SY,eq_self,Nat.reduceBEq,f13]<;>rfl,kp3.trans (Keep.of aC),ow3.agree aC⟩
      have u1:IntKind.i64.wrap ((j':Int) - 1)=((j' - 1:Nat):Int):=by rw [IntWalk.i64_in]<;>omega
      simp (disch:=first|omega|assumption) only [E0_G,SY,off,agreeKind,Nat.reduceAdd,Nat.reduceLT,Nat.reduceBEq,store_refl E0_same,f13,h5a,u1] at he
      rw [cmpI_lt,hpa] at h5
      exact .next he (m - 1) (by omega) ⟨j' - 1,by omega,by omega,by omega,by omega,le_dn hupp3 h5,by simp only [SY,eq_self,Nat.reduceBEq,f0]<;>rfl,by simp only [SY,eq_self,Nat.reduceBEq,f1]<;>rfl,by simp only [SY,eq_self,Nat.reduceBEq,f12]<;>rfl,by simp only [SY,eq_self,Nat.reduceBEq,f13]<;>rfl,kp3.trans (Keep.of aC),ow3.agree aC⟩
     simp (disch:=first|omega|assumption) only [E0_G,SY,agreeKind,Nat.reduceAdd,Nat.reduceLT,Nat.reduceBEq,store_refl E0_same,f12,f13,h4a] at he
     exact .exit he ⟨rfl,j',hj3,hij3,haj3,hupp3,.inl (by omega),by simp only [SY,eq_self,Nat.reduceBEq,f0]<;>rfl,by simp only [SY,eq_self,Nat.reduceBEq,f1]<;>rfl,by simp only [SY,eq_self,Nat.reduceBEq,f12]<;>rfl,by simp only [SY,eq_self,Nat.reduceBEq,f13]<;>rfl,kp3,ow3⟩)
   obtain ⟨rfl,j7,hj7,hij7,haj7,hupp7,hst7,f0_7,f1_7,f12_7,f13_7,kp7,ow7⟩:=hQ7
   simp (disch:=first|omega|assumption) only [E0_G,SY,off,agreeKind,eq_self,if_true,Nat.reduceAdd,Nat.reduceLT,Nat.reduceBEq,store_refl E0_same,f12_7,f13_7] at he
   rcases dP ((j7:Int)<(i6:Int)) with ⟨h8a,h8⟩|⟨h8a,h8⟩
   ·simp (disch:=first|omega|assumption) only [SY,if_false,Nat.reduceEqDiff,store_refl E0_same,h8a] at he
    exact .exit he ⟨rfl,j7,o,by omega,by omega,hs,(fun u h1 h2=>hlow6 u h1 (by omega)),hupp7,by simp only [SY,eq_self,Nat.reduceBEq,f0_7]<;>rfl,by simp only [SY,eq_self,Nat.reduceBEq,f1_7]<;>rfl,by simp only [SY,eq_self,Nat.reduceBEq,f13_7]<;>rfl,kp7,ow7⟩
   have x1:IntKind.i64.wrap ((i6:Int)+1)=((i6+1:Nat):Int):=by rw [IntWalk.i64_in]<;>omega
   have x2:IntKind.i64.wrap ((j7:Int) - 1)=((j7 - 1:Nat):Int):=by rw [IntWalk.i64_in]<;>omega
   simp (disch:=first|omega|assumption) only [SY,store_refl E0_same,h8a] at he
   rw [code_draws _ _ _ (by kernel_rfl)] at he
   generalize hnd8:needy _=nd8 at he
   obtain ⟨loF,ltF,ccF,exF,hxF,hcF⟩:=own_cut ow7 hb
   obtain ⟨ofFj,hoFj,iaFj,pFj0⟩:=hcF (j7) (by omega)
   obtain ⟨ofFi,hoFi,iaFi,pFi0⟩:=hcF (i6) (by omega)
   obtain ⟨SxF,SyF,exF,eyF,owF,kpF,nxF⟩:=own_swp ow7 hb (i:=i6) (j:=j7) (by omega) (by omega) hoFi hoFj
   simp (disch:=first|omega|assumption) only [E0_G,SY,off,agreeKind,ldA,aggD,Nat.reduceAdd,Nat.reduceLT,Nat.reduceBEq,TY_EvO0,store_refl E0_same,f0_7,f12_7,f13_7,x1,x2,hxF,iaFj,pFj0,iaFi,pFi0,exF,eyF] at he
   obtain ⟨y1,y2,y3⟩:=part_swap (o:=o) (a:=a) (b:=b) (i:=i6) (j:=j7) (pv:=pv) (by omega) (by omega) (by omega) (by omega) hlow6 hupp7 (by omega) (by omega)
   exact .next he (j7 - 1+2 - (i6+1)) (by omega) ⟨i6+1,j7 - 1,_,by omega,by omega,by omega,by omega,by omega,Sw.step i6 j7 hs (by omega) (by omega) (by omega) (by omega) (by omega),y2,y3,by simp only [SY,eq_self,Nat.reduceBEq,f0_7]<;>rfl,by simp only [SY,eq_self,Nat.reduceBEq,f1_7]<;>rfl,by simp only [SY,eq_self,Nat.reduceBEq,f12_7]<;>rfl,by simp only [SY,eq_self,Nat.reduceBEq,f13_7]<;>rfl,kp7.trans kpF,owF⟩)
 obtain ⟨rfl,j,o,haj,hjb,hs,hlow,hupp,k0,k1,k13,kp,ow⟩:=hQ5
 have hlo:=hs.len
 have hpa:(lget o a)=pv:=by rw [hs.out a (by omega)]; exact hpv
 simp (disch:=first|omega|assumption) only [SY,eq_self,if_true,store_refl E0_same] at hz
 rw [code_draws _ _ _ (by kernel_rfl)] at hz
 generalize hnd9:needy _=nd9 at hz
 obtain ⟨loZ,ltZ,ccZ,exZ,hxZ,hcZ⟩:=own_cut ow hb
 obtain ⟨ofZj,hoZj,iaZj,pZj0⟩:=hcZ (a) (by omega)
 obtain ⟨ofZi,hoZi,iaZi,pZi0⟩:=hcZ (j) (by omega)
 obtain ⟨SxZ,SyZ,exZ,eyZ,owZ,kpZ,nxZ⟩:=own_swp ow hb (i:=j) (j:=a) (by omega) (by omega) hoZi hoZj
 simp (disch:=first|omega|assumption) only [E0_G,SY,off,agreeKind,ldA,aggD,Nat.reduceAdd,Nat.reduceLT,Nat.reduceBEq,TY_EvO0,store_refl E0_same,k0,k1,k13,hxZ,iaZj,pZj0,iaZi,pZi0,exZ,eyZ] at hz
 obtain ⟨z1,z2,z3⟩:=part_end (o:=o) (a:=a) (b:=b) (j:=j) (pv:=pv) (by omega) (by omega) (by omega) hpa hlow hupp
 exact ⟨_,swp o j a,j,false,hz.symm,kp.trans kpZ,owZ,Sw.step j a (hs0.trans (hs.mono (by omega) (Nat.le_refl _) (by omega))) (by omega) (by omega) (Nat.le_refl _) hab hbl,⟨by omega,by omega⟩,by rw [z1]; exact z2,by rw [z1]; exact z3⟩
end Clock
end Go.Proofs
end
section
set_option linter.unusedSimpArgs false
set_option linter.unusedVariables false
namespace Go.Proofs
namespace Clock
open Go Go.RowKit Go.Aev
set_option maxRecDepth 100000
def Pre (a b:Nat) (l:List Int):Prop:=0<a→∀ u:Nat,a≤u→u<b→(lget l (a - 1))≤(lget l u)
theorem Pre.sw {a b:Nat} {l l':List Int} (h:Pre a b l) (hs:Sw a b l l'):Pre a b l':=by
 intro ha
 rw [hs.out (a - 1) (by omega)]
 exact hs.all (P:=fun x=>(lget l (a - 1))≤x) (h ha)
theorem Srt.more {a i:Nat} {o:List Int} (h:Srt a i o) (hi:a<i) (c:¬ (lget o i)<(lget o (i - 1))):Srt a (i+1) o:=by
 intro u v h1 h2 h3
 by_cases e:v=i
 ·subst e
  by_cases e2:u=v - 1
  ·subst e2; omega
  ·have:=h u (v - 1) h1 (by omega) (by omega)
   omega
 ·exact h u v h1 h2 (by omega)
set_option maxHeartbeats 16000000 in
theorem c180 (l:List Int) (hn:l.length≤1000) (lo:Nat) (S:AS) (v:Value) (ho:Own 3 lo S v l) (id:Nat) (hb:blkOf v=some id) (a b:Nat) (hab:a+13≤b) (hbl:b≤l.length) (hpre:Pre a b l) :
  ∃ S' l' y,(evL Tryz.prog E0).call 180 #[v,.int .i64 (a:Int),.int .i64 (b:Int)] S=some (.bool y,S')∧Keep v S S'∧Own 3 lo S' v l'∧Sw a b l l'∧(y=true→Srt a b l'):=by
 generalize hz:(evL Tryz.prog E0).call 180 _ _=z
 rw [L_call,evCall_said rfl Tryz.func180 rfl (by decide) Tryz.ntmps180 Tryz.results180] at hz
 have w1:IntKind.i64.wrap ((a:Int)+1)=((a+1:Nat):Int):=by rw [IntWalk.i64_in]<;>omega
 have w2:IntKind.i64.wrap ((b:Int) - (a:Int))=((b - a:Nat):Int):=by rw [IntWalk.i64_in]<;>omega
 simp (disch:=first|omega|assumption) only [E0_G,SY,setArgs,off,agreeKind,Nat.reduceAdd,Nat.reduceSub,Nat.reduceLT,Nat.reduceBEq,store_refl E0_same,w1] at hz
 generalize hL1:Rec.loop _ _ _ _=L1 at hz
 obtain ⟨x1,t1,S1e,rfl,hQ1⟩:=loop_met hL1 (fun m t S'=>∃ (i c:Nat) (o:List Int),m+c=6∧c≤5∧a+1≤i∧i≤b∧Sw a b l o∧Srt a i o∧t.get 0=some (v)∧t.get 1=some (.int .i64 (a:Int))∧t.get 2=some (.int .i64 (b:Int))∧t.get 7=some (.int .i64 (i:Int))∧t.get 8=some (.int .i64 (c:Int))∧Keep v S S'∧Own 3 lo S' v o)
  (fun x t S'=>(x=.exit 0∧∃ (o:List Int),Sw a b l o∧Keep v S S'∧Own 3 lo S' v o)∨(x=.ret∧∃ (o:List Int) (y:Bool),t.get 6=some (.bool y)∧Sw a b l o∧(y=true→Srt a b o)∧Keep v S S'∧Own 3 lo S' v o)) 6
  ⟨a+1,0,l,by omega,by omega,by omega,by omega,Sw.refl,Srt.small (Nat.le_refl _),by simp only [SY,eq_self,Nat.reduceBEq]<;>rfl,by simp only [SY,eq_self,Nat.reduceBEq]<;>rfl,by simp only [SY,eq_self,Nat.reduceBEq]<;>rfl,by simp only [SY,eq_self,Nat.reduceBEq]<;>rfl,by simp only [SY,Nat.reduceBEq]<;>rfl,Keep.refl v S,ho⟩ (by
   rintro m t S1 ⟨i,c,o,hm,hc5,hi1,hib,hs,hr,g0,g1,g2,g9,g10,kp,ow⟩
   refine .run fun z he=>?_
   have hlo:=hs.len
   simp (disch:=first|omega|assumption) only [E0_G,SY,off,agreeKind,Nat.reduceAdd,Nat.reduceLT,Nat.reduceBEq,store_refl E0_same,g10] at he
   rcases dP ((c:Int)<5) with ⟨h3a,h3⟩|⟨h3a,h3⟩
   ·simp (disch:=first|omega|assumption) only [SY,store_refl E0_same,h3a] at he
    generalize hL2:Rec.loop _ _ _ _=L2 at he
    obtain ⟨x2,t2,S2e,rfl,hQ2⟩:=loop_met hL2 (fun m t S'=>∃ (i':Nat),m+i'=b+1∧a+1≤i'∧i'≤b∧Srt a i' o∧t.get 0=some (v)∧t.get 1=some (.int .i64 (a:Int))∧t.get 2=some (.int .i64 (b:Int))∧t.get 7=some (.int .i64 (i':Int))∧t.get 8=some (.int .i64 (c:Int))∧Keep v S S'∧Own 3 lo S' v o)
     (fun x t S'=>x=.exit 2∧∃ (i':Nat),a+1≤i'∧i'≤b∧Srt a i' o∧(i'=b∨(lget o i')<(lget o (i' - 1)))∧t.get 0=some (v)∧t.get 1=some (.int .i64 (a:Int))∧t.get 2=some (.int .i64 (b:Int))∧t.get 7=some (.int .i64 (i':Int))∧t.get 8=some (.int .i64 (c:Int))∧Keep v S S'∧Own 3 lo S' v o) (b+1 - i)
     ⟨i,by omega,by omega,by omega,hr,by simp only [SY,eq_self,Nat.reduceBEq,g0]<;>rfl,by simp only [SY,eq_self,Nat.reduceBEq,g1]<;>rfl,by simp only [SY,eq_self,Nat.reduceBEq,g2]<;>rfl,by simp only [SY,eq_self,Nat.reduceBEq,g9]<;>rfl,by simp only [SY,eq_self,Nat.reduceBEq,g10]<;>rfl,kp,ow⟩ (by
      clear he hL2 hL1 hz
      rintro m t S2 ⟨i',hm2,hi2,hib2,hr2,g0,g1,g2,g9,g10,kp2,ow2⟩
      refine .run fun z he=>?_
      simp (disch:=first|omega|assumption) only [SY,store_refl E0_same] at he
      rw [code_draws _ _ _ (by kernel_rfl)] at he
      generalize hnd1:needy _=nd1 at he
      rcases dP ((i':Int)<(b:Int)) with ⟨h4a,h4⟩|⟨h4a,h4⟩
      ·have u1:IntKind.i64.wrap ((i':Int) - 1)=((i' - 1:Nat):Int):=by rw [IntWalk.i64_in]<;>omega
       have u2:IntKind.i64.wrap ((i':Int)+1)=((i'+1:Nat):Int):=by rw [IntWalk.i64_in]<;>omega
       obtain ⟨loB,ltB,ccB,exB,hxB,hcB⟩:=own_cut ow2 hb
       obtain ⟨ofBx,hoBx,iaBx,pBx0⟩:=hcB (i') (by omega)
       obtain ⟨ofBy,hoBy,iaBy,pBy0⟩:=hcB (i' - 1) (by omega)
       obtain ⟨SC,kC,aC⟩:=cL (lget o i') (lget o (i' - 1)) S2
       have sC:E0.same S2 SC=true:=symEnv_same aC
       simp (disch:=first|omega|assumption) only [E0_G,SY,agreeKind,vals,ldA,aggD,Nat.reduceAdd,Nat.reduceLT,Nat.reduceBEq,TY_EvO0,store_agree,store_refl E0_same,g0,g2,g9,h4a,u1,hxB,iaBx,pBx0,iaBy,pBy0,kC] at he
       rcases dP (cmpI (lget o i') (lget o (i' - 1))<0) with ⟨h5a,h5⟩|⟨h5a,h5⟩
       ·simp (disch:=first|omega|assumption) only [SY,store_refl E0_same,h5a] at he
        rw [cmpI_lt] at h5
        exact .exit he ⟨rfl,i',hi2,hib2,hr2,.inr h5,by simp only [SY,eq_self,Nat.reduceBEq,g0]<;>rfl,by simp only [SY,eq_self,Nat.reduceBEq,g1]<;>rfl,by simp only [SY,eq_self,Nat.reduceBEq,g2]<;>rfl,by simp only [SY,eq_self,Nat.reduceBEq,g9]<;>rfl,by simp only [SY,eq_self,Nat.reduceBEq,g10]<;>rfl,kp2.trans (Keep.of aC),ow2.agree aC⟩
       simp (disch:=first|omega|assumption) only [E0_G,SY,off,agreeKind,Nat.reduceAdd,Nat.reduceLT,Nat.reduceBEq,store_refl E0_same,g9,h5a,u2] at he
       rw [cmpI_lt] at h5
       exact .next he (m - 1) (by omega) ⟨i'+1,by omega,by omega,by omega,hr2.more (by omega) h5,by simp only [SY,eq_self,Nat.reduceBEq,g0]<;>rfl,by simp only [SY,eq_self,Nat.reduceBEq,g1]<;>rfl,by simp only [SY,eq_self,Nat.reduceBEq,g2]<;>rfl,by simp only [SY,eq_self,Nat.reduceBEq,g9]<;>rfl,by simp only [SY,eq_self,Nat.reduceBEq,g10]<;>rfl,kp2.trans (Keep.of aC),ow2.agree aC⟩
      simp (disch:=first|omega|assumption) only [E0_G,SY,agreeKind,Nat.reduceAdd,Nat.reduceLT,Nat.reduceBEq,store_refl E0_same,g2,g9,h4a] at he
      exact .exit he ⟨rfl,i',hi2,hib2,hr2,.inl (by omega),by simp only [SY,eq_self,Nat.reduceBEq,g0]<;>rfl,by simp only [SY,eq_self,Nat.reduceBEq,g1]<;>rfl,by simp only [SY,eq_self,Nat.reduceBEq,g2]<;>rfl,by simp only [SY,eq_self,Nat.reduceBEq,g9]<;>rfl,by simp only [SY,eq_self,Nat.reduceBEq,g10]<;>rfl,kp2,ow2⟩)
    obtain ⟨rfl,i2,hi2,hib2,hr2,hst2,e0,e1,e2,e9,e10,kp2,ow2⟩:=hQ2
    clear g0 g1 g2 g9 g10
    simp (disch:=first|omega|assumption) only [E0_G,SY,off,agreeKind,eq_self,if_true,Nat.reduceAdd,Nat.reduceLT,Nat.reduceBEq,store_refl E0_same,e2,e9] at he
    rcases dP ((i2:Int)=(b:Int)) with ⟨h4a,h4⟩|⟨h4a,h4⟩
    ·simp (disch:=first|omega|assumption) only [E0_G,SY,off,agreeKind,Nat.reduceLT,store_refl E0_same,h4a] at he
     exact .ret he (.inr ⟨rfl,o,true,by simp only [SY,eq_self,Nat.reduceBEq]<;>rfl,hs,(fun _=>by rw [show b=i2 by omega]; exact hr2),kp2,ow2⟩)
    have hst:(lget o i2)<(lget o (i2 - 1)):=by omega
    simp (disch:=first|omega|assumption) only [E0_G,SY,off,agreeKind,Nat.reduceAdd,Nat.reduceLT,Nat.reduceBEq,store_refl E0_same,e1,e2,h4a,w2] at he
    rcases dP (((b - a:Nat):Int)<50) with ⟨h5a,h5⟩|⟨h5a,h5⟩
    ·simp (disch:=first|omega|assumption) only [E0_G,SY,off,agreeKind,Nat.reduceLT,store_refl E0_same,h5a] at he
     exact .ret he (.inr ⟨rfl,o,false,by simp only [SY,eq_self,Nat.reduceBEq]<;>rfl,hs,(fun h=>by cases h),kp2,ow2⟩)
    have u1:IntKind.i64.wrap ((i2:Int) - 1)=((i2 - 1:Nat):Int):=by rw [IntWalk.i64_in]<;>omega
    have u2:IntKind.i64.wrap ((i2:Int)+1)=((i2+1:Nat):Int):=by rw [IntWalk.i64_in]<;>omega
    have u3:IntKind.i64.wrap ((i2:Int) - (a:Int))=((i2 - a:Nat):Int):=by rw [IntWalk.i64_in]<;>omega
    have u4:IntKind.i64.wrap ((b:Int) - (i2:Int))=((b - i2:Nat):Int):=by rw [IntWalk.i64_in]<;>omega
    have u5:IntKind.i64.wrap ((c:Int)+1)=((c+1:Nat):Int):=by rw [IntWalk.i64_in]<;>omega
    simp (disch:=first|omega|assumption) only [SY,store_refl E0_same,h5a] at he
    rw [code_draws _ _ _ (by kernel_rfl)] at he
    generalize hnd2:needy _=nd2 at he
    obtain ⟨loD,ltD,ccD,exD,hxD,hcD⟩:=own_cut ow2 hb
    obtain ⟨ofDj,hoDj,iaDj,pDj0⟩:=hcD ((i2 - 1)) (by omega)
    obtain ⟨ofDi,hoDi,iaDi,pDi0⟩:=hcD (i2) (by omega)
    obtain ⟨SxD,SyD,exD,eyD,owD,kpD,nxD⟩:=own_swp ow2 hb (i:=i2) (j:=(i2 - 1)) (by omega) (by omega) hoDi hoDj
    simp (disch:=first|omega|assumption) only [E0_G,SY,off,agreeKind,ldA,aggD,Nat.reduceAdd,Nat.reduceLT,Nat.reduceBEq,TY_EvO0,store_refl E0_same,e0,e1,e9,u1,u3,hxD,iaDj,pDj0,iaDi,pDi0,exD,eyD] at he
    have hs1:Sw a b l (swp o i2 (i2 - 1)):=Sw.step i2 (i2 - 1) hs (by omega) (by omega) (by omega) (by omega) hbl
    have hp1:=hpre.sw hs1
    have hl1:(swp o i2 (i2 - 1)).length=l.length:=hs1.len
    have hP1:∀ u w:Nat,a≤u→u<w→w≤i2 - 1→w≠i2 - 1→(lget (swp o i2 (i2 - 1)) u)≤(lget (swp o i2 (i2 - 1)) w):=by
     intro u w h1 h2 h3 h4
     rw [lget_swp _ _ _ _ (by omega) (by omega),lget_swp _ _ _ _ (by omega) (by omega),if_neg (by omega),if_neg (by omega),if_neg (by omega),if_neg (by omega)]
     exact hr2 u w h1 h2 (by omega)
    generalize swp o i2 (i2 - 1)=o1 at *
    have kp3:=kp2.trans kpD
    rcases dP ((2:Int)≤((i2 - a:Nat):Int)) with ⟨h6a,h6⟩|⟨h6a,h6⟩
    ·simp (disch:=first|omega|assumption) only [E0_G,SY,off,agreeKind,Nat.reduceAdd,Nat.reduceLT,Nat.reduceBEq,store_refl E0_same,e9,u1,h6a] at he
     generalize hL3:Rec.loop _ _ _ _=L3 at he
     obtain ⟨x3,t3,S3e,rfl,hQ3⟩:=loop_met hL3 (fun m t S'=>∃ (j:Nat) (p:List Int),m=j+1∧a≤j∧j≤i2 - 1∧Sw a b o1 p∧(∀ u w:Nat,a≤u→u<w→w≤i2 - 1→w≠j→(lget p u)≤(lget p w))∧t.get 0=some (v)∧t.get 1=some (.int .i64 (a:Int))∧t.get 2=some (.int .i64 (b:Int))∧t.get 7=some (.int .i64 (i2:Int))∧t.get 8=some (.int .i64 (c:Int))∧t.get 9=some (.int .i64 (j:Int))∧Keep v S S'∧Own 3 lo S' v p)
      (fun x t S'=>x=.exit 4∧∃ (p:List Int),Sw a b o1 p∧Srt a i2 p∧t.get 0=some (v)∧t.get 1=some (.int .i64 (a:Int))∧t.get 2=some (.int .i64 (b:Int))∧t.get 7=some (.int .i64 (i2:Int))∧t.get 8=some (.int .i64 (c:Int))∧Keep v S S'∧Own 3 lo S' v p) (i2 - 1+1)
      ⟨i2 - 1,o1,rfl,by omega,by omega,Sw.refl,hP1,by simp only [SY,eq_self,Nat.reduceBEq,e0]<;>rfl,by simp only [SY,eq_self,Nat.reduceBEq,e1]<;>rfl,by simp only [SY,eq_self,Nat.reduceBEq,e2]<;>rfl,by simp only [SY,eq_self,Nat.reduceBEq,e9]<;>rfl,by simp only [SY,eq_self,Nat.reduceBEq,e10]<;>rfl,by simp only [SY,eq_self,Nat.reduceBEq]<;>rfl,kp3,owD⟩ (by
       clear he hL3 hL1 hz e0 e1 e2 e9 e10
       rintro m t S3 ⟨j,p,hm3,hj3,hji3,hs3,hP3,f0,f1,f2,f9,f10,f11,kp4,ow3⟩
       refine .run fun z he=>?_
       have hlp:=hs3.len
       have hpp:=hp1.sw hs3
       have hii:i2 - 1+1=i2:=by omega
       simp (disch:=first|omega|assumption) only [E0_G,SY,off,agreeKind,Nat.reduceAdd,Nat.reduceLT,Nat.reduceBEq,store_refl E0_same,f11] at he
       rcases dP ((1:Int)≤(j:Int)) with ⟨h8a,h8⟩|⟨h8a,h8⟩
       ·have x1:IntKind.i64.wrap ((j:Int) - 1)=((j - 1:Nat):Int):=by rw [IntWalk.i64_in]<;>omega
        simp (disch:=first|omega|assumption) only [SY,store_refl E0_same,h8a] at he
        rw [code_draws _ _ _ (by kernel_rfl)] at he
        generalize hnd3:needy _=nd3 at he
        obtain ⟨loB,ltB,ccB,exB,hxB,hcB⟩:=own_cut ow3 hb
        obtain ⟨ofBx,hoBx,iaBx,pBx0⟩:=hcB (j) (by omega)
        obtain ⟨ofBy,hoBy,iaBy,pBy0⟩:=hcB (j - 1) (by omega)
        obtain ⟨SC,kC,aC⟩:=cL (lget p j) (lget p (j - 1)) S3
        have sC:E0.same S3 SC=true:=symEnv_same aC
        simp (disch:=first|omega|assumption) only [E0_G,SY,agreeKind,vals,ldA,aggD,Nat.reduceAdd,Nat.reduceLT,Nat.reduceBEq,TY_EvO0,store_agree,store_refl E0_same,f0,f11,x1,hxB,iaBx,pBx0,iaBy,pBy0,kC] at he
        rcases dP (cmpI (lget p j) (lget p (j - 1))<0) with ⟨h9a,h9⟩|⟨h9a,h9⟩
        ·simp (disch:=first|omega|assumption) only [SY,store_refl E0_same,h9a] at he
         rw [cmpI_lt] at h9
         have haj:a<j:=by
          rcases Nat.lt_or_ge a j with h|h
          ·exact h
          ·have e:j=a:=by omega
           subst e
           have:=hpp (by omega) j (Nat.le_refl _) (by omega)
           omega
         have ow5:=ow3.agree aC
         rw [code_draws _ _ _ (by kernel_rfl)] at he
         generalize hnd4:needy _=nd4 at he
         obtain ⟨loE,ltE,ccE,exE,hxE,hcE⟩:=own_cut ow5 hb
         obtain ⟨ofEj,hoEj,iaEj,pEj0⟩:=hcE ((j - 1)) (by omega)
         obtain ⟨ofEi,hoEi,iaEi,pEi0⟩:=hcE (j) (by omega)
         obtain ⟨SxE,SyE,exE,eyE,owE,kpE,nxE⟩:=own_swp ow5 hb (i:=j) (j:=(j - 1)) (by omega) (by omega) hoEi hoEj
         simp (disch:=first|omega|assumption) only [E0_G,SY,off,agreeKind,ldA,aggD,Nat.reduceAdd,Nat.reduceLT,Nat.reduceBEq,TY_EvO0,store_refl E0_same,f0,f11,x1,hxE,iaEj,pEj0,iaEi,pEi0,exE,eyE] at he
         exact .next he (m - 1) (by omega) ⟨j - 1,_,by omega,by omega,by omega,Sw.step j (j - 1) hs3 (by omega) (by omega) (by omega) (by omega) (by omega),ins_step haj hji3 (by omega) hP3 h9,by simp only [SY,eq_self,Nat.reduceBEq,f0]<;>rfl,by simp only [SY,eq_self,Nat.reduceBEq,f1]<;>rfl,by simp only [SY,eq_self,Nat.reduceBEq,f2]<;>rfl,by simp only [SY,eq_self,Nat.reduceBEq,f9]<;>rfl,by simp only [SY,eq_self,Nat.reduceBEq,f10]<;>rfl,by simp only [SY,eq_self,Nat.reduceBEq,f11]<;>rfl,(kp4.trans (Keep.of aC)).trans kpE,owE⟩
        simp (disch:=first|omega|assumption) only [SY,if_false,Nat.reduceEqDiff,store_refl E0_same,h9a] at he
        rw [cmpI_lt] at h9
        exact .exit he ⟨rfl,p,hs3,hii ▸ ins_stop hji3 hP3 (.inr h9),by simp only [SY,eq_self,Nat.reduceBEq,f0]<;>rfl,by simp only [SY,eq_self,Nat.reduceBEq,f1]<;>rfl,by simp only [SY,eq_self,Nat.reduceBEq,f2]<;>rfl,by simp only [SY,eq_self,Nat.reduceBEq,f9]<;>rfl,by simp only [SY,eq_self,Nat.reduceBEq,f10]<;>rfl,kp4.trans (Keep.of aC),ow3.agree aC⟩
       simp (disch:=first|omega|assumption) only [SY,store_refl E0_same,h8a] at he
       exact .exit he ⟨rfl,p,hs3,hii ▸ ins_stop hji3 hP3 (.inl (by omega)),by simp only [SY,eq_self,Nat.reduceBEq,f0]<;>rfl,by simp only [SY,eq_self,Nat.reduceBEq,f1]<;>rfl,by simp only [SY,eq_self,Nat.reduceBEq,f2]<;>rfl,by simp only [SY,eq_self,Nat.reduceBEq,f9]<;>rfl,by simp only [SY,eq_self,Nat.reduceBEq,f10]<;>rfl,kp4,ow3⟩)
     obtain ⟨rfl,o2,hs3,hr3,l0,l1,l2,l9,l10,kp4',ow3⟩:=hQ3
     simp (disch:=first|omega|assumption) only [E0_G,SY,off,agreeKind,eq_self,if_true,Nat.reduceAdd,Nat.reduceLT,Nat.reduceBEq,store_refl E0_same,l2,l9,u4] at he
     have hlo2:(o2).length=l.length:=((hs1.trans hs3)).len
     rcases dP ((2:Int)≤((b - i2:Nat):Int)) with ⟨h7a,h7⟩|⟨h7a,h7⟩
     ·simp (disch:=first|omega|assumption) only [E0_G,SY,off,agreeKind,Nat.reduceAdd,Nat.reduceLT,Nat.reduceBEq,store_refl E0_same,l9,u2,h7a] at he
      generalize hL4:Rec.loop _ _ _ _=L4 at he
      obtain ⟨x4,t4,S4e,rfl,hQ4⟩:=loop_met hL4 (fun m t S'=>∃ (j:Nat) (p:List Int),m+j=b+1∧i2+1≤j∧j≤b∧Sw i2 b o2 p∧t.get 0=some (v)∧t.get 1=some (.int .i64 (a:Int))∧t.get 2=some (.int .i64 (b:Int))∧t.get 7=some (.int .i64 (i2:Int))∧t.get 8=some (.int .i64 (c:Int))∧t.get 10=some (.int .i64 (j:Int))∧Keep v S S'∧Own 3 lo S' v p)
       (fun x t S'=>x=.exit 6∧∃ (p:List Int),Sw i2 b o2 p∧t.get 0=some (v)∧t.get 1=some (.int .i64 (a:Int))∧t.get 2=some (.int .i64 (b:Int))∧t.get 7=some (.int .i64 (i2:Int))∧t.get 8=some (.int .i64 (c:Int))∧Keep v S S'∧Own 3 lo S' v p) (b+1 - (i2+1))
       ⟨i2+1,o2,by omega,by omega,by omega,Sw.refl,by simp only [SY,eq_self,Nat.reduceBEq,l0]<;>rfl,by simp only [SY,eq_self,Nat.reduceBEq,l1]<;>rfl,by simp only [SY,eq_self,Nat.reduceBEq,l2]<;>rfl,by simp only [SY,eq_self,Nat.reduceBEq,l9]<;>rfl,by simp only [SY,eq_self,Nat.reduceBEq,l10]<;>rfl,by simp only [SY,eq_self,Nat.reduceBEq]<;>rfl,kp4',ow3⟩ (by
        clear he hL4 hL1 hz l0 l1 l2 l9 l10
        rintro m t S4 ⟨j,p,hm4,hj4,hjb4,hs4,f0,f1,f2,f9,f10,f12,kp4,ow4⟩
        refine .run fun z he=>?_
        have hlp:=hs4.len
        simp (disch:=first|omega|assumption) only [E0_G,SY,off,agreeKind,Nat.reduceAdd,Nat.reduceLT,Nat.reduceBEq,store_refl E0_same,f2,f12] at he
        rcases dP ((j:Int)<(b:Int)) with ⟨h8a,h8⟩|⟨h8a,h8⟩
        ·have x1:IntKind.i64.wrap ((j:Int) - 1)=((j - 1:Nat):Int):=by rw [IntWalk.i64_in]<;>omega
         have x2:IntKind.i64.wrap ((j:Int)+1)=((j+1:Nat):Int):=by rw [IntWalk.i64_in]<;>omega
         simp (disch:=first|omega|assumption) only [SY,store_refl E0_same,h8a] at he
         rw [code_draws _ _ _ (by kernel_rfl)] at he
         generalize hnd5:needy _=nd5 at he
         obtain ⟨loB,ltB,ccB,exB,hxB,hcB⟩:=own_cut ow4 hb
         obtain ⟨ofBx,hoBx,iaBx,pBx0⟩:=hcB (j) (by omega)
         obtain ⟨ofBy,hoBy,iaBy,pBy0⟩:=hcB (j - 1) (by omega)
         obtain ⟨SC,kC,aC⟩:=cL (lget p j) (lget p (j - 1)) S4
         have sC:E0.same S4 SC=true:=symEnv_same aC
         simp (disch:=first|omega|assumption) only [E0_G,SY,agreeKind,vals,ldA,aggD,Nat.reduceAdd,Nat.reduceLT,Nat.reduceBEq,TY_EvO0,store_agree,store_refl E0_same,f0,f12,x1,hxB,iaBx,pBx0,iaBy,pBy0,kC] at he
         rcases dP (cmpI (lget p j) (lget p (j - 1))<0) with ⟨h9a,h9⟩|⟨h9a,h9⟩
         ·simp (disch:=first|omega|assumption) only [SY,store_refl E0_same,h9a] at he
          have ow5:=ow4.agree aC
          rw [code_draws _ _ _ (by kernel_rfl)] at he
          generalize hnd6:needy _=nd6 at he
          obtain ⟨loE,ltE,ccE,exE,hxE,hcE⟩:=own_cut ow5 hb
          obtain ⟨ofEj,hoEj,iaEj,pEj0⟩:=hcE ((j - 1)) (by omega)
          obtain ⟨ofEi,hoEi,iaEi,pEi0⟩:=hcE (j) (by omega)
          obtain ⟨SxE,SyE,exE,eyE,owE,kpE,nxE⟩:=own_swp ow5 hb (i:=j) (j:=(j - 1)) (by omega) (by omega) hoEi hoEj
          simp (disch:=first|omega|assumption) only [E0_G,SY,off,agreeKind,ldA,aggD,Nat.reduceAdd,Nat.reduceLT,Nat.reduceBEq,TY_EvO0,store_refl E0_same,f0,f12,x1,x2,hxE,iaEj,pEj0,iaEi,pEi0,exE,eyE] at he
          exact .next he (m - 1) (by omega) ⟨j+1,_,by omega,by omega,by omega,Sw.step j (j - 1) hs4 (by omega) (by omega) (by omega) (by omega) (by omega),by simp only [SY,eq_self,Nat.reduceBEq,f0]<;>rfl,by simp only [SY,eq_self,Nat.reduceBEq,f1]<;>rfl,by simp only [SY,eq_self,Nat.reduceBEq,f2]<;>rfl,by simp only [SY,eq_self,Nat.reduceBEq,f9]<;>rfl,by simp only [SY,eq_self,Nat.reduceBEq,f10]<;>rfl,by simp only [SY,eq_self,Nat.reduceBEq,f12]<;>rfl,(kp4.trans (Keep.of aC)).trans kpE,owE⟩
         simp (disch:=first|omega|assumption) only [SY,if_false,Nat.reduceEqDiff,store_refl E0_same,h9a] at he
         exact .exit he ⟨rfl,p,hs4,by simp only [SY,eq_self,Nat.reduceBEq,f0]<;>rfl,by simp only [SY,eq_self,Nat.reduceBEq,f1]<;>rfl,by simp only [SY,eq_self,Nat.reduceBEq,f2]<;>rfl,by simp only [SY,eq_self,Nat.reduceBEq,f9]<;>rfl,by simp only [SY,eq_self,Nat.reduceBEq,f10]<;>rfl,kp4.trans (Keep.of aC),ow4.agree aC⟩
        simp (disch:=first|omega|assumption) only [SY,store_refl E0_same,h8a] at he
        exact .exit he ⟨rfl,p,hs4,by simp only [SY,eq_self,Nat.reduceBEq,f0]<;>rfl,by simp only [SY,eq_self,Nat.reduceBEq,f1]<;>rfl,by simp only [SY,eq_self,Nat.reduceBEq,f2]<;>rfl,by simp only [SY,eq_self,Nat.reduceBEq,f9]<;>rfl,by simp only [SY,eq_self,Nat.reduceBEq,f10]<;>rfl,kp4,ow4⟩)
      obtain ⟨rfl,p,hs4,k0,k1,k2,k9,k10,kp4,ow4⟩:=hQ4
      simp (disch:=first|omega|assumption) only [E0_G,SY,off,agreeKind,eq_self,if_true,Nat.reduceAdd,Nat.reduceLT,Nat.reduceBEq,store_refl E0_same,k10,u5] at he
      exact .next he (m - 1) (by omega) ⟨i2,c+1,p,by omega,by omega,hi2,hib2,((hs1.trans hs3)).trans (hs4.mono (by omega) (Nat.le_refl _) (by omega)),(fun u w h1 h2 h3'=>by rw [hs4.out u (by omega),hs4.out w (by omega)]; exact hr3 u w h1 h2 h3'),by simp only [SY,eq_self,Nat.reduceBEq,k0]<;>rfl,by simp only [SY,eq_self,Nat.reduceBEq,k1]<;>rfl,by simp only [SY,eq_self,Nat.reduceBEq,k2]<;>rfl,by simp only [SY,eq_self,Nat.reduceBEq,k9]<;>rfl,by simp only [SY,eq_self,Nat.reduceBEq,k10]<;>rfl,kp4,ow4⟩
     simp (disch:=first|omega|assumption) only [E0_G,SY,off,agreeKind,Nat.reduceAdd,Nat.reduceLT,Nat.reduceBEq,store_refl E0_same,l10,u5,h7a] at he
     exact .next he (m - 1) (by omega) ⟨i2,c+1,o2,by omega,by omega,hi2,hib2,(hs1.trans hs3),hr3,by simp only [SY,eq_self,Nat.reduceBEq,l0]<;>rfl,by simp only [SY,eq_self,Nat.reduceBEq,l1]<;>rfl,by simp only [SY,eq_self,Nat.reduceBEq,l2]<;>rfl,by simp only [SY,eq_self,Nat.reduceBEq,l9]<;>rfl,by simp only [SY,eq_self,Nat.reduceBEq,l10]<;>rfl,kp4',ow3⟩
    simp (disch:=first|omega|assumption) only [E0_G,SY,off,agreeKind,Nat.reduceAdd,Nat.reduceLT,Nat.reduceBEq,store_refl E0_same,e2,e9,u4,h6a] at he
    have hlo2:(o1).length=l.length:=(hs1).len
    rcases dP ((2:Int)≤((b - i2:Nat):Int)) with ⟨h7a,h7⟩|⟨h7a,h7⟩
    ·simp (disch:=first|omega|assumption) only [E0_G,SY,off,agreeKind,Nat.reduceAdd,Nat.reduceLT,Nat.reduceBEq,store_refl E0_same,e9,u2,h7a] at he
     generalize hL4:Rec.loop _ _ _ _=L4 at he
     obtain ⟨x4,t4,S4e,rfl,hQ4⟩:=loop_met hL4 (fun m t S'=>∃ (j:Nat) (p:List Int),m+j=b+1∧i2+1≤j∧j≤b∧Sw i2 b o1 p∧t.get 0=some (v)∧t.get 1=some (.int .i64 (a:Int))∧t.get 2=some (.int .i64 (b:Int))∧t.get 7=some (.int .i64 (i2:Int))∧t.get 8=some (.int .i64 (c:Int))∧t.get 10=some (.int .i64 (j:Int))∧Keep v S S'∧Own 3 lo S' v p)
      (fun x t S'=>x=.exit 6∧∃ (p:List Int),Sw i2 b o1 p∧t.get 0=some (v)∧t.get 1=some (.int .i64 (a:Int))∧t.get 2=some (.int .i64 (b:Int))∧t.get 7=some (.int .i64 (i2:Int))∧t.get 8=some (.int .i64 (c:Int))∧Keep v S S'∧Own 3 lo S' v p) (b+1 - (i2+1))
      ⟨i2+1,o1,by omega,by omega,by omega,Sw.refl,by simp only [SY,eq_self,Nat.reduceBEq,e0]<;>rfl,by simp only [SY,eq_self,Nat.reduceBEq,e1]<;>rfl,by simp only [SY,eq_self,Nat.reduceBEq,e2]<;>rfl,by simp only [SY,eq_self,Nat.reduceBEq,e9]<;>rfl,by simp only [SY,eq_self,Nat.reduceBEq,e10]<;>rfl,by simp only [SY,eq_self,Nat.reduceBEq]<;>rfl,kp3,owD⟩ (by
       clear he hL4 hL1 hz e0 e1 e2 e9 e10
       rintro m t S4 ⟨j,p,hm4,hj4,hjb4,hs4,f0,f1,f2,f9,f10,f12,kp4,ow4⟩
       refine .run fun z he=>?_
       have hlp:=hs4.len
       simp (disch:=first|omega|assumption) only [E0_G,SY,off,agreeKind,Nat.reduceAdd,Nat.reduceLT,Nat.reduceBEq,store_refl E0_same,f2,f12] at he
       rcases dP ((j:Int)<(b:Int)) with ⟨h8a,h8⟩|⟨h8a,h8⟩
       ·have x1:IntKind.i64.wrap ((j:Int) - 1)=((j - 1:Nat):Int):=by rw [IntWalk.i64_in]<;>omega
        have x2:IntKind.i64.wrap ((j:Int)+1)=((j+1:Nat):Int):=by rw [IntWalk.i64_in]<;>omega
        simp (disch:=first|omega|assumption) only [SY,store_refl E0_same,h8a] at he
        rw [code_draws _ _ _ (by kernel_rfl)] at he
        generalize hnd7:needy _=nd7 at he
        obtain ⟨loB,ltB,ccB,exB,hxB,hcB⟩:=own_cut ow4 hb
        obtain ⟨ofBx,hoBx,iaBx,pBx0⟩:=hcB (j) (by omega)
        obtain ⟨ofBy,hoBy,iaBy,pBy0⟩:=hcB (j - 1) (by omega)
        obtain ⟨SC,kC,aC⟩:=cL (lget p j) (lget p (j - 1)) S4
        have sC:E0.same S4 SC=true:=symEnv_same aC
        simp (disch:=first|omega|assumption) only [E0_G,SY,agreeKind,vals,ldA,aggD,Nat.reduceAdd,Nat.reduceLT,Nat.reduceBEq,TY_EvO0,store_agree,store_refl E0_same,f0,f12,x1,hxB,iaBx,pBx0,iaBy,pBy0,kC] at he
        rcases dP (cmpI (lget p j) (lget p (j - 1))<0) with ⟨h9a,h9⟩|⟨h9a,h9⟩
        ·simp (disch:=first|omega|assumption) only [SY,store_refl E0_same,h9a] at he
         have ow5:=ow4.agree aC
         rw [code_draws _ _ _ (by kernel_rfl)] at he
         generalize hnd8:needy _=nd8 at he
         obtain ⟨loE,ltE,ccE,exE,hxE,hcE⟩:=own_cut ow5 hb
         obtain ⟨ofEj,hoEj,iaEj,pEj0⟩:=hcE ((j - 1)) (by omega)
         obtain ⟨ofEi,hoEi,iaEi,pEi0⟩:=hcE (j) (by omega)
         obtain ⟨SxE,SyE,exE,eyE,owE,kpE,nxE⟩:=own_swp ow5 hb (i:=j) (j:=(j - 1)) (by omega) (by omega) hoEi hoEj
         simp (disch:=first|omega|assumption) only [E0_G,SY,off,agreeKind,ldA,aggD,Nat.reduceAdd,Nat.reduceLT,Nat.reduceBEq,TY_EvO0,store_refl E0_same,f0,f12,x1,x2,hxE,iaEj,pEj0,iaEi,pEi0,exE,eyE] at he
         exact .next he (m - 1) (by omega) ⟨j+1,_,by omega,by omega,by omega,Sw.step j (j - 1) hs4 (by omega) (by omega) (by omega) (by omega) (by omega),by simp only [SY,eq_self,Nat.reduceBEq,f0]<;>rfl,by simp only [SY,eq_self,Nat.reduceBEq,f1]<;>rfl,by simp only [SY,eq_self,Nat.reduceBEq,f2]<;>rfl,by simp only [SY,eq_self,Nat.reduceBEq,f9]<;>rfl,by simp only [SY,eq_self,Nat.reduceBEq,f10]<;>rfl,by simp only [SY,eq_self,Nat.reduceBEq,f12]<;>rfl,(kp4.trans (Keep.of aC)).trans kpE,owE⟩
        simp (disch:=first|omega|assumption) only [SY,if_false,Nat.reduceEqDiff,store_refl E0_same,h9a] at he
        exact .exit he ⟨rfl,p,hs4,by simp only [SY,eq_self,Nat.reduceBEq,f0]<;>rfl,by simp only [SY,eq_self,Nat.reduceBEq,f1]<;>rfl,by simp only [SY,eq_self,Nat.reduceBEq,f2]<;>rfl,by simp only [SY,eq_self,Nat.reduceBEq,f9]<;>rfl,by simp only [SY,eq_self,Nat.reduceBEq,f10]<;>rfl,kp4.trans (Keep.of aC),ow4.agree aC⟩
       simp (disch:=first|omega|assumption) only [SY,store_refl E0_same,h8a] at he
       exact .exit he ⟨rfl,p,hs4,by simp only [SY,eq_self,Nat.reduceBEq,f0]<;>rfl,by simp only [SY,eq_self,Nat.reduceBEq,f1]<;>rfl,by simp only [SY,eq_self,Nat.reduceBEq,f2]<;>rfl,by simp only [SY,eq_self,Nat.reduceBEq,f9]<;>rfl,by simp only [SY,eq_self,Nat.reduceBEq,f10]<;>rfl,kp4,ow4⟩)
     obtain ⟨rfl,p,hs4,k0,k1,k2,k9,k10,kp4,ow4⟩:=hQ4
     simp (disch:=first|omega|assumption) only [E0_G,SY,off,agreeKind,eq_self,if_true,Nat.reduceAdd,Nat.reduceLT,Nat.reduceBEq,store_refl E0_same,k10,u5] at he
     exact .next he (m - 1) (by omega) ⟨i2,c+1,p,by omega,by omega,hi2,hib2,(hs1).trans (hs4.mono (by omega) (Nat.le_refl _) (by omega)),(fun u w h1 h2 h3'=>by rw [hs4.out u (by omega),hs4.out w (by omega)]; exact (Srt.small (by omega)) u w h1 h2 h3'),by simp only [SY,eq_self,Nat.reduceBEq,k0]<;>rfl,by simp only [SY,eq_self,Nat.reduceBEq,k1]<;>rfl,by simp only [SY,eq_self,Nat.reduceBEq,k2]<;>rfl,by simp only [SY,eq_self,Nat.reduceBEq,k9]<;>rfl,by simp only [SY,eq_self,Nat.reduceBEq,k10]<;>rfl,kp4,ow4⟩
    simp (disch:=first|omega|assumption) only [E0_G,SY,off,agreeKind,Nat.reduceAdd,Nat.reduceLT,Nat.reduceBEq,store_refl E0_same,e10,u5,h7a] at he
    exact .next he (m - 1) (by omega) ⟨i2,c+1,o1,by omega,by omega,hi2,hib2,hs1,(Srt.small (by omega)),by simp only [SY,eq_self,Nat.reduceBEq,e0]<;>rfl,by simp only [SY,eq_self,Nat.reduceBEq,e1]<;>rfl,by simp only [SY,eq_self,Nat.reduceBEq,e2]<;>rfl,by simp only [SY,eq_self,Nat.reduceBEq,e9]<;>rfl,by simp only [SY,eq_self,Nat.reduceBEq,e10]<;>rfl,kp3,owD⟩
   simp (disch:=first|omega|assumption) only [SY,store_refl E0_same,h3a] at he
   exact .exit he (.inl ⟨rfl,o,hs,kp,ow⟩))
 rcases hQ1 with ⟨rfl,o,hs,kp,ow⟩|⟨rfl,o,y,g8,hs,hr,kp,ow⟩
 ·simp (disch:=first|omega|assumption) only [E0_G,SY,off,agreeKind,eq_self,if_true,Nat.reduceLT,Nat.reduceBEq,store_refl E0_same] at hz
  exact ⟨_,o,false,hz.symm,kp,ow,hs,fun h=>by cases h⟩
 simp (disch:=first|omega|assumption) only [SY,store_refl E0_same,g8] at hz
 exact ⟨_,o,y,hz.symm,kp,ow,hs,hr⟩
end Clock
end Go.Proofs
end
