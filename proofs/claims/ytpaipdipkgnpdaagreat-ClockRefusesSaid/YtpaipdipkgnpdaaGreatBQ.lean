import Derived.Test.YtpaipdipkgnpdaaGreatBP
section
set_option linter.unusedSimpArgs false
set_option linter.unusedVariables false
namespace Go.Proofs
namespace Clock
open Go Go.RowKit Go.Aev
set_option maxRecDepth 100000
def Hp (f n hi:Nat) (l:List Int):Prop:=∀ k c:Nat,n≤k→(c=2 * k+1∨c=2 * k+2)→c<hi→(lget l (f+c))≤(lget l (f+k))
structure Hr (f n hi r:Nat) (l:List Int):Prop where
 heap:∀ k c:Nat,n≤k→k≠r→(c=2 * k+1∨c=2 * k+2)→c<hi→(lget l (f+c))≤(lget l (f+k))
 up:∀ p c:Nat,n≤p→(r=2 * p+1∨r=2 * p+2)→(c=2 * r+1∨c=2 * r+2)→c<hi→(lget l (f+c))≤(lget l (f+p))
theorem Hr.init {f n hi:Nat} {l:List Int} (h:Hp f (n+1) hi l):Hr f n hi n l :=
 ⟨fun k c h1 h2 h3 h4=>h k c (by omega) h3 h4,fun p c h1 h2=>by omega⟩
theorem Hr.stop {f n hi r:Nat} {l:List Int} (h:Hr f n hi r l) (hr:∀ c:Nat,(c=2 * r+1∨c=2 * r+2)→c<hi→(lget l (f+c))≤(lget l (f+r))):Hp f n hi l:=by
 intro k c h1 h2 h3
 by_cases e:k=r
 ·subst e; exact hr c h2 h3
 ·exact h.heap k c h1 e h2 h3
theorem Hr.go {f n hi r d:Nat} {l:List Int} (h:Hr f n hi r l) (hn:n≤r) (hd:d=2 * r+1∨d=2 * r+2) (hdh:d<hi) (hl:f+hi≤l.length) (hlt:(lget l (f+r))<(lget l (f+d)))
  (hmax:∀ c:Nat,(c=2 * r+1∨c=2 * r+2)→c<hi→(lget l (f+c))≤(lget l (f+d))):Hr f n hi d (swp l (f+r) (f+d)):=by
 have g:=fun q=>lget_swp l (f+r) (f+d) q (by omega) (by omega)
 constructor
 ·intro k c h1 h2 h3 h4
  rw [g,g,if_neg (show ¬ f+d=f+k by omega)]
  by_cases e1:f+r=f+k
  ·rw [if_pos e1]
   by_cases e2:f+d=f+c
   ·rw [if_pos e2]; omega
   ·rw [if_neg e2,if_neg (by omega)]
    exact hmax c (by omega) h4
  ·rw [if_neg e1,if_neg (show ¬ f+d=f+c by omega)]
   by_cases e2:f+r=f+c
   ·rw [if_pos e2]; exact h.up k d h1 (by omega) hd hdh
   ·rw [if_neg e2]; exact h.heap k c h1 (by omega) h3 h4
 ·intro p c h1 h2 h3 h4
  have hp:p=r:=by omega
  subst hp
  rw [g,g,if_neg (show ¬ f+d=f+c by omega),if_neg (show ¬ f+p=f+c by omega),if_neg (show ¬ f+d=f+p by omega),if_pos rfl]
  exact h.heap d c (by omega) (by omega) h3 h4
set_option maxHeartbeats 8000000 in
theorem c194 (l:List Int) (hn:l.length≤1000) (lo:Nat) (S:AS) (v:Value) (ho:Own 3 lo S v l) (id:Nat) (hb:blkOf v=some id) (n hi f:Nat) (hfl:f+hi≤l.length) (hnh:n≤1000) (hH:Hp f (n+1) hi l) :
  ∃ S' l',(evL Tryz.prog E0).call 194 #[v,.int .i64 (n:Int),.int .i64 (hi:Int),.int .i64 (f:Int)] S=some (.tuple #[],S')∧Keep v S S'∧Own 3 lo S' v l'∧Sw f (f+hi) l l'∧Hp f n hi l':=by
 generalize hz:(evL Tryz.prog E0).call 194 _ _=z
 rw [L_call,evCall_said rfl Tryz.func194 rfl (by decide) Tryz.ntmps194 Tryz.results194] at hz
 simp (disch:=first|omega|assumption) only [E0_G,SY,setArgs,off,agreeKind,Nat.reduceAdd,Nat.reduceSub,Nat.reduceLT,Nat.reduceBEq] at hz
 generalize hL1:Rec.loop _ _ _ _=L1 at hz
 obtain ⟨x1,t1,S1e,rfl,hQ1⟩:=loop_met hL1 (fun m t S'=>∃ (r:Nat) (o:List Int),m+r=n+hi+1∧n≤r∧(r=n∨r<hi)∧Sw f (f+hi) l o∧Hr f n hi r o∧t.get 0=some (v)∧t.get 1=some (.int .i64 (n:Int))∧t.get 2=some (.int .i64 (hi:Int))∧t.get 3=some (.int .i64 (f:Int))∧t.get 8=some (.int .i64 (r:Int))∧Keep v S S'∧Own 3 lo S' v o)
  (fun x t S'=>(x=.exit 0∨x=.ret)∧∃ (o:List Int),Sw f (f+hi) l o∧Hp f n hi o∧Keep v S S'∧Own 3 lo S' v o) (hi+1)
  ⟨n,l,by omega,by omega,by omega,Sw.refl,Hr.init hH,by simp only [SY,eq_self,Nat.reduceBEq]<;>rfl,by simp only [SY,eq_self,Nat.reduceBEq]<;>rfl,by simp only [SY,eq_self,Nat.reduceBEq]<;>rfl,by simp only [SY,eq_self,Nat.reduceBEq]<;>rfl,by simp only [SY,eq_self,Nat.reduceBEq]<;>rfl,Keep.refl v S,ho⟩ (by
   rintro m t S1 ⟨r,o,hm,hnr,hrr,hs,hr,g0,g1,g2,g3,g10,kp,ow⟩
   refine .run fun z he=>?_
   have hlo:=hs.len
   have w1:IntKind.i64.wrap ((2:Int) * (r:Int))=((2 * r:Nat):Int):=by rw [IntWalk.i64_in]<;>omega
   have w2:IntKind.i64.wrap (((2 * r:Nat):Int)+1)=((2 * r+1:Nat):Int):=by rw [IntWalk.i64_in]<;>omega
   simp (disch:=first|omega|assumption) only [E0_G,SY,off,agreeKind,Nat.reduceAdd,Nat.reduceLT,Nat.reduceBEq,store_refl E0_same,g2,g10,w1,w2] at he
   rcases dP ((hi:Int)≤((2 * r+1:Nat):Int)) with ⟨h3a,h3⟩|⟨h3a,h3⟩
   ·simp (disch:=first|omega|assumption) only [SY,if_false,reduceCtorEq,store_refl E0_same,h3a] at he
    exact .exit he ⟨.inl rfl,o,hs,hr.stop (fun c h1 h2=>by omega),kp,ow⟩
   simp (disch:=first|omega|assumption) only [SY,store_refl E0_same,h3a] at he
   rw [code_draws _ _ _ (by kernel_rfl)] at he
   generalize hnd1:needy _=nd1 at he
   have w3:IntKind.i64.wrap (((2 * r+1:Nat):Int)+1)=((2 * r+2:Nat):Int):=by rw [IntWalk.i64_in]<;>omega
   rcases dP (((2 * r+2:Nat):Int)<(hi:Int)) with ⟨h4a,h4⟩|⟨h4a,h4⟩
   ·have u1:IntKind.i64.wrap ((f:Int)+((2 * r+1:Nat):Int))=((f+(2 * r+1):Nat):Int):=by rw [IntWalk.i64_in]<;>omega
    have u2:IntKind.i64.wrap (((f+(2 * r+1):Nat):Int)+1)=((f+(2 * r+2):Nat):Int):=by rw [IntWalk.i64_in]<;>omega
    obtain ⟨loB,ltB,ccB,exB,hxB,hcB⟩:=own_cut ow hb
    obtain ⟨ofBx,hoBx,iaBx,pBx0⟩:=hcB (f+(2 * r+1)) (by omega)
    obtain ⟨ofBy,hoBy,iaBy,pBy0⟩:=hcB (f+(2 * r+2)) (by omega)
    obtain ⟨SC,kC,aC⟩:=cL (lget o (f+(2 * r+1))) (lget o (f+(2 * r+2))) S1
    have sC:E0.same S1 SC=true:=symEnv_same aC
    simp (disch:=first|omega|assumption) only [E0_G,SY,agreeKind,vals,ldA,aggD,Nat.reduceAdd,Nat.reduceLT,Nat.reduceBEq,TY_EvO0,store_agree,store_refl E0_same,g0,g2,g3,w3,h4a,u1,u2,hxB,iaBx,pBx0,iaBy,pBy0,kC] at he
    rcases dP (cmpI (lget o (f+(2 * r+1))) (lget o (f+(2 * r+2)))<0) with ⟨h5a,h5⟩|⟨h5a,h5⟩
    ·simp (disch:=first|omega|assumption) only [E0_G,SY,off,agreeKind,Nat.reduceAdd,Nat.reduceLT,Nat.reduceBEq,store_refl E0_same,w3,h5a] at he
     rw [cmpI_lt] at h5
     have owC:=ow.agree aC
     have kpC:=kp.trans (Keep.of aC)
     have v1:IntKind.i64.wrap ((f:Int)+(r:Int))=((f+r:Nat):Int):=by rw [IntWalk.i64_in]<;>omega
     have v2:IntKind.i64.wrap ((f:Int)+((2 * r+2:Nat):Int))=((f+(2 * r+2):Nat):Int):=by rw [IntWalk.i64_in]<;>omega
     have hmx:∀ c:Nat,(c=2 * r+1∨c=2 * r+2)→c<hi→(lget o (f+c))≤(lget o (f+(2 * r+2))):=(fun c h1 h2=>by rcases h1 with h1|h1<;>subst h1<;>omega)
     rw [code_draws _ _ _ (by kernel_rfl)] at he
     generalize hnd2:needy _=nd2 at he
     obtain ⟨loP,ltP,ccP,exP,hxP,hcP⟩:=own_cut owC hb
     obtain ⟨ofPx,hoPx,iaPx,pPx0⟩:=hcP (f+r) (by omega)
     obtain ⟨ofPy,hoPy,iaPy,pPy0⟩:=hcP (f+(2 * r+2)) (by omega)
     obtain ⟨SQ,kQ,aQ⟩:=cL (lget o (f+r)) (lget o (f+(2 * r+2))) SC
     have sQ:E0.same SC SQ=true:=symEnv_same aQ
     simp (disch:=first|omega|assumption) only [E0_G,SY,agreeKind,vals,ldA,aggD,Nat.reduceAdd,Nat.reduceLT,Nat.reduceBEq,TY_EvO0,store_agree,store_refl E0_same,g0,g3,g10,v1,v2,hxP,iaPx,pPx0,iaPy,pPy0,kQ] at he
     rcases dP (cmpI (lget o (f+r)) (lget o (f+(2 * r+2)))<0) with ⟨h7a,h7⟩|⟨h7a,h7⟩
     ·simp (disch:=first|omega|assumption) only [SY,store_refl E0_same,h7a] at he
      have ow3:=owC.agree aQ
      rw [code_draws _ _ _ (by kernel_rfl)] at he
      generalize hnd3:needy _=nd3 at he
      obtain ⟨loD,ltD,ccD,exD,hxD,hcD⟩:=own_cut ow3 hb
      obtain ⟨ofDj,hoDj,iaDj,pDj0⟩:=hcD ((f+(2 * r+2))) (by omega)
      obtain ⟨ofDi,hoDi,iaDi,pDi0⟩:=hcD ((f+r)) (by omega)
      obtain ⟨SxD,SyD,exD,eyD,owD,kpD,nxD⟩:=own_swp ow3 hb (i:=(f+r)) (j:=(f+(2 * r+2))) (by omega) (by omega) hoDi hoDj
      simp (disch:=first|omega|assumption) only [E0_G,SY,off,agreeKind,ldA,aggD,Nat.reduceAdd,Nat.reduceLT,Nat.reduceBEq,TY_EvO0,store_refl E0_same,g0,g3,g10,v1,v2,hxD,iaDj,pDj0,iaDi,pDi0,exD,eyD] at he
      rw [cmpI_lt] at h7
      exact .next he (n+hi+1 - (2 * r+2)) (by omega) ⟨2 * r+2,_,by omega,by omega,by omega,Sw.step (f+r) (f+(2 * r+2)) hs (by omega) (by omega) (by omega) (by omega) hfl,hr.go hnr (by omega) (by omega) (by omega) h7 hmx,by simp only [SY,eq_self,Nat.reduceBEq,g0]<;>rfl,by simp only [SY,eq_self,Nat.reduceBEq,g1]<;>rfl,by simp only [SY,eq_self,Nat.reduceBEq,g2]<;>rfl,by simp only [SY,eq_self,Nat.reduceBEq,g3]<;>rfl,by simp only [SY,eq_self,Nat.reduceBEq,g10]<;>rfl,(kpC.trans (Keep.of aQ)).trans kpD,owD⟩
     simp (disch:=first|omega|assumption) only [SY,store_refl E0_same,h7a] at he
     rw [cmpI_lt] at h7
     exact .ret he ⟨.inr rfl,o,hs,hr.stop (fun c h1 h2=>by have:=hmx c h1 h2; omega),kpC.trans (Keep.of aQ),owC.agree aQ⟩
    simp (disch:=first|omega|assumption) only [SY,store_refl E0_same,h5a] at he
    rw [cmpI_lt] at h5
    have owC:=ow.agree aC
    have kpC:=kp.trans (Keep.of aC)
    have v1:IntKind.i64.wrap ((f:Int)+(r:Int))=((f+r:Nat):Int):=by rw [IntWalk.i64_in]<;>omega
    have v2:IntKind.i64.wrap ((f:Int)+((2 * r+1:Nat):Int))=((f+(2 * r+1):Nat):Int):=by rw [IntWalk.i64_in]<;>omega
    have hmx:∀ c:Nat,(c=2 * r+1∨c=2 * r+2)→c<hi→(lget o (f+c))≤(lget o (f+(2 * r+1))):=(fun c h1 h2=>by rcases h1 with h1|h1<;>subst h1<;>omega)
    rw [code_draws _ _ _ (by kernel_rfl)] at he
    generalize hnd4:needy _=nd4 at he
    obtain ⟨loP,ltP,ccP,exP,hxP,hcP⟩:=own_cut owC hb
    obtain ⟨ofPx,hoPx,iaPx,pPx0⟩:=hcP (f+r) (by omega)
    obtain ⟨ofPy,hoPy,iaPy,pPy0⟩:=hcP (f+(2 * r+1)) (by omega)
    obtain ⟨SQ,kQ,aQ⟩:=cL (lget o (f+r)) (lget o (f+(2 * r+1))) SC
    have sQ:E0.same SC SQ=true:=symEnv_same aQ
    simp (disch:=first|omega|assumption) only [E0_G,SY,agreeKind,vals,ldA,aggD,Nat.reduceAdd,Nat.reduceLT,Nat.reduceBEq,TY_EvO0,store_agree,store_refl E0_same,g0,g3,g10,v1,v2,hxP,iaPx,pPx0,iaPy,pPy0,kQ] at he
    rcases dP (cmpI (lget o (f+r)) (lget o (f+(2 * r+1)))<0) with ⟨h7a,h7⟩|⟨h7a,h7⟩
    ·simp (disch:=first|omega|assumption) only [SY,store_refl E0_same,h7a] at he
     have ow3:=owC.agree aQ
     rw [code_draws _ _ _ (by kernel_rfl)] at he
     generalize hnd5:needy _=nd5 at he
     obtain ⟨loD,ltD,ccD,exD,hxD,hcD⟩:=own_cut ow3 hb
     obtain ⟨ofDj,hoDj,iaDj,pDj0⟩:=hcD ((f+(2 * r+1))) (by omega)
     obtain ⟨ofDi,hoDi,iaDi,pDi0⟩:=hcD ((f+r)) (by omega)
     obtain ⟨SxD,SyD,exD,eyD,owD,kpD,nxD⟩:=own_swp ow3 hb (i:=(f+r)) (j:=(f+(2 * r+1))) (by omega) (by omega) hoDi hoDj
     simp (disch:=first|omega|assumption) only [E0_G,SY,off,agreeKind,ldA,aggD,Nat.reduceAdd,Nat.reduceLT,Nat.reduceBEq,TY_EvO0,store_refl E0_same,g0,g3,g10,v1,v2,hxD,iaDj,pDj0,iaDi,pDi0,exD,eyD] at he
     rw [cmpI_lt] at h7
     exact .next he (n+hi+1 - (2 * r+1)) (by omega) ⟨2 * r+1,_,by omega,by omega,by omega,Sw.step (f+r) (f+(2 * r+1)) hs (by omega) (by omega) (by omega) (by omega) hfl,hr.go hnr (by omega) (by omega) (by omega) h7 hmx,by simp only [SY,eq_self,Nat.reduceBEq,g0]<;>rfl,by simp only [SY,eq_self,Nat.reduceBEq,g1]<;>rfl,by simp only [SY,eq_self,Nat.reduceBEq,g2]<;>rfl,by simp only [SY,eq_self,Nat.reduceBEq,g3]<;>rfl,by simp only [SY,eq_self,Nat.reduceBEq,g10]<;>rfl,(kpC.trans (Keep.of aQ)).trans kpD,owD⟩
    simp (disch:=first|omega|assumption) only [SY,store_refl E0_same,h7a] at he
    rw [cmpI_lt] at h7
    exact .ret he ⟨.inr rfl,o,hs,hr.stop (fun c h1 h2=>by have:=hmx c h1 h2; omega),kpC.trans (Keep.of aQ),owC.agree aQ⟩
   simp (disch:=first|omega|assumption) only [E0_G,SY,agreeKind,Nat.reduceAdd,Nat.reduceLT,Nat.reduceBEq,store_refl E0_same,g2,w3,h4a] at he
   have v1:IntKind.i64.wrap ((f:Int)+(r:Int))=((f+r:Nat):Int):=by rw [IntWalk.i64_in]<;>omega
   have v2:IntKind.i64.wrap ((f:Int)+((2 * r+1:Nat):Int))=((f+(2 * r+1):Nat):Int):=by rw [IntWalk.i64_in]<;>omega
   have hmx:∀ c:Nat,(c=2 * r+1∨c=2 * r+2)→c<hi→(lget o (f+c))≤(lget o (f+(2 * r+1))):=(fun c h1 h2=>by rcases h1 with h1|h1<;>subst h1<;>omega)
   rw [code_draws _ _ _ (by kernel_rfl)] at he
   generalize hnd6:needy _=nd6 at he
   obtain ⟨loP,ltP,ccP,exP,hxP,hcP⟩:=own_cut ow hb
   obtain ⟨ofPx,hoPx,iaPx,pPx0⟩:=hcP (f+r) (by omega)
   obtain ⟨ofPy,hoPy,iaPy,pPy0⟩:=hcP (f+(2 * r+1)) (by omega)
   obtain ⟨SQ,kQ,aQ⟩:=cL (lget o (f+r)) (lget o (f+(2 * r+1))) S1
   have sQ:E0.same S1 SQ=true:=symEnv_same aQ
   simp (disch:=first|omega|assumption) only [E0_G,SY,agreeKind,vals,ldA,aggD,Nat.reduceAdd,Nat.reduceLT,Nat.reduceBEq,TY_EvO0,store_agree,store_refl E0_same,g0,g3,g10,v1,v2,hxP,iaPx,pPx0,iaPy,pPy0,kQ] at he
   rcases dP (cmpI (lget o (f+r)) (lget o (f+(2 * r+1)))<0) with ⟨h7a,h7⟩|⟨h7a,h7⟩
   ·simp (disch:=first|omega|assumption) only [SY,store_refl E0_same,h7a] at he
    have ow3:=ow.agree aQ
    rw [code_draws _ _ _ (by kernel_rfl)] at he
    generalize hnd7:needy _=nd7 at he
    obtain ⟨loD,ltD,ccD,exD,hxD,hcD⟩:=own_cut ow3 hb
    obtain ⟨ofDj,hoDj,iaDj,pDj0⟩:=hcD ((f+(2 * r+1))) (by omega)
    obtain ⟨ofDi,hoDi,iaDi,pDi0⟩:=hcD ((f+r)) (by omega)
    obtain ⟨SxD,SyD,exD,eyD,owD,kpD,nxD⟩:=own_swp ow3 hb (i:=(f+r)) (j:=(f+(2 * r+1))) (by omega) (by omega) hoDi hoDj
    simp (disch:=first|omega|assumption) only [E0_G,SY,off,agreeKind,ldA,aggD,Nat.reduceAdd,Nat.reduceLT,Nat.reduceBEq,TY_EvO0,store_refl E0_same,g0,g3,g10,v1,v2,hxD,iaDj,pDj0,iaDi,pDi0,exD,eyD] at he
    rw [cmpI_lt] at h7
    exact .next he (n+hi+1 - (2 * r+1)) (by omega) ⟨2 * r+1,_,by omega,by omega,by omega,Sw.step (f+r) (f+(2 * r+1)) hs (by omega) (by omega) (by omega) (by omega) hfl,hr.go hnr (by omega) (by omega) (by omega) h7 hmx,by simp only [SY,eq_self,Nat.reduceBEq,g0]<;>rfl,by simp only [SY,eq_self,Nat.reduceBEq,g1]<;>rfl,by simp only [SY,eq_self,Nat.reduceBEq,g2]<;>rfl,by simp only [SY,eq_self,Nat.reduceBEq,g3]<;>rfl,by simp only [SY,eq_self,Nat.reduceBEq,g10]<;>rfl,(kp.trans (Keep.of aQ)).trans kpD,owD⟩
   simp (disch:=first|omega|assumption) only [SY,store_refl E0_same,h7a] at he
   rw [cmpI_lt] at h7
   exact .ret he ⟨.inr rfl,o,hs,hr.stop (fun c h1 h2=>by have:=hmx c h1 h2; omega),kp.trans (Keep.of aQ),ow.agree aQ⟩)
 obtain ⟨hx,o,hs,hr,kp,ow⟩:=hQ1
 rcases hx with rfl|rfl
 ·simp (disch:=first|omega|assumption) only [SY,eq_self,if_true,store_refl E0_same] at hz
  exact ⟨_,o,hz.symm,kp,ow,hs,hr⟩
 simp (disch:=first|omega|assumption) only [SY,store_refl E0_same] at hz
 exact ⟨_,o,hz.symm,kp,ow,hs,hr⟩
end Clock
end Go.Proofs
end
section
set_option linter.unusedSimpArgs false
set_option linter.unusedVariables false
namespace Go.Proofs
namespace Clock
open Go Go.RowKit Go.Aev
set_option maxRecDepth 100000
theorem heap_max {f hi:Nat} {l:List Int} (h:Hp f 0 hi l):∀ j:Nat,j<hi→(lget l (f+j))≤(lget l (f+0)):=by
 intro j
 induction j using Nat.strongRecOn with
 | ind j ih =>
  intro hj
  cases j with
  | zero=>exact Int.le_refl _
  | succ j =>
   have h1:=h (j / 2) (j+1) (Nat.zero_le _) (by omega) hj
   have h2:=ih (j / 2) (by omega) (by omega)
   omega
theorem heap_swap {f k:Nat} {l:List Int} (h:Hp f 0 k l) (hk:1≤k) (hl:f+k≤l.length):Hp f 1 (k - 1) (swp l f (f+(k - 1))):=by
 intro n c h1 h2 h3
 rw [lget_swp _ _ _ _ (by omega) (by omega),lget_swp _ _ _ _ (by omega) (by omega),if_neg (by omega),if_neg (by omega),if_neg (by omega),if_neg (by omega)]
 exact h n c (by omega) h2 (by omega)
theorem heap_take {a b k:Nat} {o o2:List Int} (hk:1≤k) (hab:a+k≤b) (hb:b≤o.length) (hH:Hp a 0 k o) (ht:Srt (a+k) b o) (hc:∀ u v:Nat,a≤u→u<a+k→a+k≤v→v<b→(lget o u)≤(lget o v))
  (hs:Sw a (a+(k - 1)) (swp o a (a+(k - 1))) o2):Srt (a+(k - 1)) b o2∧∀ u v:Nat,a≤u→u<a+(k - 1)→a+(k - 1)≤v→v<b→(lget o2 u)≤(lget o2 v):=by
 have g:=fun q=>lget_swp o a (a+(k - 1)) q (by omega) (by omega)
 have hmax:=heap_max hH
 have far:∀ v,a+(k - 1)<v→lget o2 v=lget o v:=fun v hv=>by
  rw [hs.out v (by omega),g,if_neg (by omega),if_neg (by omega)]
 have top:lget o2 (a+(k - 1))=lget o a:=by rw [hs.out _ (by omega),g,if_pos rfl]
 constructor
 ·intro u v h1 h2 h3
  by_cases e:u=a+(k - 1)
  ·subst e
   rw [top,far v h2]
   exact hc a v (Nat.le_refl _) (by omega) (by omega) h3
  ·rw [far u (by omega),far v (by omega)]
   exact ht u v (by omega) h2 h3
 ·intro u v h1 h2 h3 h4
  refine hs.all (P:=fun x=>x≤(lget o2 v)) (fun q q1 q2=>?_) u h1 h2
  rw [g,if_neg (by omega)]
  by_cases e:v=a+(k - 1)
  ·subst e
   rw [top]
   by_cases e2:a=q
   ·rw [if_pos e2]; exact hmax (k - 1) (by omega)
   ·rw [if_neg e2]
    have:=hmax (q - a) (by omega)
    rw [show a+(q - a)=q by omega] at this
    exact this
  ·rw [far v (by omega)]
   by_cases e2:a=q
   ·rw [if_pos e2]; exact hc (a+(k - 1)) v (by omega) (by omega) (by omega) h4
   ·rw [if_neg e2]; exact hc q v q1 (by omega) (by omega) h4
set_option maxHeartbeats 8000000 in
theorem c176 (l:List Int) (hn:l.length≤1000) (lo:Nat) (S:AS) (v:Value) (ho:Own 3 lo S v l) (id:Nat) (hb:blkOf v=some id) (a b:Nat) (hab:a<b) (hbl:b≤l.length) :
  ∃ S' l',(evL Tryz.prog E0).call 176 #[v,.int .i64 (a:Int),.int .i64 (b:Int)] S=some (.tuple #[],S')∧Keep v S S'∧Own 3 lo S' v l'∧Sw a b l l'∧Srt a b l':=by
 generalize hz:(evL Tryz.prog E0).call 176 _ _=z
 rw [L_call,evCall_said rfl Tryz.func176 rfl (by decide) Tryz.ntmps176 Tryz.results176] at hz
 have w0:IntKind.i64.wrap ((b:Int) - (a:Int))=((b - a:Nat):Int):=by rw [IntWalk.i64_in]<;>omega
 have w1:IntKind.i64.wrap (((b - a:Nat):Int) - 1)=((b - a - 1:Nat):Int):=by rw [IntWalk.i64_in]<;>omega
 have w2:IntKind.i64.wrap (Int.tdiv ((b - a - 1:Nat):Int) 2)=(((b - a - 1) / 2+1:Nat):Int) - 1:=by rw [show Int.tdiv ((b - a - 1:Nat):Int) 2=(((b - a - 1) / 2:Nat):Int) from rfl,IntWalk.i64_in]<;>omega
 simp (disch:=first|omega|assumption) only [E0_G,SY,setArgs,off,agreeKind,Nat.reduceAdd,Nat.reduceSub,Nat.reduceLT,Nat.reduceBEq,Int.reduceEq,store_refl E0_same,w0,w1,w2] at hz
 generalize hL1:Rec.loop _ _ _ _=L1 at hz
 obtain ⟨x1,t1,S1e,rfl,hQ1⟩:=loop_met hL1 (fun m t S'=>∃ (k:Nat) (o:List Int),m=k∧k≤b - a∧Sw a b l o∧Hp a k (b - a) o∧t.get 0=some (v)∧t.get 6=some (.int .i64 (a:Int))∧t.get 7=some (.int .i64 0)∧t.get 8=some (.int .i64 ((b - a:Nat):Int))∧t.get 9=some (.int .i64 ((k:Int) - 1))∧Keep v S S'∧Own 3 lo S' v o)
  (fun x t S'=>x=.exit 0∧∃ (o:List Int),Sw a b l o∧Hp a 0 (b - a) o∧t.get 0=some (v)∧t.get 6=some (.int .i64 (a:Int))∧t.get 7=some (.int .i64 0)∧t.get 8=some (.int .i64 ((b - a:Nat):Int))∧Keep v S S'∧Own 3 lo S' v o) ((b - a - 1) / 2+1)
  ⟨(b - a - 1) / 2+1,l,rfl,by omega,Sw.refl,(fun k c h1 h2 h3=>by omega),by simp only [SY,eq_self,Nat.reduceBEq]<;>rfl,by simp only [SY,eq_self,Nat.reduceBEq]<;>rfl,by simp only [SY,eq_self,Nat.reduceBEq]<;>rfl,by simp only [SY,eq_self,Nat.reduceBEq]<;>rfl,by simp only [SY,eq_self,Nat.reduceBEq]<;>rfl,Keep.refl v S,ho⟩ (by
   rintro m t S1 ⟨k,o,hm,hk,hs,hh,g0,g8,g9,g10,g11,kp,ow⟩
   refine .run fun z he=>?_
   have hlo:=hs.len
   simp (disch:=first|omega|assumption) only [E0_G,SY,off,agreeKind,Nat.reduceAdd,Nat.reduceLT,Nat.reduceBEq,store_refl E0_same,g11] at he
   rcases dP ((0:Int)≤(k:Int) - 1) with ⟨h3a,h3⟩|⟨h3a,h3⟩
   ·obtain ⟨S2,o2,k2,kp2,ow2,hs2,hh2⟩:=c194 o (by omega) lo S1 v ow id hb (k - 1) (b - a) a (by omega) (by omega) (by rw [show k - 1+1=k by omega]; exact hh)
    have k2':(evL Tryz.prog E0).call 194 #[v,.int .i64 ((k:Int) - 1),.int .i64 ((b - a:Nat):Int),.int .i64 (a:Int)] S1=some (.tuple #[],S2):=by rw [show (k:Int) - 1=((k - 1:Nat):Int) by omega]; exact k2
    have w3:IntKind.i64.wrap ((k:Int) - 1 - 1)=((k - 1:Nat):Int) - 1:=by rw [IntWalk.i64_in]<;>omega
    simp (disch:=first|omega|assumption) only [E0_G,SY,off,agreeKind,vals,Nat.reduceAdd,Nat.reduceLT,Nat.reduceBEq,store_refl E0_same,g0,g8,g10,g11,h3a,k2',w3] at he
    exact .next he (m - 1) (by omega) ⟨k - 1,o2,by omega,by omega,hs.trans (hs2.mono (Nat.le_refl _) (by omega) (by omega)),hh2,by simp only [SY,eq_self,Nat.reduceBEq,g0]<;>rfl,by simp only [SY,eq_self,Nat.reduceBEq,g8]<;>rfl,by simp only [SY,eq_self,Nat.reduceBEq,g9]<;>rfl,by simp only [SY,eq_self,Nat.reduceBEq,g10]<;>rfl,by simp only [SY,eq_self,Nat.reduceBEq,g11]<;>rfl,kp.trans kp2,ow2⟩
   simp (disch:=first|omega|assumption) only [SY,store_refl E0_same,h3a] at he
   exact .exit he ⟨rfl,o,hs,by rw [show (0:Nat)=k by omega]; exact hh,by simp only [SY,eq_self,Nat.reduceBEq,g0]<;>rfl,by simp only [SY,eq_self,Nat.reduceBEq,g8]<;>rfl,by simp only [SY,eq_self,Nat.reduceBEq,g9]<;>rfl,by simp only [SY,eq_self,Nat.reduceBEq,g10]<;>rfl,kp,ow⟩)
 obtain ⟨rfl,o1,hs1,hh1,g0,g8,g9,g10,kp1,ow1⟩:=hQ1
 have w4:IntKind.i64.wrap (((b - a:Nat):Int) - 1)=((b - a:Nat):Int) - 1:=by rw [IntWalk.i64_in]<;>omega
 simp (disch:=first|omega|assumption) only [E0_G,SY,off,agreeKind,eq_self,if_true,Nat.reduceAdd,Nat.reduceLT,Nat.reduceBEq,store_refl E0_same,g10,w4] at hz
 generalize hL2:Rec.loop _ _ _ _=L2 at hz
 obtain ⟨x2,t2,S2e,rfl,hQ2⟩:=loop_met hL2 (fun m t S'=>∃ (k:Nat) (o:List Int),m=k∧k≤b - a∧Sw a b l o∧Hp a 0 k o∧Srt (a+k) b o∧(∀ u v:Nat,a≤u→u<a+k→a+k≤v→v<b→(lget o u)≤(lget o v))∧t.get 0=some (v)∧t.get 6=some (.int .i64 (a:Int))∧t.get 7=some (.int .i64 0)∧t.get 10=some (.int .i64 ((k:Int) - 1))∧Keep v S S'∧Own 3 lo S' v o)
  (fun x t S'=>x=.exit 2∧∃ (o:List Int),Sw a b l o∧Srt a b o∧Keep v S S'∧Own 3 lo S' v o) (b - a)
  ⟨b - a,o1,rfl,by omega,hs1,hh1,(fun u w h1 h2 h3=>by omega),(fun u w h1 h2 h3 h4=>by omega),by simp only [SY,eq_self,Nat.reduceBEq,g0]<;>rfl,by simp only [SY,eq_self,Nat.reduceBEq,g8]<;>rfl,by simp only [SY,eq_self,Nat.reduceBEq,g9]<;>rfl,by simp only [SY,eq_self,Nat.reduceBEq]<;>rfl,kp1,ow1⟩ (by
   rintro m t S1 ⟨k,o,hm,hk,hs,hh,ht,hc,g0,g8,g9,g12,kp,ow⟩
   refine .run fun z he=>?_
   have hlo:=hs.len
   simp (disch:=first|omega|assumption) only [E0_G,SY,off,agreeKind,Nat.reduceAdd,Nat.reduceLT,Nat.reduceBEq,store_refl E0_same,g12] at he
   rcases dP ((0:Int)≤(k:Int) - 1) with ⟨h3a,h3⟩|⟨h3a,h3⟩
   ·have w5:IntKind.i64.wrap ((a:Int)+((k:Int) - 1))=((a+(k - 1):Nat):Int):=by rw [IntWalk.i64_in]<;>omega
    have w3:IntKind.i64.wrap ((k:Int) - 1 - 1)=((k - 1:Nat):Int) - 1:=by rw [IntWalk.i64_in]<;>omega
    simp (disch:=first|omega|assumption) only [SY,store_refl E0_same,h3a] at he
    rw [code_draws _ _ _ (by kernel_rfl)] at he
    generalize hnd1:needy _=nd1 at he
    obtain ⟨loD,ltD,ccD,exD,hxD,hcD⟩:=own_cut ow hb
    obtain ⟨ofDj,hoDj,iaDj,pDj0⟩:=hcD ((a+(k - 1))) (by omega)
    obtain ⟨ofDi,hoDi,iaDi,pDi0⟩:=hcD (a) (by omega)
    obtain ⟨SxD,SyD,exD,eyD,owD,kpD,nxD⟩:=own_swp ow hb (i:=a) (j:=(a+(k - 1))) (by omega) (by omega) hoDi hoDj
    simp (disch:=first|omega|assumption) only [E0_G,SY,off,agreeKind,vals,ldA,aggD,Nat.reduceAdd,Nat.reduceLT,Nat.reduceBEq,TY_EvO0,store_refl E0_same,g0,g8,g9,g12,w5,hxD,iaDj,pDj0,iaDi,pDi0,exD,eyD] at he
    obtain ⟨S2,o2,k2,kp2,ow2,hs2,hh2⟩:=c194 _ (by rw [swp_len]; omega) lo SyD v owD id hb 0 (k - 1) a (by rw [swp_len]; omega) (by omega) (heap_swap hh (by omega) (by omega))
    have k2':(evL Tryz.prog E0).call 194 #[v,.int .i64 0,.int .i64 ((k:Int) - 1),.int .i64 (a:Int)] SyD=some (.tuple #[],S2):=by rw [show (k:Int) - 1=((k - 1:Nat):Int) by omega]; exact k2
    simp (disch:=first|omega|assumption) only [E0_G,SY,off,agreeKind,Nat.reduceAdd,Nat.reduceLT,Nat.reduceBEq,store_refl E0_same,g12,k2',w3] at he
    obtain ⟨t1',t2'⟩:=heap_take (by omega) (by omega) (by omega) hh ht hc hs2
    exact .next he (m - 1) (by omega) ⟨k - 1,o2,by omega,by omega,(Sw.step a (a+(k - 1)) hs (by omega) (by omega) (by omega) (by omega) hbl).trans (hs2.mono (Nat.le_refl _) (by omega) (by rw [swp_len]; omega)),hh2,t1',t2',by simp only [SY,eq_self,Nat.reduceBEq,g0]<;>rfl,by simp only [SY,eq_self,Nat.reduceBEq,g8]<;>rfl,by simp only [SY,eq_self,Nat.reduceBEq,g9]<;>rfl,by simp only [SY,eq_self,Nat.reduceBEq,g12]<;>rfl,(kp.trans kpD).trans kp2,ow2⟩
   simp (disch:=first|omega|assumption) only [SY,store_refl E0_same,h3a] at he
   exact .exit he ⟨rfl,o,hs,fun u w h1 h2 h3'=>ht u w (by omega) h2 h3',kp,ow⟩)
 obtain ⟨rfl,o,hs,hr,kp,ow⟩:=hQ2
 simp (disch:=first|omega|assumption) only [SY,eq_self,if_true,store_refl E0_same] at hz
 exact ⟨_,o,hz.symm,kp,ow,hs,hr⟩
end Clock
end Go.Proofs
end
section
set_option linter.unusedSimpArgs false
set_option linter.unusedVariables false
namespace Go.Proofs
namespace Clock
open Go Go.RowKit Go.Aev
set_option maxRecDepth 100000
section
variable {P:Program} {E:Env} {r:Rec}
variable (dst:Option Tmp) (ty:TypeId) (pos:String) (after:Array Edge) (g:Option (Nat × Bool)) (f:Fr) (S:AS)
def nilV:Value→Option Value
 | .pointer (some a)=>some (.pointer (some a))
 | _=>none
theorem nilV_some (a:Addr):nilV (.pointer (some a))=some (.pointer (some a)):=rfl
theorem op_nilCheck (x:Operand):evOp P E r ⟨dst,.nilCheck x,ty,pos,after,g⟩ f S=firstOf ((f.val E.G x).bind fun v=>(nilV v).map fun u=>(u,S)) (evOpB P E r ⟨dst,.nilCheck x,ty,pos,after,g⟩ f S):=by
 refine firstOf_of fun z hz=>?_
 obtain ⟨v,hv,hz⟩:=Option.bind_eq_some_iff.1 hz
 obtain ⟨u,hu,rfl⟩:=Option.map_eq_some_iff.1 hz
 unfold nilV at hu
 split at hu
 ·cases hu
  exact op_struct1 (z:=(some _,S)) dst ty pos after g f S rfl (by simp) (by simp) (by simp) (by simp) hv (by simp [evStruct,hv])
 ·simp at hu
end
def Kc (p:Nat) (S S':AS):Prop:=S.next≤S'.next∧∀ q,q<S.next→q≠p→S'.heap.get q=S.heap.get q
theorem Kc.refl (p:Nat) (S:AS):Kc p S S:=⟨Nat.le_refl _,fun _ _ _=>rfl⟩
theorem Kc.trans {p:Nat} {S S' S2:AS} (h:Kc p S S') (h':Kc p S' S2):Kc p S S2:=⟨Nat.le_trans h.1 h'.1,fun q hq hn=>(h'.2 q (Nat.lt_of_lt_of_le hq h.1) hn).trans (h.2 q hq hn)⟩
theorem Kc.own {p lo:Nat} {S S':AS} {v:Value} {l:List Int} (h:Kc p S S') (ho:Own 3 lo S v l) (hp:blkOf v≠some p):Own 3 lo S' v l:=ho.frame h.1 fun id hid hb=>h.2 id hid (fun e=>hp (by rw [← e]; exact hb))
set_option maxHeartbeats 4000000 in
theorem c200 (l:List Int) (lo:Nat) (S:AS) (v:Value) (ho:Own 3 lo S v l) (id:Nat) (hb:blkOf v=some id) (a b:Nat) (ha:a<l.length) (hbl:b<l.length) (p:Nat) (w:Int) (hp:S.heap.get p=some (.cells [.int .i64 w] 3 0 true true)) (lp:p<S.next) (np:id≠p) :
  ∃ S' x y w',(evL Tryz.prog E0).call 200 #[v,.int .i64 (a:Int),.int .i64 (b:Int),.pointer (some ⟨p,0,none⟩)] S=some (.tuple #[.int .i64 ((x:Nat):Int),.int .i64 ((y:Nat):Int)],S')∧((x=a∧y=b)∨(x=b∧y=a))∧Kc p S S'∧S'.heap.get p=some (.cells [.int .i64 w'] 3 0 true true):=by
 generalize hz:(evL Tryz.prog E0).call 200 _ _=z
 rw [L_call,evCall_said rfl Tryz.func200 rfl (by decide) Tryz.ntmps200 Tryz.results200] at hz
 simp (disch:=first|omega|assumption) only [E0_G,SY,setArgs,off,agreeKind,Nat.reduceAdd,Nat.reduceSub,Nat.reduceLT] at hz
 rw [code_draws _ _ _ (by kernel_rfl)] at hz
 generalize hnd1:needy _=nd1 at hz
 obtain ⟨loB,ltB,ccB,exB,hxB,hcB⟩:=own_cut ho hb
 obtain ⟨ofBx,hoBx,iaBx,pBx0⟩:=hcB (b) (by omega)
 obtain ⟨ofBy,hoBy,iaBy,pBy0⟩:=hcB (a) (by omega)
 obtain ⟨SC,kC,aC⟩:=cL (lget l b) (lget l a) S
 have sC:E0.same S SC=true:=symEnv_same aC
 simp (disch:=first|omega|assumption) only [E0_G,SY,agreeKind,vals,ldA,aggD,Nat.reduceAdd,Nat.reduceLT,Nat.reduceBEq,TY_EvO0,store_agree,store_refl E0_same,hxB,iaBx,pBx0,iaBy,pBy0,kC] at hz
 have hpC:=(aC.2 p lp).trans hp
 have lC:=aC.1
 rcases dP (cmpI (lget l b) (lget l a)<0) with ⟨h5a,h5⟩|⟨h5a,h5⟩
 ·obtain ⟨SD,eD,nD,bD,qD⟩:=st_at (P:=Tryz.prog) (o:=0) (c':=[.int .i64 (IntKind.i64.wrap (w+1))]) (v:=.int .i64 (IntKind.i64.wrap (w+1))) tz3 hpC rfl rfl (show 0+1≤1 by decide) rfl
  simp (disch:=first|omega|assumption) only [E0_G,SY,off,agreeKind,ldA,aggD,Nat.reduceAdd,Nat.reduceLT,Nat.reduceBEq,TY_EvO0,store_refl E0_same,h5a,op_nilCheck,nilV_some,hpC,eD] at hz
  exact ⟨SD,b,a,_,hz.symm,.inr ⟨rfl,rfl⟩,⟨by omega,fun q hq hn=>(qD q hn).trans (aC.2 q hq)⟩,bD⟩
 simp (disch:=first|omega|assumption) only [E0_G,SY,off,agreeKind,Nat.reduceAdd,Nat.reduceLT,Nat.reduceBEq,store_refl E0_same,h5a] at hz
 exact ⟨SC,a,b,w,hz.symm,.inl ⟨rfl,rfl⟩,⟨lC,fun q hq _=>aC.2 q hq⟩,hpC⟩
set_option maxHeartbeats 4000000 in
theorem c198 (l:List Int) (lo:Nat) (S:AS) (v:Value) (ho:Own 3 lo S v l) (id:Nat) (hb:blkOf v=some id) (a b c:Nat) (ha:a<l.length) (hbl:b<l.length) (hc:c<l.length) (p:Nat) (w:Int) (hp:S.heap.get p=some (.cells [.int .i64 w] 3 0 true true)) (lp:p<S.next) (np:id≠p) :
  ∃ S' x w',(evL Tryz.prog E0).call 198 #[v,.int .i64 (a:Int),.int .i64 (b:Int),.int .i64 (c:Int),.pointer (some ⟨p,0,none⟩)] S=some (.int .i64 ((x:Nat):Int),S')∧(x=a∨x=b∨x=c)∧Kc p S S'∧S'.heap.get p=some (.cells [.int .i64 w'] 3 0 true true):=by
 generalize hz:(evL Tryz.prog E0).call 198 _ _=z
 rw [L_call,evCall_said rfl Tryz.func198 rfl (by decide) Tryz.ntmps198 Tryz.results198] at hz
 have hnb:blkOf v≠some p:=by rw [hb]; exact fun e=>np (Option.some.inj e)
 obtain ⟨S1,x1,y1,w1,k1,c1,kc1,p1⟩:=c200 l lo S v ho id hb a b ha hbl p w hp lp np
 have l1:=kc1.1
 obtain ⟨S2,x2,y2,w2,k2,c2,kc2,p2⟩:=c200 l lo S1 v (kc1.own ho hnb) id hb y1 c (by omega) hc p w1 p1 (by omega) np
 have l2:=kc2.1
 obtain ⟨S3,x3,y3,w3,k3,c3,kc3,p3⟩:=c200 l lo S2 v (kc2.own (kc1.own ho hnb) hnb) id hb x1 x2 (by omega) (by omega) p w2 p2 (by omega) np
 simp (disch:=first|omega|assumption) only [E0_G,SY,setArgs,off,agreeKind,vals,aExtract,Nat.reduceAdd,Nat.reduceSub,Nat.reduceLT,Nat.reduceBEq,store_refl E0_same,k1,k2,k3,aExtract] at hz
 exact ⟨S3,y3,w3,hz.symm,by omega,(kc1.trans kc2).trans kc3,p3⟩
set_option maxHeartbeats 4000000 in
theorem c197 (l:List Int) (hn:l.length≤1000) (lo:Nat) (S:AS) (v:Value) (ho:Own 3 lo S v l) (id:Nat) (hb:blkOf v=some id) (a:Nat) (ha:1≤a) (ha2:a+1<l.length) (p:Nat) (w:Int) (hp:S.heap.get p=some (.cells [.int .i64 w] 3 0 true true)) (lp:p<S.next) (np:id≠p) :
  ∃ S' x w',(evL Tryz.prog E0).call 197 #[v,.int .i64 (a:Int),.pointer (some ⟨p,0,none⟩)] S=some (.int .i64 ((x:Nat):Int),S')∧(a - 1≤x∧x≤a+1)∧Kc p S S'∧S'.heap.get p=some (.cells [.int .i64 w'] 3 0 true true):=by
 generalize hz:(evL Tryz.prog E0).call 197 _ _=z
 rw [L_call,evCall_said rfl Tryz.func197 rfl (by decide) Tryz.ntmps197 Tryz.results197] at hz
 obtain ⟨S1,x1,w1,k1,c1,kc1,p1⟩:=c198 l lo S v ho id hb (a - 1) a (a+1) (by omega) (by omega) (by omega) p w hp lp np
 have u1:IntKind.i64.wrap ((a:Int) - 1)=((a - 1:Nat):Int):=by rw [IntWalk.i64_in]<;>omega
 have u2:IntKind.i64.wrap ((a:Int)+1)=((a+1:Nat):Int):=by rw [IntWalk.i64_in]<;>omega
 simp (disch:=first|omega|assumption) only [E0_G,SY,setArgs,off,agreeKind,vals,Nat.reduceAdd,Nat.reduceSub,Nat.reduceLT,Nat.reduceBEq,store_refl E0_same,u1,u2,k1] at hz
 exact ⟨S1,x1,w1,hz.symm,by omega,kc1,p1⟩
set_option maxHeartbeats 8000000 in
theorem c178 (l:List Int) (hn:l.length≤1000) (lo:Nat) (S:AS) (v:Value) (ho:Own 3 lo S v l) (id:Nat) (hb:blkOf v=some id) (a b:Nat) (hab:a+13≤b) (hbl:b≤l.length) :
  ∃ S' x h,(evL Tryz.prog E0).call 178 #[v,.int .i64 (a:Int),.int .i64 (b:Int)] S=some (.tuple #[.int .i64 ((x:Nat):Int),.int .i64 h],S')∧(a≤x∧x<b)∧(h=0∨h=1∨h=2)∧Agree S S':=by
 generalize hz:(evL Tryz.prog E0).call 178 _ _=z
 rw [L_call,evCall_said rfl Tryz.func178 rfl (by decide) Tryz.ntmps178 Tryz.results178] at hz
 obtain ⟨S1,e1,n1,b1,a1⟩:=push_open S (.cells [.int .i64 0] 3 0 true true)
 have hnb:blkOf v≠some S.next:=ho.new (Nat.le_refl _)
 have np:id≠S.next:=fun e=>hnb (by rw [hb,e])
 have o1:=ho.agree a1
 have w0:IntKind.i64.wrap ((b:Int) - (a:Int))=((b - a:Nat):Int):=by rw [IntWalk.i64_in]<;>omega
 have w1:IntKind.i64.wrap (Int.tdiv ((b - a:Nat):Int) 4)=(((b - a) / 4:Nat):Int):=by rw [show Int.tdiv ((b - a:Nat):Int) 4=(((b - a) / 4:Nat):Int) from rfl,IntWalk.i64_in]<;>omega
 have m1:IntKind.i64.wrap ((((b - a) / 4:Nat):Int) * 1)=(((b - a) / 4 * 1:Nat):Int):=by rw [IntWalk.i64_in]<;>omega
 have q1:IntKind.i64.wrap ((a:Int)+(((b - a) / 4 * 1:Nat):Int))=((a+(b - a) / 4 * 1:Nat):Int):=by rw [IntWalk.i64_in]<;>omega
 have m2:IntKind.i64.wrap ((((b - a) / 4:Nat):Int) * 2)=(((b - a) / 4 * 2:Nat):Int):=by rw [IntWalk.i64_in]<;>omega
 have q2:IntKind.i64.wrap ((a:Int)+(((b - a) / 4 * 2:Nat):Int))=((a+(b - a) / 4 * 2:Nat):Int):=by rw [IntWalk.i64_in]<;>omega
 have m3:IntKind.i64.wrap ((((b - a) / 4:Nat):Int) * 3)=(((b - a) / 4 * 3:Nat):Int):=by rw [IntWalk.i64_in]<;>omega
 have q3:IntKind.i64.wrap ((a:Int)+(((b - a) / 4 * 3:Nat):Int))=((a+(b - a) / 4 * 3:Nat):Int):=by rw [IntWalk.i64_in]<;>omega
 simp (disch:=first|omega|assumption) only [E0_G,SY,setArgs,off,agreeKind,allocV,Nat.reduceAdd,Nat.reduceSub,Nat.reduceLT,Nat.reduceBEq,Int.reduceEq,TY_EvO0,store_refl E0_same,w0,w1,m1,m2,m3,q1,q2,q3,e1] at hz
 have h8:decide ((8:Int)≤((b - a:Nat):Int))=true:=decide_eq_true (by omega)
 rcases dP ((50:Int)≤((b - a:Nat):Int)) with ⟨h5a,h5⟩|⟨h5a,h5⟩
 ·obtain ⟨S2,x2,w2,k2,c2,kc2,p2⟩:=c197 l hn lo S1 v o1 id hb (a+(b - a) / 4 * 1) (by omega) (by omega) S.next 0 b1 (by omega) np
  have l2:=kc2.1
  have o2:=kc2.own o1 hnb
  obtain ⟨S3,x3,w3,k3,c3,kc3,p3⟩:=c197 l hn lo S2 v o2 id hb (a+(b - a) / 4 * 2) (by omega) (by omega) S.next w2 p2 (by omega) np
  have l3:=kc3.1
  have o3:=kc3.own o2 hnb
  obtain ⟨S4,x4,w4,k4,c4,kc4,p4⟩:=c197 l hn lo S3 v o3 id hb (a+(b - a) / 4 * 3) (by omega) (by omega) S.next w3 p3 (by omega) np
  have l4:=kc4.1
  have o4:=kc4.own o3 hnb
  obtain ⟨S5,x5,w5,k5,c5,kc5,p5⟩:=c198 l lo S4 v o4 id hb x2 x3 x4 (by omega) (by omega) (by omega) S.next w4 p4 (by omega) np
  have kc:=((kc2.trans kc3).trans kc4).trans kc5
  simp (disch:=first|omega|assumption) only [E0_G,SY,off,agreeKind,vals,ldA,aggD,Nat.reduceAdd,Nat.reduceLT,Nat.reduceBEq,TY_EvO0,store_refl E0_same,h8,h5a,k2,k3,k4,k5] at hz
  have ag:Agree S S5:=⟨by have:=(kc).1; omega,fun q hq=>((kc).2 q (by omega) (by omega)).trans (a1.2 q hq)⟩
  simp (disch:=first|omega|assumption) only [E0_G,SY,off,agreeKind,Nat.reduceAdd,Nat.reduceLT,Nat.reduceBEq,store_refl E0_same,p5] at hz
  rcases dP (w5=0) with ⟨y0a,y0⟩|⟨y0a,y0⟩
  ·simp (disch:=first|omega|assumption) only [E0_G,SY,off,agreeKind,Nat.reduceAdd,Nat.reduceLT,Nat.reduceBEq,store_refl E0_same,y0a] at hz
   exact ⟨_,_,1,hz.symm,⟨by omega,by omega⟩,.inr (.inl rfl),ag⟩
  simp (disch:=first|omega|assumption) only [E0_G,SY,off,agreeKind,Nat.reduceAdd,Nat.reduceLT,Nat.reduceBEq,store_refl E0_same,y0a] at hz
  rcases dP (w5=12) with ⟨y1a,y1⟩|⟨y1a,y1⟩
  ·simp (disch:=first|omega|assumption) only [E0_G,SY,off,agreeKind,Nat.reduceAdd,Nat.reduceLT,Nat.reduceBEq,store_refl E0_same,y1a] at hz
   exact ⟨_,_,2,hz.symm,⟨by omega,by omega⟩,.inr (.inr rfl),ag⟩
  simp (disch:=first|omega|assumption) only [E0_G,SY,off,agreeKind,Nat.reduceAdd,Nat.reduceLT,Nat.reduceBEq,store_refl E0_same,y1a] at hz
  exact ⟨_,_,0,hz.symm,⟨by omega,by omega⟩,.inl rfl,ag⟩
 obtain ⟨S5,x5,w5,k5,c5,kc5,p5⟩:=c198 l lo S1 v o1 id hb (a+(b - a) / 4 * 1) (a+(b - a) / 4 * 2) (a+(b - a) / 4 * 3) (by omega) (by omega) (by omega) S.next 0 b1 (by omega) np
 simp (disch:=first|omega|assumption) only [E0_G,SY,off,agreeKind,vals,ldA,aggD,Nat.reduceAdd,Nat.reduceLT,Nat.reduceBEq,TY_EvO0,store_refl E0_same,h8,h5a,k5] at hz
 have ag:Agree S S5:=⟨by have:=(kc5).1; omega,fun q hq=>((kc5).2 q (by omega) (by omega)).trans (a1.2 q hq)⟩
 simp (disch:=first|omega|assumption) only [E0_G,SY,off,agreeKind,Nat.reduceAdd,Nat.reduceLT,Nat.reduceBEq,store_refl E0_same,p5] at hz
 rcases dP (w5=0) with ⟨y0a,y0⟩|⟨y0a,y0⟩
 ·simp (disch:=first|omega|assumption) only [E0_G,SY,off,agreeKind,Nat.reduceAdd,Nat.reduceLT,Nat.reduceBEq,store_refl E0_same,y0a] at hz
  exact ⟨_,_,1,hz.symm,⟨by omega,by omega⟩,.inr (.inl rfl),ag⟩
 simp (disch:=first|omega|assumption) only [E0_G,SY,off,agreeKind,Nat.reduceAdd,Nat.reduceLT,Nat.reduceBEq,store_refl E0_same,y0a] at hz
 rcases dP (w5=12) with ⟨y1a,y1⟩|⟨y1a,y1⟩
 ·simp (disch:=first|omega|assumption) only [E0_G,SY,off,agreeKind,Nat.reduceAdd,Nat.reduceLT,Nat.reduceBEq,store_refl E0_same,y1a] at hz
  exact ⟨_,_,2,hz.symm,⟨by omega,by omega⟩,.inr (.inr rfl),ag⟩
 simp (disch:=first|omega|assumption) only [E0_G,SY,off,agreeKind,Nat.reduceAdd,Nat.reduceLT,Nat.reduceBEq,store_refl E0_same,y1a] at hz
 exact ⟨_,_,0,hz.symm,⟨by omega,by omega⟩,.inl rfl,ag⟩
end Clock
end Go.Proofs
end
