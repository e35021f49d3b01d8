import Derived.Test.YtpaipdipkgnpdaaGreatBS
set_option linter.unusedSimpArgs false
set_option linter.unusedVariables false
namespace Go.Proofs
namespace Clock
open Go Go.RowKit Go.Aev
set_option maxRecDepth 100000
structure PI (a b p q:Nat) (l o:List Int):Prop where
 ap:a≤p
 pq:p≤q
 qb:q≤b
 hb:b≤l.length
 sw:Sw a b l o
 lo:Srt a p o
 hi:Srt q b o
 x1:∀ u v:Nat,a≤u→u<p→p≤v→v<b→(lget o u)≤(lget o v)
 x2:∀ u v:Nat,a≤u→u<q→q≤v→v<b→(lget o u)≤(lget o v)
section
variable {a b p q:Nat} {l o o':List Int}
theorem PI.init (h:a≤b) (hb:b≤l.length):PI a b a b l l :=
 ⟨Nat.le_refl _,h,Nat.le_refl _,hb,Sw.refl,Srt.small (by omega),Srt.small (by omega),fun u v h1 h2=>by omega,fun u v h1 h2 h3 h4=>by omega⟩
theorem PI.go (h:PI a b p q l o) (hs:Sw p q o o'):PI a b p q l o':=by
 have hl:=h.sw.len
 have hap:=h.ap
 have hpq:=h.pq
 have hqb:=h.qb
 have hbl:=h.hb
 refine ⟨h.ap,h.pq,h.qb,h.hb,h.sw.trans (hs.mono hap hqb (by omega)),?_,?_,?_,?_⟩
 ·intro u v h1 h2 h3
  rw [hs.out u (by omega),hs.out v (by omega)]; exact h.lo u v h1 h2 h3
 ·intro u v h1 h2 h3
  rw [hs.out u (by omega),hs.out v (by omega)]; exact h.hi u v h1 h2 h3
 ·intro u v h1 h2 h3 h4
  rw [hs.out u (by omega)]
  exact hs.all' (a':=p) (b':=b) (Nat.le_refl _) hqb (P:=fun x=>(lget o u)≤x) (fun w h5 h6=>h.x1 u w h1 h2 h5 h6) v h3 h4
 ·intro u v h1 h2 h3 h4
  rw [hs.out v (by omega)]
  exact hs.all' (a':=a) (b':=q) hap (Nat.le_refl _) (P:=fun x=>x≤(lget o v)) (fun w h5 h6=>h.x2 w v h5 h6 h3 h4) u h1 h2
theorem PI.fin (h:PI a b p q l o) (hs:Srt p q o):Srt a b o:=by
 have hap:=h.ap
 have hpq:=h.pq
 have hqb:=h.qb
 intro u v h1 h2 h3
 by_cases c1:u<p
 ·by_cases c2:v<p
  ·exact h.lo u v h1 h2 c2
  ·exact h.x1 u v h1 c1 (by omega) h3
 ·by_cases c2:u<q
  ·by_cases c3:v<q
   ·exact hs u v (by omega) h2 c3
   ·exact h.x2 u v h1 c2 (by omega) h3
  ·exact h.hi u v (by omega) h2 h3
theorem PI.left (h:PI a b p q l o) {x:Nat} (hx:p≤x∧x≤q) (hs:Srt p x o) (hc:∀ u v:Nat,p≤u→u<x→x≤v→v<q→(lget o u)≤(lget o v)):PI a b x q l o:=by
 have hap:=h.ap
 have hqb:=h.qb
 refine ⟨by omega,hx.2,h.qb,h.hb,h.sw,?_,h.hi,?_,h.x2⟩
 ·intro u v h1 h2 h3
  by_cases c1:u<p
  ·by_cases c2:v<p
   ·exact h.lo u v h1 h2 c2
   ·exact h.x1 u v h1 c1 (by omega) (by omega)
  ·exact hs u v (by omega) h2 h3
 ·intro u v h1 h2 h3 h4
  by_cases c1:u<p
  ·exact h.x1 u v h1 c1 (by omega) h4
  ·by_cases c2:v<q
   ·exact hc u v (by omega) h2 h3 c2
   ·exact h.x2 u v h1 (by omega) (by omega) h4
theorem PI.right (h:PI a b p q l o) {x:Nat} (hx:p≤x∧x≤q) (hs:Srt x q o) (hc:∀ u v:Nat,p≤u→u<x→x≤v→v<q→(lget o u)≤(lget o v)):PI a b p x l o:=by
 have hap:=h.ap
 have hqb:=h.qb
 refine ⟨h.ap,hx.1,by omega,h.hb,h.sw,h.lo,?_,h.x1,?_⟩
 ·intro u v h1 h2 h3
  by_cases c1:u<q
  ·by_cases c2:v<q
   ·exact hs u v h1 h2 c2
   ·exact h.x2 u v (by omega) c1 (by omega) h3
  ·exact h.hi u v (by omega) h2 h3
 ·intro u v h1 h2 h3 h4
  by_cases c2:v<q
  ·by_cases c1:u<p
   ·exact h.x1 u v h1 c1 (by omega) h4
   ·exact hc u v (by omega) h2 h3 c2
  ·exact h.x2 u v h1 (by omega) (by omega) h4
theorem PI.pre (h:PI a b p q l o) (hp:Pre a b l):Pre p q o:=by
 have hqb:=h.qb
 intro h0 u h1 h2
 rcases Nat.lt_or_ge a p with c|c
 ·exact h.x1 (p - 1) u (by omega) (by omega) h1 (by omega)
 ·have e:p=a:=by have:=h.ap; omega
  subst e
  exact hp.sw h.sw h0 u h1 (by omega)
theorem PI.equal (h:PI a b p q l o) {x:Nat} {pv:Int} (hx:p+1≤x∧x≤q) (hmin:∀ u:Nat,p≤u→u<q→pv≤(lget o u)) (h1:∀ u,p≤u→u<x→(lget o u)≤pv) (h2:∀ u,x≤u→u<q→pv<(lget o u)):PI a b x q l o:=by
 refine h.left ⟨by omega,hx.2⟩ (fun u v a1 a2 a3=>?_) (fun u v a1 a2 a3 a4=>?_)
 ·have:=h1 u a1 (by omega)
  have:=hmin v (by omega) (by omega)
  omega
 ·have:=h1 u a1 a2
  have:=h2 v a3 a4
  omega
end
set_option maxHeartbeats 64000000 in
theorem c157g:∀ (n a b:Nat),b - a≤n→a≤b→∀ (l:List Int) (hn:l.length≤1000) (lo:Nat) (S:AS) (v:Value) (ho:Own 3 lo S v l) (id:Nat) (hb:blkOf v=some id) (hbl:b≤l.length) (lim:Int) (hpre:Pre a b l),
  ∃ S' l',(evL Tryz.prog E0).call 157 #[v,.int .i64 (a:Int),.int .i64 (b:Int),.int .i64 lim] S=some (.tuple #[],S')∧Keep v S S'∧Own 3 lo S' v l'∧Sw a b l l'∧Srt a b l':=by
 intro n
 induction n with
 | zero =>
  intro a b hab hle l hn lo S v ho id hb hbl lim hpre
  generalize hz:(evL Tryz.prog E0).call 157 _ _=z
  rw [L_call,evCall_said rfl Tryz.func157 rfl (by decide) Tryz.ntmps157 Tryz.results157] at hz
  have w0:IntKind.i64.wrap ((b:Int) - (a:Int))=((b - a:Nat):Int):=by rw [IntWalk.i64_in]<;>omega
  have h12:decide (((b - a:Nat):Int)≤12)=true:=decide_eq_true (by omega)
  obtain ⟨S1,o1,k1,kp1,ow1,hs1,hr1⟩:=c175g l hn lo S v ho id hb a b hle hbl
  simp (disch:=first|omega|assumption) only [E0_G,SY,setArgs,off,agreeKind,Nat.reduceAdd,Nat.reduceSub,Nat.reduceLT] at hz
  rw [L_loop_step] at hz
  simp (disch:=first|omega|assumption) only [E0_G,SY,off,agreeKind,vals,Nat.reduceAdd,Nat.reduceLT,Nat.reduceBEq,w0,h12,k1] at hz
  exact ⟨S1,o1,hz.symm,kp1,ow1,hs1,hr1⟩
 | succ n ih =>
  intro a b hab hle l hn lo S v ho id hb hbl lim0 hpre
  generalize hz:(evL Tryz.prog E0).call 157 _ _=z
  rw [L_call,evCall_said rfl Tryz.func157 rfl (by decide) Tryz.ntmps157 Tryz.results157] at hz
  simp (disch:=first|omega|assumption) only [E0_G,SY,setArgs,off,agreeKind,Nat.reduceAdd,Nat.reduceSub,Nat.reduceLT] at hz
  generalize hL1:Rec.loop _ _ _ _=L1 at hz
  obtain ⟨x1,t1,S1e,rfl,hQ1⟩:=loop_met hL1 (fun m t S'=>∃ (p q:Nat) (o:List Int) (lim:Int) (wb wp:Bool),m+p=q+1∧PI a b p q l o∧t.get 0=some (v)∧t.get 1=some (.int .i64 (p:Int))∧t.get 2=some (.int .i64 (q:Int))∧t.get 3=some (.int .i64 lim)∧t.get 8=some (.bool wb)∧t.get 9=some (.bool wp)∧Keep v S S'∧Own 3 lo S' v o)
   (fun x t S'=>x=.ret∧∃ (o:List Int),Sw a b l o∧Srt a b o∧Keep v S S'∧Own 3 lo S' v o) (b+1 - a)
   ⟨a,b,l,lim0,true,true,by omega,PI.init hle hbl,by simp only [SY,eq_self,Nat.reduceBEq]<;>rfl,by simp only [SY,eq_self,Nat.reduceBEq]<;>rfl,by simp only [SY,eq_self,Nat.reduceBEq]<;>rfl,by simp only [SY,eq_self,Nat.reduceBEq]<;>rfl,by simp only [SY,eq_self,Nat.reduceBEq]<;>rfl,by simp only [SY,eq_self,Nat.reduceBEq]<;>rfl,Keep.refl v S,ho⟩ (by
    clear hz hL1
    rintro m t S1 ⟨p,q,o,lim,wb,wp,hm,pi,g0,g1,g2,g3,g10,g11,kp,ow⟩
    refine .run fun z he=>?_
    have hlo:=pi.sw.len
    have hap:=pi.ap
    have hpq:=pi.pq
    have hqb:=pi.qb
    have w0:IntKind.i64.wrap ((q:Int) - (p:Int))=((q - p:Nat):Int):=by rw [IntWalk.i64_in]<;>omega
    simp (disch:=first|omega|assumption) only [E0_G,SY,off,agreeKind,Nat.reduceAdd,Nat.reduceLT,Nat.reduceBEq,store_refl E0_same,g1,g2,w0] at he
    rcases dP (((q - p:Nat):Int)≤12) with ⟨h3a,h3⟩|⟨h3a,h3⟩
    ·obtain ⟨S2,o2,k2,kp2,ow2,hs2,hr2⟩:=c175g o (by omega) lo S1 v ow id hb p q hpq (by omega)
     simp (disch:=first|omega|assumption) only [E0_G,SY,off,agreeKind,vals,Nat.reduceAdd,Nat.reduceLT,Nat.reduceBEq,store_refl E0_same,g0,g1,g2,h3a,k2] at he
     exact .ret he ⟨rfl,o2,(pi.go hs2).sw,(pi.go hs2).fin hr2,kp.trans kp2,ow2⟩
    simp (disch:=first|omega|assumption) only [E0_G,SY,off,agreeKind,Nat.reduceAdd,Nat.reduceLT,Nat.reduceBEq,store_refl E0_same,g3,h3a] at he
    rcases dP (lim=0) with ⟨h4a,h4⟩|⟨h4a,h4⟩
    ·obtain ⟨S2,o2,k2,kp2,ow2,hs2,hr2⟩:=c176 o (by omega) lo S1 v ow id hb p q (by omega) (by omega)
     simp (disch:=first|omega|assumption) only [E0_G,SY,off,agreeKind,vals,Nat.reduceAdd,Nat.reduceLT,Nat.reduceBEq,store_refl E0_same,g0,g1,g2,h4a,k2] at he
     exact .ret he ⟨rfl,o2,(pi.go hs2).sw,(pi.go hs2).fin hr2,kp.trans kp2,ow2⟩
    simp (disch:=first|omega|assumption) only [E0_G,SY,off,agreeKind,Nat.reduceAdd,Nat.reduceLT,Nat.reduceBEq,store_refl E0_same,g10,h4a] at he
    cases wb
    ·obtain ⟨Sb,ob,kb,kpb,owb,hsb⟩:=c177 o (by omega) lo S1 v ow id hb p q (by omega) (by omega)
     have pib:=pi.go hsb
     have kpb':=kp.trans kpb
     simp (disch:=first|omega|assumption) only [E0_G,SY,off,agreeKind,vals,Nat.reduceAdd,Nat.reduceLT,Nat.reduceBEq,g0,g1,g2,g3,kb] at he
     have hlq:=(pib).sw.len
     obtain ⟨Sv,x,h,kv,hx,hh,av⟩:=c178 ob (by omega) lo Sb v owb id hb p q (by omega) (by omega)
     have owv:=owb.agree av
     have kpv:=kpb'.trans (Keep.of av)
     simp (disch:=first|omega|assumption) only [E0_G,SY,off,agreeKind,aExtract,Nat.reduceAdd,Nat.reduceLT,Nat.reduceBEq,store_refl E0_same,kv] at he
     rcases hh with rfl|rfl|rfl
     ·simp (disch:=first|omega|assumption) only [E0_G,SY,off,agreeKind,Nat.reduceAdd,Nat.reduceLT,Nat.reduceBEq,Int.reduceEq,g10] at he
      have hlr:=(pib).sw.len
      rw [code_draws _ _ _ (by kernel_rfl)] at he
      generalize hnd1:needy _=nd1 at he
      rcases dP ((0:Int)<(p:Int)) with ⟨h6a,h6⟩|⟨h6a,h6⟩
      ·have v1:IntKind.i64.wrap ((p:Int) - 1)=((p - 1:Nat):Int):=by rw [IntWalk.i64_in]<;>omega
       obtain ⟨loB,ltB,ccB,exB,hxB,hcB⟩:=own_cut owv hb
       obtain ⟨ofBx,hoBx,iaBx,pBx0⟩:=hcB (p - 1) (by omega)
       obtain ⟨ofBy,hoBy,iaBy,pBy0⟩:=hcB (x) (by omega)
       obtain ⟨SC,kC,aC⟩:=cL (lget ob (p - 1)) (lget ob (x)) Sv
       have sC:E0.same Sv SC=true:=symEnv_same aC
       simp (disch:=first|omega|assumption) only [E0_G,SY,agreeKind,vals,ldA,aggD,Nat.reduceAdd,Nat.reduceLT,Nat.reduceBEq,TY_EvO0,store_agree,store_refl E0_same,g0,g1,h6a,v1,hxB,iaBx,pBx0,iaBy,pBy0,kC] at he
       have owC:=owv.agree aC
       have kpC:=kpv.trans (Keep.of aC)
       rcases dP (cmpI (lget ob (p - 1)) (lget ob (x))<0) with ⟨h7a,h7⟩|⟨h7a,h7⟩
       ·simp (disch:=first|omega|assumption) only [E0_G,SY,off,agreeKind,vals,Nat.reduceAdd,Nat.reduceLT,Nat.reduceBEq,store_refl E0_same,g0,g1,g2,h7a] at he
        obtain ⟨Sp,op,y,t,kpa,kpp,owp,hsp,hyp,hlp,hup⟩:=c183 ob (by omega) lo SC v owC id hb p q x (by omega) (by omega) hx
        have pip:=(pib).go hsp
        have hlpp:=pip.sw.len
        have r1:IntKind.i64.wrap ((y:Int) - (p:Int))=((y - p:Nat):Int):=by rw [IntWalk.i64_in]<;>omega
        have r2:IntKind.i64.wrap ((q:Int) - (y:Int))=((q - y:Nat):Int):=by rw [IntWalk.i64_in]<;>omega
        have r3:IntKind.i64.wrap ((y:Int)+1)=((y+1:Nat):Int):=by rw [IntWalk.i64_in]<;>omega
        have r4:IntKind.i64.wrap (Int.tdiv ((q - p:Nat):Int) 8)=(((q - p) / 8:Nat):Int):=by rw [show Int.tdiv ((q - p:Nat):Int) 8=(((q - p) / 8:Nat):Int) from rfl,IntWalk.i64_in]<;>omega
        have prp:=pip.pre hpre
        simp (disch:=first|omega|assumption) only [E0_G,SY,off,agreeKind,aExtract,Nat.reduceAdd,Nat.reduceLT,Nat.reduceBEq,Int.reduceEq,store_refl E0_same,g1,g2,kpa,r1,r2,r4] at he
        rcases dP (((y - p:Nat):Int)<((q - y:Nat):Int)) with ⟨h8a,h8⟩|⟨h8a,h8⟩
        ·obtain ⟨Sr,or_,krc,kpr,owr,hsr,hrr⟩:=ih p y (by omega) (by omega) op (by omega) lo Sp v owp id hb (by omega) (IntKind.i64.wrap (lim - 1)) (fun h0 u h1 h2=>prp h0 u h1 (by omega))
         simp (disch:=first|omega|assumption) only [E0_G,SY,off,agreeKind,vals,Nat.reduceAdd,Nat.reduceLT,Nat.reduceBEq,store_refl E0_same,g0,g1,g3,r3,h8a,krc] at he
         have pir:=pip.go (hsr.mono (Nat.le_refl _) (by omega) (by omega))
         have ey:lget or_ y=lget op y:=hsr.out y (by omega)
         have hly:∀ u:Nat,p≤u→u<y→(lget or_ u)≤(lget op y):=hsr.all (P:=fun z=>z≤(lget op y)) hlp
         have pin:PI a b (y+1) q l or_:=pir.left ⟨by omega,by omega⟩ (fun u w h1 h2 h3=>by
          by_cases e:w=y
          ·subst e; rw [ey]; exact hly u h1 h2
          ·exact hrr u w h1 h2 (by omega)) (fun u w h1 h2 h3 h4=>by
          rw [hsr.out w (by omega)]
          have q1:=hup w (by omega) h4
          by_cases e:u=y
          ·subst e; rw [ey]; exact q1
          ·have:=hly u h1 (by omega); omega)
         exact .next he (m - (y+1 - p)) (by omega) ⟨y+1,q,or_,_,_,_,by omega,pin,by simp only [SY,eq_self,Nat.reduceBEq,g0]<;>rfl,by simp only [SY,eq_self,Nat.reduceBEq,g1]<;>rfl,by simp only [SY,eq_self,Nat.reduceBEq,g2]<;>rfl,by simp only [SY,Nat.reduceBEq,g3]<;>rfl,by simp only [SY,Nat.reduceBEq,g10]<;>rfl,by simp only [SY,Nat.reduceBEq,g11]<;>rfl,(kpC.trans kpp).trans kpr,owr⟩
        obtain ⟨Sr,or_,krc,kpr,owr,hsr,hrr⟩:=ih (y+1) q (by omega) (by omega) op (by omega) lo Sp v owp id hb (by omega) (IntKind.i64.wrap (lim - 1)) (fun h0 u h1 h2=>hup u (by omega) h2)
        simp (disch:=first|omega|assumption) only [E0_G,SY,off,agreeKind,vals,Nat.reduceAdd,Nat.reduceLT,Nat.reduceBEq,store_refl E0_same,g0,g2,g3,r3,h8a,krc] at he
        have pir:=pip.go (hsr.mono (by omega) (Nat.le_refl _) (by omega))
        have ey:lget or_ y=lget op y:=hsr.out y (by omega)
        have hly:∀ u:Nat,y+1≤u→u<q→(lget op y)≤(lget or_ u):=hsr.all (P:=fun z=>(lget op y)≤z) (fun u h1 h2=>hup u (by omega) h2)
        have pin:PI a b p y l or_:=pir.right ⟨by omega,by omega⟩ (fun u w h1 h2 h3=>by
         by_cases e:u=y
         ·subst e; rw [ey]; exact hly w (by omega) h3
         ·exact hrr u w (by omega) h2 h3) (fun u w h1 h2 h3 h4=>by
         rw [hsr.out u (by omega)]
         have q1:=hlp u h1 h2
         by_cases e:w=y
         ·subst e; rw [ey]; exact q1
         ·have:=hly w (by omega) h4; omega)
        exact .next he (m - (q - y)) (by omega) ⟨p,y,or_,_,_,_,by omega,pin,by simp only [SY,eq_self,Nat.reduceBEq,g0]<;>rfl,by simp only [SY,eq_self,Nat.reduceBEq,g1]<;>rfl,by simp only [SY,eq_self,Nat.reduceBEq,g2]<;>rfl,by simp only [SY,Nat.reduceBEq,g3]<;>rfl,by simp only [SY,Nat.reduceBEq,g10]<;>rfl,by simp only [SY,Nat.reduceBEq,g11]<;>rfl,(kpC.trans kpp).trans kpr,owr⟩
       rw [cmpI_lt] at h7
       obtain ⟨Sp,op,y,kpa,kpp,owp,hsp,hyp,hlp,hup⟩:=c182 ob (by omega) lo SC v owC id hb p q x (by omega) (by omega) hx
       have pr:=(pib).pre hpre (by omega)
       have hmin:∀ u:Nat,p≤u→u<q→(lget ob (x))≤(lget op u):=hsp.all (P:=fun z=>(lget ob (x))≤z) (fun u h1 h2=>by have:=pr u h1 h2; omega)
       have pin:=((pib).go hsp).equal hyp hmin hlp hup
       simp (disch:=first|omega|assumption) only [E0_G,SY,off,agreeKind,vals,eq_self,if_true,Nat.reduceAdd,Nat.reduceLT,Nat.reduceBEq,store_refl E0_same,g0,g1,g2,h7a,kpa] at he
       exact .next he (m - (y - p)) (by omega) ⟨y,q,op,_,_,_,by omega,pin,by simp only [SY,eq_self,Nat.reduceBEq,g0]<;>rfl,by simp only [SY,eq_self,Nat.reduceBEq,g1]<;>rfl,by simp only [SY,eq_self,Nat.reduceBEq,g2]<;>rfl,by simp only [SY,Nat.reduceBEq,g3]<;>rfl,by simp only [SY,Nat.reduceBEq,g10]<;>rfl,by simp only [SY,Nat.reduceBEq,g11]<;>rfl,kpC.trans kpp,owp⟩
      simp (disch:=first|omega|assumption) only [E0_G,SY,off,agreeKind,vals,Nat.reduceAdd,Nat.reduceLT,Nat.reduceBEq,store_refl E0_same,g0,g1,g2,h6a] at he
      obtain ⟨Sp,op,y,t,kpa,kpp,owp,hsp,hyp,hlp,hup⟩:=c183 ob (by omega) lo Sv v owv id hb p q x (by omega) (by omega) hx
      have pip:=(pib).go hsp
      have hlpp:=pip.sw.len
      have r1:IntKind.i64.wrap ((y:Int) - (p:Int))=((y - p:Nat):Int):=by rw [IntWalk.i64_in]<;>omega
      have r2:IntKind.i64.wrap ((q:Int) - (y:Int))=((q - y:Nat):Int):=by rw [IntWalk.i64_in]<;>omega
      have r3:IntKind.i64.wrap ((y:Int)+1)=((y+1:Nat):Int):=by rw [IntWalk.i64_in]<;>omega
      have r4:IntKind.i64.wrap (Int.tdiv ((q - p:Nat):Int) 8)=(((q - p) / 8:Nat):Int):=by rw [show Int.tdiv ((q - p:Nat):Int) 8=(((q - p) / 8:Nat):Int) from rfl,IntWalk.i64_in]<;>omega
      have prp:=pip.pre hpre
      simp (disch:=first|omega|assumption) only [E0_G,SY,off,agreeKind,aExtract,Nat.reduceAdd,Nat.reduceLT,Nat.reduceBEq,Int.reduceEq,store_refl E0_same,g1,g2,kpa,r1,r2,r4] at he
      rcases dP (((y - p:Nat):Int)<((q - y:Nat):Int)) with ⟨h8a,h8⟩|⟨h8a,h8⟩
      ·obtain ⟨Sr,or_,krc,kpr,owr,hsr,hrr⟩:=ih p y (by omega) (by omega) op (by omega) lo Sp v owp id hb (by omega) (IntKind.i64.wrap (lim - 1)) (fun h0 u h1 h2=>prp h0 u h1 (by omega))
       simp (disch:=first|omega|assumption) only [E0_G,SY,off,agreeKind,vals,Nat.reduceAdd,Nat.reduceLT,Nat.reduceBEq,store_refl E0_same,g0,g1,g3,r3,h8a,krc] at he
       have pir:=pip.go (hsr.mono (Nat.le_refl _) (by omega) (by omega))
       have ey:lget or_ y=lget op y:=hsr.out y (by omega)
       have hly:∀ u:Nat,p≤u→u<y→(lget or_ u)≤(lget op y):=hsr.all (P:=fun z=>z≤(lget op y)) hlp
       have pin:PI a b (y+1) q l or_:=pir.left ⟨by omega,by omega⟩ (fun u w h1 h2 h3=>by
        by_cases e:w=y
        ·subst e; rw [ey]; exact hly u h1 h2
        ·exact hrr u w h1 h2 (by omega)) (fun u w h1 h2 h3 h4=>by
        rw [hsr.out w (by omega)]
        have q1:=hup w (by omega) h4
        by_cases e:u=y
        ·subst e; rw [ey]; exact q1
        ·have:=hly u h1 (by omega); omega)
       exact .next he (m - (y+1 - p)) (by omega) ⟨y+1,q,or_,_,_,_,by omega,pin,by simp only [SY,eq_self,Nat.reduceBEq,g0]<;>rfl,by simp only [SY,eq_self,Nat.reduceBEq,g1]<;>rfl,by simp only [SY,eq_self,Nat.reduceBEq,g2]<;>rfl,by simp only [SY,Nat.reduceBEq,g3]<;>rfl,by simp only [SY,Nat.reduceBEq,g10]<;>rfl,by simp only [SY,Nat.reduceBEq,g11]<;>rfl,(kpv.trans kpp).trans kpr,owr⟩
      obtain ⟨Sr,or_,krc,kpr,owr,hsr,hrr⟩:=ih (y+1) q (by omega) (by omega) op (by omega) lo Sp v owp id hb (by omega) (IntKind.i64.wrap (lim - 1)) (fun h0 u h1 h2=>hup u (by omega) h2)
      simp (disch:=first|omega|assumption) only [E0_G,SY,off,agreeKind,vals,Nat.reduceAdd,Nat.reduceLT,Nat.reduceBEq,store_refl E0_same,g0,g2,g3,r3,h8a,krc] at he
      have pir:=pip.go (hsr.mono (by omega) (Nat.le_refl _) (by omega))
      have ey:lget or_ y=lget op y:=hsr.out y (by omega)
      have hly:∀ u:Nat,y+1≤u→u<q→(lget op y)≤(lget or_ u):=hsr.all (P:=fun z=>(lget op y)≤z) (fun u h1 h2=>hup u (by omega) h2)
      have pin:PI a b p y l or_:=pir.right ⟨by omega,by omega⟩ (fun u w h1 h2 h3=>by
       by_cases e:u=y
       ·subst e; rw [ey]; exact hly w (by omega) h3
       ·exact hrr u w (by omega) h2 h3) (fun u w h1 h2 h3 h4=>by
       rw [hsr.out u (by omega)]
       have q1:=hlp u h1 h2
       by_cases e:w=y
       ·subst e; rw [ey]; exact q1
       ·have:=hly w (by omega) h4; omega)
      exact .next he (m - (q - y)) (by omega) ⟨p,y,or_,_,_,_,by omega,pin,by simp only [SY,eq_self,Nat.reduceBEq,g0]<;>rfl,by simp only [SY,eq_self,Nat.reduceBEq,g1]<;>rfl,by simp only [SY,eq_self,Nat.reduceBEq,g2]<;>rfl,by simp only [SY,Nat.reduceBEq,g3]<;>rfl,by simp only [SY,Nat.reduceBEq,g10]<;>rfl,by simp only [SY,Nat.reduceBEq,g11]<;>rfl,(kpv.trans kpp).trans kpr,owr⟩
     ·simp (disch:=first|omega|assumption) only [E0_G,SY,off,agreeKind,Nat.reduceAdd,Nat.reduceLT,Nat.reduceBEq,Int.reduceEq,g10] at he
      have hlr:=(pib).sw.len
      rw [code_draws _ _ _ (by kernel_rfl)] at he
      generalize hnd2:needy _=nd2 at he
      rcases dP ((0:Int)<(p:Int)) with ⟨h6a,h6⟩|⟨h6a,h6⟩
      ·have v1:IntKind.i64.wrap ((p:Int) - 1)=((p - 1:Nat):Int):=by rw [IntWalk.i64_in]<;>omega
       obtain ⟨loB,ltB,ccB,exB,hxB,hcB⟩:=own_cut owv hb
       obtain ⟨ofBx,hoBx,iaBx,pBx0⟩:=hcB (p - 1) (by omega)
       obtain ⟨ofBy,hoBy,iaBy,pBy0⟩:=hcB (x) (by omega)
       obtain ⟨SC,kC,aC⟩:=cL (lget ob (p - 1)) (lget ob (x)) Sv
       have sC:E0.same Sv SC=true:=symEnv_same aC
       simp (disch:=first|omega|assumption) only [E0_G,SY,agreeKind,vals,ldA,aggD,Nat.reduceAdd,Nat.reduceLT,Nat.reduceBEq,TY_EvO0,store_agree,store_refl E0_same,g0,g1,h6a,v1,hxB,iaBx,pBx0,iaBy,pBy0,kC] at he
       have owC:=owv.agree aC
       have kpC:=kpv.trans (Keep.of aC)
       rcases dP (cmpI (lget ob (p - 1)) (lget ob (x))<0) with ⟨h7a,h7⟩|⟨h7a,h7⟩
       ·simp (disch:=first|omega|assumption) only [E0_G,SY,off,agreeKind,vals,Nat.reduceAdd,Nat.reduceLT,Nat.reduceBEq,store_refl E0_same,g0,g1,g2,h7a] at he
        obtain ⟨Sp,op,y,t,kpa,kpp,owp,hsp,hyp,hlp,hup⟩:=c183 ob (by omega) lo SC v owC id hb p q x (by omega) (by omega) hx
        have pip:=(pib).go hsp
        have hlpp:=pip.sw.len
        have r1:IntKind.i64.wrap ((y:Int) - (p:Int))=((y - p:Nat):Int):=by rw [IntWalk.i64_in]<;>omega
        have r2:IntKind.i64.wrap ((q:Int) - (y:Int))=((q - y:Nat):Int):=by rw [IntWalk.i64_in]<;>omega
        have r3:IntKind.i64.wrap ((y:Int)+1)=((y+1:Nat):Int):=by rw [IntWalk.i64_in]<;>omega
        have r4:IntKind.i64.wrap (Int.tdiv ((q - p:Nat):Int) 8)=(((q - p) / 8:Nat):Int):=by rw [show Int.tdiv ((q - p:Nat):Int) 8=(((q - p) / 8:Nat):Int) from rfl,IntWalk.i64_in]<;>omega
        have prp:=pip.pre hpre
        simp (disch:=first|omega|assumption) only [E0_G,SY,off,agreeKind,aExtract,Nat.reduceAdd,Nat.reduceLT,Nat.reduceBEq,Int.reduceEq,store_refl E0_same,g1,g2,kpa,r1,r2,r4] at he
        rcases dP (((y - p:Nat):Int)<((q - y:Nat):Int)) with ⟨h8a,h8⟩|⟨h8a,h8⟩
        ·obtain ⟨Sr,or_,krc,kpr,owr,hsr,hrr⟩:=ih p y (by omega) (by omega) op (by omega) lo Sp v owp id hb (by omega) (IntKind.i64.wrap (lim - 1)) (fun h0 u h1 h2=>prp h0 u h1 (by omega))
         simp (disch:=first|omega|assumption) only [E0_G,SY,off,agreeKind,vals,Nat.reduceAdd,Nat.reduceLT,Nat.reduceBEq,store_refl E0_same,g0,g1,g3,r3,h8a,krc] at he
         have pir:=pip.go (hsr.mono (Nat.le_refl _) (by omega) (by omega))
         have ey:lget or_ y=lget op y:=hsr.out y (by omega)
         have hly:∀ u:Nat,p≤u→u<y→(lget or_ u)≤(lget op y):=hsr.all (P:=fun z=>z≤(lget op y)) hlp
         have pin:PI a b (y+1) q l or_:=pir.left ⟨by omega,by omega⟩ (fun u w h1 h2 h3=>by
          by_cases e:w=y
          ·subst e; rw [ey]; exact hly u h1 h2
          ·exact hrr u w h1 h2 (by omega)) (fun u w h1 h2 h3 h4=>by
          rw [hsr.out w (by omega)]
          have q1:=hup w (by omega) h4
          by_cases e:u=y
          ·subst e; rw [ey]; exact q1
          ·have:=hly u h1 (by omega); omega)
         exact .next he (m - (y+1 - p)) (by omega) ⟨y+1,q,or_,_,_,_,by omega,pin,by simp only [SY,eq_self,Nat.reduceBEq,g0]<;>rfl,by simp only [SY,eq_self,Nat.reduceBEq,g1]<;>rfl,by simp only [SY,eq_self,Nat.reduceBEq,g2]<;>rfl,by simp only [SY,Nat.reduceBEq,g3]<;>rfl,by simp only [SY,Nat.reduceBEq,g10]<;>rfl,by simp only [SY,Nat.reduceBEq,g11]<;>rfl,(kpC.trans kpp).trans kpr,owr⟩
        obtain ⟨Sr,or_,krc,kpr,owr,hsr,hrr⟩:=ih (y+1) q (by omega) (by omega) op (by omega) lo Sp v owp id hb (by omega) (IntKind.i64.wrap (lim - 1)) (fun h0 u h1 h2=>hup u (by omega) h2)
        simp (disch:=first|omega|assumption) only [E0_G,SY,off,agreeKind,vals,Nat.reduceAdd,Nat.reduceLT,Nat.reduceBEq,store_refl E0_same,g0,g2,g3,r3,h8a,krc] at he
        have pir:=pip.go (hsr.mono (by omega) (Nat.le_refl _) (by omega))
        have ey:lget or_ y=lget op y:=hsr.out y (by omega)
        have hly:∀ u:Nat,y+1≤u→u<q→(lget op y)≤(lget or_ u):=hsr.all (P:=fun z=>(lget op y)≤z) (fun u h1 h2=>hup u (by omega) h2)
        have pin:PI a b p y l or_:=pir.right ⟨by omega,by omega⟩ (fun u w h1 h2 h3=>by
         by_cases e:u=y
         ·subst e; rw [ey]; exact hly w (by omega) h3
         ·exact hrr u w (by omega) h2 h3) (fun u w h1 h2 h3 h4=>by
         rw [hsr.out u (by omega)]
         have q1:=hlp u h1 h2
         by_cases e:w=y
         ·subst e; rw [ey]; exact q1
         ·have:=hly w (by omega) h4; omega)
        exact .next he (m - (q - y)) (by omega) ⟨p,y,or_,_,_,_,by omega,pin,by simp only [SY,eq_self,Nat.reduceBEq,g0]<;>rfl,by simp only [SY,eq_self,Nat.reduceBEq,g1]<;>rfl,by simp only [SY,eq_self,Nat.reduceBEq,g2]<;>rfl,by simp only [SY,Nat.reduceBEq,g3]<;>rfl,by simp only [SY,Nat.reduceBEq,g10]<;>rfl,by simp only [SY,Nat.reduceBEq,g11]<;>rfl,(kpC.trans kpp).trans kpr,owr⟩
       rw [cmpI_lt] at h7
       obtain ⟨Sp,op,y,kpa,kpp,owp,hsp,hyp,hlp,hup⟩:=c182 ob (by omega) lo SC v owC id hb p q x (by omega) (by omega) hx
       have pr:=(pib).pre hpre (by omega)
       have hmin:∀ u:Nat,p≤u→u<q→(lget ob (x))≤(lget op u):=hsp.all (P:=fun z=>(lget ob (x))≤z) (fun u h1 h2=>by have:=pr u h1 h2; omega)
       have pin:=((pib).go hsp).equal hyp hmin hlp hup
       simp (disch:=first|omega|assumption) only [E0_G,SY,off,agreeKind,vals,eq_self,if_true,Nat.reduceAdd,Nat.reduceLT,Nat.reduceBEq,store_refl E0_same,g0,g1,g2,h7a,kpa] at he
       exact .next he (m - (y - p)) (by omega) ⟨y,q,op,_,_,_,by omega,pin,by simp only [SY,eq_self,Nat.reduceBEq,g0]<;>rfl,by simp only [SY,eq_self,Nat.reduceBEq,g1]<;>rfl,by simp only [SY,eq_self,Nat.reduceBEq,g2]<;>rfl,by simp only [SY,Nat.reduceBEq,g3]<;>rfl,by simp only [SY,Nat.reduceBEq,g10]<;>rfl,by simp only [SY,Nat.reduceBEq,g11]<;>rfl,kpC.trans kpp,owp⟩
      simp (disch:=first|omega|assumption) only [E0_G,SY,off,agreeKind,vals,Nat.reduceAdd,Nat.reduceLT,Nat.reduceBEq,store_refl E0_same,g0,g1,g2,h6a] at he
      obtain ⟨Sp,op,y,t,kpa,kpp,owp,hsp,hyp,hlp,hup⟩:=c183 ob (by omega) lo Sv v owv id hb p q x (by omega) (by omega) hx
      have pip:=(pib).go hsp
      have hlpp:=pip.sw.len
      have r1:IntKind.i64.wrap ((y:Int) - (p:Int))=((y - p:Nat):Int):=by rw [IntWalk.i64_in]<;>omega
      have r2:IntKind.i64.wrap ((q:Int) - (y:Int))=((q - y:Nat):Int):=by rw [IntWalk.i64_in]<;>omega
      have r3:IntKind.i64.wrap ((y:Int)+1)=((y+1:Nat):Int):=by rw [IntWalk.i64_in]<;>omega
      have r4:IntKind.i64.wrap (Int.tdiv ((q - p:Nat):Int) 8)=(((q - p) / 8:Nat):Int):=by rw [show Int.tdiv ((q - p:Nat):Int) 8=(((q - p) / 8:Nat):Int) from rfl,IntWalk.i64_in]<;>omega
      have prp:=pip.pre hpre
      simp (disch:=first|omega|assumption) only [E0_G,SY,off,agreeKind,aExtract,Nat.reduceAdd,Nat.reduceLT,Nat.reduceBEq,Int.reduceEq,store_refl E0_same,g1,g2,kpa,r1,r2,r4] at he
      rcases dP (((y - p:Nat):Int)<((q - y:Nat):Int)) with ⟨h8a,h8⟩|⟨h8a,h8⟩
      ·obtain ⟨Sr,or_,krc,kpr,owr,hsr,hrr⟩:=ih p y (by omega) (by omega) op (by omega) lo Sp v owp id hb (by omega) (IntKind.i64.wrap (lim - 1)) (fun h0 u h1 h2=>prp h0 u h1 (by omega))
       simp (disch:=first|omega|assumption) only [E0_G,SY,off,agreeKind,vals,Nat.reduceAdd,Nat.reduceLT,Nat.reduceBEq,store_refl E0_same,g0,g1,g3,r3,h8a,krc] at he
       have pir:=pip.go (hsr.mono (Nat.le_refl _) (by omega) (by omega))
       have ey:lget or_ y=lget op y:=hsr.out y (by omega)
       have hly:∀ u:Nat,p≤u→u<y→(lget or_ u)≤(lget op y):=hsr.all (P:=fun z=>z≤(lget op y)) hlp
       have pin:PI a b (y+1) q l or_:=pir.left ⟨by omega,by omega⟩ (fun u w h1 h2 h3=>by
        by_cases e:w=y
        ·subst e; rw [ey]; exact hly u h1 h2
        ·exact hrr u w h1 h2 (by omega)) (fun u w h1 h2 h3 h4=>by
        rw [hsr.out w (by omega)]
        have q1:=hup w (by omega) h4
        by_cases e:u=y
        ·subst e; rw [ey]; exact q1
        ·have:=hly u h1 (by omega); omega)
       exact .next he (m - (y+1 - p)) (by omega) ⟨y+1,q,or_,_,_,_,by omega,pin,by simp only [SY,eq_self,Nat.reduceBEq,g0]<;>rfl,by simp only [SY,eq_self,Nat.reduceBEq,g1]<;>rfl,by simp only [SY,eq_self,Nat.reduceBEq,g2]<;>rfl,by simp only [SY,Nat.reduceBEq,g3]<;>rfl,by simp only [SY,Nat.reduceBEq,g10]<;>rfl,by simp only [SY,Nat.reduceBEq,g11]<;>rfl,(kpv.trans kpp).trans kpr,owr⟩
      obtain ⟨Sr,or_,krc,kpr,owr,hsr,hrr⟩:=ih (y+1) q (by omega) (by omega) op (by omega) lo Sp v owp id hb (by omega) (IntKind.i64.wrap (lim - 1)) (fun h0 u h1 h2=>hup u (by omega) h2)
      simp (disch:=first|omega|assumption) only [E0_G,SY,off,agreeKind,vals,Nat.reduceAdd,Nat.reduceLT,Nat.reduceBEq,store_refl E0_same,g0,g2,g3,r3,h8a,krc] at he
      have pir:=pip.go (hsr.mono (by omega) (Nat.le_refl _) (by omega))
      have ey:lget or_ y=lget op y:=hsr.out y (by omega)
      have hly:∀ u:Nat,y+1≤u→u<q→(lget op y)≤(lget or_ u):=hsr.all (P:=fun z=>(lget op y)≤z) (fun u h1 h2=>hup u (by omega) h2)
      have pin:PI a b p y l or_:=pir.right ⟨by omega,by omega⟩ (fun u w h1 h2 h3=>by
       by_cases e:u=y
       ·subst e; rw [ey]; exact hly w (by omega) h3
       ·exact hrr u w (by omega) h2 h3) (fun u w h1 h2 h3 h4=>by
       rw [hsr.out u (by omega)]
       have q1:=hlp u h1 h2
       by_cases e:w=y
       ·subst e; rw [ey]; exact q1
       ·have:=hly w (by omega) h4; omega)
      exact .next he (m - (q - y)) (by omega) ⟨p,y,or_,_,_,_,by omega,pin,by simp only [SY,eq_self,Nat.reduceBEq,g0]<;>rfl,by simp only [SY,eq_self,Nat.reduceBEq,g1]<;>rfl,by simp only [SY,eq_self,Nat.reduceBEq,g2]<;>rfl,by simp only [SY,Nat.reduceBEq,g3]<;>rfl,by simp only [SY,Nat.reduceBEq,g10]<;>rfl,by simp only [SY,Nat.reduceBEq,g11]<;>rfl,(kpv.trans kpp).trans kpr,owr⟩
     obtain ⟨Sw_,ow_,kw,kpw,oww,hsw⟩:=c179 ob (by omega) lo Sv v owv id hb p q (by omega) (by omega)
     have piw:=(pib).go hsw
     have y1:IntKind.i64.wrap ((q:Int) - 1)=((q - 1:Nat):Int):=by rw [IntWalk.i64_in]<;>omega
     have y2:IntKind.i64.wrap ((x:Int) - (p:Int))=((x - p:Nat):Int):=by rw [IntWalk.i64_in]<;>omega
     have y3:IntKind.i64.wrap (((q - 1:Nat):Int) - ((x - p:Nat):Int))=((q - 1 - (x - p):Nat):Int):=by rw [IntWalk.i64_in]<;>omega
     simp (disch:=first|omega|assumption) only [E0_G,SY,off,agreeKind,vals,eq_self,Nat.reduceAdd,Nat.reduceLT,Nat.reduceBEq,store_refl E0_same,g0,g1,g2,g10,kw,y1,y2,y3] at he
     have hlr:=(piw).sw.len
     rw [code_draws _ _ _ (by kernel_rfl)] at he
     generalize hnd3:needy _=nd3 at he
     rcases dP ((0:Int)<(p:Int)) with ⟨h6a,h6⟩|⟨h6a,h6⟩
     ·have v1:IntKind.i64.wrap ((p:Int) - 1)=((p - 1:Nat):Int):=by rw [IntWalk.i64_in]<;>omega
      obtain ⟨loB,ltB,ccB,exB,hxB,hcB⟩:=own_cut oww hb
      obtain ⟨ofBx,hoBx,iaBx,pBx0⟩:=hcB (p - 1) (by omega)
      obtain ⟨ofBy,hoBy,iaBy,pBy0⟩:=hcB ((q - 1 - (x - p))) (by omega)
      obtain ⟨SC,kC,aC⟩:=cL (lget ow_ (p - 1)) (lget ow_ ((q - 1 - (x - p)))) Sw_
      have sC:E0.same Sw_ SC=true:=symEnv_same aC
      simp (disch:=first|omega|assumption) only [E0_G,SY,agreeKind,vals,ldA,aggD,Nat.reduceAdd,Nat.reduceLT,Nat.reduceBEq,TY_EvO0,store_agree,store_refl E0_same,g0,g1,h6a,v1,hxB,iaBx,pBx0,iaBy,pBy0,kC] at he
      have owC:=oww.agree aC
      have kpC:=(kpv.trans kpw).trans (Keep.of aC)
      rcases dP (cmpI (lget ow_ (p - 1)) (lget ow_ ((q - 1 - (x - p))))<0) with ⟨h7a,h7⟩|⟨h7a,h7⟩
      ·simp (disch:=first|omega|assumption) only [E0_G,SY,off,agreeKind,vals,Nat.reduceAdd,Nat.reduceLT,Nat.reduceBEq,store_refl E0_same,g0,g1,g2,h7a] at he
       obtain ⟨Sp,op,y,t,kpa,kpp,owp,hsp,hyp,hlp,hup⟩:=c183 ow_ (by omega) lo SC v owC id hb p q (q - 1 - (x - p)) (by omega) (by omega) ⟨by omega,by omega⟩
       have pip:=(piw).go hsp
       have hlpp:=pip.sw.len
       have r1:IntKind.i64.wrap ((y:Int) - (p:Int))=((y - p:Nat):Int):=by rw [IntWalk.i64_in]<;>omega
       have r2:IntKind.i64.wrap ((q:Int) - (y:Int))=((q - y:Nat):Int):=by rw [IntWalk.i64_in]<;>omega
       have r3:IntKind.i64.wrap ((y:Int)+1)=((y+1:Nat):Int):=by rw [IntWalk.i64_in]<;>omega
       have r4:IntKind.i64.wrap (Int.tdiv ((q - p:Nat):Int) 8)=(((q - p) / 8:Nat):Int):=by rw [show Int.tdiv ((q - p:Nat):Int) 8=(((q - p) / 8:Nat):Int) from rfl,IntWalk.i64_in]<;>omega
       have prp:=pip.pre hpre
       simp (disch:=first|omega|assumption) only [E0_G,SY,off,agreeKind,aExtract,Nat.reduceAdd,Nat.reduceLT,Nat.reduceBEq,Int.reduceEq,store_refl E0_same,g1,g2,kpa,r1,r2,r4] at he
       rcases dP (((y - p:Nat):Int)<((q - y:Nat):Int)) with ⟨h8a,h8⟩|⟨h8a,h8⟩
       ·obtain ⟨Sr,or_,krc,kpr,owr,hsr,hrr⟩:=ih p y (by omega) (by omega) op (by omega) lo Sp v owp id hb (by omega) (IntKind.i64.wrap (lim - 1)) (fun h0 u h1 h2=>prp h0 u h1 (by omega))
        simp (disch:=first|omega|assumption) only [E0_G,SY,off,agreeKind,vals,Nat.reduceAdd,Nat.reduceLT,Nat.reduceBEq,store_refl E0_same,g0,g1,g3,r3,h8a,krc] at he
        have pir:=pip.go (hsr.mono (Nat.le_refl _) (by omega) (by omega))
        have ey:lget or_ y=lget op y:=hsr.out y (by omega)
        have hly:∀ u:Nat,p≤u→u<y→(lget or_ u)≤(lget op y):=hsr.all (P:=fun z=>z≤(lget op y)) hlp
        have pin:PI a b (y+1) q l or_:=pir.left ⟨by omega,by omega⟩ (fun u w h1 h2 h3=>by
         by_cases e:w=y
         ·subst e; rw [ey]; exact hly u h1 h2
         ·exact hrr u w h1 h2 (by omega)) (fun u w h1 h2 h3 h4=>by
         rw [hsr.out w (by omega)]
         have q1:=hup w (by omega) h4
         by_cases e:u=y
         ·subst e; rw [ey]; exact q1
         ·have:=hly u h1 (by omega); omega)
        exact .next he (m - (y+1 - p)) (by omega) ⟨y+1,q,or_,_,_,_,by omega,pin,by simp only [SY,eq_self,Nat.reduceBEq,g0]<;>rfl,by simp only [SY,eq_self,Nat.reduceBEq,g1]<;>rfl,by simp only [SY,eq_self,Nat.reduceBEq,g2]<;>rfl,by simp only [SY,Nat.reduceBEq,g3]<;>rfl,by simp only [SY,Nat.reduceBEq,g10]<;>rfl,by simp only [SY,Nat.reduceBEq,g11]<;>rfl,(kpC.trans kpp).trans kpr,owr⟩
       obtain ⟨Sr,or_,krc,kpr,owr,hsr,hrr⟩:=ih (y+1) q (by omega) (by omega) op (by omega) lo Sp v owp id hb (by omega) (IntKind.i64.wrap (lim - 1)) (fun h0 u h1 h2=>hup u (by omega) h2)
       simp (disch:=first|omega|assumption) only [E0_G,SY,off,agreeKind,vals,Nat.reduceAdd,Nat.reduceLT,Nat.reduceBEq,store_refl E0_same,g0,g2,g3,r3,h8a,krc] at he
       have pir:=pip.go (hsr.mono (by omega) (Nat.le_refl _) (by omega))
       have ey:lget or_ y=lget op y:=hsr.out y (by omega)
       have hly:∀ u:Nat,y+1≤u→u<q→(lget op y)≤(lget or_ u):=hsr.all (P:=fun z=>(lget op y)≤z) (fun u h1 h2=>hup u (by omega) h2)
       have pin:PI a b p y l or_:=pir.right ⟨by omega,by omega⟩ (fun u w h1 h2 h3=>by
        by_cases e:u=y
        ·subst e; rw [ey]; exact hly w (by omega) h3
        ·exact hrr u w (by omega) h2 h3) (fun u w h1 h2 h3 h4=>by
        rw [hsr.out u (by omega)]
        have q1:=hlp u h1 h2
        by_cases e:w=y
        ·subst e; rw [ey]; exact q1
        ·have:=hly w (by omega) h4; omega)
       exact .next he (m - (q - y)) (by omega) ⟨p,y,or_,_,_,_,by omega,pin,by simp only [SY,eq_self,Nat.reduceBEq,g0]<;>rfl,by simp only [SY,eq_self,Nat.reduceBEq,g1]<;>rfl,by simp only [SY,eq_self,Nat.reduceBEq,g2]<;>rfl,by simp only [SY,Nat.reduceBEq,g3]<;>rfl,by simp only [SY,Nat.reduceBEq,g10]<;>rfl,by simp only [SY,Nat.reduceBEq,g11]<;>rfl,(kpC.trans kpp).trans kpr,owr⟩
      rw [cmpI_lt] at h7
      obtain ⟨Sp,op,y,kpa,kpp,owp,hsp,hyp,hlp,hup⟩:=c182 ow_ (by omega) lo SC v owC id hb p q (q - 1 - (x - p)) (by omega) (by omega) ⟨by omega,by omega⟩
      have pr:=(piw).pre hpre (by omega)
      have hmin:∀ u:Nat,p≤u→u<q→(lget ow_ ((q - 1 - (x - p))))≤(lget op u):=hsp.all (P:=fun z=>(lget ow_ ((q - 1 - (x - p))))≤z) (fun u h1 h2=>by have:=pr u h1 h2; omega)
      have pin:=((piw).go hsp).equal hyp hmin hlp hup
      simp (disch:=first|omega|assumption) only [E0_G,SY,off,agreeKind,vals,eq_self,if_true,Nat.reduceAdd,Nat.reduceLT,Nat.reduceBEq,store_refl E0_same,g0,g1,g2,h7a,kpa] at he
      exact .next he (m - (y - p)) (by omega) ⟨y,q,op,_,_,_,by omega,pin,by simp only [SY,eq_self,Nat.reduceBEq,g0]<;>rfl,by simp only [SY,eq_self,Nat.reduceBEq,g1]<;>rfl,by simp only [SY,eq_self,Nat.reduceBEq,g2]<;>rfl,by simp only [SY,Nat.reduceBEq,g3]<;>rfl,by simp only [SY,Nat.reduceBEq,g10]<;>rfl,by simp only [SY,Nat.reduceBEq,g11]<;>rfl,kpC.trans kpp,owp⟩
     simp (disch:=first|omega|assumption) only [E0_G,SY,off,agreeKind,vals,Nat.reduceAdd,Nat.reduceLT,Nat.reduceBEq,store_refl E0_same,g0,g1,g2,h6a] at he
     obtain ⟨Sp,op,y,t,kpa,kpp,owp,hsp,hyp,hlp,hup⟩:=c183 ow_ (by omega) lo Sw_ v oww id hb p q (q - 1 - (x - p)) (by omega) (by omega) ⟨by omega,by omega⟩
     have pip:=(piw).go hsp
     have hlpp:=pip.sw.len
     have r1:IntKind.i64.wrap ((y:Int) - (p:Int))=((y - p:Nat):Int):=by rw [IntWalk.i64_in]<;>omega
     have r2:IntKind.i64.wrap ((q:Int) - (y:Int))=((q - y:Nat):Int):=by rw [IntWalk.i64_in]<;>omega
     have r3:IntKind.i64.wrap ((y:Int)+1)=((y+1:Nat):Int):=by rw [IntWalk.i64_in]<;>omega
     have r4:IntKind.i64.wrap (Int.tdiv ((q - p:Nat):Int) 8)=(((q - p) / 8:Nat):Int):=by rw [show Int.tdiv ((q - p:Nat):Int) 8=(((q - p) / 8:Nat):Int) from rfl,IntWalk.i64_in]<;>omega
     have prp:=pip.pre hpre
     simp (disch:=first|omega|assumption) only [E0_G,SY,off,agreeKind,aExtract,Nat.reduceAdd,Nat.reduceLT,Nat.reduceBEq,Int.reduceEq,store_refl E0_same,g1,g2,kpa,r1,r2,r4] at he
     rcases dP (((y - p:Nat):Int)<((q - y:Nat):Int)) with ⟨h8a,h8⟩|⟨h8a,h8⟩
     ·obtain ⟨Sr,or_,krc,kpr,owr,hsr,hrr⟩:=ih p y (by omega) (by omega) op (by omega) lo Sp v owp id hb (by omega) (IntKind.i64.wrap (lim - 1)) (fun h0 u h1 h2=>prp h0 u h1 (by omega))
      simp (disch:=first|omega|assumption) only [E0_G,SY,off,agreeKind,vals,Nat.reduceAdd,Nat.reduceLT,Nat.reduceBEq,store_refl E0_same,g0,g1,g3,r3,h8a,krc] at he
      have pir:=pip.go (hsr.mono (Nat.le_refl _) (by omega) (by omega))
      have ey:lget or_ y=lget op y:=hsr.out y (by omega)
      have hly:∀ u:Nat,p≤u→u<y→(lget or_ u)≤(lget op y):=hsr.all (P:=fun z=>z≤(lget op y)) hlp
      have pin:PI a b (y+1) q l or_:=pir.left ⟨by omega,by omega⟩ (fun u w h1 h2 h3=>by
       by_cases e:w=y
       ·subst e; rw [ey]; exact hly u h1 h2
       ·exact hrr u w h1 h2 (by omega)) (fun u w h1 h2 h3 h4=>by
       rw [hsr.out w (by omega)]
       have q1:=hup w (by omega) h4
       by_cases e:u=y
       ·subst e; rw [ey]; exact q1
       ·have:=hly u h1 (by omega); omega)
      exact .next he (m - (y+1 - p)) (by omega) ⟨y+1,q,or_,_,_,_,by omega,pin,by simp only [SY,eq_self,Nat.reduceBEq,g0]<;>rfl,by simp only [SY,eq_self,Nat.reduceBEq,g1]<;>rfl,by simp only [SY,eq_self,Nat.reduceBEq,g2]<;>rfl,by simp only [SY,Nat.reduceBEq,g3]<;>rfl,by simp only [SY,Nat.reduceBEq,g10]<;>rfl,by simp only [SY,Nat.reduceBEq,g11]<;>rfl,((kpv.trans kpw).trans kpp).trans kpr,owr⟩
     obtain ⟨Sr,or_,krc,kpr,owr,hsr,hrr⟩:=ih (y+1) q (by omega) (by omega) op (by omega) lo Sp v owp id hb (by omega) (IntKind.i64.wrap (lim - 1)) (fun h0 u h1 h2=>hup u (by omega) h2)
     simp (disch:=first|omega|assumption) only [E0_G,SY,off,agreeKind,vals,Nat.reduceAdd,Nat.reduceLT,Nat.reduceBEq,store_refl E0_same,g0,g2,g3,r3,h8a,krc] at he
     have pir:=pip.go (hsr.mono (by omega) (Nat.le_refl _) (by omega))
     have ey:lget or_ y=lget op y:=hsr.out y (by omega)
     have hly:∀ u:Nat,y+1≤u→u<q→(lget op y)≤(lget or_ u):=hsr.all (P:=fun z=>(lget op y)≤z) (fun u h1 h2=>hup u (by omega) h2)
     have pin:PI a b p y l or_:=pir.right ⟨by omega,by omega⟩ (fun u w h1 h2 h3=>by
      by_cases e:u=y
      ·subst e; rw [ey]; exact hly w (by omega) h3
      ·exact hrr u w (by omega) h2 h3) (fun u w h1 h2 h3 h4=>by
      rw [hsr.out u (by omega)]
      have q1:=hlp u h1 h2
      by_cases e:w=y
      ·subst e; rw [ey]; exact q1
      ·have:=hly w (by omega) h4; omega)
     exact .next he (m - (q - y)) (by omega) ⟨p,y,or_,_,_,_,by omega,pin,by simp only [SY,eq_self,Nat.reduceBEq,g0]<;>rfl,by simp only [SY,eq_self,Nat.reduceBEq,g1]<;>rfl,by simp only [SY,eq_self,Nat.reduceBEq,g2]<;>rfl,by simp only [SY,Nat.reduceBEq,g3]<;>rfl,by simp only [SY,Nat.reduceBEq,g10]<;>rfl,by simp only [SY,Nat.reduceBEq,g11]<;>rfl,((kpv.trans kpw).trans kpp).trans kpr,owr⟩
    cases wp
    ·simp (disch:=first|omega|assumption) only [E0_G,SY,off,agreeKind,vals,Nat.reduceAdd,Nat.reduceLT,Nat.reduceBEq,g0,g1,g2] at he
     have hlq:=(pi).sw.len
     obtain ⟨Sv,x,h,kv,hx,hh,av⟩:=c178 o (by omega) lo S1 v ow id hb p q (by omega) (by omega)
     have owv:=ow.agree av
     have kpv:=kp.trans (Keep.of av)
     simp (disch:=first|omega|assumption) only [E0_G,SY,off,agreeKind,aExtract,Nat.reduceAdd,Nat.reduceLT,Nat.reduceBEq,store_refl E0_same,kv] at he
     rcases hh with rfl|rfl|rfl
     ·simp (disch:=first|omega|assumption) only [E0_G,SY,off,agreeKind,Nat.reduceAdd,Nat.reduceLT,Nat.reduceBEq,Int.reduceEq,g10,g11] at he
      have hlr:=(pi).sw.len
      rw [code_draws _ _ _ (by kernel_rfl)] at he
      generalize hnd4:needy _=nd4 at he
      rcases dP ((0:Int)<(p:Int)) with ⟨h6a,h6⟩|⟨h6a,h6⟩
      ·have v1:IntKind.i64.wrap ((p:Int) - 1)=((p - 1:Nat):Int):=by rw [IntWalk.i64_in]<;>omega
       obtain ⟨loB,ltB,ccB,exB,hxB,hcB⟩:=own_cut owv hb
       obtain ⟨ofBx,hoBx,iaBx,pBx0⟩:=hcB (p - 1) (by omega)
       obtain ⟨ofBy,hoBy,iaBy,pBy0⟩:=hcB (x) (by omega)
       obtain ⟨SC,kC,aC⟩:=cL (lget o (p - 1)) (lget o (x)) Sv
       have sC:E0.same Sv SC=true:=symEnv_same aC
       simp (disch:=first|omega|assumption) only [E0_G,SY,agreeKind,vals,ldA,aggD,Nat.reduceAdd,Nat.reduceLT,Nat.reduceBEq,TY_EvO0,store_agree,store_refl E0_same,g0,g1,h6a,v1,hxB,iaBx,pBx0,iaBy,pBy0,kC] at he
       have owC:=owv.agree aC
       have kpC:=kpv.trans (Keep.of aC)
       rcases dP (cmpI (lget o (p - 1)) (lget o (x))<0) with ⟨h7a,h7⟩|⟨h7a,h7⟩
       ·simp (disch:=first|omega|assumption) only [E0_G,SY,off,agreeKind,vals,Nat.reduceAdd,Nat.reduceLT,Nat.reduceBEq,store_refl E0_same,g0,g1,g2,h7a] at he
        obtain ⟨Sp,op,y,t,kpa,kpp,owp,hsp,hyp,hlp,hup⟩:=c183 o (by omega) lo SC v owC id hb p q x (by omega) (by omega) hx
        have pip:=(pi).go hsp
        have hlpp:=pip.sw.len
        have r1:IntKind.i64.wrap ((y:Int) - (p:Int))=((y - p:Nat):Int):=by rw [IntWalk.i64_in]<;>omega
        have r2:IntKind.i64.wrap ((q:Int) - (y:Int))=((q - y:Nat):Int):=by rw [IntWalk.i64_in]<;>omega
        have r3:IntKind.i64.wrap ((y:Int)+1)=((y+1:Nat):Int):=by rw [IntWalk.i64_in]<;>omega
        have r4:IntKind.i64.wrap (Int.tdiv ((q - p:Nat):Int) 8)=(((q - p) / 8:Nat):Int):=by rw [show Int.tdiv ((q - p:Nat):Int) 8=(((q - p) / 8:Nat):Int) from rfl,IntWalk.i64_in]<;>omega
        have prp:=pip.pre hpre
        simp (disch:=first|omega|assumption) only [E0_G,SY,off,agreeKind,aExtract,Nat.reduceAdd,Nat.reduceLT,Nat.reduceBEq,Int.reduceEq,store_refl E0_same,g1,g2,kpa,r1,r2,r4] at he
        rcases dP (((y - p:Nat):Int)<((q - y:Nat):Int)) with ⟨h8a,h8⟩|⟨h8a,h8⟩
        ·obtain ⟨Sr,or_,krc,kpr,owr,hsr,hrr⟩:=ih p y (by omega) (by omega) op (by omega) lo Sp v owp id hb (by omega) (lim) (fun h0 u h1 h2=>prp h0 u h1 (by omega))
         simp (disch:=first|omega|assumption) only [E0_G,SY,off,agreeKind,vals,Nat.reduceAdd,Nat.reduceLT,Nat.reduceBEq,store_refl E0_same,g0,g1,g3,r3,h8a,krc] at he
         have pir:=pip.go (hsr.mono (Nat.le_refl _) (by omega) (by omega))
         have ey:lget or_ y=lget op y:=hsr.out y (by omega)
         have hly:∀ u:Nat,p≤u→u<y→(lget or_ u)≤(lget op y):=hsr.all (P:=fun z=>z≤(lget op y)) hlp
         have pin:PI a b (y+1) q l or_:=pir.left ⟨by omega,by omega⟩ (fun u w h1 h2 h3=>by
          by_cases e:w=y
          ·subst e; rw [ey]; exact hly u h1 h2
          ·exact hrr u w h1 h2 (by omega)) (fun u w h1 h2 h3 h4=>by
          rw [hsr.out w (by omega)]
          have q1:=hup w (by omega) h4
          by_cases e:u=y
          ·subst e; rw [ey]; exact q1
          ·have:=hly u h1 (by omega); omega)
         exact .next he (m - (y+1 - p)) (by omega) ⟨y+1,q,or_,_,_,_,by omega,pin,by simp only [SY,eq_self,Nat.reduceBEq,g0]<;>rfl,by simp only [SY,eq_self,Nat.reduceBEq,g1]<;>rfl,by simp only [SY,eq_self,Nat.reduceBEq,g2]<;>rfl,by simp only [SY,Nat.reduceBEq,g3]<;>rfl,by simp only [SY,Nat.reduceBEq,g10]<;>rfl,by simp only [SY,Nat.reduceBEq,g11]<;>rfl,(kpC.trans kpp).trans kpr,owr⟩
        obtain ⟨Sr,or_,krc,kpr,owr,hsr,hrr⟩:=ih (y+1) q (by omega) (by omega) op (by omega) lo Sp v owp id hb (by omega) (lim) (fun h0 u h1 h2=>hup u (by omega) h2)
        simp (disch:=first|omega|assumption) only [E0_G,SY,off,agreeKind,vals,Nat.reduceAdd,Nat.reduceLT,Nat.reduceBEq,store_refl E0_same,g0,g2,g3,r3,h8a,krc] at he
        have pir:=pip.go (hsr.mono (by omega) (Nat.le_refl _) (by omega))
        have ey:lget or_ y=lget op y:=hsr.out y (by omega)
        have hly:∀ u:Nat,y+1≤u→u<q→(lget op y)≤(lget or_ u):=hsr.all (P:=fun z=>(lget op y)≤z) (fun u h1 h2=>hup u (by omega) h2)
        have pin:PI a b p y l or_:=pir.right ⟨by omega,by omega⟩ (fun u w h1 h2 h3=>by
         by_cases e:u=y
         ·subst e; rw [ey]; exact hly w (by omega) h3
         ·exact hrr u w (by omega) h2 h3) (fun u w h1 h2 h3 h4=>by
         rw [hsr.out u (by omega)]
         have q1:=hlp u h1 h2
         by_cases e:w=y
         ·subst e; rw [ey]; exact q1
         ·have:=hly w (by omega) h4; omega)
        exact .next he (m - (q - y)) (by omega) ⟨p,y,or_,_,_,_,by omega,pin,by simp only [SY,eq_self,Nat.reduceBEq,g0]<;>rfl,by simp only [SY,eq_self,Nat.reduceBEq,g1]<;>rfl,by simp only [SY,eq_self,Nat.reduceBEq,g2]<;>rfl,by simp only [SY,Nat.reduceBEq,g3]<;>rfl,by simp only [SY,Nat.reduceBEq,g10]<;>rfl,by simp only [SY,Nat.reduceBEq,g11]<;>rfl,(kpC.trans kpp).trans kpr,owr⟩
       rw [cmpI_lt] at h7
       obtain ⟨Sp,op,y,kpa,kpp,owp,hsp,hyp,hlp,hup⟩:=c182 o (by omega) lo SC v owC id hb p q x (by omega) (by omega) hx
       have pr:=(pi).pre hpre (by omega)
       have hmin:∀ u:Nat,p≤u→u<q→(lget o (x))≤(lget op u):=hsp.all (P:=fun z=>(lget o (x))≤z) (fun u h1 h2=>by have:=pr u h1 h2; omega)
       have pin:=((pi).go hsp).equal hyp hmin hlp hup
       simp (disch:=first|omega|assumption) only [E0_G,SY,off,agreeKind,vals,eq_self,if_true,Nat.reduceAdd,Nat.reduceLT,Nat.reduceBEq,store_refl E0_same,g0,g1,g2,h7a,kpa] at he
       exact .next he (m - (y - p)) (by omega) ⟨y,q,op,_,_,_,by omega,pin,by simp only [SY,eq_self,Nat.reduceBEq,g0]<;>rfl,by simp only [SY,eq_self,Nat.reduceBEq,g1]<;>rfl,by simp only [SY,eq_self,Nat.reduceBEq,g2]<;>rfl,by simp only [SY,Nat.reduceBEq,g3]<;>rfl,by simp only [SY,Nat.reduceBEq,g10]<;>rfl,by simp only [SY,Nat.reduceBEq,g11]<;>rfl,kpC.trans kpp,owp⟩
      simp (disch:=first|omega|assumption) only [E0_G,SY,off,agreeKind,vals,Nat.reduceAdd,Nat.reduceLT,Nat.reduceBEq,store_refl E0_same,g0,g1,g2,h6a] at he
      obtain ⟨Sp,op,y,t,kpa,kpp,owp,hsp,hyp,hlp,hup⟩:=c183 o (by omega) lo Sv v owv id hb p q x (by omega) (by omega) hx
      have pip:=(pi).go hsp
      have hlpp:=pip.sw.len
      have r1:IntKind.i64.wrap ((y:Int) - (p:Int))=((y - p:Nat):Int):=by rw [IntWalk.i64_in]<;>omega
      have r2:IntKind.i64.wrap ((q:Int) - (y:Int))=((q - y:Nat):Int):=by rw [IntWalk.i64_in]<;>omega
      have r3:IntKind.i64.wrap ((y:Int)+1)=((y+1:Nat):Int):=by rw [IntWalk.i64_in]<;>omega
      have r4:IntKind.i64.wrap (Int.tdiv ((q - p:Nat):Int) 8)=(((q - p) / 8:Nat):Int):=by rw [show Int.tdiv ((q - p:Nat):Int) 8=(((q - p) / 8:Nat):Int) from rfl,IntWalk.i64_in]<;>omega
      have prp:=pip.pre hpre
      simp (disch:=first|omega|assumption) only [E0_G,SY,off,agreeKind,aExtract,Nat.reduceAdd,Nat.reduceLT,Nat.reduceBEq,Int.reduceEq,store_refl E0_same,g1,g2,kpa,r1,r2,r4] at he
      rcases dP (((y - p:Nat):Int)<((q - y:Nat):Int)) with ⟨h8a,h8⟩|⟨h8a,h8⟩
      ·obtain ⟨Sr,or_,krc,kpr,owr,hsr,hrr⟩:=ih p y (by omega) (by omega) op (by omega) lo Sp v owp id hb (by omega) (lim) (fun h0 u h1 h2=>prp h0 u h1 (by omega))
       simp (disch:=first|omega|assumption) only [E0_G,SY,off,agreeKind,vals,Nat.reduceAdd,Nat.reduceLT,Nat.reduceBEq,store_refl E0_same,g0,g1,g3,r3,h8a,krc] at he
       have pir:=pip.go (hsr.mono (Nat.le_refl _) (by omega) (by omega))
       have ey:lget or_ y=lget op y:=hsr.out y (by omega)
       have hly:∀ u:Nat,p≤u→u<y→(lget or_ u)≤(lget op y):=hsr.all (P:=fun z=>z≤(lget op y)) hlp
       have pin:PI a b (y+1) q l or_:=pir.left ⟨by omega,by omega⟩ (fun u w h1 h2 h3=>by
        by_cases e:w=y
        ·subst e; rw [ey]; exact hly u h1 h2
        ·exact hrr u w h1 h2 (by omega)) (fun u w h1 h2 h3 h4=>by
        rw [hsr.out w (by omega)]
        have q1:=hup w (by omega) h4
        by_cases e:u=y
        ·subst e; rw [ey]; exact q1
        ·have:=hly u h1 (by omega); omega)
       exact .next he (m - (y+1 - p)) (by omega) ⟨y+1,q,or_,_,_,_,by omega,pin,by simp only [SY,eq_self,Nat.reduceBEq,g0]<;>rfl,by simp only [SY,eq_self,Nat.reduceBEq,g1]<;>rfl,by simp only [SY,eq_self,Nat.reduceBEq,g2]<;>rfl,by simp only [SY,Nat.reduceBEq,g3]<;>rfl,by simp only [SY,Nat.reduceBEq,g10]<;>rfl,by simp only [SY,Nat.reduceBEq,g11]<;>rfl,(kpv.trans kpp).trans kpr,owr⟩
      obtain ⟨Sr,or_,krc,kpr,owr,hsr,hrr⟩:=ih (y+1) q (by omega) (by omega) op (by omega) lo Sp v owp id hb (by omega) (lim) (fun h0 u h1 h2=>hup u (by omega) h2)
      simp (disch:=first|omega|assumption) only [E0_G,SY,off,agreeKind,vals,Nat.reduceAdd,Nat.reduceLT,Nat.reduceBEq,store_refl E0_same,g0,g2,g3,r3,h8a,krc] at he
      have pir:=pip.go (hsr.mono (by omega) (Nat.le_refl _) (by omega))
      have ey:lget or_ y=lget op y:=hsr.out y (by omega)
      have hly:∀ u:Nat,y+1≤u→u<q→(lget op y)≤(lget or_ u):=hsr.all (P:=fun z=>(lget op y)≤z) (fun u h1 h2=>hup u (by omega) h2)
      have pin:PI a b p y l or_:=pir.right ⟨by omega,by omega⟩ (fun u w h1 h2 h3=>by
       by_cases e:u=y
       ·subst e; rw [ey]; exact hly w (by omega) h3
       ·exact hrr u w (by omega) h2 h3) (fun u w h1 h2 h3 h4=>by
       rw [hsr.out u (by omega)]
       have q1:=hlp u h1 h2
       by_cases e:w=y
       ·subst e; rw [ey]; exact q1
       ·have:=hly w (by omega) h4; omega)
      exact .next he (m - (q - y)) (by omega) ⟨p,y,or_,_,_,_,by omega,pin,by simp only [SY,eq_self,Nat.reduceBEq,g0]<;>rfl,by simp only [SY,eq_self,Nat.reduceBEq,g1]<;>rfl,by simp only [SY,eq_self,Nat.reduceBEq,g2]<;>rfl,by simp only [SY,Nat.reduceBEq,g3]<;>rfl,by simp only [SY,Nat.reduceBEq,g10]<;>rfl,by simp only [SY,Nat.reduceBEq,g11]<;>rfl,(kpv.trans kpp).trans kpr,owr⟩
     ·simp (disch:=first|omega|assumption) only [E0_G,SY,off,agreeKind,Nat.reduceAdd,Nat.reduceLT,Nat.reduceBEq,Int.reduceEq,g10,g11] at he
      have hlr:=(pi).sw.len
      rw [code_draws _ _ _ (by kernel_rfl)] at he
      generalize hnd5:needy _=nd5 at he
      rcases dP ((0:Int)<(p:Int)) with ⟨h6a,h6⟩|⟨h6a,h6⟩
      ·have v1:IntKind.i64.wrap ((p:Int) - 1)=((p - 1:Nat):Int):=by rw [IntWalk.i64_in]<;>omega
       obtain ⟨loB,ltB,ccB,exB,hxB,hcB⟩:=own_cut owv hb
       obtain ⟨ofBx,hoBx,iaBx,pBx0⟩:=hcB (p - 1) (by omega)
       obtain ⟨ofBy,hoBy,iaBy,pBy0⟩:=hcB (x) (by omega)
       obtain ⟨SC,kC,aC⟩:=cL (lget o (p - 1)) (lget o (x)) Sv
       have sC:E0.same Sv SC=true:=symEnv_same aC
       simp (disch:=first|omega|assumption) only [E0_G,SY,agreeKind,vals,ldA,aggD,Nat.reduceAdd,Nat.reduceLT,Nat.reduceBEq,TY_EvO0,store_agree,store_refl E0_same,g0,g1,h6a,v1,hxB,iaBx,pBx0,iaBy,pBy0,kC] at he
       have owC:=owv.agree aC
       have kpC:=kpv.trans (Keep.of aC)
       rcases dP (cmpI (lget o (p - 1)) (lget o (x))<0) with ⟨h7a,h7⟩|⟨h7a,h7⟩
       ·simp (disch:=first|omega|assumption) only [E0_G,SY,off,agreeKind,vals,Nat.reduceAdd,Nat.reduceLT,Nat.reduceBEq,store_refl E0_same,g0,g1,g2,h7a] at he
        obtain ⟨Sp,op,y,t,kpa,kpp,owp,hsp,hyp,hlp,hup⟩:=c183 o (by omega) lo SC v owC id hb p q x (by omega) (by omega) hx
        have pip:=(pi).go hsp
        have hlpp:=pip.sw.len
        have r1:IntKind.i64.wrap ((y:Int) - (p:Int))=((y - p:Nat):Int):=by rw [IntWalk.i64_in]<;>omega
        have r2:IntKind.i64.wrap ((q:Int) - (y:Int))=((q - y:Nat):Int):=by rw [IntWalk.i64_in]<;>omega
        have r3:IntKind.i64.wrap ((y:Int)+1)=((y+1:Nat):Int):=by rw [IntWalk.i64_in]<;>omega
        have r4:IntKind.i64.wrap (Int.tdiv ((q - p:Nat):Int) 8)=(((q - p) / 8:Nat):Int):=by rw [show Int.tdiv ((q - p:Nat):Int) 8=(((q - p) / 8:Nat):Int) from rfl,IntWalk.i64_in]<;>omega
        have prp:=pip.pre hpre
        simp (disch:=first|omega|assumption) only [E0_G,SY,off,agreeKind,aExtract,Nat.reduceAdd,Nat.reduceLT,Nat.reduceBEq,Int.reduceEq,store_refl E0_same,g1,g2,kpa,r1,r2,r4] at he
        rcases dP (((y - p:Nat):Int)<((q - y:Nat):Int)) with ⟨h8a,h8⟩|⟨h8a,h8⟩
        ·obtain ⟨Sr,or_,krc,kpr,owr,hsr,hrr⟩:=ih p y (by omega) (by omega) op (by omega) lo Sp v owp id hb (by omega) (lim) (fun h0 u h1 h2=>prp h0 u h1 (by omega))
         simp (disch:=first|omega|assumption) only [E0_G,SY,off,agreeKind,vals,Nat.reduceAdd,Nat.reduceLT,Nat.reduceBEq,store_refl E0_same,g0,g1,g3,r3,h8a,krc] at he
         have pir:=pip.go (hsr.mono (Nat.le_refl _) (by omega) (by omega))
         have ey:lget or_ y=lget op y:=hsr.out y (by omega)
         have hly:∀ u:Nat,p≤u→u<y→(lget or_ u)≤(lget op y):=hsr.all (P:=fun z=>z≤(lget op y)) hlp
         have pin:PI a b (y+1) q l or_:=pir.left ⟨by omega,by omega⟩ (fun u w h1 h2 h3=>by
          by_cases e:w=y
          ·subst e; rw [ey]; exact hly u h1 h2
          ·exact hrr u w h1 h2 (by omega)) (fun u w h1 h2 h3 h4=>by
          rw [hsr.out w (by omega)]
          have q1:=hup w (by omega) h4
          by_cases e:u=y
          ·subst e; rw [ey]; exact q1
          ·have:=hly u h1 (by omega); omega)
         exact .next he (m - (y+1 - p)) (by omega) ⟨y+1,q,or_,_,_,_,by omega,pin,by simp only [SY,eq_self,Nat.reduceBEq,g0]<;>rfl,by simp only [SY,eq_self,Nat.reduceBEq,g1]<;>rfl,by simp only [SY,eq_self,Nat.reduceBEq,g2]<;>rfl,by simp only [SY,Nat.reduceBEq,g3]<;>rfl,by simp only [SY,Nat.reduceBEq,g10]<;>rfl,by simp only [SY,Nat.reduceBEq,g11]<;>rfl,(kpC.trans kpp).trans kpr,owr⟩
        obtain ⟨Sr,or_,krc,kpr,owr,hsr,hrr⟩:=ih (y+1) q (by omega) (by omega) op (by omega) lo Sp v owp id hb (by omega) (lim) (fun h0 u h1 h2=>hup u (by omega) h2)
        simp (disch:=first|omega|assumption) only [E0_G,SY,off,agreeKind,vals,Nat.reduceAdd,Nat.reduceLT,Nat.reduceBEq,store_refl E0_same,g0,g2,g3,r3,h8a,krc] at he
        have pir:=pip.go (hsr.mono (by omega) (Nat.le_refl _) (by omega))
        have ey:lget or_ y=lget op y:=hsr.out y (by omega)
        have hly:∀ u:Nat,y+1≤u→u<q→(lget op y)≤(lget or_ u):=hsr.all (P:=fun z=>(lget op y)≤z) (fun u h1 h2=>hup u (by omega) h2)
        have pin:PI a b p y l or_:=pir.right ⟨by omega,by omega⟩ (fun u w h1 h2 h3=>by
         by_cases e:u=y
         ·subst e; rw [ey]; exact hly w (by omega) h3
         ·exact hrr u w (by omega) h2 h3) (fun u w h1 h2 h3 h4=>by
         rw [hsr.out u (by omega)]
         have q1:=hlp u h1 h2
         by_cases e:w=y
         ·subst e; rw [ey]; exact q1
         ·have:=hly w (by omega) h4; omega)
        exact .next he (m - (q - y)) (by omega) ⟨p,y,or_,_,_,_,by omega,pin,by simp only [SY,eq_self,Nat.reduceBEq,g0]<;>rfl,by simp only [SY,eq_self,Nat.reduceBEq,g1]<;>rfl,by simp only [SY,eq_self,Nat.reduceBEq,g2]<;>rfl,by simp only [SY,Nat.reduceBEq,g3]<;>rfl,by simp only [SY,Nat.reduceBEq,g10]<;>rfl,by simp only [SY,Nat.reduceBEq,g11]<;>rfl,(kpC.trans kpp).trans kpr,owr⟩
       rw [cmpI_lt] at h7
       obtain ⟨Sp,op,y,kpa,kpp,owp,hsp,hyp,hlp,hup⟩:=c182 o (by omega) lo SC v owC id hb p q x (by omega) (by omega) hx
       have pr:=(pi).pre hpre (by omega)
       have hmin:∀ u:Nat,p≤u→u<q→(lget o (x))≤(lget op u):=hsp.all (P:=fun z=>(lget o (x))≤z) (fun u h1 h2=>by have:=pr u h1 h2; omega)
       have pin:=((pi).go hsp).equal hyp hmin hlp hup
       simp (disch:=first|omega|assumption) only [E0_G,SY,off,agreeKind,vals,eq_self,if_true,Nat.reduceAdd,Nat.reduceLT,Nat.reduceBEq,store_refl E0_same,g0,g1,g2,h7a,kpa] at he
       exact .next he (m - (y - p)) (by omega) ⟨y,q,op,_,_,_,by omega,pin,by simp only [SY,eq_self,Nat.reduceBEq,g0]<;>rfl,by simp only [SY,eq_self,Nat.reduceBEq,g1]<;>rfl,by simp only [SY,eq_self,Nat.reduceBEq,g2]<;>rfl,by simp only [SY,Nat.reduceBEq,g3]<;>rfl,by simp only [SY,Nat.reduceBEq,g10]<;>rfl,by simp only [SY,Nat.reduceBEq,g11]<;>rfl,kpC.trans kpp,owp⟩
      simp (disch:=first|omega|assumption) only [E0_G,SY,off,agreeKind,vals,Nat.reduceAdd,Nat.reduceLT,Nat.reduceBEq,store_refl E0_same,g0,g1,g2,h6a] at he
      obtain ⟨Sp,op,y,t,kpa,kpp,owp,hsp,hyp,hlp,hup⟩:=c183 o (by omega) lo Sv v owv id hb p q x (by omega) (by omega) hx
      have pip:=(pi).go hsp
      have hlpp:=pip.sw.len
      have r1:IntKind.i64.wrap ((y:Int) - (p:Int))=((y - p:Nat):Int):=by rw [IntWalk.i64_in]<;>omega
      have r2:IntKind.i64.wrap ((q:Int) - (y:Int))=((q - y:Nat):Int):=by rw [IntWalk.i64_in]<;>omega
      have r3:IntKind.i64.wrap ((y:Int)+1)=((y+1:Nat):Int):=by rw [IntWalk.i64_in]<;>omega
      have r4:IntKind.i64.wrap (Int.tdiv ((q - p:Nat):Int) 8)=(((q - p) / 8:Nat):Int):=by rw [show Int.tdiv ((q - p:Nat):Int) 8=(((q - p) / 8:Nat):Int) from rfl,IntWalk.i64_in]<;>omega
      have prp:=pip.pre hpre
      simp (disch:=first|omega|assumption) only [E0_G,SY,off,agreeKind,aExtract,Nat.reduceAdd,Nat.reduceLT,Nat.reduceBEq,Int.reduceEq,store_refl E0_same,g1,g2,kpa,r1,r2,r4] at he
      rcases dP (((y - p:Nat):Int)<((q - y:Nat):Int)) with ⟨h8a,h8⟩|⟨h8a,h8⟩
      ·obtain ⟨Sr,or_,krc,kpr,owr,hsr,hrr⟩:=ih p y (by omega) (by omega) op (by omega) lo Sp v owp id hb (by omega) (lim) (fun h0 u h1 h2=>prp h0 u h1 (by omega))
       simp (disch:=first|omega|assumption) only [E0_G,SY,off,agreeKind,vals,Nat.reduceAdd,Nat.reduceLT,Nat.reduceBEq,store_refl E0_same,g0,g1,g3,r3,h8a,krc] at he
       have pir:=pip.go (hsr.mono (Nat.le_refl _) (by omega) (by omega))
       have ey:lget or_ y=lget op y:=hsr.out y (by omega)
       have hly:∀ u:Nat,p≤u→u<y→(lget or_ u)≤(lget op y):=hsr.all (P:=fun z=>z≤(lget op y)) hlp
       have pin:PI a b (y+1) q l or_:=pir.left ⟨by omega,by omega⟩ (fun u w h1 h2 h3=>by
        by_cases e:w=y
        ·subst e; rw [ey]; exact hly u h1 h2
        ·exact hrr u w h1 h2 (by omega)) (fun u w h1 h2 h3 h4=>by
        rw [hsr.out w (by omega)]
        have q1:=hup w (by omega) h4
        by_cases e:u=y
        ·subst e; rw [ey]; exact q1
        ·have:=hly u h1 (by omega); omega)
       exact .next he (m - (y+1 - p)) (by omega) ⟨y+1,q,or_,_,_,_,by omega,pin,by simp only [SY,eq_self,Nat.reduceBEq,g0]<;>rfl,by simp only [SY,eq_self,Nat.reduceBEq,g1]<;>rfl,by simp only [SY,eq_self,Nat.reduceBEq,g2]<;>rfl,by simp only [SY,Nat.reduceBEq,g3]<;>rfl,by simp only [SY,Nat.reduceBEq,g10]<;>rfl,by simp only [SY,Nat.reduceBEq,g11]<;>rfl,(kpv.trans kpp).trans kpr,owr⟩
      obtain ⟨Sr,or_,krc,kpr,owr,hsr,hrr⟩:=ih (y+1) q (by omega) (by omega) op (by omega) lo Sp v owp id hb (by omega) (lim) (fun h0 u h1 h2=>hup u (by omega) h2)
      simp (disch:=first|omega|assumption) only [E0_G,SY,off,agreeKind,vals,Nat.reduceAdd,Nat.reduceLT,Nat.reduceBEq,store_refl E0_same,g0,g2,g3,r3,h8a,krc] at he
      have pir:=pip.go (hsr.mono (by omega) (Nat.le_refl _) (by omega))
      have ey:lget or_ y=lget op y:=hsr.out y (by omega)
      have hly:∀ u:Nat,y+1≤u→u<q→(lget op y)≤(lget or_ u):=hsr.all (P:=fun z=>(lget op y)≤z) (fun u h1 h2=>hup u (by omega) h2)
      have pin:PI a b p y l or_:=pir.right ⟨by omega,by omega⟩ (fun u w h1 h2 h3=>by
       by_cases e:u=y
       ·subst e; rw [ey]; exact hly w (by omega) h3
       ·exact hrr u w (by omega) h2 h3) (fun u w h1 h2 h3 h4=>by
       rw [hsr.out u (by omega)]
       have q1:=hlp u h1 h2
       by_cases e:w=y
       ·subst e; rw [ey]; exact q1
       ·have:=hly w (by omega) h4; omega)
      exact .next he (m - (q - y)) (by omega) ⟨p,y,or_,_,_,_,by omega,pin,by simp only [SY,eq_self,Nat.reduceBEq,g0]<;>rfl,by simp only [SY,eq_self,Nat.reduceBEq,g1]<;>rfl,by simp only [SY,eq_self,Nat.reduceBEq,g2]<;>rfl,by simp only [SY,Nat.reduceBEq,g3]<;>rfl,by simp only [SY,Nat.reduceBEq,g10]<;>rfl,by simp only [SY,Nat.reduceBEq,g11]<;>rfl,(kpv.trans kpp).trans kpr,owr⟩
     obtain ⟨Sw_,ow_,kw,kpw,oww,hsw⟩:=c179 o (by omega) lo Sv v owv id hb p q (by omega) (by omega)
     have piw:=(pi).go hsw
     have y1:IntKind.i64.wrap ((q:Int) - 1)=((q - 1:Nat):Int):=by rw [IntWalk.i64_in]<;>omega
     have y2:IntKind.i64.wrap ((x:Int) - (p:Int))=((x - p:Nat):Int):=by rw [IntWalk.i64_in]<;>omega
     have y3:IntKind.i64.wrap (((q - 1:Nat):Int) - ((x - p:Nat):Int))=((q - 1 - (x - p):Nat):Int):=by rw [IntWalk.i64_in]<;>omega
     simp (disch:=first|omega|assumption) only [E0_G,SY,off,agreeKind,vals,eq_self,Nat.reduceAdd,Nat.reduceLT,Nat.reduceBEq,store_refl E0_same,g0,g1,g2,g10,g11,kw,y1,y2,y3] at he
     have hlr:=(piw).sw.len
     rw [code_draws _ _ _ (by kernel_rfl)] at he
     generalize hnd6:needy _=nd6 at he
     rcases dP ((0:Int)<(p:Int)) with ⟨h6a,h6⟩|⟨h6a,h6⟩
     ·have v1:IntKind.i64.wrap ((p:Int) - 1)=((p - 1:Nat):Int):=by rw [IntWalk.i64_in]<;>omega
      obtain ⟨loB,ltB,ccB,exB,hxB,hcB⟩:=own_cut oww hb
      obtain ⟨ofBx,hoBx,iaBx,pBx0⟩:=hcB (p - 1) (by omega)
      obtain ⟨ofBy,hoBy,iaBy,pBy0⟩:=hcB ((q - 1 - (x - p))) (by omega)
      obtain ⟨SC,kC,aC⟩:=cL (lget ow_ (p - 1)) (lget ow_ ((q - 1 - (x - p)))) Sw_
      have sC:E0.same Sw_ SC=true:=symEnv_same aC
      simp (disch:=first|omega|assumption) only [E0_G,SY,agreeKind,vals,ldA,aggD,Nat.reduceAdd,Nat.reduceLT,Nat.reduceBEq,TY_EvO0,store_agree,store_refl E0_same,g0,g1,h6a,v1,hxB,iaBx,pBx0,iaBy,pBy0,kC] at he
      have owC:=oww.agree aC
      have kpC:=(kpv.trans kpw).trans (Keep.of aC)
      rcases dP (cmpI (lget ow_ (p - 1)) (lget ow_ ((q - 1 - (x - p))))<0) with ⟨h7a,h7⟩|⟨h7a,h7⟩
      ·simp (disch:=first|omega|assumption) only [E0_G,SY,off,agreeKind,vals,Nat.reduceAdd,Nat.reduceLT,Nat.reduceBEq,store_refl E0_same,g0,g1,g2,h7a] at he
       obtain ⟨Sp,op,y,t,kpa,kpp,owp,hsp,hyp,hlp,hup⟩:=c183 ow_ (by omega) lo SC v owC id hb p q (q - 1 - (x - p)) (by omega) (by omega) ⟨by omega,by omega⟩
       have pip:=(piw).go hsp
       have hlpp:=pip.sw.len
       have r1:IntKind.i64.wrap ((y:Int) - (p:Int))=((y - p:Nat):Int):=by rw [IntWalk.i64_in]<;>omega
       have r2:IntKind.i64.wrap ((q:Int) - (y:Int))=((q - y:Nat):Int):=by rw [IntWalk.i64_in]<;>omega
       have r3:IntKind.i64.wrap ((y:Int)+1)=((y+1:Nat):Int):=by rw [IntWalk.i64_in]<;>omega
       have r4:IntKind.i64.wrap (Int.tdiv ((q - p:Nat):Int) 8)=(((q - p) / 8:Nat):Int):=by rw [show Int.tdiv ((q - p:Nat):Int) 8=(((q - p) / 8:Nat):Int) from rfl,IntWalk.i64_in]<;>omega
       have prp:=pip.pre hpre
       simp (disch:=first|omega|assumption) only [E0_G,SY,off,agreeKind,aExtract,Nat.reduceAdd,Nat.reduceLT,Nat.reduceBEq,Int.reduceEq,store_refl E0_same,g1,g2,kpa,r1,r2,r4] at he
       rcases dP (((y - p:Nat):Int)<((q - y:Nat):Int)) with ⟨h8a,h8⟩|⟨h8a,h8⟩
       ·obtain ⟨Sr,or_,krc,kpr,owr,hsr,hrr⟩:=ih p y (by omega) (by omega) op (by omega) lo Sp v owp id hb (by omega) (lim) (fun h0 u h1 h2=>prp h0 u h1 (by omega))
        simp (disch:=first|omega|assumption) only [E0_G,SY,off,agreeKind,vals,Nat.reduceAdd,Nat.reduceLT,Nat.reduceBEq,store_refl E0_same,g0,g1,g3,r3,h8a,krc] at he
        have pir:=pip.go (hsr.mono (Nat.le_refl _) (by omega) (by omega))
        have ey:lget or_ y=lget op y:=hsr.out y (by omega)
        have hly:∀ u:Nat,p≤u→u<y→(lget or_ u)≤(lget op y):=hsr.all (P:=fun z=>z≤(lget op y)) hlp
        have pin:PI a b (y+1) q l or_:=pir.left ⟨by omega,by omega⟩ (fun u w h1 h2 h3=>by
         by_cases e:w=y
         ·subst e; rw [ey]; exact hly u h1 h2
         ·exact hrr u w h1 h2 (by omega)) (fun u w h1 h2 h3 h4=>by
         rw [hsr.out w (by omega)]
         have q1:=hup w (by omega) h4
         by_cases e:u=y
         ·subst e; rw [ey]; exact q1
         ·have:=hly u h1 (by omega); omega)
        exact .next he (m - (y+1 - p)) (by omega) ⟨y+1,q,or_,_,_,_,by omega,pin,by simp only [SY,eq_self,Nat.reduceBEq,g0]<;>rfl,by simp only [SY,eq_self,Nat.reduceBEq,g1]<;>rfl,by simp only [SY,eq_self,Nat.reduceBEq,g2]<;>rfl,by simp only [SY,Nat.reduceBEq,g3]<;>rfl,by simp only [SY,Nat.reduceBEq,g10]<;>rfl,by simp only [SY,Nat.reduceBEq,g11]<;>rfl,(kpC.trans kpp).trans kpr,owr⟩
       obtain ⟨Sr,or_,krc,kpr,owr,hsr,hrr⟩:=ih (y+1) q (by omega) (by omega) op (by omega) lo Sp v owp id hb (by omega) (lim) (fun h0 u h1 h2=>hup u (by omega) h2)
       simp (disch:=first|omega|assumption) only [E0_G,SY,off,agreeKind,vals,Nat.reduceAdd,Nat.reduceLT,Nat.reduceBEq,store_refl E0_same,g0,g2,g3,r3,h8a,krc] at he
       have pir:=pip.go (hsr.mono (by omega) (Nat.le_refl _) (by omega))
       have ey:lget or_ y=lget op y:=hsr.out y (by omega)
       have hly:∀ u:Nat,y+1≤u→u<q→(lget op y)≤(lget or_ u):=hsr.all (P:=fun z=>(lget op y)≤z) (fun u h1 h2=>hup u (by omega) h2)
       have pin:PI a b p y l or_:=pir.right ⟨by omega,by omega⟩ (fun u w h1 h2 h3=>by
        by_cases e:u=y
        ·subst e; rw [ey]; exact hly w (by omega) h3
        ·exact hrr u w (by omega) h2 h3) (fun u w h1 h2 h3 h4=>by
        rw [hsr.out u (by omega)]
        have q1:=hlp u h1 h2
        by_cases e:w=y
        ·subst e; rw [ey]; exact q1
        ·have:=hly w (by omega) h4; omega)
       exact .next he (m - (q - y)) (by omega) ⟨p,y,or_,_,_,_,by omega,pin,by simp only [SY,eq_self,Nat.reduceBEq,g0]<;>rfl,by simp only [SY,eq_self,Nat.reduceBEq,g1]<;>rfl,by simp only [SY,eq_self,Nat.reduceBEq,g2]<;>rfl,by simp only [SY,Nat.reduceBEq,g3]<;>rfl,by simp only [SY,Nat.reduceBEq,g10]<;>rfl,by simp only [SY,Nat.reduceBEq,g11]<;>rfl,(kpC.trans kpp).trans kpr,owr⟩
      rw [cmpI_lt] at h7
      obtain ⟨Sp,op,y,kpa,kpp,owp,hsp,hyp,hlp,hup⟩:=c182 ow_ (by omega) lo SC v owC id hb p q (q - 1 - (x - p)) (by omega) (by omega) ⟨by omega,by omega⟩
      have pr:=(piw).pre hpre (by omega)
      have hmin:∀ u:Nat,p≤u→u<q→(lget ow_ ((q - 1 - (x - p))))≤(lget op u):=hsp.all (P:=fun z=>(lget ow_ ((q - 1 - (x - p))))≤z) (fun u h1 h2=>by have:=pr u h1 h2; omega)
      have pin:=((piw).go hsp).equal hyp hmin hlp hup
      simp (disch:=first|omega|assumption) only [E0_G,SY,off,agreeKind,vals,eq_self,if_true,Nat.reduceAdd,Nat.reduceLT,Nat.reduceBEq,store_refl E0_same,g0,g1,g2,h7a,kpa] at he
      exact .next he (m - (y - p)) (by omega) ⟨y,q,op,_,_,_,by omega,pin,by simp only [SY,eq_self,Nat.reduceBEq,g0]<;>rfl,by simp only [SY,eq_self,Nat.reduceBEq,g1]<;>rfl,by simp only [SY,eq_self,Nat.reduceBEq,g2]<;>rfl,by simp only [SY,Nat.reduceBEq,g3]<;>rfl,by simp only [SY,Nat.reduceBEq,g10]<;>rfl,by simp only [SY,Nat.reduceBEq,g11]<;>rfl,kpC.trans kpp,owp⟩
     simp (disch:=first|omega|assumption) only [E0_G,SY,off,agreeKind,vals,Nat.reduceAdd,Nat.reduceLT,Nat.reduceBEq,store_refl E0_same,g0,g1,g2,h6a] at he
     obtain ⟨Sp,op,y,t,kpa,kpp,owp,hsp,hyp,hlp,hup⟩:=c183 ow_ (by omega) lo Sw_ v oww id hb p q (q - 1 - (x - p)) (by omega) (by omega) ⟨by omega,by omega⟩
     have pip:=(piw).go hsp
     have hlpp:=pip.sw.len
     have r1:IntKind.i64.wrap ((y:Int) - (p:Int))=((y - p:Nat):Int):=by rw [IntWalk.i64_in]<;>omega
     have r2:IntKind.i64.wrap ((q:Int) - (y:Int))=((q - y:Nat):Int):=by rw [IntWalk.i64_in]<;>omega
     have r3:IntKind.i64.wrap ((y:Int)+1)=((y+1:Nat):Int):=by rw [IntWalk.i64_in]<;>omega
     have r4:IntKind.i64.wrap (Int.tdiv ((q - p:Nat):Int) 8)=(((q - p) / 8:Nat):Int):=by rw [show Int.tdiv ((q - p:Nat):Int) 8=(((q - p) / 8:Nat):Int) from rfl,IntWalk.i64_in]<;>omega
     have prp:=pip.pre hpre
     simp (disch:=first|omega|assumption) only [E0_G,SY,off,agreeKind,aExtract,Nat.reduceAdd,Nat.reduceLT,Nat.reduceBEq,Int.reduceEq,store_refl E0_same,g1,g2,kpa,r1,r2,r4] at he
     rcases dP (((y - p:Nat):Int)<((q - y:Nat):Int)) with ⟨h8a,h8⟩|⟨h8a,h8⟩
     ·obtain ⟨Sr,or_,krc,kpr,owr,hsr,hrr⟩:=ih p y (by omega) (by omega) op (by omega) lo Sp v owp id hb (by omega) (lim) (fun h0 u h1 h2=>prp h0 u h1 (by omega))
      simp (disch:=first|omega|assumption) only [E0_G,SY,off,agreeKind,vals,Nat.reduceAdd,Nat.reduceLT,Nat.reduceBEq,store_refl E0_same,g0,g1,g3,r3,h8a,krc] at he
      have pir:=pip.go (hsr.mono (Nat.le_refl _) (by omega) (by omega))
      have ey:lget or_ y=lget op y:=hsr.out y (by omega)
      have hly:∀ u:Nat,p≤u→u<y→(lget or_ u)≤(lget op y):=hsr.all (P:=fun z=>z≤(lget op y)) hlp
      have pin:PI a b (y+1) q l or_:=pir.left ⟨by omega,by omega⟩ (fun u w h1 h2 h3=>by
       by_cases e:w=y
       ·subst e; rw [ey]; exact hly u h1 h2
       ·exact hrr u w h1 h2 (by omega)) (fun u w h1 h2 h3 h4=>by
       rw [hsr.out w (by omega)]
       have q1:=hup w (by omega) h4
       by_cases e:u=y
       ·subst e; rw [ey]; exact q1
       ·have:=hly u h1 (by omega); omega)
      exact .next he (m - (y+1 - p)) (by omega) ⟨y+1,q,or_,_,_,_,by omega,pin,by simp only [SY,eq_self,Nat.reduceBEq,g0]<;>rfl,by simp only [SY,eq_self,Nat.reduceBEq,g1]<;>rfl,by simp only [SY,eq_self,Nat.reduceBEq,g2]<;>rfl,by simp only [SY,Nat.reduceBEq,g3]<;>rfl,by simp only [SY,Nat.reduceBEq,g10]<;>rfl,by simp only [SY,Nat.reduceBEq,g11]<;>rfl,((kpv.trans kpw).trans kpp).trans kpr,owr⟩
     obtain ⟨Sr,or_,krc,kpr,owr,hsr,hrr⟩:=ih (y+1) q (by omega) (by omega) op (by omega) lo Sp v owp id hb (by omega) (lim) (fun h0 u h1 h2=>hup u (by omega) h2)
     simp (disch:=first|omega|assumption) only [E0_G,SY,off,agreeKind,vals,Nat.reduceAdd,Nat.reduceLT,Nat.reduceBEq,store_refl E0_same,g0,g2,g3,r3,h8a,krc] at he
     have pir:=pip.go (hsr.mono (by omega) (Nat.le_refl _) (by omega))
     have ey:lget or_ y=lget op y:=hsr.out y (by omega)
     have hly:∀ u:Nat,y+1≤u→u<q→(lget op y)≤(lget or_ u):=hsr.all (P:=fun z=>(lget op y)≤z) (fun u h1 h2=>hup u (by omega) h2)
     have pin:PI a b p y l or_:=pir.right ⟨by omega,by omega⟩ (fun u w h1 h2 h3=>by
      by_cases e:u=y
      ·subst e; rw [ey]; exact hly w (by omega) h3
      ·exact hrr u w (by omega) h2 h3) (fun u w h1 h2 h3 h4=>by
      rw [hsr.out u (by omega)]
      have q1:=hlp u h1 h2
      by_cases e:w=y
      ·subst e; rw [ey]; exact q1
      ·have:=hly w (by omega) h4; omega)
     exact .next he (m - (q - y)) (by omega) ⟨p,y,or_,_,_,_,by omega,pin,by simp only [SY,eq_self,Nat.reduceBEq,g0]<;>rfl,by simp only [SY,eq_self,Nat.reduceBEq,g1]<;>rfl,by simp only [SY,eq_self,Nat.reduceBEq,g2]<;>rfl,by simp only [SY,Nat.reduceBEq,g3]<;>rfl,by simp only [SY,Nat.reduceBEq,g10]<;>rfl,by simp only [SY,Nat.reduceBEq,g11]<;>rfl,((kpv.trans kpw).trans kpp).trans kpr,owr⟩
    simp (disch:=first|omega|assumption) only [E0_G,SY,off,agreeKind,vals,Nat.reduceAdd,Nat.reduceLT,Nat.reduceBEq,g0,g1,g2] at he
    have hlq:=(pi).sw.len
    obtain ⟨Sv,x,h,kv,hx,hh,av⟩:=c178 o (by omega) lo S1 v ow id hb p q (by omega) (by omega)
    have owv:=ow.agree av
    have kpv:=kp.trans (Keep.of av)
    simp (disch:=first|omega|assumption) only [E0_G,SY,off,agreeKind,aExtract,Nat.reduceAdd,Nat.reduceLT,Nat.reduceBEq,store_refl E0_same,kv] at he
    rcases hh with rfl|rfl|rfl
    ·simp (disch:=first|omega|assumption) only [E0_G,SY,off,agreeKind,Nat.reduceAdd,Nat.reduceLT,Nat.reduceBEq,Int.reduceEq,g10,g11] at he
     have hlr:=(pi).sw.len
     rw [code_draws _ _ _ (by kernel_rfl)] at he
     generalize hnd7:needy _=nd7 at he
     rcases dP ((0:Int)<(p:Int)) with ⟨h6a,h6⟩|⟨h6a,h6⟩
     ·have v1:IntKind.i64.wrap ((p:Int) - 1)=((p - 1:Nat):Int):=by rw [IntWalk.i64_in]<;>omega
      obtain ⟨loB,ltB,ccB,exB,hxB,hcB⟩:=own_cut owv hb
      obtain ⟨ofBx,hoBx,iaBx,pBx0⟩:=hcB (p - 1) (by omega)
      obtain ⟨ofBy,hoBy,iaBy,pBy0⟩:=hcB (x) (by omega)
      obtain ⟨SC,kC,aC⟩:=cL (lget o (p - 1)) (lget o (x)) Sv
      have sC:E0.same Sv SC=true:=symEnv_same aC
      simp (disch:=first|omega|assumption) only [E0_G,SY,agreeKind,vals,ldA,aggD,Nat.reduceAdd,Nat.reduceLT,Nat.reduceBEq,TY_EvO0,store_agree,store_refl E0_same,g0,g1,h6a,v1,hxB,iaBx,pBx0,iaBy,pBy0,kC] at he
      have owC:=owv.agree aC
      have kpC:=kpv.trans (Keep.of aC)
      rcases dP (cmpI (lget o (p - 1)) (lget o (x))<0) with ⟨h7a,h7⟩|⟨h7a,h7⟩
      ·simp (disch:=first|omega|assumption) only [E0_G,SY,off,agreeKind,vals,Nat.reduceAdd,Nat.reduceLT,Nat.reduceBEq,store_refl E0_same,g0,g1,g2,h7a] at he
       obtain ⟨Sp,op,y,t,kpa,kpp,owp,hsp,hyp,hlp,hup⟩:=c183 o (by omega) lo SC v owC id hb p q x (by omega) (by omega) hx
       have pip:=(pi).go hsp
       have hlpp:=pip.sw.len
       have r1:IntKind.i64.wrap ((y:Int) - (p:Int))=((y - p:Nat):Int):=by rw [IntWalk.i64_in]<;>omega
       have r2:IntKind.i64.wrap ((q:Int) - (y:Int))=((q - y:Nat):Int):=by rw [IntWalk.i64_in]<;>omega
       have r3:IntKind.i64.wrap ((y:Int)+1)=((y+1:Nat):Int):=by rw [IntWalk.i64_in]<;>omega
       have r4:IntKind.i64.wrap (Int.tdiv ((q - p:Nat):Int) 8)=(((q - p) / 8:Nat):Int):=by rw [show Int.tdiv ((q - p:Nat):Int) 8=(((q - p) / 8:Nat):Int) from rfl,IntWalk.i64_in]<;>omega
       have prp:=pip.pre hpre
       simp (disch:=first|omega|assumption) only [E0_G,SY,off,agreeKind,aExtract,Nat.reduceAdd,Nat.reduceLT,Nat.reduceBEq,Int.reduceEq,store_refl E0_same,g1,g2,kpa,r1,r2,r4] at he
       rcases dP (((y - p:Nat):Int)<((q - y:Nat):Int)) with ⟨h8a,h8⟩|⟨h8a,h8⟩
       ·obtain ⟨Sr,or_,krc,kpr,owr,hsr,hrr⟩:=ih p y (by omega) (by omega) op (by omega) lo Sp v owp id hb (by omega) (lim) (fun h0 u h1 h2=>prp h0 u h1 (by omega))
        simp (disch:=first|omega|assumption) only [E0_G,SY,off,agreeKind,vals,Nat.reduceAdd,Nat.reduceLT,Nat.reduceBEq,store_refl E0_same,g0,g1,g3,r3,h8a,krc] at he
        have pir:=pip.go (hsr.mono (Nat.le_refl _) (by omega) (by omega))
        have ey:lget or_ y=lget op y:=hsr.out y (by omega)
        have hly:∀ u:Nat,p≤u→u<y→(lget or_ u)≤(lget op y):=hsr.all (P:=fun z=>z≤(lget op y)) hlp
        have pin:PI a b (y+1) q l or_:=pir.left ⟨by omega,by omega⟩ (fun u w h1 h2 h3=>by
         by_cases e:w=y
         ·subst e; rw [ey]; exact hly u h1 h2
         ·exact hrr u w h1 h2 (by omega)) (fun u w h1 h2 h3 h4=>by
         rw [hsr.out w (by omega)]
         have q1:=hup w (by omega) h4
         by_cases e:u=y
         ·subst e; rw [ey]; exact q1
         ·have:=hly u h1 (by omega); omega)
        exact .next he (m - (y+1 - p)) (by omega) ⟨y+1,q,or_,_,_,_,by omega,pin,by simp only [SY,eq_self,Nat.reduceBEq,g0]<;>rfl,by simp only [SY,eq_self,Nat.reduceBEq,g1]<;>rfl,by simp only [SY,eq_self,Nat.reduceBEq,g2]<;>rfl,by simp only [SY,Nat.reduceBEq,g3]<;>rfl,by simp only [SY,Nat.reduceBEq,g10]<;>rfl,by simp only [SY,Nat.reduceBEq,g11]<;>rfl,(kpC.trans kpp).trans kpr,owr⟩
       obtain ⟨Sr,or_,krc,kpr,owr,hsr,hrr⟩:=ih (y+1) q (by omega) (by omega) op (by omega) lo Sp v owp id hb (by omega) (lim) (fun h0 u h1 h2=>hup u (by omega) h2)
       simp (disch:=first|omega|assumption) only [E0_G,SY,off,agreeKind,vals,Nat.reduceAdd,Nat.reduceLT,Nat.reduceBEq,store_refl E0_same,g0,g2,g3,r3,h8a,krc] at he
       have pir:=pip.go (hsr.mono (by omega) (Nat.le_refl _) (by omega))
       have ey:lget or_ y=lget op y:=hsr.out y (by omega)
       have hly:∀ u:Nat,y+1≤u→u<q→(lget op y)≤(lget or_ u):=hsr.all (P:=fun z=>(lget op y)≤z) (fun u h1 h2=>hup u (by omega) h2)
       have pin:PI a b p y l or_:=pir.right ⟨by omega,by omega⟩ (fun u w h1 h2 h3=>by
        by_cases e:u=y
        ·subst e; rw [ey]; exact hly w (by omega) h3
        ·exact hrr u w (by omega) h2 h3) (fun u w h1 h2 h3 h4=>by
        rw [hsr.out u (by omega)]
        have q1:=hlp u h1 h2
        by_cases e:w=y
        ·subst e; rw [ey]; exact q1
        ·have:=hly w (by omega) h4; omega)
       exact .next he (m - (q - y)) (by omega) ⟨p,y,or_,_,_,_,by omega,pin,by simp only [SY,eq_self,Nat.reduceBEq,g0]<;>rfl,by simp only [SY,eq_self,Nat.reduceBEq,g1]<;>rfl,by simp only [SY,eq_self,Nat.reduceBEq,g2]<;>rfl,by simp only [SY,Nat.reduceBEq,g3]<;>rfl,by simp only [SY,Nat.reduceBEq,g10]<;>rfl,by simp only [SY,Nat.reduceBEq,g11]<;>rfl,(kpC.trans kpp).trans kpr,owr⟩
      rw [cmpI_lt] at h7
      obtain ⟨Sp,op,y,kpa,kpp,owp,hsp,hyp,hlp,hup⟩:=c182 o (by omega) lo SC v owC id hb p q x (by omega) (by omega) hx
      have pr:=(pi).pre hpre (by omega)
      have hmin:∀ u:Nat,p≤u→u<q→(lget o (x))≤(lget op u):=hsp.all (P:=fun z=>(lget o (x))≤z) (fun u h1 h2=>by have:=pr u h1 h2; omega)
      have pin:=((pi).go hsp).equal hyp hmin hlp hup
      simp (disch:=first|omega|assumption) only [E0_G,SY,off,agreeKind,vals,eq_self,if_true,Nat.reduceAdd,Nat.reduceLT,Nat.reduceBEq,store_refl E0_same,g0,g1,g2,h7a,kpa] at he
      exact .next he (m - (y - p)) (by omega) ⟨y,q,op,_,_,_,by omega,pin,by simp only [SY,eq_self,Nat.reduceBEq,g0]<;>rfl,by simp only [SY,eq_self,Nat.reduceBEq,g1]<;>rfl,by simp only [SY,eq_self,Nat.reduceBEq,g2]<;>rfl,by simp only [SY,Nat.reduceBEq,g3]<;>rfl,by simp only [SY,Nat.reduceBEq,g10]<;>rfl,by simp only [SY,Nat.reduceBEq,g11]<;>rfl,kpC.trans kpp,owp⟩
     simp (disch:=first|omega|assumption) only [E0_G,SY,off,agreeKind,vals,Nat.reduceAdd,Nat.reduceLT,Nat.reduceBEq,store_refl E0_same,g0,g1,g2,h6a] at he
     obtain ⟨Sp,op,y,t,kpa,kpp,owp,hsp,hyp,hlp,hup⟩:=c183 o (by omega) lo Sv v owv id hb p q x (by omega) (by omega) hx
     have pip:=(pi).go hsp
     have hlpp:=pip.sw.len
     have r1:IntKind.i64.wrap ((y:Int) - (p:Int))=((y - p:Nat):Int):=by rw [IntWalk.i64_in]<;>omega
     have r2:IntKind.i64.wrap ((q:Int) - (y:Int))=((q - y:Nat):Int):=by rw [IntWalk.i64_in]<;>omega
     have r3:IntKind.i64.wrap ((y:Int)+1)=((y+1:Nat):Int):=by rw [IntWalk.i64_in]<;>omega
     have r4:IntKind.i64.wrap (Int.tdiv ((q - p:Nat):Int) 8)=(((q - p) / 8:Nat):Int):=by rw [show Int.tdiv ((q - p:Nat):Int) 8=(((q - p) / 8:Nat):Int) from rfl,IntWalk.i64_in]<;>omega
     have prp:=pip.pre hpre
     simp (disch:=first|omega|assumption) only [E0_G,SY,off,agreeKind,aExtract,Nat.reduceAdd,Nat.reduceLT,Nat.reduceBEq,Int.reduceEq,store_refl E0_same,g1,g2,kpa,r1,r2,r4] at he
     rcases dP (((y - p:Nat):Int)<((q - y:Nat):Int)) with ⟨h8a,h8⟩|⟨h8a,h8⟩
     ·obtain ⟨Sr,or_,krc,kpr,owr,hsr,hrr⟩:=ih p y (by omega) (by omega) op (by omega) lo Sp v owp id hb (by omega) (lim) (fun h0 u h1 h2=>prp h0 u h1 (by omega))
      simp (disch:=first|omega|assumption) only [E0_G,SY,off,agreeKind,vals,Nat.reduceAdd,Nat.reduceLT,Nat.reduceBEq,store_refl E0_same,g0,g1,g3,r3,h8a,krc] at he
      have pir:=pip.go (hsr.mono (Nat.le_refl _) (by omega) (by omega))
      have ey:lget or_ y=lget op y:=hsr.out y (by omega)
      have hly:∀ u:Nat,p≤u→u<y→(lget or_ u)≤(lget op y):=hsr.all (P:=fun z=>z≤(lget op y)) hlp
      have pin:PI a b (y+1) q l or_:=pir.left ⟨by omega,by omega⟩ (fun u w h1 h2 h3=>by
       by_cases e:w=y
       ·subst e; rw [ey]; exact hly u h1 h2
       ·exact hrr u w h1 h2 (by omega)) (fun u w h1 h2 h3 h4=>by
       rw [hsr.out w (by omega)]
       have q1:=hup w (by omega) h4
       by_cases e:u=y
       ·subst e; rw [ey]; exact q1
       ·have:=hly u h1 (by omega); omega)
      exact .next he (m - (y+1 - p)) (by omega) ⟨y+1,q,or_,_,_,_,by omega,pin,by simp only [SY,eq_self,Nat.reduceBEq,g0]<;>rfl,by simp only [SY,eq_self,Nat.reduceBEq,g1]<;>rfl,by simp only [SY,eq_self,Nat.reduceBEq,g2]<;>rfl,by simp only [SY,Nat.reduceBEq,g3]<;>rfl,by simp only [SY,Nat.reduceBEq,g10]<;>rfl,by simp only [SY,Nat.reduceBEq,g11]<;>rfl,(kpv.trans kpp).trans kpr,owr⟩
     obtain ⟨Sr,or_,krc,kpr,owr,hsr,hrr⟩:=ih (y+1) q (by omega) (by omega) op (by omega) lo Sp v owp id hb (by omega) (lim) (fun h0 u h1 h2=>hup u (by omega) h2)
     simp (disch:=first|omega|assumption) only [E0_G,SY,off,agreeKind,vals,Nat.reduceAdd,Nat.reduceLT,Nat.reduceBEq,store_refl E0_same,g0,g2,g3,r3,h8a,krc] at he
     have pir:=pip.go (hsr.mono (by omega) (Nat.le_refl _) (by omega))
     have ey:lget or_ y=lget op y:=hsr.out y (by omega)
     have hly:∀ u:Nat,y+1≤u→u<q→(lget op y)≤(lget or_ u):=hsr.all (P:=fun z=>(lget op y)≤z) (fun u h1 h2=>hup u (by omega) h2)
     have pin:PI a b p y l or_:=pir.right ⟨by omega,by omega⟩ (fun u w h1 h2 h3=>by
      by_cases e:u=y
      ·subst e; rw [ey]; exact hly w (by omega) h3
      ·exact hrr u w (by omega) h2 h3) (fun u w h1 h2 h3 h4=>by
      rw [hsr.out u (by omega)]
      have q1:=hlp u h1 h2
      by_cases e:w=y
      ·subst e; rw [ey]; exact q1
      ·have:=hly w (by omega) h4; omega)
     exact .next he (m - (q - y)) (by omega) ⟨p,y,or_,_,_,_,by omega,pin,by simp only [SY,eq_self,Nat.reduceBEq,g0]<;>rfl,by simp only [SY,eq_self,Nat.reduceBEq,g1]<;>rfl,by simp only [SY,eq_self,Nat.reduceBEq,g2]<;>rfl,by simp only [SY,Nat.reduceBEq,g3]<;>rfl,by simp only [SY,Nat.reduceBEq,g10]<;>rfl,by simp only [SY,Nat.reduceBEq,g11]<;>rfl,(kpv.trans kpp).trans kpr,owr⟩
    ·simp (disch:=first|omega|assumption) only [E0_G,SY,off,agreeKind,vals,eq_self,Nat.reduceAdd,Nat.reduceLT,Nat.reduceBEq,Int.reduceEq,g0,g1,g2,g10,g11] at he
     have hlt:=(pi).sw.len
     obtain ⟨Si,oi,yi,ki,kpi,owi,hsi,hri⟩:=c180 o (by omega) lo Sv v owv id hb p q (by omega) (by omega) ((pi).pre hpre)
     have pii:=(pi).go hsi
     simp (disch:=first|omega|assumption) only [E0_G,SY,Nat.reduceLT,Nat.reduceBEq,store_refl E0_same,ki] at he
     rcases dB yi with ⟨ya,_⟩|⟨ya,yn⟩
     ·simp (disch:=first|omega|assumption) only [SY,store_refl E0_same,ya] at he
      exact .ret he ⟨rfl,oi,pii.sw,pii.fin (hri ya),kpv.trans kpi,owi⟩
     have ya':yi=false:=by simpa using yn
     simp (disch:=first|omega|assumption) only [SY,store_refl E0_same,ya'] at he
     have hlr:=(pii).sw.len
     rw [code_draws _ _ _ (by kernel_rfl)] at he
     generalize hnd8:needy _=nd8 at he
     rcases dP ((0:Int)<(p:Int)) with ⟨h6a,h6⟩|⟨h6a,h6⟩
     ·have v1:IntKind.i64.wrap ((p:Int) - 1)=((p - 1:Nat):Int):=by rw [IntWalk.i64_in]<;>omega
      obtain ⟨loB,ltB,ccB,exB,hxB,hcB⟩:=own_cut owi hb
      obtain ⟨ofBx,hoBx,iaBx,pBx0⟩:=hcB (p - 1) (by omega)
      obtain ⟨ofBy,hoBy,iaBy,pBy0⟩:=hcB (x) (by omega)
      obtain ⟨SC,kC,aC⟩:=cL (lget oi (p - 1)) (lget oi (x)) Si
      have sC:E0.same Si SC=true:=symEnv_same aC
      simp (disch:=first|omega|assumption) only [E0_G,SY,agreeKind,vals,ldA,aggD,Nat.reduceAdd,Nat.reduceLT,Nat.reduceBEq,TY_EvO0,store_agree,store_refl E0_same,g0,g1,h6a,v1,hxB,iaBx,pBx0,iaBy,pBy0,kC] at he
      have owC:=owi.agree aC
      have kpC:=(kpv.trans kpi).trans (Keep.of aC)
      rcases dP (cmpI (lget oi (p - 1)) (lget oi (x))<0) with ⟨h7a,h7⟩|⟨h7a,h7⟩
      ·simp (disch:=first|omega|assumption) only [E0_G,SY,off,agreeKind,vals,Nat.reduceAdd,Nat.reduceLT,Nat.reduceBEq,store_refl E0_same,g0,g1,g2,h7a] at he
       obtain ⟨Sp,op,y,t,kpa,kpp,owp,hsp,hyp,hlp,hup⟩:=c183 oi (by omega) lo SC v owC id hb p q x (by omega) (by omega) hx
       have pip:=(pii).go hsp
       have hlpp:=pip.sw.len
       have r1:IntKind.i64.wrap ((y:Int) - (p:Int))=((y - p:Nat):Int):=by rw [IntWalk.i64_in]<;>omega
       have r2:IntKind.i64.wrap ((q:Int) - (y:Int))=((q - y:Nat):Int):=by rw [IntWalk.i64_in]<;>omega
       have r3:IntKind.i64.wrap ((y:Int)+1)=((y+1:Nat):Int):=by rw [IntWalk.i64_in]<;>omega
       have r4:IntKind.i64.wrap (Int.tdiv ((q - p:Nat):Int) 8)=(((q - p) / 8:Nat):Int):=by rw [show Int.tdiv ((q - p:Nat):Int) 8=(((q - p) / 8:Nat):Int) from rfl,IntWalk.i64_in]<;>omega
       have prp:=pip.pre hpre
       simp (disch:=first|omega|assumption) only [E0_G,SY,off,agreeKind,aExtract,Nat.reduceAdd,Nat.reduceLT,Nat.reduceBEq,Int.reduceEq,store_refl E0_same,g1,g2,kpa,r1,r2,r4] at he
       rcases dP (((y - p:Nat):Int)<((q - y:Nat):Int)) with ⟨h8a,h8⟩|⟨h8a,h8⟩
       ·obtain ⟨Sr,or_,krc,kpr,owr,hsr,hrr⟩:=ih p y (by omega) (by omega) op (by omega) lo Sp v owp id hb (by omega) (lim) (fun h0 u h1 h2=>prp h0 u h1 (by omega))
        simp (disch:=first|omega|assumption) only [E0_G,SY,off,agreeKind,vals,Nat.reduceAdd,Nat.reduceLT,Nat.reduceBEq,store_refl E0_same,g0,g1,g3,r3,h8a,krc] at he
        have pir:=pip.go (hsr.mono (Nat.le_refl _) (by omega) (by omega))
        have ey:lget or_ y=lget op y:=hsr.out y (by omega)
        have hly:∀ u:Nat,p≤u→u<y→(lget or_ u)≤(lget op y):=hsr.all (P:=fun z=>z≤(lget op y)) hlp
        have pin:PI a b (y+1) q l or_:=pir.left ⟨by omega,by omega⟩ (fun u w h1 h2 h3=>by
         by_cases e:w=y
         ·subst e; rw [ey]; exact hly u h1 h2
         ·exact hrr u w h1 h2 (by omega)) (fun u w h1 h2 h3 h4=>by
         rw [hsr.out w (by omega)]
         have q1:=hup w (by omega) h4
         by_cases e:u=y
         ·subst e; rw [ey]; exact q1
         ·have:=hly u h1 (by omega); omega)
        exact .next he (m - (y+1 - p)) (by omega) ⟨y+1,q,or_,_,_,_,by omega,pin,by simp only [SY,eq_self,Nat.reduceBEq,g0]<;>rfl,by simp only [SY,eq_self,Nat.reduceBEq,g1]<;>rfl,by simp only [SY,eq_self,Nat.reduceBEq,g2]<;>rfl,by simp only [SY,Nat.reduceBEq,g3]<;>rfl,by simp only [SY,Nat.reduceBEq,g10]<;>rfl,by simp only [SY,Nat.reduceBEq,g11]<;>rfl,(kpC.trans kpp).trans kpr,owr⟩
       obtain ⟨Sr,or_,krc,kpr,owr,hsr,hrr⟩:=ih (y+1) q (by omega) (by omega) op (by omega) lo Sp v owp id hb (by omega) (lim) (fun h0 u h1 h2=>hup u (by omega) h2)
       simp (disch:=first|omega|assumption) only [E0_G,SY,off,agreeKind,vals,Nat.reduceAdd,Nat.reduceLT,Nat.reduceBEq,store_refl E0_same,g0,g2,g3,r3,h8a,krc] at he
       have pir:=pip.go (hsr.mono (by omega) (Nat.le_refl _) (by omega))
       have ey:lget or_ y=lget op y:=hsr.out y (by omega)
       have hly:∀ u:Nat,y+1≤u→u<q→(lget op y)≤(lget or_ u):=hsr.all (P:=fun z=>(lget op y)≤z) (fun u h1 h2=>hup u (by omega) h2)
       have pin:PI a b p y l or_:=pir.right ⟨by omega,by omega⟩ (fun u w h1 h2 h3=>by
        by_cases e:u=y
        ·subst e; rw [ey]; exact hly w (by omega) h3
        ·exact hrr u w (by omega) h2 h3) (fun u w h1 h2 h3 h4=>by
        rw [hsr.out u (by omega)]
        have q1:=hlp u h1 h2
        by_cases e:w=y
        ·subst e; rw [ey]; exact q1
        ·have:=hly w (by omega) h4; omega)
       exact .next he (m - (q - y)) (by omega) ⟨p,y,or_,_,_,_,by omega,pin,by simp only [SY,eq_self,Nat.reduceBEq,g0]<;>rfl,by simp only [SY,eq_self,Nat.reduceBEq,g1]<;>rfl,by simp only [SY,eq_self,Nat.reduceBEq,g2]<;>rfl,by simp only [SY,Nat.reduceBEq,g3]<;>rfl,by simp only [SY,Nat.reduceBEq,g10]<;>rfl,by simp only [SY,Nat.reduceBEq,g11]<;>rfl,(kpC.trans kpp).trans kpr,owr⟩
      rw [cmpI_lt] at h7
      obtain ⟨Sp,op,y,kpa,kpp,owp,hsp,hyp,hlp,hup⟩:=c182 oi (by omega) lo SC v owC id hb p q x (by omega) (by omega) hx
      have pr:=(pii).pre hpre (by omega)
      have hmin:∀ u:Nat,p≤u→u<q→(lget oi (x))≤(lget op u):=hsp.all (P:=fun z=>(lget oi (x))≤z) (fun u h1 h2=>by have:=pr u h1 h2; omega)
      have pin:=((pii).go hsp).equal hyp hmin hlp hup
      simp (disch:=first|omega|assumption) only [E0_G,SY,off,agreeKind,vals,eq_self,if_true,Nat.reduceAdd,Nat.reduceLT,Nat.reduceBEq,store_refl E0_same,g0,g1,g2,h7a,kpa] at he
      exact .next he (m - (y - p)) (by omega) ⟨y,q,op,_,_,_,by omega,pin,by simp only [SY,eq_self,Nat.reduceBEq,g0]<;>rfl,by simp only [SY,eq_self,Nat.reduceBEq,g1]<;>rfl,by simp only [SY,eq_self,Nat.reduceBEq,g2]<;>rfl,by simp only [SY,Nat.reduceBEq,g3]<;>rfl,by simp only [SY,Nat.reduceBEq,g10]<;>rfl,by simp only [SY,Nat.reduceBEq,g11]<;>rfl,kpC.trans kpp,owp⟩
     simp (disch:=first|omega|assumption) only [E0_G,SY,off,agreeKind,vals,Nat.reduceAdd,Nat.reduceLT,Nat.reduceBEq,store_refl E0_same,g0,g1,g2,h6a] at he
     obtain ⟨Sp,op,y,t,kpa,kpp,owp,hsp,hyp,hlp,hup⟩:=c183 oi (by omega) lo Si v owi id hb p q x (by omega) (by omega) hx
     have pip:=(pii).go hsp
     have hlpp:=pip.sw.len
     have r1:IntKind.i64.wrap ((y:Int) - (p:Int))=((y - p:Nat):Int):=by rw [IntWalk.i64_in]<;>omega
     have r2:IntKind.i64.wrap ((q:Int) - (y:Int))=((q - y:Nat):Int):=by rw [IntWalk.i64_in]<;>omega
     have r3:IntKind.i64.wrap ((y:Int)+1)=((y+1:Nat):Int):=by rw [IntWalk.i64_in]<;>omega
     have r4:IntKind.i64.wrap (Int.tdiv ((q - p:Nat):Int) 8)=(((q - p) / 8:Nat):Int):=by rw [show Int.tdiv ((q - p:Nat):Int) 8=(((q - p) / 8:Nat):Int) from rfl,IntWalk.i64_in]<;>omega
     have prp:=pip.pre hpre
     simp (disch:=first|omega|assumption) only [E0_G,SY,off,agreeKind,aExtract,Nat.reduceAdd,Nat.reduceLT,Nat.reduceBEq,Int.reduceEq,store_refl E0_same,g1,g2,kpa,r1,r2,r4] at he
     rcases dP (((y - p:Nat):Int)<((q - y:Nat):Int)) with ⟨h8a,h8⟩|⟨h8a,h8⟩
     ·obtain ⟨Sr,or_,krc,kpr,owr,hsr,hrr⟩:=ih p y (by omega) (by omega) op (by omega) lo Sp v owp id hb (by omega) (lim) (fun h0 u h1 h2=>prp h0 u h1 (by omega))
      simp (disch:=first|omega|assumption) only [E0_G,SY,off,agreeKind,vals,Nat.reduceAdd,Nat.reduceLT,Nat.reduceBEq,store_refl E0_same,g0,g1,g3,r3,h8a,krc] at he
      have pir:=pip.go (hsr.mono (Nat.le_refl _) (by omega) (by omega))
      have ey:lget or_ y=lget op y:=hsr.out y (by omega)
      have hly:∀ u:Nat,p≤u→u<y→(lget or_ u)≤(lget op y):=hsr.all (P:=fun z=>z≤(lget op y)) hlp
      have pin:PI a b (y+1) q l or_:=pir.left ⟨by omega,by omega⟩ (fun u w h1 h2 h3=>by
       by_cases e:w=y
       ·subst e; rw [ey]; exact hly u h1 h2
       ·exact hrr u w h1 h2 (by omega)) (fun u w h1 h2 h3 h4=>by
       rw [hsr.out w (by omega)]
       have q1:=hup w (by omega) h4
       by_cases e:u=y
       ·subst e; rw [ey]; exact q1
       ·have:=hly u h1 (by omega); omega)
      exact .next he (m - (y+1 - p)) (by omega) ⟨y+1,q,or_,_,_,_,by omega,pin,by simp only [SY,eq_self,Nat.reduceBEq,g0]<;>rfl,by simp only [SY,eq_self,Nat.reduceBEq,g1]<;>rfl,by simp only [SY,eq_self,Nat.reduceBEq,g2]<;>rfl,by simp only [SY,Nat.reduceBEq,g3]<;>rfl,by simp only [SY,Nat.reduceBEq,g10]<;>rfl,by simp only [SY,Nat.reduceBEq,g11]<;>rfl,((kpv.trans kpi).trans kpp).trans kpr,owr⟩
     obtain ⟨Sr,or_,krc,kpr,owr,hsr,hrr⟩:=ih (y+1) q (by omega) (by omega) op (by omega) lo Sp v owp id hb (by omega) (lim) (fun h0 u h1 h2=>hup u (by omega) h2)
     simp (disch:=first|omega|assumption) only [E0_G,SY,off,agreeKind,vals,Nat.reduceAdd,Nat.reduceLT,Nat.reduceBEq,store_refl E0_same,g0,g2,g3,r3,h8a,krc] at he
     have pir:=pip.go (hsr.mono (by omega) (Nat.le_refl _) (by omega))
     have ey:lget or_ y=lget op y:=hsr.out y (by omega)
     have hly:∀ u:Nat,y+1≤u→u<q→(lget op y)≤(lget or_ u):=hsr.all (P:=fun z=>(lget op y)≤z) (fun u h1 h2=>hup u (by omega) h2)
     have pin:PI a b p y l or_:=pir.right ⟨by omega,by omega⟩ (fun u w h1 h2 h3=>by
      by_cases e:u=y
      ·subst e; rw [ey]; exact hly w (by omega) h3
      ·exact hrr u w (by omega) h2 h3) (fun u w h1 h2 h3 h4=>by
      rw [hsr.out u (by omega)]
      have q1:=hlp u h1 h2
      by_cases e:w=y
      ·subst e; rw [ey]; exact q1
      ·have:=hly w (by omega) h4; omega)
     exact .next he (m - (q - y)) (by omega) ⟨p,y,or_,_,_,_,by omega,pin,by simp only [SY,eq_self,Nat.reduceBEq,g0]<;>rfl,by simp only [SY,eq_self,Nat.reduceBEq,g1]<;>rfl,by simp only [SY,eq_self,Nat.reduceBEq,g2]<;>rfl,by simp only [SY,Nat.reduceBEq,g3]<;>rfl,by simp only [SY,Nat.reduceBEq,g10]<;>rfl,by simp only [SY,Nat.reduceBEq,g11]<;>rfl,((kpv.trans kpi).trans kpp).trans kpr,owr⟩
    obtain ⟨Sw_,ow_,kw,kpw,oww,hsw⟩:=c179 o (by omega) lo Sv v owv id hb p q (by omega) (by omega)
    have piw:=(pi).go hsw
    have y1:IntKind.i64.wrap ((q:Int) - 1)=((q - 1:Nat):Int):=by rw [IntWalk.i64_in]<;>omega
    have y2:IntKind.i64.wrap ((x:Int) - (p:Int))=((x - p:Nat):Int):=by rw [IntWalk.i64_in]<;>omega
    have y3:IntKind.i64.wrap (((q - 1:Nat):Int) - ((x - p:Nat):Int))=((q - 1 - (x - p):Nat):Int):=by rw [IntWalk.i64_in]<;>omega
    simp (disch:=first|omega|assumption) only [E0_G,SY,off,agreeKind,vals,eq_self,Nat.reduceAdd,Nat.reduceLT,Nat.reduceBEq,store_refl E0_same,g0,g1,g2,g10,g11,kw,y1,y2,y3] at he
    have hlt:=(piw).sw.len
    obtain ⟨Si,oi,yi,ki,kpi,owi,hsi,hri⟩:=c180 ow_ (by omega) lo Sw_ v oww id hb p q (by omega) (by omega) ((piw).pre hpre)
    have pii:=(piw).go hsi
    simp (disch:=first|omega|assumption) only [E0_G,SY,Nat.reduceLT,Nat.reduceBEq,store_refl E0_same,ki] at he
    rcases dB yi with ⟨ya,_⟩|⟨ya,yn⟩
    ·simp (disch:=first|omega|assumption) only [SY,store_refl E0_same,ya] at he
     exact .ret he ⟨rfl,oi,pii.sw,pii.fin (hri ya),(kpv.trans kpw).trans kpi,owi⟩
    have ya':yi=false:=by simpa using yn
    simp (disch:=first|omega|assumption) only [SY,store_refl E0_same,ya'] at he
    have hlr:=(pii).sw.len
    rw [code_draws _ _ _ (by kernel_rfl)] at he
    generalize hnd9:needy _=nd9 at he
    rcases dP ((0:Int)<(p:Int)) with ⟨h6a,h6⟩|⟨h6a,h6⟩
    ·have v1:IntKind.i64.wrap ((p:Int) - 1)=((p - 1:Nat):Int):=by rw [IntWalk.i64_in]<;>omega
     obtain ⟨loB,ltB,ccB,exB,hxB,hcB⟩:=own_cut owi hb
     obtain ⟨ofBx,hoBx,iaBx,pBx0⟩:=hcB (p - 1) (by omega)
     obtain ⟨ofBy,hoBy,iaBy,pBy0⟩:=hcB ((q - 1 - (x - p))) (by omega)
     obtain ⟨SC,kC,aC⟩:=cL (lget oi (p - 1)) (lget oi ((q - 1 - (x - p)))) Si
     have sC:E0.same Si SC=true:=symEnv_same aC
     simp (disch:=first|omega|assumption) only [E0_G,SY,agreeKind,vals,ldA,aggD,Nat.reduceAdd,Nat.reduceLT,Nat.reduceBEq,TY_EvO0,store_agree,store_refl E0_same,g0,g1,h6a,v1,hxB,iaBx,pBx0,iaBy,pBy0,kC] at he
     have owC:=owi.agree aC
     have kpC:=((kpv.trans kpw).trans kpi).trans (Keep.of aC)
     rcases dP (cmpI (lget oi (p - 1)) (lget oi ((q - 1 - (x - p))))<0) with ⟨h7a,h7⟩|⟨h7a,h7⟩
     ·simp (disch:=first|omega|assumption) only [E0_G,SY,off,agreeKind,vals,Nat.reduceAdd,Nat.reduceLT,Nat.reduceBEq,store_refl E0_same,g0,g1,g2,h7a] at he
      obtain ⟨Sp,op,y,t,kpa,kpp,owp,hsp,hyp,hlp,hup⟩:=c183 oi (by omega) lo SC v owC id hb p q (q - 1 - (x - p)) (by omega) (by omega) ⟨by omega,by omega⟩
      have pip:=(pii).go hsp
      have hlpp:=pip.sw.len
      have r1:IntKind.i64.wrap ((y:Int) - (p:Int))=((y - p:Nat):Int):=by rw [IntWalk.i64_in]<;>omega
      have r2:IntKind.i64.wrap ((q:Int) - (y:Int))=((q - y:Nat):Int):=by rw [IntWalk.i64_in]<;>omega
      have r3:IntKind.i64.wrap ((y:Int)+1)=((y+1:Nat):Int):=by rw [IntWalk.i64_in]<;>omega
      have r4:IntKind.i64.wrap (Int.tdiv ((q - p:Nat):Int) 8)=(((q - p) / 8:Nat):Int):=by rw [show Int.tdiv ((q - p:Nat):Int) 8=(((q - p) / 8:Nat):Int) from rfl,IntWalk.i64_in]<;>omega
      have prp:=pip.pre hpre
      simp (disch:=first|omega|assumption) only [E0_G,SY,off,agreeKind,aExtract,Nat.reduceAdd,Nat.reduceLT,Nat.reduceBEq,Int.reduceEq,store_refl E0_same,g1,g2,kpa,r1,r2,r4] at he
      rcases dP (((y - p:Nat):Int)<((q - y:Nat):Int)) with ⟨h8a,h8⟩|⟨h8a,h8⟩
      ·obtain ⟨Sr,or_,krc,kpr,owr,hsr,hrr⟩:=ih p y (by omega) (by omega) op (by omega) lo Sp v owp id hb (by omega) (lim) (fun h0 u h1 h2=>prp h0 u h1 (by omega))
       simp (disch:=first|omega|assumption) only [E0_G,SY,off,agreeKind,vals,Nat.reduceAdd,Nat.reduceLT,Nat.reduceBEq,store_refl E0_same,g0,g1,g3,r3,h8a,krc] at he
       have pir:=pip.go (hsr.mono (Nat.le_refl _) (by omega) (by omega))
       have ey:lget or_ y=lget op y:=hsr.out y (by omega)
       have hly:∀ u:Nat,p≤u→u<y→(lget or_ u)≤(lget op y):=hsr.all (P:=fun z=>z≤(lget op y)) hlp
       have pin:PI a b (y+1) q l or_:=pir.left ⟨by omega,by omega⟩ (fun u w h1 h2 h3=>by
        by_cases e:w=y
        ·subst e; rw [ey]; exact hly u h1 h2
        ·exact hrr u w h1 h2 (by omega)) (fun u w h1 h2 h3 h4=>by
        rw [hsr.out w (by omega)]
        have q1:=hup w (by omega) h4
        by_cases e:u=y
        ·subst e; rw [ey]; exact q1
        ·have:=hly u h1 (by omega); omega)
       exact .next he (m - (y+1 - p)) (by omega) ⟨y+1,q,or_,_,_,_,by omega,pin,by simp only [SY,eq_self,Nat.reduceBEq,g0]<;>rfl,by simp only [SY,eq_self,Nat.reduceBEq,g1]<;>rfl,by simp only [SY,eq_self,Nat.reduceBEq,g2]<;>rfl,by simp only [SY,Nat.reduceBEq,g3]<;>rfl,by simp only [SY,Nat.reduceBEq,g10]<;>rfl,by simp only [SY,Nat.reduceBEq,g11]<;>rfl,(kpC.trans kpp).trans kpr,owr⟩
      obtain ⟨Sr,or_,krc,kpr,owr,hsr,hrr⟩:=ih (y+1) q (by omega) (by omega) op (by omega) lo Sp v owp id hb (by omega) (lim) (fun h0 u h1 h2=>hup u (by omega) h2)
      simp (disch:=first|omega|assumption) only [E0_G,SY,off,agreeKind,vals,Nat.reduceAdd,Nat.reduceLT,Nat.reduceBEq,store_refl E0_same,g0,g2,g3,r3,h8a,krc] at he
      have pir:=pip.go (hsr.mono (by omega) (Nat.le_refl _) (by omega))
      have ey:lget or_ y=lget op y:=hsr.out y (by omega)
      have hly:∀ u:Nat,y+1≤u→u<q→(lget op y)≤(lget or_ u):=hsr.all (P:=fun z=>(lget op y)≤z) (fun u h1 h2=>hup u (by omega) h2)
      have pin:PI a b p y l or_:=pir.right ⟨by omega,by omega⟩ (fun u w h1 h2 h3=>by
       by_cases e:u=y
       ·subst e; rw [ey]; exact hly w (by omega) h3
       ·exact hrr u w (by omega) h2 h3) (fun u w h1 h2 h3 h4=>by
       rw [hsr.out u (by omega)]
       have q1:=hlp u h1 h2
       by_cases e:w=y
       ·subst e; rw [ey]; exact q1
       ·have:=hly w (by omega) h4; omega)
      exact .next he (m - (q - y)) (by omega) ⟨p,y,or_,_,_,_,by omega,pin,by simp only [SY,eq_self,Nat.reduceBEq,g0]<;>rfl,by simp only [SY,eq_self,Nat.reduceBEq,g1]<;>rfl,by simp only [SY,eq_self,Nat.reduceBEq,g2]<;>rfl,by simp only [SY,Nat.reduceBEq,g3]<;>rfl,by simp only [SY,Nat.reduceBEq,g10]<;>rfl,by simp only [SY,Nat.reduceBEq,g11]<;>rfl,(kpC.trans kpp).trans kpr,owr⟩
     rw [cmpI_lt] at h7
     obtain ⟨Sp,op,y,kpa,kpp,owp,hsp,hyp,hlp,hup⟩:=c182 oi (by omega) lo SC v owC id hb p q (q - 1 - (x - p)) (by omega) (by omega) ⟨by omega,by omega⟩
     have pr:=(pii).pre hpre (by omega)
     have hmin:∀ u:Nat,p≤u→u<q→(lget oi ((q - 1 - (x - p))))≤(lget op u):=hsp.all (P:=fun z=>(lget oi ((q - 1 - (x - p))))≤z) (fun u h1 h2=>by have:=pr u h1 h2; omega)
     have pin:=((pii).go hsp).equal hyp hmin hlp hup
     simp (disch:=first|omega|assumption) only [E0_G,SY,off,agreeKind,vals,eq_self,if_true,Nat.reduceAdd,Nat.reduceLT,Nat.reduceBEq,store_refl E0_same,g0,g1,g2,h7a,kpa] at he
     exact .next he (m - (y - p)) (by omega) ⟨y,q,op,_,_,_,by omega,pin,by simp only [SY,eq_self,Nat.reduceBEq,g0]<;>rfl,by simp only [SY,eq_self,Nat.reduceBEq,g1]<;>rfl,by simp only [SY,eq_self,Nat.reduceBEq,g2]<;>rfl,by simp only [SY,Nat.reduceBEq,g3]<;>rfl,by simp only [SY,Nat.reduceBEq,g10]<;>rfl,by simp only [SY,Nat.reduceBEq,g11]<;>rfl,kpC.trans kpp,owp⟩
    simp (disch:=first|omega|assumption) only [E0_G,SY,off,agreeKind,vals,Nat.reduceAdd,Nat.reduceLT,Nat.reduceBEq,store_refl E0_same,g0,g1,g2,h6a] at he
    obtain ⟨Sp,op,y,t,kpa,kpp,owp,hsp,hyp,hlp,hup⟩:=c183 oi (by omega) lo Si v owi id hb p q (q - 1 - (x - p)) (by omega) (by omega) ⟨by omega,by omega⟩
    have pip:=(pii).go hsp
    have hlpp:=pip.sw.len
    have r1:IntKind.i64.wrap ((y:Int) - (p:Int))=((y - p:Nat):Int):=by rw [IntWalk.i64_in]<;>omega
    have r2:IntKind.i64.wrap ((q:Int) - (y:Int))=((q - y:Nat):Int):=by rw [IntWalk.i64_in]<;>omega
    have r3:IntKind.i64.wrap ((y:Int)+1)=((y+1:Nat):Int):=by rw [IntWalk.i64_in]<;>omega
    have r4:IntKind.i64.wrap (Int.tdiv ((q - p:Nat):Int) 8)=(((q - p) / 8:Nat):Int):=by rw [show Int.tdiv ((q - p:Nat):Int) 8=(((q - p) / 8:Nat):Int) from rfl,IntWalk.i64_in]<;>omega
    have prp:=pip.pre hpre
    simp (disch:=first|omega|assumption) only [E0_G,SY,off,agreeKind,aExtract,Nat.reduceAdd,Nat.reduceLT,Nat.reduceBEq,Int.reduceEq,store_refl E0_same,g1,g2,kpa,r1,r2,r4] at he
    rcases dP (((y - p:Nat):Int)<((q - y:Nat):Int)) with ⟨h8a,h8⟩|⟨h8a,h8⟩
    ·obtain ⟨Sr,or_,krc,kpr,owr,hsr,hrr⟩:=ih p y (by omega) (by omega) op (by omega) lo Sp v owp id hb (by omega) (lim) (fun h0 u h1 h2=>prp h0 u h1 (by omega))
     simp (disch:=first|omega|assumption) only [E0_G,SY,off,agreeKind,vals,Nat.reduceAdd,Nat.reduceLT,Nat.reduceBEq,store_refl E0_same,g0,g1,g3,r3,h8a,krc] at he
     have pir:=pip.go (hsr.mono (Nat.le_refl _) (by omega) (by omega))
     have ey:lget or_ y=lget op y:=hsr.out y (by omega)
     have hly:∀ u:Nat,p≤u→u<y→(lget or_ u)≤(lget op y):=hsr.all (P:=fun z=>z≤(lget op y)) hlp
     have pin:PI a b (y+1) q l or_:=pir.left ⟨by omega,by omega⟩ (fun u w h1 h2 h3=>by
      by_cases e:w=y
      ·subst e; rw [ey]; exact hly u h1 h2
      ·exact hrr u w h1 h2 (by omega)) (fun u w h1 h2 h3 h4=>by
      rw [hsr.out w (by omega)]
      have q1:=hup w (by omega) h4
      by_cases e:u=y
      ·subst e; rw [ey]; exact q1
      ·have:=hly u h1 (by omega); omega)
     exact .next he (m - (y+1 - p)) (by omega) ⟨y+1,q,or_,_,_,_,by omega,pin,by simp only [SY,eq_self,Nat.reduceBEq,g0]<;>rfl,by simp only [SY,eq_self,Nat.reduceBEq,g1]<;>rfl,by simp only [SY,eq_self,Nat.reduceBEq,g2]<;>rfl,by simp only [SY,Nat.reduceBEq,g3]<;>rfl,by simp only [SY,Nat.reduceBEq,g10]<;>rfl,by simp only [SY,Nat.reduceBEq,g11]<;>rfl,(((kpv.trans kpw).trans kpi).trans kpp).trans kpr,owr⟩
    obtain ⟨Sr,or_,krc,kpr,owr,hsr,hrr⟩:=ih (y+1) q (by omega) (by omega) op (by omega) lo Sp v owp id hb (by omega) (lim) (fun h0 u h1 h2=>hup u (by omega) h2)
    simp (disch:=first|omega|assumption) only [E0_G,SY,off,agreeKind,vals,Nat.reduceAdd,Nat.reduceLT,Nat.reduceBEq,store_refl E0_same,g0,g2,g3,r3,h8a,krc] at he
    have pir:=pip.go (hsr.mono (by omega) (Nat.le_refl _) (by omega))
    have ey:lget or_ y=lget op y:=hsr.out y (by omega)
    have hly:∀ u:Nat,y+1≤u→u<q→(lget op y)≤(lget or_ u):=hsr.all (P:=fun z=>(lget op y)≤z) (fun u h1 h2=>hup u (by omega) h2)
    have pin:PI a b p y l or_:=pir.right ⟨by omega,by omega⟩ (fun u w h1 h2 h3=>by
     by_cases e:u=y
     ·subst e; rw [ey]; exact hly w (by omega) h3
     ·exact hrr u w (by omega) h2 h3) (fun u w h1 h2 h3 h4=>by
     rw [hsr.out u (by omega)]
     have q1:=hlp u h1 h2
     by_cases e:w=y
     ·subst e; rw [ey]; exact q1
     ·have:=hly w (by omega) h4; omega)
    exact .next he (m - (q - y)) (by omega) ⟨p,y,or_,_,_,_,by omega,pin,by simp only [SY,eq_self,Nat.reduceBEq,g0]<;>rfl,by simp only [SY,eq_self,Nat.reduceBEq,g1]<;>rfl,by simp only [SY,eq_self,Nat.reduceBEq,g2]<;>rfl,by simp only [SY,Nat.reduceBEq,g3]<;>rfl,by simp only [SY,Nat.reduceBEq,g10]<;>rfl,by simp only [SY,Nat.reduceBEq,g11]<;>rfl,(((kpv.trans kpw).trans kpi).trans kpp).trans kpr,owr⟩)
  obtain ⟨rfl,o,hs,hr,kp,ow⟩:=hQ1
  simp (disch:=first|omega|assumption) only [SY,store_refl E0_same] at hz
  exact ⟨_,o,hz.symm,kp,ow,hs,hr⟩
end Clock
end Go.Proofs
