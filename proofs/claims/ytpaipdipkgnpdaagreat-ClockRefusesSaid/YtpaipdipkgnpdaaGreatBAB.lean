import Derived.Test.YtpaipdipkgnpdaaGreatBAA
import Derived.Test.YtpaipdipkgnpdaaGreatBM
section
set_option linter.unusedSimpArgs false
set_option linter.unusedVariables false
namespace Go.Proofs
namespace Clock
open Go Go.RowKit Go.Aev
set_option maxRecDepth 100000
theorem TY_EvW29:type_of% TY_EvW28:=TY_EvW28
def MapN (S:AS) (v:Value) (es:List (Nd × Int)):Prop:=∃ pm cl,v=.map (some pm)∧S.heap.get pm=some (.mapb (mapN es) cl)∧pm<S.next
theorem MapN.agree {S S':AS} {v:Value} {es:List (Nd × Int)} (h:MapN S v es) (a:Agree S S'):MapN S' v es:=by
 obtain ⟨pm,cl,h1,h2,h3⟩:=h
 exact ⟨pm,cl,h1,(a.2 pm h3).trans h2,by have:=a.1; omega⟩
theorem MapN.val {S:AS} {v:Value} {es:List (Nd × Int)} (h:MapN S v es):∃ pm,v=.map (some pm):=⟨h.choose,h.choose_spec.choose_spec.1⟩
theorem c80r (r:Rc) (further:List Int) (hp:r.ses.stops.length≤12) (hs:r.strikes.length≤20) (hg:r.sights.length≤20) (hf:further.length≤5) (h1:1≤r.ses.rLo) (h2:1≤r.ses.rHi) (S:AS) (v0:Value) (q0:Lst S v0 r.ses.stops) (v1:Value) (q1:Lst S v1 r.strikes) (v2:Value) (q2:Lst S v2 r.sights) (vf:Value) (qf:Lst S vf further) :
  ∃ vn vm vl S',(evL Tryz.prog E0).call 80 #[.agg (rcCells r v0 v1 v2).toArray,vf] S=some (.agg #[vn,vm,vl],S')∧Agree S S'∧Lst S' vn (nodesR r further)∧MapN S' vm (idxR r further)∧Lst S' vl (linksR r further):=by
 obtain ⟨vn,pm,cl,vl,S',k1,k2,k3,k4,k5,k6⟩:=c80 r further hp hs hg hf h1 h2 S v0 v1 v2 vf q0 q1 q2 qf
 exact ⟨vn,_,vl,S',k1,k2,k3,⟨pm,cl,rfl,k4,k5⟩,k6⟩
theorem r25_ok {r:Rc} (h:r25 r=0):(1≤r.ses.rLo∧1≤r.ses.rHi)∧r.strikes.length≤12:=by
 unfold r25 at h
 split at h
 ·simp at h
 split at h
 ·rename_i h82
  have hr:r142 r.ses.rLo r.ses.rHi 900000 1100000=true:=by
   unfold r82 at h82
   by_cases a:r142 r.ses.rLo r.ses.rHi 900000 1100000=true
   ·exact a
   ·rw [if_neg a] at h82; repeat' split at h82
    all_goals simp at h82
  have h3:900000≤r.ses.rLo∧r.ses.rLo≤r.ses.rHi:=by
   unfold r142 at hr; repeat' split at hr
   all_goals first|(simp at hr; done)|omega
  split at h
  ·simp at h
  ·exact ⟨by omega,by omega⟩
 ·simp at h
theorem nPut_all {P:Int→Prop} (k:Nd) (v:Int) (hv:P v):∀ es:List (Nd × Int),(∀ x ∈ es,P x.2)→∀ x ∈ nPut es k v,P x.2
 | [],_,x,hx=>by simp only [nPut,List.mem_singleton] at hx; rw [hx]; exact hv
 | (q,u) :: es,h,x,hx=>by
  simp only [nPut] at hx
  split at hx
  ·rcases List.mem_cons.1 hx with rfl|hx
   ·exact hv
   ·exact h x (by simp [hx])
  ·rcases List.mem_cons.1 hx with rfl|hx
   ·exact h _ (by simp)
   ·exact nPut_all k v hv es (fun y hy=>h y (by simp [hy])) x hx
theorem idxL_all (m:Int):∀ (l:List Nd) (k:Nat) (es:List (Nd × Int)),((k:Int)+l.length≤m)→(∀ x ∈ es,0≤x.2∧x.2<m)→∀ x ∈ idxL l k es,0≤x.2∧x.2<m
 | [],_,_,_,h,x,hx=>h x hx
 | a :: l,k,es,hk,h,x,hx=>by
  simp only [List.length_cons] at hk
  rw [idxL] at hx
  exact idxL_all m l (k+1) (nPut es a (k:Int)) (by omega) (nPut_all (P:=fun v=>0≤v∧v<m) a k (by omega) es h) x hx
theorem nLook_all {P:Int→Prop} (k:Nd):∀ es:List (Nd × Int),(∀ x ∈ es,P x.2)→∀ v,nLook es k=some v→P v
 | [],_,v,hv=>by simp [nLook] at hv
 | (q,u) :: es,h,v,hv=>by
  simp only [nLook] at hv
  split at hv
  ·cases hv; exact h (q,u) (by simp)
  ·exact nLook_all k es (fun y hy=>h y (by simp [hy])) v hv
theorem nodesR_pos (r:Rc) (f:List Int):3≤(nodesR r f).length:=by rw [nodesR,List.length_append,nodesK_len]; omega
theorem nAt_ok (r:Rc) (f:List Int) (x:Nd):0≤nAt (idxR r f) x∧nAt (idxR r f) x<(nodesR r f).length:=by
 have h:=idxL_all ((nodesR r f).length:Int) (nodesR r f) 0 [] (by simp) (fun x hx=>by cases hx)
 have hp:=nodesR_pos r f
 unfold nAt
 cases hl:nLook (idxR r f) x with
 | none=>simp; omega
 | some v=>exact nLook_all (P:=fun v=>0≤v∧v<((nodesR r f).length:Int)) x (idxR r f) h v hl
def LkOk (n:Nat) (l:Lk):Prop:=0≤l.fr∧l.fr<n∧0≤l.to_∧l.to_<n
theorem in169_ok (s:Se) (x:Nd) (k m:Nat) (hk:k<m):∀ (l:List Nd) (n:Nat),n+l.length≤m→∀ y ∈ in169 s x k l n,LkOk m y
 | [],_,_,y,hy=>by cases hy
 | z :: l,n,h,y,hy=>by
  simp only [List.length_cons] at h
  rw [in169] at hy
  rcases List.mem_cons.1 hy with rfl|hy
  ·exact ⟨by simp only; omega,by simp only; omega,by simp only; omega,by simp only; omega⟩
  rcases List.mem_cons.1 hy with rfl|hy
  ·exact ⟨by simp only; omega,by simp only; omega,by simp only; omega,by simp only; omega⟩
  exact in169_ok s x k m hk l (n+1) (by omega) y hy
theorem out169_ok (s:Se) (m:Nat):∀ (l:List Nd) (k:Nat),k+l.length≤m→∀ y ∈ out169 s l k,LkOk m y
 | [],_,_,y,hy=>by cases hy
 | x :: l,k,h,y,hy=>by
  simp only [List.length_cons] at h
  rw [out169] at hy
  rcases List.mem_append.1 hy with hy|hy
  ·exact in169_ok s x k m (by omega) l (k+1) (by omega) y hy
  ·exact out169_ok s m l (k+1) (by omega) y hy
theorem linksR_ok (r:Rc) (f:List Int):∀ l ∈ linksR r f,LkOk (nodesR r f).length l:=by
 intro l hl
 have hp:=nodesR_pos r f
 unfold linksR at hl
 rcases List.mem_append.1 hl with hl|hl
 ·rcases List.mem_append.1 hl with hl|hl
  ·rcases List.mem_append.1 hl with hl|hl
   ·obtain ⟨b,_,hb⟩:=List.mem_flatMap.1 hl
    have h:=nAt_ok r f b.1
    simp only [lk165,List.mem_cons,List.not_mem_nil,or_false] at hb
    rcases hb with rfl|rfl
    ·exact ⟨by simp only; omega,by simp only; omega,h.1,h.2⟩
    ·exact ⟨h.1,h.2,by simp only; omega,by simp only; omega⟩
   ·have key:∀ (rows:List (Nd × Sp)) (p:Int),(p<(nodesR r f).length)→∀ y ∈ R167 (idxR r f) p rows,LkOk (nodesR r f).length y:=by
     intro rows
     induction rows with
     | nil=>intro p _ y hy; cases hy
     | cons b rows ih =>
      intro p hp' y hy
      have h:=nAt_ok r f b.1
      rw [R167] at hy
      rcases List.mem_append.1 hy with hy|hy
      ·split at hy
       ·simp only [List.mem_cons,List.not_mem_nil,or_false] at hy
        subst hy
        exact ⟨h.1,h.2,by simp only; omega,by simp only; omega⟩
       ·cases hy
      ·exact ih _ h.2 y hy
    exact key _ (-1) (by omega) l hl
  ·obtain ⟨b,_,hb⟩:=List.mem_flatMap.1 hl
   have h:=nAt_ok r f b.1
   have h2:=nAt_ok r f ⟨4,b.2.lo⟩
   have h3:=nAt_ok r f ⟨4,IntKind.i64.wrap (b.2.hi+1)⟩
   simp only [lk168,List.mem_cons,List.not_mem_nil,or_false] at hb
   rcases hb with rfl|rfl
   ·exact ⟨h.1,h.2,h2.1,h2.2⟩
   ·exact ⟨h3.1,h3.2,h.1,h.2⟩
 ·by_cases hle:3+r.strikes.length≤(nodesR r f).length
  ·exact out169_ok _ _ _ _ (by rw [List.length_drop]; omega) l hl
  ·unfold r169 at hl; rw [List.drop_eq_nil_of_le (by omega)] at hl; cases hl
theorem linksR_len (r:Rc) (f:List Int) (hs:r.strikes.length≤20) (hg:r.sights.length≤20) (hf:f.length≤5):(linksR r f).length≤30000:=by
 have hN:=nodesR_len r f hs hf
 have L0:(r165 r (idxR r f)).length≤100:=by rw [show (r165 r (idxR r f)).length=_ from flat2_len (lk165_two _) _,tolds_len]; omega
 have L1:(r167 r (idxR r f)).length≤100:=Nat.le_trans (R167_len _ _ _) (by rw [rowsR_len]; omega)
 have L2:(r168 r (idxR r f)).length≤100:=by rw [show (r168 r (idxR r f)).length=_ from flat2_len (lk168_two _) _,rowsR_len]; omega
 have L3:(r169 r (nodesR r f)).length≤20000:=by
  have hd:((nodesR r f).drop (3+r.strikes.length)).length≤100:=by rw [List.length_drop]; omega
  have:=out169_len r.ses _ (3+r.strikes.length) hd
  unfold r169; omega
 unfold linksR
 simp only [List.length_append]; omega
def R49_0 (r:Rc) (times:List Int)  : List Int→Sum (Int) (Unit)
 | []=>.inr ()
 | x18 :: l'=>(if x18<(-1073741823) then .inl 8 else (if 2147483646<x18 then .inl 8 else R49_0 r times l'))
def R49_1 (r:Rc) (times:List Int)  : List Lk→Sum (Int) (Unit)
 | []=>.inr ()
 | x26 :: l'=>(if (IntKind.i64.wrap ((lget times (Int.toNat x26.fr))+x26.most))<(lget times (Int.toNat x26.to_)) then .inl 8 else R49_1 r times l')
def r49 (r:Rc) (times:List Int):Int:=(if (r25 r)=0 then (if (times.length:Int)=((nodesR r ([]:List Int)).length:Int) then (if (lget times 0)=0 then (onSum (R49_0 r times times) (fun (r4:Int)=>r4) (fun (_:Unit)=>(onSum (R49_1 r times (linksR r ([]:List Int))) (fun (r4:Int)=>r4) (fun (_:Unit)=>0)))) else 8) else 8) else (r25 r))
set_option maxHeartbeats 2000000 in
theorem c49 (r:Rc) (times:List Int) (hp:r.ses.stops.length≤12) (hs:r.strikes.length≤20) (hg:r.sights.length≤20) (ht:times.length≤100) (S:AS) (v_r_ses_stops:Value) (hv_r_ses_stops:Lst S v_r_ses_stops r.ses.stops) (v_r_strikes:Value) (hv_r_strikes:Lst S v_r_strikes r.strikes) (v_r_sights:Value) (hv_r_sights:Lst S v_r_sights r.sights) (v_times:Value) (hv_times:Lst S v_times times) :
  ∃ S',(evL Tryz.prog E0).call 49 #[.agg #[.int .i64 r.ses.id,.int .i64 r.ses.inLo,.int .i64 r.ses.inHi,.int .i64 r.ses.outLo,.int .i64 r.ses.outHi,.int .i64 r.ses.zLo,.int .i64 r.ses.zHi,.int .i64 r.ses.eLo,.int .i64 r.ses.eHi,.int .i64 r.ses.rLo,.int .i64 r.ses.rHi,v_r_ses_stops,v_r_strikes,v_r_sights],v_times] S=some (.int .i64 (r49 r times),S')∧Agree S S':=by
 generalize hz:(evL Tryz.prog E0).call 49 _ _=z
 rw [L_call,evCall_said rfl Tryz.func49 rfl (by decide) Tryz.ntmps49 Tryz.results49] at hz
 obtain ⟨S1,e1,n1,b1,a1⟩:=push_open S (.cells [.int .i64 r.ses.id,.int .i64 r.ses.inLo,.int .i64 r.ses.inHi,.int .i64 r.ses.outLo,.int .i64 r.ses.outHi,.int .i64 r.ses.zLo,.int .i64 r.ses.zHi,.int .i64 r.ses.eLo,.int .i64 r.ses.eHi,.int .i64 r.ses.rLo,.int .i64 r.ses.rHi,v_r_ses_stops,v_r_strikes,v_r_sights] 30 0 true true)
 have g1:Agree S S1:=a1
 obtain ⟨S2,k2,a2⟩:=c25 r (by first|omega|(simp [mkRc]; done)|(simp [mkRc]; omega)) (by first|omega|(simp [mkRc]; done)|(simp [mkRc]; omega)) (by first|omega|(simp [mkRc]; done)|(simp [mkRc]; omega)) S1 (v_r_ses_stops) (hv_r_ses_stops.agree g1) (v_r_strikes) (hv_r_strikes.agree g1) (v_r_sights) (hv_r_sights.agree g1)
 have l2:=a2.1
 have v1_2:=(a2.2 S.next (by omega)).trans b1
 have g2:Agree S S2:=g1.trans a2
 try simp (disch:=first|omega|assumption) only [E0_G,SY,setArgs,off,agreeKind,vals,boxed,ldA,rdCells,aggD,Nat.reduceAdd,Nat.reduceSub,Nat.reduceLT,Nat.reduceBEq,TY_EvW29,e1,b1,k2] at hz
 rcases dP ((r25 r)=0) with ⟨h3a,h3⟩|⟨h3a,h3⟩
 ·obtain ⟨u4_0,u4_1,u4_2,S4,k4,a4,rd4_0,rd4_1,rd4_2⟩:=c80r r ([]:List Int) (by first|omega|(simp; omega)) (by first|omega|(simp; omega)) (by first|omega|(simp; omega)) (by first|omega|(simp; omega)|simp) (r25_ok (by assumption)).1.1 (r25_ok (by assumption)).1.2 S2 v_r_ses_stops (hv_r_ses_stops.agree g2) v_r_strikes (hv_r_strikes.agree g2) v_r_sights (hv_r_sights.agree g2) (.slice none 0 0) ((Lst.nil S2))
  obtain ⟨pm_u4_1,hpm_u4_1⟩:=rd4_1.val; subst hpm_u4_1
  have l4:=a4.1
  have g4:Agree S S4:=g2.trans a4
  have p4:=And.intro (nodesR_pos r ([]:List Int)) (linksR_len r ([]:List Int) hs hg (by first|omega|simp))
  obtain ⟨S5,e5,n5,b5,a5⟩:=push_open S4 (.cells [.slice none 0 0,.map none,.slice none 0 0] 124 0 true true)
  have rg6:=rd4_0.agree a5
  have rg7:=rd4_1.agree a5
  have rg8:=rd4_2.agree a5
  have g5:Agree S S5:=g4.trans a5
  obtain ⟨S9,k9,n9,b9,q9⟩:=st_at (o:=0) (c':=[u4_0,.map (some pm_u4_1),u4_2]) (v:=.agg #[u4_0,.map (some pm_u4_1),u4_2]) tz124 b5 (by obtain ⟨p0_,n0_,c0_,e0_⟩:=(rg6).form; rw [e0_]; obtain ⟨p1_,n1_,c1_,e1_⟩:=(rg8).form; rw [e1_]; rfl) rfl (show 0+3≤3 by decide) rfl
  have rd10:=Lst.box (β:=Nd) rg6 b5 (by decide) (by omega) q9
  have rd11:=Lst.box (β:=Lk) rg8 b5 (by decide) (by omega) q9
  have g9:Agree S S9:=⟨by have:=(g5).1; omega,fun id hid=>(q9 id (by have:=(g5).1; omega)).trans ((g5).2 id hid)⟩
  have w12:=(hv_times.agree g9).len (P:=Tryz.prog) (t:=31) Tryz.underlying31
  have w13:=(rd10).len (P:=Tryz.prog) (t:=36) Tryz.underlying36
  try simp (disch:=first|omega|assumption) only [E0_G,SY,off,agreeKind,vals,allocV,ldA,rdCells,aggD,aField,Nat.reduceAdd,Nat.reduceLT,Nat.reduceBEq,TY_EvW29,v1_2,h3a,k4,e5,k9,b9,w12,w13] at hz
  rcases dP ((times.length:Int)=((nodesR r ([]:List Int)).length:Int)) with ⟨h14a,h14⟩|⟨h14a,h14⟩
  ·have hx15:times[0]?=some (lget times 0):=lget_some (by first|omega|simp; omega)
   obtain ⟨id15,of15,cc15,ty15,wr15,ex15,i15,j15,l15,q15⟩:=(hv_times).at (P:=Tryz.prog) (t:=31) Tryz.underlying31 tz3 hx15
   have j15:=(g9.2 id15 l15).trans j15
   have m15_0:cc15[of15]?=some (.int .i64 (lget times 0)):=q15 0 (show 0<1 by decide)
   have i15:aIndexAddr Tryz.prog 31 v_times (.int .i64 0)=_:=i15
   try simp (disch:=first|omega|assumption) only [E0_G,SY,off,agreeKind,ldA,aggD,Nat.reduceAdd,Nat.reduceLT,Nat.reduceBEq,TY_EvW29,h14a,i15,j15,m15_0] at hz
   rcases dP ((lget times 0)=0) with ⟨h16a,h16⟩|⟨h16a,h16⟩
   ·have w17:=(hv_times.agree g9).len (P:=Tryz.prog) (t:=31) Tryz.underlying31
    try simp (disch:=first|omega|assumption) only [E0_G,SY,off,agreeKind,Nat.reduceAdd,Nat.reduceLT,Nat.reduceBEq,w12,h16a] at hz
    generalize hL18:Rec.loop _ _ _ _=L18 at hz
    obtain ⟨x18,t18,S18e,rfl,hQ18⟩:=loop_met hL18 (fun m t S'=>∃ (k:Nat),m+k=times.length∧k≤times.length∧Lst S' u4_0 (nodesR r ([]:List Int))∧Lst S' u4_2 (linksR r ([]:List Int))∧t.get 1=some (v_times)∧t.get 6=some (.pointer (some ⟨S4.next,0,none⟩))∧t.get 30=some (v_times)∧t.get 31=some (.int .i64 (times.length:Int))∧t.get 32=some (.int .i64 (k:Int))∧S'.heap.get S4.next=some (.cells [u4_0,.map (some pm_u4_1),u4_2] 124 0 true true)∧Agree S S'∧S9.next≤S'.next∧R49_0 r times (times.drop k)=R49_0 r times times)
     (fun x t S'=>(x=.exit 0∧∃ (k:Nat),t.get 1=some (v_times)∧t.get 6=some (.pointer (some ⟨S4.next,0,none⟩))∧S'.heap.get S4.next=some (.cells [u4_0,.map (some pm_u4_1),u4_2] 124 0 true true)∧Agree S S'∧S9.next≤S'.next∧k≤times.length∧Lst S' u4_0 (nodesR r ([]:List Int))∧Lst S' u4_2 (linksR r ([]:List Int))∧R49_0 r times times=.inr ())∨(x=.ret∧∃ (r4:Int),t.get 4=some (.int .i64 r4)∧Agree S S'∧R49_0 r times times=.inl (r4))) (times.length - 0) (by refine ⟨0,?_,?_,?_,?_,?_,?_,?_,?_,?_,b9,g9,Nat.le_refl _,rfl⟩<;>first|(simp only [SY,eq_self,Nat.reduceBEq]<;>rfl)|omega|assumption|(simp; omega)|simp) (by
      rintro m t S18 ⟨k,hi18_0,hi18_1,hi18_2,hi18_3,g18_1,g18_6,g18_30,g18_31,g18_32,bb18_5,ga18,gn18,hd18⟩
      refine .run fun z he=>?_
      try simp (disch:=first|omega|assumption) only [E0_G,SY,off,agreeKind,Nat.reduceLT,Nat.reduceBEq,g18_31,g18_32] at he
      rcases dP ((k:Int)<(times.length:Int)) with ⟨h19a,h19⟩|⟨h19a,h19⟩
      ·have hx18:times[k]?=some (times[k]'(by first|omega|simp; omega)):=List.getElem?_eq_getElem _
       generalize times[k]'_=x18 at hx18
       obtain ⟨id20,of20,cc20,ty20,wr20,ex20,i20,j20,l20,q20⟩:=(hv_times).at (P:=Tryz.prog) (t:=31) Tryz.underlying31 tz3 hx18
       have j20:=(ga18.2 id20 l20).trans j20
       have m20_0:cc20[of20]?=some (.int .i64 x18):=q20 0 (show 0<1 by decide)
       try simp (disch:=first|omega|assumption) only [E0_G,SY,off,agreeKind,ldA,aggD,Nat.reduceAdd,Nat.reduceLT,Nat.reduceBEq,TY_EvW29,g18_30,g18_32,h19a,i20,j20,m20_0] at he
       rcases dP (x18<(-1073741823)) with ⟨h21a,h21⟩|⟨h21a,h21⟩
       ·try simp (disch:=first|omega|assumption) only [E0_G,SY,off,agreeKind,Nat.reduceAdd,Nat.reduceLT,Nat.reduceBEq,h21a] at he
        rw [drop_cons' hx18] at hd18
        have hf:=(show _=(.inl 8:Sum (Int) (Unit)) from (if_pos h21).trans (rfl)).symm.trans hd18
        refine .ret he (.inr ⟨rfl,⟨8,?_,ga18,hf.symm⟩⟩)<;>first|(simp only [SY,eq_self,Nat.reduceBEq]<;>rfl)|omega|assumption|(simp; omega)|simp
       try simp (disch:=first|omega|assumption) only [E0_G,SY,off,agreeKind,Nat.reduceAdd,Nat.reduceLT,Nat.reduceBEq,h21a] at he
       rcases dP (2147483646<x18) with ⟨h22a,h22⟩|⟨h22a,h22⟩
       ·try simp (disch:=first|omega|assumption) only [E0_G,SY,off,agreeKind,Nat.reduceLT,h22a] at he
        rw [drop_cons' hx18] at hd18
        have hf:=(show _=(.inl 8:Sum (Int) (Unit)) from (if_neg h21).trans ((if_pos h22).trans (rfl))).symm.trans hd18
        refine .ret he (.inr ⟨rfl,⟨8,?_,ga18,hf.symm⟩⟩)<;>first|(simp only [SY,eq_self,Nat.reduceBEq]<;>rfl)|omega|assumption|(simp; omega)|simp
       have w23:IntKind.i64.wrap ((k:Int)+1)=((k+1:Nat):Int):=by rw [IntWalk.i64_in]<;>omega
       try simp (disch:=first|omega|assumption) only [E0_G,SY,off,agreeKind,Nat.reduceAdd,Nat.reduceLT,Nat.reduceBEq,g18_32,h22a,w23] at he
       rw [drop_cons' hx18] at hd18
       have hf:=(show _=(R49_0 r times (times.drop (k+1)):Sum (Int) (Unit)) from (if_neg h21).trans ((if_neg h22).trans (rfl))).symm.trans hd18
       refine .next he (m - 1) (by omega) ⟨(k+1),?_,?_,?_,?_,?_,?_,?_,?_,?_,bb18_5,ga18,by omega,hf⟩<;>first|(simp only [SY,eq_self,Nat.reduceBEq,g18_1,g18_6,g18_30,g18_31,g18_32]<;>rfl)|omega|assumption|(simp; omega)|simp
      try simp (disch:=first|omega|assumption) only [SY,h19a] at he
      rw [List.drop_eq_nil_of_le (show times.length≤k by omega)] at hd18
      have hf:=(show _=(.inr ():Sum (Int) (Unit)) from rfl).symm.trans hd18
      refine .exit he (.inl ⟨rfl,⟨k,?_,?_,bb18_5,ga18,by omega,?_,?_,?_,hf.symm⟩⟩)<;>first|(simp only [SY,eq_self,Nat.reduceBEq,g18_1,g18_6]<;>rfl)|omega|assumption|(simp; omega)|simp)
    rcases hQ18 with ⟨rfl,hQ18⟩|⟨rfl,hQ18⟩
    ·obtain ⟨k,ge18_1,ge18_6,be18_5,ge18,gm18,hj18_0,hj18_1,hj18_2,hR18⟩:=hQ18
     have w25:=(hj18_2).len (P:=Tryz.prog) (t:=39) Tryz.underlying39
     try simp (disch:=first|omega|assumption) only [E0_G,SY,off,agreeKind,ldA,aggD,aField,eq_self,if_true,Nat.reduceAdd,Nat.reduceLT,Nat.reduceBEq,TY_EvW29,ge18_6,be18_5,w25] at hz
     generalize hL26:Rec.loop _ _ _ _=L26 at hz
     obtain ⟨x26,t26,S26e,rfl,hQ26⟩:=loop_met hL26 (fun m t S'=>∃ (k2:Nat),m+k2=(linksR r ([]:List Int)).length∧k2≤(linksR r ([]:List Int)).length∧Lst S' u4_0 (nodesR r ([]:List Int))∧Lst S' u4_2 (linksR r ([]:List Int))∧t.get 1=some (v_times)∧t.get 44=some (u4_2)∧t.get 45=some (.int .i64 ((linksR r ([]:List Int)).length:Int))∧t.get 46=some (.int .i64 (k2:Int))∧Agree S S'∧S18e.next≤S'.next∧R49_1 r times ((linksR r ([]:List Int)).drop k2)=R49_1 r times (linksR r ([]:List Int)))
      (fun x t S'=>(x=.exit 2∧∃ (k2:Nat),Agree S S'∧S18e.next≤S'.next∧k2≤(linksR r ([]:List Int)).length∧Lst S' u4_0 (nodesR r ([]:List Int))∧Lst S' u4_2 (linksR r ([]:List Int))∧R49_1 r times (linksR r ([]:List Int))=.inr ())∨(x=.ret∧∃ (r4:Int),t.get 4=some (.int .i64 r4)∧Agree S S'∧R49_1 r times (linksR r ([]:List Int))=.inl (r4))) ((linksR r ([]:List Int)).length - 0) (by refine ⟨0,?_,?_,?_,?_,?_,?_,?_,?_,ge18,Nat.le_refl _,rfl⟩<;>first|(simp only [SY,eq_self,Nat.reduceBEq,ge18_1]<;>rfl)|omega|assumption|(simp; omega)|simp) (by
       rintro m t S26 ⟨k2,hi26_0,hi26_1,hi26_2,hi26_3,g26_1,g26_44,g26_45,g26_46,ga26,gn26,hd26⟩
       refine .run fun z he=>?_
       try simp (disch:=first|omega|assumption) only [E0_G,SY,off,agreeKind,Nat.reduceLT,Nat.reduceBEq,g26_45,g26_46] at he
       rcases dP ((k2:Int)<((linksR r ([]:List Int)).length:Int)) with ⟨h27a,h27⟩|⟨h27a,h27⟩
       ·have hx26:(linksR r ([]:List Int))[k2]?=some ((linksR r ([]:List Int))[k2]'(by first|omega|simp; omega)):=List.getElem?_eq_getElem _
        generalize (linksR r ([]:List Int))[k2]'_=x26 at hx26
        have eb29:=linksR_ok _ _ _ (List.mem_of_getElem? hx26); obtain ⟨ec29,ed29,ee29,ef29⟩:=eb29
        obtain ⟨id28,of28,cc28,ty28,wr28,ex28,i28,j28,l28,q28⟩:=(hi26_3).at (P:=Tryz.prog) (t:=39) Tryz.underlying39 tz107 hx26
        have m28_0:cc28[of28]?=some (.int .i64 x26.fr):=q28 0 (show 0<3 by decide)
        have m28_1:cc28[of28+1]?=some (.int .i64 x26.to_):=q28 1 (show 1<3 by decide)
        have m28_2:cc28[of28+2]?=some (.int .i64 x26.most):=q28 2 (show 2<3 by decide)
        obtain ⟨S30,e30,n30,b30,a30⟩:=push_open S26 (.cells [.int .i64 0,.int .i64 0,.int .i64 0] 107 0 true true)
        have rg31:=hi26_2.agree a30
        have rg32:=hi26_3.agree a30
        have g30:Agree S S30:=ga26.trans a30
        obtain ⟨S33,k33,n33,b33,q33⟩:=st_at (o:=0) (c':=[.int .i64 x26.fr,.int .i64 x26.to_,.int .i64 x26.most]) (v:=.agg #[.int .i64 x26.fr,.int .i64 x26.to_,.int .i64 x26.most]) tz107 b30 rfl rfl (show 0+3≤3 by decide) rfl
        have rd34:=Lst.box (β:=Nd) rg31 b30 (by decide) (by omega) q33
        have rd35:=Lst.box (β:=Lk) rg32 b30 (by decide) (by omega) q33
        have g33:Agree S S33:=⟨by have:=(g30).1; omega,fun id hid=>(q33 id (by have:=(g30).1; omega)).trans ((g30).2 id hid)⟩
        try simp (disch:=first|omega|assumption) only [E0_G,SY,off,agreeKind,allocV,ldA,rdCells,aggD,Nat.reduceAdd,Nat.reduceLT,Nat.reduceBEq,TY_EvW29,g26_44,g26_46,h27a,i28,j28,m28_0,m28_1,m28_2,e30,k33] at he
        rw [code_draws _ _ _ (by kernel_rfl)] at he
        generalize hnd36:needy _=nd36 at he
        have qz37:((Int.toNat x26.to_:Nat):Int)=x26.to_:=Int.toNat_of_nonneg (by first|omega|simp; omega)
        have hx38:times[(Int.toNat x26.to_)]?=some (lget times (Int.toNat x26.to_)):=lget_some (by first|omega|simp; omega)
        obtain ⟨id38,of38,cc38,ty38,wr38,ex38,i38,j38,l38,q38⟩:=(hv_times).at (P:=Tryz.prog) (t:=31) Tryz.underlying31 tz3 hx38
        have j38:=(g33.2 id38 l38).trans j38
        have m38_0:cc38[of38]?=some (.int .i64 (lget times (Int.toNat x26.to_))):=q38 0 (show 0<1 by decide)
        rw [qz37] at i38
        have qz39:((Int.toNat x26.fr:Nat):Int)=x26.fr:=Int.toNat_of_nonneg (by first|omega|simp; omega)
        have hx40:times[(Int.toNat x26.fr)]?=some (lget times (Int.toNat x26.fr)):=lget_some (by first|omega|simp; omega)
        obtain ⟨id40,of40,cc40,ty40,wr40,ex40,i40,j40,l40,q40⟩:=(hv_times).at (P:=Tryz.prog) (t:=31) Tryz.underlying31 tz3 hx40
        have j40:=(g33.2 id40 l40).trans j40
        have m40_0:cc40[of40]?=some (.int .i64 (lget times (Int.toNat x26.fr))):=q40 0 (show 0<1 by decide)
        rw [qz39] at i40
        try simp (disch:=first|omega|assumption) only [E0_G,SY,agreeKind,ldA,aggD,aField,Nat.reduceAdd,Nat.reduceLT,Nat.reduceBEq,TY_EvW29,g26_1,b33,store_refl E0_same,i38,j38,m38_0,i40,j40,m40_0] at he
        rcases dP ((IntKind.i64.wrap ((lget times (Int.toNat x26.fr))+x26.most))<(lget times (Int.toNat x26.to_))) with ⟨h41a,h41⟩|⟨h41a,h41⟩
        ·try simp (disch:=first|omega|assumption) only [E0_G,SY,off,agreeKind,Nat.reduceLT,store_refl E0_same,h41a] at he
         rw [drop_cons' hx26] at hd26
         have hf:=(show _=(.inl 8:Sum (Int) (Unit)) from (if_pos h41).trans (rfl)).symm.trans hd26
         refine .ret he (.inr ⟨rfl,⟨8,?_,g33,hf.symm⟩⟩)<;>first|(simp only [SY,eq_self,Nat.reduceBEq]<;>rfl)|omega|assumption|(simp; omega)|simp
        have w42:IntKind.i64.wrap ((k2:Int)+1)=((k2+1:Nat):Int):=by rw [IntWalk.i64_in]<;>omega
        try simp (disch:=first|omega|assumption) only [E0_G,SY,off,agreeKind,Nat.reduceAdd,Nat.reduceLT,Nat.reduceBEq,g26_46,store_refl E0_same,h41a,w42] at he
        rw [drop_cons' hx26] at hd26
        have hf:=(show _=(R49_1 r times ((linksR r ([]:List Int)).drop (k2+1)):Sum (Int) (Unit)) from (if_neg h41).trans (rfl)).symm.trans hd26
        refine .next he (m - 1) (by omega) ⟨(k2+1),?_,?_,?_,?_,?_,?_,?_,?_,g33,by omega,hf⟩<;>first|(simp only [SY,eq_self,Nat.reduceBEq,g26_1,g26_44,g26_45,g26_46]<;>rfl)|omega|assumption|(simp; omega)|simp
       try simp (disch:=first|omega|assumption) only [SY,h27a] at he
       rw [List.drop_eq_nil_of_le (show (linksR r ([]:List Int)).length≤k2 by omega)] at hd26
       have hf:=(show _=(.inr ():Sum (Int) (Unit)) from rfl).symm.trans hd26
       refine .exit he (.inl ⟨rfl,⟨k2,ga26,by omega,?_,?_,?_,hf.symm⟩⟩)<;>first|(simp only [SY,setArgs,off,agreeKind,partVals,vals,allocV,boxed,ldA,rdCells,oneB,aggD,aField,aFieldV,aExtract,eq_self,ne_eq,if_true,if_false,not_false_eq_true,Nat.reduceAdd,Nat.reduceSub,Nat.reduceMul,Nat.reduceLT,Nat.reduceEqDiff,Nat.reduceBEq,reduceIte,Int.reduceEq,Int.reduceLT,Int.reduceLE,reduceCtorEq,g26_1,g26_44,g26_45,g26_46]<;>rfl)|omega|assumption|(simp; omega)|simp)
     rcases hQ26 with ⟨rfl,hQ26⟩|⟨rfl,hQ26⟩
     ·obtain ⟨k2,ge26,gm26,hj26_0,hj26_1,hj26_2,hR26⟩:=hQ26
      try simp (disch:=first|omega|assumption) only [E0_G,SY,off,agreeKind,eq_self,if_true,Nat.reduceLT,Nat.reduceBEq] at hz
      have hr:r49 r times=0:=(if_pos h3).trans ((if_pos h14).trans ((if_pos h16).trans ((onSum_inr hR18).trans ((onSum_inr hR26).trans (rfl)))))
      exact fin hz (by rw [hr]) ge26
     obtain ⟨r4,ge26_4,ge26,hR26⟩:=hQ26
     try simp (disch:=first|omega|assumption) only [SY,ge26_4] at hz
     have hr:r49 r times=r4:=(if_pos h3).trans ((if_pos h14).trans ((if_pos h16).trans ((onSum_inr hR18).trans ((onSum_inl hR26).trans (rfl)))))
     exact fin hz (by rw [hr]) ge26
    obtain ⟨r4,ge18_4,ge18,hR18⟩:=hQ18
    try simp (disch:=first|omega|assumption) only [SY,ge18_4] at hz
    have hr:r49 r times=r4:=(if_pos h3).trans ((if_pos h14).trans ((if_pos h16).trans ((onSum_inl hR18).trans (rfl))))
    exact fin hz (by rw [hr]) ge18
   try simp (disch:=first|omega|assumption) only [E0_G,SY,off,agreeKind,Nat.reduceLT,Nat.reduceBEq,h16a] at hz
   have hr:r49 r times=8:=(if_pos h3).trans ((if_pos h14).trans ((if_neg h16).trans (rfl)))
   exact fin hz (by rw [hr]) g9
  try simp (disch:=first|omega|assumption) only [E0_G,SY,off,agreeKind,Nat.reduceAdd,Nat.reduceLT,Nat.reduceBEq,h14a] at hz
  have hr:r49 r times=8:=(if_pos h3).trans ((if_neg h14).trans (rfl))
  exact fin hz (by rw [hr]) g9
 try simp (disch:=first|omega|assumption) only [E0_G,SY,off,agreeKind,Nat.reduceAdd,Nat.reduceLT,Nat.reduceBEq,h3a] at hz
 have hr:r49 r times=(r25 r):=(if_neg h3).trans (rfl)
 exact fin hz (by rw [hr]) g2
end Clock
end Go.Proofs
end
section
set_option linter.unusedSimpArgs false
set_option linter.unusedVariables false
namespace Go.Proofs
namespace Clock
open Go Go.RowKit Go.Aev
set_option maxRecDepth 100000
theorem TY_EvW30:type_of% TY_EvW29:=TY_EvW29
theorem r19_ok {r:Rc} (h:r19 r=true):(r.ses.stops.length≤12∧r.strikes.length≤20)∧r.sights.length≤20:=by
 unfold r19 at h; repeat' split at h
 all_goals first|(simp at h; omega)|(simp at h; done)
def r7 (r:Rc) (times:List Int):Bool:=(if (r19 r)=true then (if 80<(times.length:Int) then true else (if (r21 r)=0 then (if (r49 r (times:List Int))=0 then true else decide ((r49 r (times:List Int))=8)) else (if (r49 r (times:List Int))=(r21 r) then true else false))) else true)
set_option maxHeartbeats 8000000 in
theorem c7 (r:Rc) (times:List Int) (hsan:∀ S:AS,∃ S',(evL Tryz.prog E0).call 20 #[] S=some (.bool true,S')∧Agree S S') (S:AS) (v_r_ses_stops:Value) (hv_r_ses_stops:Lst S v_r_ses_stops r.ses.stops) (v_r_strikes:Value) (hv_r_strikes:Lst S v_r_strikes r.strikes) (v_r_sights:Value) (hv_r_sights:Lst S v_r_sights r.sights) (v_times:Value) (hv_times:Lst S v_times times) :
  ∃ S',(evL Tryz.prog E0).call 7 #[.agg #[.int .i64 r.ses.id,.int .i64 r.ses.inLo,.int .i64 r.ses.inHi,.int .i64 r.ses.outLo,.int .i64 r.ses.outHi,.int .i64 r.ses.zLo,.int .i64 r.ses.zHi,.int .i64 r.ses.eLo,.int .i64 r.ses.eHi,.int .i64 r.ses.rLo,.int .i64 r.ses.rHi,v_r_ses_stops,v_r_strikes,v_r_sights],v_times] S=some (.bool (r7 r times),S')∧Agree S S':=by
 generalize hz:(evL Tryz.prog E0).call 7 _ _=z
 rw [L_call,evCall_said rfl Tryz.func7 rfl (by decide) Tryz.ntmps7 Tryz.results7] at hz
 obtain ⟨S1,e1,n1,b1,a1⟩:=push_open S (.cells [.int .i64 r.ses.id,.int .i64 r.ses.inLo,.int .i64 r.ses.inHi,.int .i64 r.ses.outLo,.int .i64 r.ses.outHi,.int .i64 r.ses.zLo,.int .i64 r.ses.zHi,.int .i64 r.ses.eLo,.int .i64 r.ses.eHi,.int .i64 r.ses.rLo,.int .i64 r.ses.rHi,v_r_ses_stops,v_r_strikes,v_r_sights] 30 0 true true)
 have g1:Agree S S1:=a1
 have s1:E0.same S S1=true:=symEnv_same a1
 obtain ⟨S2,k2,a2⟩:=c19 r  S1 (v_r_ses_stops) (hv_r_ses_stops.agree g1) (v_r_strikes) (hv_r_strikes.agree g1) (v_r_sights) (hv_r_sights.agree g1)
 have l2:=a2.1
 have s2:E0.same S1 S2=true:=symEnv_same a2
 have v1_2:=(a2.2 S.next (by omega)).trans b1
 have g2:Agree S S2:=g1.trans a2
 try simp (disch:=first|omega|assumption) only [E0_G,SY,setArgs,off,agreeKind,vals,boxed,ldA,rdCells,aggD,Nat.reduceAdd,Nat.reduceSub,Nat.reduceLT,Nat.reduceBEq,TY_EvW30,e1,b1,k2] at hz
 rcases dB ((r19 r)) with ⟨h3a,h3⟩|⟨h3a,h3⟩
 ·have lq4:=r19_ok h3
  have w5:=(hv_times.agree g2).len (P:=Tryz.prog) (t:=31) Tryz.underlying31
  try simp (disch:=first|omega|assumption) only [E0_G,SY,off,agreeKind,Nat.reduceAdd,Nat.reduceLT,Nat.reduceBEq,h3a,w5] at hz
  rcases dP (80<(times.length:Int)) with ⟨h6a,h6⟩|⟨h6a,h6⟩
  ·obtain ⟨S7,k7,a7⟩:=hsan S2
   have l7:=a7.1
   have s7:E0.same S2 S7=true:=symEnv_same a7
   have v1_7:=(a7.2 S.next (by omega)).trans v1_2
   have g7:Agree S S7:=g2.trans a7
   try simp (disch:=first|omega|assumption) only [E0_G,SY,off,agreeKind,vals,Nat.reduceAdd,Nat.reduceLT,Nat.reduceBEq,h6a,k7] at hz
   have hr:r7 r times=true:=(if_pos h3).trans ((if_pos h6).trans (rfl))
   exact fin hz (by rw [hr]) g7
  obtain ⟨S8,k8,a8⟩:=c49 r (times:List Int) (by omega) (by omega) (by omega) (by omega) S2 (v_r_ses_stops) (hv_r_ses_stops.agree g2) (v_r_strikes) (hv_r_strikes.agree g2) (v_r_sights) (hv_r_sights.agree g2) (v_times) (hv_times.agree g2)
  have l8:=a8.1
  have s8:E0.same S2 S8=true:=symEnv_same a8
  have v1_8:=(a8.2 S.next (by omega)).trans v1_2
  have g8:Agree S S8:=g2.trans a8
  obtain ⟨S9,k9,a9⟩:=c21 r (by first|omega|(simp [mkRc]; done)|(simp [mkRc]; omega)) (by first|omega|(simp [mkRc]; done)|(simp [mkRc]; omega)) (by first|omega|(simp [mkRc]; done)|(simp [mkRc]; omega)) S8 (v_r_ses_stops) (hv_r_ses_stops.agree g8) (v_r_strikes) (hv_r_strikes.agree g8) (v_r_sights) (hv_r_sights.agree g8)
  have l9:=a9.1
  have s9:E0.same S8 S9=true:=symEnv_same a9
  have v1_9:=(a9.2 S.next (by omega)).trans v1_8
  have g9:Agree S S9:=g8.trans a9
  obtain ⟨S10,k10,a10⟩:=hsan S9
  have l10:=a10.1
  have s10:E0.same S9 S10=true:=symEnv_same a10
  have v1_10:=(a10.2 S.next (by omega)).trans v1_9
  have g10:Agree S S10:=g9.trans a10
  try simp (disch:=first|omega|assumption) only [E0_G,SY,off,agreeKind,vals,ldA,rdCells,aggD,Nat.reduceAdd,Nat.reduceLT,Nat.reduceBEq,TY_EvW30,v1_2,h6a,k8,v1_8,k9,k10] at hz
  rcases dP ((r21 r)=0) with ⟨h11a,h11⟩|⟨h11a,h11⟩
  ·try simp (disch:=first|omega|assumption) only [E0_G,SY,off,agreeKind,Nat.reduceAdd,Nat.reduceLT,Nat.reduceBEq,h11a] at hz
   rcases dP ((r49 r (times:List Int))=0) with ⟨h12a,h12⟩|⟨h12a,h12⟩
   ·try simp (disch:=first|omega|assumption) only [E0_G,SY,off,agreeKind,Nat.reduceAdd,Nat.reduceLT,Nat.reduceBEq,h12a] at hz
    have hr:r7 r times=true:=(if_pos h3).trans ((if_neg h6).trans ((if_pos h11).trans ((if_pos h12).trans (rfl))))
    exact fin hz (by rw [hr]) g10
   try simp (disch:=first|omega|assumption) only [E0_G,SY,off,agreeKind,Nat.reduceAdd,Nat.reduceLT,Nat.reduceBEq,h12a] at hz
   have hr:r7 r times=decide ((r49 r (times:List Int))=8):=(if_pos h3).trans ((if_neg h6).trans ((if_pos h11).trans ((if_neg h12).trans (rfl))))
   exact fin hz (by rw [hr]) g10
  try simp (disch:=first|omega|assumption) only [E0_G,SY,off,agreeKind,Nat.reduceAdd,Nat.reduceLT,Nat.reduceBEq,h11a] at hz
  rcases dP ((r49 r (times:List Int))=(r21 r)) with ⟨h13a,h13⟩|⟨h13a,h13⟩
  ·try simp (disch:=first|omega|assumption) only [E0_G,SY,off,agreeKind,Nat.reduceAdd,Nat.reduceLT,Nat.reduceBEq,h13a] at hz
   have hr:r7 r times=true:=(if_pos h3).trans ((if_neg h6).trans ((if_neg h11).trans ((if_pos h13).trans (rfl))))
   exact fin hz (by rw [hr]) g10
  try simp (disch:=first|omega|assumption) only [E0_G,SY,off,agreeKind,Nat.reduceAdd,Nat.reduceLT,Nat.reduceBEq,h11a,h13a] at hz
  have hr:r7 r times=false:=(if_pos h3).trans ((if_neg h6).trans ((if_neg h11).trans ((if_neg h13).trans (rfl))))
  exact fin hz (by rw [hr]) g10
 obtain ⟨S14,k14,a14⟩:=hsan S2
 have l14:=a14.1
 have s14:E0.same S2 S14=true:=symEnv_same a14
 have v1_14:=(a14.2 S.next (by omega)).trans v1_2
 have g14:Agree S S14:=g2.trans a14
 try simp (disch:=first|omega|assumption) only [E0_G,SY,off,agreeKind,vals,Nat.reduceAdd,Nat.reduceLT,Nat.reduceBEq,h3a,k14] at hz
 have hr:r7 r times=true:=(if_neg h3).trans (rfl)
 exact fin hz (by rw [hr]) g14
end Clock
end Go.Proofs
end
section
set_option linter.unusedSimpArgs false
set_option linter.unusedVariables false
namespace Go.Proofs
namespace Clock
open Go Go.RowKit Go.Aev
theorem R144_79 (l l':List Sk) (id:Int):∀ (m:List Sk) (k:Nat),R144_0 l id m k=R79_0 l' id m k
 | [],_=>rfl
 | x :: m,k=>by
  have ih:=R144_79 l l' id m (k+1)
  rw [R144_0,R79_0,ih]
  unfold r145
  by_cases h:x.id=id<;>simp [h]
theorem r84_79 (l:List Sk) (id:Int):r84 l id=r79 l id:=by unfold r84 r144 r79; rw [R144_79 l l]
theorem R79_any (l l':List Sk) (id:Int):∀ (m:List Sk) (k:Nat),R79_0 l id m k=R79_0 l' id m k
 | [],_=>rfl
 | x :: m,k=>by rw [R79_0,R79_0,R79_any l l' id m (k+1)]
theorem R79_lt (l:List Sk) (id:Int):∀ (m:List Sk) (k:Nat) (v:Int),R79_0 l id m k=.inl v→(k:Int)≤v∧v<k+m.length
 | [],_,_,h=>by simp [R79_0] at h
 | x :: m,k,v,h=>by
  rw [R79_0] at h
  simp only [List.length_cons]
  split at h
  ·cases h; omega
  ·have:=R79_lt l id m (k+1) v h; omega
theorem R79_inl (l:List Sk) (id:Int) (b:List Sk):∀ (a:List Sk) (k:Nat) (v:Int),R79_0 l id a k=.inl v→R79_0 l id (a++b) k=.inl v
 | [],_,_,h=>by simp [R79_0] at h
 | x :: a,k,v,h=>by
  rw [R79_0] at h
  rw [List.cons_append,R79_0]
  split at h
  ·rename_i c; rw [if_pos c]; exact h
  ·rename_i c; rw [if_neg c]; exact R79_inl l id b a (k+1) v h
theorem R79_inr (l:List Sk) (id:Int) (b:List Sk):∀ (a:List Sk) (k:Nat),R79_0 l id a k=.inr ()→R79_0 l id (a++b) k=R79_0 l id b (k+a.length)
 | [],k,_=>by simp
 | x :: a,k,h=>by
  rw [R79_0] at h
  rw [List.cons_append,R79_0]
  split at h
  ·simp at h
  ·rename_i c
   rw [if_neg c,R79_inr l id b a (k+1) h,List.length_cons]
   congr 1; omega
theorem dup_iff (s:List Sk) (k:Nat) (x:Sk) (l:List Sk) (h:s.drop k=x :: l):0≤r84 (s.take k) x.id↔r79 s x.id<(k:Int):=by
 have hk:k<s.length:=by
  rcases Nat.lt_or_ge k s.length with h1|h1
  ·exact h1
  ·rw [List.drop_eq_nil_of_le h1] at h; cases h
 have hs:s=s.take k++(x :: l):=by rw [← h,List.take_append_drop]
 have hl:(s.take k).length=k:=by rw [List.length_take]; omega
 rw [r84_79]
 unfold r79
 cases hR:R79_0 (s.take k) x.id (s.take k) 0 with
 | inl v =>
  have hv:=R79_lt _ _ _ _ _ hR
  rw [R79_any _ s] at hR
  have h2:=R79_inl s x.id (x :: l) _ _ _ hR
  rw [← hs] at h2
  rw [h2]
  show 0≤v↔v<(k:Int)
  omega
 | inr u =>
  rw [R79_any _ s] at hR
  have h2:=R79_inr s x.id (x :: l) _ _ hR
  rw [← hs,hl,R79_0,if_pos rfl] at h2
  rw [h2]
  show 0≤(-1:Int)↔((0+k:Nat):Int)<(k:Int)
  omega
theorem r83_iff (s:Se) (x:Sk):r83 s x=true↔¬ x.id<1∧¬ 1099511627776<x.id∧r78 x.lo x.hi s.zLo s.eHi=true:=by
 unfold r83
 have h1:=r141_iff x.id
 have h2:r142 x.lo x.hi s.zLo s.eHi=r78 x.lo x.hi s.zLo s.eHi:=rfl
 rw [h2]
 by_cases c:r141 x.id=true
 ·rw [if_pos c]
  have:=h1.1 c
  exact ⟨fun h=>⟨by omega,by omega,h⟩,fun h=>h.2.2⟩
 ·rw [if_neg c]
  exact ⟨fun h=>absurd h (by simp),fun h=>absurd (h1.2 (by omega)) c⟩
theorem R25_21_0 (r:Rc):∀ (l:List Sk) (k:Nat),r.strikes.drop k=l→R25_0 r l k=R21_0 r l k
 | [],_,_=>rfl
 | x :: l,k,h=>by
  have ih:=R25_21_0 r l (k+1) (by rw [← List.drop_drop,h]; rfl)
  have hd:=dup_iff r.strikes k x l h
  have h83:=r83_iff r.ses x
  rw [R25_0,R21_0,ih]
  by_cases c:r83 r.ses x=true
  ·obtain ⟨c1,c2,c3⟩:=h83.1 c
   rw [if_pos c,if_neg c1,if_neg c2,if_pos c3]
   by_cases d:0≤r84 (r.strikes.take k) x.id
   ·rw [if_pos d,if_pos (hd.1 d)]
   ·rw [if_neg d,if_neg (fun e=>d (hd.2 e))]
  ·rw [if_neg c]
   by_cases c1:x.id<1
   ·rw [if_pos c1]
   rw [if_neg c1]
   by_cases c2:1099511627776<x.id
   ·rw [if_pos c2]
   rw [if_neg c2,if_neg (fun c3=>c (h83.2 ⟨c1,c2,c3⟩))]
theorem R25_21_1 (r:Rc):∀ l:List Sg,R25_1 r l=R21_1 r l
 | []=>rfl
 | x :: l=>by
  have e:r85 x.lo x.hi=r78 x.lo x.hi 0 1073741823:=rfl
  rw [R25_1,R21_1,R25_21_1 r l,e,r84_79]
theorem r25_eq (r:Rc):r25 r=r21 r:=by
 unfold r25 r21
 by_cases h4:4<(r.ses.stops.length:Int)
 ·have h77:r77 r.ses=2:=by unfold r77; rw [if_pos h4]
  rw [if_pos h4,h77]; rfl
 ·rw [if_neg h4]
  rcases r82_77 r.ses h4 with ⟨h1,h2⟩|⟨h1,h2⟩
  ·rw [if_pos h1,h2,if_pos rfl,R25_21_0 r r.strikes 0 rfl,R25_21_1]
  ·rw [h1,h2]; rfl
theorem R49_0_or (r:Rc) (t:List Int):∀ l,R49_0 r t l=.inr ()∨R49_0 r t l=.inl 8
 | []=>.inl rfl
 | x :: l=>by
  rw [R49_0]
  split
  ·exact .inr rfl
  split
  ·exact .inr rfl
  exact R49_0_or r t l
theorem R49_1_or (r:Rc) (t:List Int):∀ l,R49_1 r t l=.inr ()∨R49_1 r t l=.inl 8
 | []=>.inl rfl
 | x :: l=>by
  rw [R49_1]
  split
  ·exact .inr rfl
  exact R49_1_or r t l
theorem r49_or (r:Rc) (t:List Int) (h:r25 r=0):r49 r t=0∨r49 r t=8:=by
 unfold r49
 rw [if_pos h]
 split
 ·split
  ·rcases R49_0_or r t t with e|e<;>rw [e]
   ·rcases R49_1_or r t (linksR r ([]:List Int)) with e|e<;>rw [e]
    ·exact .inl rfl
    ·exact .inr rfl
   ·exact .inr rfl
  ·exact .inr rfl
 ·exact .inr rfl
theorem r49_err (r:Rc) (t:List Int) (h:¬ r25 r=0):r49 r t=r25 r:=by unfold r49; rw [if_neg h]
theorem r7_true (r:Rc) (times:List Int):r7 r times=true:=by
 unfold r7
 split
 ·split
  ·rfl
  ·split
   ·rename_i h
    have h':r25 r=0:=by rw [r25_eq]; exact h
    rcases r49_or r times h' with e|e
    ·rw [if_pos e]
    ·rw [e]; rfl
   ·rename_i h
    have h':¬ r25 r=0:=by rw [r25_eq]; exact h
    rw [r49_err r times h',r25_eq,if_pos rfl]
 ·rfl
end Clock
end Go.Proofs
end
