import Derived.Test.YtohfdkdjfoonjaaGreatDoorBT
section
set_option linter.unusedSimpArgs false
set_option linter.unusedVariables false
namespace Go.Proofs
namespace House
open Go Go.RowKit Go.Aev
set_option maxRecDepth 100000
theorem tz125:szOf Tryz.prog 125=some 1:=by kernel_rfl
theorem tt125:inTab Tryz.prog 125=true:=by kernel_rfl
theorem t0_125:zeroOf Tryz.prog 125=some (.nilFunc):=by kernel_rfl
theorem TY_EvH26:type_of% (And.intro TY_EvH25 (And.intro (And.intro Tryz.underlying125 tz125) (And.intro tt125 t0_125))):=(And.intro TY_EvH25 (And.intro (And.intro Tryz.underlying125 tz125) (And.intro tt125 t0_125)))
theorem R109_1_hr (rooms:Nat) (fr ti:Int) (l:List Pg) (g:Pg→Int→Int) (times by_:List Int) (left:List Bool):∀ (m:List Int) (kv:Nat) (here:Int),times.drop kv=m→Hr times left here→Hr times left (R109_1 rooms fr ti l g times by_ left m kv here):=by
 intro m
 induction m with
 | nil=>intro kv here _ h; exact h
 | cons x m ih =>
  intro kv here hd h
  obtain ⟨hx,hd'⟩:=drop_unc hd
  have hk:kv<times.length:=(List.getElem?_eq_some_iff.1 hx).1
  rw [R109_1]
  split
  ·exact ih _ _ hd' h
  ·rename_i h1
   split
   ·rename_i h2
    have hat:Hr times left (kv:Int):=Hr.at hk hx h2 h1
    split
    ·exact ih _ _ hd' hat
    ·split
     ·exact ih _ _ hd' hat
     ·exact ih _ _ hd' h
   ·exact ih _ _ hd' h
theorem R109_2_tm (rooms:Nat) (fr ti:Int) (l:List Pg) (g:Pg→Int→Int) (hg:∀ p ∈ l,∀ t,0≤t∧t≤1073741823→0≤g p t∧g p t≤1073741824) (times by_:List Int) (left:List Bool) (here:Int) (he:R109_1 rooms fr ti l g times by_ left times 0 (-1)=here) (h0:0≤here∧here<(rooms:Int)) :
  ∀ (m:List Pg) (t2 b2:List Int) (j:Nat),(∀ p ∈ m,p ∈ l)→Tm rooms t2→b2.length=rooms→lget t2 here.toNat≤1073741823→Tm rooms (R109_2 rooms fr ti l g times by_ left m t2 b2 j).1∧(R109_2 rooms fr ti l g times by_ left m t2 b2 j).2.length=rooms:=by
 intro m
 induction m with
 | nil=>intro t2 b2 j _ h1 h2 _; exact ⟨h1,h2⟩
 | cons x m ih =>
  intro t2 b2 j hm h1 h2 h3
  have hx:=hm x (by simp)
  have hm':∀ p ∈ m,p ∈ l:=fun p hp=>hm p (by simp [hp])
  rw [R109_2,he]
  split
  ·split
   ·rename_i hlt
    have h4:0≤lget t2 here.toNat:=(h1.at (lget_some (by have:=h1.len; omega))).1
    exact ih _ _ _ hm' (h1.set _ (hg x hx _ ⟨h4,h3⟩)) (by rw [List.length_set]; exact h2) (lget_set_le h3 hlt)
   ·exact ih _ _ _ hm' h1 h2 h3
  ·exact ih _ _ _ hm' h1 h2 h3
theorem R109_0_tm (rooms:Nat) (fr ti:Int) (l:List Pg) (g:Pg→Int→Int) (hg:∀ p ∈ l,∀ t,0≤t∧t≤1073741823→0≤g p t∧g p t≤1073741824) :
  ∀ (m:Nat) (times by_:List Int) (left:List Bool),Tm rooms times→by_.length=rooms→left.length=rooms→Tm rooms (R109_0 rooms fr ti l g m times by_ left).1∧(R109_0 rooms fr ti l g m times by_ left).2.length=rooms:=by
 intro m
 induction m with
 | zero=>intro times by_ left h1 h2 _; exact ⟨h1,h2⟩
 | succ m ih =>
  intro times by_ left h1 h2 h3
  rw [R109_0]
  split
  ·exact ⟨h1,h2⟩
  ·rename_i h0
   have hH:=R109_1_hr rooms fr ti l g times by_ left times 0 (-1) rfl (Hr.init _ _)
   have q:=hH.get h0
   have hl:=h1.len
   have k:=R109_2_tm rooms fr ti l g hg times by_ left _ rfl ⟨q.1,by omega⟩ l times by_ 0 (fun p hp=>hp) h1 h2 q.2.2.1
   exact ih _ _ _ k.1 k.2 (by rw [List.length_set]; exact h3)
theorem r109_tm {rooms:Nat} {fr ti:Int} {l:List Pg} {g:Pg→Int→Int} (ht:0≤ti∧ti≤1073741823) (hg:∀ p ∈ l,∀ t,0≤t∧t≤1073741823→0≤g p t∧g p t≤1073741824):Tm rooms (r109 rooms fr ti l g).1∧(r109 rooms fr ti l g).2.length=rooms :=
 R109_0_tm rooms fr ti l g hg (rooms+1) _ _ _ ((Tm.rep _ (by decide)).set _ (by omega)) (by simp) (by simp)
def swp (p:Pg):Pg:=⟨p.way,p.back,p.to,p.fr,p.secs,p.door⟩
theorem lget_set_self {α:Type} [Inhabited α] {l:List α} {i:Nat} {x:α} (h:i<l.length):lget (l.set i x) i=x:=by
 unfold lget; rw [List.getD_eq_getElem?_getD,List.getElem?_set_self h]; rfl
theorem r146_ge {h:Hs} {p:Pg} (hP:OkP h p) {t:Int} (ht:0≤t∧t≤1073741823) : -1≤r146 p t h∧r146 p t h≤t:=by
 have hs:=hP.s; have hd:=hP.d
 unfold r146
 split
 ·have q:=r91_lx (oko hP.v (List.mem_of_getElem? (lget_some (l:=h.doors) (i:=Int.toNat p.door) (by omega)))) (t - p.secs)
  rcases q with q|q<;>omega
 ·omega
theorem swp_ok {h:Hs} (hV:r59 h=0) {p:Pg} (hp:p ∈ (psg h).map swp):OkP h p∧(0≤p.fr∧p.fr<(h.rooms.length:Int)∧0≤p.to∧p.to<(h.rooms.length:Int)):=by
 obtain ⟨q,hq,rfl⟩:=List.mem_map.1 hp
 have k:=psg_ok hV hq
 exact ⟨⟨k.ok.v,k.ok.d,k.ok.s⟩,k.t.1,k.t.2,k.f.1,k.f.2⟩
def r111 (x:Pg) (ti:Int) (h:Hs):Int:=(r110 (r146 x (r110 ti) h))
set_option maxHeartbeats 2000000 in
theorem c111 (x:Pg) (ti:Int) (h:Hs) (hP:OkP h x) (ht:0≤ti∧ti≤1073741823) (S:AS) (v_h_rooms:Value) (hv_h_rooms:LstR S v_h_rooms h.rooms) (v_h_doors:Value) (hv_h_doors:LstR S v_h_doors h.doors) (v_h_ways:Value) (hv_h_ways:Lst S v_h_ways h.ways) (p_h:Nat) (g_h:S.heap.get p_h=some (.cells [v_h_rooms,v_h_doors,v_h_ways] 26 0 true true)) (l_h:p_h<S.next) (p_f:Nat) (g_f:S.heap.get p_f=some (.cells [.func (.func 146) #[] #[.pointer (some ⟨p_h,0,none⟩)]] 125 0 true true)) (l_f:p_f<S.next) :
  ∃ S',(evL Tryz.prog E0).call 111 #[.agg #[.int .i64 x.way,.bool x.back,.int .i64 x.fr,.int .i64 x.to,.int .i64 x.secs,.int .i64 x.door],.int .i64 ti,.pointer (some ⟨p_f,0,none⟩)] S=some (.int .i64 (r111 x ti h),S')∧Agree S S':=by
 generalize hz:(evL Tryz.prog E0).call 111 _ _=z
 rw [L_call,evCall_said rfl Tryz.func111 rfl (by decide) Tryz.ntmps111 Tryz.results111] at hz
 obtain ⟨S1,e1,n1,b1,a1⟩:=push_open S (.cells [.int .i64 x.way,.bool x.back,.int .i64 x.fr,.int .i64 x.to,.int .i64 x.secs,.int .i64 x.door] 137 0 true true)
 have vh_1:=(a1.2 p_h (by omega)).trans g_h
 have vf_1:=(a1.2 p_f (by omega)).trans g_f
 have g1:Agree S S1:=a1
 have s1:E0.same S S1=true:=symEnv_same a1
 try simp only [E0_G,SY,setArgs,off,agreeKind,boxed,Nat.reduceAdd,Nat.reduceSub,Nat.reduceLT,Nat.reduceBEq,e1] at hz
 rw [code_draws _ _ _ (by kernel_rfl)] at hz
 generalize hnd2:needy _=nd2 at hz
 obtain ⟨S3,k3,a3⟩:=c110 ti (by omega) S1
 have l3:=a3.1
 have s3:E0.same S1 S3=true:=symEnv_same a3
 have vh_3:=(a3.2 p_h (by omega)).trans vh_1
 have g3:Agree S S3:=g1.trans a3
 have p3:=(show r110 ti=1073741823 - ti from rfl)
 obtain ⟨S4,k4,a4⟩:=c146 x (r110 ti) h hP (by omega) S3 (v_h_rooms) (hv_h_rooms.agree g3) (v_h_doors) (hv_h_doors.agree g3) (v_h_ways) (hv_h_ways.agree g3) p_h vh_3 (by omega)
 have l4:=a4.1
 have s4:E0.same S3 S4=true:=symEnv_same a4
 have g4:Agree S S4:=g3.trans a4
 have p4:=r146_ge hP (show 0≤(r110 ti)∧(r110 ti)≤1073741823 by omega)
 obtain ⟨S5,k5,a5⟩:=c110 (r146 x (r110 ti) h) (by omega) S4
 have l5:=a5.1
 have s5:E0.same S4 S5=true:=symEnv_same a5
 have g5:Agree S S5:=g4.trans a5
 have p5:=(show r110 (r146 x (r110 ti) h)=1073741823 - (r146 x (r110 ti) h) from rfl)
 try simp (disch:=first|omega|assumption) only [E0_G,SY,agreeKind,vals,ldA,rdCells,aggD,Nat.reduceAdd,Nat.reduceLT,Nat.reduceBEq,TY_EvH26,vf_1,b1,store_agree,store_refl E0_same,k3,k4,k5] at hz
 have hr:r111 x ti h=(r110 (r146 x (r110 ti) h)):=rfl
 exact fin hz (by rw [hr]) g5
end House
end Go.Proofs
end
section
set_option linter.unusedSimpArgs false
set_option linter.unusedVariables false
namespace Go.Proofs
namespace House
open Go Go.RowKit Go.Aev
set_option maxRecDepth 100000
theorem tz124:szOf Tryz.prog 124=some 1:=by kernel_rfl
theorem tt124:inTab Tryz.prog 124=true:=by kernel_rfl
theorem t0_124:zeroOf Tryz.prog 124=some (.nilFunc):=by kernel_rfl
theorem TY_EvH27:type_of% (And.intro TY_EvH26 (And.intro (And.intro Tryz.underlying124 tz124) (And.intro tt124 t0_124))):=(And.intro TY_EvH26 (And.intro (And.intro Tryz.underlying124 tz124) (And.intro tt124 t0_124)))
theorem hc111 {h:Hs} (hV:r59 h=0) {l:List Pg} (hl:l=(psg h).map swp) {S:AS} {p:Nat} {v0 v1 v2:Value} (hp:S.heap.get p=some (.cells [v0,v1,v2] 26 0 true true)) (lp:p<S.next) (h0:LstR S v0 h.rooms) (h1:LstR S v1 h.doors) (h2:Lst S v2 h.ways)
  {q:Nat} (hq:S.heap.get q=some (.cells [.func (.func 146) #[] #[.pointer (some ⟨p,0,none⟩)]] 125 0 true true)) (lq:q<S.next) :
  ∀ S',Agree S S'→∀ (x:Pg) (t:Int),x ∈ l→0≤t∧t≤1073741823→∃ S'',(evL Tryz.prog E0).call 111 (#[]++#[.agg (cellsOf x).toArray,.int .i64 t]++#[.pointer (some ⟨q,0,none⟩)]) S'=some (.int .i64 (r111 x t h),S'')∧Agree S' S'' :=
 fun S' ha x t hx ht=>c111 x t h (swp_ok hV (hl ▸ hx)).1 ht S' v0 (h0.agree ha) v1 (h1.agree ha) v2 (h2.agree ha) p ((ha.2 p lp).trans hp) (by have:=ha.1; omega) q ((ha.2 q lq).trans hq) (by have:=ha.1; omega)
theorem r111_ge {h:Hs} {p:Pg} (hP:OkP h p) {t:Int} (ht:0≤t∧t≤1073741823):t≤r111 p t h∧r111 p t h≤1073741824:=by
 have e:r111 p t h=1073741823 - r146 p (1073741823 - t) h:=rfl
 have:=r146_ge hP (t:=1073741823 - t) (by omega)
 omega
theorem swp_hp {h:Hs} (hV:r59 h=0) {l:List Pg} (hl:l=(psg h).map swp):∀ p ∈ l,0≤p.fr∧p.fr<(h.rooms.length:Int)∧0≤p.to∧p.to<(h.rooms.length:Int):=fun p hp=>(swp_ok hV (hl ▸ hp)).2
theorem swp_hg {h:Hs} (hV:r59 h=0) {l:List Pg} (hl:l=(psg h).map swp):∀ p ∈ l,∀ t,0≤t∧t≤1073741823→0≤(fun (p:Pg) (t:Int)=>r111 p t h) p t∧(fun (p:Pg) (t:Int)=>r111 p t h) p t≤1073741824:=fun p hp t ht=>by have:=r111_ge (swp_ok hV (hl ▸ hp)).1 ht; simp only; omega
structure Mx (n:Nat) (l:List Int):Prop where
 len:l.length=n
 all:∀ x ∈ l,-1≤x∧x≤1073741824
theorem Mx.set {n:Nat} {l:List Int} (h:Mx n l) (i:Nat) {x:Int} (hx : -1≤x∧x≤1073741824):Mx n (l.set i x):=⟨by rw [List.length_set]; exact h.len,fun y hy=>(List.mem_or_eq_of_mem_set hy).elim (h.all y) (fun e=>e ▸ hx)⟩
theorem Mx.at {n:Nat} {l:List Int} (h:Mx n l) {i:Nat} {x:Int} (hx:l[i]?=some x) : -1≤x∧x≤1073741824:=h.all x (List.mem_of_getElem? hx)
theorem Mx.of {n:Nat} {l:List Int} (h:Tm n l):Mx n l:=⟨h.len,fun x hx=>by have:=h.all x hx; omega⟩
theorem swp_set {pl:List Pg} {k:Nat} (hk:k<pl.length) {a b:Pg} (hb:b=swp (lget pl k)):((pl.set k a).set k b).take (k+1)++(((pl.set k a).set k b).drop (k+1)).map swp=pl.take k++(pl.drop k).map swp:=by
 have hP:(pl.take k).length=k:=by rw [List.length_take]; omega
 rw [List.set_set,List.set_eq_take_append_cons_drop,if_pos hk,drop_cons' (lget_some hk),List.map_cons,← hb]
 have e1:(pl.take k++b :: pl.drop (k+1)).take (k+1)=pl.take k++[b]:=by rw [List.take_append,hP,Nat.add_sub_cancel_left,List.take_of_length_le (by omega)]; rfl
 have e2:(pl.take k++b :: pl.drop (k+1)).drop (k+1)=pl.drop (k+1):=by rw [List.drop_append,hP,Nat.add_sub_cancel_left,List.drop_of_length_le (by omega)]; rfl
 rw [e1,e2]; simp
def R43_0 (h:Hs) (fr:Int) (ti:Int)  : Nat→List Pg→Nat→(List Pg)
 | 0,pl,kv=>pl
 | m'+1,pl,kv=>(if (kv:Int)<((psg h).length:Int) then R43_0 h fr ti m' ((pl.set kv (⟨(lget pl kv).way,(lget pl kv).back,(lget pl kv).to,(lget pl kv).to,(lget pl kv).secs,(lget pl kv).door⟩:Pg)).set kv (⟨(lget (pl.set kv (⟨(lget pl kv).way,(lget pl kv).back,(lget pl kv).to,(lget pl kv).to,(lget pl kv).secs,(lget pl kv).door⟩:Pg)) kv).way,(lget (pl.set kv (⟨(lget pl kv).way,(lget pl kv).back,(lget pl kv).to,(lget pl kv).to,(lget pl kv).secs,(lget pl kv).door⟩:Pg)) kv).back,(lget (pl.set kv (⟨(lget pl kv).way,(lget pl kv).back,(lget pl kv).to,(lget pl kv).to,(lget pl kv).secs,(lget pl kv).door⟩:Pg)) kv).fr,(lget pl kv).fr,(lget (pl.set kv (⟨(lget pl kv).way,(lget pl kv).back,(lget pl kv).to,(lget pl kv).to,(lget pl kv).secs,(lget pl kv).door⟩:Pg)) kv).secs,(lget (pl.set kv (⟨(lget pl kv).way,(lget pl kv).back,(lget pl kv).to,(lget pl kv).to,(lget pl kv).secs,(lget pl kv).door⟩:Pg)) kv).door⟩:Pg)) (kv+1) else pl)
def R43_1 (h:Hs) (fr:Int) (ti:Int)  : Nat→List Int→Nat→(List Int)
 | 0,tms,rv=>tms
 | m'+1,tms,rv=>(if (rv:Int)<(((r109 h.rooms.length fr (r110 ti) (R43_0 h fr ti ((psg h).length+1) (psg h) 0:List Pg) (fun (p:Pg) (t:Int)=>r111 p t h)).1).length:Int) then R43_1 h fr ti m' (tms.set rv (r110 (lget tms rv))) (rv+1) else tms)
def r43 (h:Hs) (fr:Int) (ti:Int):List Int × Int:=(if (r102 h fr)=true then (if (r84 h (r88 ti))=0 then (R43_1 h fr ti (h.rooms.length+1) ((r109 h.rooms.length fr (r110 ti) (R43_0 h fr ti ((psg h).length+1) (psg h) 0:List Pg) (fun (p:Pg) (t:Int)=>r111 p t h)).1) 0,0) else ([],(r84 h (r88 ti)))) else ([],(r84 h false)))
set_option maxHeartbeats 16000000 in
theorem c43 (h:Hs) (fr:Int) (ti:Int) (hF:Few h) (hs:∀ x ∈ h.rooms,x.name.size≤9223372036854775807) (S:AS) (v_h_rooms:Value) (hv_h_rooms:LstR S v_h_rooms h.rooms) (v_h_doors:Value) (hv_h_doors:LstR S v_h_doors h.doors) (v_h_ways:Value) (hv_h_ways:Lst S v_h_ways h.ways) :
  ∃ v' S',(evL Tryz.prog E0).call 43 #[.agg #[v_h_rooms,v_h_doors,v_h_ways],.int .i64 fr,.int .i64 ti] S=some (.tuple #[v',.int .i64 (r43 h fr ti).2],S')∧Agree S S'∧Own 3 S.next S' v' (r43 h fr ti).1:=by
 have qr:=hF.r; have qd:=hF.d; have qw:=hF.w
 have q0:∀ (m:Nat) (pl:List Pg) (k:Nat),m+k=(psg h).length+1→k≤(psg h).length→pl.length=(psg h).length→R43_0 h fr ti m pl k=pl.take k++(pl.drop k).map swp:=by
  intro m
  induction m with
  | zero=>intro pl k h1 h2 _; omega
  | succ m ih =>
   intro pl k h1 h2 h3
   rw [R43_0]
   split
   ·rename_i hk
    have hk':k<pl.length:=by omega
    rw [lget_set_self hk',ih _ _ (by omega) (by omega) (by rw [List.length_set,List.length_set]; exact h3)]
    exact swp_set hk' rfl
   ·have hk:k=pl.length:=by omega
    rw [hk,List.take_length,List.drop_length,List.map_nil,List.append_nil]
 have q1:R43_0 h fr ti ((psg h).length+1) (psg h) 0=(psg h).map swp:=q0 _ _ _ (by omega) (by omega) rfl
 generalize hz:(evL Tryz.prog E0).call 43 _ _=z
 rw [L_call,evCall_said rfl Tryz.func43 rfl (by decide) Tryz.ntmps43 Tryz.results43] at hz
 obtain ⟨S1,e1,n1,b1,a1⟩:=push_open S (.cells [v_h_rooms,v_h_doors,v_h_ways] 26 0 true true)
 have g1:Agree S S1:=a1
 have s1:E0.same S S1=true:=symEnv_same a1
 try simp (disch:=first|omega|assumption) only [E0_G,SY,setArgs,off,agreeKind,boxed,Nat.reduceAdd,Nat.reduceSub,Nat.reduceLT,Nat.reduceBEq,e1] at hz
 rw [code_draws _ _ _ (by kernel_rfl)] at hz
 generalize hnd2:needy _=nd2 at hz
 obtain ⟨S3,k3,a3⟩:=c102 h fr  S1 (v_h_rooms) (hv_h_rooms.agree g1) (v_h_doors) (hv_h_doors.agree g1) (v_h_ways) (hv_h_ways.agree g1)
 have l3:=a3.1
 have s3:E0.same S1 S3=true:=symEnv_same a3
 have v1_3:=(a3.2 S.next (by omega)).trans b1
 have g3:Agree S S3:=g1.trans a3
 try simp (disch:=first|omega|assumption) only [E0_G,SY,agreeKind,vals,ldA,rdCells,aggD,Nat.reduceAdd,Nat.reduceLT,Nat.reduceBEq,TY_EvH27,b1,store_agree,store_refl E0_same,k3] at hz
 rcases dB ((r102 h fr)) with ⟨h4a,h4⟩|⟨h4a,h4⟩
 ·have lq5:=r102_iff.1 h4
  obtain ⟨S6,k6,a6⟩:=c88 ti  S3
  have l6:=a6.1
  have s6:E0.same S3 S6=true:=symEnv_same a6
  have v1_6:=(a6.2 S.next (by omega)).trans v1_3
  have g6:Agree S S6:=g3.trans a6
  obtain ⟨S7,k7,a7⟩:=c84 h (r88 ti) hF hs S6 (v_h_rooms) (hv_h_rooms.agree g6) (v_h_doors) (hv_h_doors.agree g6) (v_h_ways) (hv_h_ways.agree g6)
  have l7:=a7.1
  have s7:E0.same S6 S7=true:=symEnv_same a7
  have v1_7:=(a7.2 S.next (by omega)).trans v1_6
  have g7:Agree S S7:=g6.trans a7
  try simp (disch:=first|omega|assumption) only [E0_G,SY,off,agreeKind,vals,Nat.reduceAdd,Nat.reduceLT,Nat.reduceBEq,store_agree,store_refl E0_same,h4a,k6,k7] at hz
  rcases dP ((r84 h (r88 ti))=0) with ⟨h8a,h8⟩|⟨h8a,h8⟩
  ·have hV:=(r84_ok h8).1
   have lq9:=r88_iff.1 (r84_ok h8).2
   obtain ⟨S10,k10,a10,n10,b10⟩:=c108 (v_h_rooms) (v_h_doors) (v_h_ways) S7
   have l10:=a10.1
   have s10:E0.same S7 S10=true:=symEnv_same a10
   have v1_10:=(a10.2 S.next (by omega)).trans v1_7
   have g10:Agree S S10:=g7.trans a10
   obtain ⟨u11,S11,k11,a11,oo11⟩:=c107 148 #[] #[.pointer (some ⟨S7.next,0,none⟩)] (psg h) (by have:=psg_len h; omega) (fun a S'=>rfl) S10 (yields h (by omega) S10 S7.next _ _ _ b10 (by omega) (hv_h_rooms.agree g10) (hv_h_doors.agree g10) (hv_h_ways.agree g10))
   have l11:=a11.1
   obtain ⟨pu11,nu11,cu11,rfl⟩:=own_slice oo11
   have s11:E0.same S10 S11=true:=symEnv_same a11
   have v1_11:=(a11.2 S.next (by omega)).trans v1_10
   have g11:Agree S S11:=g10.trans a11
   have w12:=(oo11.rows).len (P:=Tryz.prog) (t:=134) Tryz.underlying134
   try simp (disch:=first|omega|assumption) only [E0_G,SY,off,agreeKind,vals,ldA,rdCells,aggD,Nat.reduceAdd,Nat.reduceLT,Nat.reduceBEq,TY_EvH27,store_agree,store_refl E0_same,v1_7,h8a,k10,k11,w12] at hz
   have hVl:=psg_len h
   generalize hL13:Rec.loop _ _ _ _=L13 at hz
   obtain ⟨x13,t13,S13e,rfl,hQ13⟩:=loop_met hL13 (fun m t S'=>∃ (pl:List Pg) (kv:Nat),m+kv=(psg h).length+1∧kv≤(psg h).length∧pl.length=(psg h).length∧t.get 1=some (.int .i64 fr)∧t.get 2=some (.int .i64 ti)∧t.get 3=some (.pointer (some ⟨S.next,0,none⟩))∧t.get 9=some (.slice pu11 nu11 cu11)∧t.get 31=some (.slice pu11 nu11 cu11)∧t.get 32=some (.int .i64 ((psg h).length:Int))∧t.get 33=some (.int .i64 (kv:Int))∧S'.heap.get S.next=some (.cells [v_h_rooms,v_h_doors,v_h_ways] 26 0 true true)∧Agree S S'∧S11.next≤S'.next∧Own 137 S10.next S' (.slice pu11 nu11 cu11) pl∧R43_0 h fr ti m pl kv=R43_0 h fr ti ((psg h).length+1) (psg h) 0)
    (fun x t S'=>x=.exit 0∧∃ (pl:List Pg) (kv:Nat),t.get 1=some (.int .i64 fr)∧t.get 2=some (.int .i64 ti)∧t.get 3=some (.pointer (some ⟨S.next,0,none⟩))∧t.get 9=some (.slice pu11 nu11 cu11)∧S'.heap.get S.next=some (.cells [v_h_rooms,v_h_doors,v_h_ways] 26 0 true true)∧Agree S S'∧S11.next≤S'.next∧Own 137 S10.next S' (.slice pu11 nu11 cu11) pl∧kv≤(psg h).length∧pl.length=(psg h).length∧R43_0 h fr ti ((psg h).length+1) (psg h) 0=pl) ((psg h).length+1) (by refine ⟨(psg h),0,?_,?_,?_,?_,?_,?_,?_,?_,?_,?_,v1_11,g11,Nat.le_refl _,oo11,rfl⟩<;>first|(simp only [SY,eq_self,Nat.reduceBEq]<;>rfl)|omega|assumption|assumption|exact Mx.of (by assumption)|exact Mx.set (by assumption) _ (by omega)|(simp; omega)|simp) (by
     rintro m t S13 ⟨pl,kv,hi13_0,hi13_1,hi13_2,g13_1,g13_2,g13_3,g13_9,g13_31,g13_32,g13_33,bb13_1,ga13,gn13,ow_pl,hd13⟩
     refine .run fun z he=>?_
     try simp (disch:=first|omega|assumption) only [E0_G,SY,off,agreeKind,Nat.reduceLT,Nat.reduceBEq,g13_32,g13_33] at he
     rcases dP ((kv:Int)<((psg h).length:Int)) with ⟨h14a,h14⟩|⟨h14a,h14⟩
     ·have hx15:pl[kv]?=some (lget pl kv):=lget_some (by first|omega|simp; omega)
      obtain ⟨id15,of15,cc15,ty15,wr15,ex15,i15,j15,l15,q15,lb15,bk15,oq15⟩:=ow_pl.at4 (P:=Tryz.prog) (t:=134) Tryz.underlying134 tz137 hx15
      have m15_0:cc15[of15]?=some (.int .i64 ((lget pl kv).way)):=q15 0 (show 0<6 by decide)
      have m15_1:cc15[of15+1]?=some (.bool ((lget pl kv).back)):=q15 1 (show 1<6 by decide)
      have m15_2:cc15[of15+2]?=some (.int .i64 ((lget pl kv).fr)):=q15 2 (show 2<6 by decide)
      have m15_3:cc15[of15+3]?=some (.int .i64 ((lget pl kv).to)):=q15 3 (show 3<6 by decide)
      have m15_4:cc15[of15+4]?=some (.int .i64 ((lget pl kv).secs)):=q15 4 (show 4<6 by decide)
      have m15_5:cc15[of15+5]?=some (.int .i64 ((lget pl kv).door)):=q15 5 (show 5<6 by decide)
      obtain ⟨S16,e16,n16,b16,a16⟩:=push_open S13 (.cells [.int .i64 0,.bool false,.int .i64 0,.int .i64 0,.int .i64 0,.int .i64 0] 137 0 true true)
      have v1_16:=(a16.2 S.next (by omega)).trans bb13_1
      have ow_17:=ow_pl.agree a16
      have g16:Agree S S16:=ga13.trans a16
      have s16:E0.same S13 S16=true:=symEnv_same a16
      have ne18:blkOf (.slice pu11 nu11 cu11)≠some S13.next:=ow_pl.new (Nat.le_refl _)
      obtain ⟨S19,k19,n19,b19,q19⟩:=st_at (o:=0) (c':=[.int .i64 ((lget pl kv).way),.bool ((lget pl kv).back),.int .i64 ((lget pl kv).fr),.int .i64 ((lget pl kv).to),.int .i64 ((lget pl kv).secs),.int .i64 ((lget pl kv).door)]) (v:=.agg #[.int .i64 ((lget pl kv).way),.bool ((lget pl kv).back),.int .i64 ((lget pl kv).fr),.int .i64 ((lget pl kv).to),.int .i64 ((lget pl kv).secs),.int .i64 ((lget pl kv).door)]) tz137 b16 rfl rfl (show 0+6≤6 by decide) rfl
      have v1_19:=(q19 S.next (by omega)).trans v1_16
      have ow_20:=ow_17.frame (by omega) (fun id hid hb=>q19 id (fun e=>(show blkOf (.slice pu11 nu11 cu11)≠some S13.next from by first|exact ow_17.ne (by omega)|exact ow_17.new (by omega)|assumption) (e ▸ hb)))
      have g19:Agree S S19:=⟨by have:=(g16).1; omega,fun id hid=>(q19 id (by have:=(g16).1; omega)).trans ((g16).2 id hid)⟩
      try simp (disch:=first|omega|assumption) only [E0_G,SY,off,agreeKind,allocV,ldA,rdCells,aggD,Nat.reduceAdd,Nat.reduceLT,Nat.reduceBEq,TY_EvH27,g13_31,g13_33,h14a,i15,j15,m15_0,m15_1,m15_2,m15_3,m15_4,m15_5,e16,k19] at he
      rw [code_draws3 _ _ _ [(Operand.tmp 44,Operand.tmp 47)] (by kernel_rfl) (by kernel_rfl) (by kernel_rfl) (by kernel_rfl)] at he
      generalize hnd21:needy _=nd21 at he
      have nn21_10:nd21 10=false:=by rw [← hnd21]; kernel_rfl
      have nn21_13:nd21 13=false:=by rw [← hnd21]; kernel_rfl
      obtain ⟨id22,of22,cc22,ty22,wr22,ex22,i22,j22,l22,q22,lb22,bk22,oq22⟩:=ow_20.at4 (P:=Tryz.prog) (t:=134) Tryz.underlying134 tz137 hx15
      obtain rfl:id15=id22:=Option.some.inj (bk15.symm.trans bk22)
      obtain rfl:of15=of22:=oq15.trans oq22.symm
      have m22_0:cc22[of15]?=some (.int .i64 ((lget pl kv).way)):=q22 0 (show 0<6 by decide)
      have m22_1:cc22[of15+1]?=some (.bool ((lget pl kv).back)):=q22 1 (show 1<6 by decide)
      have m22_2:cc22[of15+2]?=some (.int .i64 ((lget pl kv).fr)):=q22 2 (show 2<6 by decide)
      have m22_3:cc22[of15+3]?=some (.int .i64 ((lget pl kv).to)):=q22 3 (show 3<6 by decide)
      have m22_4:cc22[of15+4]?=some (.int .i64 ((lget pl kv).secs)):=q22 4 (show 4<6 by decide)
      have m22_5:cc22[of15+5]?=some (.int .i64 ((lget pl kv).door)):=q22 5 (show 5<6 by decide)
      obtain ⟨S23,k23,n23,o23,q23⟩:=ow_20.put1 (P:=Tryz.prog) hx15 bk22 oq22 3 (.int .i64 ((lget pl kv).to)) 2 (⟨(lget pl kv).way,(lget pl kv).back,(lget pl kv).to,(lget pl kv).to,(lget pl kv).secs,(lget pl kv).door⟩:Pg) tz3 rfl rfl (by decide) rfl
      have v1_23:=(q23 S.next (fun e=>(show blkOf (.slice pu11 nu11 cu11)≠some S.next from by first|exact ow_20.ne (by omega)|exact ow_20.new (by omega)|assumption) (e ▸ bk22))).trans v1_19
      have g23:Agree S S23:=⟨by have:=(g19).1; omega,fun id hid=>(q23 id (fun e=>(show blkOf (.slice pu11 nu11 cu11)≠some id from ow_20.ne (by omega)) (e ▸ bk22))).trans ((g19).2 id hid)⟩
      have hx24:(pl.set kv (⟨(lget pl kv).way,(lget pl kv).back,(lget pl kv).to,(lget pl kv).to,(lget pl kv).secs,(lget pl kv).door⟩:Pg))[kv]?=some (lget (pl.set kv (⟨(lget pl kv).way,(lget pl kv).back,(lget pl kv).to,(lget pl kv).to,(lget pl kv).secs,(lget pl kv).door⟩:Pg)) kv):=lget_some (by first|omega|simp; omega)
      obtain ⟨id24,of24,cc24,ty24,wr24,ex24,i24,j24,l24,q24,lb24,bk24,oq24⟩:=o23.at4 (P:=Tryz.prog) (t:=134) Tryz.underlying134 tz137 hx24
      obtain rfl:id15=id24:=Option.some.inj (bk15.symm.trans bk24)
      obtain rfl:of15=of24:=oq15.trans oq24.symm
      have m24_0:cc24[of15]?=some (.int .i64 ((lget (pl.set kv (⟨(lget pl kv).way,(lget pl kv).back,(lget pl kv).to,(lget pl kv).to,(lget pl kv).secs,(lget pl kv).door⟩:Pg)) kv).way)):=q24 0 (show 0<6 by decide)
      have m24_1:cc24[of15+1]?=some (.bool ((lget (pl.set kv (⟨(lget pl kv).way,(lget pl kv).back,(lget pl kv).to,(lget pl kv).to,(lget pl kv).secs,(lget pl kv).door⟩:Pg)) kv).back)):=q24 1 (show 1<6 by decide)
      have m24_2:cc24[of15+2]?=some (.int .i64 ((lget (pl.set kv (⟨(lget pl kv).way,(lget pl kv).back,(lget pl kv).to,(lget pl kv).to,(lget pl kv).secs,(lget pl kv).door⟩:Pg)) kv).fr)):=q24 2 (show 2<6 by decide)
      have m24_3:cc24[of15+3]?=some (.int .i64 ((lget (pl.set kv (⟨(lget pl kv).way,(lget pl kv).back,(lget pl kv).to,(lget pl kv).to,(lget pl kv).secs,(lget pl kv).door⟩:Pg)) kv).to)):=q24 3 (show 3<6 by decide)
      have m24_4:cc24[of15+4]?=some (.int .i64 ((lget (pl.set kv (⟨(lget pl kv).way,(lget pl kv).back,(lget pl kv).to,(lget pl kv).to,(lget pl kv).secs,(lget pl kv).door⟩:Pg)) kv).secs)):=q24 4 (show 4<6 by decide)
      have m24_5:cc24[of15+5]?=some (.int .i64 ((lget (pl.set kv (⟨(lget pl kv).way,(lget pl kv).back,(lget pl kv).to,(lget pl kv).to,(lget pl kv).secs,(lget pl kv).door⟩:Pg)) kv).door)):=q24 5 (show 5<6 by decide)
      obtain ⟨S25,k25,n25,o25,q25⟩:=o23.put1 (P:=Tryz.prog) hx24 bk24 oq24 3 (.int .i64 ((lget pl kv).fr)) 3 (⟨(lget (pl.set kv (⟨(lget pl kv).way,(lget pl kv).back,(lget pl kv).to,(lget pl kv).to,(lget pl kv).secs,(lget pl kv).door⟩:Pg)) kv).way,(lget (pl.set kv (⟨(lget pl kv).way,(lget pl kv).back,(lget pl kv).to,(lget pl kv).to,(lget pl kv).secs,(lget pl kv).door⟩:Pg)) kv).back,(lget (pl.set kv (⟨(lget pl kv).way,(lget pl kv).back,(lget pl kv).to,(lget pl kv).to,(lget pl kv).secs,(lget pl kv).door⟩:Pg)) kv).fr,(lget pl kv).fr,(lget (pl.set kv (⟨(lget pl kv).way,(lget pl kv).back,(lget pl kv).to,(lget pl kv).to,(lget pl kv).secs,(lget pl kv).door⟩:Pg)) kv).secs,(lget (pl.set kv (⟨(lget pl kv).way,(lget pl kv).back,(lget pl kv).to,(lget pl kv).to,(lget pl kv).secs,(lget pl kv).door⟩:Pg)) kv).door⟩:Pg) tz3 rfl rfl (by decide) rfl
      have v1_25:=(q25 S.next (fun e=>(show blkOf (.slice pu11 nu11 cu11)≠some S.next from by first|exact o23.ne (by omega)|exact o23.new (by omega)|assumption) (e ▸ bk24))).trans v1_23
      have g25:Agree S S25:=⟨by have:=(g23).1; omega,fun id hid=>(q25 id (fun e=>(show blkOf (.slice pu11 nu11 cu11)≠some id from o23.ne (by omega)) (e ▸ bk24))).trans ((g23).2 id hid)⟩
      have nb26:=nbeq (show S13.next≠id15 from fun e=>(show blkOf (.slice pu11 nu11 cu11)≠some S13.next from by first|exact o25.ne (by omega)|exact o25.new (by omega)|assumption) (e ▸ bk22))
      have w27:IntKind.i64.wrap ((kv:Int)+1)=((kv+1:Nat):Int):=by rw [IntWalk.i64_in]<;>omega
      try simp (disch:=first|omega|assumption) only [E0_G,SY,off,agreeKind,ldA,aggD,aField,eq_self,if_true,Nat.reduceAdd,Nat.reduceLT,Nat.reduceBEq,TY_EvH27,g13_9,g13_33,i15,b19,nn21_10,nn21_13,store_refl E0_same,k23,k25,nb26,behindD_some,disW_pp,List.all_cons,List.all_nil,w27] at he
      obtain ⟨m',rfl⟩:∃ m',m=m'+1:=⟨m - 1,by omega⟩
      have hf:=(show _=(R43_0 h fr ti m' ((pl.set kv (⟨(lget pl kv).way,(lget pl kv).back,(lget pl kv).to,(lget pl kv).to,(lget pl kv).secs,(lget pl kv).door⟩:Pg)).set kv (⟨(lget (pl.set kv (⟨(lget pl kv).way,(lget pl kv).back,(lget pl kv).to,(lget pl kv).to,(lget pl kv).secs,(lget pl kv).door⟩:Pg)) kv).way,(lget (pl.set kv (⟨(lget pl kv).way,(lget pl kv).back,(lget pl kv).to,(lget pl kv).to,(lget pl kv).secs,(lget pl kv).door⟩:Pg)) kv).back,(lget (pl.set kv (⟨(lget pl kv).way,(lget pl kv).back,(lget pl kv).to,(lget pl kv).to,(lget pl kv).secs,(lget pl kv).door⟩:Pg)) kv).fr,(lget pl kv).fr,(lget (pl.set kv (⟨(lget pl kv).way,(lget pl kv).back,(lget pl kv).to,(lget pl kv).to,(lget pl kv).secs,(lget pl kv).door⟩:Pg)) kv).secs,(lget (pl.set kv (⟨(lget pl kv).way,(lget pl kv).back,(lget pl kv).to,(lget pl kv).to,(lget pl kv).secs,(lget pl kv).door⟩:Pg)) kv).door⟩:Pg)) (kv+1):(List Pg)) from (if_pos h14).trans (rfl)).symm.trans hd13
      refine .next he m' (by omega) ⟨(pl.set kv (⟨(lget pl kv).way,(lget pl kv).back,(lget pl kv).to,(lget pl kv).to,(lget pl kv).secs,(lget pl kv).door⟩:Pg)).set kv (⟨(lget (pl.set kv (⟨(lget pl kv).way,(lget pl kv).back,(lget pl kv).to,(lget pl kv).to,(lget pl kv).secs,(lget pl kv).door⟩:Pg)) kv).way,(lget (pl.set kv (⟨(lget pl kv).way,(lget pl kv).back,(lget pl kv).to,(lget pl kv).to,(lget pl kv).secs,(lget pl kv).door⟩:Pg)) kv).back,(lget (pl.set kv (⟨(lget pl kv).way,(lget pl kv).back,(lget pl kv).to,(lget pl kv).to,(lget pl kv).secs,(lget pl kv).door⟩:Pg)) kv).fr,(lget pl kv).fr,(lget (pl.set kv (⟨(lget pl kv).way,(lget pl kv).back,(lget pl kv).to,(lget pl kv).to,(lget pl kv).secs,(lget pl kv).door⟩:Pg)) kv).secs,(lget (pl.set kv (⟨(lget pl kv).way,(lget pl kv).back,(lget pl kv).to,(lget pl kv).to,(lget pl kv).secs,(lget pl kv).door⟩:Pg)) kv).door⟩:Pg),(kv+1),?_,?_,?_,?_,?_,?_,?_,?_,?_,?_,v1_25,g25,by omega,o25,hf⟩<;>first|(simp only [SY,eq_self,Nat.reduceBEq,g13_1,g13_2,g13_3,g13_9,g13_31,g13_32,g13_33]<;>rfl)|omega|assumption|assumption|exact Mx.of (by assumption)|exact Mx.set (by assumption) _ (by omega)|(simp; omega)|simp
     try simp (disch:=first|omega|assumption) only [SY,h14a] at he
     obtain ⟨m',rfl⟩:∃ m',m=m'+1:=⟨m - 1,by omega⟩
     have hf:=(show _=(pl:(List Pg)) from (if_neg h14).trans (rfl)).symm.trans hd13
     refine .exit he ⟨rfl,⟨pl,kv,?_,?_,?_,?_,bb13_1,ga13,by omega,ow_pl,?_,?_,hf.symm⟩⟩<;>first|(simp only [SY,eq_self,Nat.reduceBEq,g13_1,g13_2,g13_3,g13_9]<;>rfl)|omega|assumption|assumption|exact Mx.of (by assumption)|exact Mx.set (by assumption) _ (by omega)|(simp; omega)|simp)
   obtain ⟨rfl,pl,kv,ge13_1,ge13_2,ge13_3,ge13_9,be13_1,ge13,gm13,oe_pl13,hj13_0,hj13_1,hR13⟩:=hQ13
   obtain rfl:pl=R43_0 h fr ti ((psg h).length+1) (psg h) 0:=hR13.symm
   obtain ⟨S29,k29,a29,n29,b29⟩:=c100 (v_h_rooms) (v_h_doors) (v_h_ways) S13e
   have l29:=a29.1
   have s29:E0.same S13e S29=true:=symEnv_same a29
   have v1_29:=(a29.2 S.next (by omega)).trans be13_1
   have oe_30:=oe_pl13.agree a29
   have g29:Agree S S29:=ge13.trans a29
   obtain ⟨S31,e31,n31,b31,a31⟩:=push_open S29 (.cells [.nilFunc] 125 0 true true)
   have v1_31:=(a31.2 S.next (by omega)).trans v1_29
   have v29_31:=(a31.2 S13e.next (by omega)).trans b29
   have oe_32:=oe_30.agree a31
   have g31:Agree S S31:=g29.trans a31
   have s31:E0.same S29 S31=true:=symEnv_same a31
   have ne33:blkOf (.slice pu11 nu11 cu11)≠some S29.next:=oe_30.new (Nat.le_refl _)
   obtain ⟨S34,k34,n34,b34,q34⟩:=st_at (o:=0) (c':=[.func (.func 146) #[] #[.pointer (some ⟨S13e.next,0,none⟩)]]) (v:=.func (.func 146) #[] #[.pointer (some ⟨S13e.next,0,none⟩)]) tz125 b31 rfl rfl (show 0+1≤1 by decide) rfl
   have v1_34:=(q34 S.next (by omega)).trans v1_31
   have v29_34:=(q34 S13e.next (by omega)).trans v29_31
   have oe_35:=oe_32.frame (by omega) (fun id hid hb=>q34 id (fun e=>(show blkOf (.slice pu11 nu11 cu11)≠some S29.next from by first|exact oe_32.ne (by omega)|exact oe_32.new (by omega)|assumption) (e ▸ hb)))
   have g34:Agree S S34:=⟨by have:=(g31).1; omega,fun id hid=>(q34 id (by have:=(g31).1; omega)).trans ((g31).2 id hid)⟩
   try simp (disch:=first|omega|assumption) only [E0_G,SY,off,agreeKind,vals,allocV,ldA,rdCells,aggD,eq_self,if_true,Nat.reduceAdd,Nat.reduceLT,Nat.reduceBEq,TY_EvH27,ge13_3,be13_1,k29,cells_nf,e31,k34] at hz
   rw [code_draws2 _ _ _ 9 142 (some 13) (by kernel_rfl) (by kernel_rfl) (by kernel_rfl)] at hz
   generalize hnd36:needy _=nd36 at hz
   obtain ⟨S37,e37,n37,b37,a37⟩:=push_open S34 .resv
   have v1_37:=(a37.2 S.next (by omega)).trans v1_34
   have v29_37:=(a37.2 S13e.next (by omega)).trans v29_34
   have v31_37:=(a37.2 S29.next (by omega)).trans b34
   have oe_38:=oe_35.agree a37
   have g37:Agree S S37:=g34.trans a37
   have ne39:blkOf (.slice pu11 nu11 cu11)≠some S34.next:=oe_35.new (Nat.le_refl _)
   have nn36_10:nd36 10=false:=by rw [← hnd36]; kernel_rfl
   have w40:=(hv_h_rooms.agree g37).len (P:=Tryz.prog) (t:=22) Tryz.underlying22
   obtain ⟨S41,k41,a41⟩:=c110 ti (by omega) S37
   have l41:=a41.1
   have s41:E0.same S37 S41=true:=symEnv_same a41
   have v29_41:=(a41.2 S13e.next (by omega)).trans v29_37
   have v31_41:=(a41.2 S29.next (by omega)).trans v31_37
   have v37_41:=(a41.2 S34.next (by omega)).trans b37
   have oe_42:=oe_38.agree a41
   have g41:Agree S S41:=g37.trans a41
   have p41:=(show r110 ti=1073741823 - ti from rfl)
   obtain ⟨u43_0,u43_1,S43,k43,a43,oo43_0,oo43_1,ab43_0_1⟩:=c109 h.rooms.length fr (r110 ti) (R43_0 h fr ti ((psg h).length+1) (psg h) 0:List Pg) (fun (p:Pg) (t:Int)=>r111 p t h) ⟨rooms_pos hV,by omega⟩ (by omega) (by omega) (by rw [q1,List.length_map]; have:=psg_len h; omega) (swp_hp hV q1) (swp_hg hV q1) S41 (.slice pu11 nu11 cu11) (oe_42.rows) 111 #[] #[.pointer (some ⟨S29.next,0,none⟩)] (hc111 hV q1 v29_41 (by omega) (hv_h_rooms.agree g41) (hv_h_doors.agree g41) (hv_h_ways.agree g41) v31_41 (by omega))
   obtain ⟨pu43_0,nu43_0,cu43_0,rfl⟩:=own_slice oo43_0
   have ap44:∀ b,blkOf (.slice pu11 nu11 cu11)=some b→blkOf (.slice pu43_0 nu43_0 cu43_0)≠some b:=fun b hb=>oo43_0.ne (Nat.lt_of_lt_of_le (oe_42.lt hb) (by omega))
   obtain ⟨pu43_1,nu43_1,cu43_1,rfl⟩:=own_slice oo43_1
   have ap45:∀ b,blkOf (.slice pu11 nu11 cu11)=some b→blkOf (.slice pu43_1 nu43_1 cu43_1)≠some b:=fun b hb=>oo43_1.ne (Nat.lt_of_lt_of_le (oe_42.lt hb) (by omega))
   have l43:=a43.1
   have s43:E0.same S41 S43=true:=symEnv_same a43
   have v37_43:=(a43.2 S34.next (by omega)).trans v37_41
   have oe_46:=oe_42.agree a43
   have g43:Agree S S43:=g41.trans a43
   have p43:=(r109_tm (rooms:=h.rooms.length) (fr:=fr) (ti:=(r110 ti)) (l:=(R43_0 h fr ti ((psg h).length+1) (psg h) 0:List Pg)) (g:=(fun (p:Pg) (t:Int)=>r111 p t h)) (by omega) (swp_hg hV q1)).1; have pl109:=(r109_tm (rooms:=h.rooms.length) (fr:=fr) (ti:=(r110 ti)) (l:=(R43_0 h fr ti ((psg h).length+1) (psg h) 0:List Pg)) (g:=(fun (p:Pg) (t:Int)=>r111 p t h)) (by omega) (swp_hg hV q1)).1.len
   try simp (disch:=first|omega|assumption) only [E0_G,SY,agreeKind,vals,ldA,aggD,aField,Nat.reduceAdd,Nat.reduceLT,Nat.reduceBEq,TY_EvH27,ge13_1,ge13_2,ge13_3,ge13_9,v1_37,e37,start2_list,List.take_succ_cons,List.take_zero,List.drop_succ_cons,List.drop_zero,store_agree,store_refl E0_same,w40,k41,op_makeFunc1,k43] at hz
   obtain ⟨S47,k47,n47,b47,q47⟩:=fill_at (P:=Tryz.prog) (e:=142) (c:=[.slice none 0 0,.slice none 0 0]) v37_43 (by kernel_rfl) (by kernel_rfl)
   have oe_48:=oe_46.frame (by omega) (fun id hid hb=>q47 id (fun e=>(show blkOf (.slice pu11 nu11 cu11)≠some S34.next from by first|exact oe_46.ne (by omega)|exact oe_46.new (by omega)|assumption) (e ▸ hb)))
   have o43_49:=oo43_0.frame (by omega) (fun id hid hb=>q47 id (fun e=>(show blkOf (.slice pu43_0 nu43_0 cu43_0)≠some S34.next from by first|exact oo43_0.ne (by omega)|exact oo43_0.new (by omega)|assumption) (e ▸ hb)))
   have o43_50:=oo43_1.frame (by omega) (fun id hid hb=>q47 id (fun e=>(show blkOf (.slice pu43_1 nu43_1 cu43_1)≠some S34.next from by first|exact oo43_1.ne (by omega)|exact oo43_1.new (by omega)|assumption) (e ▸ hb)))
   have g47:Agree S S47:=⟨by have:=(g43).1; omega,fun id hid=>(q47 id (by have:=(g43).1; omega)).trans ((g43).2 id hid)⟩
   obtain ⟨S51,k51,n51,b51,q51⟩:=st_at (o:=0) (c':=[.slice pu43_0 nu43_0 cu43_0,.slice pu43_1 nu43_1 cu43_1]) (v:=.agg #[.slice pu43_0 nu43_0 cu43_0,.slice pu43_1 nu43_1 cu43_1]) tz142 b47 rfl rfl (show 0+2≤2 by decide) rfl
   have oe_52:=oe_48.frame (by omega) (fun id hid hb=>q51 id (fun e=>(show blkOf (.slice pu11 nu11 cu11)≠some S34.next from by first|exact oe_48.ne (by omega)|exact oe_48.new (by omega)|assumption) (e ▸ hb)))
   have o43_53:=o43_49.frame (by omega) (fun id hid hb=>q51 id (fun e=>(show blkOf (.slice pu43_0 nu43_0 cu43_0)≠some S34.next from by first|exact o43_49.ne (by omega)|exact o43_49.new (by omega)|assumption) (e ▸ hb)))
   have o43_54:=o43_50.frame (by omega) (fun id hid hb=>q51 id (fun e=>(show blkOf (.slice pu43_1 nu43_1 cu43_1)≠some S34.next from by first|exact o43_50.ne (by omega)|exact o43_50.new (by omega)|assumption) (e ▸ hb)))
   have g51:Agree S S51:=⟨by have:=(g47).1; omega,fun id hid=>(q51 id (by have:=(g47).1; omega)).trans ((g47).2 id hid)⟩
   have w55:=(o43_53.rows).len (P:=Tryz.prog) (t:=54) Tryz.underlying54
   try simp (disch:=first|omega|assumption) only [E0_G,SY,off,agreeKind,ldA,aggD,aField,Nat.reduceAdd,Nat.reduceLT,Nat.reduceBEq,TY_EvH27,nn36_10,store_refl E0_same,k47,k51,b51,w55] at hz
   generalize hL56:Rec.loop _ _ _ _=L56 at hz
   obtain ⟨x56,t56,S56e,rfl,hQ56⟩:=loop_met hL56 (fun m t S'=>∃ (tms:List Int) (rv:Nat),m+rv=h.rooms.length+1∧rv≤h.rooms.length∧tms.length=h.rooms.length∧Mx h.rooms.length tms∧t.get 13=some (.pointer (some ⟨S34.next,0,none⟩))∧t.get 63=some (.slice pu43_0 nu43_0 cu43_0)∧t.get 64=some (.int .i64 (((r109 h.rooms.length fr (r110 ti) (R43_0 h fr ti ((psg h).length+1) (psg h) 0:List Pg) (fun (p:Pg) (t:Int)=>r111 p t h)).1).length:Int))∧t.get 65=some (.int .i64 (rv:Int))∧S'.heap.get S34.next=some (.cells [.slice pu43_0 nu43_0 cu43_0,.slice pu43_1 nu43_1 cu43_1] 142 0 true true)∧Agree S S'∧S51.next≤S'.next∧Own 3 S41.next S' (.slice pu43_0 nu43_0 cu43_0) tms∧Own 3 S41.next S' (.slice pu43_1 nu43_1 cu43_1) ((r109 h.rooms.length fr (r110 ti) (R43_0 h fr ti ((psg h).length+1) (psg h) 0:List Pg) (fun (p:Pg) (t:Int)=>r111 p t h)).2)∧R43_1 h fr ti m tms rv=R43_1 h fr ti (h.rooms.length+1) ((r109 h.rooms.length fr (r110 ti) (R43_0 h fr ti ((psg h).length+1) (psg h) 0:List Pg) (fun (p:Pg) (t:Int)=>r111 p t h)).1) 0)
    (fun x t S'=>x=.exit 2∧∃ (tms:List Int) (rv:Nat),t.get 13=some (.pointer (some ⟨S34.next,0,none⟩))∧S'.heap.get S34.next=some (.cells [.slice pu43_0 nu43_0 cu43_0,.slice pu43_1 nu43_1 cu43_1] 142 0 true true)∧Agree S S'∧S51.next≤S'.next∧Own 3 S41.next S' (.slice pu43_0 nu43_0 cu43_0) tms∧Own 3 S41.next S' (.slice pu43_1 nu43_1 cu43_1) ((r109 h.rooms.length fr (r110 ti) (R43_0 h fr ti ((psg h).length+1) (psg h) 0:List Pg) (fun (p:Pg) (t:Int)=>r111 p t h)).2)∧rv≤h.rooms.length∧tms.length=h.rooms.length∧Mx h.rooms.length tms∧R43_1 h fr ti (h.rooms.length+1) ((r109 h.rooms.length fr (r110 ti) (R43_0 h fr ti ((psg h).length+1) (psg h) 0:List Pg) (fun (p:Pg) (t:Int)=>r111 p t h)).1) 0=tms) (h.rooms.length+1) (by refine ⟨((r109 h.rooms.length fr (r110 ti) (R43_0 h fr ti ((psg h).length+1) (psg h) 0:List Pg) (fun (p:Pg) (t:Int)=>r111 p t h)).1),0,?_,?_,?_,?_,?_,?_,?_,?_,b51,g51,Nat.le_refl _,o43_53,o43_54,rfl⟩<;>first|(simp only [SY,eq_self,Nat.reduceBEq]<;>rfl)|omega|assumption|assumption|exact Mx.of (by assumption)|exact Mx.set (by assumption) _ (by omega)|(simp; omega)|simp) (by
     rintro m t S56 ⟨tms,rv,hi56_0,hi56_1,hi56_2,hi56_3,g56_13,g56_63,g56_64,g56_65,bb56_37,ga56,gn56,ow_tms,cw56_0,hd56⟩
     refine .run fun z he=>?_
     try simp (disch:=first|omega|assumption) only [E0_G,SY,off,agreeKind,Nat.reduceLT,Nat.reduceBEq,g56_64,g56_65] at he
     rcases dP ((rv:Int)<(((r109 h.rooms.length fr (r110 ti) (R43_0 h fr ti ((psg h).length+1) (psg h) 0:List Pg) (fun (p:Pg) (t:Int)=>r111 p t h)).1).length:Int)) with ⟨h57a,h57⟩|⟨h57a,h57⟩
     ·have hx58:tms[rv]?=some (lget tms rv):=lget_some (by first|omega|simp; omega)
      have eb59:=Mx.at (by assumption:Mx h.rooms.length tms) hx58
      obtain ⟨id58,of58,cc58,ty58,wr58,ex58,i58,j58,l58,q58,lb58,bk58,oq58⟩:=ow_tms.at4 (P:=Tryz.prog) (t:=54) Tryz.underlying54 tz3 hx58
      have m58_0:cc58[of58]?=some (.int .i64 (lget tms rv)):=q58 0 (show 0<1 by decide)
      try simp (disch:=first|omega|assumption) only [E0_G,SY,off,agreeKind,ldA,aggD,Nat.reduceAdd,Nat.reduceLT,Nat.reduceBEq,TY_EvH27,g56_63,g56_65,h57a,i58,j58,m58_0] at he
      rw [code_draws _ _ _ (by kernel_rfl)] at he
      generalize hnd60:needy _=nd60 at he
      have nn60_6:nd60 6=false:=by rw [← hnd60]; kernel_rfl
      obtain ⟨S61,k61,a61⟩:=c110 (lget tms rv) (by omega) S56
      have l61:=a61.1
      have s61:E0.same S56 S61=true:=symEnv_same a61
      have v37_61:=(a61.2 S34.next (by omega)).trans bb56_37
      have ow_62:=ow_tms.agree a61
      have ocw56_63:=cw56_0.agree a61
      have g61:Agree S S61:=ga56.trans a61
      have p61:=(show r110 (lget tms rv)=1073741823 - (lget tms rv) from rfl)
      have eb65:=Mx.at (by assumption:Mx h.rooms.length tms) hx58
      obtain ⟨id64,of64,cc64,ty64,wr64,ex64,i64,j64,l64,q64,lb64,bk64,oq64⟩:=ow_62.at4 (P:=Tryz.prog) (t:=54) Tryz.underlying54 tz3 hx58
      obtain rfl:id58=id64:=Option.some.inj (bk58.symm.trans bk64)
      obtain rfl:of58=of64:=oq58.trans oq64.symm
      have m64_0:cc64[of58]?=some (.int .i64 (lget tms rv)):=q64 0 (show 0<1 by decide)
      obtain ⟨S66,k66,n66,o66,q66⟩:=ow_62.put1 (P:=Tryz.prog) (lget_some (l:=tms) (by first|omega|simp; omega)) bk64 oq64 3 (.int .i64 (r110 (lget tms rv))) 0 (r110 (lget tms rv)) tz3 rfl rfl (by decide) rfl
      replace k66:stA Tryz.prog 3 ⟨id58,of58,none⟩ (.int .i64 (r110 (lget tms rv))) S61=some S66:=k66
      have v37_66:=(q66 S34.next (fun e=>(show blkOf (.slice pu43_0 nu43_0 cu43_0)≠some S34.next from by first|exact ow_62.ne (by omega)|exact ow_62.new (by omega)|assumption) (e ▸ bk64))).trans v37_61
      have ocw56_67:=ocw56_63.frame (by omega) (fun id hid hb=>q66 id (fun e=>(fun b h1 h2=>ab43_0_1 b h2 h1) id hb (e ▸ bk64)))
      have g66:Agree S S66:=⟨by have:=(g61).1; omega,fun id hid=>(q66 id (fun e=>(show blkOf (.slice pu43_0 nu43_0 cu43_0)≠some id from ow_62.ne (by omega)) (e ▸ bk64))).trans ((g61).2 id hid)⟩
      have w68:IntKind.i64.wrap ((rv:Int)+1)=((rv+1:Nat):Int):=by rw [IntWalk.i64_in]<;>omega
      try simp (disch:=first|omega|assumption) only [E0_G,SY,off,agreeKind,vals,ldA,aggD,aField,Nat.reduceAdd,Nat.reduceLT,Nat.reduceBEq,TY_EvH27,g56_13,g56_65,bb56_37,i58,nn60_6,store_agree,store_refl E0_same,k61,k66,w68] at he
      obtain ⟨m',rfl⟩:∃ m',m=m'+1:=⟨m - 1,by omega⟩
      have hf:=(show _=(R43_1 h fr ti m' (tms.set rv (r110 (lget tms rv))) (rv+1):(List Int)) from (if_pos h57).trans (rfl)).symm.trans hd56
      refine .next he m' (by omega) ⟨tms.set rv (r110 (lget tms rv)),(rv+1),?_,?_,?_,?_,?_,?_,?_,?_,v37_66,g66,by omega,o66,ocw56_67,hf⟩<;>first|(simp only [SY,eq_self,Nat.reduceBEq,g56_13,g56_63,g56_64,g56_65]<;>rfl)|omega|assumption|assumption|exact Mx.of (by assumption)|exact Mx.set (by assumption) _ (by omega)|(simp; omega)|simp
     try simp (disch:=first|omega|assumption) only [SY,h57a] at he
     obtain ⟨m',rfl⟩:∃ m',m=m'+1:=⟨m - 1,by omega⟩
     have hf:=(show _=(tms:(List Int)) from (if_neg h57).trans (rfl)).symm.trans hd56
     refine .exit he ⟨rfl,⟨tms,rv,?_,bb56_37,ga56,by omega,ow_tms,cw56_0,?_,?_,?_,hf.symm⟩⟩<;>first|(simp only [SY,eq_self,Nat.reduceBEq,g56_13]<;>rfl)|omega|assumption|assumption|exact Mx.of (by assumption)|exact Mx.set (by assumption) _ (by omega)|(simp; omega)|simp)
   obtain ⟨rfl,tms,rv,ge56_13,be56_37,ge56,gm56,oe_tms56,ce56_0,hj56_0,hj56_1,hj56_2,hR56⟩:=hQ56
   obtain rfl:tms=R43_1 h fr ti (h.rooms.length+1) ((r109 h.rooms.length fr (r110 ti) (R43_0 h fr ti ((psg h).length+1) (psg h) 0:List Pg) (fun (p:Pg) (t:Int)=>r111 p t h)).1) 0:=hR56.symm
   try simp (disch:=first|omega|assumption) only [E0_G,SY,off,agreeKind,ldA,aggD,aField,eq_self,if_true,Nat.reduceAdd,Nat.reduceLT,Nat.reduceBEq,TY_EvH27,ge56_13,be56_37] at hz
   have hr:r43 h fr ti=(R43_1 h fr ti (h.rooms.length+1) ((r109 h.rooms.length fr (r110 ti) (R43_0 h fr ti ((psg h).length+1) (psg h) 0:List Pg) (fun (p:Pg) (t:Int)=>r111 p t h)).1) 0,0):=(if_pos h4).trans ((if_pos h8).trans (rfl))
   exact ⟨.slice pu43_0 nu43_0 cu43_0,S56e,by first|(rw [hr]; exact hz.symm)|exact hz.symm,ge56,by rw [hr]; exact oe_tms56.low (by omega)⟩
  try simp (disch:=first|omega|assumption) only [E0_G,SY,off,agreeKind,Nat.reduceAdd,Nat.reduceLT,Nat.reduceBEq,store_refl E0_same,h8a] at hz
  have hr:r43 h fr ti=([],(r84 h (r88 ti))):=(if_pos h4).trans ((if_neg h8).trans (rfl))
  exact ⟨.slice none 0 0,S7,by first|(rw [hr]; exact hz.symm)|exact hz.symm,g7,by rw [hr]; exact Own.nil _ _ _⟩
 obtain ⟨S70,k70,a70⟩:=c84 h false hF hs S3 (v_h_rooms) (hv_h_rooms.agree g3) (v_h_doors) (hv_h_doors.agree g3) (v_h_ways) (hv_h_ways.agree g3)
 have l70:=a70.1
 have s70:E0.same S3 S70=true:=symEnv_same a70
 have g70:Agree S S70:=g3.trans a70
 try simp (disch:=first|omega|assumption) only [E0_G,SY,off,agreeKind,vals,Nat.reduceAdd,Nat.reduceLT,Nat.reduceBEq,store_agree,store_refl E0_same,h4a,k70] at hz
 have h71:¬ ((r84 h false)=0):=r84_false
 have h71a:=decide_eq_false h71
 try simp (disch:=first|omega|assumption) only [E0_G,SY,off,agreeKind,Nat.reduceAdd,Nat.reduceLT,Nat.reduceBEq,store_refl E0_same,h71a] at hz
 have hr:r43 h fr ti=([],(r84 h false)):=(if_neg h4).trans (rfl)
 exact ⟨.slice none 0 0,S70,by first|(rw [hr]; exact hz.symm)|exact hz.symm,g70,by rw [hr]; exact Own.nil _ _ _⟩
end House
end Go.Proofs
end
