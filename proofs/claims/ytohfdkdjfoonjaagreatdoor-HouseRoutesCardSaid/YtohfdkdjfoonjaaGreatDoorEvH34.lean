import Derived.Test.YtohfdkdjfoonjaaGreatDoorEvH33
set_option linter.unusedSimpArgs false
set_option linter.unusedVariables false
namespace Go.Proofs
namespace House
open Go Go.RowKit Go.Aev
set_option maxRecDepth 100000
theorem TY_EvH34:type_of% (And.intro (And.intro (And.intro (And.intro (And.intro (And.intro (And.intro Tryz.underlying3 tz3) (And.intro tt3 (And.intro t0_3 Tryz.underlying4))) (And.intro (And.intro tz4 tt4) (And.intro t0_4 (And.intro Tryz.underlying9 tz9)))) (And.intro (And.intro (And.intro tt9 t0_9) (And.intro Tryz.underlying22 (And.intro tz22 tt22))) (And.intro (And.intro t0_22 (And.intro Tryz.underlying23 tz23)) (And.intro tt23 (And.intro t0_23 Tryz.underlying24))))) (And.intro (And.intro (And.intro (And.intro tz24 tt24) (And.intro t0_24 (And.intro Tryz.underlying25 tz25))) (And.intro (And.intro tt25 t0_25) (And.intro Tryz.underlying26 (And.intro tz26 tt26)))) (And.intro (And.intro (And.intro t0_26 Tryz.underlying29) (And.intro tz29 (And.intro tt29 t0_29))) (And.intro (And.intro Tryz.underlying35 (And.intro tz35 tt35)) (And.intro t0_35 (And.intro Tryz.underlying36 tz36)))))) (And.intro (And.intro (And.intro (And.intro (And.intro tt36 t0_36) (And.intro Tryz.underlying40 (And.intro tz40 tt40))) (And.intro (And.intro t0_40 Tryz.underlying47) (And.intro tz47 (And.intro tt47 t0_47)))) (And.intro (And.intro (And.intro Tryz.underlying50 tz50) (And.intro tt50 (And.intro t0_50 Tryz.underlying51))) (And.intro (And.intro tz51 (And.intro tt51 t0_51)) (And.intro Tryz.underlying54 (And.intro tz54 tt54))))) (And.intro (And.intro (And.intro (And.intro t0_54 Tryz.underlying57) (And.intro tz57 (And.intro tt57 t0_57))) (And.intro (And.intro Tryz.underlying58 tz58) (And.intro tt58 (And.intro t0_58 Tryz.underlying91)))) (And.intro (And.intro (And.intro tz91 tt91) (And.intro t0_91 (And.intro Tryz.underlying92 tz92))) (And.intro (And.intro tt92 (And.intro t0_92 Tryz.underlying93)) (And.intro tz93 (And.intro tt93 t0_93))))))) (And.intro (And.intro (And.intro (And.intro (And.intro (And.intro Tryz.underlying94 tz94) (And.intro tt94 (And.intro t0_94 Tryz.underlying97))) (And.intro (And.intro tz97 tt97) (And.intro t0_97 (And.intro Tryz.underlying98 tz98)))) (And.intro (And.intro (And.intro tt98 t0_98) (And.intro Tryz.underlying109 (And.intro tz109 tt109))) (And.intro (And.intro t0_109 (And.intro Tryz.underlying110 tz110)) (And.intro tt110 (And.intro t0_110 Tryz.underlying113))))) (And.intro (And.intro (And.intro (And.intro tz113 tt113) (And.intro t0_113 (And.intro Tryz.underlying124 tz124))) (And.intro (And.intro tt124 t0_124) (And.intro Tryz.underlying125 (And.intro tz125 tt125)))) (And.intro (And.intro (And.intro t0_125 Tryz.underlying127) (And.intro tz127 (And.intro tt127 t0_127))) (And.intro (And.intro Tryz.underlying128 (And.intro tz128 tt128)) (And.intro t0_128 (And.intro Tryz.underlying134 tz134)))))) (And.intro (And.intro (And.intro (And.intro (And.intro tt134 t0_134) (And.intro Tryz.underlying136 (And.intro tz136 tt136))) (And.intro (And.intro t0_136 Tryz.underlying137) (And.intro tz137 (And.intro tt137 t0_137)))) (And.intro (And.intro (And.intro Tryz.underlying141 tz141) (And.intro tt141 (And.intro t0_141 Tryz.underlying142))) (And.intro (And.intro tz142 (And.intro tt142 t0_142)) (And.intro Tryz.underlying148 (And.intro tz148 tt148))))) (And.intro (And.intro (And.intro (And.intro t0_148 Tryz.underlying149) (And.intro tz149 (And.intro tt149 t0_149))) (And.intro (And.intro Tryz.underlying154 tz154) (And.intro tt154 (And.intro t0_154 Tryz.underlying168)))) (And.intro (And.intro (And.intro tz168 tt168) (And.intro t0_168 (And.intro Tryz.underlying204 tz204))) (And.intro (And.intro tt204 (And.intro t0_204 Tryz.underlying207)) (And.intro tz207 (And.intro tt207 t0_207)))))))):=(And.intro (And.intro (And.intro (And.intro (And.intro (And.intro (And.intro Tryz.underlying3 tz3) (And.intro tt3 (And.intro t0_3 Tryz.underlying4))) (And.intro (And.intro tz4 tt4) (And.intro t0_4 (And.intro Tryz.underlying9 tz9)))) (And.intro (And.intro (And.intro tt9 t0_9) (And.intro Tryz.underlying22 (And.intro tz22 tt22))) (And.intro (And.intro t0_22 (And.intro Tryz.underlying23 tz23)) (And.intro tt23 (And.intro t0_23 Tryz.underlying24))))) (And.intro (And.intro (And.intro (And.intro tz24 tt24) (And.intro t0_24 (And.intro Tryz.underlying25 tz25))) (And.intro (And.intro tt25 t0_25) (And.intro Tryz.underlying26 (And.intro tz26 tt26)))) (And.intro (And.intro (And.intro t0_26 Tryz.underlying29) (And.intro tz29 (And.intro tt29 t0_29))) (And.intro (And.intro Tryz.underlying35 (And.intro tz35 tt35)) (And.intro t0_35 (And.intro Tryz.underlying36 tz36)))))) (And.intro (And.intro (And.intro (And.intro (And.intro tt36 t0_36) (And.intro Tryz.underlying40 (And.intro tz40 tt40))) (And.intro (And.intro t0_40 Tryz.underlying47) (And.intro tz47 (And.intro tt47 t0_47)))) (And.intro (And.intro (And.intro Tryz.underlying50 tz50) (And.intro tt50 (And.intro t0_50 Tryz.underlying51))) (And.intro (And.intro tz51 (And.intro tt51 t0_51)) (And.intro Tryz.underlying54 (And.intro tz54 tt54))))) (And.intro (And.intro (And.intro (And.intro t0_54 Tryz.underlying57) (And.intro tz57 (And.intro tt57 t0_57))) (And.intro (And.intro Tryz.underlying58 tz58) (And.intro tt58 (And.intro t0_58 Tryz.underlying91)))) (And.intro (And.intro (And.intro tz91 tt91) (And.intro t0_91 (And.intro Tryz.underlying92 tz92))) (And.intro (And.intro tt92 (And.intro t0_92 Tryz.underlying93)) (And.intro tz93 (And.intro tt93 t0_93))))))) (And.intro (And.intro (And.intro (And.intro (And.intro (And.intro Tryz.underlying94 tz94) (And.intro tt94 (And.intro t0_94 Tryz.underlying97))) (And.intro (And.intro tz97 tt97) (And.intro t0_97 (And.intro Tryz.underlying98 tz98)))) (And.intro (And.intro (And.intro tt98 t0_98) (And.intro Tryz.underlying109 (And.intro tz109 tt109))) (And.intro (And.intro t0_109 (And.intro Tryz.underlying110 tz110)) (And.intro tt110 (And.intro t0_110 Tryz.underlying113))))) (And.intro (And.intro (And.intro (And.intro tz113 tt113) (And.intro t0_113 (And.intro Tryz.underlying124 tz124))) (And.intro (And.intro tt124 t0_124) (And.intro Tryz.underlying125 (And.intro tz125 tt125)))) (And.intro (And.intro (And.intro t0_125 Tryz.underlying127) (And.intro tz127 (And.intro tt127 t0_127))) (And.intro (And.intro Tryz.underlying128 (And.intro tz128 tt128)) (And.intro t0_128 (And.intro Tryz.underlying134 tz134)))))) (And.intro (And.intro (And.intro (And.intro (And.intro tt134 t0_134) (And.intro Tryz.underlying136 (And.intro tz136 tt136))) (And.intro (And.intro t0_136 Tryz.underlying137) (And.intro tz137 (And.intro tt137 t0_137)))) (And.intro (And.intro (And.intro Tryz.underlying141 tz141) (And.intro tt141 (And.intro t0_141 Tryz.underlying142))) (And.intro (And.intro tz142 (And.intro tt142 t0_142)) (And.intro Tryz.underlying148 (And.intro tz148 tt148))))) (And.intro (And.intro (And.intro (And.intro t0_148 Tryz.underlying149) (And.intro tz149 (And.intro tt149 t0_149))) (And.intro (And.intro Tryz.underlying154 tz154) (And.intro tt154 (And.intro t0_154 Tryz.underlying168)))) (And.intro (And.intro (And.intro tz168 tt168) (And.intro t0_168 (And.intro Tryz.underlying204 tz204))) (And.intro (And.intro tt204 (And.intro t0_204 Tryz.underlying207)) (And.intro tz207 (And.intro tt207 t0_207))))))))
theorem trees (h:Hs) (fr ti:Int):∃ rk:Nat→Nat,r59 h=0→0≤fr∧fr<(h.rooms.length:Int)→0≤ti∧ti≤1073741823→Trees h.rooms.length fr ti (psg h) (fun p t=>r145 p t h) (r114 h fr ti).1.1 (r114 h fr ti).1.2 rk:=by
 by_cases c:r59 h=0∧(0≤fr∧fr<(h.rooms.length:Int))∧0≤ti∧ti≤1073741823
 ·obtain ⟨rk,hT⟩:=tree (crs c.1) c.2.1 c.2.2
  exact ⟨rk,fun _ _ _=>hT⟩
 ·exact ⟨fun _=>0,fun a b d=>absurd ⟨a,b,d⟩ c⟩
theorem hop {h:Hs} {fr ti now:Int} {rk:Nat→Nat} (hV:r59 h=0) (hR:Trees h.rooms.length fr ti (psg h) (fun p t=>r145 p t h) (r114 h fr ti).1.1 (r114 h fr ti).1.2 rk) (hf:0≤fr) (ht:0≤ti) (h0:0≤now∧now<(h.rooms.length:Int)) (hne:now≠fr) (hi:lget (r114 h fr ti).1.1 now.toNat≤1073741823) :
  (0≤lget (r114 h fr ti).1.2 now.toNat∧lget (r114 h fr ti).1.2 now.toNat<((r114 h fr ti).2.length:Int)) ∧
  OkQ h (lget ((r114 h fr ti).2) (lget (r114 h fr ti).1.2 now.toNat).toNat)∧(lget ((r114 h fr ti).2) (lget (r114 h fr ti).1.2 now.toNat).toNat) ∈ psg h ∧
  (0≤(lget ((r114 h fr ti).2) (lget (r114 h fr ti).1.2 now.toNat).toNat).fr∧(lget ((r114 h fr ti).2) (lget (r114 h fr ti).1.2 now.toNat).toNat).fr<(h.rooms.length:Int)) ∧
  (0≤(lget ((r114 h fr ti).2) (lget (r114 h fr ti).1.2 now.toNat).toNat).secs∧(lget ((r114 h fr ti).2) (lget (r114 h fr ti).1.2 now.toNat).toNat).secs≤3600) ∧
  (lget ((r114 h fr ti).2) (lget (r114 h fr ti).1.2 now.toNat).toNat).to=now ∧
  lget (r114 h fr ti).1.1 now.toNat=r145 (lget ((r114 h fr ti).2) (lget (r114 h fr ti).1.2 now.toNat).toNat) (lget (r114 h fr ti).1.1 (lget ((r114 h fr ti).2) (lget (r114 h fr ti).1.2 now.toNat).toNat).fr.toNat) h ∧
  (0≤lget (r114 h fr ti).1.1 (lget ((r114 h fr ti).2) (lget (r114 h fr ti).1.2 now.toNat).toNat).fr.toNat∧lget (r114 h fr ti).1.1 (lget ((r114 h fr ti).2) (lget (r114 h fr ti).1.2 now.toNat).toNat).fr.toNat≤1073741823) ∧
  rk (lget ((r114 h fr ti).2) (lget (r114 h fr ti).1.2 now.toNat).toNat).fr.toNat<rk now.toNat∧ti≤lget (r114 h fr ti).1.1 now.toNat:=by
 obtain ⟨k,p,e1,e2,e3,e4,e5,e6⟩:=hR.ed now.toNat (by omega) (by omega) hi
 have hk:=(List.getElem?_eq_some_iff.1 e2).1
 have ep:lget ((r114 h fr ti).2) (lget (r114 h fr ti).1.2 now.toNat).toNat=p:=by rw [e1]; exact lget_of (l:=(r114 h fr ti).2) e2
 have hk2:k<(r114 h fr ti).2.length:=hk
 have q:=psg_ok hV (List.mem_of_getElem? e2)
 have qs:=q.ok.s; have qf:=q.f; have qt:=q.t
 rw [ep]
 refine ⟨by rw [e1]; omega,q,List.mem_of_getElem? e2,q.f,qs,by omega,e4,⟨?_,e5⟩,e6,hR.lo _ (by omega)⟩
 have:=hR.lo p.fr.toNat (by omega)
 omega
theorem r114_tm {h:Hs} (hV:r59 h=0) {fr ti:Int} (ht:0≤ti∧ti≤1073741823):Tm h.rooms.length (r114 h fr ti).1.1:=(r109_tm (rooms:=h.rooms.length) (fr:=fr) ht (psg_hg hV)).1
theorem r114_len {h:Hs} (hV:r59 h=0) {fr ti:Int} (ht:0≤ti∧ti≤1073741823):(r114 h fr ti).1.1.length=h.rooms.length∧(r114 h fr ti).1.2.length=h.rooms.length∧(r114 h fr ti).2=psg h :=
 ⟨(r109_tm (rooms:=h.rooms.length) (fr:=fr) ht (psg_hg hV)).1.len,(r109_tm (rooms:=h.rooms.length) (fr:=fr) ht (psg_hg hV)).2,rfl⟩
def R48_0 (h:Hs) (fr:Int) (ti:Int) (to_:Int)  : Nat→List Stp→Int→(List Stp)
 | 0,steps,now=>steps
 | m'+1,steps,now=>(if now=fr then steps else R48_0 h fr ti to_ m' (steps++([(⟨(lget ((r114 h fr ti).2) (Int.toNat (lget ((r114 h fr ti).1.2) (Int.toNat now)))).way,(lget ((r114 h fr ti).2) (Int.toNat (lget ((r114 h fr ti).1.2) (Int.toNat now)))).back,(lget ((r114 h fr ti).1.1) (Int.toNat now)) - ((lget ((r114 h fr ti).2) (Int.toNat (lget ((r114 h fr ti).1.2) (Int.toNat now)))).secs)⟩:Stp)])) ((lget ((r114 h fr ti).2) (Int.toNat (lget ((r114 h fr ti).1.2) (Int.toNat now)))).fr))
def r48 (h:Hs) (fr:Int) (ti:Int) (to_:Int):List Stp × Int:=(if (r102 h fr)=true then (if (r88 ti)=true then (if (r84 h (r102 h to_))=0 then (if (lget ((r114 h fr ti).1.1) (Int.toNat to_))=1073741824 then ([],5) else ((R48_0 h fr ti to_ (h.rooms.length+1) ([]) to_).reverse,0)) else ([],(r84 h (r102 h to_)))) else ([],(r84 h false))) else ([],(r84 h false)))
set_option maxHeartbeats 8000000 in
theorem c48 (h:Hs) (fr:Int) (ti:Int) (to_:Int) (hF:Few h) (hs:∀ x ∈ h.rooms,x.name.size≤9223372036854775807) (rk:Nat→Nat) (hT:r59 h=0→0≤fr∧fr<(h.rooms.length:Int)→0≤ti∧ti≤1073741823→Trees h.rooms.length fr ti (psg h) (fun p t=>r145 p t h) (r114 h fr ti).1.1 (r114 h fr ti).1.2 rk) (S:AS) (v_h_rooms:Value) (hv_h_rooms:LstR S v_h_rooms h.rooms) (v_h_doors:Value) (hv_h_doors:LstR S v_h_doors h.doors) (v_h_ways:Value) (hv_h_ways:Lst S v_h_ways h.ways) :
  ∃ v' S',(evL Tryz.prog E0).call 48 #[.agg #[v_h_rooms,v_h_doors,v_h_ways],.int .i64 fr,.int .i64 ti,.int .i64 to_] S=some (.tuple #[v',.int .i64 (r48 h fr ti to_).2],S')∧Agree S S'∧Own 94 S.next S' v' (r48 h fr ti to_).1:=by
 have qr:=hF.r; have qd:=hF.d; have qw:=hF.w
 generalize hz:(evL Tryz.prog E0).call 48 _ _=z
 rw [L_call,evCall_said rfl Tryz.func48 rfl (by decide) Tryz.ntmps48 Tryz.results48] at hz
 obtain ⟨S1,e1,n1,b1,a1⟩:=push_open S (.cells [v_h_rooms,v_h_doors,v_h_ways] 26 0 true true)
 have g1:Agree S S1:=a1
 have s1:E0.same S S1=true:=symEnv_same a1
 try simp (disch:=first|omega|assumption) only [E0_G,SY,setArgs,off,agreeKind,partVals,vals,allocV,boxed,ldA,rdCells,oneB,aggD,aField,aFieldV,aExtract,eq_self,ne_eq,if_true,if_false,not_false_eq_true,Nat.reduceAdd,Nat.reduceSub,Nat.reduceMul,Nat.reduceLT,Nat.reduceEqDiff,Nat.reduceBEq,reduceIte,Int.reduceEq,Int.reduceLT,Int.reduceLE,reduceCtorEq,TY_EvH34,s1,e1,b1] at hz
 rw [code_draws _ _ _ (by kernel_rfl)] at hz
 generalize hnd2:needy _=nd2 at hz
 obtain ⟨S3,k3,a3⟩:=c102 h fr  S1 (v_h_rooms) (hv_h_rooms.agree g1) (v_h_doors) (hv_h_doors.agree g1) (v_h_ways) (hv_h_ways.agree g1)
 have l3:=a3.1
 have s3:E0.same S1 S3=true:=symEnv_same a3
 have v1_3:=(a3.2 S.next (by omega)).trans b1
 have g3:Agree S S3:=g1.trans a3
 try simp (disch:=first|omega|assumption) only [E0_G,SY,setArgs,off,agreeKind,partVals,vals,allocV,boxed,ldA,rdCells,oneB,aggD,aField,aFieldV,aExtract,eq_self,ne_eq,if_true,if_false,not_false_eq_true,Nat.reduceAdd,Nat.reduceSub,Nat.reduceMul,Nat.reduceLT,Nat.reduceEqDiff,Nat.reduceBEq,reduceIte,Int.reduceEq,Int.reduceLT,Int.reduceLE,reduceCtorEq,TY_EvH34,s1,e1,b1,store_agree,store_refl E0_same,k3,s3,v1_3] at hz
 rcases dB ((r102 h fr)) with ⟨h4a,h4⟩|⟨h4a,h4⟩
 ·skip
  have lq5:=r102_iff.1 h4
  obtain ⟨S6,k6,a6⟩:=c88 ti  S3
  have l6:=a6.1
  have s6:E0.same S3 S6=true:=symEnv_same a6
  have v1_6:=(a6.2 S.next (by omega)).trans v1_3
  have g6:Agree S S6:=g3.trans a6
  try simp (disch:=first|omega|assumption) only [E0_G,SY,setArgs,off,agreeKind,partVals,vals,allocV,boxed,ldA,rdCells,oneB,aggD,aField,aFieldV,aExtract,eq_self,ne_eq,if_true,if_false,not_false_eq_true,Nat.reduceAdd,Nat.reduceSub,Nat.reduceMul,Nat.reduceLT,Nat.reduceEqDiff,Nat.reduceBEq,reduceIte,Int.reduceEq,Int.reduceLT,Int.reduceLE,reduceCtorEq,TY_EvH34,s1,e1,b1,store_agree,store_refl E0_same,k3,s3,v1_3,h4a,k6,s6,v1_6] at hz
  rcases dB ((r88 ti)) with ⟨h7a,h7⟩|⟨h7a,h7⟩
  ·skip
   have lq8:=r88_iff.1 h7
   obtain ⟨S9,k9,a9⟩:=c102 h to_  S6 (v_h_rooms) (hv_h_rooms.agree g6) (v_h_doors) (hv_h_doors.agree g6) (v_h_ways) (hv_h_ways.agree g6)
   have l9:=a9.1
   have s9:E0.same S6 S9=true:=symEnv_same a9
   have v1_9:=(a9.2 S.next (by omega)).trans v1_6
   have g9:Agree S S9:=g6.trans a9
   obtain ⟨S10,k10,a10⟩:=c84 h (r102 h to_) hF hs S9 (v_h_rooms) (hv_h_rooms.agree g9) (v_h_doors) (hv_h_doors.agree g9) (v_h_ways) (hv_h_ways.agree g9)
   have l10:=a10.1
   have s10:E0.same S9 S10=true:=symEnv_same a10
   have v1_10:=(a10.2 S.next (by omega)).trans v1_9
   have g10:Agree S S10:=g9.trans a10
   try simp (disch:=first|omega|assumption) only [E0_G,SY,setArgs,off,agreeKind,partVals,vals,allocV,boxed,ldA,rdCells,oneB,aggD,aField,aFieldV,aExtract,eq_self,ne_eq,if_true,if_false,not_false_eq_true,Nat.reduceAdd,Nat.reduceSub,Nat.reduceMul,Nat.reduceLT,Nat.reduceEqDiff,Nat.reduceBEq,reduceIte,Int.reduceEq,Int.reduceLT,Int.reduceLE,reduceCtorEq,TY_EvH34,s1,e1,b1,store_agree,store_refl E0_same,k3,s3,v1_3,h4a,k6,s6,v1_6,h7a,k9,s9,v1_9,k10,s10,v1_10] at hz
   rcases dP ((r84 h (r102 h to_))=0) with ⟨h11a,h11⟩|⟨h11a,h11⟩
   ·skip
    have hV:=(r84_ok h11).1
    have lq12:=r102_iff.1 (r84_ok h11).2
    obtain ⟨u13_0,u13_1,u13_2,S13,k13,a13,oo13_0,oo13_1,oo13_2,ab13_0_1,ab13_0_2,ab13_1_2⟩:=c114 h fr ti hF hV (by omega) (by omega) S10 (v_h_rooms) (hv_h_rooms.agree g10) (v_h_doors) (hv_h_doors.agree g10) (v_h_ways) (hv_h_ways.agree g10)
    obtain ⟨pu13_0,nu13_0,cu13_0,rfl⟩:=own_slice oo13_0
    obtain ⟨pu13_1,nu13_1,cu13_1,rfl⟩:=own_slice oo13_1
    obtain ⟨pu13_2,nu13_2,cu13_2,rfl⟩:=own_slice oo13_2
    have l13:=a13.1
    have s13:E0.same S10 S13=true:=symEnv_same a13
    have v1_13:=(a13.2 S.next (by omega)).trans v1_10
    have g13:Agree S S13:=g10.trans a13
    have p13:=r114_len hV (fr:=fr) (ti:=ti) (by omega)
    obtain ⟨S14,e14,n14,b14,a14⟩:=push_open S13 (.cells [.slice none 0 0,.slice none 0 0] 142 0 true true)
    have v1_14:=(a14.2 S.next (by omega)).trans v1_13
    have o13_15:=oo13_0.agree a14
    have o13_16:=oo13_1.agree a14
    have o13_17:=oo13_2.agree a14
    have g14:Agree S S14:=g13.trans a14
    have s14:E0.same S13 S14=true:=symEnv_same a14
    have ne18:blkOf (.slice pu13_0 nu13_0 cu13_0)≠some S13.next:=oo13_0.new (Nat.le_refl _)
    have ne19:blkOf (.slice pu13_1 nu13_1 cu13_1)≠some S13.next:=oo13_1.new (Nat.le_refl _)
    have ne20:blkOf (.slice pu13_2 nu13_2 cu13_2)≠some S13.next:=oo13_2.new (Nat.le_refl _)
    obtain ⟨S21,k21,n21,b21,q21⟩:=st_at (o:=0) (c':=[.slice pu13_0 nu13_0 cu13_0,.slice pu13_1 nu13_1 cu13_1]) (v:=.agg #[.slice pu13_0 nu13_0 cu13_0,.slice pu13_1 nu13_1 cu13_1]) tz142 b14 rfl rfl (show 0+2≤2 by decide) rfl
    have v1_21:=(q21 S.next (by omega)).trans v1_14
    have o13_22:=o13_15.frame (by omega) (fun id hid hb=>q21 id (fun e=>(show blkOf (.slice pu13_0 nu13_0 cu13_0)≠some S13.next from by first|exact o13_15.ne (by omega)|exact o13_15.new (by omega)|assumption) (e ▸ hb)))
    have o13_23:=o13_16.frame (by omega) (fun id hid hb=>q21 id (fun e=>(show blkOf (.slice pu13_1 nu13_1 cu13_1)≠some S13.next from by first|exact o13_16.ne (by omega)|exact o13_16.new (by omega)|assumption) (e ▸ hb)))
    have o13_24:=o13_17.frame (by omega) (fun id hid hb=>q21 id (fun e=>(show blkOf (.slice pu13_2 nu13_2 cu13_2)≠some S13.next from by first|exact o13_17.ne (by omega)|exact o13_17.new (by omega)|assumption) (e ▸ hb)))
    have g21:Agree S S21:=⟨by have:=(g14).1; omega,fun id hid=>(q21 id (by have:=(g14).1; omega)).trans ((g14).2 id hid)⟩
    have qz25:((Int.toNat to_:Nat):Int)=to_:=Int.toNat_of_nonneg (by first|omega|simp; omega)
    have hx26:((r114 h fr ti).1.1)[(Int.toNat to_)]?=some (lget ((r114 h fr ti).1.1) (Int.toNat to_)):=lget_some (by first|omega|simp; omega)
    have eb27:=(r114_tm hV (fr:=fr) (ti:=ti) (by omega)).at hx26
    obtain ⟨id26,of26,cc26,ty26,wr26,ex26,i26,j26,l26,q26,lb26,bk26,oq26⟩:=o13_22.at4 (P:=Tryz.prog) (t:=54) Tryz.underlying54 tz3 hx26
    have m26_0:cc26[of26]?=some (.int .i64 (lget ((r114 h fr ti).1.1) (Int.toNat to_))):=q26 0 (show 0<1 by decide)
    rw [qz25] at i26
    try simp (disch:=first|omega|assumption) only [E0_G,SY,setArgs,off,agreeKind,partVals,vals,allocV,boxed,ldA,rdCells,oneB,aggD,aField,aFieldV,aExtract,eq_self,ne_eq,if_true,if_false,not_false_eq_true,Nat.reduceAdd,Nat.reduceSub,Nat.reduceMul,Nat.reduceLT,Nat.reduceEqDiff,Nat.reduceBEq,reduceIte,Int.reduceEq,Int.reduceLT,Int.reduceLE,reduceCtorEq,TY_EvH34,s1,e1,b1,store_agree,store_refl E0_same,k3,s3,v1_3,h4a,k6,s6,v1_6,h7a,k9,s9,v1_9,k10,s10,v1_10,h11a,k13,s13,v1_13,v1_14,s14,e14,b14,v1_21,k21,b21,i26,j26,m26_0] at hz
    rcases dP ((lget ((r114 h fr ti).1.1) (Int.toNat to_))=1073741824) with ⟨h28a,h28⟩|⟨h28a,h28⟩
    ·skip
     try simp (disch:=first|omega|assumption) only [E0_G,SY,setArgs,off,agreeKind,partVals,vals,allocV,boxed,ldA,rdCells,oneB,aggD,aField,aFieldV,aExtract,eq_self,ne_eq,if_true,if_false,not_false_eq_true,Nat.reduceAdd,Nat.reduceSub,Nat.reduceMul,Nat.reduceLT,Nat.reduceEqDiff,Nat.reduceBEq,reduceIte,Int.reduceEq,Int.reduceLT,Int.reduceLE,reduceCtorEq,TY_EvH34,s1,e1,b1,store_agree,store_refl E0_same,k3,s3,v1_3,h4a,k6,s6,v1_6,h7a,k9,s9,v1_9,k10,s10,v1_10,h11a,k13,s13,v1_13,v1_14,s14,e14,b14,v1_21,k21,b21,i26,j26,m26_0,h28a] at hz
     have hr:r48 h fr ti to_=([],5):=(if_pos h4).trans ((if_pos h7).trans ((if_pos h11).trans ((if_pos h28).trans (rfl))))
     exact ⟨.slice none 0 0,S21,by first|(rw [hr]; exact hz.symm)|exact hz.symm,g21,by rw [hr]; exact Own.nil _ _ _⟩
    ·skip
     try simp (disch:=first|omega|assumption) only [E0_G,SY,setArgs,off,agreeKind,partVals,vals,allocV,boxed,ldA,rdCells,oneB,aggD,aField,aFieldV,aExtract,eq_self,ne_eq,if_true,if_false,not_false_eq_true,Nat.reduceAdd,Nat.reduceSub,Nat.reduceMul,Nat.reduceLT,Nat.reduceEqDiff,Nat.reduceBEq,reduceIte,Int.reduceEq,Int.reduceLT,Int.reduceLE,reduceCtorEq,TY_EvH34,s1,e1,b1,store_agree,store_refl E0_same,k3,s3,v1_3,h4a,k6,s6,v1_6,h7a,k9,s9,v1_9,k10,s10,v1_10,h11a,k13,s13,v1_13,v1_14,s14,e14,b14,v1_21,k21,b21,i26,j26,m26_0,h28a] at hz
     have hR:=hT hV (by omega) (by omega)
     have hrl:=hR.rl (Int.toNat to_) (by omega) (by omega)
     generalize hL29:Rec.loop _ _ _ _=L29 at hz
     obtain ⟨x29,t29,S29e,rfl,hQ29⟩:=loop_met hL29 (fun m t S'=>∃ (v_steps:Value) (steps:List Stp) (now:Int),rk (Int.toNat now)<m∧steps.length+m=h.rooms.length+1∧steps.length≤h.rooms.length∧0≤now∧now<(h.rooms.length:Int)∧lget (r114 h fr ti).1.1 (Int.toNat now)≤1073741823∧t.get 1=some (.int .i64 fr)∧t.get 11=some (.pointer (some ⟨S13.next,0,none⟩))∧t.get 12=some (.slice pu13_2 nu13_2 cu13_2)∧t.get 13=some (v_steps)∧t.get 14=some (.int .i64 now)∧S'.heap.get S13.next=some (.cells [.slice pu13_0 nu13_0 cu13_0,.slice pu13_1 nu13_1 cu13_1] 142 0 true true)∧Agree S S'∧S21.next≤S'.next∧Own 94 S21.next S' v_steps steps∧Own 137 S10.next S' (.slice pu13_2 nu13_2 cu13_2) ((r114 h fr ti).2)∧Own 3 S10.next S' (.slice pu13_0 nu13_0 cu13_0) ((r114 h fr ti).1.1)∧Own 3 S10.next S' (.slice pu13_1 nu13_1 cu13_1) ((r114 h fr ti).1.2)∧(∀ b,blkOf v_steps=some b→blkOf (.slice pu13_2 nu13_2 cu13_2)≠some b)∧(∀ b,blkOf v_steps=some b→blkOf (.slice pu13_0 nu13_0 cu13_0)≠some b)∧(∀ b,blkOf v_steps=some b→blkOf (.slice pu13_1 nu13_1 cu13_1)≠some b)∧R48_0 h fr ti to_ m steps now=R48_0 h fr ti to_ (h.rooms.length+1) ([]) to_)
      (fun x t S'=>x=.exit 0∧∃ (v_steps:Value) (steps:List Stp) (now:Int),t.get 13=some (v_steps)∧S'.heap.get S13.next=some (.cells [.slice pu13_0 nu13_0 cu13_0,.slice pu13_1 nu13_1 cu13_1] 142 0 true true)∧Agree S S'∧S21.next≤S'.next∧Own 94 S21.next S' v_steps steps∧Own 137 S10.next S' (.slice pu13_2 nu13_2 cu13_2) ((r114 h fr ti).2)∧Own 3 S10.next S' (.slice pu13_0 nu13_0 cu13_0) ((r114 h fr ti).1.1)∧Own 3 S10.next S' (.slice pu13_1 nu13_1 cu13_1) ((r114 h fr ti).1.2)∧(∀ b,blkOf v_steps=some b→blkOf (.slice pu13_2 nu13_2 cu13_2)≠some b)∧(∀ b,blkOf v_steps=some b→blkOf (.slice pu13_0 nu13_0 cu13_0)≠some b)∧(∀ b,blkOf v_steps=some b→blkOf (.slice pu13_1 nu13_1 cu13_1)≠some b)∧steps.length≤h.rooms.length∧0≤now∧now<(h.rooms.length:Int)∧lget (r114 h fr ti).1.1 (Int.toNat now)≤1073741823∧R48_0 h fr ti to_ (h.rooms.length+1) ([]) to_=steps) (h.rooms.length+1) (by refine ⟨.slice none 0 0,[],to_,?_,?_,?_,?_,?_,?_,?_,?_,?_,?_,?_,b21,g21,Nat.le_refl _,Own.nil _ _ _,o13_24,o13_22,o13_23,(fun b hb=>by simp [blkOf] at hb),(fun b hb=>by simp [blkOf] at hb),(fun b hb=>by simp [blkOf] at hb),rfl⟩<;>first|(simp only [SY,setArgs,off,agreeKind,partVals,vals,allocV,boxed,ldA,rdCells,oneB,aggD,aField,aFieldV,aExtract,eq_self,ne_eq,if_true,if_false,not_false_eq_true,Nat.reduceAdd,Nat.reduceSub,Nat.reduceMul,Nat.reduceLT,Nat.reduceEqDiff,Nat.reduceBEq,reduceIte,Int.reduceEq,Int.reduceLT,Int.reduceLE,reduceCtorEq]<;>rfl)|omega|assumption|(simp; omega)|simp) (by
       rintro m t S29 ⟨v_steps,steps,now,hi29_0,hi29_1,hi29_2,hi29_3,hi29_4,hi29_5,g29_1,g29_11,g29_12,g29_13,g29_14,bb29_14,ga29,gn29,ow_steps,cw29_0,cw29_1,cw29_2,pr29_0,pr29_1,pr29_2,hd29⟩
       refine .run fun z he=>?_
       try simp (disch:=first|omega|assumption) only [E0_G,SY,setArgs,off,agreeKind,partVals,vals,allocV,boxed,ldA,rdCells,oneB,aggD,aField,aFieldV,aExtract,eq_self,ne_eq,if_true,if_false,not_false_eq_true,Nat.reduceAdd,Nat.reduceSub,Nat.reduceMul,Nat.reduceLT,Nat.reduceEqDiff,Nat.reduceBEq,reduceIte,Int.reduceEq,Int.reduceLT,Int.reduceLE,reduceCtorEq,TY_EvH34,g29_1,g29_11,g29_12,g29_13,g29_14,bb29_14,h4a,h7a,h11a,h28a] at he
       rcases dP (now=fr) with ⟨h30a,h30⟩|⟨h30a,h30⟩
       ·skip
        try simp (disch:=first|omega|assumption) only [E0_G,SY,setArgs,off,agreeKind,partVals,vals,allocV,boxed,ldA,rdCells,oneB,aggD,aField,aFieldV,aExtract,eq_self,ne_eq,if_true,if_false,not_false_eq_true,Nat.reduceAdd,Nat.reduceSub,Nat.reduceMul,Nat.reduceLT,Nat.reduceEqDiff,Nat.reduceBEq,reduceIte,Int.reduceEq,Int.reduceLT,Int.reduceLE,reduceCtorEq,TY_EvH34,g29_1,g29_11,g29_12,g29_13,g29_14,bb29_14,h4a,h7a,h11a,h28a,h30a] at he
        obtain ⟨m',rfl⟩:∃ m',m=m'+1:=⟨m - 1,by omega⟩
        have hf:=(show _=(steps:(List Stp)) from (if_pos h30).trans (rfl)).symm.trans hd29
        refine .exit he ⟨rfl,⟨v_steps,steps,now,?_,bb29_14,ga29,by omega,(ow_steps.low (by omega)),cw29_0,cw29_1,cw29_2,pr29_0,pr29_1,pr29_2,?_,?_,?_,?_,hf.symm⟩⟩<;>first|(simp only [SY,setArgs,off,agreeKind,partVals,vals,allocV,boxed,ldA,rdCells,oneB,aggD,aField,aFieldV,aExtract,eq_self,ne_eq,if_true,if_false,not_false_eq_true,Nat.reduceAdd,Nat.reduceSub,Nat.reduceMul,Nat.reduceLT,Nat.reduceEqDiff,Nat.reduceBEq,reduceIte,Int.reduceEq,Int.reduceLT,Int.reduceLE,reduceCtorEq,g29_1,g29_11,g29_12,g29_13,g29_14]<;>rfl)|omega|assumption|(simp; omega)|simp
       ·skip
        have qz31:((Int.toNat now:Nat):Int)=now:=Int.toNat_of_nonneg (by first|omega|simp; omega)
        have hx32:((r114 h fr ti).1.2)[(Int.toNat now)]?=some (lget ((r114 h fr ti).1.2) (Int.toNat now)):=lget_some (by first|omega|simp; omega)
        obtain ⟨hb33,hq33,hm33,hf33,hs33,hto33,ha33,hi33,hk33,hl33⟩:=hop hV hR (by omega) (by omega) (now:=now) (by omega) (by omega) (by omega)
        obtain ⟨id32,of32,cc32,ty32,wr32,ex32,i32,j32,l32,q32,lb32,bk32,oq32⟩:=cw29_2.at4 (P:=Tryz.prog) (t:=54) Tryz.underlying54 tz3 hx32
        have m32_0:cc32[of32]?=some (.int .i64 (lget ((r114 h fr ti).1.2) (Int.toNat now))):=q32 0 (show 0<1 by decide)
        rw [qz31] at i32
        have qz34:((Int.toNat (lget ((r114 h fr ti).1.2) (Int.toNat now)):Nat):Int)=(lget ((r114 h fr ti).1.2) (Int.toNat now)):=Int.toNat_of_nonneg (by first|omega|simp; omega)
        have hx35:((r114 h fr ti).2)[(Int.toNat (lget ((r114 h fr ti).1.2) (Int.toNat now)))]?=some (lget ((r114 h fr ti).2) (Int.toNat (lget ((r114 h fr ti).1.2) (Int.toNat now)))):=lget_some (by first|omega|simp; omega)
        obtain ⟨id35,of35,cc35,ty35,wr35,ex35,i35,j35,l35,q35,lb35,bk35,oq35⟩:=cw29_0.at4 (P:=Tryz.prog) (t:=134) Tryz.underlying134 tz137 hx35
        have m35_0:cc35[of35]?=some (.int .i64 ((lget ((r114 h fr ti).2) (Int.toNat (lget ((r114 h fr ti).1.2) (Int.toNat now)))).way)):=q35 0 (show 0<6 by decide)
        have m35_1:cc35[of35+1]?=some (.bool ((lget ((r114 h fr ti).2) (Int.toNat (lget ((r114 h fr ti).1.2) (Int.toNat now)))).back)):=q35 1 (show 1<6 by decide)
        have m35_2:cc35[of35+2]?=some (.int .i64 ((lget ((r114 h fr ti).2) (Int.toNat (lget ((r114 h fr ti).1.2) (Int.toNat now)))).fr)):=q35 2 (show 2<6 by decide)
        have m35_3:cc35[of35+3]?=some (.int .i64 ((lget ((r114 h fr ti).2) (Int.toNat (lget ((r114 h fr ti).1.2) (Int.toNat now)))).to)):=q35 3 (show 3<6 by decide)
        have m35_4:cc35[of35+4]?=some (.int .i64 ((lget ((r114 h fr ti).2) (Int.toNat (lget ((r114 h fr ti).1.2) (Int.toNat now)))).secs)):=q35 4 (show 4<6 by decide)
        have m35_5:cc35[of35+5]?=some (.int .i64 ((lget ((r114 h fr ti).2) (Int.toNat (lget ((r114 h fr ti).1.2) (Int.toNat now)))).door)):=q35 5 (show 5<6 by decide)
        rw [qz34] at i35
        obtain ⟨S36,e36,n36,b36,a36⟩:=push_open S29 (.cells [.int .i64 0,.bool false,.int .i64 0,.int .i64 0,.int .i64 0,.int .i64 0] 137 0 true true)
        have v14_36:=(a36.2 S13.next (by omega)).trans bb29_14
        have v32_36:=(a36.2 id32 (by omega)).trans j32
        have v35_36:=(a36.2 id35 (by omega)).trans j35
        have ow_37:=ow_steps.agree a36
        have ocw29_38:=cw29_0.agree a36
        have ocw29_39:=cw29_2.agree a36
        have ocw29_40:=cw29_1.agree a36
        have g36:Agree S S36:=ga29.trans a36
        have s36:E0.same S29 S36=true:=symEnv_same a36
        have ne41:blkOf (v_steps)≠some S29.next:=ow_steps.new (Nat.le_refl _)
        have ne42:blkOf (.slice pu13_2 nu13_2 cu13_2)≠some S29.next:=cw29_0.new (Nat.le_refl _)
        have ne43:blkOf (.slice pu13_1 nu13_1 cu13_1)≠some S29.next:=cw29_2.new (Nat.le_refl _)
        have ne44:blkOf (.slice pu13_0 nu13_0 cu13_0)≠some S29.next:=cw29_1.new (Nat.le_refl _)
        obtain ⟨S45,k45,n45,b45,q45⟩:=st_at (o:=0) (c':=[.int .i64 ((lget ((r114 h fr ti).2) (Int.toNat (lget ((r114 h fr ti).1.2) (Int.toNat now)))).way),.bool ((lget ((r114 h fr ti).2) (Int.toNat (lget ((r114 h fr ti).1.2) (Int.toNat now)))).back),.int .i64 ((lget ((r114 h fr ti).2) (Int.toNat (lget ((r114 h fr ti).1.2) (Int.toNat now)))).fr),.int .i64 ((lget ((r114 h fr ti).2) (Int.toNat (lget ((r114 h fr ti).1.2) (Int.toNat now)))).to),.int .i64 ((lget ((r114 h fr ti).2) (Int.toNat (lget ((r114 h fr ti).1.2) (Int.toNat now)))).secs),.int .i64 ((lget ((r114 h fr ti).2) (Int.toNat (lget ((r114 h fr ti).1.2) (Int.toNat now)))).door)]) (v:=.agg #[.int .i64 ((lget ((r114 h fr ti).2) (Int.toNat (lget ((r114 h fr ti).1.2) (Int.toNat now)))).way),.bool ((lget ((r114 h fr ti).2) (Int.toNat (lget ((r114 h fr ti).1.2) (Int.toNat now)))).back),.int .i64 ((lget ((r114 h fr ti).2) (Int.toNat (lget ((r114 h fr ti).1.2) (Int.toNat now)))).fr),.int .i64 ((lget ((r114 h fr ti).2) (Int.toNat (lget ((r114 h fr ti).1.2) (Int.toNat now)))).to),.int .i64 ((lget ((r114 h fr ti).2) (Int.toNat (lget ((r114 h fr ti).1.2) (Int.toNat now)))).secs),.int .i64 ((lget ((r114 h fr ti).2) (Int.toNat (lget ((r114 h fr ti).1.2) (Int.toNat now)))).door)]) tz137 b36 rfl rfl (show 0+6≤6 by decide) rfl
        have v14_45:=(q45 S13.next (by omega)).trans v14_36
        have ow_46:=ow_37.frame (by omega) (fun id hid hb=>q45 id (fun e=>(show blkOf (v_steps)≠some S29.next from by first|exact ow_37.ne (by omega)|exact ow_37.new (by omega)|assumption) (e ▸ hb)))
        have ocw29_47:=ocw29_38.frame (by omega) (fun id hid hb=>q45 id (fun e=>(show blkOf (.slice pu13_2 nu13_2 cu13_2)≠some S29.next from by first|exact ocw29_38.ne (by omega)|exact ocw29_38.new (by omega)|assumption) (e ▸ hb)))
        have ocw29_48:=ocw29_39.frame (by omega) (fun id hid hb=>q45 id (fun e=>(show blkOf (.slice pu13_1 nu13_1 cu13_1)≠some S29.next from by first|exact ocw29_39.ne (by omega)|exact ocw29_39.new (by omega)|assumption) (e ▸ hb)))
        have ocw29_49:=ocw29_40.frame (by omega) (fun id hid hb=>q45 id (fun e=>(show blkOf (.slice pu13_0 nu13_0 cu13_0)≠some S29.next from by first|exact ocw29_40.ne (by omega)|exact ocw29_40.new (by omega)|assumption) (e ▸ hb)))
        have g45:Agree S S45:=⟨by have:=(g36).1; omega,fun id hid=>(q45 id (by have:=(g36).1; omega)).trans ((g36).2 id hid)⟩
        try simp (disch:=first|omega|assumption) only [E0_G,SY,setArgs,off,agreeKind,partVals,vals,allocV,boxed,ldA,rdCells,oneB,aggD,aField,aFieldV,aExtract,eq_self,ne_eq,if_true,if_false,not_false_eq_true,Nat.reduceAdd,Nat.reduceSub,Nat.reduceMul,Nat.reduceLT,Nat.reduceEqDiff,Nat.reduceBEq,reduceIte,Int.reduceEq,Int.reduceLT,Int.reduceLE,reduceCtorEq,TY_EvH34,g29_1,g29_11,g29_12,g29_13,g29_14,bb29_14,h4a,h7a,h11a,h28a,h30a,i32,j32,m32_0,i35,j35,m35_0,m35_1,m35_2,m35_3,m35_4,m35_5,v14_36,v32_36,v35_36,s36,e36,b36,v14_45,k45,b45] at he
        rw [code_draws _ _ _ (by kernel_rfl)] at he
        generalize hnd50:needy _=nd50 at he
        have nn50_15:nd50 15=false:=by rw [← hnd50]; kernel_rfl
        have qz51:((Int.toNat now:Nat):Int)=now:=Int.toNat_of_nonneg (by first|omega|simp; omega)
        have hx52:((r114 h fr ti).1.1)[(Int.toNat now)]?=some (lget ((r114 h fr ti).1.1) (Int.toNat now)):=lget_some (by first|omega|simp; omega)
        have eb53:=(r114_tm hV (fr:=fr) (ti:=ti) (by omega)).at hx52
        obtain ⟨id52,of52,cc52,ty52,wr52,ex52,i52,j52,l52,q52,lb52,bk52,oq52⟩:=ocw29_49.at4 (P:=Tryz.prog) (t:=54) Tryz.underlying54 tz3 hx52
        have m52_0:cc52[of52]?=some (.int .i64 (lget ((r114 h fr ti).1.1) (Int.toNat now))):=q52 0 (show 0<1 by decide)
        rw [qz51] at i52
        have w54:IntKind.i64.wrap ((lget ((r114 h fr ti).1.1) (Int.toNat now)) - ((lget ((r114 h fr ti).2) (Int.toNat (lget ((r114 h fr ti).1.2) (Int.toNat now)))).secs))=(lget ((r114 h fr ti).1.1) (Int.toNat now)) - ((lget ((r114 h fr ti).2) (Int.toNat (lget ((r114 h fr ti).1.2) (Int.toNat now)))).secs):=by rw [IntWalk.i64_in]; omega
        have y55:aBuild Tryz.prog 94 [(0,.int .i64 ((lget ((r114 h fr ti).2) (Int.toNat (lget ((r114 h fr ti).1.2) (Int.toNat now)))).way)),(1,.bool ((lget ((r114 h fr ti).2) (Int.toNat (lget ((r114 h fr ti).1.2) (Int.toNat now)))).back)),(2,.int .i64 ((lget ((r114 h fr ti).1.1) (Int.toNat now)) - ((lget ((r114 h fr ti).2) (Int.toNat (lget ((r114 h fr ti).1.2) (Int.toNat now)))).secs)))]=some (.agg #[.int .i64 ((lget ((r114 h fr ti).2) (Int.toNat (lget ((r114 h fr ti).1.2) (Int.toNat now)))).way),.bool ((lget ((r114 h fr ti).2) (Int.toNat (lget ((r114 h fr ti).1.2) (Int.toNat now)))).back),.int .i64 ((lget ((r114 h fr ti).1.1) (Int.toNat now)) - ((lget ((r114 h fr ti).2) (Int.toNat (lget ((r114 h fr ti).1.2) (Int.toNat now)))).secs))]):=by kernel_rfl
        have y56:aBuildSlice Tryz.prog 47 1 [(0,.agg #[.int .i64 ((lget ((r114 h fr ti).2) (Int.toNat (lget ((r114 h fr ti).1.2) (Int.toNat now)))).way),.bool ((lget ((r114 h fr ti).2) (Int.toNat (lget ((r114 h fr ti).1.2) (Int.toNat now)))).back),.int .i64 ((lget ((r114 h fr ti).1.1) (Int.toNat now)) - ((lget ((r114 h fr ti).2) (Int.toNat (lget ((r114 h fr ti).1.2) (Int.toNat now)))).secs))])] S45=some (.slice (some ⟨S45.next,0,none⟩) 1 1,S45.push (.cells [.int .i64 ((lget ((r114 h fr ti).2) (Int.toNat (lget ((r114 h fr ti).1.2) (Int.toNat now)))).way),.bool ((lget ((r114 h fr ti).2) (Int.toNat (lget ((r114 h fr ti).1.2) (Int.toNat now)))).back),.int .i64 ((lget ((r114 h fr ti).1.1) (Int.toNat now)) - ((lget ((r114 h fr ti).2) (Int.toNat (lget ((r114 h fr ti).1.2) (Int.toNat now)))).secs))] 94 3 true true)):=by kernel_rfl
        obtain ⟨S57,e57,n57,b57,a57⟩:=push_open S45 (.cells [.int .i64 ((lget ((r114 h fr ti).2) (Int.toNat (lget ((r114 h fr ti).1.2) (Int.toNat now)))).way),.bool ((lget ((r114 h fr ti).2) (Int.toNat (lget ((r114 h fr ti).1.2) (Int.toNat now)))).back),.int .i64 ((lget ((r114 h fr ti).1.1) (Int.toNat now)) - ((lget ((r114 h fr ti).2) (Int.toNat (lget ((r114 h fr ti).1.2) (Int.toNat now)))).secs))] 94 3 true true)
        have v14_57:=(a57.2 S13.next (by omega)).trans v14_45
        have v36_57:=(a57.2 S29.next (by omega)).trans b45
        have v52_57:=(a57.2 id52 (by omega)).trans j52
        have ow_58:=ow_46.agree a57
        have ocw29_59:=ocw29_47.agree a57
        have ocw29_60:=ocw29_48.agree a57
        have ocw29_61:=ocw29_49.agree a57
        have g57:Agree S S57:=g45.trans a57
        have s57:E0.same S45 S57=true:=symEnv_same a57
        have ne62:blkOf (v_steps)≠some S45.next:=ow_46.new (Nat.le_refl _)
        have ne63:blkOf (.slice pu13_2 nu13_2 cu13_2)≠some S45.next:=ocw29_47.new (Nat.le_refl _)
        have ne64:blkOf (.slice pu13_1 nu13_1 cu13_1)≠some S45.next:=ocw29_48.new (Nat.le_refl _)
        have ne65:blkOf (.slice pu13_0 nu13_0 cu13_0)≠some S45.next:=ocw29_49.new (Nat.le_refl _)
        have o66:Own 94 S45.next S57 (.slice (some ⟨S45.next,0,none⟩) 1 1) ([(⟨(lget ((r114 h fr ti).2) (Int.toNat (lget ((r114 h fr ti).1.2) (Int.toNat now)))).way,(lget ((r114 h fr ti).2) (Int.toNat (lget ((r114 h fr ti).1.2) (Int.toNat now)))).back,(lget ((r114 h fr ti).1.1) (Int.toNat now)) - ((lget ((r114 h fr ti).2) (Int.toNat (lget ((r114 h fr ti).1.2) (Int.toNat now)))).secs)⟩:Stp)]:List Stp):=.inr ⟨_,true,rfl,Nat.le_refl _,by omega,b57⟩
        have ap67:∀ b,blkOf (v_steps)=some b→blkOf (.slice (some ⟨S45.next,0,none⟩) 1 1)≠some b:=fun b hb=>o66.ne (Nat.lt_of_lt_of_le (ow_46.lt hb) (by omega))
        have ap68:∀ b,blkOf (.slice pu13_2 nu13_2 cu13_2)=some b→blkOf (.slice (some ⟨S45.next,0,none⟩) 1 1)≠some b:=fun b hb=>o66.ne (Nat.lt_of_lt_of_le (ocw29_47.lt hb) (by omega))
        have ap69:∀ b,blkOf (.slice pu13_1 nu13_1 cu13_1)=some b→blkOf (.slice (some ⟨S45.next,0,none⟩) 1 1)≠some b:=fun b hb=>o66.ne (Nat.lt_of_lt_of_le (ocw29_48.lt hb) (by omega))
        have ap70:∀ b,blkOf (.slice pu13_0 nu13_0 cu13_0)=some b→blkOf (.slice (some ⟨S45.next,0,none⟩) 1 1)≠some b:=fun b hb=>o66.ne (Nat.lt_of_lt_of_le (ocw29_49.lt hb) (by omega))
        obtain ⟨u71,S71,k71,o71,n71,f71,d71⟩:=own_append (P:=Tryz.prog) (t:=47) (tx:=47) (n:=2) (v:=v_steps) ow_58 (o66.rows) (by omega) (by first|omega|(simp; omega)|simp) (by first|omega|(simp; omega)|simp) Tryz.underlying47 Tryz.underlying47 ti94 tv94 rfl tz94
        have v14_71:=(f71 S13.next (by omega) (by first|(simp [blkOf]; done)|exact ow_58.ne (by omega)|exact ow_58.new (by omega)|assumption)).trans v14_57
        have v36_71:=(f71 S29.next (by omega) (by first|(simp [blkOf]; done)|exact ow_58.ne (by omega)|exact ow_58.new (by omega)|assumption)).trans v36_57
        have apocw29_72:∀ b,blkOf (.slice pu13_2 nu13_2 cu13_2)=some b→blkOf u71≠some b:=fun b hb=>d71 b (ocw29_59.lt hb) ((fun b h1 h2=>pr29_0 b h2 h1) b hb)
        have ocw29_72:=ocw29_59.frame n71 (fun id hid hb=>f71 id hid ((fun b h1 h2=>pr29_0 b h2 h1) id hb))
        have apocw29_73:∀ b,blkOf (.slice pu13_1 nu13_1 cu13_1)=some b→blkOf u71≠some b:=fun b hb=>d71 b (ocw29_60.lt hb) ((fun b h1 h2=>pr29_2 b h2 h1) b hb)
        have ocw29_73:=ocw29_60.frame n71 (fun id hid hb=>f71 id hid ((fun b h1 h2=>pr29_2 b h2 h1) id hb))
        have apocw29_74:∀ b,blkOf (.slice pu13_0 nu13_0 cu13_0)=some b→blkOf u71≠some b:=fun b hb=>d71 b (ocw29_61.lt hb) ((fun b h1 h2=>pr29_1 b h2 h1) b hb)
        have ocw29_74:=ocw29_61.frame n71 (fun id hid hb=>f71 id hid ((fun b h1 h2=>pr29_1 b h2 h1) id hb))
        have apo66_75:∀ b,blkOf (.slice (some ⟨S45.next,0,none⟩) 1 1)=some b→blkOf u71≠some b:=fun b hb=>d71 b (o66.lt hb) ((fun b h1 h2=>ap67 b h2 h1) b hb)
        have o66_75:=o66.frame n71 (fun id hid hb=>f71 id hid ((fun b h1 h2=>ap67 b h2 h1) id hb))
        have g71:Agree S S71:=⟨Nat.le_trans (g57).1 n71,fun id hid=>(f71 id (by have:=(g57).1; omega) (by first|(simp [blkOf]; done)|exact ow_58.ne (by omega)|assumption)).trans ((g57).2 id hid)⟩
        have ne76:blkOf u71≠some S13.next:=by first|exact o71.ne (by omega)|exact o71.new (by omega)|exact d71 _ (by omega) (by first|(simp [blkOf]; done)|exact ow_58.ne (by omega)|exact ow_58.new (by omega)|assumption)
        have ne77:blkOf u71≠some S29.next:=by first|exact o71.ne (by omega)|exact o71.new (by omega)|exact d71 _ (by omega) (by first|(simp [blkOf]; done)|exact ow_58.ne (by omega)|exact ow_58.new (by omega)|assumption)
        try simp (disch:=first|omega|assumption) only [E0_G,SY,setArgs,off,agreeKind,partVals,vals,allocV,boxed,ldA,rdCells,oneB,aggD,aField,aFieldV,aExtract,eq_self,ne_eq,if_true,if_false,not_false_eq_true,Nat.reduceAdd,Nat.reduceSub,Nat.reduceMul,Nat.reduceLT,Nat.reduceEqDiff,Nat.reduceBEq,reduceIte,Int.reduceEq,Int.reduceLT,Int.reduceLE,reduceCtorEq,TY_EvH34,g29_1,g29_11,g29_12,g29_13,g29_14,bb29_14,h4a,h7a,h11a,h28a,h30a,i32,j32,m32_0,i35,j35,m35_0,m35_1,m35_2,m35_3,m35_4,m35_5,v14_36,v32_36,v35_36,s36,e36,b36,v14_45,k45,b45,nn50_15,store_agree,store_refl E0_same,i52,j52,m52_0,w54,y55,y56,v14_57,v36_57,v52_57,s57,e57,b57,v14_71,v36_71,k71] at he
        obtain ⟨m',rfl⟩:∃ m',m=m'+1:=⟨m - 1,by omega⟩
        have hf:=(show _=(R48_0 h fr ti to_ m' (steps++([(⟨(lget ((r114 h fr ti).2) (Int.toNat (lget ((r114 h fr ti).1.2) (Int.toNat now)))).way,(lget ((r114 h fr ti).2) (Int.toNat (lget ((r114 h fr ti).1.2) (Int.toNat now)))).back,(lget ((r114 h fr ti).1.1) (Int.toNat now)) - ((lget ((r114 h fr ti).2) (Int.toNat (lget ((r114 h fr ti).1.2) (Int.toNat now)))).secs)⟩:Stp)])) ((lget ((r114 h fr ti).2) (Int.toNat (lget ((r114 h fr ti).1.2) (Int.toNat now)))).fr):(List Stp)) from (if_neg h30).trans (rfl)).symm.trans hd29
        refine .next he m' (by omega) ⟨u71,steps++([(⟨(lget ((r114 h fr ti).2) (Int.toNat (lget ((r114 h fr ti).1.2) (Int.toNat now)))).way,(lget ((r114 h fr ti).2) (Int.toNat (lget ((r114 h fr ti).1.2) (Int.toNat now)))).back,(lget ((r114 h fr ti).1.1) (Int.toNat now)) - ((lget ((r114 h fr ti).2) (Int.toNat (lget ((r114 h fr ti).1.2) (Int.toNat now)))).secs)⟩:Stp)]),(lget ((r114 h fr ti).2) (Int.toNat (lget ((r114 h fr ti).1.2) (Int.toNat now)))).fr,?_,?_,?_,?_,?_,?_,?_,?_,?_,?_,?_,v14_71,g71,by omega,(o71.low (by omega)),ocw29_72,ocw29_74,ocw29_73,(fun b h1 h2=>apocw29_72 b h2 h1),(fun b h1 h2=>apocw29_74 b h2 h1),(fun b h1 h2=>apocw29_73 b h2 h1),hf⟩<;>first|(simp only [SY,setArgs,off,agreeKind,partVals,vals,allocV,boxed,ldA,rdCells,oneB,aggD,aField,aFieldV,aExtract,eq_self,ne_eq,if_true,if_false,not_false_eq_true,Nat.reduceAdd,Nat.reduceSub,Nat.reduceMul,Nat.reduceLT,Nat.reduceEqDiff,Nat.reduceBEq,reduceIte,Int.reduceEq,Int.reduceLT,Int.reduceLE,reduceCtorEq,g29_1,g29_11,g29_12,g29_13,g29_14]<;>rfl)|omega|assumption|(simp; omega)|simp)
     obtain ⟨rfl,v_steps,steps,now,ge29_13,be29_14,ge29,gm29,oe_steps29,ce29_0,ce29_1,ce29_2,pe29_0,pe29_1,pe29_2,hj29_0,hj29_1,hj29_2,hj29_3,hR29⟩:=hQ29
     obtain rfl:steps=R48_0 h fr ti to_ (h.rooms.length+1) ([]) to_:=hR29.symm
     obtain ⟨S79,k79,kp79,o79⟩:=c115 (R48_0 h fr ti to_ (h.rooms.length+1) ([]) to_) (by omega) _ S29e (v_steps) oe_steps29
     have n79:=kp79.1
     have g79:Agree S S79:=⟨by have:=(ge29).1; omega,fun id hid=>(kp79.2 id (by have:=(ge29).1; omega) (show blkOf (v_steps)≠some id from oe_steps29.ne (by omega))).trans ((ge29).2 id hid)⟩
     try simp (disch:=first|omega|assumption) only [E0_G,SY,setArgs,off,agreeKind,partVals,vals,allocV,boxed,ldA,rdCells,oneB,aggD,aField,aFieldV,aExtract,eq_self,ne_eq,if_true,if_false,not_false_eq_true,Nat.reduceAdd,Nat.reduceSub,Nat.reduceMul,Nat.reduceLT,Nat.reduceEqDiff,Nat.reduceBEq,reduceIte,Int.reduceEq,Int.reduceLT,Int.reduceLE,reduceCtorEq,TY_EvH34,h4a,h7a,h11a,h28a,ge29_13,be29_14,k79] at hz
     have hr:r48 h fr ti to_=((R48_0 h fr ti to_ (h.rooms.length+1) ([]) to_).reverse,0):=(if_pos h4).trans ((if_pos h7).trans ((if_pos h11).trans ((if_neg h28).trans (rfl))))
     exact ⟨v_steps,S79,by first|(rw [hr]; exact hz.symm)|exact hz.symm,g79,by rw [hr]; exact o79.low (by omega)⟩
   ·skip
    try simp (disch:=first|omega|assumption) only [E0_G,SY,setArgs,off,agreeKind,partVals,vals,allocV,boxed,ldA,rdCells,oneB,aggD,aField,aFieldV,aExtract,eq_self,ne_eq,if_true,if_false,not_false_eq_true,Nat.reduceAdd,Nat.reduceSub,Nat.reduceMul,Nat.reduceLT,Nat.reduceEqDiff,Nat.reduceBEq,reduceIte,Int.reduceEq,Int.reduceLT,Int.reduceLE,reduceCtorEq,TY_EvH34,s1,e1,b1,store_agree,store_refl E0_same,k3,s3,v1_3,h4a,k6,s6,v1_6,h7a,k9,s9,v1_9,k10,s10,v1_10,h11a] at hz
    have hr:r48 h fr ti to_=([],(r84 h (r102 h to_))):=(if_pos h4).trans ((if_pos h7).trans ((if_neg h11).trans (rfl)))
    exact ⟨.slice none 0 0,S10,by first|(rw [hr]; exact hz.symm)|exact hz.symm,g10,by rw [hr]; exact Own.nil _ _ _⟩
  ·skip
   obtain ⟨S80,k80,a80⟩:=c84 h false hF hs S6 (v_h_rooms) (hv_h_rooms.agree g6) (v_h_doors) (hv_h_doors.agree g6) (v_h_ways) (hv_h_ways.agree g6)
   have l80:=a80.1
   have s80:E0.same S6 S80=true:=symEnv_same a80
   have v1_80:=(a80.2 S.next (by omega)).trans v1_6
   have g80:Agree S S80:=g6.trans a80
   try simp (disch:=first|omega|assumption) only [E0_G,SY,setArgs,off,agreeKind,partVals,vals,allocV,boxed,ldA,rdCells,oneB,aggD,aField,aFieldV,aExtract,eq_self,ne_eq,if_true,if_false,not_false_eq_true,Nat.reduceAdd,Nat.reduceSub,Nat.reduceMul,Nat.reduceLT,Nat.reduceEqDiff,Nat.reduceBEq,reduceIte,Int.reduceEq,Int.reduceLT,Int.reduceLE,reduceCtorEq,TY_EvH34,s1,e1,b1,store_agree,store_refl E0_same,k3,s3,v1_3,h4a,k6,s6,v1_6,h7a,k80,s80,v1_80] at hz
   have h81:¬ ((r84 h false)=0):=r84_false
   have h81a:=decide_eq_false h81
   try simp (disch:=first|omega|assumption) only [E0_G,SY,setArgs,off,agreeKind,partVals,vals,allocV,boxed,ldA,rdCells,oneB,aggD,aField,aFieldV,aExtract,eq_self,ne_eq,if_true,if_false,not_false_eq_true,Nat.reduceAdd,Nat.reduceSub,Nat.reduceMul,Nat.reduceLT,Nat.reduceEqDiff,Nat.reduceBEq,reduceIte,Int.reduceEq,Int.reduceLT,Int.reduceLE,reduceCtorEq,TY_EvH34,s1,e1,b1,store_agree,store_refl E0_same,k3,s3,v1_3,h4a,k6,s6,v1_6,h7a,k80,s80,v1_80,h81a] at hz
   have hr:r48 h fr ti to_=([],(r84 h false)):=(if_pos h4).trans ((if_neg h7).trans (rfl))
   exact ⟨.slice none 0 0,S80,by first|(rw [hr]; exact hz.symm)|exact hz.symm,g80,by rw [hr]; exact Own.nil _ _ _⟩
 ·skip
  obtain ⟨S82,k82,a82⟩:=c84 h false hF hs S3 (v_h_rooms) (hv_h_rooms.agree g3) (v_h_doors) (hv_h_doors.agree g3) (v_h_ways) (hv_h_ways.agree g3)
  have l82:=a82.1
  have s82:E0.same S3 S82=true:=symEnv_same a82
  have v1_82:=(a82.2 S.next (by omega)).trans v1_3
  have g82:Agree S S82:=g3.trans a82
  try simp (disch:=first|omega|assumption) only [E0_G,SY,setArgs,off,agreeKind,partVals,vals,allocV,boxed,ldA,rdCells,oneB,aggD,aField,aFieldV,aExtract,eq_self,ne_eq,if_true,if_false,not_false_eq_true,Nat.reduceAdd,Nat.reduceSub,Nat.reduceMul,Nat.reduceLT,Nat.reduceEqDiff,Nat.reduceBEq,reduceIte,Int.reduceEq,Int.reduceLT,Int.reduceLE,reduceCtorEq,TY_EvH34,s1,e1,b1,store_agree,store_refl E0_same,k3,s3,v1_3,h4a,k82,s82,v1_82] at hz
  have h83:¬ ((r84 h false)=0):=r84_false
  have h83a:=decide_eq_false h83
  try simp (disch:=first|omega|assumption) only [E0_G,SY,setArgs,off,agreeKind,partVals,vals,allocV,boxed,ldA,rdCells,oneB,aggD,aField,aFieldV,aExtract,eq_self,ne_eq,if_true,if_false,not_false_eq_true,Nat.reduceAdd,Nat.reduceSub,Nat.reduceMul,Nat.reduceLT,Nat.reduceEqDiff,Nat.reduceBEq,reduceIte,Int.reduceEq,Int.reduceLT,Int.reduceLE,reduceCtorEq,TY_EvH34,s1,e1,b1,store_agree,store_refl E0_same,k3,s3,v1_3,h4a,k82,s82,v1_82,h83a] at hz
  have hr:r48 h fr ti to_=([],(r84 h false)):=(if_neg h4).trans (rfl)
  exact ⟨.slice none 0 0,S82,by first|(rw [hr]; exact hz.symm)|exact hz.symm,g82,by rw [hr]; exact Own.nil _ _ _⟩
end House
end Go.Proofs
