import Derived.Test.YtohfdkdjfoonjaaGreatDoorBY
import Derived.Test.YtohfdkdjfoonjaaGreatDoorAE6
set_option linter.unusedSimpArgs false
set_option linter.unusedVariables false
namespace Go.Proofs
namespace House
open Go Go.RowKit Go.Aev
set_option maxRecDepth 100000
theorem TY_EvH36:type_of% (And.intro (And.intro (And.intro (And.intro (And.intro (And.intro (And.intro Tryz.underlying3 tz3) (And.intro tt3 (And.intro t0_3 Tryz.underlying4))) (And.intro (And.intro tz4 tt4) (And.intro t0_4 (And.intro Tryz.underlying9 tz9)))) (And.intro (And.intro (And.intro tt9 t0_9) (And.intro Tryz.underlying22 (And.intro tz22 tt22))) (And.intro (And.intro t0_22 (And.intro Tryz.underlying23 tz23)) (And.intro tt23 (And.intro t0_23 Tryz.underlying24))))) (And.intro (And.intro (And.intro (And.intro tz24 tt24) (And.intro t0_24 (And.intro Tryz.underlying25 tz25))) (And.intro (And.intro tt25 t0_25) (And.intro Tryz.underlying26 (And.intro tz26 tt26)))) (And.intro (And.intro (And.intro t0_26 Tryz.underlying29) (And.intro tz29 (And.intro tt29 t0_29))) (And.intro (And.intro Tryz.underlying35 (And.intro tz35 tt35)) (And.intro t0_35 (And.intro Tryz.underlying36 tz36)))))) (And.intro (And.intro (And.intro (And.intro (And.intro tt36 t0_36) (And.intro Tryz.underlying40 (And.intro tz40 tt40))) (And.intro (And.intro t0_40 Tryz.underlying47) (And.intro tz47 (And.intro tt47 t0_47)))) (And.intro (And.intro (And.intro Tryz.underlying50 tz50) (And.intro tt50 (And.intro t0_50 Tryz.underlying51))) (And.intro (And.intro tz51 (And.intro tt51 t0_51)) (And.intro Tryz.underlying54 (And.intro tz54 tt54))))) (And.intro (And.intro (And.intro (And.intro t0_54 Tryz.underlying57) (And.intro tz57 (And.intro tt57 t0_57))) (And.intro (And.intro Tryz.underlying58 tz58) (And.intro tt58 (And.intro t0_58 Tryz.underlying91)))) (And.intro (And.intro (And.intro tz91 tt91) (And.intro t0_91 (And.intro Tryz.underlying92 tz92))) (And.intro (And.intro tt92 (And.intro t0_92 Tryz.underlying93)) (And.intro tz93 (And.intro tt93 t0_93))))))) (And.intro (And.intro (And.intro (And.intro (And.intro (And.intro Tryz.underlying94 tz94) (And.intro tt94 (And.intro t0_94 Tryz.underlying97))) (And.intro (And.intro tz97 tt97) (And.intro t0_97 (And.intro Tryz.underlying98 tz98)))) (And.intro (And.intro (And.intro tt98 t0_98) (And.intro Tryz.underlying109 (And.intro tz109 tt109))) (And.intro (And.intro t0_109 (And.intro Tryz.underlying110 tz110)) (And.intro tt110 (And.intro t0_110 Tryz.underlying113))))) (And.intro (And.intro (And.intro (And.intro tz113 tt113) (And.intro t0_113 (And.intro Tryz.underlying124 tz124))) (And.intro (And.intro tt124 t0_124) (And.intro Tryz.underlying125 (And.intro tz125 tt125)))) (And.intro (And.intro (And.intro t0_125 Tryz.underlying127) (And.intro tz127 (And.intro tt127 t0_127))) (And.intro (And.intro Tryz.underlying128 (And.intro tz128 tt128)) (And.intro t0_128 (And.intro Tryz.underlying134 tz134)))))) (And.intro (And.intro (And.intro (And.intro (And.intro tt134 t0_134) (And.intro Tryz.underlying136 (And.intro tz136 tt136))) (And.intro (And.intro t0_136 Tryz.underlying137) (And.intro tz137 (And.intro tt137 t0_137)))) (And.intro (And.intro (And.intro Tryz.underlying141 tz141) (And.intro tt141 (And.intro t0_141 Tryz.underlying142))) (And.intro (And.intro tz142 (And.intro tt142 t0_142)) (And.intro Tryz.underlying148 (And.intro tz148 tt148))))) (And.intro (And.intro (And.intro (And.intro t0_148 Tryz.underlying149) (And.intro tz149 (And.intro tt149 t0_149))) (And.intro (And.intro Tryz.underlying154 tz154) (And.intro tt154 (And.intro t0_154 Tryz.underlying168)))) (And.intro (And.intro (And.intro tz168 tt168) (And.intro t0_168 (And.intro Tryz.underlying204 tz204))) (And.intro (And.intro tt204 (And.intro t0_204 Tryz.underlying207)) (And.intro tz207 (And.intro tt207 t0_207)))))))):=(And.intro (And.intro (And.intro (And.intro (And.intro (And.intro (And.intro Tryz.underlying3 tz3) (And.intro tt3 (And.intro t0_3 Tryz.underlying4))) (And.intro (And.intro tz4 tt4) (And.intro t0_4 (And.intro Tryz.underlying9 tz9)))) (And.intro (And.intro (And.intro tt9 t0_9) (And.intro Tryz.underlying22 (And.intro tz22 tt22))) (And.intro (And.intro t0_22 (And.intro Tryz.underlying23 tz23)) (And.intro tt23 (And.intro t0_23 Tryz.underlying24))))) (And.intro (And.intro (And.intro (And.intro tz24 tt24) (And.intro t0_24 (And.intro Tryz.underlying25 tz25))) (And.intro (And.intro tt25 t0_25) (And.intro Tryz.underlying26 (And.intro tz26 tt26)))) (And.intro (And.intro (And.intro t0_26 Tryz.underlying29) (And.intro tz29 (And.intro tt29 t0_29))) (And.intro (And.intro Tryz.underlying35 (And.intro tz35 tt35)) (And.intro t0_35 (And.intro Tryz.underlying36 tz36)))))) (And.intro (And.intro (And.intro (And.intro (And.intro tt36 t0_36) (And.intro Tryz.underlying40 (And.intro tz40 tt40))) (And.intro (And.intro t0_40 Tryz.underlying47) (And.intro tz47 (And.intro tt47 t0_47)))) (And.intro (And.intro (And.intro Tryz.underlying50 tz50) (And.intro tt50 (And.intro t0_50 Tryz.underlying51))) (And.intro (And.intro tz51 (And.intro tt51 t0_51)) (And.intro Tryz.underlying54 (And.intro tz54 tt54))))) (And.intro (And.intro (And.intro (And.intro t0_54 Tryz.underlying57) (And.intro tz57 (And.intro tt57 t0_57))) (And.intro (And.intro Tryz.underlying58 tz58) (And.intro tt58 (And.intro t0_58 Tryz.underlying91)))) (And.intro (And.intro (And.intro tz91 tt91) (And.intro t0_91 (And.intro Tryz.underlying92 tz92))) (And.intro (And.intro tt92 (And.intro t0_92 Tryz.underlying93)) (And.intro tz93 (And.intro tt93 t0_93))))))) (And.intro (And.intro (And.intro (And.intro (And.intro (And.intro Tryz.underlying94 tz94) (And.intro tt94 (And.intro t0_94 Tryz.underlying97))) (And.intro (And.intro tz97 tt97) (And.intro t0_97 (And.intro Tryz.underlying98 tz98)))) (And.intro (And.intro (And.intro tt98 t0_98) (And.intro Tryz.underlying109 (And.intro tz109 tt109))) (And.intro (And.intro t0_109 (And.intro Tryz.underlying110 tz110)) (And.intro tt110 (And.intro t0_110 Tryz.underlying113))))) (And.intro (And.intro (And.intro (And.intro tz113 tt113) (And.intro t0_113 (And.intro Tryz.underlying124 tz124))) (And.intro (And.intro tt124 t0_124) (And.intro Tryz.underlying125 (And.intro tz125 tt125)))) (And.intro (And.intro (And.intro t0_125 Tryz.underlying127) (And.intro tz127 (And.intro tt127 t0_127))) (And.intro (And.intro Tryz.underlying128 (And.intro tz128 tt128)) (And.intro t0_128 (And.intro Tryz.underlying134 tz134)))))) (And.intro (And.intro (And.intro (And.intro (And.intro tt134 t0_134) (And.intro Tryz.underlying136 (And.intro tz136 tt136))) (And.intro (And.intro t0_136 Tryz.underlying137) (And.intro tz137 (And.intro tt137 t0_137)))) (And.intro (And.intro (And.intro Tryz.underlying141 tz141) (And.intro tt141 (And.intro t0_141 Tryz.underlying142))) (And.intro (And.intro tz142 (And.intro tt142 t0_142)) (And.intro Tryz.underlying148 (And.intro tz148 tt148))))) (And.intro (And.intro (And.intro (And.intro t0_148 Tryz.underlying149) (And.intro tz149 (And.intro tt149 t0_149))) (And.intro (And.intro Tryz.underlying154 tz154) (And.intro tt154 (And.intro t0_154 Tryz.underlying168)))) (And.intro (And.intro (And.intro tz168 tt168) (And.intro t0_168 (And.intro Tryz.underlying204 tz204))) (And.intro (And.intro tt204 (And.intro t0_204 Tryz.underlying207)) (And.intro tz207 (And.intro tt207 t0_207))))))))
set_option maxHeartbeats 2000000 in
theorem c70w (n:Int) (k:Int) (hk:0≤k∧k≤1000000) (S:AS)  :
  ∃ S',(evL Tryz.prog E0).call 70 #[.int .i64 n,.int .i64 k] S=some (.int .i64 (r70 n k),S')∧Agree S S':=by
 generalize hz:(evL Tryz.prog E0).call 70 _ _=z
 rw [L_call,evCall_said rfl Tryz.func70 rfl (by decide) Tryz.ntmps70 Tryz.results70] at hz
 have wd1:decide (IntKind.u64.wrap (max k 1)=0)=false:=decide_eq_false (by rw [u64w (by omega)]; omega)
 try simp (disch:=first|omega|assumption) only [E0_G,SY,setArgs,off,agreeKind,Nat.reduceAdd,Nat.reduceSub,Nat.reduceLT,Nat.reduceBEq,TY_EvH36,wd1] at hz
 have hr:r70 n k=IntKind.i64.wrap (Int.tmod (IntKind.u64.wrap n) (IntKind.u64.wrap (max k 1))):=rfl
 exact fin hz (by rw [hr]) (Agree.refl S)
theorem r70_okw {n k:Int} (hk:1≤k∧k≤1000000):0≤r70 n k∧r70 n k<k:=by
 have e:r70 n k=IntKind.i64.wrap (Int.tmod (n % (2 ^ 64:Int)) k):=by
  unfold r70
  rw [show max k 1=k by omega,u64w (x:=k) (by omega)]
  rw [show IntKind.u64.wrap n=n % (2 ^ 64:Int) by simp [IntKind.wrap,IntKind.signed,IntKind.bits]]
 have h1:0≤n % (2 ^ 64:Int):=Int.emod_nonneg _ (by decide)
 have h2:Int.tmod (n % (2 ^ 64:Int)) k=(n % (2 ^ 64:Int)) % k:=Int.tmod_eq_emod_of_nonneg h1
 have h3:=Int.emod_nonneg (n % (2 ^ 64:Int)) (show k≠0 by omega)
 have h4:=Int.emod_lt_of_pos (n % (2 ^ 64:Int)) (show 0<k by omega)
 rw [e,h2,wr64 (by omega)]
 exact ⟨h3,h4⟩
theorem r28_rng (h:Hs) (n t:Int):0≤(r28 h n t).1∧(r28 h n t).1≤1073741824:=by
 unfold r28
 split
 ·rename_i h1
  split
  ·rename_i h2
   have q:=r84_ok h2
   have ht:=r88_iff.1 q.2
   have hd:=r135_iff.1 (show r135 n (h.doors.length:Int)=true from h1)
   have:=r89_ge (oko q.1 (List.mem_of_getElem? (lget_some (l:=h.doors) (i:=Int.toNat n) (by omega)))) ht
   simp only; omega
  ·simp
 ·simp
def R16_0 (h:Hs) (a:Int) (t0:Int) (l:List Int) (q:List Int)  : Nat→Int→Int→List Stp→Nat→Sum (Bool) (Int × Int × (List Stp))
 | 0,cur,tm_,steps,iv=>.inr (cur,tm_,steps)
 | m'+1,cur,tm_,steps,iv=>(if ((iv:Int)<(l.length:Int))∧((iv:Int)<12) then (if (h.ways.length:Int)=0 then .inr (cur,tm_,steps) else (if (¬ (((lget h.ways (Int.toNat (r70 (lget l iv) (h.ways.length:Int)))).a)=cur))∧((¬ (((lget h.ways (Int.toNat (r70 (lget l iv) (h.ways.length:Int)))).b)=cur))∨(((lget h.ways (Int.toNat (r70 (lget l iv) (h.ways.length:Int)))).back)=0)) then R16_0 h a t0 l q m' cur tm_ steps (iv+1) else (if 1073741823<(if (iv:Int)<(q.length:Int) then tm_+(r70 (lget q iv) 3000) else tm_) then .inr (cur,tm_,steps) else (if (if 0≤((lget h.ways (Int.toNat (r70 (lget l iv) (h.ways.length:Int)))).door) then (if ((r28 h ((lget h.ways (Int.toNat (r70 (lget l iv) (h.ways.length:Int)))).door) (if (iv:Int)<(q.length:Int) then tm_+(r70 (lget q iv) 3000) else tm_)).2)=0 then true else false) else true)=true then (if 1073741823<((if 0≤((lget h.ways (Int.toNat (r70 (lget l iv) (h.ways.length:Int)))).door) then (if ((r28 h ((lget h.ways (Int.toNat (r70 (lget l iv) (h.ways.length:Int)))).door) (if (iv:Int)<(q.length:Int) then tm_+(r70 (lget q iv) 3000) else tm_)).2)=0 then (r28 h ((lget h.ways (Int.toNat (r70 (lget l iv) (h.ways.length:Int)))).door) (if (iv:Int)<(q.length:Int) then tm_+(r70 (lget q iv) 3000) else tm_)).1 else 0) else (if (iv:Int)<(q.length:Int) then tm_+(r70 (lget q iv) 3000) else tm_))+(if ((lget h.ways (Int.toNat (r70 (lget l iv) (h.ways.length:Int)))).b)=cur then (lget h.ways (Int.toNat (r70 (lget l iv) (h.ways.length:Int)))).back else (lget h.ways (Int.toNat (r70 (lget l iv) (h.ways.length:Int)))).secs)) then .inr (cur,tm_,steps) else R16_0 h a t0 l q m' (if ((lget h.ways (Int.toNat (r70 (lget l iv) (h.ways.length:Int)))).b)=cur then (lget h.ways (Int.toNat (r70 (lget l iv) (h.ways.length:Int)))).a else (lget h.ways (Int.toNat (r70 (lget l iv) (h.ways.length:Int)))).b) ((if 0≤((lget h.ways (Int.toNat (r70 (lget l iv) (h.ways.length:Int)))).door) then (if ((r28 h ((lget h.ways (Int.toNat (r70 (lget l iv) (h.ways.length:Int)))).door) (if (iv:Int)<(q.length:Int) then tm_+(r70 (lget q iv) 3000) else tm_)).2)=0 then (r28 h ((lget h.ways (Int.toNat (r70 (lget l iv) (h.ways.length:Int)))).door) (if (iv:Int)<(q.length:Int) then tm_+(r70 (lget q iv) 3000) else tm_)).1 else 0) else (if (iv:Int)<(q.length:Int) then tm_+(r70 (lget q iv) 3000) else tm_))+(if ((lget h.ways (Int.toNat (r70 (lget l iv) (h.ways.length:Int)))).b)=cur then (lget h.ways (Int.toNat (r70 (lget l iv) (h.ways.length:Int)))).back else (lget h.ways (Int.toNat (r70 (lget l iv) (h.ways.length:Int)))).secs)) (steps++([(⟨(r70 (lget l iv) (h.ways.length:Int)),decide (((lget h.ways (Int.toNat (r70 (lget l iv) (h.ways.length:Int)))).b)=cur),(if 0≤((lget h.ways (Int.toNat (r70 (lget l iv) (h.ways.length:Int)))).door) then (if ((r28 h ((lget h.ways (Int.toNat (r70 (lget l iv) (h.ways.length:Int)))).door) (if (iv:Int)<(q.length:Int) then tm_+(r70 (lget q iv) 3000) else tm_)).2)=0 then (r28 h ((lget h.ways (Int.toNat (r70 (lget l iv) (h.ways.length:Int)))).door) (if (iv:Int)<(q.length:Int) then tm_+(r70 (lget q iv) 3000) else tm_)).1 else 0) else (if (iv:Int)<(q.length:Int) then tm_+(r70 (lget q iv) 3000) else tm_))⟩:Stp)])) (iv+1)) else .inl false)))) else .inr (cur,tm_,steps))
def r16 (h:Hs) (a:Int) (t0:Int) (l:List Int) (q:List Int):Bool:=(if (¬ ((r68 h)=true))∨(¬ ((r69 t0)=true)) then true else (onSum (R16_0 h a t0 l q (l.length+1) (r70 a (h.rooms.length:Int)) t0 ([]) 0) (fun r10=>r10) (fun (cur,tm_,steps)=>(if (¬ (((r39 h (r70 a (h.rooms.length:Int)) t0 (steps:List Stp)).2.2)=0))∨((¬ (((r41 h (r70 a (h.rooms.length:Int)) t0).2)=0))∨((¬ (((r43 h cur tm_).2)=0))∨((¬ (((r45 h (r70 a (h.rooms.length:Int)) t0 cur tm_).2)=0))∨((¬ (((r39 h (r70 a (h.rooms.length:Int)) t0 (steps:List Stp)).1)=cur))∨((¬ (((r39 h (r70 a (h.rooms.length:Int)) t0 (steps:List Stp)).2.1)=tm_))∨((¬ ((((r41 h (r70 a (h.rooms.length:Int)) t0).1).length:Int)=(h.rooms.length:Int)))∨((¬ ((((r43 h cur tm_).1).length:Int)=(((r41 h (r70 a (h.rooms.length:Int)) t0).1).length:Int)))∨((tm_<(lget ((r41 h (r70 a (h.rooms.length:Int)) t0).1) (Int.toNat cur)))∨(((lget ((r43 h cur tm_).1) (Int.toNat (r70 a (h.rooms.length:Int))))<t0)∨(¬ (((r45 h (r70 a (h.rooms.length:Int)) t0 cur tm_).1)=true))))))))))) then false else decide ((((r48 h (r70 a (h.rooms.length:Int)) t0 cur).2)=0)∧((((r39 h (r70 a (h.rooms.length:Int)) t0 ((r48 h (r70 a (h.rooms.length:Int)) t0 cur).1:List Stp)).2.2)=0)∧((((r39 h (r70 a (h.rooms.length:Int)) t0 ((r48 h (r70 a (h.rooms.length:Int)) t0 cur).1:List Stp)).1)=cur)∧(((r39 h (r70 a (h.rooms.length:Int)) t0 ((r48 h (r70 a (h.rooms.length:Int)) t0 cur).1:List Stp)).2.1)=(lget ((r41 h (r70 a (h.rooms.length:Int)) t0).1) (Int.toNat cur))))))))))
set_option maxHeartbeats 32000000 in
theorem c16 (h:Hs) (a:Int) (t0:Int) (l:List Int) (q:List Int) (hs:∀ x ∈ h.rooms,x.name.size≤9223372036854775807) (S:AS) (v_h_rooms:Value) (hv_h_rooms:LstR S v_h_rooms h.rooms) (v_h_doors:Value) (hv_h_doors:LstR S v_h_doors h.doors) (v_h_ways:Value) (hv_h_ways:Lst S v_h_ways h.ways) (v_l:Value) (hv_l:Lst S v_l l) (v_q:Value) (hv_q:Lst S v_q q) :
  ∃ S',(evL Tryz.prog E0).call 16 #[.agg #[v_h_rooms,v_h_doors,v_h_ways],.int .i64 a,.int .i64 t0,v_l,v_q] S=some (.bool (r16 h a t0 l q),S')∧Agree S S':=by
 generalize hz:(evL Tryz.prog E0).call 16 _ _=z
 rw [L_call,evCall_said rfl Tryz.func16 rfl (by decide) Tryz.ntmps16 Tryz.results16] at hz
 obtain ⟨S1,e1,n1,b1,a1⟩:=push_open S (.cells [v_h_rooms,v_h_doors,v_h_ways] 26 0 true true)
 have g1:Agree S S1:=a1
 have s1:E0.same S S1=true:=symEnv_same a1
 obtain ⟨S2,k2,a2⟩:=c68 h  S1 (v_h_rooms) (hv_h_rooms.agree g1) (v_h_doors) (hv_h_doors.agree g1) (v_h_ways) (hv_h_ways.agree g1)
 have l2:=a2.1
 have s2:E0.same S1 S2=true:=symEnv_same a2
 have v1_2:=(a2.2 S.next (by omega)).trans b1
 have g2:Agree S S2:=g1.trans a2
 try simp (disch:=first|omega|assumption) only [E0_G,SY,setArgs,off,agreeKind,vals,boxed,ldA,rdCells,aggD,Nat.reduceAdd,Nat.reduceSub,Nat.reduceLT,Nat.reduceBEq,TY_EvH36,e1,b1,k2] at hz
 generalize hL3:behind _ _=L3 at hz
 refine join_reg hL3 (fun t S'=>∃ (j3_0:Bool),j3_0=decide ((¬ ((r68 h)=true))∨(¬ ((r69 t0)=true)))∧t.get 1=some (.int .i64 a)∧t.get 2=some (.int .i64 t0)∧t.get 3=some (v_l)∧t.get 4=some (v_q)∧t.get 5=some (.pointer (some ⟨S.next,0,none⟩))∧t.get 44=some (.bool j3_0)∧S'.heap.get S.next=some (.cells [v_h_rooms,v_h_doors,v_h_ways] 26 0 true true)∧Agree S S'∧S2.next≤S'.next) (fun tl3=>?_) (fun t3 S3 hn3 hq3=>?_)
 ·try simp (disch:=first|omega|assumption) only [E0_G,SY,setArgs,off,agreeKind,partVals,vals,allocV,boxed,ldA,rdCells,oneB,aggD,aField,aFieldV,aExtract,eq_self,ne_eq,if_true,if_false,not_false_eq_true,Nat.reduceAdd,Nat.reduceSub,Nat.reduceMul,Nat.reduceLT,Nat.reduceEqDiff,Nat.reduceBEq,reduceIte,Int.reduceEq,Int.reduceLT,Int.reduceLE,reduceCtorEq,TY_EvH36,s1,e1,b1,k2,s2,v1_2] at hL3
  rcases dB ((r68 h)) with ⟨h8a,h8⟩|⟨h8a,h8⟩
  ·have hV:=(r68_ok h8).2
   have lq9:=r68_len h8
   have lq10:=(r68_ok h8).1.r
   obtain ⟨S11,k11,a11⟩:=c69 t0  S2
   have l11:=a11.1
   have s11:E0.same S2 S11=true:=symEnv_same a11
   have v1_11:=(a11.2 S.next (by omega)).trans v1_2
   have g11:Agree S S11:=g2.trans a11
   try simp (disch:=first|omega|assumption) only [E0_G,SY,off,agreeKind,vals,Nat.reduceAdd,Nat.reduceLT,Nat.reduceBEq,h8a,k11] at hL3
   refine tl3 _ _ hL3.symm ⟨!(r69 t0),by simp only [eq_true h8,false_or,not_true_eq_false,decide_not,Bool.decide_eq_true],?_,?_,?_,?_,?_,?_,v1_11,g11,by omega⟩<;>first|(simp only [SY,eq_self,Nat.reduceBEq]<;>rfl)|omega|assumption|(simp; omega)|simp
  try simp (disch:=first|omega|assumption) only [E0_G,SY,off,agreeKind,Nat.reduceAdd,Nat.reduceLT,Nat.reduceBEq,h8a] at hL3
  refine tl3 _ _ hL3.symm ⟨true,by simp only [eq_false h8,true_or,not_false_eq_true,decide_true],?_,?_,?_,?_,?_,?_,v1_2,g2,by omega⟩<;>first|(simp only [SY,eq_self,Nat.reduceBEq]<;>rfl)|omega|assumption|(simp; omega)|simp
 subst hn3
 obtain ⟨j3_0,rfl,g3_1,g3_2,g3_3,g3_4,g3_5,g3_44,bj3_1,gj3,gl3⟩:=hq3
 try simp (disch:=first|omega|assumption) only [E0_G,SY,g3_44] at hz
 rcases dP ((¬ ((r68 h)=true))∨(¬ ((r69 t0)=true))) with ⟨h12a,h12⟩|⟨h12a,h12⟩
 ·simp only [h12a] at hz
  try simp (disch:=first|omega|assumption) only [E0_G,SY,off,agreeKind,vals,Nat.reduceAdd,Nat.reduceLT,Nat.reduceBEq,c21s] at hz
  have hr:r16 h a t0 l q=true:=(if_pos h12).trans (rfl)
  exact fin hz (by rw [hr]) gj3
 simp only [h12a] at hz
 have h13:(r68 h)=true:=(Decidable.not_not.1 (fun q_=>h12 (.inl q_)))
 have h13a:=id h13
 have hV:=(r68_ok h13).2
 have lq14:=r68_len h13
 have lq15:=(r68_ok h13).1.r
 have h16:(r69 t0)=true:=(Decidable.not_not.1 (fun q_=>h12 (.inr q_)))
 have h16a:=id h16
 have lq17:=r69_iff.1 h16
 have lq18:=r69_iff.1 h16
 have w19:=(hv_h_rooms.agree gj3).len (P:=Tryz.prog) (t:=22) Tryz.underlying22
 obtain ⟨S20,k20,a20⟩:=c70w a (h.rooms.length:Int) (by have:=(r68_ok (h:=h) (by assumption)).1.w; omega) S3
 have l20:=a20.1
 have s20:E0.same S3 S20=true:=symEnv_same a20
 have v1_20:=(a20.2 S.next (by omega)).trans bj3_1
 have g20:Agree S S20:=gj3.trans a20
 have p20:=r70_okw (n:=a) (k:=(h.rooms.length:Int)) ⟨by have:=rooms_pos hV; omega,by have:=(r68_ok (h:=h) (by assumption)).1.w; omega⟩
 try simp (disch:=first|omega|assumption) only [E0_G,SY,off,agreeKind,vals,ldA,aggD,aField,Nat.reduceAdd,Nat.reduceLT,Nat.reduceBEq,TY_EvH36,g3_1,g3_2,g3_5,bj3_1,w19,k20] at hz
 generalize hL21:Rec.loop _ _ _ _=L21 at hz
 obtain ⟨x21,t21,S21e,rfl,hQ21⟩:=loop_met hL21 (fun m t S'=>∃ (cur:Int) (tm_:Int) (v_steps:Value) (steps:List Stp) (iv:Nat),m+iv=l.length+1∧0≤cur∧cur<(h.rooms.length:Int)∧0≤tm_∧tm_≤1073741823∧steps.length≤iv∧iv≤12∧iv≤l.length∧t.get 2=some (.int .i64 t0)∧t.get 3=some (v_l)∧t.get 4=some (v_q)∧t.get 5=some (.pointer (some ⟨S.next,0,none⟩))∧t.get 11=some (.int .i64 (r70 a (h.rooms.length:Int)))∧t.get 12=some (.int .i64 cur)∧t.get 13=some (.int .i64 tm_)∧t.get 14=some (v_steps)∧t.get 15=some (.int .i64 (iv:Int))∧S'.heap.get S.next=some (.cells [v_h_rooms,v_h_doors,v_h_ways] 26 0 true true)∧Agree S S'∧S20.next≤S'.next∧Own 94 S20.next S' v_steps steps∧R16_0 h a t0 l q m cur tm_ steps iv=R16_0 h a t0 l q (l.length+1) (r70 a (h.rooms.length:Int)) t0 ([]) 0)
  (fun x t S'=>(x=.exit 0∧∃ (cur:Int) (tm_:Int) (v_steps:Value) (steps:List Stp) (iv:Nat),t.get 2=some (.int .i64 t0)∧t.get 5=some (.pointer (some ⟨S.next,0,none⟩))∧t.get 11=some (.int .i64 (r70 a (h.rooms.length:Int)))∧t.get 12=some (.int .i64 cur)∧t.get 13=some (.int .i64 tm_)∧t.get 14=some (v_steps)∧S'.heap.get S.next=some (.cells [v_h_rooms,v_h_doors,v_h_ways] 26 0 true true)∧Agree S S'∧S20.next≤S'.next∧Own 94 S20.next S' v_steps steps∧0≤cur∧cur<(h.rooms.length:Int)∧0≤tm_∧tm_≤1073741823∧steps.length≤iv∧iv≤12∧iv≤l.length∧R16_0 h a t0 l q (l.length+1) (r70 a (h.rooms.length:Int)) t0 ([]) 0=.inr (cur,tm_,steps))∨(x=.ret∧∃ (r10:Bool),t.get 10=some (.bool r10)∧Agree S S'∧R16_0 h a t0 l q (l.length+1) (r70 a (h.rooms.length:Int)) t0 ([]) 0=.inl (r10))) (l.length+1) (by refine ⟨(r70 a (h.rooms.length:Int)),t0,.slice none 0 0,[],0,?_,?_,?_,?_,?_,?_,?_,?_,?_,?_,?_,?_,?_,?_,?_,?_,?_,v1_20,g20,Nat.le_refl _,Own.nil _ _ _,rfl⟩<;>first|(simp only [SY,eq_self,Nat.reduceBEq,g3_2,g3_3,g3_4,g3_5]<;>rfl)|omega|assumption|(simp; omega)|simp) (by
   rintro m t S21 ⟨cur,tm_,v_steps,steps,iv,hi21_0,hi21_1,hi21_2,hi21_3,hi21_4,hi21_5,hi21_6,hi21_7,g21_2,g21_3,g21_4,g21_5,g21_11,g21_12,g21_13,g21_14,g21_15,bb21_1,ga21,gn21,ow_steps,hd21⟩
   refine .run fun z he=>?_
   have w22:=(hv_l.agree ga21).len (P:=Tryz.prog) (t:=54) Tryz.underlying54
   try simp (disch:=first|omega|assumption) only [E0_G,SY,off,agreeKind,Nat.reduceAdd,Nat.reduceLT,Nat.reduceBEq,g21_3,g21_15,w22] at he
   generalize hL23:behind _ _=L23 at he
   refine join_reg hL23 (fun t S'=>∃ (j23_0:Bool),j23_0=decide (((iv:Int)<(l.length:Int))∧((iv:Int)<12))∧t.get 2=some (.int .i64 t0)∧t.get 3=some (v_l)∧t.get 4=some (v_q)∧t.get 5=some (.pointer (some ⟨S.next,0,none⟩))∧t.get 11=some (.int .i64 (r70 a (h.rooms.length:Int)))∧t.get 12=some (.int .i64 cur)∧t.get 13=some (.int .i64 tm_)∧t.get 14=some (v_steps)∧t.get 15=some (.int .i64 (iv:Int))∧t.get 60=some (.bool j23_0)∧S21=S') (fun tl23=>?_) (fun t23 S23 hn23 hq23=>?_)
   ·try simp (disch:=first|omega|assumption) only [E0_G,SY,setArgs,off,agreeKind,partVals,vals,allocV,boxed,ldA,rdCells,oneB,aggD,aField,aFieldV,aExtract,eq_self,ne_eq,if_true,if_false,not_false_eq_true,Nat.reduceAdd,Nat.reduceSub,Nat.reduceMul,Nat.reduceLT,Nat.reduceEqDiff,Nat.reduceBEq,reduceIte,Int.reduceEq,Int.reduceLT,Int.reduceLE,reduceCtorEq,TY_EvH36,g21_2,g21_3,g21_4,g21_5,g21_11,g21_12,g21_13,g21_14,g21_15,bb21_1,h12a,h13a,h16a,w19,w22] at hL23
    rcases dP ((iv:Int)<(l.length:Int)) with ⟨h25a,h25⟩|⟨h25a,h25⟩
    ·try simp (disch:=first|omega|assumption) only [E0_G,SY,off,agreeKind,Nat.reduceAdd,Nat.reduceLT,Nat.reduceBEq,g21_15,h25a] at hL23
     refine tl23 _ _ hL23.symm ⟨decide ((iv:Int)<12),by simp only [eq_true h25,true_and],?_,?_,?_,?_,?_,?_,?_,?_,?_,?_,rfl⟩<;>first|(simp only [SY,eq_self,Nat.reduceBEq,g21_2,g21_3,g21_4,g21_5,g21_11,g21_12,g21_13,g21_14,g21_15]<;>rfl)|omega|assumption|(simp; omega)|simp
    try simp (disch:=first|omega|assumption) only [E0_G,SY,off,agreeKind,Nat.reduceAdd,Nat.reduceLT,Nat.reduceBEq,h25a] at hL23
    refine tl23 _ _ hL23.symm ⟨false,by simp only [eq_false h25,false_and,decide_false],?_,?_,?_,?_,?_,?_,?_,?_,?_,?_,rfl⟩<;>first|(simp only [SY,eq_self,Nat.reduceBEq,g21_2,g21_3,g21_4,g21_5,g21_11,g21_12,g21_13,g21_14,g21_15]<;>rfl)|omega|assumption|(simp; omega)|simp
   subst hn23
   obtain ⟨j23_0,rfl,g23_2,g23_3,g23_4,g23_5,g23_11,g23_12,g23_13,g23_14,g23_15,g23_60,rfl⟩:=hq23
   try simp (disch:=first|omega|assumption) only [E0_G,SY,g23_60] at he
   rcases dP (((iv:Int)<(l.length:Int))∧((iv:Int)<12)) with ⟨h26a,h26⟩|⟨h26a,h26⟩
   ·simp only [h26a] at he
    have h27:(iv:Int)<(l.length:Int):=h26.1
    have h27a:=decide_eq_true h27
    have h28:(iv:Int)<12:=h26.2
    have h28a:=decide_eq_true h28
    have w29:=(hv_h_ways.agree ga21).len (P:=Tryz.prog) (t:=24) Tryz.underlying24
    try simp (disch:=first|omega|assumption) only [E0_G,SY,off,agreeKind,ldA,aggD,aField,Nat.reduceAdd,Nat.reduceLT,Nat.reduceBEq,TY_EvH36,bb21_1,g23_5,w29] at he
    rcases dP ((h.ways.length:Int)=0) with ⟨h30a,h30⟩|⟨h30a,h30⟩
    ·try simp (disch:=first|omega|assumption) only [SY,if_false,reduceCtorEq,h30a] at he
     obtain ⟨m',rfl⟩:∃ m',m=m'+1:=⟨m - 1,by omega⟩
     have hf:=(show _=(.inr (cur,tm_,steps):Sum (Bool) (Int × Int × (List Stp))) from (if_pos h26).trans ((if_pos h30).trans (rfl))).symm.trans hd21
     refine .exit he (.inl ⟨rfl,⟨cur,tm_,v_steps,steps,iv,?_,?_,?_,?_,?_,?_,bb21_1,ga21,by omega,(ow_steps.low (by omega)),?_,?_,?_,?_,?_,?_,?_,hf.symm⟩⟩)<;>first|(simp only [SY,eq_self,Nat.reduceBEq,g23_2,g23_5,g23_11,g23_12,g23_13,g23_14]<;>rfl)|omega|assumption|(simp; omega)|simp
    try simp (disch:=first|omega|assumption) only [SY,h30a] at he
    rw [code_draws _ _ _ (by kernel_rfl)] at he
    generalize hnd31:needy _=nd31 at he
    have hx32:l[iv]?=some (lget l iv):=lget_some (by first|omega|simp; omega)
    obtain ⟨id32,of32,cc32,ty32,wr32,ex32,i32,j32,l32,q32⟩:=(hv_l).at (P:=Tryz.prog) (t:=54) Tryz.underlying54 tz3 hx32
    have jr32:=j32
    have j32:=(ga21.2 id32 l32).trans jr32
    have m32_0:cc32[of32]?=some (.int .i64 (lget l iv)):=q32 0 (show 0<1 by decide)
    have w33:=(hv_h_ways.agree ga21).len (P:=Tryz.prog) (t:=24) Tryz.underlying24
    obtain ⟨S34,k34,a34⟩:=c70w (lget l iv) (h.ways.length:Int) (by have:=(r68_ok (h:=h) (by assumption)).1.w; omega) S21
    have l34:=a34.1
    have s34:E0.same S21 S34=true:=symEnv_same a34
    have v1_34:=(a34.2 S.next (by omega)).trans bb21_1
    have v32_34:=(a34.2 id32 (by omega)).trans j32
    have ow_35:=ow_steps.agree a34
    have g34:Agree S S34:=ga21.trans a34
    have p34:=r70_okw (n:=(lget l iv)) (k:=(h.ways.length:Int)) ⟨by have:=rooms_pos hV; omega,by have:=(r68_ok (h:=h) (by assumption)).1.w; omega⟩
    have qz36:((Int.toNat (r70 (lget l iv) (h.ways.length:Int)):Nat):Int)=(r70 (lget l iv) (h.ways.length:Int)):=Int.toNat_of_nonneg (by first|omega|simp; omega)
    have hx37:h.ways[(Int.toNat (r70 (lget l iv) (h.ways.length:Int)))]?=some (lget h.ways (Int.toNat (r70 (lget l iv) (h.ways.length:Int)))):=lget_some (by first|omega|simp; omega)
    obtain ⟨⟨_,_⟩,⟨_,_⟩,⟨_,_⟩,⟨_,_⟩,⟨_,_⟩⟩:=okw hV (List.mem_of_getElem? hx37)
    obtain ⟨id37,of37,cc37,ty37,wr37,ex37,i37,j37,l37,q37⟩:=(hv_h_ways).at (P:=Tryz.prog) (t:=24) Tryz.underlying24 tz92 hx37
    have jr37:=j37
    have j37:=(g34.2 id37 l37).trans jr37
    have m37_0:cc37[of37]?=some (.int .i64 ((lget h.ways (Int.toNat (r70 (lget l iv) (h.ways.length:Int)))).a)):=q37 0 (show 0<5 by decide)
    have m37_1:cc37[of37+1]?=some (.int .i64 ((lget h.ways (Int.toNat (r70 (lget l iv) (h.ways.length:Int)))).b)):=q37 1 (show 1<5 by decide)
    have m37_2:cc37[of37+2]?=some (.int .i64 ((lget h.ways (Int.toNat (r70 (lget l iv) (h.ways.length:Int)))).secs)):=q37 2 (show 2<5 by decide)
    have m37_3:cc37[of37+3]?=some (.int .i64 ((lget h.ways (Int.toNat (r70 (lget l iv) (h.ways.length:Int)))).back)):=q37 3 (show 3<5 by decide)
    have m37_4:cc37[of37+4]?=some (.int .i64 ((lget h.ways (Int.toNat (r70 (lget l iv) (h.ways.length:Int)))).door)):=q37 4 (show 4<5 by decide)
    rw [qz36] at i37
    have qz38:((Int.toNat (r70 (lget l iv) (h.ways.length:Int)):Nat):Int)=(r70 (lget l iv) (h.ways.length:Int)):=Int.toNat_of_nonneg (by first|omega|simp; omega)
    obtain ⟨⟨_,_⟩,⟨_,_⟩,⟨_,_⟩,⟨_,_⟩,⟨_,_⟩⟩:=okw hV (List.mem_of_getElem? hx37)
    obtain ⟨id39,of39,cc39,ty39,wr39,ex39,i39,j39,l39,q39⟩:=(hv_h_ways).at (P:=Tryz.prog) (t:=24) Tryz.underlying24 tz92 hx37
    have jr39:=j39
    have j39:=(g34.2 id39 l39).trans jr39
    have j39_37:=(g34.2 id37 l37).trans jr37
    have m39_0:cc39[of39]?=some (.int .i64 ((lget h.ways (Int.toNat (r70 (lget l iv) (h.ways.length:Int)))).a)):=q39 0 (show 0<5 by decide)
    have m39_1:cc39[of39+1]?=some (.int .i64 ((lget h.ways (Int.toNat (r70 (lget l iv) (h.ways.length:Int)))).b)):=q39 1 (show 1<5 by decide)
    have m39_2:cc39[of39+2]?=some (.int .i64 ((lget h.ways (Int.toNat (r70 (lget l iv) (h.ways.length:Int)))).secs)):=q39 2 (show 2<5 by decide)
    have m39_3:cc39[of39+3]?=some (.int .i64 ((lget h.ways (Int.toNat (r70 (lget l iv) (h.ways.length:Int)))).back)):=q39 3 (show 3<5 by decide)
    have m39_4:cc39[of39+4]?=some (.int .i64 ((lget h.ways (Int.toNat (r70 (lget l iv) (h.ways.length:Int)))).door)):=q39 4 (show 4<5 by decide)
    rw [qz38] at i39
    try simp (disch:=first|omega|assumption) only [E0_G,SY,off,agreeKind,vals,ldA,aggD,aField,Nat.reduceAdd,Nat.reduceLT,Nat.reduceBEq,TY_EvH36,bb21_1,g23_3,g23_5,g23_12,g23_15,w29,store_agree,store_refl E0_same,i32,j32,m32_0,k34,v1_34,i37,j37,m37_0,m37_1] at he
    generalize hL40:behind _ _=L40 at he
    refine join_reg hL40 (fun t S'=>∃ (j40_0:Bool),j40_0=decide ((¬ (((lget h.ways (Int.toNat (r70 (lget l iv) (h.ways.length:Int)))).a)=cur))∧((¬ (((lget h.ways (Int.toNat (r70 (lget l iv) (h.ways.length:Int)))).b)=cur))∨(((lget h.ways (Int.toNat (r70 (lget l iv) (h.ways.length:Int)))).back)=0)))∧t.get 2=some (.int .i64 t0)∧t.get 3=some (v_l)∧t.get 4=some (v_q)∧t.get 5=some (.pointer (some ⟨S.next,0,none⟩))∧t.get 11=some (.int .i64 (r70 a (h.rooms.length:Int)))∧t.get 12=some (.int .i64 cur)∧t.get 13=some (.int .i64 tm_)∧t.get 14=some (v_steps)∧t.get 15=some (.int .i64 (iv:Int))∧t.get 16=some (.int .i64 (r70 (lget l iv) (h.ways.length:Int)))∧t.get 17=some (.bool (decide (((lget h.ways (Int.toNat (r70 (lget l iv) (h.ways.length:Int)))).b)=cur)))∧t.get 103=some (.bool j40_0)∧S34=S') (fun tl40=>?_) (fun t40 S40 hn40 hq40=>?_)
    ·try simp (disch:=first|omega|assumption) only [E0_G,SY,setArgs,off,agreeKind,partVals,vals,allocV,boxed,ldA,rdCells,oneB,aggD,aField,aFieldV,aExtract,eq_self,ne_eq,if_true,if_false,not_false_eq_true,Nat.reduceAdd,Nat.reduceSub,Nat.reduceMul,Nat.reduceLT,Nat.reduceEqDiff,Nat.reduceBEq,reduceIte,Int.reduceEq,Int.reduceLT,Int.reduceLE,reduceCtorEq,TY_EvH36,bb21_1,h12a,h13a,h16a,w19,w22,g23_2,g23_3,g23_4,g23_5,g23_11,g23_12,g23_13,g23_14,g23_15,g23_60,h26a,h27a,h28a,w29,h30a,store_agree,store_refl E0_same,i32,j32,m32_0,w33,k34,s34,v1_34,v32_34,i37,j37,m37_0,m37_1,m37_2,m37_3,m37_4,j39_37,i39,j39,m39_0,m39_1,m39_2,m39_3,m39_4] at hL40
     rcases dP (((lget h.ways (Int.toNat (r70 (lget l iv) (h.ways.length:Int)))).a)=cur) with ⟨h45a,h45⟩|⟨h45a,h45⟩
     ·try simp (disch:=first|omega|assumption) only [E0_G,SY,off,agreeKind,Nat.reduceAdd,Nat.reduceLT,Nat.reduceBEq,store_refl E0_same,h45a] at hL40
      refine tl40 _ _ hL40.symm ⟨false,by simp only [eq_true h45,false_and,not_true_eq_false,decide_false],?_,?_,?_,?_,?_,?_,?_,?_,?_,?_,?_,?_,rfl⟩<;>first|(simp only [SY,eq_self,Nat.reduceBEq,g23_2,g23_3,g23_4,g23_5,g23_11,g23_12,g23_13,g23_14,g23_15]<;>rfl)|omega|assumption|(simp; omega)|simp
     try simp (disch:=first|omega|assumption) only [E0_G,SY,off,agreeKind,Nat.reduceAdd,Nat.reduceLT,Nat.reduceBEq,store_refl E0_same,h45a] at hL40
     rcases dP (((lget h.ways (Int.toNat (r70 (lget l iv) (h.ways.length:Int)))).b)=cur) with ⟨h46a,h46⟩|⟨h46a,h46⟩
     ·have qz47:((Int.toNat (r70 (lget l iv) (h.ways.length:Int)):Nat):Int)=(r70 (lget l iv) (h.ways.length:Int)):=Int.toNat_of_nonneg (by first|omega|simp; omega)
      obtain ⟨⟨_,_⟩,⟨_,_⟩,⟨_,_⟩,⟨_,_⟩,⟨_,_⟩⟩:=okw hV (List.mem_of_getElem? hx37)
      obtain ⟨id48,of48,cc48,ty48,wr48,ex48,i48,j48,l48,q48⟩:=(hv_h_ways).at (P:=Tryz.prog) (t:=24) Tryz.underlying24 tz92 hx37
      have j48:=(g34.2 id48 l48).trans j48
      have j48_37:=(g34.2 id37 l37).trans jr37
      have j48_39:=(g34.2 id39 l39).trans jr39
      have m48_0:cc48[of48]?=some (.int .i64 ((lget h.ways (Int.toNat (r70 (lget l iv) (h.ways.length:Int)))).a)):=q48 0 (show 0<5 by decide)
      have m48_1:cc48[of48+1]?=some (.int .i64 ((lget h.ways (Int.toNat (r70 (lget l iv) (h.ways.length:Int)))).b)):=q48 1 (show 1<5 by decide)
      have m48_2:cc48[of48+2]?=some (.int .i64 ((lget h.ways (Int.toNat (r70 (lget l iv) (h.ways.length:Int)))).secs)):=q48 2 (show 2<5 by decide)
      have m48_3:cc48[of48+3]?=some (.int .i64 ((lget h.ways (Int.toNat (r70 (lget l iv) (h.ways.length:Int)))).back)):=q48 3 (show 3<5 by decide)
      have m48_4:cc48[of48+4]?=some (.int .i64 ((lget h.ways (Int.toNat (r70 (lget l iv) (h.ways.length:Int)))).door)):=q48 4 (show 4<5 by decide)
      rw [qz47] at i48
      try simp (disch:=first|omega|assumption) only [E0_G,SY,off,agreeKind,ldA,aggD,aField,Nat.reduceAdd,Nat.reduceLT,Nat.reduceBEq,TY_EvH36,g23_5,store_refl E0_same,v1_34,i37,j37,m37_3,h46a] at hL40
      refine tl40 _ _ hL40.symm ⟨decide (((lget h.ways (Int.toNat (r70 (lget l iv) (h.ways.length:Int)))).back)=0),by simp only [eq_false h45,eq_true h46,true_and,false_or,not_true_eq_false,not_false_eq_true],?_,?_,?_,?_,?_,?_,?_,?_,?_,?_,?_,?_,rfl⟩<;>first|(simp only [SY,eq_self,Nat.reduceBEq,g23_2,g23_3,g23_4,g23_5,g23_11,g23_12,g23_13,g23_14,g23_15,h46a]<;>rfl)|omega|assumption|(simp; omega)|simp
     try simp (disch:=first|omega|assumption) only [E0_G,SY,off,agreeKind,Nat.reduceAdd,Nat.reduceLT,Nat.reduceBEq,store_refl E0_same,h46a] at hL40
     refine tl40 _ _ hL40.symm ⟨true,by simp only [eq_false h45,eq_false h46,and_true,true_or,not_false_eq_true,decide_true],?_,?_,?_,?_,?_,?_,?_,?_,?_,?_,?_,?_,rfl⟩<;>first|(simp only [SY,eq_self,Nat.reduceBEq,g23_2,g23_3,g23_4,g23_5,g23_11,g23_12,g23_13,g23_14,g23_15,h46a]<;>rfl)|omega|assumption|(simp; omega)|simp
    subst hn40
    obtain ⟨j40_0,rfl,g40_2,g40_3,g40_4,g40_5,g40_11,g40_12,g40_13,g40_14,g40_15,g40_16,g40_17,g40_103,rfl⟩:=hq40
    try simp (disch:=first|omega|assumption) only [E0_G,SY,store_refl E0_same,g40_103] at he
    rcases dP ((¬ (((lget h.ways (Int.toNat (r70 (lget l iv) (h.ways.length:Int)))).a)=cur))∧((¬ (((lget h.ways (Int.toNat (r70 (lget l iv) (h.ways.length:Int)))).b)=cur))∨(((lget h.ways (Int.toNat (r70 (lget l iv) (h.ways.length:Int)))).back)=0))) with ⟨h49a,h49⟩|⟨h49a,h49⟩
    ·simp only [h49a] at he
     have h50:¬ (((lget h.ways (Int.toNat (r70 (lget l iv) (h.ways.length:Int)))).a)=cur):=h49.1
     have h50a:=decide_eq_false h50
     have w51:IntKind.i64.wrap ((iv:Int)+1)=((iv+1:Nat):Int):=by rw [IntWalk.i64_in]<;>omega
     try simp (disch:=first|omega|assumption) only [E0_G,SY,off,agreeKind,eq_self,if_true,Nat.reduceAdd,Nat.reduceLT,Nat.reduceBEq,store_refl E0_same,g40_15,w51] at he
     obtain ⟨m',rfl⟩:∃ m',m=m'+1:=⟨m - 1,by omega⟩
     have hf:=(show _=(R16_0 h a t0 l q m' cur tm_ steps (iv+1):Sum (Bool) (Int × Int × (List Stp))) from (if_pos h26).trans ((if_neg h30).trans ((if_pos h49).trans (rfl)))).symm.trans hd21
     refine .next he m' (by omega) ⟨cur,tm_,v_steps,steps,(iv+1),?_,?_,?_,?_,?_,?_,?_,?_,?_,?_,?_,?_,?_,?_,?_,?_,?_,v1_34,g34,by omega,(ow_35.low (by omega)),hf⟩<;>first|(simp only [SY,eq_self,Nat.reduceBEq,g40_2,g40_3,g40_4,g40_5,g40_11,g40_12,g40_13,g40_14,g40_15]<;>rfl)|omega|assumption|(simp; omega)|simp
    simp only [h49a] at he
    have w52:=(hv_q.agree g34).len (P:=Tryz.prog) (t:=54) Tryz.underlying54
    try simp (disch:=first|omega|assumption) only [E0_G,SY,off,agreeKind,Nat.reduceAdd,Nat.reduceLT,Nat.reduceBEq,store_refl E0_same,g40_4,g40_13,g40_15,w52] at he
    generalize hL53:condRun _ _ _ _ _ _ _ _=L53 at he
    refine join_met hL53 (fun t S'=>∃ (j53_0:Int),j53_0=(if (iv:Int)<(q.length:Int) then tm_+(r70 (lget q iv) 3000) else tm_)∧0≤j53_0∧j53_0≤1073744823∧t.get 2=some (.int .i64 t0)∧t.get 3=some (v_l)∧t.get 4=some (v_q)∧t.get 5=some (.pointer (some ⟨S.next,0,none⟩))∧t.get 11=some (.int .i64 (r70 a (h.rooms.length:Int)))∧t.get 12=some (.int .i64 cur)∧t.get 13=some (.int .i64 tm_)∧t.get 14=some (v_steps)∧t.get 15=some (.int .i64 (iv:Int))∧t.get 16=some (.int .i64 (r70 (lget l iv) (h.ways.length:Int)))∧t.get 17=some (.bool (decide (((lget h.ways (Int.toNat (r70 (lget l iv) (h.ways.length:Int)))).b)=cur)))∧t.get 18=some (.int .i64 j53_0)∧S'.heap.get S.next=some (.cells [v_h_rooms,v_h_doors,v_h_ways] 26 0 true true)∧Agree S S'∧S34.next≤S'.next∧Own 94 S20.next S' v_steps steps) (fun tl53=>?_) (fun t53 S53 hn53 hq53=>?_)
    ·try simp (disch:=first|omega|assumption) only [E0_G,SY,setArgs,off,agreeKind,partVals,vals,allocV,boxed,ldA,rdCells,oneB,aggD,aField,aFieldV,aExtract,eq_self,ne_eq,if_true,if_false,not_false_eq_true,Nat.reduceAdd,Nat.reduceSub,Nat.reduceMul,Nat.reduceLT,Nat.reduceEqDiff,Nat.reduceBEq,reduceIte,Int.reduceEq,Int.reduceLT,Int.reduceLE,reduceCtorEq,TY_EvH36,bb21_1,h12a,h13a,h16a,w19,w22,h26a,h27a,h28a,w29,h30a,store_agree,store_refl E0_same,i32,j32,m32_0,w33,k34,s34,v1_34,v32_34,i37,j37,m37_0,m37_1,m37_2,m37_3,m37_4,j39_37,i39,j39,m39_0,m39_1,m39_2,m39_3,m39_4,g40_2,g40_3,g40_4,g40_5,g40_11,g40_12,g40_13,g40_14,g40_15,g40_16,g40_17,g40_103,h49a,w52] at hL53
     rcases dP ((iv:Int)<(q.length:Int)) with ⟨h59a,h59⟩|⟨h59a,h59⟩
     ·have hx60:q[iv]?=some (lget q iv):=lget_some (by first|omega|simp; omega)
      obtain ⟨id60,of60,cc60,ty60,wr60,ex60,i60,j60,l60,q60⟩:=(hv_q).at (P:=Tryz.prog) (t:=54) Tryz.underlying54 tz3 hx60
      have j60:=(g34.2 id60 l60).trans j60
      have m60_0:cc60[of60]?=some (.int .i64 (lget q iv)):=q60 0 (show 0<1 by decide)
      obtain ⟨S61,k61,a61⟩:=c70w (lget q iv) 3000 (by have:=(r68_ok (h:=h) (by assumption)).1.w; omega) S34
      have l61:=a61.1
      have s61:E0.same S34 S61=true:=symEnv_same a61
      have v1_61:=(a61.2 S.next (by omega)).trans v1_34
      have ow_62:=ow_35.agree a61
      have g61:Agree S S61:=g34.trans a61
      have p61:=r70_okw (n:=(lget q iv)) (k:=3000) ⟨by have:=rooms_pos hV; omega,by have:=(r68_ok (h:=h) (by assumption)).1.w; omega⟩
      have w63:IntKind.i64.wrap (tm_+(r70 (lget q iv) 3000))=tm_+(r70 (lget q iv) 3000):=by rw [IntWalk.i64_in]; omega
      try simp (disch:=first|omega|assumption) only [E0_G,SY,off,agreeKind,vals,ldA,aggD,Nat.reduceAdd,Nat.reduceLT,Nat.reduceBEq,TY_EvH36,store_agree,store_refl E0_same,g40_4,g40_13,g40_15,h59a,i60,j60,m60_0,k61,w63] at hL53
      refine tl53 _ _ hL53.symm ⟨tm_+(r70 (lget q iv) 3000),show _=_ from ((if_pos h59).trans (rfl)).symm,?_,?_,?_,?_,?_,?_,?_,?_,?_,?_,?_,?_,?_,?_,v1_61,g61,by omega,ow_62⟩<;>first|(simp only [SY,eq_self,Nat.reduceBEq,g40_2,g40_3,g40_4,g40_5,g40_11,g40_12,g40_13,g40_14,g40_15,g40_16,g40_17]<;>rfl)|omega|assumption|(simp; omega)|simp
     try simp (disch:=first|omega|assumption) only [SY,store_refl E0_same,h59a] at hL53
     refine tl53 _ _ hL53.symm ⟨tm_,show _=_ from ((if_neg h59).trans (rfl)).symm,?_,?_,?_,?_,?_,?_,?_,?_,?_,?_,?_,?_,?_,?_,v1_34,g34,by omega,ow_35⟩<;>first|(simp only [SY,eq_self,Nat.reduceBEq,g40_2,g40_3,g40_4,g40_5,g40_11,g40_12,g40_13,g40_14,g40_15,g40_16,g40_17]<;>rfl)|omega|assumption|(simp; omega)|simp
    subst hn53
    obtain ⟨j53_0,rfl,hv53_0,hv53_1,g53_2,g53_3,g53_4,g53_5,g53_11,g53_12,g53_13,g53_14,g53_15,g53_16,g53_17,g53_18,bj53_1,gj53,gl53,oj53_0⟩:=hq53
    have bj53_32:=(gj53.2 id32 l32).trans jr32
    have bj53_37:=(gj53.2 id37 l37).trans jr37
    have bj53_39:=(gj53.2 id39 l39).trans jr39
    try simp (disch:=first|omega|assumption) only [E0_G,SY,off,agreeKind,Nat.reduceAdd,Nat.reduceLT,Nat.reduceBEq,store_refl E0_same,g53_18] at he
    rcases dP (1073741823<(if (iv:Int)<(q.length:Int) then tm_+(r70 (lget q iv) 3000) else tm_)) with ⟨h64a,h64⟩|⟨h64a,h64⟩
    ·try simp (disch:=first|omega|assumption) only [SY,if_false,reduceCtorEq,store_refl E0_same,h64a] at he
     obtain ⟨m',rfl⟩:∃ m',m=m'+1:=⟨m - 1,by omega⟩
     have hf:=(show _=(.inr (cur,tm_,steps):Sum (Bool) (Int × Int × (List Stp))) from (if_pos h26).trans ((if_neg h30).trans ((if_neg h49).trans ((if_pos h64).trans (rfl))))).symm.trans hd21
     refine .exit he (.inl ⟨rfl,⟨cur,tm_,v_steps,steps,iv,?_,?_,?_,?_,?_,?_,bj53_1,gj53,by omega,(oj53_0.low (by omega)),?_,?_,?_,?_,?_,?_,?_,hf.symm⟩⟩)<;>first|(simp only [SY,eq_self,Nat.reduceBEq,g53_2,g53_5,g53_11,g53_12,g53_13,g53_14]<;>rfl)|omega|assumption|(simp; omega)|simp
    have qz65:((Int.toNat (r70 (lget l iv) (h.ways.length:Int)):Nat):Int)=(r70 (lget l iv) (h.ways.length:Int)):=Int.toNat_of_nonneg (by first|omega|simp; omega)
    obtain ⟨⟨_,_⟩,⟨_,_⟩,⟨_,_⟩,⟨_,_⟩,⟨_,_⟩⟩:=okw hV (List.mem_of_getElem? hx37)
    obtain ⟨id66,of66,cc66,ty66,wr66,ex66,i66,j66,l66,q66⟩:=(hv_h_ways).at (P:=Tryz.prog) (t:=24) Tryz.underlying24 tz92 hx37
    have jr66:=j66
    have j66:=(gj53.2 id66 l66).trans jr66
    have j66_37:=(gj53.2 id37 l37).trans jr37
    have j66_39:=(gj53.2 id39 l39).trans jr39
    have m66_0:cc66[of66]?=some (.int .i64 ((lget h.ways (Int.toNat (r70 (lget l iv) (h.ways.length:Int)))).a)):=q66 0 (show 0<5 by decide)
    have m66_1:cc66[of66+1]?=some (.int .i64 ((lget h.ways (Int.toNat (r70 (lget l iv) (h.ways.length:Int)))).b)):=q66 1 (show 1<5 by decide)
    have m66_2:cc66[of66+2]?=some (.int .i64 ((lget h.ways (Int.toNat (r70 (lget l iv) (h.ways.length:Int)))).secs)):=q66 2 (show 2<5 by decide)
    have m66_3:cc66[of66+3]?=some (.int .i64 ((lget h.ways (Int.toNat (r70 (lget l iv) (h.ways.length:Int)))).back)):=q66 3 (show 3<5 by decide)
    have m66_4:cc66[of66+4]?=some (.int .i64 ((lget h.ways (Int.toNat (r70 (lget l iv) (h.ways.length:Int)))).door)):=q66 4 (show 4<5 by decide)
    rw [qz65] at i66
    try simp (disch:=first|omega|assumption) only [E0_G,SY,off,agreeKind,ldA,aggD,aField,Nat.reduceAdd,Nat.reduceLT,Nat.reduceBEq,TY_EvH36,store_refl E0_same,i37,m37_4,g53_5,g53_16,bj53_1,bj53_37,h64a] at he
    generalize hL67:condRun _ _ _ _ _ _ _ _=L67 at he
    refine join_met hL67 (fun t S'=>∃ (j67_0:Int),j67_0=(if 0≤((lget h.ways (Int.toNat (r70 (lget l iv) (h.ways.length:Int)))).door) then (if ((r28 h ((lget h.ways (Int.toNat (r70 (lget l iv) (h.ways.length:Int)))).door) (if (iv:Int)<(q.length:Int) then tm_+(r70 (lget q iv) 3000) else tm_)).2)=0 then (r28 h ((lget h.ways (Int.toNat (r70 (lget l iv) (h.ways.length:Int)))).door) (if (iv:Int)<(q.length:Int) then tm_+(r70 (lget q iv) 3000) else tm_)).1 else 0) else (if (iv:Int)<(q.length:Int) then tm_+(r70 (lget q iv) 3000) else tm_))∧(if 0≤((lget h.ways (Int.toNat (r70 (lget l iv) (h.ways.length:Int)))).door) then (if ((r28 h ((lget h.ways (Int.toNat (r70 (lget l iv) (h.ways.length:Int)))).door) (if (iv:Int)<(q.length:Int) then tm_+(r70 (lget q iv) 3000) else tm_)).2)=0 then true else false) else true)=true∧0≤j67_0∧j67_0≤1073744823∧t.get 2=some (.int .i64 t0)∧t.get 3=some (v_l)∧t.get 4=some (v_q)∧t.get 5=some (.pointer (some ⟨S.next,0,none⟩))∧t.get 11=some (.int .i64 (r70 a (h.rooms.length:Int)))∧t.get 12=some (.int .i64 cur)∧t.get 13=some (.int .i64 tm_)∧t.get 14=some (v_steps)∧t.get 15=some (.int .i64 (iv:Int))∧t.get 16=some (.int .i64 (r70 (lget l iv) (h.ways.length:Int)))∧t.get 17=some (.bool (decide (((lget h.ways (Int.toNat (r70 (lget l iv) (h.ways.length:Int)))).b)=cur)))∧t.get 18=some (.int .i64 j67_0)∧S'.heap.get S.next=some (.cells [v_h_rooms,v_h_doors,v_h_ways] 26 0 true true)∧Agree S S'∧S53.next≤S'.next∧Own 94 S20.next S' v_steps steps) (fun tl67=>?_) (fun t67 S67 hn67 hq67=>?_)
    ·try simp (disch:=first|omega|assumption) only [E0_G,SY,setArgs,off,agreeKind,partVals,vals,allocV,boxed,ldA,rdCells,oneB,aggD,aField,aFieldV,aExtract,eq_self,ne_eq,if_true,if_false,not_false_eq_true,Nat.reduceAdd,Nat.reduceSub,Nat.reduceMul,Nat.reduceLT,Nat.reduceEqDiff,Nat.reduceBEq,reduceIte,Int.reduceEq,Int.reduceLT,Int.reduceLE,reduceCtorEq,TY_EvH36,bb21_1,h12a,h13a,h16a,w19,w22,h26a,h27a,h28a,w29,h30a,store_agree,store_refl E0_same,i32,j32,m32_0,w33,k34,s34,v1_34,v32_34,i37,j37,m37_0,m37_1,m37_2,m37_3,m37_4,j39_37,i39,j39,m39_0,m39_1,m39_2,m39_3,m39_4,h49a,w52,g53_2,g53_3,g53_4,g53_5,g53_11,g53_12,g53_13,g53_14,g53_15,g53_16,g53_17,g53_18,bj53_1,bj53_32,bj53_37,bj53_39,h64a,j66_37,j66_39,i66,j66,m66_0,m66_1,m66_2,m66_3,m66_4] at hL67
     rcases dP (0≤((lget h.ways (Int.toNat (r70 (lget l iv) (h.ways.length:Int)))).door)) with ⟨h75a,h75⟩|⟨h75a,h75⟩
     ·try simp (disch:=first|omega|assumption) only [SY,store_refl E0_same,h75a] at hL67
      rw [code_draws _ _ _ (by kernel_rfl)] at hL67
      generalize hnd76:needy _=nd76 at hL67
      have qz77:((Int.toNat (r70 (lget l iv) (h.ways.length:Int)):Nat):Int)=(r70 (lget l iv) (h.ways.length:Int)):=Int.toNat_of_nonneg (by first|omega|simp; omega)
      obtain ⟨⟨_,_⟩,⟨_,_⟩,⟨_,_⟩,⟨_,_⟩,⟨_,_⟩⟩:=okw hV (List.mem_of_getElem? hx37)
      obtain ⟨id78,of78,cc78,ty78,wr78,ex78,i78,j78,l78,q78⟩:=(hv_h_ways).at (P:=Tryz.prog) (t:=24) Tryz.underlying24 tz92 hx37
      have j78:=(gj53.2 id78 l78).trans j78
      have j78_37:=(gj53.2 id37 l37).trans jr37
      have j78_39:=(gj53.2 id39 l39).trans jr39
      have j78_66:=(gj53.2 id66 l66).trans jr66
      have m78_0:cc78[of78]?=some (.int .i64 ((lget h.ways (Int.toNat (r70 (lget l iv) (h.ways.length:Int)))).a)):=q78 0 (show 0<5 by decide)
      have m78_1:cc78[of78+1]?=some (.int .i64 ((lget h.ways (Int.toNat (r70 (lget l iv) (h.ways.length:Int)))).b)):=q78 1 (show 1<5 by decide)
      have m78_2:cc78[of78+2]?=some (.int .i64 ((lget h.ways (Int.toNat (r70 (lget l iv) (h.ways.length:Int)))).secs)):=q78 2 (show 2<5 by decide)
      have m78_3:cc78[of78+3]?=some (.int .i64 ((lget h.ways (Int.toNat (r70 (lget l iv) (h.ways.length:Int)))).back)):=q78 3 (show 3<5 by decide)
      have m78_4:cc78[of78+4]?=some (.int .i64 ((lget h.ways (Int.toNat (r70 (lget l iv) (h.ways.length:Int)))).door)):=q78 4 (show 4<5 by decide)
      rw [qz77] at i78
      obtain ⟨S79,k79,a79⟩:=c28 h ((lget h.ways (Int.toNat (r70 (lget l iv) (h.ways.length:Int)))).door) (if (iv:Int)<(q.length:Int) then tm_+(r70 (lget q iv) 3000) else tm_) (r68_ok (by assumption)).1 hs S53 (v_h_rooms) (hv_h_rooms.agree gj53) (v_h_doors) (hv_h_doors.agree gj53) (v_h_ways) (hv_h_ways.agree gj53)
      have l79:=a79.1
      have s79:E0.same S53 S79=true:=symEnv_same a79
      have v1_79:=(a79.2 S.next (by omega)).trans bj53_1
      have oj53_80:=oj53_0.agree a79
      have g79:Agree S S79:=gj53.trans a79
      have p79:=r28_rng h ((lget h.ways (Int.toNat (r70 (lget l iv) (h.ways.length:Int)))).door) (if (iv:Int)<(q.length:Int) then tm_+(r70 (lget q iv) 3000) else tm_)
      try simp (disch:=first|omega|assumption) only [E0_G,SY,off,agreeKind,vals,ldA,rdCells,aggD,aField,aExtract,Nat.reduceAdd,Nat.reduceLT,Nat.reduceBEq,TY_EvH36,store_agree,store_refl E0_same,i37,m37_4,g53_5,g53_16,g53_18,bj53_1,bj53_37,k79] at hL67
      rcases dP (((r28 h ((lget h.ways (Int.toNat (r70 (lget l iv) (h.ways.length:Int)))).door) (if (iv:Int)<(q.length:Int) then tm_+(r70 (lget q iv) 3000) else tm_)).2)=0) with ⟨h81a,h81⟩|⟨h81a,h81⟩
      ·try simp (disch:=first|omega|assumption) only [E0_G,SY,off,agreeKind,Nat.reduceAdd,Nat.reduceLT,Nat.reduceBEq,store_refl E0_same,h81a] at hL67
       refine tl67 _ _ hL67.symm ⟨(r28 h ((lget h.ways (Int.toNat (r70 (lget l iv) (h.ways.length:Int)))).door) (if (iv:Int)<(q.length:Int) then tm_+(r70 (lget q iv) 3000) else tm_)).1,show _=_ from ((if_pos h75).trans ((if_pos h81).trans (rfl))).symm,(if_pos h75).trans ((if_pos h81).trans (rfl)),?_,?_,?_,?_,?_,?_,?_,?_,?_,?_,?_,?_,?_,?_,v1_79,g79,by omega,oj53_80⟩<;>first|(simp only [SY,eq_self,Nat.reduceBEq,g53_2,g53_3,g53_4,g53_5,g53_11,g53_12,g53_13,g53_14,g53_15,g53_16,g53_17,g53_18]<;>rfl)|omega|assumption|(simp; omega)|simp
      try simp (disch:=first|omega|assumption) only [E0_G,SY,off,agreeKind,Nat.reduceLT,store_refl E0_same,h81a] at hL67
      subst hL67
      have hN67_1:¬ ((if 0≤((lget h.ways (Int.toNat (r70 (lget l iv) (h.ways.length:Int)))).door) then (if ((r28 h ((lget h.ways (Int.toNat (r70 (lget l iv) (h.ways.length:Int)))).door) (if (iv:Int)<(q.length:Int) then tm_+(r70 (lget q iv) 3000) else tm_)).2)=0 then true else false) else true)=true):=by rw [show (if 0≤((lget h.ways (Int.toNat (r70 (lget l iv) (h.ways.length:Int)))).door) then (if ((r28 h ((lget h.ways (Int.toNat (r70 (lget l iv) (h.ways.length:Int)))).door) (if (iv:Int)<(q.length:Int) then tm_+(r70 (lget q iv) 3000) else tm_)).2)=0 then true else false) else true)=false from (if_pos h75).trans ((if_neg h81).trans (rfl))]; decide
      try simp (disch:=first|omega|assumption) only [SY,store_refl E0_same] at he
      obtain ⟨m',rfl⟩:∃ m',m=m'+1:=⟨m - 1,by omega⟩
      have hf:=(show _=(.inl false:Sum (Bool) (Int × Int × (List Stp))) from (if_pos h26).trans ((if_neg h30).trans ((if_neg h49).trans ((if_neg h64).trans ((if_neg hN67_1).trans (rfl)))))).symm.trans hd21
      refine .ret he (.inr ⟨rfl,⟨false,?_,g79,hf.symm⟩⟩)<;>first|(simp only [SY,eq_self,Nat.reduceBEq]<;>rfl)|omega|assumption|(simp; omega)|simp
     try simp (disch:=first|omega|assumption) only [SY,store_refl E0_same,h75a] at hL67
     refine tl67 _ _ hL67.symm ⟨(if (iv:Int)<(q.length:Int) then tm_+(r70 (lget q iv) 3000) else tm_),show _=_ from ((if_neg h75).trans (rfl)).symm,(if_neg h75).trans (rfl),?_,?_,?_,?_,?_,?_,?_,?_,?_,?_,?_,?_,?_,?_,bj53_1,gj53,by omega,oj53_0⟩<;>first|(simp only [SY,eq_self,Nat.reduceBEq,g53_2,g53_3,g53_4,g53_5,g53_11,g53_12,g53_13,g53_14,g53_15,g53_16,g53_17,g53_18]<;>rfl)|omega|assumption|(simp; omega)|simp
    subst hn67
    obtain ⟨j67_0,rfl,hN67,hv67_0,hv67_1,g67_2,g67_3,g67_4,g67_5,g67_11,g67_12,g67_13,g67_14,g67_15,g67_16,g67_17,g67_18,bj67_1,gj67,gl67,oj67_0⟩:=hq67
    have bj67_32:=(gj67.2 id32 l32).trans jr32
    have bj67_37:=(gj67.2 id37 l37).trans jr37
    have bj67_39:=(gj67.2 id39 l39).trans jr39
    have bj67_66:=(gj67.2 id66 l66).trans jr66
    have qz82:((Int.toNat (r70 (lget l iv) (h.ways.length:Int)):Nat):Int)=(r70 (lget l iv) (h.ways.length:Int)):=Int.toNat_of_nonneg (by first|omega|simp; omega)
    obtain ⟨⟨_,_⟩,⟨_,_⟩,⟨_,_⟩,⟨_,_⟩,⟨_,_⟩⟩:=okw hV (List.mem_of_getElem? hx37)
    obtain ⟨id83,of83,cc83,ty83,wr83,ex83,i83,j83,l83,q83⟩:=(hv_h_ways).at (P:=Tryz.prog) (t:=24) Tryz.underlying24 tz92 hx37
    have jr83:=j83
    have j83:=(gj67.2 id83 l83).trans jr83
    have j83_37:=(gj67.2 id37 l37).trans jr37
    have j83_39:=(gj67.2 id39 l39).trans jr39
    have j83_66:=(gj67.2 id66 l66).trans jr66
    have m83_0:cc83[of83]?=some (.int .i64 ((lget h.ways (Int.toNat (r70 (lget l iv) (h.ways.length:Int)))).a)):=q83 0 (show 0<5 by decide)
    have m83_1:cc83[of83+1]?=some (.int .i64 ((lget h.ways (Int.toNat (r70 (lget l iv) (h.ways.length:Int)))).b)):=q83 1 (show 1<5 by decide)
    have m83_2:cc83[of83+2]?=some (.int .i64 ((lget h.ways (Int.toNat (r70 (lget l iv) (h.ways.length:Int)))).secs)):=q83 2 (show 2<5 by decide)
    have m83_3:cc83[of83+3]?=some (.int .i64 ((lget h.ways (Int.toNat (r70 (lget l iv) (h.ways.length:Int)))).back)):=q83 3 (show 3<5 by decide)
    have m83_4:cc83[of83+4]?=some (.int .i64 ((lget h.ways (Int.toNat (r70 (lget l iv) (h.ways.length:Int)))).door)):=q83 4 (show 4<5 by decide)
    rw [qz82] at i83
    have qz84:((Int.toNat (r70 (lget l iv) (h.ways.length:Int)):Nat):Int)=(r70 (lget l iv) (h.ways.length:Int)):=Int.toNat_of_nonneg (by first|omega|simp; omega)
    obtain ⟨⟨_,_⟩,⟨_,_⟩,⟨_,_⟩,⟨_,_⟩,⟨_,_⟩⟩:=okw hV (List.mem_of_getElem? hx37)
    obtain ⟨id85,of85,cc85,ty85,wr85,ex85,i85,j85,l85,q85⟩:=(hv_h_ways).at (P:=Tryz.prog) (t:=24) Tryz.underlying24 tz92 hx37
    have jr85:=j85
    have j85:=(gj67.2 id85 l85).trans jr85
    have j85_37:=(gj67.2 id37 l37).trans jr37
    have j85_39:=(gj67.2 id39 l39).trans jr39
    have j85_66:=(gj67.2 id66 l66).trans jr66
    have j85_83:=(gj67.2 id83 l83).trans jr83
    have m85_0:cc85[of85]?=some (.int .i64 ((lget h.ways (Int.toNat (r70 (lget l iv) (h.ways.length:Int)))).a)):=q85 0 (show 0<5 by decide)
    have m85_1:cc85[of85+1]?=some (.int .i64 ((lget h.ways (Int.toNat (r70 (lget l iv) (h.ways.length:Int)))).b)):=q85 1 (show 1<5 by decide)
    have m85_2:cc85[of85+2]?=some (.int .i64 ((lget h.ways (Int.toNat (r70 (lget l iv) (h.ways.length:Int)))).secs)):=q85 2 (show 2<5 by decide)
    have m85_3:cc85[of85+3]?=some (.int .i64 ((lget h.ways (Int.toNat (r70 (lget l iv) (h.ways.length:Int)))).back)):=q85 3 (show 3<5 by decide)
    have m85_4:cc85[of85+4]?=some (.int .i64 ((lget h.ways (Int.toNat (r70 (lget l iv) (h.ways.length:Int)))).door)):=q85 4 (show 4<5 by decide)
    rw [qz84] at i85
    try simp (disch:=first|omega|assumption) only [E0_G,SY,off,agreeKind,ldA,aggD,aField,Nat.reduceAdd,Nat.reduceLT,Nat.reduceBEq,TY_EvH36,store_refl E0_same,i37,m37_1,m37_2,g67_5,g67_16,g67_17,bj67_1,bj67_37] at he
    generalize hL86:condRun _ _ _ _ _ _ _ _=L86 at he
    refine join_met hL86 (fun t S'=>∃ (j86_0:Int) (j86_1:Int),j86_0=(if ((lget h.ways (Int.toNat (r70 (lget l iv) (h.ways.length:Int)))).b)=cur then (lget h.ways (Int.toNat (r70 (lget l iv) (h.ways.length:Int)))).back else (lget h.ways (Int.toNat (r70 (lget l iv) (h.ways.length:Int)))).secs)∧j86_1=(if ((lget h.ways (Int.toNat (r70 (lget l iv) (h.ways.length:Int)))).b)=cur then (lget h.ways (Int.toNat (r70 (lget l iv) (h.ways.length:Int)))).a else (lget h.ways (Int.toNat (r70 (lget l iv) (h.ways.length:Int)))).b)∧0≤j86_0∧j86_0≤3600∧0≤j86_1∧j86_1<(h.rooms.length:Int)∧t.get 2=some (.int .i64 t0)∧t.get 3=some (v_l)∧t.get 4=some (v_q)∧t.get 5=some (.pointer (some ⟨S.next,0,none⟩))∧t.get 11=some (.int .i64 (r70 a (h.rooms.length:Int)))∧t.get 12=some (.int .i64 cur)∧t.get 13=some (.int .i64 tm_)∧t.get 14=some (v_steps)∧t.get 15=some (.int .i64 (iv:Int))∧t.get 16=some (.int .i64 (r70 (lget l iv) (h.ways.length:Int)))∧t.get 17=some (.bool (decide (((lget h.ways (Int.toNat (r70 (lget l iv) (h.ways.length:Int)))).b)=cur)))∧t.get 18=some (.int .i64 (if 0≤((lget h.ways (Int.toNat (r70 (lget l iv) (h.ways.length:Int)))).door) then (if ((r28 h ((lget h.ways (Int.toNat (r70 (lget l iv) (h.ways.length:Int)))).door) (if (iv:Int)<(q.length:Int) then tm_+(r70 (lget q iv) 3000) else tm_)).2)=0 then (r28 h ((lget h.ways (Int.toNat (r70 (lget l iv) (h.ways.length:Int)))).door) (if (iv:Int)<(q.length:Int) then tm_+(r70 (lget q iv) 3000) else tm_)).1 else 0) else (if (iv:Int)<(q.length:Int) then tm_+(r70 (lget q iv) 3000) else tm_)))∧t.get 21=some (.int .i64 j86_0)∧t.get 22=some (.int .i64 j86_1)∧S67=S') (fun tl86=>?_) (fun t86 S86 hn86 hq86=>?_)
    ·try simp (disch:=first|omega|assumption) only [E0_G,SY,setArgs,off,agreeKind,partVals,vals,allocV,boxed,ldA,rdCells,oneB,aggD,aField,aFieldV,aExtract,eq_self,ne_eq,if_true,if_false,not_false_eq_true,Nat.reduceAdd,Nat.reduceSub,Nat.reduceMul,Nat.reduceLT,Nat.reduceEqDiff,Nat.reduceBEq,reduceIte,Int.reduceEq,Int.reduceLT,Int.reduceLE,reduceCtorEq,TY_EvH36,bb21_1,h12a,h13a,h16a,w19,w22,h26a,h27a,h28a,w29,h30a,store_agree,store_refl E0_same,i32,j32,m32_0,w33,k34,s34,v1_34,v32_34,i37,j37,m37_0,m37_1,m37_2,m37_3,m37_4,j39_37,i39,j39,m39_0,m39_1,m39_2,m39_3,m39_4,h49a,w52,bj53_1,bj53_32,bj53_37,bj53_39,h64a,j66_37,j66_39,i66,j66,m66_0,m66_1,m66_2,m66_3,m66_4,g67_2,g67_3,g67_4,g67_5,g67_11,g67_12,g67_13,g67_14,g67_15,g67_16,g67_17,g67_18,bj67_1,bj67_32,bj67_37,bj67_39,bj67_66,j83_37,j83_39,j83_66,i83,j83,m83_0,m83_1,m83_2,m83_3,m83_4,j85_37,j85_39,j85_66,j85_83,i85,j85,m85_0,m85_1,m85_2,m85_3,m85_4] at hL86
     rcases dP (((lget h.ways (Int.toNat (r70 (lget l iv) (h.ways.length:Int)))).b)=cur) with ⟨h92a,h92⟩|⟨h92a,h92⟩
     ·have qz93:((Int.toNat (r70 (lget l iv) (h.ways.length:Int)):Nat):Int)=(r70 (lget l iv) (h.ways.length:Int)):=Int.toNat_of_nonneg (by first|omega|simp; omega)
      obtain ⟨⟨_,_⟩,⟨_,_⟩,⟨_,_⟩,⟨_,_⟩,⟨_,_⟩⟩:=okw hV (List.mem_of_getElem? hx37)
      obtain ⟨id94,of94,cc94,ty94,wr94,ex94,i94,j94,l94,q94⟩:=(hv_h_ways).at (P:=Tryz.prog) (t:=24) Tryz.underlying24 tz92 hx37
      have jr94:=j94
      have j94:=(gj67.2 id94 l94).trans jr94
      have j94_37:=(gj67.2 id37 l37).trans jr37
      have j94_39:=(gj67.2 id39 l39).trans jr39
      have j94_66:=(gj67.2 id66 l66).trans jr66
      have j94_83:=(gj67.2 id83 l83).trans jr83
      have j94_85:=(gj67.2 id85 l85).trans jr85
      have m94_0:cc94[of94]?=some (.int .i64 ((lget h.ways (Int.toNat (r70 (lget l iv) (h.ways.length:Int)))).a)):=q94 0 (show 0<5 by decide)
      have m94_1:cc94[of94+1]?=some (.int .i64 ((lget h.ways (Int.toNat (r70 (lget l iv) (h.ways.length:Int)))).b)):=q94 1 (show 1<5 by decide)
      have m94_2:cc94[of94+2]?=some (.int .i64 ((lget h.ways (Int.toNat (r70 (lget l iv) (h.ways.length:Int)))).secs)):=q94 2 (show 2<5 by decide)
      have m94_3:cc94[of94+3]?=some (.int .i64 ((lget h.ways (Int.toNat (r70 (lget l iv) (h.ways.length:Int)))).back)):=q94 3 (show 3<5 by decide)
      have m94_4:cc94[of94+4]?=some (.int .i64 ((lget h.ways (Int.toNat (r70 (lget l iv) (h.ways.length:Int)))).door)):=q94 4 (show 4<5 by decide)
      rw [qz93] at i94
      have qz95:((Int.toNat (r70 (lget l iv) (h.ways.length:Int)):Nat):Int)=(r70 (lget l iv) (h.ways.length:Int)):=Int.toNat_of_nonneg (by first|omega|simp; omega)
      obtain ⟨⟨_,_⟩,⟨_,_⟩,⟨_,_⟩,⟨_,_⟩,⟨_,_⟩⟩:=okw hV (List.mem_of_getElem? hx37)
      obtain ⟨id96,of96,cc96,ty96,wr96,ex96,i96,j96,l96,q96⟩:=(hv_h_ways).at (P:=Tryz.prog) (t:=24) Tryz.underlying24 tz92 hx37
      have j96:=(gj67.2 id96 l96).trans j96
      have j96_37:=(gj67.2 id37 l37).trans jr37
      have j96_39:=(gj67.2 id39 l39).trans jr39
      have j96_66:=(gj67.2 id66 l66).trans jr66
      have j96_83:=(gj67.2 id83 l83).trans jr83
      have j96_85:=(gj67.2 id85 l85).trans jr85
      have j96_94:=(gj67.2 id94 l94).trans jr94
      have m96_0:cc96[of96]?=some (.int .i64 ((lget h.ways (Int.toNat (r70 (lget l iv) (h.ways.length:Int)))).a)):=q96 0 (show 0<5 by decide)
      have m96_1:cc96[of96+1]?=some (.int .i64 ((lget h.ways (Int.toNat (r70 (lget l iv) (h.ways.length:Int)))).b)):=q96 1 (show 1<5 by decide)
      have m96_2:cc96[of96+2]?=some (.int .i64 ((lget h.ways (Int.toNat (r70 (lget l iv) (h.ways.length:Int)))).secs)):=q96 2 (show 2<5 by decide)
      have m96_3:cc96[of96+3]?=some (.int .i64 ((lget h.ways (Int.toNat (r70 (lget l iv) (h.ways.length:Int)))).back)):=q96 3 (show 3<5 by decide)
      have m96_4:cc96[of96+4]?=some (.int .i64 ((lget h.ways (Int.toNat (r70 (lget l iv) (h.ways.length:Int)))).door)):=q96 4 (show 4<5 by decide)
      rw [qz95] at i96
      try simp (disch:=first|omega|assumption) only [E0_G,SY,off,agreeKind,ldA,aggD,aField,Nat.reduceAdd,Nat.reduceLT,Nat.reduceBEq,TY_EvH36,store_refl E0_same,i37,m37_0,m37_3,g67_5,g67_16,bj67_1,bj67_37,h92a] at hL86
      refine tl86 _ _ hL86.symm ⟨(lget h.ways (Int.toNat (r70 (lget l iv) (h.ways.length:Int)))).back,(lget h.ways (Int.toNat (r70 (lget l iv) (h.ways.length:Int)))).a,show _=_ from ((if_pos h92).trans (rfl)).symm,show _=_ from ((if_pos h92).trans (rfl)).symm,?_,?_,?_,?_,?_,?_,?_,?_,?_,?_,?_,?_,?_,?_,?_,?_,?_,?_,rfl⟩<;>first|(simp only [SY,eq_self,Nat.reduceBEq,g67_2,g67_3,g67_4,g67_5,g67_11,g67_12,g67_13,g67_14,g67_15,g67_16,g67_17,g67_18,h92a]<;>rfl)|omega|assumption|(simp; omega)|simp
     try simp (disch:=first|omega|assumption) only [SY,store_refl E0_same,h92a] at hL86
     refine tl86 _ _ hL86.symm ⟨(lget h.ways (Int.toNat (r70 (lget l iv) (h.ways.length:Int)))).secs,(lget h.ways (Int.toNat (r70 (lget l iv) (h.ways.length:Int)))).b,show _=_ from ((if_neg h92).trans (rfl)).symm,show _=_ from ((if_neg h92).trans (rfl)).symm,?_,?_,?_,?_,?_,?_,?_,?_,?_,?_,?_,?_,?_,?_,?_,?_,?_,?_,rfl⟩<;>first|(simp only [SY,eq_self,Nat.reduceBEq,g67_2,g67_3,g67_4,g67_5,g67_11,g67_12,g67_13,g67_14,g67_15,g67_16,g67_17,g67_18,h92a]<;>rfl)|omega|assumption|(simp; omega)|simp
    subst hn86
    obtain ⟨j86_0,j86_1,rfl,rfl,hv86_0,hv86_1,hv86_2,hv86_3,g86_2,g86_3,g86_4,g86_5,g86_11,g86_12,g86_13,g86_14,g86_15,g86_16,g86_17,g86_18,g86_21,g86_22,rfl⟩:=hq86
    have w97:IntKind.i64.wrap ((if 0≤((lget h.ways (Int.toNat (r70 (lget l iv) (h.ways.length:Int)))).door) then (if ((r28 h ((lget h.ways (Int.toNat (r70 (lget l iv) (h.ways.length:Int)))).door) (if (iv:Int)<(q.length:Int) then tm_+(r70 (lget q iv) 3000) else tm_)).2)=0 then (r28 h ((lget h.ways (Int.toNat (r70 (lget l iv) (h.ways.length:Int)))).door) (if (iv:Int)<(q.length:Int) then tm_+(r70 (lget q iv) 3000) else tm_)).1 else 0) else (if (iv:Int)<(q.length:Int) then tm_+(r70 (lget q iv) 3000) else tm_))+(if ((lget h.ways (Int.toNat (r70 (lget l iv) (h.ways.length:Int)))).b)=cur then (lget h.ways (Int.toNat (r70 (lget l iv) (h.ways.length:Int)))).back else (lget h.ways (Int.toNat (r70 (lget l iv) (h.ways.length:Int)))).secs))=(if 0≤((lget h.ways (Int.toNat (r70 (lget l iv) (h.ways.length:Int)))).door) then (if ((r28 h ((lget h.ways (Int.toNat (r70 (lget l iv) (h.ways.length:Int)))).door) (if (iv:Int)<(q.length:Int) then tm_+(r70 (lget q iv) 3000) else tm_)).2)=0 then (r28 h ((lget h.ways (Int.toNat (r70 (lget l iv) (h.ways.length:Int)))).door) (if (iv:Int)<(q.length:Int) then tm_+(r70 (lget q iv) 3000) else tm_)).1 else 0) else (if (iv:Int)<(q.length:Int) then tm_+(r70 (lget q iv) 3000) else tm_))+(if ((lget h.ways (Int.toNat (r70 (lget l iv) (h.ways.length:Int)))).b)=cur then (lget h.ways (Int.toNat (r70 (lget l iv) (h.ways.length:Int)))).back else (lget h.ways (Int.toNat (r70 (lget l iv) (h.ways.length:Int)))).secs):=by rw [IntWalk.i64_in]; omega
    try simp (disch:=first|omega|assumption) only [E0_G,SY,off,agreeKind,Nat.reduceAdd,Nat.reduceLT,Nat.reduceBEq,store_refl E0_same,g86_18,g86_21,w97] at he
    rcases dP (1073741823<((if 0≤((lget h.ways (Int.toNat (r70 (lget l iv) (h.ways.length:Int)))).door) then (if ((r28 h ((lget h.ways (Int.toNat (r70 (lget l iv) (h.ways.length:Int)))).door) (if (iv:Int)<(q.length:Int) then tm_+(r70 (lget q iv) 3000) else tm_)).2)=0 then (r28 h ((lget h.ways (Int.toNat (r70 (lget l iv) (h.ways.length:Int)))).door) (if (iv:Int)<(q.length:Int) then tm_+(r70 (lget q iv) 3000) else tm_)).1 else 0) else (if (iv:Int)<(q.length:Int) then tm_+(r70 (lget q iv) 3000) else tm_))+(if ((lget h.ways (Int.toNat (r70 (lget l iv) (h.ways.length:Int)))).b)=cur then (lget h.ways (Int.toNat (r70 (lget l iv) (h.ways.length:Int)))).back else (lget h.ways (Int.toNat (r70 (lget l iv) (h.ways.length:Int)))).secs))) with ⟨h98a,h98⟩|⟨h98a,h98⟩
    ·try simp (disch:=first|omega|assumption) only [SY,if_false,reduceCtorEq,store_refl E0_same,h98a] at he
     obtain ⟨m',rfl⟩:∃ m',m=m'+1:=⟨m - 1,by omega⟩
     have hf:=(show _=(.inr (cur,tm_,steps):Sum (Bool) (Int × Int × (List Stp))) from (if_pos h26).trans ((if_neg h30).trans ((if_neg h49).trans ((if_neg h64).trans ((if_pos hN67).trans ((if_pos h98).trans (rfl))))))).symm.trans hd21
     refine .exit he (.inl ⟨rfl,⟨cur,tm_,v_steps,steps,iv,?_,?_,?_,?_,?_,?_,bj67_1,gj67,by omega,(oj67_0.low (by omega)),?_,?_,?_,?_,?_,?_,?_,hf.symm⟩⟩)<;>first|(simp only [SY,eq_self,Nat.reduceBEq,g86_2,g86_5,g86_11,g86_12,g86_13,g86_14]<;>rfl)|omega|assumption|(simp; omega)|simp
    have y99:aBuild Tryz.prog 94 [(0,.int .i64 (r70 (lget l iv) (h.ways.length:Int))),(1,.bool (decide (((lget h.ways (Int.toNat (r70 (lget l iv) (h.ways.length:Int)))).b)=cur))),(2,.int .i64 (if 0≤((lget h.ways (Int.toNat (r70 (lget l iv) (h.ways.length:Int)))).door) then (if ((r28 h ((lget h.ways (Int.toNat (r70 (lget l iv) (h.ways.length:Int)))).door) (if (iv:Int)<(q.length:Int) then tm_+(r70 (lget q iv) 3000) else tm_)).2)=0 then (r28 h ((lget h.ways (Int.toNat (r70 (lget l iv) (h.ways.length:Int)))).door) (if (iv:Int)<(q.length:Int) then tm_+(r70 (lget q iv) 3000) else tm_)).1 else 0) else (if (iv:Int)<(q.length:Int) then tm_+(r70 (lget q iv) 3000) else tm_)))]=some (.agg #[.int .i64 (r70 (lget l iv) (h.ways.length:Int)),.bool (decide (((lget h.ways (Int.toNat (r70 (lget l iv) (h.ways.length:Int)))).b)=cur)),.int .i64 (if 0≤((lget h.ways (Int.toNat (r70 (lget l iv) (h.ways.length:Int)))).door) then (if ((r28 h ((lget h.ways (Int.toNat (r70 (lget l iv) (h.ways.length:Int)))).door) (if (iv:Int)<(q.length:Int) then tm_+(r70 (lget q iv) 3000) else tm_)).2)=0 then (r28 h ((lget h.ways (Int.toNat (r70 (lget l iv) (h.ways.length:Int)))).door) (if (iv:Int)<(q.length:Int) then tm_+(r70 (lget q iv) 3000) else tm_)).1 else 0) else (if (iv:Int)<(q.length:Int) then tm_+(r70 (lget q iv) 3000) else tm_))]):=by kernel_rfl
    have y100:aBuildSlice Tryz.prog 47 1 [(0,.agg #[.int .i64 (r70 (lget l iv) (h.ways.length:Int)),.bool (decide (((lget h.ways (Int.toNat (r70 (lget l iv) (h.ways.length:Int)))).b)=cur)),.int .i64 (if 0≤((lget h.ways (Int.toNat (r70 (lget l iv) (h.ways.length:Int)))).door) then (if ((r28 h ((lget h.ways (Int.toNat (r70 (lget l iv) (h.ways.length:Int)))).door) (if (iv:Int)<(q.length:Int) then tm_+(r70 (lget q iv) 3000) else tm_)).2)=0 then (r28 h ((lget h.ways (Int.toNat (r70 (lget l iv) (h.ways.length:Int)))).door) (if (iv:Int)<(q.length:Int) then tm_+(r70 (lget q iv) 3000) else tm_)).1 else 0) else (if (iv:Int)<(q.length:Int) then tm_+(r70 (lget q iv) 3000) else tm_))])] S67=some (.slice (some ⟨S67.next,0,none⟩) 1 1,S67.push (.cells [.int .i64 (r70 (lget l iv) (h.ways.length:Int)),.bool (decide (((lget h.ways (Int.toNat (r70 (lget l iv) (h.ways.length:Int)))).b)=cur)),.int .i64 (if 0≤((lget h.ways (Int.toNat (r70 (lget l iv) (h.ways.length:Int)))).door) then (if ((r28 h ((lget h.ways (Int.toNat (r70 (lget l iv) (h.ways.length:Int)))).door) (if (iv:Int)<(q.length:Int) then tm_+(r70 (lget q iv) 3000) else tm_)).2)=0 then (r28 h ((lget h.ways (Int.toNat (r70 (lget l iv) (h.ways.length:Int)))).door) (if (iv:Int)<(q.length:Int) then tm_+(r70 (lget q iv) 3000) else tm_)).1 else 0) else (if (iv:Int)<(q.length:Int) then tm_+(r70 (lget q iv) 3000) else tm_))] 94 3 true true)):=by kernel_rfl
    obtain ⟨S101,e101,n101,b101,a101⟩:=push_open S67 (.cells [.int .i64 (r70 (lget l iv) (h.ways.length:Int)),.bool (decide (((lget h.ways (Int.toNat (r70 (lget l iv) (h.ways.length:Int)))).b)=cur)),.int .i64 (if 0≤((lget h.ways (Int.toNat (r70 (lget l iv) (h.ways.length:Int)))).door) then (if ((r28 h ((lget h.ways (Int.toNat (r70 (lget l iv) (h.ways.length:Int)))).door) (if (iv:Int)<(q.length:Int) then tm_+(r70 (lget q iv) 3000) else tm_)).2)=0 then (r28 h ((lget h.ways (Int.toNat (r70 (lget l iv) (h.ways.length:Int)))).door) (if (iv:Int)<(q.length:Int) then tm_+(r70 (lget q iv) 3000) else tm_)).1 else 0) else (if (iv:Int)<(q.length:Int) then tm_+(r70 (lget q iv) 3000) else tm_))] 94 3 true true)
    have v1_101:=(a101.2 S.next (by omega)).trans bj67_1
    have oj67_102:=oj67_0.agree a101
    have g101:Agree S S101:=gj67.trans a101
    have s101:E0.same S67 S101=true:=symEnv_same a101
    have ne103:blkOf (v_steps)≠some S67.next:=oj67_0.new (Nat.le_refl _)
    have o104:Own 94 S67.next S101 (.slice (some ⟨S67.next,0,none⟩) 1 1) ([(⟨(r70 (lget l iv) (h.ways.length:Int)),decide (((lget h.ways (Int.toNat (r70 (lget l iv) (h.ways.length:Int)))).b)=cur),(if 0≤((lget h.ways (Int.toNat (r70 (lget l iv) (h.ways.length:Int)))).door) then (if ((r28 h ((lget h.ways (Int.toNat (r70 (lget l iv) (h.ways.length:Int)))).door) (if (iv:Int)<(q.length:Int) then tm_+(r70 (lget q iv) 3000) else tm_)).2)=0 then (r28 h ((lget h.ways (Int.toNat (r70 (lget l iv) (h.ways.length:Int)))).door) (if (iv:Int)<(q.length:Int) then tm_+(r70 (lget q iv) 3000) else tm_)).1 else 0) else (if (iv:Int)<(q.length:Int) then tm_+(r70 (lget q iv) 3000) else tm_))⟩:Stp)]:List Stp):=.inr ⟨_,true,rfl,Nat.le_refl _,by omega,b101⟩
    have ap105:∀ b,blkOf (v_steps)=some b→blkOf (.slice (some ⟨S67.next,0,none⟩) 1 1)≠some b:=fun b hb=>o104.ne (Nat.lt_of_lt_of_le (oj67_0.lt hb) (by omega))
    obtain ⟨u106,S106,k106,o106,n106,f106,d106⟩:=own_append (P:=Tryz.prog) (t:=47) (tx:=47) (n:=2) (v:=v_steps) oj67_102 (o104.rows) (by omega) (by first|omega|(simp; omega)|simp) (by first|omega|(simp; omega)|simp) Tryz.underlying47 Tryz.underlying47 ti94 tv94 rfl tz94
    have v1_106:=(f106 S.next (by omega) (by first|(simp [blkOf]; done)|exact oj67_102.ne (by omega)|exact oj67_102.new (by omega)|assumption)).trans v1_101
    have apo104_107:∀ b,blkOf (.slice (some ⟨S67.next,0,none⟩) 1 1)=some b→blkOf u106≠some b:=fun b hb=>d106 b (o104.lt hb) ((fun b h1 h2=>ap105 b h2 h1) b hb)
    have o104_107:=o104.frame n106 (fun id hid hb=>f106 id hid ((fun b h1 h2=>ap105 b h2 h1) id hb))
    have g106:Agree S S106:=⟨Nat.le_trans (g101).1 n106,fun id hid=>(f106 id (by have:=(g101).1; omega) (by first|(simp [blkOf]; done)|exact oj67_102.ne (by omega)|assumption)).trans ((g101).2 id hid)⟩
    have ne108:blkOf u106≠some S.next:=by first|exact o106.ne (by omega)|exact o106.new (by omega)|exact d106 _ (by omega) (by first|(simp [blkOf]; done)|exact oj67_102.ne (by omega)|exact oj67_102.new (by omega)|assumption)
    have w109:IntKind.i64.wrap ((if 0≤((lget h.ways (Int.toNat (r70 (lget l iv) (h.ways.length:Int)))).door) then (if ((r28 h ((lget h.ways (Int.toNat (r70 (lget l iv) (h.ways.length:Int)))).door) (if (iv:Int)<(q.length:Int) then tm_+(r70 (lget q iv) 3000) else tm_)).2)=0 then (r28 h ((lget h.ways (Int.toNat (r70 (lget l iv) (h.ways.length:Int)))).door) (if (iv:Int)<(q.length:Int) then tm_+(r70 (lget q iv) 3000) else tm_)).1 else 0) else (if (iv:Int)<(q.length:Int) then tm_+(r70 (lget q iv) 3000) else tm_))+(if ((lget h.ways (Int.toNat (r70 (lget l iv) (h.ways.length:Int)))).b)=cur then (lget h.ways (Int.toNat (r70 (lget l iv) (h.ways.length:Int)))).back else (lget h.ways (Int.toNat (r70 (lget l iv) (h.ways.length:Int)))).secs))=(if 0≤((lget h.ways (Int.toNat (r70 (lget l iv) (h.ways.length:Int)))).door) then (if ((r28 h ((lget h.ways (Int.toNat (r70 (lget l iv) (h.ways.length:Int)))).door) (if (iv:Int)<(q.length:Int) then tm_+(r70 (lget q iv) 3000) else tm_)).2)=0 then (r28 h ((lget h.ways (Int.toNat (r70 (lget l iv) (h.ways.length:Int)))).door) (if (iv:Int)<(q.length:Int) then tm_+(r70 (lget q iv) 3000) else tm_)).1 else 0) else (if (iv:Int)<(q.length:Int) then tm_+(r70 (lget q iv) 3000) else tm_))+(if ((lget h.ways (Int.toNat (r70 (lget l iv) (h.ways.length:Int)))).b)=cur then (lget h.ways (Int.toNat (r70 (lget l iv) (h.ways.length:Int)))).back else (lget h.ways (Int.toNat (r70 (lget l iv) (h.ways.length:Int)))).secs):=by rw [IntWalk.i64_in]; omega
    have w110:IntKind.i64.wrap ((iv:Int)+1)=((iv+1:Nat):Int):=by rw [IntWalk.i64_in]<;>omega
    try simp (disch:=first|omega|assumption) only [E0_G,SY,off,agreeKind,partVals,Nat.reduceAdd,Nat.reduceLT,Nat.reduceBEq,store_agree,store_refl E0_same,g86_14,g86_15,g86_16,g86_17,g86_18,g86_21,g86_22,w97,h98a,y99,y100,e101,k106,w110] at he
    obtain ⟨m',rfl⟩:∃ m',m=m'+1:=⟨m - 1,by omega⟩
    have hf:=(show _=(R16_0 h a t0 l q m' (if ((lget h.ways (Int.toNat (r70 (lget l iv) (h.ways.length:Int)))).b)=cur then (lget h.ways (Int.toNat (r70 (lget l iv) (h.ways.length:Int)))).a else (lget h.ways (Int.toNat (r70 (lget l iv) (h.ways.length:Int)))).b) ((if 0≤((lget h.ways (Int.toNat (r70 (lget l iv) (h.ways.length:Int)))).door) then (if ((r28 h ((lget h.ways (Int.toNat (r70 (lget l iv) (h.ways.length:Int)))).door) (if (iv:Int)<(q.length:Int) then tm_+(r70 (lget q iv) 3000) else tm_)).2)=0 then (r28 h ((lget h.ways (Int.toNat (r70 (lget l iv) (h.ways.length:Int)))).door) (if (iv:Int)<(q.length:Int) then tm_+(r70 (lget q iv) 3000) else tm_)).1 else 0) else (if (iv:Int)<(q.length:Int) then tm_+(r70 (lget q iv) 3000) else tm_))+(if ((lget h.ways (Int.toNat (r70 (lget l iv) (h.ways.length:Int)))).b)=cur then (lget h.ways (Int.toNat (r70 (lget l iv) (h.ways.length:Int)))).back else (lget h.ways (Int.toNat (r70 (lget l iv) (h.ways.length:Int)))).secs)) (steps++([(⟨(r70 (lget l iv) (h.ways.length:Int)),decide (((lget h.ways (Int.toNat (r70 (lget l iv) (h.ways.length:Int)))).b)=cur),(if 0≤((lget h.ways (Int.toNat (r70 (lget l iv) (h.ways.length:Int)))).door) then (if ((r28 h ((lget h.ways (Int.toNat (r70 (lget l iv) (h.ways.length:Int)))).door) (if (iv:Int)<(q.length:Int) then tm_+(r70 (lget q iv) 3000) else tm_)).2)=0 then (r28 h ((lget h.ways (Int.toNat (r70 (lget l iv) (h.ways.length:Int)))).door) (if (iv:Int)<(q.length:Int) then tm_+(r70 (lget q iv) 3000) else tm_)).1 else 0) else (if (iv:Int)<(q.length:Int) then tm_+(r70 (lget q iv) 3000) else tm_))⟩:Stp)])) (iv+1):Sum (Bool) (Int × Int × (List Stp))) from (if_pos h26).trans ((if_neg h30).trans ((if_neg h49).trans ((if_neg h64).trans ((if_pos hN67).trans ((if_neg h98).trans (rfl))))))).symm.trans hd21
    refine .next he m' (by omega) ⟨(if ((lget h.ways (Int.toNat (r70 (lget l iv) (h.ways.length:Int)))).b)=cur then (lget h.ways (Int.toNat (r70 (lget l iv) (h.ways.length:Int)))).a else (lget h.ways (Int.toNat (r70 (lget l iv) (h.ways.length:Int)))).b),(if 0≤((lget h.ways (Int.toNat (r70 (lget l iv) (h.ways.length:Int)))).door) then (if ((r28 h ((lget h.ways (Int.toNat (r70 (lget l iv) (h.ways.length:Int)))).door) (if (iv:Int)<(q.length:Int) then tm_+(r70 (lget q iv) 3000) else tm_)).2)=0 then (r28 h ((lget h.ways (Int.toNat (r70 (lget l iv) (h.ways.length:Int)))).door) (if (iv:Int)<(q.length:Int) then tm_+(r70 (lget q iv) 3000) else tm_)).1 else 0) else (if (iv:Int)<(q.length:Int) then tm_+(r70 (lget q iv) 3000) else tm_))+(if ((lget h.ways (Int.toNat (r70 (lget l iv) (h.ways.length:Int)))).b)=cur then (lget h.ways (Int.toNat (r70 (lget l iv) (h.ways.length:Int)))).back else (lget h.ways (Int.toNat (r70 (lget l iv) (h.ways.length:Int)))).secs),u106,steps++([(⟨(r70 (lget l iv) (h.ways.length:Int)),decide (((lget h.ways (Int.toNat (r70 (lget l iv) (h.ways.length:Int)))).b)=cur),(if 0≤((lget h.ways (Int.toNat (r70 (lget l iv) (h.ways.length:Int)))).door) then (if ((r28 h ((lget h.ways (Int.toNat (r70 (lget l iv) (h.ways.length:Int)))).door) (if (iv:Int)<(q.length:Int) then tm_+(r70 (lget q iv) 3000) else tm_)).2)=0 then (r28 h ((lget h.ways (Int.toNat (r70 (lget l iv) (h.ways.length:Int)))).door) (if (iv:Int)<(q.length:Int) then tm_+(r70 (lget q iv) 3000) else tm_)).1 else 0) else (if (iv:Int)<(q.length:Int) then tm_+(r70 (lget q iv) 3000) else tm_))⟩:Stp)]),(iv+1),?_,?_,?_,?_,?_,?_,?_,?_,?_,?_,?_,?_,?_,?_,?_,?_,?_,v1_106,g106,by omega,(o106.low (by omega)),hf⟩<;>first|(simp only [SY,eq_self,Nat.reduceBEq,g86_2,g86_3,g86_4,g86_5,g86_11,g86_12,g86_13,g86_14,g86_15]<;>rfl)|omega|assumption|(simp; omega)|simp
   simp only [h26a] at he
   try simp (disch:=first|omega|assumption) only [SY] at he
   obtain ⟨m',rfl⟩:∃ m',m=m'+1:=⟨m - 1,by omega⟩
   have hf:=(show _=(.inr (cur,tm_,steps):Sum (Bool) (Int × Int × (List Stp))) from (if_neg h26).trans (rfl)).symm.trans hd21
   refine .exit he (.inl ⟨rfl,⟨cur,tm_,v_steps,steps,iv,?_,?_,?_,?_,?_,?_,bb21_1,ga21,by omega,(ow_steps.low (by omega)),?_,?_,?_,?_,?_,?_,?_,hf.symm⟩⟩)<;>first|(simp only [eq_self,g23_2,g23_5,g23_11,g23_12,g23_13,g23_14]<;>rfl)|omega|assumption|(simp; omega)|simp)
 rcases hQ21 with ⟨rfl,hQ21⟩|⟨rfl,hQ21⟩
 ·obtain ⟨cur,tm_,v_steps,steps,iv,ge21_2,ge21_5,ge21_11,ge21_12,ge21_13,ge21_14,be21_1,ge21,gm21,oe_steps21,hj21_0,hj21_1,hj21_2,hj21_3,hj21_4,hj21_5,hj21_6,hR21⟩:=hQ21
  obtain ⟨S112,k112,a112⟩:=c39 h (r70 a (h.rooms.length:Int)) t0 (steps:List Stp) (r68_ok (by assumption)).1 hs (by omega) S21e (v_h_rooms) (hv_h_rooms.agree ge21) (v_h_doors) (hv_h_doors.agree ge21) (v_h_ways) (hv_h_ways.agree ge21) (v_steps) ((rep94 oe_steps21.rows))
  have l112:=a112.1
  have s112:E0.same S21e S112=true:=symEnv_same a112
  have v1_112:=(a112.2 S.next (by omega)).trans be21_1
  have oe_113:=oe_steps21.agree a112
  have g112:Agree S S112:=ge21.trans a112
  obtain ⟨u114,S114,k114,a114,oo114⟩:=c41 h (r70 a (h.rooms.length:Int)) t0 (r68_ok (by assumption)).1 hs S112 (v_h_rooms) (hv_h_rooms.agree g112) (v_h_doors) (hv_h_doors.agree g112) (v_h_ways) (hv_h_ways.agree g112)
  have l114:=a114.1
  obtain ⟨pu114,nu114,cu114,rfl⟩:=own_slice oo114
  have ap115:∀ b,blkOf (v_steps)=some b→blkOf (.slice pu114 nu114 cu114)≠some b:=fun b hb=>oo114.ne (Nat.lt_of_lt_of_le (oe_113.lt hb) (by omega))
  have s114:E0.same S112 S114=true:=symEnv_same a114
  have v1_114:=(a114.2 S.next (by omega)).trans v1_112
  have oe_116:=oe_113.agree a114
  have g114:Agree S S114:=g112.trans a114
  obtain ⟨u117,S117,k117,a117,oo117⟩:=c43 h cur tm_ (r68_ok (by assumption)).1 hs S114 (v_h_rooms) (hv_h_rooms.agree g114) (v_h_doors) (hv_h_doors.agree g114) (v_h_ways) (hv_h_ways.agree g114)
  have l117:=a117.1
  obtain ⟨pu117,nu117,cu117,rfl⟩:=own_slice oo117
  have ap118:∀ b,blkOf (v_steps)=some b→blkOf (.slice pu117 nu117 cu117)≠some b:=fun b hb=>oo117.ne (Nat.lt_of_lt_of_le (oe_116.lt hb) (by omega))
  have ap119:∀ b,blkOf (.slice pu114 nu114 cu114)=some b→blkOf (.slice pu117 nu117 cu117)≠some b:=fun b hb=>oo117.ne (Nat.lt_of_lt_of_le (oo114.lt hb) (by omega))
  have s117:E0.same S114 S117=true:=symEnv_same a117
  have v1_117:=(a117.2 S.next (by omega)).trans v1_114
  have oe_120:=oe_116.agree a117
  have o114_121:=oo114.agree a117
  have g117:Agree S S117:=g114.trans a117
  obtain ⟨S122,k122,a122⟩:=c45 h (r70 a (h.rooms.length:Int)) t0 cur tm_ (r68_ok (by assumption)).1 hs S117 (v_h_rooms) (hv_h_rooms.agree g117) (v_h_doors) (hv_h_doors.agree g117) (v_h_ways) (hv_h_ways.agree g117)
  have l122:=a122.1
  have s122:E0.same S117 S122=true:=symEnv_same a122
  have v1_122:=(a122.2 S.next (by omega)).trans v1_117
  have oe_123:=oe_120.agree a122
  have o114_124:=o114_121.agree a122
  have o117_125:=oo117.agree a122
  have g122:Agree S S122:=g117.trans a122
  try simp (disch:=first|omega|assumption) only [E0_G,SY,off,agreeKind,vals,ldA,rdCells,aggD,aExtract,eq_self,if_true,Nat.reduceAdd,Nat.reduceLT,Nat.reduceBEq,TY_EvH36,ge21_2,ge21_5,ge21_11,ge21_12,ge21_13,ge21_14,be21_1,k112,v1_112,k114,v1_114,k117,v1_117,k122] at hz
  generalize hL126:behind _ _=L126 at hz
  refine join_reg hL126 (fun t S'=>∃ (j126_0:Bool),j126_0=decide ((¬ (((r39 h (r70 a (h.rooms.length:Int)) t0 (steps:List Stp)).2.2)=0))∨((¬ (((r41 h (r70 a (h.rooms.length:Int)) t0).2)=0))∨((¬ (((r43 h cur tm_).2)=0))∨((¬ (((r45 h (r70 a (h.rooms.length:Int)) t0 cur tm_).2)=0))∨((¬ (((r39 h (r70 a (h.rooms.length:Int)) t0 (steps:List Stp)).1)=cur))∨((¬ (((r39 h (r70 a (h.rooms.length:Int)) t0 (steps:List Stp)).2.1)=tm_))∨((¬ ((((r41 h (r70 a (h.rooms.length:Int)) t0).1).length:Int)=(h.rooms.length:Int)))∨((¬ ((((r43 h cur tm_).1).length:Int)=(((r41 h (r70 a (h.rooms.length:Int)) t0).1).length:Int)))∨((tm_<(lget ((r41 h (r70 a (h.rooms.length:Int)) t0).1) (Int.toNat cur)))∨(((lget ((r43 h cur tm_).1) (Int.toNat (r70 a (h.rooms.length:Int))))<t0)∨(¬ (((r45 h (r70 a (h.rooms.length:Int)) t0 cur tm_).1)=true))))))))))))∧t.get 2=some (.int .i64 t0)∧t.get 5=some (.pointer (some ⟨S.next,0,none⟩))∧t.get 11=some (.int .i64 (r70 a (h.rooms.length:Int)))∧t.get 12=some (.int .i64 cur)∧t.get 26=some (.slice pu114 nu114 cu114)∧t.get 270=some (.bool j126_0)∧S122=S') (fun tl126=>?_) (fun t126 S126 hn126 hq126=>?_)
  ·try simp (disch:=first|omega|assumption) only [E0_G,SY,setArgs,off,agreeKind,partVals,vals,allocV,boxed,ldA,rdCells,oneB,aggD,aField,aFieldV,aExtract,eq_self,ne_eq,if_true,if_false,not_false_eq_true,Nat.reduceAdd,Nat.reduceSub,Nat.reduceMul,Nat.reduceLT,Nat.reduceEqDiff,Nat.reduceBEq,reduceIte,Int.reduceEq,Int.reduceLT,Int.reduceLE,reduceCtorEq,TY_EvH36,h12a,h13a,h16a,w19,ge21_2,ge21_5,ge21_11,ge21_12,ge21_13,ge21_14,be21_1,k112,s112,v1_112,k114,s114,v1_114,k117,s117,v1_117,k122,s122,v1_122] at hL126
   rcases dP (((r39 h (r70 a (h.rooms.length:Int)) t0 (steps:List Stp)).2.2)=0) with ⟨h145a,h145⟩|⟨h145a,h145⟩
   ·try simp (disch:=first|omega|assumption) only [E0_G,SY,off,agreeKind,Nat.reduceAdd,Nat.reduceLT,Nat.reduceBEq,h145a] at hL126
    rcases dP (((r41 h (r70 a (h.rooms.length:Int)) t0).2)=0) with ⟨h146a,h146⟩|⟨h146a,h146⟩
    ·try simp (disch:=first|omega|assumption) only [E0_G,SY,off,agreeKind,Nat.reduceAdd,Nat.reduceLT,Nat.reduceBEq,h146a] at hL126
     rcases dP (((r43 h cur tm_).2)=0) with ⟨h147a,h147⟩|⟨h147a,h147⟩
     ·try simp (disch:=first|omega|assumption) only [E0_G,SY,off,agreeKind,Nat.reduceAdd,Nat.reduceLT,Nat.reduceBEq,h147a] at hL126
      rcases dP (((r45 h (r70 a (h.rooms.length:Int)) t0 cur tm_).2)=0) with ⟨h148a,h148⟩|⟨h148a,h148⟩
      ·try simp (disch:=first|omega|assumption) only [E0_G,SY,off,agreeKind,Nat.reduceAdd,Nat.reduceLT,Nat.reduceBEq,ge21_12,h148a] at hL126
       rcases dP (((r39 h (r70 a (h.rooms.length:Int)) t0 (steps:List Stp)).1)=cur) with ⟨h149a,h149⟩|⟨h149a,h149⟩
       ·try simp (disch:=first|omega|assumption) only [E0_G,SY,off,agreeKind,Nat.reduceAdd,Nat.reduceLT,Nat.reduceBEq,ge21_13,h149a] at hL126
        rcases dP (((r39 h (r70 a (h.rooms.length:Int)) t0 (steps:List Stp)).2.1)=tm_) with ⟨h150a,h150⟩|⟨h150a,h150⟩
        ·have w151:=(o114_124.rows).len (P:=Tryz.prog) (t:=54) Tryz.underlying54
         have w152:=(hv_h_rooms.agree g122).len (P:=Tryz.prog) (t:=22) Tryz.underlying22
         try simp (disch:=first|omega|assumption) only [E0_G,SY,off,agreeKind,ldA,aggD,aField,Nat.reduceAdd,Nat.reduceLT,Nat.reduceBEq,TY_EvH36,w19,ge21_5,v1_122,h150a,w151] at hL126
         rcases dP ((((r41 h (r70 a (h.rooms.length:Int)) t0).1).length:Int)=(h.rooms.length:Int)) with ⟨h153a,h153⟩|⟨h153a,h153⟩
         ·have w154:=(o117_125.rows).len (P:=Tryz.prog) (t:=54) Tryz.underlying54
          have w155:=(o114_124.rows).len (P:=Tryz.prog) (t:=54) Tryz.underlying54
          try simp (disch:=first|omega|assumption) only [E0_G,SY,off,agreeKind,Nat.reduceAdd,Nat.reduceLT,Nat.reduceBEq,w151,h153a,w154] at hL126
          rcases dP ((((r43 h cur tm_).1).length:Int)=(((r41 h (r70 a (h.rooms.length:Int)) t0).1).length:Int)) with ⟨h156a,h156⟩|⟨h156a,h156⟩
          ·have qz157:((Int.toNat cur:Nat):Int)=cur:=Int.toNat_of_nonneg (by first|omega|simp; omega)
           have hx158:((r41 h (r70 a (h.rooms.length:Int)) t0).1)[(Int.toNat cur)]?=some (lget ((r41 h (r70 a (h.rooms.length:Int)) t0).1) (Int.toNat cur)):=lget_some (by first|omega|simp; omega)
           obtain ⟨id158,of158,cc158,ty158,wr158,ex158,i158,j158,l158,q158,lb158,bk158,oq158⟩:=o114_124.at4 (P:=Tryz.prog) (t:=54) Tryz.underlying54 tz3 hx158
           have m158_0:cc158[of158]?=some (.int .i64 (lget ((r41 h (r70 a (h.rooms.length:Int)) t0).1) (Int.toNat cur))):=q158 0 (show 0<1 by decide)
           rw [qz157] at i158
           try simp (disch:=first|omega|assumption) only [E0_G,SY,off,agreeKind,ldA,aggD,Nat.reduceAdd,Nat.reduceLT,Nat.reduceBEq,TY_EvH36,ge21_12,ge21_13,h156a,i158,j158,m158_0] at hL126
           rcases dP (tm_<(lget ((r41 h (r70 a (h.rooms.length:Int)) t0).1) (Int.toNat cur))) with ⟨h159a,h159⟩|⟨h159a,h159⟩
           ·try simp (disch:=first|omega|assumption) only [E0_G,SY,off,agreeKind,Nat.reduceAdd,Nat.reduceLT,Nat.reduceBEq,h159a] at hL126
            refine tl126 _ _ hL126.symm ⟨true,by simp only [eq_true h145,eq_true h146,eq_true h147,eq_true h148,eq_true h149,eq_true h150,eq_true h153,eq_true h156,eq_true h159,true_or,or_true,not_true_eq_false,decide_true],?_,?_,?_,?_,?_,?_,rfl⟩<;>first|(simp only [SY,eq_self,Nat.reduceBEq,ge21_2,ge21_5,ge21_11,ge21_12]<;>rfl)|omega|assumption|(simp; omega)|simp
           have qz160:((Int.toNat (r70 a (h.rooms.length:Int)):Nat):Int)=(r70 a (h.rooms.length:Int)):=Int.toNat_of_nonneg (by first|omega|simp; omega)
           have hx161:((r43 h cur tm_).1)[(Int.toNat (r70 a (h.rooms.length:Int)))]?=some (lget ((r43 h cur tm_).1) (Int.toNat (r70 a (h.rooms.length:Int)))):=lget_some (by first|omega|simp; omega)
           obtain ⟨id161,of161,cc161,ty161,wr161,ex161,i161,j161,l161,q161,lb161,bk161,oq161⟩:=o117_125.at4 (P:=Tryz.prog) (t:=54) Tryz.underlying54 tz3 hx161
           have m161_0:cc161[of161]?=some (.int .i64 (lget ((r43 h cur tm_).1) (Int.toNat (r70 a (h.rooms.length:Int))))):=q161 0 (show 0<1 by decide)
           rw [qz160] at i161
           try simp (disch:=first|omega|assumption) only [E0_G,SY,off,agreeKind,ldA,aggD,Nat.reduceAdd,Nat.reduceLT,Nat.reduceBEq,TY_EvH36,ge21_2,ge21_11,h159a,i161,j161,m161_0] at hL126
           rcases dP ((lget ((r43 h cur tm_).1) (Int.toNat (r70 a (h.rooms.length:Int))))<t0) with ⟨h162a,h162⟩|⟨h162a,h162⟩
           ·try simp (disch:=first|omega|assumption) only [E0_G,SY,off,agreeKind,Nat.reduceAdd,Nat.reduceLT,Nat.reduceBEq,h162a] at hL126
            refine tl126 _ _ hL126.symm ⟨true,by simp only [eq_true h145,eq_true h146,eq_true h147,eq_true h148,eq_true h149,eq_true h150,eq_true h153,eq_true h156,eq_false h159,eq_true h162,true_or,or_true,not_true_eq_false,decide_true],?_,?_,?_,?_,?_,?_,rfl⟩<;>first|(simp only [SY,eq_self,Nat.reduceBEq,ge21_2,ge21_5,ge21_11,ge21_12]<;>rfl)|omega|assumption|(simp; omega)|simp
           try simp (disch:=first|omega|assumption) only [E0_G,SY,off,agreeKind,Nat.reduceAdd,Nat.reduceLT,Nat.reduceBEq,h162a] at hL126
           refine tl126 _ _ hL126.symm ⟨!((r45 h (r70 a (h.rooms.length:Int)) t0 cur tm_).1),by simp only [eq_true h145,eq_true h146,eq_true h147,eq_true h148,eq_true h149,eq_true h150,eq_true h153,eq_true h156,eq_false h159,eq_false h162,false_or,not_true_eq_false,decide_not,Bool.decide_eq_true],?_,?_,?_,?_,?_,?_,rfl⟩<;>first|(simp only [SY,eq_self,Nat.reduceBEq,ge21_2,ge21_5,ge21_11,ge21_12]<;>rfl)|omega|assumption|(simp; omega)|simp
          try simp (disch:=first|omega|assumption) only [E0_G,SY,off,agreeKind,Nat.reduceAdd,Nat.reduceLT,Nat.reduceBEq,h156a] at hL126
          refine tl126 _ _ hL126.symm ⟨true,by simp only [eq_true h145,eq_true h146,eq_true h147,eq_true h148,eq_true h149,eq_true h150,eq_true h153,eq_false h156,true_or,or_true,not_true_eq_false,not_false_eq_true,decide_true],?_,?_,?_,?_,?_,?_,rfl⟩<;>first|(simp only [SY,eq_self,Nat.reduceBEq,ge21_2,ge21_5,ge21_11,ge21_12]<;>rfl)|omega|assumption|(simp; omega)|simp
         try simp (disch:=first|omega|assumption) only [E0_G,SY,off,agreeKind,Nat.reduceAdd,Nat.reduceLT,Nat.reduceBEq,h153a] at hL126
         refine tl126 _ _ hL126.symm ⟨true,by simp only [eq_true h145,eq_true h146,eq_true h147,eq_true h148,eq_true h149,eq_true h150,eq_false h153,true_or,or_true,not_true_eq_false,not_false_eq_true,decide_true],?_,?_,?_,?_,?_,?_,rfl⟩<;>first|(simp only [SY,eq_self,Nat.reduceBEq,ge21_2,ge21_5,ge21_11,ge21_12]<;>rfl)|omega|assumption|(simp; omega)|simp
        try simp (disch:=first|omega|assumption) only [E0_G,SY,off,agreeKind,Nat.reduceAdd,Nat.reduceLT,Nat.reduceBEq,h150a] at hL126
        refine tl126 _ _ hL126.symm ⟨true,by simp only [eq_true h145,eq_true h146,eq_true h147,eq_true h148,eq_true h149,eq_false h150,true_or,or_true,not_true_eq_false,not_false_eq_true,decide_true],?_,?_,?_,?_,?_,?_,rfl⟩<;>first|(simp only [SY,eq_self,Nat.reduceBEq,ge21_2,ge21_5,ge21_11,ge21_12]<;>rfl)|omega|assumption|(simp; omega)|simp
       try simp (disch:=first|omega|assumption) only [E0_G,SY,off,agreeKind,Nat.reduceAdd,Nat.reduceLT,Nat.reduceBEq,h149a] at hL126
       refine tl126 _ _ hL126.symm ⟨true,by simp only [eq_true h145,eq_true h146,eq_true h147,eq_true h148,eq_false h149,true_or,or_true,not_true_eq_false,not_false_eq_true,decide_true],?_,?_,?_,?_,?_,?_,rfl⟩<;>first|(simp only [SY,eq_self,Nat.reduceBEq,ge21_2,ge21_5,ge21_11,ge21_12]<;>rfl)|omega|assumption|(simp; omega)|simp
      try simp (disch:=first|omega|assumption) only [E0_G,SY,off,agreeKind,Nat.reduceAdd,Nat.reduceLT,Nat.reduceBEq,h148a] at hL126
      refine tl126 _ _ hL126.symm ⟨true,by simp only [eq_true h145,eq_true h146,eq_true h147,eq_false h148,true_or,or_true,not_true_eq_false,not_false_eq_true,decide_true],?_,?_,?_,?_,?_,?_,rfl⟩<;>first|(simp only [SY,eq_self,Nat.reduceBEq,ge21_2,ge21_5,ge21_11,ge21_12]<;>rfl)|omega|assumption|(simp; omega)|simp
     try simp (disch:=first|omega|assumption) only [E0_G,SY,off,agreeKind,Nat.reduceAdd,Nat.reduceLT,Nat.reduceBEq,h147a] at hL126
     refine tl126 _ _ hL126.symm ⟨true,by simp only [eq_true h145,eq_true h146,eq_false h147,true_or,or_true,not_true_eq_false,not_false_eq_true,decide_true],?_,?_,?_,?_,?_,?_,rfl⟩<;>first|(simp only [SY,eq_self,Nat.reduceBEq,ge21_2,ge21_5,ge21_11,ge21_12]<;>rfl)|omega|assumption|(simp; omega)|simp
    try simp (disch:=first|omega|assumption) only [E0_G,SY,off,agreeKind,Nat.reduceAdd,Nat.reduceLT,Nat.reduceBEq,h146a] at hL126
    refine tl126 _ _ hL126.symm ⟨true,by simp only [eq_true h145,eq_false h146,true_or,or_true,not_true_eq_false,not_false_eq_true,decide_true],?_,?_,?_,?_,?_,?_,rfl⟩<;>first|(simp only [SY,eq_self,Nat.reduceBEq,ge21_2,ge21_5,ge21_11,ge21_12]<;>rfl)|omega|assumption|(simp; omega)|simp
   try simp (disch:=first|omega|assumption) only [E0_G,SY,off,agreeKind,Nat.reduceAdd,Nat.reduceLT,Nat.reduceBEq,h145a] at hL126
   refine tl126 _ _ hL126.symm ⟨true,by simp only [eq_false h145,true_or,not_false_eq_true,decide_true],?_,?_,?_,?_,?_,?_,rfl⟩<;>first|(simp only [SY,eq_self,Nat.reduceBEq,ge21_2,ge21_5,ge21_11,ge21_12]<;>rfl)|omega|assumption|(simp; omega)|simp
  subst hn126
  obtain ⟨j126_0,rfl,g126_2,g126_5,g126_11,g126_12,g126_26,g126_270,rfl⟩:=hq126
  try simp (disch:=first|omega|assumption) only [E0_G,SY,g126_270] at hz
  rcases dP ((¬ (((r39 h (r70 a (h.rooms.length:Int)) t0 (steps:List Stp)).2.2)=0))∨((¬ (((r41 h (r70 a (h.rooms.length:Int)) t0).2)=0))∨((¬ (((r43 h cur tm_).2)=0))∨((¬ (((r45 h (r70 a (h.rooms.length:Int)) t0 cur tm_).2)=0))∨((¬ (((r39 h (r70 a (h.rooms.length:Int)) t0 (steps:List Stp)).1)=cur))∨((¬ (((r39 h (r70 a (h.rooms.length:Int)) t0 (steps:List Stp)).2.1)=tm_))∨((¬ ((((r41 h (r70 a (h.rooms.length:Int)) t0).1).length:Int)=(h.rooms.length:Int)))∨((¬ ((((r43 h cur tm_).1).length:Int)=(((r41 h (r70 a (h.rooms.length:Int)) t0).1).length:Int)))∨((tm_<(lget ((r41 h (r70 a (h.rooms.length:Int)) t0).1) (Int.toNat cur)))∨(((lget ((r43 h cur tm_).1) (Int.toNat (r70 a (h.rooms.length:Int))))<t0)∨(¬ (((r45 h (r70 a (h.rooms.length:Int)) t0 cur tm_).1)=true)))))))))))) with ⟨h163a,h163⟩|⟨h163a,h163⟩
  ·simp only [h163a] at hz
   try simp (disch:=first|omega|assumption) only [E0_G,SY,off,agreeKind,Nat.reduceLT,Nat.reduceBEq] at hz
   have hr:r16 h a t0 l q=false:=(if_neg h12).trans ((onSum_inr hR21).trans ((if_pos h163).trans (rfl)))
   exact fin hz (by rw [hr]) g122
  simp only [h163a] at hz
  have h164:((r39 h (r70 a (h.rooms.length:Int)) t0 (steps:List Stp)).2.2)=0:=(Decidable.not_not.1 (fun q_=>h163 (.inl q_)))
  have h164a:=decide_eq_true h164
  have h165:((r41 h (r70 a (h.rooms.length:Int)) t0).2)=0:=(Decidable.not_not.1 (fun q_=>(fun q_=>h163 (.inr q_)) (.inl q_)))
  have h165a:=decide_eq_true h165
  have h166:((r43 h cur tm_).2)=0:=(Decidable.not_not.1 (fun q_=>(fun q_=>(fun q_=>h163 (.inr q_)) (.inr q_)) (.inl q_)))
  have h166a:=decide_eq_true h166
  have h167:((r45 h (r70 a (h.rooms.length:Int)) t0 cur tm_).2)=0:=(Decidable.not_not.1 (fun q_=>(fun q_=>(fun q_=>(fun q_=>h163 (.inr q_)) (.inr q_)) (.inr q_)) (.inl q_)))
  have h167a:=decide_eq_true h167
  have h168:((r39 h (r70 a (h.rooms.length:Int)) t0 (steps:List Stp)).1)=cur:=(Decidable.not_not.1 (fun q_=>(fun q_=>(fun q_=>(fun q_=>(fun q_=>h163 (.inr q_)) (.inr q_)) (.inr q_)) (.inr q_)) (.inl q_)))
  have h168a:=decide_eq_true h168
  have h169:((r39 h (r70 a (h.rooms.length:Int)) t0 (steps:List Stp)).2.1)=tm_:=(Decidable.not_not.1 (fun q_=>(fun q_=>(fun q_=>(fun q_=>(fun q_=>(fun q_=>h163 (.inr q_)) (.inr q_)) (.inr q_)) (.inr q_)) (.inr q_)) (.inl q_)))
  have h169a:=decide_eq_true h169
  have h170:(((r41 h (r70 a (h.rooms.length:Int)) t0).1).length:Int)=(h.rooms.length:Int):=(Decidable.not_not.1 (fun q_=>(fun q_=>(fun q_=>(fun q_=>(fun q_=>(fun q_=>(fun q_=>h163 (.inr q_)) (.inr q_)) (.inr q_)) (.inr q_)) (.inr q_)) (.inr q_)) (.inl q_)))
  have h170a:=decide_eq_true h170
  have h171:(((r43 h cur tm_).1).length:Int)=(((r41 h (r70 a (h.rooms.length:Int)) t0).1).length:Int):=(Decidable.not_not.1 (fun q_=>(fun q_=>(fun q_=>(fun q_=>(fun q_=>(fun q_=>(fun q_=>(fun q_=>h163 (.inr q_)) (.inr q_)) (.inr q_)) (.inr q_)) (.inr q_)) (.inr q_)) (.inr q_)) (.inl q_)))
  have h171a:=decide_eq_true h171
  have h172:¬ (tm_<(lget ((r41 h (r70 a (h.rooms.length:Int)) t0).1) (Int.toNat cur))):=(fun q_=>(fun q_=>(fun q_=>(fun q_=>(fun q_=>(fun q_=>(fun q_=>(fun q_=>(fun q_=>h163 (.inr q_)) (.inr q_)) (.inr q_)) (.inr q_)) (.inr q_)) (.inr q_)) (.inr q_)) (.inr q_)) (.inl q_))
  have h172a:=decide_eq_false h172
  have h173:¬ ((lget ((r43 h cur tm_).1) (Int.toNat (r70 a (h.rooms.length:Int))))<t0):=(fun q_=>(fun q_=>(fun q_=>(fun q_=>(fun q_=>(fun q_=>(fun q_=>(fun q_=>(fun q_=>(fun q_=>h163 (.inr q_)) (.inr q_)) (.inr q_)) (.inr q_)) (.inr q_)) (.inr q_)) (.inr q_)) (.inr q_)) (.inr q_)) (.inl q_))
  have h173a:=decide_eq_false h173
  have h174:((r45 h (r70 a (h.rooms.length:Int)) t0 cur tm_).1)=true:=(Decidable.not_not.1 (fun q_=>(fun q_=>(fun q_=>(fun q_=>(fun q_=>(fun q_=>(fun q_=>(fun q_=>(fun q_=>(fun q_=>h163 (.inr q_)) (.inr q_)) (.inr q_)) (.inr q_)) (.inr q_)) (.inr q_)) (.inr q_)) (.inr q_)) (.inr q_)) (.inr q_)))
  have h174a:=id h174
  obtain ⟨u175,S175,k175,a175,oo175⟩:=c48 h (r70 a (h.rooms.length:Int)) t0 cur (r68_ok (by assumption)).1 hs _ (trees _ _ _).choose_spec S122 (v_h_rooms) (hv_h_rooms.agree g122) (v_h_doors) (hv_h_doors.agree g122) (v_h_ways) (hv_h_ways.agree g122)
  have l175:=a175.1
  obtain ⟨pu175,nu175,cu175,rfl⟩:=own_slice oo175
  have ap176:∀ b,blkOf (.slice pu114 nu114 cu114)=some b→blkOf (.slice pu175 nu175 cu175)≠some b:=fun b hb=>oo175.ne (Nat.lt_of_lt_of_le (o114_124.lt hb) (by omega))
  have s175:E0.same S122 S175=true:=symEnv_same a175
  have v1_175:=(a175.2 S.next (by omega)).trans v1_122
  have o114_177:=o114_124.agree a175
  have g175:Agree S S175:=g122.trans a175
  have p175:=r48_len h (r70 a (h.rooms.length:Int)) t0 cur
  obtain ⟨S178,k178,a178⟩:=c39 h (r70 a (h.rooms.length:Int)) t0 ((r48 h (r70 a (h.rooms.length:Int)) t0 cur).1:List Stp) (r68_ok (by assumption)).1 hs (by omega) S175 (v_h_rooms) (hv_h_rooms.agree g175) (v_h_doors) (hv_h_doors.agree g175) (v_h_ways) (hv_h_ways.agree g175) (.slice pu175 nu175 cu175) ((rep94 oo175.rows))
  have l178:=a178.1
  have s178:E0.same S175 S178=true:=symEnv_same a178
  have v1_178:=(a178.2 S.next (by omega)).trans v1_175
  have o114_179:=o114_177.agree a178
  have o175_180:=oo175.agree a178
  have g178:Agree S S178:=g175.trans a178
  try simp (disch:=first|omega|assumption) only [E0_G,SY,off,agreeKind,vals,ldA,rdCells,aggD,aExtract,Nat.reduceAdd,Nat.reduceLT,Nat.reduceBEq,TY_EvH36,v1_122,g126_2,g126_5,g126_11,g126_12,k175,v1_175,k178,c21s] at hz
  generalize hL181:behind _ _=L181 at hz
  refine join_reg hL181 (fun t S'=>∃ (j181_0:Bool),j181_0=decide ((((r48 h (r70 a (h.rooms.length:Int)) t0 cur).2)=0)∧((((r39 h (r70 a (h.rooms.length:Int)) t0 ((r48 h (r70 a (h.rooms.length:Int)) t0 cur).1:List Stp)).2.2)=0)∧((((r39 h (r70 a (h.rooms.length:Int)) t0 ((r48 h (r70 a (h.rooms.length:Int)) t0 cur).1:List Stp)).1)=cur)∧(((r39 h (r70 a (h.rooms.length:Int)) t0 ((r48 h (r70 a (h.rooms.length:Int)) t0 cur).1:List Stp)).2.1)=(lget ((r41 h (r70 a (h.rooms.length:Int)) t0).1) (Int.toNat cur))))))∧t.get 10=some (.bool j181_0)∧S178=S') (fun tl181=>?_) (fun t181 S181 hn181 hq181=>?_)
  ·try simp (disch:=first|omega|assumption) only [E0_G,SY,setArgs,off,agreeKind,partVals,vals,allocV,boxed,ldA,rdCells,oneB,aggD,aField,aFieldV,aExtract,eq_self,ne_eq,if_true,if_false,not_false_eq_true,Nat.reduceAdd,Nat.reduceSub,Nat.reduceMul,Nat.reduceLT,Nat.reduceEqDiff,Nat.reduceBEq,reduceIte,Int.reduceEq,Int.reduceLT,Int.reduceLE,reduceCtorEq,TY_EvH36,h12a,h13a,h16a,w19,ge21_2,ge21_5,ge21_11,ge21_12,ge21_13,ge21_14,be21_1,k112,s112,v1_112,k114,s114,v1_114,k117,s117,v1_117,k122,s122,v1_122,g126_2,g126_5,g126_11,g126_12,g126_26,g126_270,h163a,h164a,h165a,h166a,h167a,h168a,h169a,h170a,h171a,h172a,h173a,h174a,k175,s175,v1_175,k178,s178,v1_178,c21s] at hL181
   rcases dP (((r48 h (r70 a (h.rooms.length:Int)) t0 cur).2)=0) with ⟨h187a,h187⟩|⟨h187a,h187⟩
   ·try simp (disch:=first|omega|assumption) only [E0_G,SY,off,agreeKind,Nat.reduceAdd,Nat.reduceLT,Nat.reduceBEq,h187a] at hL181
    rcases dP (((r39 h (r70 a (h.rooms.length:Int)) t0 ((r48 h (r70 a (h.rooms.length:Int)) t0 cur).1:List Stp)).2.2)=0) with ⟨h188a,h188⟩|⟨h188a,h188⟩
    ·try simp (disch:=first|omega|assumption) only [E0_G,SY,off,agreeKind,Nat.reduceAdd,Nat.reduceLT,Nat.reduceBEq,g126_12,h188a] at hL181
     rcases dP (((r39 h (r70 a (h.rooms.length:Int)) t0 ((r48 h (r70 a (h.rooms.length:Int)) t0 cur).1:List Stp)).1)=cur) with ⟨h189a,h189⟩|⟨h189a,h189⟩
     ·have qz190:((Int.toNat cur:Nat):Int)=cur:=Int.toNat_of_nonneg (by first|omega|simp; omega)
      have hx191:((r41 h (r70 a (h.rooms.length:Int)) t0).1)[(Int.toNat cur)]?=some (lget ((r41 h (r70 a (h.rooms.length:Int)) t0).1) (Int.toNat cur)):=lget_some (by first|omega|simp; omega)
      obtain ⟨id191,of191,cc191,ty191,wr191,ex191,i191,j191,l191,q191,lb191,bk191,oq191⟩:=o114_179.at4 (P:=Tryz.prog) (t:=54) Tryz.underlying54 tz3 hx191
      have m191_0:cc191[of191]?=some (.int .i64 (lget ((r41 h (r70 a (h.rooms.length:Int)) t0).1) (Int.toNat cur))):=q191 0 (show 0<1 by decide)
      rw [qz190] at i191
      try simp (disch:=first|omega|assumption) only [E0_G,SY,off,agreeKind,ldA,aggD,Nat.reduceAdd,Nat.reduceLT,Nat.reduceBEq,TY_EvH36,g126_12,g126_26,h189a,i191,j191,m191_0] at hL181
      refine tl181 _ _ hL181.symm ⟨decide (((r39 h (r70 a (h.rooms.length:Int)) t0 ((r48 h (r70 a (h.rooms.length:Int)) t0 cur).1:List Stp)).2.1)=(lget ((r41 h (r70 a (h.rooms.length:Int)) t0).1) (Int.toNat cur))),by simp only [eq_true h187,eq_true h188,eq_true h189,true_and],?_,rfl⟩<;>first|(simp only [SY,eq_self,Nat.reduceBEq]<;>rfl)|omega|assumption|(simp; omega)|simp
     try simp (disch:=first|omega|assumption) only [E0_G,SY,off,agreeKind,Nat.reduceAdd,Nat.reduceLT,Nat.reduceBEq,h189a] at hL181
     refine tl181 _ _ hL181.symm ⟨false,by simp only [eq_true h187,eq_true h188,eq_false h189,false_and,and_false,decide_false],?_,rfl⟩<;>first|(simp only [SY,eq_self,Nat.reduceBEq]<;>rfl)|omega|assumption|(simp; omega)|simp
    try simp (disch:=first|omega|assumption) only [E0_G,SY,off,agreeKind,Nat.reduceAdd,Nat.reduceLT,Nat.reduceBEq,h188a] at hL181
    refine tl181 _ _ hL181.symm ⟨false,by simp only [eq_true h187,eq_false h188,false_and,and_false,decide_false],?_,rfl⟩<;>first|(simp only [SY,eq_self,Nat.reduceBEq]<;>rfl)|omega|assumption|(simp; omega)|simp
   try simp (disch:=first|omega|assumption) only [E0_G,SY,off,agreeKind,Nat.reduceAdd,Nat.reduceLT,Nat.reduceBEq,h187a] at hL181
   refine tl181 _ _ hL181.symm ⟨false,by simp only [eq_false h187,false_and,decide_false],?_,rfl⟩<;>first|(simp only [SY,eq_self,Nat.reduceBEq]<;>rfl)|omega|assumption|(simp; omega)|simp
  subst hn181
  obtain ⟨j181_0,rfl,g181_10,rfl⟩:=hq181
  try simp (disch:=first|omega|assumption) only [SY,g181_10] at hz
  have hr:r16 h a t0 l q=decide ((((r48 h (r70 a (h.rooms.length:Int)) t0 cur).2)=0)∧((((r39 h (r70 a (h.rooms.length:Int)) t0 ((r48 h (r70 a (h.rooms.length:Int)) t0 cur).1:List Stp)).2.2)=0)∧((((r39 h (r70 a (h.rooms.length:Int)) t0 ((r48 h (r70 a (h.rooms.length:Int)) t0 cur).1:List Stp)).1)=cur)∧(((r39 h (r70 a (h.rooms.length:Int)) t0 ((r48 h (r70 a (h.rooms.length:Int)) t0 cur).1:List Stp)).2.1)=(lget ((r41 h (r70 a (h.rooms.length:Int)) t0).1) (Int.toNat cur)))))):=(if_neg h12).trans ((onSum_inr hR21).trans ((if_neg h163).trans (rfl)))
  exact fin hz (by rw [hr]) g178
 obtain ⟨r10,ge21_10,ge21,hR21⟩:=hQ21
 try simp (disch:=first|omega|assumption) only [SY,ge21_10] at hz
 have hr:r16 h a t0 l q=r10:=(if_neg h12).trans ((onSum_inl hR21).trans (rfl))
 exact fin hz (by rw [hr]) ge21
end House
end Go.Proofs
