import Derived.Test.YtpaipdipkgnpdaaGreatBP
import Derived.Test.YtpaipdipkgnpdaaGreatBT
import Derived.Test.YtpaipdipkgnpdaaGreatAE7
section
set_option linter.unusedSimpArgs false
set_option linter.unusedVariables false
namespace Go.Proofs
namespace Clock
open Go Go.RowKit Go.Aev
set_option maxRecDepth 100000
theorem lget_set_self {α:Type} [Inhabited α] {l:List α} {i:Nat} {x:α} (h:i<l.length):lget (l.set i x) i=x:=by
 unfold lget; rw [List.getD_eq_getElem?_getD,List.getElem?_set_self h]; rfl
theorem lget_set_ne {α:Type} [Inhabited α] {l:List α} {i j:Nat} {x:α} (h:i≠j):lget (l.set i x) j=lget l j:=by
 unfold lget; rw [List.getD_eq_getElem?_getD,List.getD_eq_getElem?_getD,List.getElem?_set_ne h]
def Trn (l o:List Int) (i:Nat):Prop:=o.length=l.length∧∀ q,q<l.length→lget o q=if q<i∨l.length≤q+i then lget l (l.length - 1 - q) else lget l q
theorem Trn.step {l o:List Int} {i:Nat} (h:Trn l o i) (hi:2 * i+1<l.length):Trn l (swp o i (l.length - 1 - i)) (i+1):=by
 have hl:=h.1
 refine ⟨by unfold swp; rw [List.length_set,List.length_set]; exact hl,fun q hq=>?_⟩
 have a1:=h.2 i (by omega); rw [if_neg (by omega)] at a1
 have a2:=h.2 (l.length - 1 - i) (by omega); rw [if_neg (by omega)] at a2
 unfold swp
 by_cases e:l.length - 1 - i=q
 ·subst e
  rw [lget_set_self (by rw [List.length_set]; omega),a1,if_pos (by omega)]
  congr 1; omega
 ·rw [lget_set_ne e]
  by_cases e2:i=q
  ·subst e2
   rw [lget_set_self (by omega),a2,if_pos (by omega)]
  ·rw [lget_set_ne e2,h.2 q hq]
   by_cases c:q<i∨l.length≤q+i
   ·rw [if_pos c,if_pos (by omega)]
   ·rw [if_neg c,if_neg (by omega)]
theorem Trn.fin {l o:List Int} {i:Nat} (h:Trn l o i) (hi:l.length≤2 * i+1):o=l.reverse:=by
 have hl:=h.1
 apply List.ext_getElem (by rw [List.length_reverse]; exact hl)
 intro q h1 h2
 have k:=h.2 q (by omega)
 have k1:lget o q=o[q]:=lget_of (List.getElem?_eq_getElem h1)
 rw [← k1,k,List.getElem_reverse]
 split
 ·exact lget_of (List.getElem?_eq_getElem (by omega))
 ·rw [lget_of (List.getElem?_eq_getElem (by omega:q<l.length))]
  congr 1; omega
end Clock
end Go.Proofs
end
section
set_option linter.unusedSimpArgs false
set_option linter.unusedVariables false
namespace Go.Proofs
namespace Clock
open Go Go.RowKit Go.Aev
set_option maxRecDepth 100000
theorem TY_EvW8:type_of% (And.intro TY_EvW6 (And.intro (And.intro Tryz.underlying203 tz203) (And.intro tt203 t0_203))):=(And.intro TY_EvW6 (And.intro (And.intro Tryz.underlying203 tz203) (And.intro tt203 t0_203)))
theorem _root_.Go.Aev.Lst.dfd {α:Type} [Cel α] {S S':AS} {v:Value} {l:List α} {x:Nat} {o:Bool} (h:Lst S v l) (hx:S.heap.get x=some (.dfd o)) (hn:S.next≤S'.next) (q:∀ j,j≠x→S'.heap.get j=S.heap.get j):Lst S' v l:=by
 rcases h with h|⟨id,off,c,ty,cap,wr,ex,h1,h2,h3,h4,h5⟩
 ·exact .inl h
 ·exact .inr ⟨id,off,c,ty,cap,wr,ex,h1,h2,(q id (fun e=>by rw [e,hx] at h3; cases h3)).trans h3,by omega,h5⟩
theorem own_blk {α:Type} [Cel α] {el lo:Nat} {S:AS} {v:Value} {l:List α} (h:Own el lo S v l) (hl:0<l.length):∃ id,v=.slice (some ⟨id,0,none⟩) l.length l.length∧lo≤id∧id<S.next:=by
 rcases h with ⟨rfl,_⟩|⟨id,ex,h1,h2,h3,_⟩
 ·simp at hl
 ·exact ⟨id,h1,h2,h3⟩
theorem cSort (l:List Int) (hl:l.length≤1000) (h0:0<l.length) (lo:Nat) (S:AS) (v:Value) (ho:Own 3 lo S v l) :
  ∃ S',(evL Tryz.prog E0).call 112 #[v] S=some (.tuple #[],S')∧Keep v S S'∧Own 3 lo S' v (srtI l):=by
 obtain ⟨id,rfl,_,_⟩:=own_blk ho h0
 exact c112 l hl lo S _ ho id rfl
theorem cCompact (l:List Int) (hl:l.length≤1000) (h0:0<l.length) (lo:Nat) (S:AS) (v:Value) (ho:Own 3 lo S v l) :
  ∃ v' S',(evL Tryz.prog E0).call 164 #[v] S=some (v',S')∧Keep v S S'∧Lst S' v' (cps l):=by
 obtain ⟨id,rfl,_,_⟩:=own_blk ho h0
 obtain ⟨v',S',h1,h2,_,h3⟩:=c164 l hl lo S id ho
 exact ⟨v',S',h1,h2,h3⟩
set_option maxHeartbeats 2000000 in
theorem c162 (l:List Int) (hl:l.length≤65536) (S:AS) (v_l:Value) (hv_l:Lst S v_l l) :
  ∃ v' S',(evL Tryz.prog E0).call 162 #[v_l] S=some (v',S')∧Agree S S'∧Own 3 S.next S' v' (l):=by
 generalize hz:(evL Tryz.prog E0).call 162 _ _=z
 rw [L_call,evCall_said rfl Tryz.func162 rfl (by decide) Tryz.ntmps162 Tryz.results162] at hz
 have yb1:=fun dst ty pos after g f S=>bin_eqlSl (P:=Tryz.prog) (E:=E0) (r:=evL Tryz.prog E0) dst ty pos after g f S (hv_l).form
 have yc1:=fun S=>slEq_lst (hv_l) 3 S
 try simp (disch:=first|omega|assumption) only [E0_G,SY,setArgs,off,agreeKind,Nat.reduceAdd,Nat.reduceSub,Nat.reduceLT,Nat.reduceBEq,TY_EvW8,yb1,yc1,opB_eql,opC_eql,strEq_sl,firstOf_none] at hz
 rcases dB (nilB v_l) with ⟨h2a,h2⟩|⟨h2a,h2⟩
 ·try simp (disch:=first|omega|assumption) only [E0_G,SY,off,agreeKind,Nat.reduceLT,Nat.reduceBEq,h2a] at hz
  have hr:l=[]:=nilB_nil hv_l h2
  exact ⟨.slice none 0 0,S,by first|(rw [hr]; exact hz.symm)|exact hz.symm,(Agree.refl S),by rw [hr]; exact Own.nil _ _ _⟩
 have y3:aBuildSlice Tryz.prog 31 0 [] S=some (.slice (some ⟨S.next,0,none⟩) 0 0,S.push (.cells [] 3 1 true true)):=by kernel_rfl
 obtain ⟨S4,e4,n4,b4,a4⟩:=push_open S (.cells [] 3 1 true true)
 have g4:Agree S S4:=a4
 have o5:Own 3 S.next S4 (.slice (some ⟨S.next,0,none⟩) 0 0) ([]:List Int):=.inr ⟨_,true,rfl,Nat.le_refl _,by omega,b4⟩
 obtain ⟨u6,S6,k6,o6,n6,f6,d6⟩:=own_append (P:=Tryz.prog) (t:=31) (tx:=31) (n:=0) (v:=.slice (some ⟨S.next,0,none⟩) 0 0) o5 (hv_l.agree g4) (by omega) (by first|omega|(simp; omega)|simp) (by first|omega|(simp; omega)|simp) Tryz.underlying31 Tryz.underlying31 ti3 tv3 rfl tz3
 obtain ⟨pu6,nu6,cu6,rfl⟩:=own_slice o6
 have g6:Agree S S6:=⟨Nat.le_trans (g4).1 n6,fun id hid=>(f6 id (by have:=(g4).1; omega) (by first|(simp [blkOf]; done)|exact o5.ne (by omega)|assumption)).trans ((g4).2 id hid)⟩
 try simp (disch:=first|omega|assumption) only [E0_G,SY,off,agreeKind,partVals,Nat.reduceAdd,Nat.reduceLT,Nat.reduceBEq,h2a,y3,e4,k6] at hz
 have hr:l=([])++l:=by simp
 exact ⟨.slice pu6 nu6 cu6,S6,by first|(rw [hr]; exact hz.symm)|exact hz.symm,g6,by rw [hr]; exact o6.low (by omega)⟩
def R127_186_0 (r:Rc) (further:List Int)  : List Sk→Nat→List Int→(List Int)
 | [],k,al=>al
 | x249 :: l',k,al=>R127_186_0 r further l' (k+1) (al++([x249.lo,IntKind.i64.wrap (x249.hi+1)]))
theorem R127_len (r:Rc) (further:List Int):∀ (l:List Sk) (k:Nat) (al:List Int),(R127_186_0 r further l k al).length=al.length+2 * l.length
 | [],k,al=>by simp [R127_186_0]
 | x :: l,k,al=>by
  rw [R127_186_0,R127_len r further l]
  simp only [List.length_append,List.length_cons,List.length_nil]; omega
def r127 (r:Rc) (further:List Int):List Int:=cps (srtI ((R127_186_0 r further r.strikes 0 (((further:List Int))++([r.ses.zLo,IntKind.i64.wrap (r.ses.zHi+1)])))++([r.ses.eLo,IntKind.i64.wrap (r.ses.eHi+1)])))
set_option maxHeartbeats 2000000 in
theorem c127 (r:Rc) (further:List Int) (hp:r.ses.stops.length≤12) (hs:r.strikes.length≤20) (hg:r.sights.length≤20) (hf:further.length≤5) (S:AS) (v_r_ses_stops:Value) (hv_r_ses_stops:Lst S v_r_ses_stops r.ses.stops) (v_r_strikes:Value) (hv_r_strikes:Lst S v_r_strikes r.strikes) (v_r_sights:Value) (hv_r_sights:Lst S v_r_sights r.sights) (v_further:Value) (hv_further:Lst S v_further further) :
  ∃ v'0 S',(evL Tryz.prog E0).call 127 #[.agg #[.int .i64 r.ses.id,.int .i64 r.ses.inLo,.int .i64 r.ses.inHi,.int .i64 r.ses.outLo,.int .i64 r.ses.outHi,.int .i64 r.ses.zLo,.int .i64 r.ses.zHi,.int .i64 r.ses.eLo,.int .i64 r.ses.eHi,.int .i64 r.ses.rLo,.int .i64 r.ses.rHi,v_r_ses_stops,v_r_strikes,v_r_sights],v_further] S=some (v'0,S')∧Agree S S'∧Lst S' v'0 (r127 r further):=by
 generalize hz:(evL Tryz.prog E0).call 127 _ _=z
 rw [L_call,evCall_said rfl Tryz.func127 rfl (by decide) Tryz.ntmps127 Tryz.results127] at hz
 obtain ⟨S1,e1,n1,b1,a1⟩:=push_open S (.cells [.int .i64 r.ses.id,.int .i64 r.ses.inLo,.int .i64 r.ses.inHi,.int .i64 r.ses.outLo,.int .i64 r.ses.outHi,.int .i64 r.ses.zLo,.int .i64 r.ses.zHi,.int .i64 r.ses.eLo,.int .i64 r.ses.eHi,.int .i64 r.ses.rLo,.int .i64 r.ses.rHi,v_r_ses_stops,v_r_strikes,v_r_sights] 30 0 true true)
 have g1:Agree S S1:=a1
 have s1:E0.same S S1=true:=symEnv_same a1
 obtain ⟨u2,S2,k2,a2,oo2⟩:=c162 (further:List Int) (by first|omega|(simp; omega)) S1 (v_further) (hv_further.agree g1)
 have l2:=a2.1
 obtain ⟨pu2,nu2,cu2,rfl⟩:=own_slice oo2
 have s2:E0.same S1 S2=true:=symEnv_same a2
 have v1_2:=(a2.2 S.next (by omega)).trans b1
 have g2:Agree S S2:=g1.trans a2
 obtain ⟨S3,e3,n3,b3,a3⟩:=push_open S2 (.cells [.slice none 0 0] 31 0 true true)
 have v1_3:=(a3.2 S.next (by omega)).trans v1_2
 have o2_4:=oo2.agree a3
 have g3:Agree S S3:=g2.trans a3
 have s3:E0.same S2 S3=true:=symEnv_same a3
 have ne5:blkOf (.slice pu2 nu2 cu2)≠some S2.next:=oo2.new (Nat.le_refl _)
 obtain ⟨S6,k6,n6,b6,q6⟩:=st_at (o:=0) (c':=[.slice pu2 nu2 cu2]) (v:=.slice pu2 nu2 cu2) tz31 b3 rfl rfl (show 0+1≤1 by decide) rfl
 have v1_6:=(q6 S.next (by omega)).trans v1_3
 have o2_7:=o2_4.frame (by omega) (fun id hid hb=>q6 id (fun e=>(show blkOf (.slice pu2 nu2 cu2)≠some S2.next from by first|exact o2_4.ne (by omega)|exact o2_4.new (by omega)|assumption) (e ▸ hb)))
 have g6:Agree S S6:=⟨by have:=(g3).1; omega,fun id hid=>(q6 id (by have:=(g3).1; omega)).trans ((g3).2 id hid)⟩
 try simp (disch:=first|omega|assumption) only [E0_G,SY,setArgs,off,agreeKind,vals,allocV,boxed,ldA,rdCells,aggD,Nat.reduceAdd,Nat.reduceSub,Nat.reduceLT,Nat.reduceBEq,TY_EvW8,e1,k2,e3,v1_6,k6] at hz
 generalize hc8:(evL Tryz.prog E0).call 163 _ _=zc8 at hz
 rw [L_call,evCall_said rfl Tryz.func163 rfl (by decide) Tryz.ntmps163 Tryz.results163] at hc8
 obtain ⟨S9,e9,n9,b9,a9⟩:=push_open S6 (.cells [.int .i64 r.ses.id,.int .i64 r.ses.inLo,.int .i64 r.ses.inHi,.int .i64 r.ses.outLo,.int .i64 r.ses.outHi,.int .i64 r.ses.zLo,.int .i64 r.ses.zHi,.int .i64 r.ses.eLo,.int .i64 r.ses.eHi,.int .i64 r.ses.rLo,.int .i64 r.ses.rHi,v_r_ses_stops,v_r_strikes,v_r_sights] 30 0 true true)
 have v1_9:=(a9.2 S.next (by omega)).trans v1_6
 have v3_9:=(a9.2 S2.next (by omega)).trans b6
 have o2_10:=o2_7.agree a9
 have g9:Agree S S9:=g6.trans a9
 have s9:E0.same S6 S9=true:=symEnv_same a9
 have ne11:blkOf (.slice pu2 nu2 cu2)≠some S6.next:=o2_7.new (Nat.le_refl _)
 try simp (disch:=first|omega|assumption) only [E0_G,SY,setArgs,off,agreeKind,boxed,Nat.reduceAdd,Nat.reduceSub,Nat.reduceLT,Nat.reduceBEq,e9,op_makeFunc1] at hc8
 subst hc8
 try simp (disch:=first|omega|assumption) only [SY,Nat.reduceLT] at hz
 generalize hL12:evCode _ _ _ _ (Code.rangeFunc _ _ _ _) _=L12z at hz
 obtain ⟨xx12,S12,rfl,hQ12⟩:=range_in hL12 (fun t=>t.get 5=some (.pointer (some ⟨S2.next,0,none⟩))) (by refine ?_<;>first|(simp (disch:=first|omega|assumption) only [SY,eq_self,Nat.reduceBEq]<;>rfl)|trivial) (k:=186) (cs:=#[]) (ds:=#[.pointer (some ⟨S6.next,0,none⟩)]) (by simp (disch:=first|omega|assumption) only [SY,eq_self,Nat.reduceBEq]) ⟨_,rfl⟩ (fun a S'=>rfl) (fun xq S'=>xq=.normal∧S'.heap.get S9.next=some (.dfd true)∧∃ (pm12_s0:Option Addr) (nm12_s0 cm12_s0:Nat),S'.heap.get S.next=some (.cells [.int .i64 r.ses.id,.int .i64 r.ses.inLo,.int .i64 r.ses.inHi,.int .i64 r.ses.outLo,.int .i64 r.ses.outHi,.int .i64 r.ses.zLo,.int .i64 r.ses.zHi,.int .i64 r.ses.eLo,.int .i64 r.ses.eHi,.int .i64 r.ses.rLo,.int .i64 r.ses.rHi,v_r_ses_stops,v_r_strikes,v_r_sights] 30 0 true true)∧S'.heap.get S2.next=some (.cells [.slice pm12_s0 nm12_s0 cm12_s0] 31 0 true true)∧S'.heap.get S6.next=some (.cells [.int .i64 r.ses.id,.int .i64 r.ses.inLo,.int .i64 r.ses.inHi,.int .i64 r.ses.outLo,.int .i64 r.ses.outHi,.int .i64 r.ses.zLo,.int .i64 r.ses.zHi,.int .i64 r.ses.eLo,.int .i64 r.ses.eHi,.int .i64 r.ses.rLo,.int .i64 r.ses.rHi,v_r_ses_stops,v_r_strikes,v_r_sights] 30 0 true true)∧Agree S S'∧S9.next+2≤S'.next∧Own 3 S.next S' (.slice pm12_s0 nm12_s0 cm12_s0) ((R127_186_0 r further r.strikes 0 (((further:List Int))++([r.ses.zLo,IntKind.i64.wrap (r.ses.zHi+1)])))++([r.ses.eLo,IntKind.i64.wrap (r.ses.eHi+1)]))∧blkOf (.slice pm12_s0 nm12_s0 cm12_s0)≠some S.next∧blkOf (.slice pm12_s0 nm12_s0 cm12_s0)≠some S2.next∧blkOf (.slice pm12_s0 nm12_s0 cm12_s0)≠some S6.next∧blkOf (.slice pm12_s0 nm12_s0 cm12_s0)≠some S9.next∧(((R127_186_0 r further r.strikes 0 (((further:List Int))++([r.ses.zLo,IntKind.i64.wrap (r.ses.zHi+1)])))++([r.ses.eLo,IntKind.i64.wrap (r.ses.eHi+1)]))).length=further.length+4+2 * r.strikes.length) (by
   rintro t12 gt12_5 L12 S12a S12b y12 n12a b12a a12a n12b b12b a12b yq12 hb12 zc12 hc12
   have v1_12a:=(a12a.2 S.next (by omega)).trans v1_9
   have v3_12a:=(a12a.2 S2.next (by omega)).trans v3_9
   have v9_12a:=(a12a.2 S6.next (by omega)).trans b9
   have o2_191:=o2_10.agree a12a
   have g12a:Agree S S12a:=g9.trans a12a
   have ne192:blkOf (.slice pu2 nu2 cu2)≠some S9.next:=o2_10.new (by omega)
   have v1_12b:=(a12b.2 S.next (by omega)).trans v1_12a
   have v3_12b:=(a12b.2 S2.next (by omega)).trans v3_12a
   have v9_12b:=(a12b.2 S6.next (by omega)).trans v9_12a
   have vd12_12b:=(a12b.2 S9.next (by omega)).trans b12a
   have o2_193:=o2_191.agree a12b
   have g12b:Agree S S12b:=g12a.trans a12b
   have ne194:blkOf (.slice pu2 nu2 cu2)≠some y12:=o2_191.new (by omega)
   have yl12:S.next≤y12:=by have:=(g12b).1; omega
   rw [L_call,evCall_said rfl Tryz.func186 rfl (by decide) Tryz.ntmps186 Tryz.results186] at hc12
   have y195:aBuild Tryz.prog 131 [(0,.int .i64 1)]=some (.agg #[.int .i64 1,.int .i64 0]):=by kernel_rfl
   try simp (disch:=first|omega|assumption) only [E0_G,SY,setArgs,off,agreeKind,partVals,vals,ldA,rdCells,aggD,aField,Nat.reduceAdd,Nat.reduceSub,Nat.reduceLT,Nat.reduceBEq,TY_EvW8,v9_12b,y195] at hc12
   obtain ⟨S196,k196,pm196_s0,nm196_s0,cm196_s0,bq196,bm196_1,bm196_3,bm196_9,bm196_d12,gm196,gl196,om196_0,ne196_m0,ne196_m1,ne196_m2,ne196_m3,ne196_d0⟩:=round_in (P:=Tryz.prog) (E:=E0) (bs:=[.agg #[.int .i64 1,.int .i64 0],.agg #[.int .i64 r.ses.zLo,.int .i64 r.ses.zHi]]) hb12 rfl b12b (Q:=fun S'=>∃ (pm196_s0:Option Addr) (nm196_s0 cm196_s0:Nat),S'.heap.get y12=some (.loop L12)∧S'.heap.get S.next=some (.cells [.int .i64 r.ses.id,.int .i64 r.ses.inLo,.int .i64 r.ses.inHi,.int .i64 r.ses.outLo,.int .i64 r.ses.outHi,.int .i64 r.ses.zLo,.int .i64 r.ses.zHi,.int .i64 r.ses.eLo,.int .i64 r.ses.eHi,.int .i64 r.ses.rLo,.int .i64 r.ses.rHi,v_r_ses_stops,v_r_strikes,v_r_sights] 30 0 true true)∧S'.heap.get S2.next=some (.cells [.slice pm196_s0 nm196_s0 cm196_s0] 31 0 true true)∧S'.heap.get S6.next=some (.cells [.int .i64 r.ses.id,.int .i64 r.ses.inLo,.int .i64 r.ses.inHi,.int .i64 r.ses.outLo,.int .i64 r.ses.outHi,.int .i64 r.ses.zLo,.int .i64 r.ses.zHi,.int .i64 r.ses.eLo,.int .i64 r.ses.eHi,.int .i64 r.ses.rLo,.int .i64 r.ses.rHi,v_r_ses_stops,v_r_strikes,v_r_sights] 30 0 true true)∧S'.heap.get S9.next=some (.dfd true)∧Agree S S'∧S12b.next≤S'.next∧Own 3 S.next S' (.slice pm196_s0 nm196_s0 cm196_s0) (((further:List Int))++([r.ses.zLo,IntKind.i64.wrap (r.ses.zHi+1)]))∧blkOf (.slice pm196_s0 nm196_s0 cm196_s0)≠some S.next∧blkOf (.slice pm196_s0 nm196_s0 cm196_s0)≠some S2.next∧blkOf (.slice pm196_s0 nm196_s0 cm196_s0)≠some S6.next∧blkOf (.slice pm196_s0 nm196_s0 cm196_s0)≠some S9.next∧blkOf (.slice pm196_s0 nm196_s0 cm196_s0)≠some y12) (by
     intro zA196 hA196
     obtain ⟨S221,e221,n221,b221,a221⟩:=push_open S12b (.cells [.int .i64 0,.int .i64 0] 23 0 true true)
     have v1_221:=(a221.2 S.next (by omega)).trans v1_12b
     have v3_221:=(a221.2 S2.next (by omega)).trans v3_12b
     have v9_221:=(a221.2 S6.next (by omega)).trans v9_12b
     have vd12_221:=(a221.2 S9.next (by omega)).trans vd12_12b
     have vl12_221:=(a221.2 y12 (by omega)).trans b12b
     have o2_222:=o2_193.agree a221
     have g221:Agree S S221:=g12b.trans a221
     have s221:E0.same S12b S221=true:=symEnv_same a221
     have ne223:blkOf (.slice pu2 nu2 cu2)≠some S12b.next:=o2_193.new (Nat.le_refl _)
     obtain ⟨S224,k224,n224,b224,q224⟩:=st_at (o:=0) (c':=[.int .i64 r.ses.zLo,.int .i64 r.ses.zHi]) (v:=.agg #[.int .i64 r.ses.zLo,.int .i64 r.ses.zHi]) tz23 b221 rfl rfl (show 0+2≤2 by decide) rfl
     have v1_224:=(q224 S.next (by omega)).trans v1_221
     have v3_224:=(q224 S2.next (by omega)).trans v3_221
     have v9_224:=(q224 S6.next (by omega)).trans v9_221
     have vd12_224:=(q224 S9.next (by omega)).trans vd12_221
     have vl12_224:=(q224 y12 (by omega)).trans vl12_221
     have o2_225:=o2_222.frame (by omega) (fun id hid hb=>q224 id (fun e=>(show blkOf (.slice pu2 nu2 cu2)≠some S12b.next from by first|exact o2_222.ne (by omega)|exact o2_222.new (by omega)|assumption) (e ▸ hb)))
     have g224:Agree S S224:=⟨by have:=(g221).1; omega,fun id hid=>(q224 id (by have:=(g221).1; omega)).trans ((g221).2 id hid)⟩
     try simp (disch:=first|omega|assumption) only [E0_G,SY,off,agreeKind,allocV,Nat.reduceAdd,Nat.reduceLT,Nat.reduceBEq,TY_EvW8,setP_cons,setP_nil,List.zip_cons_cons,List.zip_nil_right,e221,k224] at hA196
     refine ⟨_,S224,hA196.symm,vl12_224,?_⟩
     intro S226 n226 b226 q226 zB196 hB196
     have v1_226:=(q226 S.next (by omega)).trans v1_224
     have v3_226:=(q226 S2.next (by omega)).trans v3_224
     have v9_226:=(q226 S6.next (by omega)).trans v9_224
     have vd12_226:=(q226 S9.next (by omega)).trans vd12_224
     have v221_226:=(q226 S12b.next (by omega)).trans b224
     have o2_227:=o2_225.frame (by omega) (fun id hid hb=>q226 id (fun e=>(show blkOf (.slice pu2 nu2 cu2)≠some y12 from by first|exact o2_225.ne (by omega)|exact o2_225.new (by omega)|assumption) (e ▸ hb)))
     have g226:Agree S S226:=⟨by have:=(g224).1; omega,fun id hid=>(q226 id (by have:=(g224).1; omega)).trans ((g224).2 id hid)⟩
     have y228:aBuildSlice Tryz.prog 31 2 [(0,.int .i64 r.ses.zLo),(1,.int .i64 (IntKind.i64.wrap (r.ses.zHi+1)))] S226=some (.slice (some ⟨S226.next,0,none⟩) 2 2,S226.push (.cells [.int .i64 r.ses.zLo,.int .i64 (IntKind.i64.wrap (r.ses.zHi+1))] 3 1 true true)):=by kernel_rfl
     obtain ⟨S229,e229,n229,b229,a229⟩:=push_open S226 (.cells [.int .i64 r.ses.zLo,.int .i64 (IntKind.i64.wrap (r.ses.zHi+1))] 3 1 true true)
     have v1_229:=(a229.2 S.next (by omega)).trans v1_226
     have v3_229:=(a229.2 S2.next (by omega)).trans v3_226
     have v9_229:=(a229.2 S6.next (by omega)).trans v9_226
     have vd12_229:=(a229.2 S9.next (by omega)).trans vd12_226
     have vl12_229:=(a229.2 y12 (by omega)).trans b226
     have o2_230:=o2_227.agree a229
     have g229:Agree S S229:=g226.trans a229
     have s229:E0.same S226 S229=true:=symEnv_same a229
     have ne231:blkOf (.slice pu2 nu2 cu2)≠some S226.next:=o2_227.new (Nat.le_refl _)
     have o232:Own 3 S226.next S229 (.slice (some ⟨S226.next,0,none⟩) 2 2) ([r.ses.zLo,IntKind.i64.wrap (r.ses.zHi+1)]:List Int):=.inr ⟨_,true,rfl,Nat.le_refl _,by omega,b229⟩
     have ap233:∀ b,blkOf (.slice pu2 nu2 cu2)=some b→blkOf (.slice (some ⟨S226.next,0,none⟩) 2 2)≠some b:=fun b hb=>o232.ne (Nat.lt_of_lt_of_le (o2_227.lt hb) (by omega))
     obtain ⟨u234,S234,k234,o234,n234,f234,d234⟩:=own_append (P:=Tryz.prog) (t:=31) (tx:=31) (n:=0) (v:=.slice pu2 nu2 cu2) o2_230 (o232.rows) (by omega) (by first|omega|(simp; omega)|simp) (by first|omega|(simp; omega)|simp) Tryz.underlying31 Tryz.underlying31 ti3 tv3 rfl tz3
     obtain ⟨pu234,nu234,cu234,rfl⟩:=own_slice o234
     have v1_234:=(f234 S.next (by omega) (by first|(simp [blkOf]; done)|exact o2_230.ne (by omega)|exact o2_230.new (by omega)|assumption)).trans v1_229
     have v3_234:=(f234 S2.next (by omega) (by first|(simp [blkOf]; done)|exact o2_230.ne (by omega)|exact o2_230.new (by omega)|assumption)).trans v3_229
     have v9_234:=(f234 S6.next (by omega) (by first|(simp [blkOf]; done)|exact o2_230.ne (by omega)|exact o2_230.new (by omega)|assumption)).trans v9_229
     have vd12_234:=(f234 S9.next (by omega) (by first|(simp [blkOf]; done)|exact o2_230.ne (by omega)|exact o2_230.new (by omega)|assumption)).trans vd12_229
     have vl12_234:=(f234 y12 (by omega) (by first|(simp [blkOf]; done)|exact o2_230.ne (by omega)|exact o2_230.new (by omega)|assumption)).trans vl12_229
     have apo232_235:∀ b,blkOf (.slice (some ⟨S226.next,0,none⟩) 2 2)=some b→blkOf (.slice pu234 nu234 cu234)≠some b:=fun b hb=>d234 b (o232.lt hb) ((fun b h1 h2=>ap233 b h2 h1) b hb)
     have o232_235:=o232.frame n234 (fun id hid hb=>f234 id hid ((fun b h1 h2=>ap233 b h2 h1) id hb))
     have g234:Agree S S234:=⟨Nat.le_trans (g229).1 n234,fun id hid=>(f234 id (by have:=(g229).1; omega) (by first|(simp [blkOf]; done)|exact o2_230.ne (by omega)|assumption)).trans ((g229).2 id hid)⟩
     have ne236:blkOf (.slice pu234 nu234 cu234)≠some S.next:=by first|exact o234.ne (by omega)|exact o234.new (by omega)|exact d234 _ (by omega) (by first|(simp [blkOf]; done)|exact o2_230.ne (by omega)|exact o2_230.new (by omega)|assumption)
     have ne237:blkOf (.slice pu234 nu234 cu234)≠some S2.next:=by first|exact o234.ne (by omega)|exact o234.new (by omega)|exact d234 _ (by omega) (by first|(simp [blkOf]; done)|exact o2_230.ne (by omega)|exact o2_230.new (by omega)|assumption)
     have ne238:blkOf (.slice pu234 nu234 cu234)≠some S6.next:=by first|exact o234.ne (by omega)|exact o234.new (by omega)|exact d234 _ (by omega) (by first|(simp [blkOf]; done)|exact o2_230.ne (by omega)|exact o2_230.new (by omega)|assumption)
     have ne239:blkOf (.slice pu234 nu234 cu234)≠some S9.next:=by first|exact o234.ne (by omega)|exact o234.new (by omega)|exact d234 _ (by omega) (by first|(simp [blkOf]; done)|exact o2_230.ne (by omega)|exact o2_230.new (by omega)|assumption)
     have ne240:blkOf (.slice pu234 nu234 cu234)≠some y12:=by first|exact o234.ne (by omega)|exact o234.new (by omega)|exact d234 _ (by omega) (by first|(simp [blkOf]; done)|exact o2_230.ne (by omega)|exact o2_230.new (by omega)|assumption)
     have ne241:blkOf (.slice pu234 nu234 cu234)≠some S12b.next:=by first|exact o234.ne (by omega)|exact o234.new (by omega)|exact d234 _ (by omega) (by first|(simp [blkOf]; done)|exact o2_230.ne (by omega)|exact o2_230.new (by omega)|assumption)
     obtain ⟨S242,k242,n242,b242,q242⟩:=st_at (o:=0) (c':=[.slice pu234 nu234 cu234]) (v:=.slice pu234 nu234 cu234) tz31 v3_234 rfl rfl (show 0+1≤1 by decide) rfl
     have v1_242:=(q242 S.next (by omega)).trans v1_234
     have v9_242:=(q242 S6.next (by omega)).trans v9_234
     have vd12_242:=(q242 S9.next (by omega)).trans vd12_234
     have vl12_242:=(q242 y12 (by omega)).trans vl12_234
     have o232_243:=o232_235.frame (by omega) (fun id hid hb=>q242 id (fun e=>(show blkOf (.slice (some ⟨S226.next,0,none⟩) 2 2)≠some S2.next from by first|exact o232_235.ne (by omega)|exact o232_235.new (by omega)|assumption) (e ▸ hb)))
     have o234_244:=o234.frame (by omega) (fun id hid hb=>q242 id (fun e=>(show blkOf (.slice pu234 nu234 cu234)≠some S2.next from by first|exact o234.ne (by omega)|exact o234.new (by omega)|assumption) (e ▸ hb)))
     have g242:Agree S S242:=⟨by have:=(g234).1; omega,fun id hid=>(q242 id (by have:=(g234).1; omega)).trans ((g234).2 id hid)⟩
     try simp (disch:=first|omega|assumption) only [E0_G,SY,off,agreeKind,partVals,ldA,aggD,aField,Nat.reduceAdd,Nat.reduceLT,Nat.reduceBEq,TY_EvW8,gt12_5,v3_226,v221_226,y228,e229,k234,k242] at hB196
     refine ⟨_,_,S242,hB196.symm,vl12_242,?_⟩
     intro S245 n245 b245 q245
     have v1_245:=(q245 S.next (by omega)).trans v1_242
     have v3_245:=(q245 S2.next (by omega)).trans b242
     have v9_245:=(q245 S6.next (by omega)).trans v9_242
     have vd12_245:=(q245 S9.next (by omega)).trans vd12_242
     have o232_246:=o232_243.frame (by omega) (fun id hid hb=>q245 id (fun e=>(show blkOf (.slice (some ⟨S226.next,0,none⟩) 2 2)≠some y12 from by first|exact o232_243.ne (by omega)|exact o232_243.new (by omega)|assumption) (e ▸ hb)))
     have o234_247:=o234_244.frame (by omega) (fun id hid hb=>q245 id (fun e=>(show blkOf (.slice pu234 nu234 cu234)≠some y12 from by first|exact o234_244.ne (by omega)|exact o234_244.new (by omega)|assumption) (e ▸ hb)))
     have g245:Agree S S245:=⟨by have:=(g242).1; omega,fun id hid=>(q245 id (by have:=(g242).1; omega)).trans ((g242).2 id hid)⟩
     exact ⟨_,_,_,b245,v1_245,v3_245,v9_245,vd12_245,g245,by omega,(o234_247.low (by omega)),(by first|exact o234_247.ne (by omega)|exact o234_247.new (by omega)|assumption),(by first|exact o234_247.ne (by omega)|exact o234_247.new (by omega)|assumption),(by first|exact o234_247.ne (by omega)|exact o234_247.new (by omega)|assumption),(by first|exact o234_247.ne (by omega)|exact o234_247.new (by omega)|assumption),(by first|exact o234_247.ne (by omega)|exact o234_247.new (by omega)|assumption)⟩)
   replace k196:(evL Tryz.prog E0).round y12 #[.agg #[.int .i64 1,.int .i64 0],.agg #[.int .i64 r.ses.zLo,.int .i64 r.ses.zHi]] S12b=some (.bool true,S196):=k196
   have w248:=(hv_r_strikes.agree gm196).len (P:=Tryz.prog) (t:=27) Tryz.underlying27
   try simp (disch:=first|omega|assumption) only [E0_G,SY,off,agreeKind,vals,ldA,aggD,aField,Nat.reduceAdd,Nat.reduceLT,Nat.reduceBEq,TY_EvW8,bm196_9,k196,calledV_yield,firstOf_none,op_round,roundV_some,w248] at hc12
   generalize hL249:Rec.loop _ _ _ _=L249 at hc12
   obtain ⟨x249,t249,S249e,rfl,hQ249⟩:=loop_met hL249 (fun m t S'=>∃ (k:Nat) (v_al:Value) (al:List Int),m+k=r.strikes.length∧al.length=further.length+2+2 * k∧k≤r.strikes.length∧t.get 0=some (.func (.yield y12) #[] #[])∧t.get 1=some (.pointer (some ⟨S6.next,0,none⟩))∧t.get 13=some (v_r_strikes)∧t.get 14=some (.int .i64 (r.strikes.length:Int))∧t.get 15=some (.int .i64 (k:Int))∧S'.heap.get S6.next=some (.cells [.int .i64 r.ses.id,.int .i64 r.ses.inLo,.int .i64 r.ses.inHi,.int .i64 r.ses.outLo,.int .i64 r.ses.outHi,.int .i64 r.ses.zLo,.int .i64 r.ses.zHi,.int .i64 r.ses.eLo,.int .i64 r.ses.eHi,.int .i64 r.ses.rLo,.int .i64 r.ses.rHi,v_r_ses_stops,v_r_strikes,v_r_sights] 30 0 true true)∧S'.heap.get S.next=some (.cells [.int .i64 r.ses.id,.int .i64 r.ses.inLo,.int .i64 r.ses.inHi,.int .i64 r.ses.outLo,.int .i64 r.ses.outHi,.int .i64 r.ses.zLo,.int .i64 r.ses.zHi,.int .i64 r.ses.eLo,.int .i64 r.ses.eHi,.int .i64 r.ses.rLo,.int .i64 r.ses.rHi,v_r_ses_stops,v_r_strikes,v_r_sights] 30 0 true true)∧S'.heap.get S2.next=some (.cells [v_al] 31 0 true true)∧S'.heap.get y12=some (.loop L12)∧S'.heap.get S9.next=some (.dfd true)∧Agree S S'∧S196.next≤S'.next∧Own 3 S.next S' v_al al∧blkOf v_al≠some S6.next∧blkOf v_al≠some S.next∧blkOf v_al≠some S2.next∧blkOf v_al≠some y12∧blkOf v_al≠some S9.next∧R127_186_0 r further (r.strikes.drop k) k al=R127_186_0 r further r.strikes 0 (((further:List Int))++([r.ses.zLo,IntKind.i64.wrap (r.ses.zHi+1)])))
    (fun x t S'=>x=.exit 0∧∃ (k:Nat) (v_al:Value) (al:List Int),t.get 0=some (.func (.yield y12) #[] #[])∧t.get 1=some (.pointer (some ⟨S6.next,0,none⟩))∧S'.heap.get S6.next=some (.cells [.int .i64 r.ses.id,.int .i64 r.ses.inLo,.int .i64 r.ses.inHi,.int .i64 r.ses.outLo,.int .i64 r.ses.outHi,.int .i64 r.ses.zLo,.int .i64 r.ses.zHi,.int .i64 r.ses.eLo,.int .i64 r.ses.eHi,.int .i64 r.ses.rLo,.int .i64 r.ses.rHi,v_r_ses_stops,v_r_strikes,v_r_sights] 30 0 true true)∧S'.heap.get S.next=some (.cells [.int .i64 r.ses.id,.int .i64 r.ses.inLo,.int .i64 r.ses.inHi,.int .i64 r.ses.outLo,.int .i64 r.ses.outHi,.int .i64 r.ses.zLo,.int .i64 r.ses.zHi,.int .i64 r.ses.eLo,.int .i64 r.ses.eHi,.int .i64 r.ses.rLo,.int .i64 r.ses.rHi,v_r_ses_stops,v_r_strikes,v_r_sights] 30 0 true true)∧S'.heap.get S2.next=some (.cells [v_al] 31 0 true true)∧S'.heap.get y12=some (.loop L12)∧S'.heap.get S9.next=some (.dfd true)∧Agree S S'∧S196.next≤S'.next∧Own 3 S.next S' v_al al∧blkOf v_al≠some S6.next∧blkOf v_al≠some S.next∧blkOf v_al≠some S2.next∧blkOf v_al≠some y12∧blkOf v_al≠some S9.next∧al.length=further.length+2+2 * k∧k≤r.strikes.length∧R127_186_0 r further r.strikes 0 (((further:List Int))++([r.ses.zLo,IntKind.i64.wrap (r.ses.zHi+1)]))=al) (r.strikes.length - 0) (by refine ⟨0,.slice pm196_s0 nm196_s0 cm196_s0,((further:List Int))++([r.ses.zLo,IntKind.i64.wrap (r.ses.zHi+1)]),?_,?_,?_,?_,?_,?_,?_,?_,bm196_9,bm196_1,bm196_3,bq196,bm196_d12,gm196,Nat.le_refl _,om196_0,by first|exact om196_0.ne (by omega)|exact om196_0.new (by omega)|assumption,by first|exact om196_0.ne (by omega)|exact om196_0.new (by omega)|assumption,by first|exact om196_0.ne (by omega)|exact om196_0.new (by omega)|assumption,by first|exact om196_0.ne (by omega)|exact om196_0.new (by omega)|assumption,by first|exact om196_0.ne (by omega)|exact om196_0.new (by omega)|assumption,rfl⟩<;>first|(simp only [SY,eq_self,Nat.reduceMul,Nat.reduceBEq]<;>rfl)|omega|assumption|(simp; omega)|simp) (by
     rintro m t S249 ⟨k,v_al,al,hi249_0,hi249_1,hi249_2,g249_0,g249_1,g249_13,g249_14,g249_15,bb249_9,bb249_1,bb249_3,bb249_l12,bb249_d12,ga249,gn249,ow_al,nb249_9,nb249_1,nb249_3,nb249_l12,nb249_d12,hd249⟩
     refine .run fun z he=>?_
     try simp (disch:=first|omega|assumption) only [E0_G,SY,off,agreeKind,Nat.reduceLT,Nat.reduceBEq,g249_14,g249_15] at he
     rcases dP ((k:Int)<(r.strikes.length:Int)) with ⟨h250a,h250⟩|⟨h250a,h250⟩
     ·have hx249:r.strikes[k]?=some (r.strikes[k]'(by first|omega|simp; omega)):=List.getElem?_eq_getElem _
      generalize r.strikes[k]'_=x249 at hx249
      obtain ⟨id251,of251,cc251,ty251,wr251,ex251,i251,j251,l251,q251⟩:=(hv_r_strikes).at (P:=Tryz.prog) (t:=27) Tryz.underlying27 tz112 hx249
      have jr251:=j251
      have j251:=(ga249.2 id251 l251).trans jr251
      have m251_0:cc251[of251]?=some (.int .i64 x249.id):=q251 0 (show 0<3 by decide)
      have m251_1:cc251[of251+1]?=some (.int .i64 x249.lo):=q251 1 (show 1<3 by decide)
      have m251_2:cc251[of251+2]?=some (.int .i64 x249.hi):=q251 2 (show 2<3 by decide)
      obtain ⟨S252,e252,n252,b252,a252⟩:=push_open S249 (.cells [.int .i64 0,.int .i64 0,.int .i64 0] 112 0 true true)
      have v9_252:=(a252.2 S6.next (by omega)).trans bb249_9
      have v1_252:=(a252.2 S.next (by omega)).trans bb249_1
      have v3_252:=(a252.2 S2.next (by omega)).trans bb249_3
      have vl12_252:=(a252.2 y12 (by omega)).trans bb249_l12
      have vd12_252:=(a252.2 S9.next (by omega)).trans bb249_d12
      have ow_253:=ow_al.agree a252
      have g252:Agree S S252:=ga249.trans a252
      have s252:E0.same S249 S252=true:=symEnv_same a252
      have ne254:blkOf (v_al)≠some S249.next:=ow_al.new (Nat.le_refl _)
      obtain ⟨S255,k255,n255,b255,q255⟩:=st_at (o:=0) (c':=[.int .i64 x249.id,.int .i64 x249.lo,.int .i64 x249.hi]) (v:=.agg #[.int .i64 x249.id,.int .i64 x249.lo,.int .i64 x249.hi]) tz112 b252 rfl rfl (show 0+3≤3 by decide) rfl
      have v9_255:=(q255 S6.next (by omega)).trans v9_252
      have v1_255:=(q255 S.next (by omega)).trans v1_252
      have v3_255:=(q255 S2.next (by omega)).trans v3_252
      have vl12_255:=(q255 y12 (by omega)).trans vl12_252
      have vd12_255:=(q255 S9.next (by omega)).trans vd12_252
      have ow_256:=ow_253.frame (by omega) (fun id hid hb=>q255 id (fun e=>(show blkOf (v_al)≠some S249.next from by first|exact ow_253.ne (by omega)|exact ow_253.new (by omega)|assumption) (e ▸ hb)))
      have g255:Agree S S255:=⟨by have:=(g252).1; omega,fun id hid=>(q255 id (by have:=(g252).1; omega)).trans ((g252).2 id hid)⟩
      try simp (disch:=first|omega|assumption) only [E0_G,SY,off,agreeKind,allocV,ldA,rdCells,aggD,Nat.reduceAdd,Nat.reduceLT,Nat.reduceBEq,TY_EvW8,g249_13,g249_15,h250a,i251,j251,m251_0,m251_1,m251_2,e252,k255] at he
      rw [code_draws _ _ _ (by kernel_rfl)] at he
      generalize hnd257:needy _=nd257 at he
      have nn257_5:nd257 5=false:=by rw [← hnd257]; kernel_rfl
      obtain ⟨S258,k258,a258⟩:=c113 (k:Int)  S255
      have l258:=a258.1
      have s258:E0.same S255 S258=true:=symEnv_same a258
      have v9_258:=(a258.2 S6.next (by omega)).trans v9_255
      have v1_258:=(a258.2 S.next (by omega)).trans v1_255
      have v3_258:=(a258.2 S2.next (by omega)).trans v3_255
      have vl12_258:=(a258.2 y12 (by omega)).trans vl12_255
      have vd12_258:=(a258.2 S9.next (by omega)).trans vd12_255
      have v252_258:=(a258.2 S249.next (by omega)).trans b255
      have ow_259:=ow_256.agree a258
      have g258:Agree S S258:=g255.trans a258
      try simp (disch:=first|omega|assumption) only [E0_G,SY,agreeKind,vals,ldA,rdCells,aggD,aField,Nat.reduceAdd,Nat.reduceLT,Nat.reduceBEq,TY_EvW8,g249_0,nn257_5,store_agree,store_refl E0_same,k258,v252_258] at he
      obtain ⟨S260,k260,pm260_s0,nm260_s0,cm260_s0,bq260,bm260_9,bm260_1,bm260_3,bm260_d12,bm260_252,gm260,gl260,om260_0,ne260_m0,ne260_m1,ne260_m2,ne260_m3,ne260_m4,ne260_d0⟩:=round_in (P:=Tryz.prog) (E:=E0) (bs:=[.agg #[.int .i64 (((r113 (k:Int))).1),.int .i64 (((r113 (k:Int))).2)],.agg #[.int .i64 x249.lo,.int .i64 x249.hi]]) hb12 rfl vl12_258 (Q:=fun S'=>∃ (pm260_s0:Option Addr) (nm260_s0 cm260_s0:Nat),S'.heap.get y12=some (.loop L12)∧S'.heap.get S6.next=some (.cells [.int .i64 r.ses.id,.int .i64 r.ses.inLo,.int .i64 r.ses.inHi,.int .i64 r.ses.outLo,.int .i64 r.ses.outHi,.int .i64 r.ses.zLo,.int .i64 r.ses.zHi,.int .i64 r.ses.eLo,.int .i64 r.ses.eHi,.int .i64 r.ses.rLo,.int .i64 r.ses.rHi,v_r_ses_stops,v_r_strikes,v_r_sights] 30 0 true true)∧S'.heap.get S.next=some (.cells [.int .i64 r.ses.id,.int .i64 r.ses.inLo,.int .i64 r.ses.inHi,.int .i64 r.ses.outLo,.int .i64 r.ses.outHi,.int .i64 r.ses.zLo,.int .i64 r.ses.zHi,.int .i64 r.ses.eLo,.int .i64 r.ses.eHi,.int .i64 r.ses.rLo,.int .i64 r.ses.rHi,v_r_ses_stops,v_r_strikes,v_r_sights] 30 0 true true)∧S'.heap.get S2.next=some (.cells [.slice pm260_s0 nm260_s0 cm260_s0] 31 0 true true)∧S'.heap.get S9.next=some (.dfd true)∧S'.heap.get S249.next=some (.cells [.int .i64 x249.id,.int .i64 x249.lo,.int .i64 x249.hi] 112 0 true true)∧Agree S S'∧S258.next≤S'.next∧Own 3 S.next S' (.slice pm260_s0 nm260_s0 cm260_s0) (al++([x249.lo,IntKind.i64.wrap (x249.hi+1)]))∧blkOf (.slice pm260_s0 nm260_s0 cm260_s0)≠some S6.next∧blkOf (.slice pm260_s0 nm260_s0 cm260_s0)≠some S.next∧blkOf (.slice pm260_s0 nm260_s0 cm260_s0)≠some S2.next∧blkOf (.slice pm260_s0 nm260_s0 cm260_s0)≠some S9.next∧blkOf (.slice pm260_s0 nm260_s0 cm260_s0)≠some S249.next∧blkOf (.slice pm260_s0 nm260_s0 cm260_s0)≠some y12) (by
        intro zA260 hA260
        obtain ⟨S286,e286,n286,b286,a286⟩:=push_open S258 (.cells [.int .i64 0,.int .i64 0] 23 0 true true)
        have v9_286:=(a286.2 S6.next (by omega)).trans v9_258
        have v1_286:=(a286.2 S.next (by omega)).trans v1_258
        have v3_286:=(a286.2 S2.next (by omega)).trans v3_258
        have vl12_286:=(a286.2 y12 (by omega)).trans vl12_258
        have vd12_286:=(a286.2 S9.next (by omega)).trans vd12_258
        have v252_286:=(a286.2 S249.next (by omega)).trans v252_258
        have ow_287:=ow_259.agree a286
        have g286:Agree S S286:=g258.trans a286
        have s286:E0.same S258 S286=true:=symEnv_same a286
        have ne288:blkOf (v_al)≠some S258.next:=ow_259.new (Nat.le_refl _)
        obtain ⟨S289,k289,n289,b289,q289⟩:=st_at (o:=0) (c':=[.int .i64 x249.lo,.int .i64 x249.hi]) (v:=.agg #[.int .i64 x249.lo,.int .i64 x249.hi]) tz23 b286 rfl rfl (show 0+2≤2 by decide) rfl
        have v9_289:=(q289 S6.next (by omega)).trans v9_286
        have v1_289:=(q289 S.next (by omega)).trans v1_286
        have v3_289:=(q289 S2.next (by omega)).trans v3_286
        have vl12_289:=(q289 y12 (by omega)).trans vl12_286
        have vd12_289:=(q289 S9.next (by omega)).trans vd12_286
        have v252_289:=(q289 S249.next (by omega)).trans v252_286
        have ow_290:=ow_287.frame (by omega) (fun id hid hb=>q289 id (fun e=>(show blkOf (v_al)≠some S258.next from by first|exact ow_287.ne (by omega)|exact ow_287.new (by omega)|assumption) (e ▸ hb)))
        have g289:Agree S S289:=⟨by have:=(g286).1; omega,fun id hid=>(q289 id (by have:=(g286).1; omega)).trans ((g286).2 id hid)⟩
        try simp (disch:=first|omega|assumption) only [E0_G,SY,off,agreeKind,allocV,Nat.reduceAdd,Nat.reduceLT,Nat.reduceBEq,TY_EvW8,store_agree,store_refl E0_same,setP_cons,setP_nil,List.zip_cons_cons,List.zip_nil_right,e286,k289] at hA260
        refine ⟨_,S289,hA260.symm,vl12_289,?_⟩
        intro S291 n291 b291 q291 zB260 hB260
        have v9_291:=(q291 S6.next (by omega)).trans v9_289
        have v1_291:=(q291 S.next (by omega)).trans v1_289
        have v3_291:=(q291 S2.next (by omega)).trans v3_289
        have vd12_291:=(q291 S9.next (by omega)).trans vd12_289
        have v252_291:=(q291 S249.next (by omega)).trans v252_289
        have v286_291:=(q291 S258.next (by omega)).trans b289
        have ow_292:=ow_290.frame (by omega) (fun id hid hb=>q291 id (fun e=>(show blkOf (v_al)≠some y12 from by first|exact ow_290.ne (by omega)|exact ow_290.new (by omega)|assumption) (e ▸ hb)))
        have g291:Agree S S291:=⟨by have:=(g289).1; omega,fun id hid=>(q291 id (by have:=(g289).1; omega)).trans ((g289).2 id hid)⟩
        have y293:aBuildSlice Tryz.prog 31 2 [(0,.int .i64 x249.lo),(1,.int .i64 (IntKind.i64.wrap (x249.hi+1)))] S291=some (.slice (some ⟨S291.next,0,none⟩) 2 2,S291.push (.cells [.int .i64 x249.lo,.int .i64 (IntKind.i64.wrap (x249.hi+1))] 3 1 true true)):=by kernel_rfl
        obtain ⟨S294,e294,n294,b294,a294⟩:=push_open S291 (.cells [.int .i64 x249.lo,.int .i64 (IntKind.i64.wrap (x249.hi+1))] 3 1 true true)
        have v9_294:=(a294.2 S6.next (by omega)).trans v9_291
        have v1_294:=(a294.2 S.next (by omega)).trans v1_291
        have v3_294:=(a294.2 S2.next (by omega)).trans v3_291
        have vl12_294:=(a294.2 y12 (by omega)).trans b291
        have vd12_294:=(a294.2 S9.next (by omega)).trans vd12_291
        have v252_294:=(a294.2 S249.next (by omega)).trans v252_291
        have ow_295:=ow_292.agree a294
        have g294:Agree S S294:=g291.trans a294
        have s294:E0.same S291 S294=true:=symEnv_same a294
        have ne296:blkOf (v_al)≠some S291.next:=ow_292.new (Nat.le_refl _)
        have o297:Own 3 S291.next S294 (.slice (some ⟨S291.next,0,none⟩) 2 2) ([x249.lo,IntKind.i64.wrap (x249.hi+1)]:List Int):=.inr ⟨_,true,rfl,Nat.le_refl _,by omega,b294⟩
        have ap298:∀ b,blkOf (v_al)=some b→blkOf (.slice (some ⟨S291.next,0,none⟩) 2 2)≠some b:=fun b hb=>o297.ne (Nat.lt_of_lt_of_le (ow_292.lt hb) (by omega))
        obtain ⟨u299,S299,k299,o299,n299,f299,d299⟩:=own_append (P:=Tryz.prog) (t:=31) (tx:=31) (n:=0) (v:=v_al) ow_295 (o297.rows) (by omega) (by first|omega|(simp; omega)|simp) (by first|omega|(simp; omega)|simp) Tryz.underlying31 Tryz.underlying31 ti3 tv3 rfl tz3
        obtain ⟨pu299,nu299,cu299,rfl⟩:=own_slice o299
        have v9_299:=(f299 S6.next (by omega) (by first|(simp [blkOf]; done)|exact ow_295.ne (by omega)|exact ow_295.new (by omega)|assumption)).trans v9_294
        have v1_299:=(f299 S.next (by omega) (by first|(simp [blkOf]; done)|exact ow_295.ne (by omega)|exact ow_295.new (by omega)|assumption)).trans v1_294
        have v3_299:=(f299 S2.next (by omega) (by first|(simp [blkOf]; done)|exact ow_295.ne (by omega)|exact ow_295.new (by omega)|assumption)).trans v3_294
        have vl12_299:=(f299 y12 (by omega) (by first|(simp [blkOf]; done)|exact ow_295.ne (by omega)|exact ow_295.new (by omega)|assumption)).trans vl12_294
        have vd12_299:=(f299 S9.next (by omega) (by first|(simp [blkOf]; done)|exact ow_295.ne (by omega)|exact ow_295.new (by omega)|assumption)).trans vd12_294
        have v252_299:=(f299 S249.next (by omega) (by first|(simp [blkOf]; done)|exact ow_295.ne (by omega)|exact ow_295.new (by omega)|assumption)).trans v252_294
        have apo297_300:∀ b,blkOf (.slice (some ⟨S291.next,0,none⟩) 2 2)=some b→blkOf (.slice pu299 nu299 cu299)≠some b:=fun b hb=>d299 b (o297.lt hb) ((fun b h1 h2=>ap298 b h2 h1) b hb)
        have o297_300:=o297.frame n299 (fun id hid hb=>f299 id hid ((fun b h1 h2=>ap298 b h2 h1) id hb))
        have g299:Agree S S299:=⟨Nat.le_trans (g294).1 n299,fun id hid=>(f299 id (by have:=(g294).1; omega) (by first|(simp [blkOf]; done)|exact ow_295.ne (by omega)|assumption)).trans ((g294).2 id hid)⟩
        have ne301:blkOf (.slice pu299 nu299 cu299)≠some S6.next:=by first|exact o299.ne (by omega)|exact o299.new (by omega)|exact d299 _ (by omega) (by first|(simp [blkOf]; done)|exact ow_295.ne (by omega)|exact ow_295.new (by omega)|assumption)
        have ne302:blkOf (.slice pu299 nu299 cu299)≠some S.next:=by first|exact o299.ne (by omega)|exact o299.new (by omega)|exact d299 _ (by omega) (by first|(simp [blkOf]; done)|exact ow_295.ne (by omega)|exact ow_295.new (by omega)|assumption)
        have ne303:blkOf (.slice pu299 nu299 cu299)≠some S2.next:=by first|exact o299.ne (by omega)|exact o299.new (by omega)|exact d299 _ (by omega) (by first|(simp [blkOf]; done)|exact ow_295.ne (by omega)|exact ow_295.new (by omega)|assumption)
        have ne304:blkOf (.slice pu299 nu299 cu299)≠some y12:=by first|exact o299.ne (by omega)|exact o299.new (by omega)|exact d299 _ (by omega) (by first|(simp [blkOf]; done)|exact ow_295.ne (by omega)|exact ow_295.new (by omega)|assumption)
        have ne305:blkOf (.slice pu299 nu299 cu299)≠some S9.next:=by first|exact o299.ne (by omega)|exact o299.new (by omega)|exact d299 _ (by omega) (by first|(simp [blkOf]; done)|exact ow_295.ne (by omega)|exact ow_295.new (by omega)|assumption)
        have ne306:blkOf (.slice pu299 nu299 cu299)≠some S249.next:=by first|exact o299.ne (by omega)|exact o299.new (by omega)|exact d299 _ (by omega) (by first|(simp [blkOf]; done)|exact ow_295.ne (by omega)|exact ow_295.new (by omega)|assumption)
        have ne307:blkOf (.slice pu299 nu299 cu299)≠some S258.next:=by first|exact o299.ne (by omega)|exact o299.new (by omega)|exact d299 _ (by omega) (by first|(simp [blkOf]; done)|exact ow_295.ne (by omega)|exact ow_295.new (by omega)|assumption)
        obtain ⟨S308,k308,n308,b308,q308⟩:=st_at (o:=0) (c':=[.slice pu299 nu299 cu299]) (v:=.slice pu299 nu299 cu299) tz31 v3_299 rfl rfl (show 0+1≤1 by decide) rfl
        have v9_308:=(q308 S6.next (by omega)).trans v9_299
        have v1_308:=(q308 S.next (by omega)).trans v1_299
        have vl12_308:=(q308 y12 (by omega)).trans vl12_299
        have vd12_308:=(q308 S9.next (by omega)).trans vd12_299
        have v252_308:=(q308 S249.next (by omega)).trans v252_299
        have o297_309:=o297_300.frame (by omega) (fun id hid hb=>q308 id (fun e=>(show blkOf (.slice (some ⟨S291.next,0,none⟩) 2 2)≠some S2.next from by first|exact o297_300.ne (by omega)|exact o297_300.new (by omega)|assumption) (e ▸ hb)))
        have o299_310:=o299.frame (by omega) (fun id hid hb=>q308 id (fun e=>(show blkOf (.slice pu299 nu299 cu299)≠some S2.next from by first|exact o299.ne (by omega)|exact o299.new (by omega)|assumption) (e ▸ hb)))
        have g308:Agree S S308:=⟨by have:=(g299).1; omega,fun id hid=>(q308 id (by have:=(g299).1; omega)).trans ((g299).2 id hid)⟩
        try simp (disch:=first|omega|assumption) only [E0_G,SY,off,agreeKind,partVals,ldA,aggD,aField,Nat.reduceAdd,Nat.reduceLT,Nat.reduceBEq,TY_EvW8,store_agree,store_refl E0_same,gt12_5,v3_291,v286_291,y293,e294,k299,k308] at hB260
        refine ⟨_,_,S308,hB260.symm,vl12_308,?_⟩
        intro S311 n311 b311 q311
        have v9_311:=(q311 S6.next (by omega)).trans v9_308
        have v1_311:=(q311 S.next (by omega)).trans v1_308
        have v3_311:=(q311 S2.next (by omega)).trans b308
        have vd12_311:=(q311 S9.next (by omega)).trans vd12_308
        have v252_311:=(q311 S249.next (by omega)).trans v252_308
        have o297_312:=o297_309.frame (by omega) (fun id hid hb=>q311 id (fun e=>(show blkOf (.slice (some ⟨S291.next,0,none⟩) 2 2)≠some y12 from by first|exact o297_309.ne (by omega)|exact o297_309.new (by omega)|assumption) (e ▸ hb)))
        have o299_313:=o299_310.frame (by omega) (fun id hid hb=>q311 id (fun e=>(show blkOf (.slice pu299 nu299 cu299)≠some y12 from by first|exact o299_310.ne (by omega)|exact o299_310.new (by omega)|assumption) (e ▸ hb)))
        have g311:Agree S S311:=⟨by have:=(g308).1; omega,fun id hid=>(q311 id (by have:=(g308).1; omega)).trans ((g308).2 id hid)⟩
        exact ⟨_,_,_,b311,v9_311,v1_311,v3_311,vd12_311,v252_311,g311,by omega,o299_313,(by first|exact o299_313.ne (by omega)|exact o299_313.new (by omega)|assumption),(by first|exact o299_313.ne (by omega)|exact o299_313.new (by omega)|assumption),(by first|exact o299_313.ne (by omega)|exact o299_313.new (by omega)|assumption),(by first|exact o299_313.ne (by omega)|exact o299_313.new (by omega)|assumption),(by first|exact o299_313.ne (by omega)|exact o299_313.new (by omega)|assumption),(by first|exact o299_313.ne (by omega)|exact o299_313.new (by omega)|assumption)⟩)
      replace k260:(evL Tryz.prog E0).round y12 #[.agg #[.int .i64 (((r113 (k:Int))).1),.int .i64 (((r113 (k:Int))).2)],.agg #[.int .i64 x249.lo,.int .i64 x249.hi]] S258=some (.bool true,S260):=k260
      have bm260_251:=(gm260.2 id251 l251).trans jr251
      have w314:IntKind.i64.wrap ((k:Int)+1)=((k+1:Nat):Int):=by rw [IntWalk.i64_in]<;>omega
      try simp (disch:=first|omega|assumption) only [E0_G,SY,off,agreeKind,vals,Nat.reduceAdd,Nat.reduceLT,Nat.reduceBEq,g249_15,store_refl E0_same,k260,calledV_yield,firstOf_none,op_round,roundV_some,w314] at he
      rw [drop_cons' hx249] at hd249
      have hf:=(show _=(R127_186_0 r further (r.strikes.drop (k+1)) (k+1) (al++([x249.lo,IntKind.i64.wrap (x249.hi+1)])):(List Int)) from rfl).symm.trans hd249
      refine .next he (m - 1) (by omega) ⟨(k+1),.slice pm260_s0 nm260_s0 cm260_s0,al++([x249.lo,IntKind.i64.wrap (x249.hi+1)]),?_,?_,?_,?_,?_,?_,?_,?_,bm260_9,bm260_1,bm260_3,bq260,bm260_d12,gm260,by omega,(om260_0.low (by omega)),by first|exact om260_0.ne (by omega)|exact om260_0.new (by omega)|assumption,by first|exact om260_0.ne (by omega)|exact om260_0.new (by omega)|assumption,by first|exact om260_0.ne (by omega)|exact om260_0.new (by omega)|assumption,by first|exact om260_0.ne (by omega)|exact om260_0.new (by omega)|assumption,by first|exact om260_0.ne (by omega)|exact om260_0.new (by omega)|assumption,hf⟩<;>first|(simp only [SY,eq_self,Nat.reduceBEq,g249_0,g249_1,g249_13,g249_14,g249_15]<;>rfl)|omega|assumption|(simp; omega)|simp
     try simp (disch:=first|omega|assumption) only [SY,h250a] at he
     rw [List.drop_eq_nil_of_le (show r.strikes.length≤k by omega)] at hd249
     have hf:=(show _=(al:(List Int)) from rfl).symm.trans hd249
     refine .exit he ⟨rfl,⟨k,v_al,al,?_,?_,bb249_9,bb249_1,bb249_3,bb249_l12,bb249_d12,ga249,by omega,(ow_al.low (by omega)),by first|exact ow_al.ne (by omega)|exact ow_al.new (by omega)|assumption,by first|exact ow_al.ne (by omega)|exact ow_al.new (by omega)|assumption,by first|exact ow_al.ne (by omega)|exact ow_al.new (by omega)|assumption,by first|exact ow_al.ne (by omega)|exact ow_al.new (by omega)|assumption,by first|exact ow_al.ne (by omega)|exact ow_al.new (by omega)|assumption,?_,?_,hf.symm⟩⟩<;>first|(simp only [SY,eq_self,Nat.reduceBEq,g249_0,g249_1]<;>rfl)|omega|assumption|(simp; omega)|simp)
   obtain ⟨rfl,k,v_al,al,ge249_0,ge249_1,be249_9,be249_1,be249_3,be249_l12,be249_d12,ge249,gm249,oe_al249,ne249_9,ne249_1,ne249_3,ne249_l12,ne249_d12,hj249_0,hj249_1,hR249⟩:=hQ249
   obtain rfl:al=R127_186_0 r further r.strikes 0 (((further:List Int))++([r.ses.zLo,IntKind.i64.wrap (r.ses.zHi+1)])):=hR249.symm
   have y316:aBuild Tryz.prog 131 [(0,.int .i64 2)]=some (.agg #[.int .i64 2,.int .i64 0]):=by kernel_rfl
   try simp (disch:=first|omega|assumption) only [E0_G,SY,off,agreeKind,partVals,vals,ldA,rdCells,aggD,aField,eq_self,if_true,Nat.reduceAdd,Nat.reduceLT,Nat.reduceBEq,TY_EvW8,ge249_0,ge249_1,be249_9,y316] at hc12
   obtain ⟨S317,k317,pm317_s0,nm317_s0,cm317_s0,bq317,bm317_9,bm317_1,bm317_3,bm317_d12,gm317,gl317,om317_0,ne317_m0,ne317_m1,ne317_m2,ne317_m3,ne317_d0⟩:=round_in (P:=Tryz.prog) (E:=E0) (bs:=[.agg #[.int .i64 2,.int .i64 0],.agg #[.int .i64 r.ses.eLo,.int .i64 r.ses.eHi]]) hb12 rfl be249_l12 (Q:=fun S'=>∃ (pm317_s0:Option Addr) (nm317_s0 cm317_s0:Nat),S'.heap.get y12=some (.loop L12)∧S'.heap.get S6.next=some (.cells [.int .i64 r.ses.id,.int .i64 r.ses.inLo,.int .i64 r.ses.inHi,.int .i64 r.ses.outLo,.int .i64 r.ses.outHi,.int .i64 r.ses.zLo,.int .i64 r.ses.zHi,.int .i64 r.ses.eLo,.int .i64 r.ses.eHi,.int .i64 r.ses.rLo,.int .i64 r.ses.rHi,v_r_ses_stops,v_r_strikes,v_r_sights] 30 0 true true)∧S'.heap.get S.next=some (.cells [.int .i64 r.ses.id,.int .i64 r.ses.inLo,.int .i64 r.ses.inHi,.int .i64 r.ses.outLo,.int .i64 r.ses.outHi,.int .i64 r.ses.zLo,.int .i64 r.ses.zHi,.int .i64 r.ses.eLo,.int .i64 r.ses.eHi,.int .i64 r.ses.rLo,.int .i64 r.ses.rHi,v_r_ses_stops,v_r_strikes,v_r_sights] 30 0 true true)∧S'.heap.get S2.next=some (.cells [.slice pm317_s0 nm317_s0 cm317_s0] 31 0 true true)∧S'.heap.get S9.next=some (.dfd true)∧Agree S S'∧S249e.next≤S'.next∧Own 3 S.next S' (.slice pm317_s0 nm317_s0 cm317_s0) ((R127_186_0 r further r.strikes 0 (((further:List Int))++([r.ses.zLo,IntKind.i64.wrap (r.ses.zHi+1)])))++([r.ses.eLo,IntKind.i64.wrap (r.ses.eHi+1)]))∧blkOf (.slice pm317_s0 nm317_s0 cm317_s0)≠some S6.next∧blkOf (.slice pm317_s0 nm317_s0 cm317_s0)≠some S.next∧blkOf (.slice pm317_s0 nm317_s0 cm317_s0)≠some S2.next∧blkOf (.slice pm317_s0 nm317_s0 cm317_s0)≠some S9.next∧blkOf (.slice pm317_s0 nm317_s0 cm317_s0)≠some y12) (by
     intro zA317 hA317
     obtain ⟨S342,e342,n342,b342,a342⟩:=push_open S249e (.cells [.int .i64 0,.int .i64 0] 23 0 true true)
     have v9_342:=(a342.2 S6.next (by omega)).trans be249_9
     have v1_342:=(a342.2 S.next (by omega)).trans be249_1
     have v3_342:=(a342.2 S2.next (by omega)).trans be249_3
     have vl12_342:=(a342.2 y12 (by omega)).trans be249_l12
     have vd12_342:=(a342.2 S9.next (by omega)).trans be249_d12
     have oe_343:=oe_al249.agree a342
     have g342:Agree S S342:=ge249.trans a342
     have s342:E0.same S249e S342=true:=symEnv_same a342
     have ne344:blkOf (v_al)≠some S249e.next:=oe_al249.new (Nat.le_refl _)
     obtain ⟨S345,k345,n345,b345,q345⟩:=st_at (o:=0) (c':=[.int .i64 r.ses.eLo,.int .i64 r.ses.eHi]) (v:=.agg #[.int .i64 r.ses.eLo,.int .i64 r.ses.eHi]) tz23 b342 rfl rfl (show 0+2≤2 by decide) rfl
     have v9_345:=(q345 S6.next (by omega)).trans v9_342
     have v1_345:=(q345 S.next (by omega)).trans v1_342
     have v3_345:=(q345 S2.next (by omega)).trans v3_342
     have vl12_345:=(q345 y12 (by omega)).trans vl12_342
     have vd12_345:=(q345 S9.next (by omega)).trans vd12_342
     have oe_346:=oe_343.frame (by omega) (fun id hid hb=>q345 id (fun e=>(show blkOf (v_al)≠some S249e.next from by first|exact oe_343.ne (by omega)|exact oe_343.new (by omega)|assumption) (e ▸ hb)))
     have g345:Agree S S345:=⟨by have:=(g342).1; omega,fun id hid=>(q345 id (by have:=(g342).1; omega)).trans ((g342).2 id hid)⟩
     try simp (disch:=first|omega|assumption) only [E0_G,SY,off,agreeKind,allocV,Nat.reduceAdd,Nat.reduceLT,Nat.reduceBEq,TY_EvW8,setP_cons,setP_nil,List.zip_cons_cons,List.zip_nil_right,e342,k345] at hA317
     refine ⟨_,S345,hA317.symm,vl12_345,?_⟩
     intro S347 n347 b347 q347 zB317 hB317
     have v9_347:=(q347 S6.next (by omega)).trans v9_345
     have v1_347:=(q347 S.next (by omega)).trans v1_345
     have v3_347:=(q347 S2.next (by omega)).trans v3_345
     have vd12_347:=(q347 S9.next (by omega)).trans vd12_345
     have v342_347:=(q347 S249e.next (by omega)).trans b345
     have oe_348:=oe_346.frame (by omega) (fun id hid hb=>q347 id (fun e=>(show blkOf (v_al)≠some y12 from by first|exact oe_346.ne (by omega)|exact oe_346.new (by omega)|assumption) (e ▸ hb)))
     have g347:Agree S S347:=⟨by have:=(g345).1; omega,fun id hid=>(q347 id (by have:=(g345).1; omega)).trans ((g345).2 id hid)⟩
     have y349:aBuildSlice Tryz.prog 31 2 [(0,.int .i64 r.ses.eLo),(1,.int .i64 (IntKind.i64.wrap (r.ses.eHi+1)))] S347=some (.slice (some ⟨S347.next,0,none⟩) 2 2,S347.push (.cells [.int .i64 r.ses.eLo,.int .i64 (IntKind.i64.wrap (r.ses.eHi+1))] 3 1 true true)):=by kernel_rfl
     obtain ⟨S350,e350,n350,b350,a350⟩:=push_open S347 (.cells [.int .i64 r.ses.eLo,.int .i64 (IntKind.i64.wrap (r.ses.eHi+1))] 3 1 true true)
     have v9_350:=(a350.2 S6.next (by omega)).trans v9_347
     have v1_350:=(a350.2 S.next (by omega)).trans v1_347
     have v3_350:=(a350.2 S2.next (by omega)).trans v3_347
     have vl12_350:=(a350.2 y12 (by omega)).trans b347
     have vd12_350:=(a350.2 S9.next (by omega)).trans vd12_347
     have oe_351:=oe_348.agree a350
     have g350:Agree S S350:=g347.trans a350
     have s350:E0.same S347 S350=true:=symEnv_same a350
     have ne352:blkOf (v_al)≠some S347.next:=oe_348.new (Nat.le_refl _)
     have o353:Own 3 S347.next S350 (.slice (some ⟨S347.next,0,none⟩) 2 2) ([r.ses.eLo,IntKind.i64.wrap (r.ses.eHi+1)]:List Int):=.inr ⟨_,true,rfl,Nat.le_refl _,by omega,b350⟩
     have ap354:∀ b,blkOf (v_al)=some b→blkOf (.slice (some ⟨S347.next,0,none⟩) 2 2)≠some b:=fun b hb=>o353.ne (Nat.lt_of_lt_of_le (oe_348.lt hb) (by omega))
     obtain ⟨u355,S355,k355,o355,n355,f355,d355⟩:=own_append (P:=Tryz.prog) (t:=31) (tx:=31) (n:=0) (v:=v_al) oe_351 (o353.rows) (by omega) (by first|omega|(simp; omega)|simp) (by first|omega|(simp; omega)|simp) Tryz.underlying31 Tryz.underlying31 ti3 tv3 rfl tz3
     obtain ⟨pu355,nu355,cu355,rfl⟩:=own_slice o355
     have v9_355:=(f355 S6.next (by omega) (by first|(simp [blkOf]; done)|exact oe_351.ne (by omega)|exact oe_351.new (by omega)|assumption)).trans v9_350
     have v1_355:=(f355 S.next (by omega) (by first|(simp [blkOf]; done)|exact oe_351.ne (by omega)|exact oe_351.new (by omega)|assumption)).trans v1_350
     have v3_355:=(f355 S2.next (by omega) (by first|(simp [blkOf]; done)|exact oe_351.ne (by omega)|exact oe_351.new (by omega)|assumption)).trans v3_350
     have vl12_355:=(f355 y12 (by omega) (by first|(simp [blkOf]; done)|exact oe_351.ne (by omega)|exact oe_351.new (by omega)|assumption)).trans vl12_350
     have vd12_355:=(f355 S9.next (by omega) (by first|(simp [blkOf]; done)|exact oe_351.ne (by omega)|exact oe_351.new (by omega)|assumption)).trans vd12_350
     have apo353_356:∀ b,blkOf (.slice (some ⟨S347.next,0,none⟩) 2 2)=some b→blkOf (.slice pu355 nu355 cu355)≠some b:=fun b hb=>d355 b (o353.lt hb) ((fun b h1 h2=>ap354 b h2 h1) b hb)
     have o353_356:=o353.frame n355 (fun id hid hb=>f355 id hid ((fun b h1 h2=>ap354 b h2 h1) id hb))
     have g355:Agree S S355:=⟨Nat.le_trans (g350).1 n355,fun id hid=>(f355 id (by have:=(g350).1; omega) (by first|(simp [blkOf]; done)|exact oe_351.ne (by omega)|assumption)).trans ((g350).2 id hid)⟩
     have ne357:blkOf (.slice pu355 nu355 cu355)≠some S6.next:=by first|exact o355.ne (by omega)|exact o355.new (by omega)|exact d355 _ (by omega) (by first|(simp [blkOf]; done)|exact oe_351.ne (by omega)|exact oe_351.new (by omega)|assumption)
     have ne358:blkOf (.slice pu355 nu355 cu355)≠some S.next:=by first|exact o355.ne (by omega)|exact o355.new (by omega)|exact d355 _ (by omega) (by first|(simp [blkOf]; done)|exact oe_351.ne (by omega)|exact oe_351.new (by omega)|assumption)
     have ne359:blkOf (.slice pu355 nu355 cu355)≠some S2.next:=by first|exact o355.ne (by omega)|exact o355.new (by omega)|exact d355 _ (by omega) (by first|(simp [blkOf]; done)|exact oe_351.ne (by omega)|exact oe_351.new (by omega)|assumption)
     have ne360:blkOf (.slice pu355 nu355 cu355)≠some y12:=by first|exact o355.ne (by omega)|exact o355.new (by omega)|exact d355 _ (by omega) (by first|(simp [blkOf]; done)|exact oe_351.ne (by omega)|exact oe_351.new (by omega)|assumption)
     have ne361:blkOf (.slice pu355 nu355 cu355)≠some S9.next:=by first|exact o355.ne (by omega)|exact o355.new (by omega)|exact d355 _ (by omega) (by first|(simp [blkOf]; done)|exact oe_351.ne (by omega)|exact oe_351.new (by omega)|assumption)
     have ne362:blkOf (.slice pu355 nu355 cu355)≠some S249e.next:=by first|exact o355.ne (by omega)|exact o355.new (by omega)|exact d355 _ (by omega) (by first|(simp [blkOf]; done)|exact oe_351.ne (by omega)|exact oe_351.new (by omega)|assumption)
     obtain ⟨S363,k363,n363,b363,q363⟩:=st_at (o:=0) (c':=[.slice pu355 nu355 cu355]) (v:=.slice pu355 nu355 cu355) tz31 v3_355 rfl rfl (show 0+1≤1 by decide) rfl
     have v9_363:=(q363 S6.next (by omega)).trans v9_355
     have v1_363:=(q363 S.next (by omega)).trans v1_355
     have vl12_363:=(q363 y12 (by omega)).trans vl12_355
     have vd12_363:=(q363 S9.next (by omega)).trans vd12_355
     have o353_364:=o353_356.frame (by omega) (fun id hid hb=>q363 id (fun e=>(show blkOf (.slice (some ⟨S347.next,0,none⟩) 2 2)≠some S2.next from by first|exact o353_356.ne (by omega)|exact o353_356.new (by omega)|assumption) (e ▸ hb)))
     have o355_365:=o355.frame (by omega) (fun id hid hb=>q363 id (fun e=>(show blkOf (.slice pu355 nu355 cu355)≠some S2.next from by first|exact o355.ne (by omega)|exact o355.new (by omega)|assumption) (e ▸ hb)))
     have g363:Agree S S363:=⟨by have:=(g355).1; omega,fun id hid=>(q363 id (by have:=(g355).1; omega)).trans ((g355).2 id hid)⟩
     try simp (disch:=first|omega|assumption) only [E0_G,SY,off,agreeKind,partVals,ldA,aggD,aField,Nat.reduceAdd,Nat.reduceLT,Nat.reduceBEq,TY_EvW8,gt12_5,v3_347,v342_347,y349,e350,k355,k363] at hB317
     refine ⟨_,_,S363,hB317.symm,vl12_363,?_⟩
     intro S366 n366 b366 q366
     have v9_366:=(q366 S6.next (by omega)).trans v9_363
     have v1_366:=(q366 S.next (by omega)).trans v1_363
     have v3_366:=(q366 S2.next (by omega)).trans b363
     have vd12_366:=(q366 S9.next (by omega)).trans vd12_363
     have o353_367:=o353_364.frame (by omega) (fun id hid hb=>q366 id (fun e=>(show blkOf (.slice (some ⟨S347.next,0,none⟩) 2 2)≠some y12 from by first|exact o353_364.ne (by omega)|exact o353_364.new (by omega)|assumption) (e ▸ hb)))
     have o355_368:=o355_365.frame (by omega) (fun id hid hb=>q366 id (fun e=>(show blkOf (.slice pu355 nu355 cu355)≠some y12 from by first|exact o355_365.ne (by omega)|exact o355_365.new (by omega)|assumption) (e ▸ hb)))
     have g366:Agree S S366:=⟨by have:=(g363).1; omega,fun id hid=>(q366 id (by have:=(g363).1; omega)).trans ((g363).2 id hid)⟩
     exact ⟨_,_,_,b366,v9_366,v1_366,v3_366,vd12_366,g366,by omega,o355_368,(by first|exact o355_368.ne (by omega)|exact o355_368.new (by omega)|assumption),(by first|exact o355_368.ne (by omega)|exact o355_368.new (by omega)|assumption),(by first|exact o355_368.ne (by omega)|exact o355_368.new (by omega)|assumption),(by first|exact o355_368.ne (by omega)|exact o355_368.new (by omega)|assumption),(by first|exact o355_368.ne (by omega)|exact o355_368.new (by omega)|assumption)⟩)
   replace k317:(evL Tryz.prog E0).round y12 #[.agg #[.int .i64 2,.int .i64 0],.agg #[.int .i64 r.ses.eLo,.int .i64 r.ses.eHi]] S249e=some (.bool true,S317):=k317
   try simp (disch:=first|omega|assumption) only [E0_G,SY,vals,Nat.reduceLT,Nat.reduceBEq,k317,calledV_yield,firstOf_none,op_round,roundV_some] at hc12
   refine ⟨_,S317,_,.normal,hc12.symm,bq317,(hb12.ready).1,(hb12.ready).2,fun S369 n369 q369=>?_⟩
   have v9_369:=(q369 S6.next (by omega)).trans bm317_9
   have v1_369:=(q369 S.next (by omega)).trans bm317_1
   have v3_369:=(q369 S2.next (by omega)).trans bm317_3
   have vd12_369:=(q369 S9.next (by omega)).trans bm317_d12
   have om317_370:=om317_0.frame (by omega) (fun id hid hb=>q369 id (fun e=>(show blkOf (.slice pm317_s0 nm317_s0 cm317_s0)≠some y12 from by first|exact om317_0.ne (by omega)|exact om317_0.new (by omega)|assumption) (e ▸ hb)))
   have g369:Agree S S369:=⟨by have:=(gm317).1; omega,fun id hid=>(q369 id (by have:=(gm317).1; omega)).trans ((gm317).2 id hid)⟩
   exact ⟨rfl,vd12_369,_,_,_,v1_369,v3_369,v9_369,g369,by omega,om317_370,(by first|exact om317_370.ne (by omega)|exact om317_370.new (by omega)|assumption),(by first|exact om317_370.ne (by omega)|exact om317_370.new (by omega)|assumption),(by first|exact om317_370.ne (by omega)|exact om317_370.new (by omega)|assumption),(by first|exact om317_370.ne (by omega)|exact om317_370.new (by omega)|assumption),by first|assumption|omega|(simp only [List.length_append,List.length_cons,List.length_nil,R127_len]; omega)⟩)
 obtain ⟨rfl,bd12,pm12_s0,nm12_s0,cm12_s0,bm12_1,bm12_3,bm12_9,gm12,gl12,om12_0,ne12_m0,ne12_m1,ne12_m2,ne12_d0,hv12_0⟩:=hQ12
 obtain ⟨S371,k371,kp371,o371⟩:=cSort ((R127_186_0 r further r.strikes 0 (((further:List Int))++([r.ses.zLo,IntKind.i64.wrap (r.ses.zHi+1)])))++([r.ses.eLo,IntKind.i64.wrap (r.ses.eHi+1)])) (by first|omega|(simp; omega)|simp) (by first|omega|(simp; omega)|simp) S.next S12 (.slice pm12_s0 nm12_s0 cm12_s0) om12_0
 have l371:=kp371.1
 have v3_371:=(kp371.2 S2.next (by omega) (by first|exact om12_0.ne (by omega)|exact om12_0.new (by omega)|assumption)).trans bm12_3
 have vd12_371:=(kp371.2 S9.next (by omega) (by first|exact om12_0.ne (by omega)|exact om12_0.new (by omega)|assumption)).trans bd12
 have g371:Agree S S371:=⟨by have:=(gm12).1; omega,fun id hid=>(kp371.2 id (by have:=(gm12).1; omega) (show blkOf (.slice pm12_s0 nm12_s0 cm12_s0)≠some id from om12_0.ne (by omega))).trans ((gm12).2 id hid)⟩
 have sl371:=srtI_len ((R127_186_0 r further r.strikes 0 (((further:List Int))++([r.ses.zLo,IntKind.i64.wrap (r.ses.zHi+1)])))++([r.ses.eLo,IntKind.i64.wrap (r.ses.eHi+1)]))
 obtain ⟨u372,S372,k372,kp372,rd372⟩:=cCompact (srtI ((R127_186_0 r further r.strikes 0 (((further:List Int))++([r.ses.zLo,IntKind.i64.wrap (r.ses.zHi+1)])))++([r.ses.eLo,IntKind.i64.wrap (r.ses.eHi+1)]))) (by first|omega|(simp; omega)|simp) (by first|omega|(simp; omega)|simp) S.next S371 (.slice pm12_s0 nm12_s0 cm12_s0) o371
 have l372:=kp372.1
 have vd12_372:=(kp372.2 S9.next (by omega) (by first|exact o371.ne (by omega)|exact o371.new (by omega)|assumption)).trans vd12_371
 have g372:Agree S S372:=⟨by have:=(g371).1; omega,fun id hid=>(kp372.2 id (by have:=(g371).1; omega) (show blkOf (.slice pm12_s0 nm12_s0 cm12_s0)≠some id from o371.ne (by omega))).trans ((g371).2 id hid)⟩
 try simp (disch:=first|omega|assumption) only [E0_G,SY,off,agreeKind,vals,ldA,aggD,Nat.reduceAdd,Nat.reduceLT,Nat.reduceBEq,TY_EvW8,bm12_3,v3_371,k371,k372] at hz
 obtain ⟨S373,k373,n373,q373⟩:=take1 vd12_372
 have rd374:=Lst.dfd rd372 vd12_372 (Nat.le_of_eq n373.symm) q373
 have g373:Agree S S373:=⟨by have:=(g372).1; omega,fun id hid=>(q373 id (by have:=(g372).1; omega)).trans ((g372).2 id hid)⟩
 first|rw [handed_take k373] at hz|rw [handed_take_n k373] at hz
 try simp (disch:=first|omega|assumption) only [SY,Nat.reduceBEq] at hz
 have hr:r127 r further=cps (srtI ((R127_186_0 r further r.strikes 0 (((further:List Int))++([r.ses.zLo,IntKind.i64.wrap (r.ses.zHi+1)])))++([r.ses.eLo,IntKind.i64.wrap (r.ses.eHi+1)]))):=rfl
 exact ⟨u372,S373,by first|(rw [hr]; exact hz.symm)|exact hz.symm,g373,by rw [hr]; exact rd374⟩
end Clock
end Go.Proofs
end
section
set_option linter.unusedSimpArgs false
set_option linter.unusedVariables false
namespace Go.Proofs
namespace Clock
open Go Go.RowKit Go.Aev
set_option maxRecDepth 100000
theorem tz230:szOf Tryz.prog 230=some 1:=by kernel_rfl
theorem tt230:inTab Tryz.prog 230=true:=by kernel_rfl
theorem t0_230:zeroOf Tryz.prog 230=some (.int .u32 0):=by kernel_rfl
theorem tz232:szOf Tryz.prog 232=some 1:=by kernel_rfl
theorem tt232:inTab Tryz.prog 232=true:=by kernel_rfl
theorem t0_232:zeroOf Tryz.prog 232=some (.int .u64 0):=by kernel_rfl
theorem TY_EvW9:type_of% (And.intro TY_EvW8 (And.intro (And.intro (And.intro Tryz.underlying230 tz230) (And.intro tt230 t0_230)) (And.intro (And.intro Tryz.underlying232 tz232) (And.intro tt232 t0_232)))):=(And.intro TY_EvW8 (And.intro (And.intro (And.intro Tryz.underlying230 tz230) (And.intro tt230 t0_230)) (And.intro (And.intro Tryz.underlying232 tz232) (And.intro tt232 t0_232))))
end Clock
end Go.Proofs
end
