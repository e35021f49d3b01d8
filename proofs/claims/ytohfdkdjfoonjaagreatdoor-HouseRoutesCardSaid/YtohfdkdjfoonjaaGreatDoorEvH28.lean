import Derived.Test.YtohfdkdjfoonjaaGreatDoorBU
set_option linter.unusedSimpArgs false
set_option linter.unusedVariables false
namespace Go.Proofs
namespace House
open Go Go.RowKit Go.Aev
set_option maxRecDepth 100000
theorem TY_EvH28:type_of% TY_EvH27:=TY_EvH27
def r49 (h:Hs) (a:Int) (ta:Int) (b:Int) (tb:Int):Int:=(if (r104 h a ta)=0 then (r104 h b tb) else (r104 h a ta))
set_option maxHeartbeats 8000000 in
theorem c49 (h:Hs) (a:Int) (ta:Int) (b:Int) (tb:Int) (hF:Few h) (S:AS) (v_h_rooms:Value) (hv_h_rooms:LstR S v_h_rooms h.rooms) (v_h_doors:Value) (hv_h_doors:LstR S v_h_doors h.doors) (v_h_ways:Value) (hv_h_ways:Lst S v_h_ways h.ways) :
  ∃ S',(evL Tryz.prog E0).call 49 #[.agg #[v_h_rooms,v_h_doors,v_h_ways],.int .i64 a,.int .i64 ta,.int .i64 b,.int .i64 tb] S=some (.int .i64 (r49 h a ta b tb),S')∧Agree S S':=by
 have qr:=hF.r; have qd:=hF.d; have qw:=hF.w
 generalize hz:(evL Tryz.prog E0).call 49 _ _=z
 rw [L_call,evCall_said rfl Tryz.func49 rfl (by decide) Tryz.ntmps49 Tryz.results49] at hz
 obtain ⟨S1,e1,n1,b1,a1⟩:=push_open S (.cells [v_h_rooms,v_h_doors,v_h_ways] 26 0 true true)
 have g1:Agree S S1:=a1
 obtain ⟨S2,k2,a2⟩:=c104 h a ta hF S1 (v_h_rooms) (hv_h_rooms.agree g1) (v_h_doors) (hv_h_doors.agree g1) (v_h_ways) (hv_h_ways.agree g1)
 have l2:=a2.1
 have v1_2:=(a2.2 S.next (by omega)).trans b1
 have g2:Agree S S2:=g1.trans a2
 try simp (disch:=first|omega|assumption) only [E0_G,SY,setArgs,off,agreeKind,vals,boxed,ldA,rdCells,aggD,Nat.reduceAdd,Nat.reduceSub,Nat.reduceLT,Nat.reduceBEq,TY_EvH28,e1,b1,k2] at hz
 rcases dP ((r104 h a ta)=0) with ⟨h3a,h3⟩|⟨h3a,h3⟩
 ·skip
  have hV:=(r104_ok h3).1
  have lq4:=(r104_ok h3).2
  obtain ⟨S5,k5,a5⟩:=c104 h b tb hF S2 (v_h_rooms) (hv_h_rooms.agree g2) (v_h_doors) (hv_h_doors.agree g2) (v_h_ways) (hv_h_ways.agree g2)
  have l5:=a5.1
  have g5:Agree S S5:=g2.trans a5
  try simp (disch:=first|omega|assumption) only [E0_G,SY,off,agreeKind,vals,ldA,rdCells,aggD,Nat.reduceAdd,Nat.reduceLT,Nat.reduceBEq,TY_EvH28,v1_2,h3a,k5] at hz
  have hr:r49 h a ta b tb=(r104 h b tb):=(if_pos h3).trans (rfl)
  exact fin hz (by rw [hr]) g5
 ·skip
  try simp (disch:=first|omega|assumption) only [E0_G,SY,off,agreeKind,Nat.reduceAdd,Nat.reduceLT,Nat.reduceBEq,h3a] at hz
  have hr:r49 h a ta b tb=(r104 h a ta):=(if_neg h3).trans (rfl)
  exact fin hz (by rw [hr]) g2
theorem r49_ok {h:Hs} {a ta b tb:Int} (e:r49 h a ta b tb=0):r59 h=0∧(0≤a∧a<(h.rooms.length:Int))∧(0≤ta∧ta≤1073741823)∧(0≤b∧b<(h.rooms.length:Int))∧(0≤tb∧tb≤1073741823):=by
 unfold r49 at e
 split at e
 ·rename_i h1
  have q:=r104_ok h1
  have k:=r104_ok e
  exact ⟨q.1,⟨q.2.1,q.2.2.1⟩,q.2.2.2,⟨k.2.1,k.2.2.1⟩,k.2.2.2⟩
 ·rename_i h1; exact absurd e h1
theorem R50_3_len (h:Hs) (fr ti:Int) (out:List Int) (done:List Bool) (nv:Nat):∀ (m:List Gt) (o:List Int),(R50_3 h fr ti out done nv m o).length=o.length:=by
 intro m
 induction m with
 | nil=>intro o; rfl
 | cons g m ih=>intro o; rw [R50_3]; split<;>rw [ih]; rw [List.length_set]
theorem R50_1_len (h:Hs) (fr ti:Int):∀ (m:List Rm) (o:List Int) (d:List Bool) (nv:Nat),(onSum (R50_1 h fr ti m o d nv) (fun r=>r) (fun r=>r)).length=o.length:=by
 intro m
 induction m with
 | nil=>intro o d nv; rfl
 | cons x m ih =>
  intro o d nv
  rw [R50_1]
  split
  ·rfl
  ·rw [ih,R50_3_len]
theorem R50_0_eq (h:Hs) (fr ti:Int):∀ (m:List Rm) (o:List Int) (d:List Bool),R50_0 h fr ti m o d=(o++List.replicate m.length 1073741824,d++List.replicate m.length false):=by
 intro m
 induction m with
 | nil=>intro o d; simp [R50_0]
 | cons x m ih=>intro o d; rw [R50_0,ih]; simp [List.replicate_succ]
theorem r50_len (h:Hs) (fr ti:Int):(r50 h fr ti).length=h.rooms.length:=by
 unfold r50
 rw [R50_1_len,List.length_set,R50_0_eq]; simp
end House
end Go.Proofs
