import Derived.Test.YtohfdkdjfoonjaaGreatDoorEvH18
import Derived.Test.YtohfdkdjfoonjaaGreatDoorAE6
section
set_option linter.unusedSimpArgs false
set_option linter.unusedVariables false
namespace Go.Proofs
namespace House
open Go Go.RowKit Go.Aev
set_option maxRecDepth 100000
theorem tz149:szOf Tryz.prog 149=some 1:=by kernel_rfl
theorem tt149:inTab Tryz.prog 149=true:=by kernel_rfl
theorem t0_149:zeroOf Tryz.prog 149=some (.slice none 0 0):=by kernel_rfl
theorem TY_EvH19:type_of% (And.intro TY_EvH18 (And.intro (And.intro Tryz.underlying149 tz149) (And.intro tt149 t0_149))):=(And.intro TY_EvH18 (And.intro (And.intro Tryz.underlying149 tz149) (And.intro tt149 t0_149)))
instance:Inhabited Pg:=⟨⟨0,false,0,0,0,0⟩⟩
instance:Cel Pg:=⟨6,fun x=>[.int .i64 x.way,.bool x.back,.int .i64 x.fr,.int .i64 x.to,.int .i64 x.secs,.int .i64 x.door],fun _=>rfl,fun _=>rfl⟩
instance:Inhabited Gt:=⟨⟨0,0,0,0,0⟩⟩
instance:Flat Gt:=⟨[.i64,.i64,.i64,.i64,.i64],fun x=>[x.way,x.fr,x.to,x.secs,x.door],fun _=>rfl⟩
structure Tm (n:Nat) (l:List Int):Prop where
 len:l.length=n
 all:∀ x ∈ l,0≤x∧x≤1073741824
theorem Tm.set {n:Nat} {l:List Int} (h:Tm n l) (i:Nat) {x:Int} (hx:0≤x∧x≤1073741824):Tm n (l.set i x):=⟨by rw [List.length_set]; exact h.len,fun y hy=>(List.mem_or_eq_of_mem_set hy).elim (h.all y) (fun e=>e ▸ hx)⟩
theorem Tm.at {n:Nat} {l:List Int} (h:Tm n l) {i:Nat} {x:Int} (hx:l[i]?=some x):0≤x∧x≤1073741824:=h.all x (List.mem_of_getElem? hx)
theorem Tm.rep (n:Nat) {x:Int} (hx:0≤x∧x≤1073741824):Tm n (List.replicate n x):=⟨List.length_replicate,fun y hy=>(List.eq_of_mem_replicate hy) ▸ hx⟩
def Hr (times:List Int) (left:List Bool) (here:Int):Prop:=here = -1∨0≤here∧here<(times.length:Int)∧lget times here.toNat≤1073741823∧lget left here.toNat=false
theorem Hr.init (times:List Int) (left:List Bool):Hr times left (-1):=.inl rfl
theorem Hr.at {times:List Int} {left:List Bool} {k:Nat} {x:Int} (hk:k<times.length) (hx:times[k]?=some x) (h:x≤1073741823) (hl:¬ lget left k=true):Hr times left (k:Int) :=
 .inr ⟨by omega,by omega,by rw [Int.toNat_natCast,lget_of hx]; exact h,by rw [Int.toNat_natCast]; simpa using hl⟩
theorem Hr.get {times:List Int} {left:List Bool} {here:Int} (h:Hr times left here) (h0:¬ here<0):0≤here∧here<(times.length:Int)∧lget times here.toNat≤1073741823∧lget left here.toNat=false:=by
 rcases h with rfl|h
 ·omega
 ·exact h
theorem cnt_set:∀ (l:List Bool) (i:Nat),i<l.length→lget l i=false→(l.set i true).count false+1=l.count false:=by
 intro l
 induction l with
 | nil=>intro i h; simp at h
 | cons b l ih =>
  intro i h e
  cases i with
  | zero =>
   have e:b=false:=e
   subst e; simp
  | succ i =>
   have e:lget l i=false:=e
   have:=ih i (by simpa using h) e
   rw [List.set_cons_succ,List.count_cons,List.count_cons]; omega
def R116_0 (h:Hs)  : List Wy→List Gt→Nat→(List Gt)
 | [],out,k=>out
 | x2 :: l',out,k=>(if 0<x2.back then R116_0 h l' ((out++([(⟨(k:Int),x2.a,x2.b,x2.secs,x2.door⟩:Gt)]))++([(⟨(k:Int),x2.b,x2.a,x2.back,x2.door⟩:Gt)])) (k+1) else R116_0 h l' (out++([(⟨(k:Int),x2.a,x2.b,x2.secs,x2.door⟩:Gt)])) (k+1))
def r116 (h:Hs):List Gt:=R116_0 h h.ways ([]) 0
def r110 (ti:Int):Int:=1073741823 - ti
set_option maxHeartbeats 2000000 in
theorem c110 (ti:Int) (ht : -1≤ti∧ti≤1073741824) (S:AS)  :
  ∃ S',(evL Tryz.prog E0).call 110 #[.int .i64 ti] S=some (.int .i64 (r110 ti),S')∧Agree S S':=by
 generalize hz:(evL Tryz.prog E0).call 110 _ _=z
 rw [L_call,evCall_said rfl Tryz.func110 rfl (by decide) Tryz.ntmps110 Tryz.results110] at hz
 have w1:IntKind.i64.wrap (1073741823 - ti)=1073741823 - ti:=by rw [IntWalk.i64_in]; omega
 try simp (disch:=first|omega|assumption) only [E0_G,SY,setArgs,off,agreeKind,partVals,vals,allocV,boxed,ldA,rdCells,oneB,aggD,aField,aFieldV,aExtract,eq_self,ne_eq,if_true,if_false,not_false_eq_true,Nat.reduceAdd,Nat.reduceSub,Nat.reduceMul,Nat.reduceLT,Nat.reduceEqDiff,Nat.reduceBEq,reduceIte,Int.reduceEq,Int.reduceLT,Int.reduceLE,reduceCtorEq,TY_EvH19,w1] at hz
 have hr:r110 ti=1073741823 - ti:=rfl
 exact fin hz (by rw [hr]) (Agree.refl S)
end House
end Go.Proofs
end
section
set_option linter.unusedSimpArgs false
set_option linter.unusedVariables false
namespace Go.Proofs
namespace House
open Go Go.RowKit Go.Aev
set_option maxRecDepth 100000
theorem tz54:szOf Tryz.prog 54=some 1:=by kernel_rfl
theorem tt54:inTab Tryz.prog 54=true:=by kernel_rfl
theorem t0_54:zeroOf Tryz.prog 54=some (.slice none 0 0):=by kernel_rfl
theorem tz204:szOf Tryz.prog 204=some 1:=by kernel_rfl
theorem tt204:inTab Tryz.prog 204=true:=by kernel_rfl
theorem t0_204:zeroOf Tryz.prog 204=some (.int .u32 0):=by kernel_rfl
theorem tz207:szOf Tryz.prog 207=some 1:=by kernel_rfl
theorem tt207:inTab Tryz.prog 207=true:=by kernel_rfl
theorem t0_207:zeroOf Tryz.prog 207=some (.int .u64 0):=by kernel_rfl
theorem TY_EvH20:type_of% (And.intro TY_EvH19 (And.intro (And.intro (And.intro Tryz.underlying54 (And.intro tz54 tt54)) (And.intro t0_54 (And.intro Tryz.underlying204 tz204))) (And.intro (And.intro tt204 (And.intro t0_204 Tryz.underlying207)) (And.intro tz207 (And.intro tt207 t0_207))))):=(And.intro TY_EvH19 (And.intro (And.intro (And.intro Tryz.underlying54 (And.intro tz54 tt54)) (And.intro t0_54 (And.intro Tryz.underlying204 tz204))) (And.intro (And.intro tt204 (And.intro t0_204 Tryz.underlying207)) (And.intro tz207 (And.intro tt207 t0_207)))))
theorem shr32 (a:Int):Int.fdiv a (2 ^ (min (Int.toNat 32) IntKind.u64.bits))=Int.fdiv a 4294967296:=rfl
theorem c169 (n:Nat) (hn:n≤1000) (S:AS):(evL Tryz.prog E0).call 169 #[.int .u64 1,.int .u64 (n:Int)] S=some (.tuple #[.int .u64 0,.int .u64 (n:Int)],S):=by
 generalize hz:(evL Tryz.prog E0).call 169 _ _=z
 rw [L_call,evCall_said rfl Tryz.func169 rfl (by decide) Tryz.ntmps169 Tryz.results169] at hz
 simp (disch:=first|omega|assumption) only [E0_G,SY,setArgs,off,agreeKind,Nat.reduceAdd,Nat.reduceSub,Nat.reduceLT,Nat.reduceBEq,Int.reduceLT,shr32] at hz
 rw [← hz]
 simp only [Option.some.injEq,Prod.mk.injEq,Value.tuple.injEq,and_true,Array.mk.injEq,List.cons.injEq,Value.int.injEq,true_and]
 have h:n<1001:=by omega
 clear hz hn z S
 revert n
 decide +kernel
theorem c162 (n:Nat) (hn:n≤1000) (S:AS):(evL Tryz.prog E0).call 162 #[.int .u64 1,.int .u64 (n:Int)] S=some (.tuple #[.int .u64 0,.int .u64 (n:Int)],S):=by
 generalize hz:(evL Tryz.prog E0).call 162 _ _=z
 rw [L_call,evCall_said rfl Tryz.func162 rfl (by decide) Tryz.ntmps162 Tryz.results162] at hz
 simp (disch:=first|omega|assumption) only [E0_G,SY,setArgs,off,agreeKind,vals,aExtract,Nat.reduceAdd,Nat.reduceSub,Nat.reduceLT,Nat.reduceBEq,c169 n hn] at hz
 rw [← hz]
theorem u64n {n:Nat} (h:n≤1000):IntKind.u64.wrap (n:Int)=n:=u64w (by omega)
set_option maxHeartbeats 4000000 in
theorem c149 (x0 : Int) (n : Nat) (hn : 0 < n ∧ n ≤ 1000) (S : AS) (v : Value) (hv : Lst S v [x0]) :
    ∃ v' S',(evL Tryz.prog E0).call 149 #[v,.int .i64 (n : Int)] S = some (v',S') ∧ Agree S S' ∧ Own 3 S.next S' v' (List.replicate n x0) := by
  obtain ⟨p,q,c,rfl⟩ := lst_slice hv
  have hl := hv.len (P := Tryz.prog) (t := 54) Tryz.underlying54
  have g0 : decide ((n : Int) < 0) = false := decide_eq_false (by omega)
  have g1 : decide (9223372036854775807 < (n : Int)) = false := decide_eq_false (by omega)
  have u0 : IntKind.u64.wrap (n : Int) = n := u64n hn.2
  have u1 : IntKind.u64.wrap ((1 : Nat) : Int) = 1 := rfl
  have u2 : IntKind.i64.wrap (n : Int) = n := wr64 (by omega)
  have g2 : decide ((0 : Int) < 0) = false := rfl
  obtain ⟨w,S1,k1,vq,a1,oo⟩ := make_own (P := Tryz.prog) (t := 54) (el := 3) (x0 := (0 : Int)) (n := n) (k := .i64) (k' := .i64) S Tryz.underlying54 ti3 t0_3 rfl tz3 rfl (by omega)
  have hsrc : ∃ id2 off2 cs ty cap wr ex,Value.slice p q c = .slice (some ⟨id2,off2,none⟩) 1 cap ∧ S.heap.get id2 = some (.cells cs ty 1 wr ex) ∧ id2 < S.next ∧ off2 + 1 ≤ cs.length ∧ (cs.drop off2).take 1 = [.int .i64 x0] := by
    rcases hv with ⟨h,_⟩ | ⟨id2,off2,cs,ty,cap,wr,ex,h1,_,h3,h4,h5⟩
    · simp at h
    · have h6 : cs[off2]? = some (.int .i64 x0) := h5 0 x0 rfl 0 (by decide)
      obtain ⟨h7,h8⟩ := List.getElem?_eq_some_iff.1 h6
      refine ⟨id2,off2,cs,ty,cap,wr,ex,h1,h3,h4,by omega,?_⟩
      rw [List.drop_eq_getElem_cons h7,h8]; rfl
  obtain ⟨id2,off2,cs,ty,cap,wr,ex,e0,s1,s2,s3,s4⟩ := hsrc
  obtain ⟨S2,k2,n2,o2,q2⟩ := copy_own (m := [x0]) (w := w) oo (P := Tryz.prog) (t := 54) Tryz.underlying54 tz3 (by decide) (id := S.next) (i := 0) (cap := n) (by rw [vq]; simp) (by rw [vq]; simp) (by simp; omega) e0 (by decide) ((a1.2 _ s2).trans s1)
    (by have : Nat.min 1 ((List.replicate n (0 : Int)).length - 0) = 1 := by rw [List.length_replicate]; exact Nat.min_eq_left (by omega)
        rw [this]; exact s3) (by have : Nat.min 1 ((List.replicate n (0 : Int)).length - 0) = 1 := by rw [List.length_replicate]; exact Nat.min_eq_left (by omega)
                                 rw [this]; rfl)
    (by have : Nat.min 1 ((List.replicate n (0 : Int)).length - 0) = 1 := by rw [List.length_replicate]; exact Nat.min_eq_left (by omega)
        rw [this]; exact s4)
  have m1 : Nat.min 1 ((List.replicate n (0 : Int)).length - 0) = 1 := by rw [List.length_replicate]; exact Nat.min_eq_left (by omega)
  rw [m1] at k2
  subst vq
  have g3 : Agree S S2 := ⟨by have := a1.1; omega,fun id hid => (q2 id (by omega)).trans (a1.2 id hid)⟩
  generalize hz : (evL Tryz.prog E0).call 149 _ _ = z
  rw [L_call,evCall_said rfl Tryz.func149 rfl (by decide) Tryz.ntmps149 Tryz.results149] at hz
  simp (disch:=first|omega|assumption) only [E0_G,SY,setArgs,off,agreeKind,vals,aExtract,Nat.reduceAdd,Nat.reduceSub,Nat.reduceLT,Nat.reduceBEq,Int.reduceLT,TY_EvH20,hl,g0,g1,u0,u1,u2,c162 n hn.2,op_makeSlice,k1,op_copy,k2] at hz
  generalize hL : Rec.loop _ _ _ _ = L at hz
  obtain ⟨x,t,S3,rfl,hQ⟩ := loop_met hL (fun m t S' => ∃ (j : Nat) (l : List Int),m + j = n ∧ 1 ≤ j ∧ l.length = n ∧ l.take j = List.replicate j x0 ∧ t.get 7 = some (.slice (some ⟨S.next,0,none⟩) n n) ∧ t.get 8 = some (.int .i64 (j : Int)) ∧ Own 3 S.next S' (.slice (some ⟨S.next,0,none⟩) n n) l ∧ Agree S S')
    (fun x t S' => x = .exit 0 ∧ t.get 7 = some (.slice (some ⟨S.next,0,none⟩) n n) ∧ Own 3 S.next S' (.slice (some ⟨S.next,0,none⟩) n n) (List.replicate n x0) ∧ Agree S S') (n - 1)
    ⟨1,_,by omega,by omega,by simp; omega,rfl,by simp only [SY,eq_self,Nat.reduceBEq] <;> rfl,by simp only [SY,eq_self,Nat.reduceBEq] <;> rfl,o2,g3⟩ (by
      rintro m t S4 ⟨j,l,j1,j2,j3,j4,t7,t8,o4,g4⟩
      refine .run fun z he => ?_
      have hn4 := (o4.rows).len (P := Tryz.prog) (t := 54) Tryz.underlying54
      rw [j3] at hn4
      simp (disch:=first|omega|assumption) only [E0_G,SY,off,agreeKind,Nat.reduceAdd,Nat.reduceLT,Nat.reduceBEq,t7,t8,hn4] at he
      rcases dP ((j : Int) < (n : Int)) with ⟨h5a,h5⟩ | ⟨h5a,h5⟩
      · obtain ⟨d1,d2,ex4,d3⟩ := o4.lo_at (P := Tryz.prog) (t := 54) Tryz.underlying54 tz3 (i := j) (by omega)
        have d4 := o4.hi_at (P := Tryz.prog) (t := 54) Tryz.underlying54 tz3 (i := j) (by omega) (by omega)
        have mle : Nat.min j (l.length - j) ≤ j := Nat.min_le_left _ _
        have mle2 : Nat.min j (l.length - j) ≤ l.length - j := Nat.min_le_right _ _
        have mpos : 0 < Nat.min j (l.length - j) := by simp only [Nat.min_def]; split <;> omega
        obtain ⟨S5,k5,n5,o5,q5⟩ := copy_own (m := l.take (Nat.min j (l.length - j))) o4 (P := Tryz.prog) (t := 54) (w := .slice (some ⟨S.next,j * Cel.n Int,none⟩) (n - j) (n - j)) (x := .slice (some ⟨S.next,0,none⟩) j n) (i := j) (id := S.next) (cap := n - j) (n2 := j) Tryz.underlying54 tz3 (by decide) (by rw [d2]) (by rw [d2]) (by omega) rfl (by omega) d3
          (by rw [flat_len _ (cells_all l),List.length_map,Nat.zero_add]; exact Nat.mul_le_mul_right _ (by omega)) (by rw [List.length_take]; omega)
          (by rw [List.drop_zero]; exact flat_take l (by omega))
        rw [← d2] at k5
        generalize hk : Nat.min j (n - j) = k at k5
        rw [d2] at hk
        rw [hk] at o5 mle mle2 mpos
        have w5 : IntKind.i64.wrap ((j : Int) + (k : Int)) = ((j + k : Nat) : Int) := by rw [wr64 (by omega)]; omega
        simp (disch:=first|omega|assumption) only [SY,h5a] at he
        rw [code_draws _ _ _ (by kernel_rfl)] at he
        generalize hnd : needy _ = nd at he
        have nn6 : nd 7 = false := by rw [← hnd]; kernel_rfl
        simp (disch:=first|omega|assumption) only [E0_G,SY,agreeKind,Nat.reduceAdd,Nat.reduceLT,Nat.reduceBEq,t7,t8,d1,d4,op_copy,k5,w5,nn6,store_refl E0_same] at he
        refine .next he (m - k) (by omega) ⟨j + k,_,by omega,by omega,?_,?_,by simp only [SY,eq_self,Nat.reduceBEq,t7] <;> rfl,by simp only [SY,eq_self,Nat.reduceBEq] <;> rfl,o5,⟨by have := g4.1; omega,fun id hid => (q5 id (by omega)).trans (g4.2 id hid)⟩⟩
        · simp only [List.length_append,List.length_take,List.length_drop]; omega
        · have hlk : (l.take j ++ l.take k).length = j + k := by simp only [List.length_append,List.length_take]; omega
          have hlen : (l.take k).length = k := by rw [List.length_take]; omega
          rw [hlen,← hlk,List.take_left,hlk,j4]
          have : l.take k = List.replicate k x0 := by
            have := congrArg (List.take k) j4
            rw [List.take_take,List.take_replicate,Nat.min_eq_left (by omega)] at this
            exact this
          rw [this,List.replicate_append_replicate]
      · simp (disch:=first|omega|assumption) only [SY,h5a] at he
        refine .exit he ⟨rfl,by simp only [SY,eq_self,Nat.reduceBEq,t7] <;> rfl,?_,g4⟩
        have hj : j = n := by omega
        rw [hj,take_all l n j3] at j4
        have : l = List.replicate n x0 := j4
        rw [← this]; exact o4)
  obtain ⟨rfl,t7,o6,g6⟩ := hQ
  simp (disch:=first|omega|assumption) only [E0_G,SY,off,agreeKind,eq_self,if_true,Nat.reduceAdd,Nat.reduceLT,Nat.reduceBEq,t7] at hz
  exact ⟨_,S3,hz.symm,g6,o6⟩
end House
end Go.Proofs
end
