import Derived.Test.YtpaipdipkgnpdaaGreatBG
section
set_option linter.unusedSimpArgs false
set_option linter.unusedVariables false
namespace Go.Proofs
namespace Clock
open Go Go.RowKit Go.Aev
set_option maxRecDepth 100000
theorem tz203:szOf Tryz.prog 203=some 1:=by kernel_rfl
theorem tt203:inTab Tryz.prog 203=true:=by kernel_rfl
theorem t0_203:zeroOf Tryz.prog 203=some (.int .u64 0):=by kernel_rfl
theorem TY_EvO0:type_of% (And.intro (And.intro (And.intro (And.intro (And.intro (And.intro (And.intro Tryz.underlying3 tz3) (And.intro tt3 t0_3)) (And.intro (And.intro Tryz.underlying4 tz4) (And.intro tt4 t0_4))) (And.intro (And.intro (And.intro Tryz.underlying22 tz22) (And.intro tt22 t0_22)) (And.intro (And.intro Tryz.underlying23 tz23) (And.intro tt23 (And.intro t0_23 Tryz.underlying24))))) (And.intro (And.intro (And.intro (And.intro tz24 tt24) (And.intro t0_24 Tryz.underlying25)) (And.intro (And.intro tz25 tt25) (And.intro t0_25 Tryz.underlying26))) (And.intro (And.intro (And.intro tz26 tt26) (And.intro t0_26 Tryz.underlying27)) (And.intro (And.intro tz27 tt27) (And.intro t0_27 (And.intro Tryz.underlying28 tz28)))))) (And.intro (And.intro (And.intro (And.intro (And.intro tt28 t0_28) (And.intro Tryz.underlying29 tz29)) (And.intro (And.intro tt29 t0_29) (And.intro Tryz.underlying30 tz30))) (And.intro (And.intro (And.intro tt30 t0_30) (And.intro Tryz.underlying31 tz31)) (And.intro (And.intro tt31 t0_31) (And.intro Tryz.underlying34 (And.intro tz34 tt34))))) (And.intro (And.intro (And.intro (And.intro t0_34 Tryz.underlying36) (And.intro tz36 tt36)) (And.intro (And.intro t0_36 Tryz.underlying39) (And.intro tz39 tt39))) (And.intro (And.intro (And.intro t0_39 Tryz.underlying54) (And.intro tz54 tt54)) (And.intro (And.intro t0_54 Tryz.underlying92) (And.intro tz92 (And.intro tt92 t0_92))))))) (And.intro (And.intro (And.intro (And.intro (And.intro (And.intro Tryz.underlying93 tz93) (And.intro tt93 t0_93)) (And.intro (And.intro Tryz.underlying94 tz94) (And.intro tt94 t0_94))) (And.intro (And.intro (And.intro Tryz.underlying103 tz103) (And.intro tt103 t0_103)) (And.intro (And.intro Tryz.underlying104 tz104) (And.intro tt104 (And.intro t0_104 Tryz.underlying106))))) (And.intro (And.intro (And.intro (And.intro tz106 tt106) (And.intro t0_106 Tryz.underlying107)) (And.intro (And.intro tz107 tt107) (And.intro t0_107 Tryz.underlying111))) (And.intro (And.intro (And.intro tz111 tt111) (And.intro t0_111 Tryz.underlying112)) (And.intro (And.intro tz112 tt112) (And.intro t0_112 (And.intro Tryz.underlying114 tz114)))))) (And.intro (And.intro (And.intro (And.intro (And.intro tt114 t0_114) (And.intro Tryz.underlying115 tz115)) (And.intro (And.intro tt115 t0_115) (And.intro Tryz.underlying116 tz116))) (And.intro (And.intro (And.intro tt116 t0_116) (And.intro Tryz.underlying117 tz117)) (And.intro (And.intro tt117 t0_117) (And.intro Tryz.underlying130 (And.intro tz130 tt130))))) (And.intro (And.intro (And.intro (And.intro t0_130 Tryz.underlying131) (And.intro tz131 tt131)) (And.intro (And.intro t0_131 Tryz.underlying164) (And.intro tz164 tt164))) (And.intro (And.intro (And.intro t0_164 Tryz.underlying165) (And.intro tz165 tt165)) (And.intro (And.intro t0_165 Tryz.underlying203) (And.intro tz203 (And.intro tt203 t0_203)))))))):=(And.intro (And.intro (And.intro (And.intro (And.intro (And.intro (And.intro Tryz.underlying3 tz3) (And.intro tt3 t0_3)) (And.intro (And.intro Tryz.underlying4 tz4) (And.intro tt4 t0_4))) (And.intro (And.intro (And.intro Tryz.underlying22 tz22) (And.intro tt22 t0_22)) (And.intro (And.intro Tryz.underlying23 tz23) (And.intro tt23 (And.intro t0_23 Tryz.underlying24))))) (And.intro (And.intro (And.intro (And.intro tz24 tt24) (And.intro t0_24 Tryz.underlying25)) (And.intro (And.intro tz25 tt25) (And.intro t0_25 Tryz.underlying26))) (And.intro (And.intro (And.intro tz26 tt26) (And.intro t0_26 Tryz.underlying27)) (And.intro (And.intro tz27 tt27) (And.intro t0_27 (And.intro Tryz.underlying28 tz28)))))) (And.intro (And.intro (And.intro (And.intro (And.intro tt28 t0_28) (And.intro Tryz.underlying29 tz29)) (And.intro (And.intro tt29 t0_29) (And.intro Tryz.underlying30 tz30))) (And.intro (And.intro (And.intro tt30 t0_30) (And.intro Tryz.underlying31 tz31)) (And.intro (And.intro tt31 t0_31) (And.intro Tryz.underlying34 (And.intro tz34 tt34))))) (And.intro (And.intro (And.intro (And.intro t0_34 Tryz.underlying36) (And.intro tz36 tt36)) (And.intro (And.intro t0_36 Tryz.underlying39) (And.intro tz39 tt39))) (And.intro (And.intro (And.intro t0_39 Tryz.underlying54) (And.intro tz54 tt54)) (And.intro (And.intro t0_54 Tryz.underlying92) (And.intro tz92 (And.intro tt92 t0_92))))))) (And.intro (And.intro (And.intro (And.intro (And.intro (And.intro Tryz.underlying93 tz93) (And.intro tt93 t0_93)) (And.intro (And.intro Tryz.underlying94 tz94) (And.intro tt94 t0_94))) (And.intro (And.intro (And.intro Tryz.underlying103 tz103) (And.intro tt103 t0_103)) (And.intro (And.intro Tryz.underlying104 tz104) (And.intro tt104 (And.intro t0_104 Tryz.underlying106))))) (And.intro (And.intro (And.intro (And.intro tz106 tt106) (And.intro t0_106 Tryz.underlying107)) (And.intro (And.intro tz107 tt107) (And.intro t0_107 Tryz.underlying111))) (And.intro (And.intro (And.intro tz111 tt111) (And.intro t0_111 Tryz.underlying112)) (And.intro (And.intro tz112 tt112) (And.intro t0_112 (And.intro Tryz.underlying114 tz114)))))) (And.intro (And.intro (And.intro (And.intro (And.intro tt114 t0_114) (And.intro Tryz.underlying115 tz115)) (And.intro (And.intro tt115 t0_115) (And.intro Tryz.underlying116 tz116))) (And.intro (And.intro (And.intro tt116 t0_116) (And.intro Tryz.underlying117 tz117)) (And.intro (And.intro tt117 t0_117) (And.intro Tryz.underlying130 (And.intro tz130 tt130))))) (And.intro (And.intro (And.intro (And.intro t0_130 Tryz.underlying131) (And.intro tz131 tt131)) (And.intro (And.intro t0_131 Tryz.underlying164) (And.intro tz164 tt164))) (And.intro (And.intro (And.intro t0_164 Tryz.underlying165) (And.intro tz165 tt165)) (And.intro (And.intro t0_165 Tryz.underlying203) (And.intro tz203 (And.intro tt203 t0_203))))))))
def r199 (a:Int):Bool:=false
set_option maxHeartbeats 2000000 in
theorem c199 (a:Int)  (S:AS)  :
  ∃ S',(evL Tryz.prog E0).call 199 #[.int .i64 a] S=some (.bool (r199 a),S')∧Agree S S':=by
 generalize hz:(evL Tryz.prog E0).call 199 _ _=z
 rw [L_call,evCall_said rfl Tryz.func199 rfl (by decide) Tryz.ntmps199 Tryz.results199] at hz
 try simp (disch:=first|omega|assumption) only [E0_G,SY,setArgs,off,agreeKind,eq_self,Nat.reduceAdd,Nat.reduceSub,Nat.reduceLT,Nat.reduceBEq,] at hz
 have hr:r199 a=false:=rfl
 exact fin hz (by rw [hr]) (Agree.refl S)
def r181 (a:Int) (b:Int):Bool:=(if (r199 a)=true then (if (r199 b)=true then decide (a<b) else true) else decide (a<b))
set_option maxHeartbeats 2000000 in
theorem c181 (a:Int) (b:Int)  (S:AS)  :
  ∃ S',(evL Tryz.prog E0).call 181 #[.int .i64 a,.int .i64 b] S=some (.bool (r181 a b),S')∧Agree S S':=by
 generalize hz:(evL Tryz.prog E0).call 181 _ _=z
 rw [L_call,evCall_said rfl Tryz.func181 rfl (by decide) Tryz.ntmps181 Tryz.results181] at hz
 obtain ⟨S1,k1,a1⟩:=c199 a  S
 have l1:=a1.1
 have s1:E0.same S S1=true:=symEnv_same a1
 have g1:Agree S S1:=a1
 try simp (disch:=first|omega|assumption) only [E0_G,SY,setArgs,off,agreeKind,vals,Nat.reduceAdd,Nat.reduceSub,Nat.reduceLT,Nat.reduceBEq,k1] at hz
 rcases dB ((r199 a)) with ⟨h2a,h2⟩|⟨h2a,h2⟩
 ·obtain ⟨S3,k3,a3⟩:=c199 b  S1
  have l3:=a3.1
  have s3:E0.same S1 S3=true:=symEnv_same a3
  have g3:Agree S S3:=g1.trans a3
  try simp (disch:=first|omega|assumption) only [E0_G,SY,off,agreeKind,vals,Nat.reduceAdd,Nat.reduceLT,Nat.reduceBEq,h2a,k3] at hz
  rcases dB ((r199 b)) with ⟨h4a,h4⟩|⟨h4a,h4⟩
  ·try simp (disch:=first|omega|assumption) only [E0_G,SY,off,agreeKind,Nat.reduceAdd,Nat.reduceLT,Nat.reduceBEq,h4a] at hz
   have hr:r181 a b=decide (a<b):=(if_pos h2).trans ((if_pos h4).trans (rfl))
   exact fin hz (by rw [hr]) g3
  try simp (disch:=first|omega|assumption) only [E0_G,SY,off,agreeKind,Nat.reduceAdd,Nat.reduceLT,Nat.reduceBEq,h4a] at hz
  have hr:r181 a b=true:=(if_pos h2).trans ((if_neg h4).trans (rfl))
  exact fin hz (by rw [hr]) g3
 try simp (disch:=first|omega|assumption) only [E0_G,SY,off,agreeKind,Nat.reduceAdd,Nat.reduceLT,Nat.reduceBEq,h2a] at hz
 have hr:r181 a b=decide (a<b):=(if_neg h2).trans (rfl)
 exact fin hz (by rw [hr]) g1
def cmpI (x y:Int):Int:=if x<y then -1 else 0
theorem cmpI_lt (x y:Int):(cmpI x y<0)↔x<y:=by unfold cmpI; split<;>simp_all
theorem r181_eq (a b:Int):r181 a b=decide (cmpI a b<0):=by
 have h:decide (cmpI a b<0)=decide (a<b):=decide_eq_decide.2 (cmpI_lt a b)
 rw [h]
 simp [r181,r199]
theorem cL (a b:Int) (S:AS):∃ S',(evL Tryz.prog E0).call 181 #[.int .i64 a,.int .i64 b] S=some (.bool (decide (cmpI a b<0)),S')∧Agree S S':=by
 rw [← r181_eq]; exact c181 a b S
def Keep (v:Value) (S S':AS):Prop:=S.next≤S'.next∧∀ q,q<S.next→blkOf v≠some q→S'.heap.get q=S.heap.get q
theorem Keep.refl (v:Value) (S:AS):Keep v S S:=⟨Nat.le_refl _,fun _ _ _=>rfl⟩
theorem Keep.trans {v:Value} {S S' S'':AS} (h:Keep v S S') (h':Keep v S' S''):Keep v S S'':=⟨Nat.le_trans h.1 h'.1,fun q hq hn=>(h'.2 q (Nat.lt_of_lt_of_le hq h.1) hn).trans (h.2 q hq hn)⟩
theorem Keep.of {v:Value} {S S':AS} (h:Agree S S'):Keep v S S':=⟨h.1,fun q hq _=>h.2 q hq⟩
theorem Keep.put {v:Value} {S S':AS} {id:Nat} (hn:S'.next=S.next) (hb:blkOf v=some id) (h:∀ q,q≠id→S'.heap.get q=S.heap.get q):Keep v S S' :=
 ⟨Nat.le_of_eq hn.symm,fun q _ hq=>h q (fun e=>hq (by rw [hb,e]))⟩
theorem own_cut {lo:Nat} {S:AS} {v:Value} {l:List Int} (ho:Own 3 lo S v l) {id:Nat} (hb:blkOf v=some id) :
  lo≤id∧id<S.next∧∃ c ex,S.heap.get id=some (.cells c 3 1 true ex)∧∀ i:Nat,i<l.length→∃ of,of=i * 1∧aIndexAddr Tryz.prog 31 v (.int .i64 (i:Int))=some (.pointer (some ⟨id,of,none⟩)) ∧
   c[of]?=some (.int .i64 (lget l i)):=by
 have ho':=ho
 rcases ho with ⟨_,rfl⟩|⟨id',ex,rfl,h1,h2,h3⟩
 ·simp [blkOf] at hb
 ·obtain rfl:id'=id:=by simpa [blkOf] using hb
  refine ⟨h1,h2,_,ex,h3,fun i hi=>?_⟩
  obtain ⟨id2,of,c,ty,wr,ex2,e1,e2,e3,e4,e5,e6,e7⟩:=ho'.at4 (P:=Tryz.prog) (t:=31) Tryz.underlying31 tz3 (lget_some hi)
  obtain rfl:id2=id':=by simpa [blkOf] using e6.symm
  rw [h3] at e2
  cases e2
  refine ⟨_,rfl,?_,?_⟩
  ·rw [e1,e7]; rfl
  ·have:=e4 0 (by decide)
   rw [e7] at this
   rw [Nat.add_zero] at this
   exact this
end Clock
namespace Clock
end Clock
end Go.Proofs
end
section
set_option linter.unusedSimpArgs false
set_option linter.unusedVariables false
namespace Go.Proofs
namespace Clock
open Go Go.RowKit Go.Aev
set_option maxRecDepth 100000
def swp (l:List Int) (i j:Nat):List Int:=(l.set i (lget l j)).set j (lget l i)
theorem swp_len (l:List Int) (i j:Nat):(swp l i j).length=l.length:=by unfold swp; rw [List.length_set,List.length_set]
theorem lget_set' (l:List Int) (i j:Nat) (x:Int) (h:i<l.length):lget (l.set i x) j=if i=j then x else lget l j:=by
 unfold lget
 rw [List.getD_eq_getElem?_getD,List.getD_eq_getElem?_getD,List.getElem?_set]
 by_cases c:i=j
 ·subst c; simp [h]
 ·simp [c]
theorem lget_swp (l:List Int) (i j q:Nat) (hi:i<l.length) (hj:j<l.length):lget (swp l i j) q=if j=q then lget l i else if i=q then lget l j else lget l q:=by
 unfold swp
 rw [lget_set' _ _ _ _ (by rw [List.length_set]; exact hj),lget_set' _ _ _ _ hi]
theorem list_lget {a b:List Int} (hl:a.length=b.length) (h:∀ i,i<a.length→lget a i=lget b i):a=b:=by
 apply List.ext_getElem hl
 intro i h1 h2
 have:=h i h1
 unfold lget at this
 rw [List.getD_eq_getElem?_getD,List.getD_eq_getElem?_getD,List.getElem?_eq_getElem h1,List.getElem?_eq_getElem h2] at this
 exact this
theorem swp_perm (l:List Int) (i j:Nat) (hi:i<l.length) (hj:j<l.length):(swp l i j).Perm l:=by
 have one:∀ (l:List Int) (i:Nat),i+1<l.length→(swp l i (i+1)).Perm l:=by
  intro l
  induction l with
  | nil=>intro i h; simp at h
  | cons x l ih =>
   intro i h
   cases i with
   | zero =>
    cases l with
    | nil=>simp at h
    | cons y l=>exact List.Perm.swap x y l
   | succ i =>
    have:=ih i (by simp only [List.length_cons] at h; omega)
    show (x :: swp l i (i+1)).Perm (x :: l)
    exact List.Perm.cons x this
 have far:∀ (d:Nat) (l:List Int) (i:Nat),i+d+1<l.length→(swp l i (i+d+1)).Perm l:=by
  intro d
  induction d with
  | zero=>intro l i h; exact one l i h
  | succ d ih =>
   intro l i h
   have e:swp l i (i+(d+1)+1)=swp (swp (swp l i (i+1)) (i+1) (i+1+d+1)) i (i+1):=by
    apply list_lget
    ·rw [swp_len,swp_len,swp_len,swp_len]
    ·intro q hq
     rw [swp_len] at hq
     have L1:(swp l i (i+1)).length=l.length:=swp_len _ _ _
     have L2:(swp (swp l i (i+1)) (i+1) (i+1+d+1)).length=l.length:=by rw [swp_len,L1]
     have e3:=fun q=>lget_swp (swp (swp l i (i+1)) (i+1) (i+1+d+1)) i (i+1) q (by omega) (by omega)
     have e2:=fun q=>lget_swp (swp l i (i+1)) (i+1) (i+1+d+1) q (by omega) (by omega)
     have e1:=fun q=>lget_swp l i (i+1) q (by omega) (by omega)
     have e0:=fun q=>lget_swp l i (i+(d+1)+1) q (by omega) (by omega)
     rw [show i+(d+1)+1=i+1+d+1 by omega] at e0 ⊢
     simp only [e0,e3,e2,e1]
     clear e0 e1 e2 e3 L1 L2 ih one hi hj
     repeat' split
     all_goals first|rfl|exact absurd trivial (by assumption)|omega|(congr 1; omega)
   rw [e]
   have h1:=ih (swp l i (i+1)) (i+1) (by rw [swp_len]; omega)
   have h2:=one (swp (swp l i (i+1)) (i+1) (i+1+d+1)) i (by rw [swp_len,swp_len]; omega)
   exact h2.trans (h1.trans (one l i (by omega)))
 rcases Nat.lt_trichotomy i j with c|c|c
 ·have:=far (j - i - 1) l i (by omega)
  rw [show i+(j - i - 1)+1=j by omega] at this
  exact this
 ·subst c
  have:swp l i i=l:=by
   apply list_lget (swp_len _ _ _)
   intro q hq
   rw [lget_swp _ _ _ _ hi hi]
   split
   ·rename_i h; rw [h]
   ·rfl
  rw [this]
 ·have e:swp l i j=swp l j i:=by
   apply list_lget (by rw [swp_len,swp_len])
   intro q hq
   rw [lget_swp _ _ _ _ hi hj,lget_swp _ _ _ _ hj hi]
   repeat' split
   all_goals first|rfl|omega
  rw [e]
  have:=far (i - j - 1) l j (by omega)
  rw [show j+(i - j - 1)+1=i by omega] at this
  exact this
inductive Sw (a b:Nat) (l:List Int):List Int→Prop
 | refl:Sw a b l l
 | step {l':List Int} (i j:Nat):Sw a b l l'→a≤i→i<b→a≤j→j<b→b≤l.length→Sw a b l (swp l' i j)
theorem Sw.len {a b:Nat} {l l':List Int} (h:Sw a b l l'):l'.length=l.length:=by
 induction h with
 | refl=>rfl
 | step i j _ _ _ _ _ _ ih=>rw [swp_len,ih]
theorem Sw.perm {a b:Nat} {l l':List Int} (h:Sw a b l l'):l'.Perm l:=by
 induction h with
 | refl=>exact List.Perm.refl _
 | step i j hs h1 h2 h3 h4 h5 ih=>exact (swp_perm _ i j (by rw [hs.len]; omega) (by rw [hs.len]; omega)).trans ih
theorem Sw.trans {a b:Nat} {l l' l2:List Int} (h:Sw a b l l') (h':Sw a b l' l2):Sw a b l l2:=by
 induction h' with
 | refl=>exact h
 | step i j hs h1 h2 h3 h4 h5 ih=>exact Sw.step i j ih h1 h2 h3 h4 (by rw [← h.len]; exact h5)
theorem Sw.mono {a b a' b':Nat} {l l':List Int} (h:Sw a b l l') (ha:a'≤a) (hb:b≤b') (hl:b'≤l.length):Sw a' b' l l':=by
 induction h with
 | refl=>exact Sw.refl
 | step i j hs h1 h2 h3 h4 h5 ih=>exact Sw.step i j ih (by omega) (by omega) (by omega) (by omega) hl
theorem Sw.out {a b:Nat} {l l':List Int} (h:Sw a b l l'):∀ q,q<a∨b≤q→lget l' q=lget l q:=by
 induction h with
 | refl=>intro q _; rfl
 | step i j hs h1 h2 h3 h4 h5 ih =>
  intro q hq
  rw [lget_swp _ _ _ _ (by rw [hs.len]; omega) (by rw [hs.len]; omega),if_neg (by omega),if_neg (by omega)]
  exact ih q hq
theorem Sw.all {a b:Nat} {l l':List Int} (h:Sw a b l l') {P:Int→Prop} (hP:∀ q,a≤q→q<b→P (lget l q)):∀ q,a≤q→q<b→P (lget l' q):=by
 induction h with
 | refl=>exact hP
 | step i j hs h1 h2 h3 h4 h5 ih =>
  intro q hq1 hq2
  rw [lget_swp _ _ _ _ (by rw [hs.len]; omega) (by rw [hs.len]; omega)]
  split
  ·exact ih i h1 h2
  ·split
   ·exact ih j h3 h4
   ·exact ih q hq1 hq2
theorem Sw.all' {a b a' b':Nat} {l l':List Int} (h:Sw a b l l') (ha:a'≤a) (hb:b≤b') {P:Int→Prop} (hP:∀ q,a'≤q→q<b'→P (lget l q)):∀ q,a'≤q→q<b'→P (lget l' q):=by
 intro q h1 h2
 by_cases c:a≤q∧q<b
 ·exact h.all (fun q h1 h2=>hP q (by omega) (by omega)) q c.1 c.2
 ·rw [h.out q (by omega)]; exact hP q h1 h2
def Srt (a b:Nat) (l:List Int):Prop:=∀ u v:Nat,a≤u→u<v→v<b→(lget l u)≤(lget l v)
theorem Srt.small {a b:Nat} {l:List Int} (h:b≤a+1):Srt a b l:=fun u v h1 h2 h3=>by omega
theorem own_swp {lo:Nat} {S:AS} {v:Value} {l:List Int} (ho:Own 3 lo S v l) {id:Nat} (hb:blkOf v=some id) {i j:Nat} (hi:i<l.length) (hj:j<l.length) {oi oj:Nat} (hoi:oi=i * 1) (hoj:oj=j * 1) :
  ∃ S1 S2,stA Tryz.prog 3 ⟨id,oi,none⟩ (.int .i64 (lget l j)) S=some S1 ∧
   stA Tryz.prog 3 ⟨id,oj,none⟩ (.int .i64 (lget l i)) S1=some S2∧Own 3 lo S2 v (swp l i j)∧Keep v S S2∧S2.next=S.next:=by
 subst hoi hoj
 obtain ⟨S1,e1,n1,o1,f1⟩:=ho.put (P:=Tryz.prog) (u:=.int .i64 (lget l j)) (by decide +kernel) hi (x:=lget l j) rfl hb
 obtain ⟨S2,e2,n2,o2,f2⟩:=o1.put (P:=Tryz.prog) (u:=.int .i64 (lget l i)) (by decide +kernel) (i:=j) (by rw [List.length_set]; exact hj) (x:=lget l i) rfl hb
 exact ⟨S1,S2,e1,e2,o2,(Keep.put n1 hb f1).trans (Keep.put n2 hb f2),by omega⟩
end Clock
end Go.Proofs
end
section
set_option linter.unusedSimpArgs false
set_option linter.unusedVariables false
namespace Go.Proofs
namespace Clock
open Go Go.RowKit Go.Aev
set_option maxRecDepth 100000
set_option maxHeartbeats 4000000 in
theorem c179 (l:List Int) (hn:l.length≤1000) (lo:Nat) (S:AS) (v:Value) (ho:Own 3 lo S v l) (id:Nat) (hb:blkOf v=some id) (a b:Nat) (hab:a<b) (hbl:b≤l.length) :
  ∃ S' l',(evL Tryz.prog E0).call 179 #[v,.int .i64 (a:Int),.int .i64 (b:Int)] S=some (.tuple #[],S')∧Keep v S S'∧Own 3 lo S' v l'∧Sw a b l l':=by
 generalize hz:(evL Tryz.prog E0).call 179 _ _=z
 rw [L_call,evCall_said rfl Tryz.func179 rfl (by decide) Tryz.ntmps179 Tryz.results179] at hz
 have w0:IntKind.i64.wrap ((b:Int) - 1)=((b - 1:Nat):Int):=by rw [IntWalk.i64_in]<;>omega
 simp (disch:=first|omega|assumption) only [E0_G,SY,setArgs,off,agreeKind,Nat.reduceAdd,Nat.reduceSub,Nat.reduceLT,Nat.reduceBEq,store_refl E0_same,w0] at hz
 generalize hL1:Rec.loop _ _ _ _=L1 at hz
 obtain ⟨x1,t1,S1e,rfl,hQ1⟩:=loop_met hL1 (fun m t S'=>∃ (i j:Nat) (o:List Int),m+i=j+1∧a≤i∧j<b∧Sw a b l o∧t.get 0=some (v)∧t.get 1=some (.int .i64 (a:Int))∧t.get 2=some (.int .i64 (b:Int))∧t.get 6=some (.int .i64 (i:Int))∧t.get 7=some (.int .i64 (j:Int))∧Keep v S S'∧Own 3 lo S' v o)
  (fun x t S'=>x=.exit 0∧∃ (o:List Int),Sw a b l o∧Keep v S S'∧Own 3 lo S' v o) (b - 1+1 - a)
  ⟨a,b - 1,l,by omega,by omega,by omega,Sw.refl,by simp only [SY,eq_self,Nat.reduceBEq]<;>rfl,by simp only [SY,eq_self,Nat.reduceBEq]<;>rfl,by simp only [SY,eq_self,Nat.reduceBEq]<;>rfl,by simp only [SY,eq_self,Nat.reduceBEq]<;>rfl,by simp only [SY,eq_self,Nat.reduceBEq]<;>rfl,Keep.refl v S,ho⟩ (by
   rintro m t S1 ⟨i,j,o,hm,hi,hj,hs,g0,g1,g2,g8,g9,kp,ow⟩
   refine .run fun z he=>?_
   have hlo:=hs.len
   simp (disch:=first|omega|assumption) only [E0_G,SY,off,agreeKind,Nat.reduceAdd,Nat.reduceLT,Nat.reduceBEq,store_refl E0_same,g8,g9] at he
   rcases dP ((i:Int)<(j:Int)) with ⟨h3a,h3⟩|⟨h3a,h3⟩
   ·simp (disch:=first|omega|assumption) only [SY,store_refl E0_same,h3a] at he
    have w1:IntKind.i64.wrap ((i:Int)+1)=((i+1:Nat):Int):=by rw [IntWalk.i64_in]<;>omega
    have w2:IntKind.i64.wrap ((j:Int) - 1)=((j - 1:Nat):Int):=by rw [IntWalk.i64_in]<;>omega
    rw [code_draws _ _ _ (by kernel_rfl)] at he
    generalize hnd1:needy _=nd1 at he
    obtain ⟨loA,ltA,ccA,exA,hxA,hcA⟩:=own_cut ow hb
    obtain ⟨ofAj,hoAj,iaAj,pAj0⟩:=hcA (j) (by omega)
    obtain ⟨ofAi,hoAi,iaAi,pAi0⟩:=hcA (i) (by omega)
    obtain ⟨SxA,SyA,exA,eyA,owA,kpA,nxA⟩:=own_swp ow hb (i:=i) (j:=j) (by omega) (by omega) hoAi hoAj
    simp (disch:=first|omega|assumption) only [E0_G,SY,off,agreeKind,ldA,aggD,Nat.reduceAdd,Nat.reduceLT,Nat.reduceBEq,TY_EvO0,store_refl E0_same,g0,g8,g9,w1,w2,hxA,iaAj,pAj0,iaAi,pAi0,exA,eyA] at he
    exact .next he (m - 2) (by omega) ⟨i+1,j - 1,_,by omega,by omega,by omega,Sw.step i j hs (by omega) (by omega) (by omega) (by omega) hbl,by simp only [SY,eq_self,Nat.reduceBEq,g0]<;>rfl,by simp only [SY,eq_self,Nat.reduceBEq,g1]<;>rfl,by simp only [SY,eq_self,Nat.reduceBEq,g2]<;>rfl,by simp only [SY,eq_self,Nat.reduceBEq,g8]<;>rfl,by simp only [SY,eq_self,Nat.reduceBEq,g9]<;>rfl,kp.trans kpA,owA⟩
   simp (disch:=first|omega|assumption) only [SY,store_refl E0_same,h3a] at he
   exact .exit he ⟨rfl,o,hs,kp,ow⟩)
 obtain ⟨rfl,o,hs,kp,ow⟩:=hQ1
 simp (disch:=first|omega|assumption) only [SY,eq_self,if_true,store_refl E0_same] at hz
 exact ⟨_,o,hz.symm,kp,ow,hs⟩
end Clock
end Go.Proofs
end
section
set_option linter.unusedSimpArgs false
set_option linter.unusedVariables false
namespace Go.Proofs
namespace Clock
open Go Go.RowKit Go.Aev
set_option maxRecDepth 100000
theorem ins_step {a i j:Nat} {o:List Int} (hj:a<j) (hji:j≤i) (hi:i<o.length) (P:∀ u v:Nat,a≤u→u<v→v≤i→v≠j→(lget o u)≤(lget o v)) (c:(lget o j)<(lget o (j - 1))) :
  ∀ u v:Nat,a≤u→u<v→v≤i→v≠j - 1→(lget (swp o j (j - 1)) u)≤(lget (swp o j (j - 1)) v):=by
 intro u v h1 h2 h3 h4
 rw [lget_swp _ _ _ _ (by omega) (by omega),lget_swp _ _ _ _ (by omega) (by omega),if_neg (Ne.symm h4)]
 by_cases c1:j=v
 ·rw [if_pos c1]
  by_cases c2:j - 1=u
  ·rw [if_pos c2]; omega
  ·rw [if_neg c2,if_neg (by omega)]
   exact P u (j - 1) h1 (by omega) (by omega) (by omega)
 ·rw [if_neg c1]
  by_cases c2:j - 1=u
  ·rw [if_pos c2]; exact P j v (by omega) (by omega) h3 (Ne.symm c1)
  ·rw [if_neg c2]
   by_cases c3:j=u
   ·rw [if_pos c3]; exact P (j - 1) v (by omega) (by omega) h3 (Ne.symm c1)
   ·rw [if_neg c3]; exact P u v h1 h2 h3 (Ne.symm c1)
theorem ins_stop {a i j:Nat} {o:List Int} (hji:j≤i) (P:∀ u v:Nat,a≤u→u<v→v≤i→v≠j→(lget o u)≤(lget o v)) (c:¬ a<j∨¬ (lget o j)<(lget o (j - 1))):Srt a (i+1) o:=by
 intro u v h1 h2 h3
 by_cases c1:v=j
 ·subst c1
  by_cases c2:u=v - 1
  ·subst c2; omega
  ·have:=P u (v - 1) h1 (by omega) (by omega) (by omega)
   omega
 ·exact P u v h1 h2 (by omega) c1
set_option maxHeartbeats 4000000 in
theorem c175g (l:List Int) (hn:l.length≤1000) (lo:Nat) (S:AS) (v:Value) (ho:Own 3 lo S v l) (id:Nat) (hb:blkOf v=some id) (a b:Nat) (hab:a≤b) (hbl:b≤l.length) :
  ∃ S' l',(evL Tryz.prog E0).call 175 #[v,.int .i64 (a:Int),.int .i64 (b:Int)] S=some (.tuple #[],S')∧Keep v S S'∧Own 3 lo S' v l'∧Sw a b l l'∧Srt a b l':=by
 generalize hz:(evL Tryz.prog E0).call 175 _ _=z
 rw [L_call,evCall_said rfl Tryz.func175 rfl (by decide) Tryz.ntmps175 Tryz.results175] at hz
 have w0:IntKind.i64.wrap ((a:Int)+1)=((a+1:Nat):Int):=by rw [IntWalk.i64_in]<;>omega
 simp (disch:=first|omega|assumption) only [E0_G,SY,setArgs,off,agreeKind,Nat.reduceAdd,Nat.reduceSub,Nat.reduceLT,Nat.reduceBEq,store_refl E0_same,w0] at hz
 generalize hL1:Rec.loop _ _ _ _=L1 at hz
 obtain ⟨x1,t1,S1e,rfl,hQ1⟩:=loop_met hL1 (fun m t S'=>∃ (i:Nat) (o:List Int),m+i=max b (a+1)∧a+1≤i∧Sw a b l o∧Srt a i o∧t.get 0=some (v)∧t.get 1=some (.int .i64 (a:Int))∧t.get 2=some (.int .i64 (b:Int))∧t.get 6=some (.int .i64 (i:Int))∧Keep v S S'∧Own 3 lo S' v o)
  (fun x t S'=>x=.exit 0∧∃ (o:List Int),Sw a b l o∧Srt a b o∧Keep v S S'∧Own 3 lo S' v o) (max b (a+1) - (a+1))
  ⟨a+1,l,by omega,by omega,Sw.refl,Srt.small (Nat.le_refl _),by simp only [SY,eq_self,Nat.reduceBEq]<;>rfl,by simp only [SY,eq_self,Nat.reduceBEq]<;>rfl,by simp only [SY,eq_self,Nat.reduceBEq]<;>rfl,by simp only [SY,eq_self,Nat.reduceBEq]<;>rfl,Keep.refl v S,ho⟩ (by
   rintro m t S1 ⟨i,o,hm,hi,hs,hr,g0,g1,g2,g8,kp,ow⟩
   refine .run fun z he=>?_
   have hlo:=hs.len
   simp (disch:=first|omega|assumption) only [E0_G,SY,off,agreeKind,Nat.reduceAdd,Nat.reduceLT,Nat.reduceBEq,store_refl E0_same,g2,g8] at he
   rcases dP ((i:Int)<(b:Int)) with ⟨h3a,h3⟩|⟨h3a,h3⟩
   ·simp (disch:=first|omega|assumption) only [E0_G,SY,off,agreeKind,Nat.reduceAdd,Nat.reduceLT,Nat.reduceBEq,store_refl E0_same,g8,h3a] at he
    generalize hL2:Rec.loop _ _ _ _=L2 at he
    obtain ⟨x2,t2,S2e,rfl,hQ2⟩:=loop_met hL2 (fun m t S'=>∃ (j:Nat) (o':List Int),m+a=j∧j≤i∧Sw a b l o'∧(∀ u v:Nat,a≤u→u<v→v≤i→v≠j→(lget o' u)≤(lget o' v))∧t.get 0=some (v)∧t.get 1=some (.int .i64 (a:Int))∧t.get 2=some (.int .i64 (b:Int))∧t.get 6=some (.int .i64 (i:Int))∧t.get 7=some (.int .i64 (j:Int))∧Keep v S S'∧Own 3 lo S' v o')
     (fun x t S'=>x=.exit 2∧∃ (o':List Int),Sw a b l o'∧Srt a (i+1) o'∧t.get 0=some (v)∧t.get 1=some (.int .i64 (a:Int))∧t.get 2=some (.int .i64 (b:Int))∧t.get 6=some (.int .i64 (i:Int))∧Keep v S S'∧Own 3 lo S' v o') (i - a)
     ⟨i,o,by omega,by omega,hs,(fun u w h1 h2 h3 h4=>hr u w h1 h2 (by omega)),by simp only [SY,eq_self,Nat.reduceBEq,g0]<;>rfl,by simp only [SY,eq_self,Nat.reduceBEq,g1]<;>rfl,by simp only [SY,eq_self,Nat.reduceBEq,g2]<;>rfl,by simp only [SY,eq_self,Nat.reduceBEq,g8]<;>rfl,by simp only [SY,eq_self,Nat.reduceBEq]<;>rfl,kp,ow⟩ (by
      clear he hL2 hL1 hz
      rintro m t S2 ⟨j,o',hm2,hji,hs2,hP,f0,f1,f2,f8,f9,kp2,ow2⟩
      refine .run fun z he=>?_
      have hlo2:=hs2.len
      simp (disch:=first|omega|assumption) only [SY,store_refl E0_same] at he
      rw [code_draws _ _ _ (by kernel_rfl)] at he
      generalize hnd1:needy _=nd1 at he
      rcases dP ((a:Int)<(j:Int)) with ⟨h4a,h4⟩|⟨h4a,h4⟩
      ·have w1:IntKind.i64.wrap ((j:Int) - 1)=((j - 1:Nat):Int):=by rw [IntWalk.i64_in]<;>omega
       obtain ⟨loB,ltB,ccB,exB,hxB,hcB⟩:=own_cut ow2 hb
       obtain ⟨ofBx,hoBx,iaBx,pBx0⟩:=hcB (j) (by omega)
       obtain ⟨ofBy,hoBy,iaBy,pBy0⟩:=hcB (j - 1) (by omega)
       obtain ⟨SC,kC,aC⟩:=cL (lget o' j) (lget o' (j - 1)) S2
       have sC:E0.same S2 SC=true:=symEnv_same aC
       simp (disch:=first|omega|assumption) only [E0_G,SY,agreeKind,vals,ldA,aggD,Nat.reduceAdd,Nat.reduceLT,Nat.reduceBEq,TY_EvO0,store_agree,store_refl E0_same,f0,f1,f9,h4a,w1,hxB,iaBx,pBx0,iaBy,pBy0,kC] at he
       rcases dP (cmpI (lget o' j) (lget o' (j - 1))<0) with ⟨h5a,h5⟩|⟨h5a,h5⟩
       ·simp (disch:=first|omega|assumption) only [SY,store_refl E0_same,h5a] at he
        have ow3:=ow2.agree aC
        rw [code_draws _ _ _ (by kernel_rfl)] at he
        generalize hnd2:needy _=nd2 at he
        obtain ⟨loD,ltD,ccD,exD,hxD,hcD⟩:=own_cut ow3 hb
        obtain ⟨ofDj,hoDj,iaDj,pDj0⟩:=hcD ((j - 1)) (by omega)
        obtain ⟨ofDi,hoDi,iaDi,pDi0⟩:=hcD (j) (by omega)
        obtain ⟨SxD,SyD,exD,eyD,owD,kpD,nxD⟩:=own_swp ow3 hb (i:=j) (j:=(j - 1)) (by omega) (by omega) hoDi hoDj
        simp (disch:=first|omega|assumption) only [E0_G,SY,off,agreeKind,ldA,aggD,Nat.reduceAdd,Nat.reduceLT,Nat.reduceBEq,TY_EvO0,store_refl E0_same,f0,f9,w1,hxD,iaDj,pDj0,iaDi,pDi0,exD,eyD] at he
        rw [cmpI_lt] at h5
        exact .next he (m - 1) (by omega) ⟨j - 1,_,by omega,by omega,Sw.step j (j - 1) hs2 (by omega) (by omega) (by omega) (by omega) hbl,ins_step (by omega) hji (by omega) hP h5,by simp only [SY,eq_self,Nat.reduceBEq,f0]<;>rfl,by simp only [SY,eq_self,Nat.reduceBEq,f1]<;>rfl,by simp only [SY,eq_self,Nat.reduceBEq,f2]<;>rfl,by simp only [SY,eq_self,Nat.reduceBEq,f8]<;>rfl,by simp only [SY,eq_self,Nat.reduceBEq,f9]<;>rfl,(kp2.trans (Keep.of aC)).trans kpD,owD⟩
       simp (disch:=first|omega|assumption) only [SY,store_refl E0_same,h5a] at he
       rw [cmpI_lt] at h5
       exact .exit he ⟨rfl,o',hs2,ins_stop hji hP (.inr h5),by simp only [SY,eq_self,Nat.reduceBEq,f0]<;>rfl,by simp only [SY,eq_self,Nat.reduceBEq,f1]<;>rfl,by simp only [SY,eq_self,Nat.reduceBEq,f2]<;>rfl,by simp only [SY,eq_self,Nat.reduceBEq,f8]<;>rfl,kp2.trans (Keep.of aC),ow2.agree aC⟩
      simp (disch:=first|omega|assumption) only [E0_G,SY,agreeKind,Nat.reduceAdd,Nat.reduceLT,Nat.reduceBEq,store_refl E0_same,f1,f9,h4a] at he
      exact .exit he ⟨rfl,o',hs2,ins_stop hji hP (.inl (by omega)),by simp only [SY,eq_self,Nat.reduceBEq,f0]<;>rfl,by simp only [SY,eq_self,Nat.reduceBEq,f1]<;>rfl,by simp only [SY,eq_self,Nat.reduceBEq,f2]<;>rfl,by simp only [SY,eq_self,Nat.reduceBEq,f8]<;>rfl,kp2,ow2⟩)
    obtain ⟨rfl,o',hs2,hr2,f0,f1,f2,f8,kp2,ow2⟩:=hQ2
    have w5:IntKind.i64.wrap ((i:Int)+1)=((i+1:Nat):Int):=by rw [IntWalk.i64_in]<;>omega
    simp (disch:=first|omega|assumption) only [E0_G,SY,off,agreeKind,eq_self,if_true,Nat.reduceAdd,Nat.reduceLT,Nat.reduceBEq,store_refl E0_same,f8,w5] at he
    exact .next he (m - 1) (by omega) ⟨i+1,o',by omega,by omega,hs2,hr2,by simp only [SY,eq_self,Nat.reduceBEq,f0]<;>rfl,by simp only [SY,eq_self,Nat.reduceBEq,f1]<;>rfl,by simp only [SY,eq_self,Nat.reduceBEq,f2]<;>rfl,by simp only [SY,eq_self,Nat.reduceBEq,f8]<;>rfl,kp2,ow2⟩
   simp (disch:=first|omega|assumption) only [SY,store_refl E0_same,h3a] at he
   exact .exit he ⟨rfl,o,hs,fun u w h1 h2 h3'=>hr u w h1 h2 (by omega),kp,ow⟩)
 obtain ⟨rfl,o,hs,hr,kp,ow⟩:=hQ1
 simp (disch:=first|omega|assumption) only [SY,eq_self,if_true,store_refl E0_same] at hz
 exact ⟨_,o,hz.symm,kp,ow,hs,hr⟩
end Clock
end Go.Proofs
end
