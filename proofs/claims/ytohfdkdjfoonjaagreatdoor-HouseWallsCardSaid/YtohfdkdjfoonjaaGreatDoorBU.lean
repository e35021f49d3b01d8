import Derived.Test.YtohfdkdjfoonjaaGreatDoorBT
section
set_option linter.unusedSimpArgs false
set_option linter.unusedVariables false
namespace Go.Proofs
namespace House
open Go Go.RowKit Go.Aev
set_option maxRecDepth 100000
theorem tz125:szOf Tryz.prog 125=some 1:=by kernel_rfl
theorem tt125:inTab Tryz.prog 125=true:=by kernel_rfl
theorem t0_125:zeroOf Tryz.prog 125=some (.nilFunc):=by kernel_rfl
theorem R109_1_hr (rooms:Nat) (fr ti:Int) (l:List Pg) (g:Pg→Int→Int) (times by_:List Int) (left:List Bool):∀ (m:List Int) (kv:Nat) (here:Int),times.drop kv=m→Hr times left here→Hr times left (R109_1 rooms fr ti l g times by_ left m kv here):=by
 intro m
 induction m with
 | nil=>intro kv here _ h; exact h
 | cons x m ih =>
  intro kv here hd h
  obtain ⟨hx,hd'⟩:=drop_unc hd
  have hk:kv<times.length:=(List.getElem?_eq_some_iff.1 hx).1
  rw [R109_1]
  split
  ·exact ih _ _ hd' h
  ·rename_i h1
   split
   ·rename_i h2
    have hat:Hr times left (kv:Int):=Hr.at hk hx h2 h1
    split
    ·exact ih _ _ hd' hat
    ·split
     ·exact ih _ _ hd' hat
     ·exact ih _ _ hd' h
   ·exact ih _ _ hd' h
theorem R109_2_tm (rooms:Nat) (fr ti:Int) (l:List Pg) (g:Pg→Int→Int) (hg:∀ p ∈ l,∀ t,0≤t∧t≤1073741823→0≤g p t∧g p t≤1073741824) (times by_:List Int) (left:List Bool) (here:Int) (he:R109_1 rooms fr ti l g times by_ left times 0 (-1)=here) (h0:0≤here∧here<(rooms:Int)) :
  ∀ (m:List Pg) (t2 b2:List Int) (j:Nat),(∀ p ∈ m,p ∈ l)→Tm rooms t2→b2.length=rooms→lget t2 here.toNat≤1073741823→Tm rooms (R109_2 rooms fr ti l g times by_ left m t2 b2 j).1∧(R109_2 rooms fr ti l g times by_ left m t2 b2 j).2.length=rooms:=by
 intro m
 induction m with
 | nil=>intro t2 b2 j _ h1 h2 _; exact ⟨h1,h2⟩
 | cons x m ih =>
  intro t2 b2 j hm h1 h2 h3
  have hx:=hm x (by simp)
  have hm':∀ p ∈ m,p ∈ l:=fun p hp=>hm p (by simp [hp])
  rw [R109_2,he]
  split
  ·split
   ·rename_i hlt
    have h4:0≤lget t2 here.toNat:=(h1.at (lget_some (by have:=h1.len; omega))).1
    exact ih _ _ _ hm' (h1.set _ (hg x hx _ ⟨h4,h3⟩)) (by rw [List.length_set]; exact h2) (lget_set_le h3 hlt)
   ·exact ih _ _ _ hm' h1 h2 h3
  ·exact ih _ _ _ hm' h1 h2 h3
theorem R109_0_tm (rooms:Nat) (fr ti:Int) (l:List Pg) (g:Pg→Int→Int) (hg:∀ p ∈ l,∀ t,0≤t∧t≤1073741823→0≤g p t∧g p t≤1073741824) :
  ∀ (m:Nat) (times by_:List Int) (left:List Bool),Tm rooms times→by_.length=rooms→left.length=rooms→Tm rooms (R109_0 rooms fr ti l g m times by_ left).1∧(R109_0 rooms fr ti l g m times by_ left).2.length=rooms:=by
 intro m
 induction m with
 | zero=>intro times by_ left h1 h2 _; exact ⟨h1,h2⟩
 | succ m ih =>
  intro times by_ left h1 h2 h3
  rw [R109_0]
  split
  ·exact ⟨h1,h2⟩
  ·rename_i h0
   have hH:=R109_1_hr rooms fr ti l g times by_ left times 0 (-1) rfl (Hr.init _ _)
   have q:=hH.get h0
   have hl:=h1.len
   have k:=R109_2_tm rooms fr ti l g hg times by_ left _ rfl ⟨q.1,by omega⟩ l times by_ 0 (fun p hp=>hp) h1 h2 q.2.2.1
   exact ih _ _ _ k.1 k.2 (by rw [List.length_set]; exact h3)
theorem r109_tm {rooms:Nat} {fr ti:Int} {l:List Pg} {g:Pg→Int→Int} (ht:0≤ti∧ti≤1073741823) (hg:∀ p ∈ l,∀ t,0≤t∧t≤1073741823→0≤g p t∧g p t≤1073741824):Tm rooms (r109 rooms fr ti l g).1∧(r109 rooms fr ti l g).2.length=rooms :=
 R109_0_tm rooms fr ti l g hg (rooms+1) _ _ _ ((Tm.rep _ (by decide)).set _ (by omega)) (by simp) (by simp)
theorem lget_set_self {α:Type} [Inhabited α] {l:List α} {i:Nat} {x:α} (h:i<l.length):lget (l.set i x) i=x:=by
 unfold lget; rw [List.getD_eq_getElem?_getD,List.getElem?_set_self h]; rfl
end House
end Go.Proofs
end
section
set_option linter.unusedSimpArgs false
set_option linter.unusedVariables false
namespace Go.Proofs
namespace House
open Go Go.RowKit Go.Aev
set_option maxRecDepth 100000
theorem tz124:szOf Tryz.prog 124=some 1:=by kernel_rfl
theorem tt124:inTab Tryz.prog 124=true:=by kernel_rfl
theorem t0_124:zeroOf Tryz.prog 124=some (.nilFunc):=by kernel_rfl
theorem TY_EvH27:type_of% (And.intro (And.intro (And.intro (And.intro (And.intro (And.intro (And.intro Tryz.underlying3 tz3) (And.intro tt3 (And.intro t0_3 Tryz.underlying4))) (And.intro (And.intro tz4 tt4) (And.intro t0_4 (And.intro Tryz.underlying9 tz9)))) (And.intro (And.intro (And.intro tt9 t0_9) (And.intro Tryz.underlying22 (And.intro tz22 tt22))) (And.intro (And.intro t0_22 (And.intro Tryz.underlying23 tz23)) (And.intro tt23 (And.intro t0_23 Tryz.underlying24))))) (And.intro (And.intro (And.intro (And.intro tz24 tt24) (And.intro t0_24 (And.intro Tryz.underlying25 tz25))) (And.intro (And.intro tt25 t0_25) (And.intro Tryz.underlying26 (And.intro tz26 tt26)))) (And.intro (And.intro (And.intro t0_26 Tryz.underlying29) (And.intro tz29 (And.intro tt29 t0_29))) (And.intro (And.intro Tryz.underlying35 (And.intro tz35 tt35)) (And.intro t0_35 (And.intro Tryz.underlying36 tz36)))))) (And.intro (And.intro (And.intro (And.intro (And.intro tt36 t0_36) (And.intro Tryz.underlying40 (And.intro tz40 tt40))) (And.intro (And.intro t0_40 Tryz.underlying47) (And.intro tz47 (And.intro tt47 t0_47)))) (And.intro (And.intro (And.intro Tryz.underlying50 tz50) (And.intro tt50 (And.intro t0_50 Tryz.underlying51))) (And.intro (And.intro tz51 (And.intro tt51 t0_51)) (And.intro Tryz.underlying54 (And.intro tz54 tt54))))) (And.intro (And.intro (And.intro (And.intro t0_54 Tryz.underlying57) (And.intro tz57 (And.intro tt57 t0_57))) (And.intro (And.intro Tryz.underlying58 tz58) (And.intro tt58 (And.intro t0_58 Tryz.underlying91)))) (And.intro (And.intro (And.intro tz91 tt91) (And.intro t0_91 (And.intro Tryz.underlying92 tz92))) (And.intro (And.intro tt92 (And.intro t0_92 Tryz.underlying93)) (And.intro tz93 (And.intro tt93 t0_93))))))) (And.intro (And.intro (And.intro (And.intro (And.intro (And.intro Tryz.underlying94 tz94) (And.intro tt94 (And.intro t0_94 Tryz.underlying97))) (And.intro (And.intro tz97 tt97) (And.intro t0_97 (And.intro Tryz.underlying98 tz98)))) (And.intro (And.intro (And.intro tt98 t0_98) (And.intro Tryz.underlying109 (And.intro tz109 tt109))) (And.intro (And.intro t0_109 (And.intro Tryz.underlying110 tz110)) (And.intro tt110 (And.intro t0_110 Tryz.underlying113))))) (And.intro (And.intro (And.intro (And.intro tz113 tt113) (And.intro t0_113 (And.intro Tryz.underlying124 tz124))) (And.intro (And.intro tt124 t0_124) (And.intro Tryz.underlying125 (And.intro tz125 tt125)))) (And.intro (And.intro (And.intro t0_125 Tryz.underlying127) (And.intro tz127 (And.intro tt127 t0_127))) (And.intro (And.intro Tryz.underlying128 (And.intro tz128 tt128)) (And.intro t0_128 (And.intro Tryz.underlying134 tz134)))))) (And.intro (And.intro (And.intro (And.intro (And.intro tt134 t0_134) (And.intro Tryz.underlying136 (And.intro tz136 tt136))) (And.intro (And.intro t0_136 Tryz.underlying137) (And.intro tz137 (And.intro tt137 t0_137)))) (And.intro (And.intro (And.intro Tryz.underlying141 tz141) (And.intro tt141 (And.intro t0_141 Tryz.underlying142))) (And.intro (And.intro tz142 (And.intro tt142 t0_142)) (And.intro Tryz.underlying148 (And.intro tz148 tt148))))) (And.intro (And.intro (And.intro (And.intro t0_148 Tryz.underlying149) (And.intro tz149 (And.intro tt149 t0_149))) (And.intro (And.intro Tryz.underlying154 tz154) (And.intro tt154 (And.intro t0_154 Tryz.underlying168)))) (And.intro (And.intro (And.intro tz168 tt168) (And.intro t0_168 (And.intro Tryz.underlying204 tz204))) (And.intro (And.intro tt204 (And.intro t0_204 Tryz.underlying207)) (And.intro tz207 (And.intro tt207 t0_207)))))))):=(And.intro (And.intro (And.intro (And.intro (And.intro (And.intro (And.intro Tryz.underlying3 tz3) (And.intro tt3 (And.intro t0_3 Tryz.underlying4))) (And.intro (And.intro tz4 tt4) (And.intro t0_4 (And.intro Tryz.underlying9 tz9)))) (And.intro (And.intro (And.intro tt9 t0_9) (And.intro Tryz.underlying22 (And.intro tz22 tt22))) (And.intro (And.intro t0_22 (And.intro Tryz.underlying23 tz23)) (And.intro tt23 (And.intro t0_23 Tryz.underlying24))))) (And.intro (And.intro (And.intro (And.intro tz24 tt24) (And.intro t0_24 (And.intro Tryz.underlying25 tz25))) (And.intro (And.intro tt25 t0_25) (And.intro Tryz.underlying26 (And.intro tz26 tt26)))) (And.intro (And.intro (And.intro t0_26 Tryz.underlying29) (And.intro tz29 (And.intro tt29 t0_29))) (And.intro (And.intro Tryz.underlying35 (And.intro tz35 tt35)) (And.intro t0_35 (And.intro Tryz.underlying36 tz36)))))) (And.intro (And.intro (And.intro (And.intro (And.intro tt36 t0_36) (And.intro Tryz.underlying40 (And.intro tz40 tt40))) (And.intro (And.intro t0_40 Tryz.underlying47) (And.intro tz47 (And.intro tt47 t0_47)))) (And.intro (And.intro (And.intro Tryz.underlying50 tz50) (And.intro tt50 (And.intro t0_50 Tryz.underlying51))) (And.intro (And.intro tz51 (And.intro tt51 t0_51)) (And.intro Tryz.underlying54 (And.intro tz54 tt54))))) (And.intro (And.intro (And.intro (And.intro t0_54 Tryz.underlying57) (And.intro tz57 (And.intro tt57 t0_57))) (And.intro (And.intro Tryz.underlying58 tz58) (And.intro tt58 (And.intro t0_58 Tryz.underlying91)))) (And.intro (And.intro (And.intro tz91 tt91) (And.intro t0_91 (And.intro Tryz.underlying92 tz92))) (And.intro (And.intro tt92 (And.intro t0_92 Tryz.underlying93)) (And.intro tz93 (And.intro tt93 t0_93))))))) (And.intro (And.intro (And.intro (And.intro (And.intro (And.intro Tryz.underlying94 tz94) (And.intro tt94 (And.intro t0_94 Tryz.underlying97))) (And.intro (And.intro tz97 tt97) (And.intro t0_97 (And.intro Tryz.underlying98 tz98)))) (And.intro (And.intro (And.intro tt98 t0_98) (And.intro Tryz.underlying109 (And.intro tz109 tt109))) (And.intro (And.intro t0_109 (And.intro Tryz.underlying110 tz110)) (And.intro tt110 (And.intro t0_110 Tryz.underlying113))))) (And.intro (And.intro (And.intro (And.intro tz113 tt113) (And.intro t0_113 (And.intro Tryz.underlying124 tz124))) (And.intro (And.intro tt124 t0_124) (And.intro Tryz.underlying125 (And.intro tz125 tt125)))) (And.intro (And.intro (And.intro t0_125 Tryz.underlying127) (And.intro tz127 (And.intro tt127 t0_127))) (And.intro (And.intro Tryz.underlying128 (And.intro tz128 tt128)) (And.intro t0_128 (And.intro Tryz.underlying134 tz134)))))) (And.intro (And.intro (And.intro (And.intro (And.intro tt134 t0_134) (And.intro Tryz.underlying136 (And.intro tz136 tt136))) (And.intro (And.intro t0_136 Tryz.underlying137) (And.intro tz137 (And.intro tt137 t0_137)))) (And.intro (And.intro (And.intro Tryz.underlying141 tz141) (And.intro tt141 (And.intro t0_141 Tryz.underlying142))) (And.intro (And.intro tz142 (And.intro tt142 t0_142)) (And.intro Tryz.underlying148 (And.intro tz148 tt148))))) (And.intro (And.intro (And.intro (And.intro t0_148 Tryz.underlying149) (And.intro tz149 (And.intro tt149 t0_149))) (And.intro (And.intro Tryz.underlying154 tz154) (And.intro tt154 (And.intro t0_154 Tryz.underlying168)))) (And.intro (And.intro (And.intro tz168 tt168) (And.intro t0_168 (And.intro Tryz.underlying204 tz204))) (And.intro (And.intro tt204 (And.intro t0_204 Tryz.underlying207)) (And.intro tz207 (And.intro tt207 t0_207))))))))
structure Mx (n:Nat) (l:List Int):Prop where
 len:l.length=n
 all:∀ x ∈ l,-1≤x∧x≤1073741824
theorem Mx.set {n:Nat} {l:List Int} (h:Mx n l) (i:Nat) {x:Int} (hx : -1≤x∧x≤1073741824):Mx n (l.set i x):=⟨by rw [List.length_set]; exact h.len,fun y hy=>(List.mem_or_eq_of_mem_set hy).elim (h.all y) (fun e=>e ▸ hx)⟩
theorem Mx.at {n:Nat} {l:List Int} (h:Mx n l) {i:Nat} {x:Int} (hx:l[i]?=some x) : -1≤x∧x≤1073741824:=h.all x (List.mem_of_getElem? hx)
theorem Mx.of {n:Nat} {l:List Int} (h:Tm n l):Mx n l:=⟨h.len,fun x hx=>by have:=h.all x hx; omega⟩
end House
end Go.Proofs
end
