import Derived.Test.YtohfdkdjfoonjaaGreatDoorEvH3
section
set_option linter.unusedSimpArgs false
set_option linter.unusedVariables false
namespace Go.Proofs
namespace House
open Go Go.RowKit Go.Aev
set_option maxRecDepth 100000
theorem r71_iff {n lo hi:Int}:r71 n lo hi=true↔lo≤n∧n≤hi:=by
 unfold r71
 split
 ·simp only [decide_eq_true_eq]; omega
 ·simp only [Bool.false_eq_true,false_iff]; omega
theorem r135_iff {n m:Int}:r135 n m=true↔0≤n∧n<m:=by
 unfold r135
 split
 ·simp only [decide_eq_true_eq]; omega
 ·simp only [Bool.false_eq_true,false_iff]; omega
theorem r133_iff {lo hi n:Int}:r133 lo hi n=true↔lo≤n∧n≤hi:=by
 unfold r133
 split
 ·simp only [decide_eq_true_eq]; omega
 ·simp only [Bool.false_eq_true,false_iff]; omega
theorem r139_iff {a b c d:Int}:r139 a b c d=true↔a≤b∧c≤a∧b≤d:=by
 unfold r139 r141
 split
 ·simp only [decide_eq_true_eq]; omega
 ·simp; omega
theorem r77_iff {x:Dr}:r77 x=true↔r132 x.hours 86399=true∧r132 x.shut 1073741823=true:=by unfold r77; split<;>simp_all
def okB (s:ByteArray) (k:Nat):Prop:=(97≤bAt s k∧bAt s k≤122)∨(48≤bAt s k∧bAt s k≤57)
theorem R131_0_spec (s:ByteArray):∀ m k,m+k=s.size+1→(R131_0 s m k=.inr ()∧(∀ j,k≤j→j<s.size→okB s j))∨(R131_0 s m k=.inl false∧∃ j,k≤j∧j<s.size∧¬ okB s j):=by
 intro m
 induction m with
 | zero=>intro k hk; exact .inl ⟨rfl,fun j h1 h2=>by omega⟩
 | succ m ih =>
  intro k hk
  unfold R131_0
  by_cases h:(k:Int)<(s.size:Int)
  ·rw [if_pos h]
   have key:okB s k→(R131_0 s m (k+1)=.inr ()∧(∀ j,k≤j→j<s.size→okB s j))∨(R131_0 s m (k+1)=.inl false∧∃ j,k≤j∧j<s.size∧¬ okB s j):=fun hb=>by
    rcases ih (k+1) (by omega) with ⟨h1,h2⟩|⟨h1,j,h2,h3,h4⟩
    ·refine .inl ⟨h1,fun j hj1 hj2=>?_⟩
     by_cases e:j=k
     ·subst e; exact hb
     ·exact h2 j (by omega) hj2
    ·exact .inr ⟨h1,j,by omega,h3,h4⟩
   have bad:¬ okB s k→((Sum.inl false:Sum Bool Unit)=.inr ()∧(∀ j,k≤j→j<s.size→okB s j))∨((Sum.inl false:Sum Bool Unit)=.inl false∧∃ j,k≤j∧j<s.size∧¬ okB s j):=fun hb=>.inr ⟨rfl,k,Nat.le_refl _,by omega,hb⟩
   repeat' split
   all_goals first|(apply key; unfold okB; omega)|(apply bad; unfold okB; omega)
  ·rw [if_neg h]; exact .inl ⟨rfl,fun j h1 h2=>by omega⟩
theorem R81_0_spec (s:ByteArray):∀ m k,m+k=s.size+1→(R81_0 s m k=.inr ()∧(∀ j,k≤j→j<s.size→okB s j))∨(R81_0 s m k=.inl false∧∃ j,k≤j∧j<s.size∧¬ okB s j):=by
 intro m
 induction m with
 | zero=>intro k hk; exact .inl ⟨rfl,fun j h1 h2=>by omega⟩
 | succ m ih =>
  intro k hk
  unfold R81_0
  by_cases h:(k:Int)<(s.size:Int)
  ·rw [if_pos h]
   have key:okB s k→(R81_0 s m (k+1)=.inr ()∧(∀ j,k≤j→j<s.size→okB s j))∨(R81_0 s m (k+1)=.inl false∧∃ j,k≤j∧j<s.size∧¬ okB s j):=fun hb=>by
    rcases ih (k+1) (by omega) with ⟨h1,h2⟩|⟨h1,j,h2,h3,h4⟩
    ·refine .inl ⟨h1,fun j hj1 hj2=>?_⟩
     by_cases e:j=k
     ·subst e; exact hb
     ·exact h2 j (by omega) hj2
    ·exact .inr ⟨h1,j,by omega,h3,h4⟩
   have bad:¬ okB s k→((Sum.inl false:Sum Bool Unit)=.inr ()∧(∀ j,k≤j→j<s.size→okB s j))∨((Sum.inl false:Sum Bool Unit)=.inl false∧∃ j,k≤j∧j<s.size∧¬ okB s j):=fun hb=>.inr ⟨rfl,k,Nat.le_refl _,by omega,hb⟩
   repeat' split
   all_goals first|(apply key; unfold okB; omega)|(apply bad; unfold okB; omega)
  ·rw [if_neg h]; exact .inl ⟨rfl,fun j h1 h2=>by omega⟩
theorem names_eq (s:ByteArray):r131 s=r81 s:=by
 unfold r131 r81
 rcases R131_0_spec s (s.size+1) 0 (by omega) with ⟨h1,h2⟩|⟨h1,j,h2,h3,h4⟩<;>rcases R81_0_spec s (s.size+1) 0 (by omega) with ⟨k1,k2⟩|⟨k1,j',k2,k3,k4⟩
 ·rw [h1,k1]
  unfold onSum
  simp only
  repeat' split
  all_goals first|rfl|omega|(simp; omega)
 ·exact absurd (h2 j' k2 k3) k4
 ·exact absurd (k2 j h2 h3) h4
 ·rw [h1,k1]
  unfold onSum
  simp only
  repeat' split
  all_goals rfl
theorem R132_82 (l:List Sp) (n:Int):∀ (m:List Sp) (k:Nat),R132_0 l n m k=R82_0 l n m k:=by
 intro m
 induction m with
 | nil=>intro k; rfl
 | cons x m ih =>
  intro k
  unfold R132_0 R82_0
  by_cases h:r139 x.lo x.hi 0 n=true
  ·have h':=r139_iff.1 h
   have a1:¬ x.hi<x.lo:=by omega
   have a2:r71 x.lo 0 n=true:=r71_iff.2 (by omega)
   have a3:r71 x.hi 0 n=true:=r71_iff.2 (by omega)
   simp only [if_pos h,if_neg a1,if_pos a2,if_pos a3,ih]
  ·rw [if_neg h]
   have h':¬ (x.lo≤x.hi∧0≤x.lo∧x.hi≤n):=fun e=>h (r139_iff.2 e)
   by_cases h1:x.hi<x.lo
   ·rw [if_pos h1]
   rw [if_neg h1]
   by_cases h2:r71 x.lo 0 n=true
   ·have:=r71_iff.1 h2
    rw [if_pos h2,if_neg (fun e=>by have:=r71_iff.1 e; omega)]
   ·rw [if_neg h2]
theorem orderly_eq (l:List Sp) (n:Int):r132 l n=r82 l n:=by
 unfold r132 r82
 rw [R132_82]
theorem way_eq (h:Hs) (x:Wy):r80 h x=r83 h x:=by
 rw [Bool.eq_iff_iff]
 unfold r80 r83
 constructor
 ·intro e
  split at e
  case isFalse=>simp at e
  rename_i h1
  split at e
  case isFalse=>simp at e
  rename_i h2
  split at e
  ·simp at e
  rename_i h3
  split at e
  case isFalse=>simp at e
  rename_i h4
  split at e
  case isFalse=>simp at e
  rename_i h5
  unfold r102 at h1 h2
  have h1:=r135_iff.1 h1
  have h2:=r135_iff.1 h2
  have h4:=r133_iff.1 h4
  have h5:=r133_iff.1 h5
  rw [if_pos (r71_iff.2 (by omega)),if_pos (r71_iff.2 (by omega)),if_neg h3,if_pos (r71_iff.2 (by omega)),if_pos (r71_iff.2 (by omega))]
  split at e
  ·exact r71_iff.2 (by omega)
  ·unfold r87 at e
   have:=r135_iff.1 e
   exact r71_iff.2 (by omega)
 ·intro e
  split at e
  case isFalse=>simp at e
  rename_i h1
  split at e
  case isFalse=>simp at e
  rename_i h2
  split at e
  ·simp at e
  rename_i h3
  split at e
  case isFalse=>simp at e
  rename_i h4
  split at e
  case isFalse=>simp at e
  rename_i h5
  have h1:=r71_iff.1 h1
  have h2:=r71_iff.1 h2
  have h4:=r71_iff.1 h4
  have h5:=r71_iff.1 h5
  have h6:=r71_iff.1 e
  unfold r102 r87
  rw [if_pos (r135_iff.2 (by omega)),if_pos (r135_iff.2 (by omega)),if_neg h3,if_pos (r133_iff.2 (by omega)),if_pos (r133_iff.2 (by omega))]
  split
  ·rfl
  ·exact r135_iff.2 (by omega)
theorem R23_1_spec (h:Hs) (i:Nat) (x:Rm):∀ m j,m+j=i+1→(R23_1 h i x m j=.inr ()∧∀ q,j≤q→q<i→(lget h.rooms q).name≠(lget h.rooms i).name)∨(R23_1 h i x m j=.inl (6,(i:Int))∧∃ q,j≤q∧q<i∧(lget h.rooms q).name=(lget h.rooms i).name):=by
 intro m
 induction m with
 | zero=>intro j hj; exact .inl ⟨rfl,fun q h1 h2=>by omega⟩
 | succ m ih =>
  intro j hj
  unfold R23_1
  by_cases h1:(j:Int)<(i:Int)
  ·rw [if_pos h1]
   by_cases h2:(lget h.rooms j).name=(lget h.rooms i).name
   ·rw [if_pos h2]; exact .inr ⟨rfl,j,Nat.le_refl _,by omega,h2⟩
   ·rw [if_neg h2]
    rcases ih (j+1) (by omega) with ⟨k1,k2⟩|⟨k1,q,k2,k3,k4⟩
    ·refine .inl ⟨k1,fun q hq1 hq2=>?_⟩
     by_cases e:q=j
     ·subst e; exact h2
     ·exact k2 q (by omega) hq2
    ·exact .inr ⟨k1,q,by omega,k3,k4⟩
  ·rw [if_neg h1]; exact .inl ⟨rfl,fun q h1 h2=>by omega⟩
theorem drop_lget {α:Type} [Inhabited α] {a:List α} {i:Nat} {x:α} {l:List α} (h:a.drop i=x :: l):lget a i=x∧a.drop (i+1)=l∧i<a.length:=by
 have hi:i<a.length:=by
  rcases Nat.lt_or_ge i a.length with h1|h1
  ·exact h1
  ·rw [List.drop_eq_nil_of_le h1] at h; cases h
 rw [List.drop_eq_getElem_cons hi] at h
 injection h with h1 h2
 exact ⟨by rw [← h1]; exact lget_of (List.getElem?_eq_getElem hi),h2,hi⟩
def Names (l:List Rm) (k:Nat) (es:List (ByteArray × Bool)):Prop:=∀ nm,(sLook es nm).getD false=true↔∃ q,q<k∧(lget l q).name=nm
theorem rooms_eq (h:Hs):∀ (m:List Rm) (k:Nat) (es:List (ByteArray × Bool)),h.rooms.drop k=m→Names h.rooms k es→R74_0 h.rooms m k es=R23_0 h m k:=by
 intro m
 induction m with
 | nil=>intro k es _ _; rfl
 | cons x m ih =>
  intro k es hd hn
  obtain ⟨d1,d2,d3⟩:=drop_lget hd
  unfold R74_0 R23_0
  rw [names_eq]
  by_cases h1:r81 x.name=true
  ·rw [if_pos h1,if_pos h1]
   by_cases h2:r71 x.floor (-60) 60=true
   ·have h2':=r71_iff.1 h2
    rw [if_pos h2,if_neg (by omega),if_neg (by omega)]
    rcases R23_1_spec h k x (k+1) 0 (by omega) with ⟨k1,k2⟩|⟨k1,q,k2,k3,k4⟩
    ·rw [k1,if_neg (fun e=>by
      obtain ⟨q,q1,q2⟩:=(hn x.name).1 e
      exact k2 q (by omega) q1 (by rw [q2,d1]))]
     unfold onSum
     refine ih (k+1) _ d2 (fun nm=>?_)
     rw [sLook_put]
     by_cases e:nm=x.name
     ·rw [if_pos e]
      simp only [Option.getD_some,true_iff]
      exact ⟨k,by omega,by rw [d1,e]⟩
     ·rw [if_neg e,hn]
      constructor
      ·rintro ⟨q,q1,q2⟩; exact ⟨q,by omega,q2⟩
      ·rintro ⟨q,q1,q2⟩
       refine ⟨q,?_,q2⟩
       by_cases hq:q=k
       ·subst hq; rw [d1] at q2; exact absurd q2.symm e
       ·omega
    ·rw [k1,if_pos ((hn x.name).2 ⟨q,k3,by rw [k4,d1]⟩)]
     rfl
   ·rw [if_neg h2]
    by_cases h3:x.floor < -60
    ·rw [if_pos h3]
    ·rw [if_neg h3,if_pos (by
      by_cases h4:60<x.floor
      ·exact h4
      ·exact absurd (r71_iff.2 (by omega)) h2)]
  ·rw [if_neg h1,if_neg h1]
theorem R75_23 (h:Hs) (l0:List Dr):∀ (m:List Dr) (k:Nat),R23_2 h m k=onSum (R75_0 l0 m k) (fun r=>.inl (1,r)) (fun u=>.inr u):=by
 intro m
 induction m with
 | nil=>intro k; rfl
 | cons x m ih =>
  intro k
  unfold R75_0 R23_2 r76
  rw [← orderly_eq,← orderly_eq]
  by_cases h1:r77 x=true
  ·have h2:=r77_iff.1 h1
   rw [if_pos h2.1,if_pos h2.2,if_neg (by simp [h1]),ih]
  ·have h3:(!r77 x)=true:=by simp [h1]
   unfold onSum
   by_cases h2:r132 x.hours 86399=true
   ·have h4:¬ r132 x.shut 1073741823=true:=fun e=>h1 (r77_iff.2 ⟨h2,e⟩)
    simp only [if_pos h3,if_pos h2,if_neg h4]
   ·simp only [if_pos h3,if_neg h2]
theorem R78_23 (h:Hs) (l0:List Wy):∀ (m:List Wy) (k:Nat),R23_3 h m k=onSum (R78_0 l0 h m k) (fun r=>.inl (1,r)) (fun u=>.inr u):=by
 intro m
 induction m with
 | nil=>intro k; rfl
 | cons x m ih =>
  intro k
  unfold R78_0 R23_3 r79
  rw [← way_eq]
  by_cases h1:r80 h x=true
  ·rw [if_pos h1,if_neg (by simp [h1]),ih]
  ·rw [if_neg h1,if_pos (by simpa using h1)]
   rfl
theorem R75_pos (l0:List Dr):∀ (m:List Dr) (k:Nat) (r:Int),R75_0 l0 m k=.inl r→0≤r:=by
 intro m
 induction m with
 | nil=>intro k r e; cases e
 | cons x m ih =>
  intro k r e
  unfold R75_0 at e
  split at e
  ·cases e; omega
  ·exact ih _ _ e
theorem R78_pos (l0:List Wy) (h:Hs):∀ (m:List Wy) (k:Nat) (r:Int),R78_0 l0 h m k=.inl r→0≤r:=by
 intro m
 induction m with
 | nil=>intro k r e; cases e
 | cons x m ih =>
  intro k r e
  unfold R78_0 at e
  split at e
  ·cases e; omega
  ·exact ih _ _ e
theorem R74_nz (l0:List Rm):∀ (m:List Rm) (k:Nat) (es:List (ByteArray × Bool)) (a b:Int),R74_0 l0 m k es=.inl (a,b)→a≠0:=by
 intro m
 induction m with
 | nil=>intro k es a b e; cases e
 | cons x m ih =>
  intro k es a b e
  unfold R74_0 at e
  repeat' split at e
  all_goals first|(cases e; decide)|exact ih _ _ _ _ e
theorem check_eq (h:Hs):r22 h=r23 h:=by
 unfold r22 r23
 split
 ·rfl
 split
 ·rfl
 split
 ·rfl
 split
 ·rfl
 have hr:R74_0 h.rooms h.rooms 0 []=R23_0 h h.rooms 0:=rooms_eq h h.rooms 0 [] rfl (fun nm=>by simp [sLook])
 unfold r74
 rw [← hr]
 cases e:R74_0 h.rooms h.rooms 0 [] with
 | inl ab =>
  obtain ⟨a,b⟩:=ab
  have:=R74_nz _ _ _ _ _ _ e
  unfold onSum
  simp only
  rw [if_neg this]
 | inr u =>
  unfold onSum
  simp only
  rw [if_true]
  rw [R75_23 h h.doors,R78_23 h h.ways]
  unfold r75 r78
  cases e2:R75_0 h.doors h.doors 0 with
  | inl r =>
   have:=R75_pos _ _ _ _ e2
   unfold onSum
   simp only
   rw [if_pos this]
  | inr u =>
   unfold onSum
   simp only
   rw [if_neg (by decide)]
   cases e3:R78_0 h.ways h h.ways 0 with
   | inl r =>
    have:=R78_pos _ _ _ _ _ e3
    simp only
    rw [if_pos this]
   | inr u=>simp only; rw [if_neg (by decide)]
end House
end Go.Proofs
end
section
set_option linter.unusedSimpArgs false
set_option linter.unusedVariables false
namespace Go.Proofs
namespace House
open Go Go.RowKit Go.Aev
set_option maxRecDepth 100000
def Bd (most:Int) (l:List Sp):Prop:=∀ x ∈ l,0≤x.lo∧x.lo≤x.hi∧x.hi≤most
structure OkD (d:Dr):Prop where
 h:Bd 86399 d.hours
 s:Bd 1073741823 d.shut
 hl:d.hours.length≤12
 sl:d.shut.length≤12
theorem R23_0_nz (h:Hs):∀ (m:List Rm) (k:Nat) (a b:Int),R23_0 h m k=.inl (a,b)→a≠0:=by
 intro m
 induction m with
 | nil=>intro k a b e; cases e
 | cons x m ih =>
  intro k a b e
  unfold R23_0 at e
  split at e
  case isFalse=>cases e; decide
  split at e
  case isFalse=>cases e; decide
  cases q:R23_1 h k x (k+1) 0 with
  | inl ab =>
   obtain ⟨a',b'⟩:=ab
   rw [q] at e
   unfold onSum at e
   simp only [Sum.inl.injEq,Prod.mk.injEq] at e
   obtain ⟨rfl,rfl⟩:=e
   rcases R23_1_spec h k x (k+1) 0 (by omega) with ⟨k1,_⟩|⟨k1,_⟩
   ·rw [q] at k1; cases k1
   ·rw [q] at k1; cases k1; decide
  | inr u=>rw [q] at e; exact ih _ _ _ e
theorem R23_2_nz (h:Hs):∀ (m:List Dr) (k:Nat) (a b:Int),R23_2 h m k=.inl (a,b)→a≠0:=by
 intro m
 induction m with
 | nil=>intro k a b e; cases e
 | cons x m ih =>
  intro k a b e
  unfold R23_2 at e
  repeat' split at e
  all_goals first|(cases e; decide)|exact ih _ _ _ e
theorem R23_3_nz (h:Hs):∀ (m:List Wy) (k:Nat) (a b:Int),R23_3 h m k=.inl (a,b)→a≠0:=by
 intro m
 induction m with
 | nil=>intro k a b e; cases e
 | cons x m ih =>
  intro k a b e
  unfold R23_3 at e
  repeat' split at e
  all_goals first|(cases e; decide)|exact ih _ _ _ e
theorem valid_parts {h:Hs} (e:r59 h=0):R23_2 h h.doors 0=.inr ()∧R23_3 h h.ways 0=.inr ()∧h.rooms.length≤24∧h.doors.length≤16∧h.ways.length≤60∧0<h.rooms.length:=by
 unfold r59 r23 at e
 split at e
 ·simp at e
 split at e
 ·simp at e
 split at e
 ·simp at e
 split at e
 ·simp at e
 cases q0:R23_0 h h.rooms 0 with
 | inl ab=>obtain ⟨a,b⟩:=ab; rw [q0] at e; exact absurd e (R23_0_nz _ _ _ _ _ q0)
 | inr u =>
  rw [q0] at e
  cases q2:R23_2 h h.doors 0 with
  | inl ab=>obtain ⟨a,b⟩:=ab; rw [q2] at e; exact absurd e (R23_2_nz _ _ _ _ _ q2)
  | inr u =>
   rw [q2] at e
   cases q3:R23_3 h h.ways 0 with
   | inl ab=>obtain ⟨a,b⟩:=ab; rw [q3] at e; exact absurd e (R23_3_nz _ _ _ _ _ q3)
   | inr u=>exact ⟨rfl,rfl,by omega,by omega,by omega,by omega⟩
theorem R82_bd (l:List Sp) (n:Int):∀ (m:List Sp) (k:Nat),onSum (R82_0 l n m k) (fun b=>b) (fun _=>true)=true→Bd n m:=by
 intro m
 induction m with
 | nil=>intro k _ x hx; simp at hx
 | cons y m ih =>
  intro k e x hx
  unfold R82_0 at e
  split at e
  ·simp [onSum] at e
  split at e
  case isFalse=>simp [onSum] at e
  rename_i h1
  split at e
  case isFalse=>simp [onSum] at e
  rename_i h2
  have h1:=r71_iff.1 h1
  have h2:=r71_iff.1 h2
  have key:onSum (R82_0 l n m (k+1)) (fun b=>b) (fun _=>true)=true:=by
   split at e
   ·split at e
    ·simp [onSum] at e
    ·exact e
   ·exact e
  rcases List.mem_cons.1 hx with rfl|hx
  ·omega
  ·exact ih _ key x hx
theorem r82_bd {l:List Sp} {n:Int} (e:r82 l n=true):Bd n l∧l.length≤8:=by
 unfold r82 at e
 split at e
 ·simp at e
 ·exact ⟨R82_bd l n l 0 e,by omega⟩
theorem R23_2_ok (h:Hs):∀ (m:List Dr) (k:Nat),R23_2 h m k=.inr ()→∀ d ∈ m,r82 d.hours 86399=true∧r82 d.shut 1073741823=true:=by
 intro m
 induction m with
 | nil=>intro k _ d hd; simp at hd
 | cons y m ih =>
  intro k e d hd
  unfold R23_2 at e
  split at e
  case isFalse=>cases e
  rename_i h1
  split at e
  case isFalse=>cases e
  rename_i h2
  rcases List.mem_cons.1 hd with rfl|hd
  ·exact ⟨h1,h2⟩
  ·exact ih _ e d hd
theorem okd {h:Hs} (e:r59 h=0) {d:Dr} (hd:d ∈ h.doors):OkD d:=by
 obtain ⟨h1,h2⟩:=R23_2_ok h _ _ (valid_parts e).1 d hd
 have k1:=r82_bd h1
 have k2:=r82_bd h2
 exact ⟨k1.1,k2.1,by omega,by omega⟩
end House
end Go.Proofs
end
