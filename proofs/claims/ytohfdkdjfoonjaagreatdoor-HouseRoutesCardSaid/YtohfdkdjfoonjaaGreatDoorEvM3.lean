import Derived.Test.YtohfdkdjfoonjaaGreatDoorEvH6
set_option linter.unusedSimpArgs false
set_option linter.unusedVariables false
namespace Go.Proofs
namespace House
open Go Go.RowKit Go.Aev
set_option maxRecDepth 100000
def Ord (l:List Sp):Prop:=l.Pairwise fun x y=>x.hi+1<y.lo
def In (l:List Sp) (n:Int):Prop:=∃ x ∈ l,x.lo≤n∧n≤x.hi
theorem R82_pw (l:List Sp) (n:Int) (hn:n≤1073741823):∀ (m:List Sp) (k:Nat),l.drop k=m→onSum (R82_0 l n m k) (fun b=>b) (fun _=>true)=true→(0<k→0≤(lget l (k - 1)).hi∧(lget l (k - 1)).hi≤n) →
  (∀ y ∈ m,0<k→(lget l (k - 1)).hi+1<y.lo)∧Ord m:=by
 intro m
 induction m with
 | nil=>intro k _ _ _; exact ⟨fun y hy=>by simp at hy,.nil⟩
 | cons x m ih =>
  intro k hd e hk
  obtain ⟨d1,d2,d3⟩:=drop_lget hd
  unfold R82_0 at e
  split at e
  ·simp [onSum] at e
  rename_i h0
  split at e
  case isFalse=>simp [onSum] at e
  rename_i h1
  split at e
  case isFalse=>simp [onSum] at e
  rename_i h2
  have h1:=r71_iff.1 h1
  have h2:=r71_iff.1 h2
  have key:onSum (R82_0 l n m (k+1)) (fun b=>b) (fun _=>true)=true∧(0<k→(lget l (k - 1)).hi+1<x.lo):=by
   split at e
   ·rename_i h3
    have:=hk (by omega)
    split at e
    ·simp [onSum] at e
    ·rename_i h4
     rw [wr64 (by omega)] at h4
     exact ⟨e,fun _=>by omega⟩
   ·exact ⟨e,fun _=>by omega⟩
  obtain ⟨i1,i2⟩:=ih (k+1) d2 key.1 (fun _=>by rw [show k+1 - 1=k by omega,d1]; omega)
  have i1':∀ y ∈ m,x.hi+1<y.lo:=fun y hy=>by have:=i1 y hy (by omega); rw [show k+1 - 1=k by omega,d1] at this; exact this
  refine ⟨fun y hy hk'=>?_,.cons i1' i2⟩
  have:=key.2 hk'
  rcases List.mem_cons.1 hy with rfl|hy
  ·exact this
  ·have:=i1' y hy; omega
theorem r82_ord {l:List Sp} {n:Int} (hn:n≤1073741823) (e:r82 l n=true):Ord l:=by
 unfold r82 at e
 split at e
 ·simp at e
 ·exact (R82_pw l n hn l 0 rfl e (fun h=>by omega)).2
theorem okd_ord {h:Hs} (e:r59 h=0) {d:Dr} (hd:d ∈ h.doors):Ord d.hours∧Ord d.shut:=by
 obtain ⟨h1,h2⟩:=R23_2_ok h _ _ (valid_parts e).1 d hd
 exact ⟨r82_ord (by decide) h1,r82_ord (by decide) h2⟩
theorem R134_iff (l:List Sp) (n:Int):∀ (m:List Sp) (k:Nat),(R134_0 l n m k=.inl true∧In m n)∨(R134_0 l n m k=.inr ()∧¬ In m n):=by
 intro m
 induction m with
 | nil=>intro k; exact .inr ⟨rfl,fun ⟨x,hx,_⟩=>by simp at hx⟩
 | cons x m ih =>
  intro k
  unfold R134_0
  by_cases h:r71 n x.lo x.hi=true
  ·rw [if_pos h]; exact .inl ⟨rfl,x,by simp,r71_iff.1 h⟩
  ·rw [if_neg h]
   rcases ih (k+1) with ⟨h1,y,h2,h3⟩|⟨h1,h2⟩
   ·exact .inl ⟨h1,y,by simp [h2],h3⟩
   ·refine .inr ⟨h1,fun ⟨y,hy,hy2⟩=>?_⟩
    rcases List.mem_cons.1 hy with rfl|hy
    ·exact h (r71_iff.2 hy2)
    ·exact h2 ⟨y,hy,hy2⟩
theorem r134_iff {l:List Sp} {n:Int}:r134 l n=true↔In l n:=by
 unfold r134
 rcases R134_iff l n l 0 with ⟨h1,h2⟩|⟨h1,h2⟩<;>rw [h1]<;>simp [onSum,h2]
theorem R137_iff (l:List Sp) (n:Int):∀ (m:List Sp),(∃ a b,R137_0 l n m=.inl (a,b,true)∧In m n)∨(R137_0 l n m=.inr ()∧¬ In m n):=by
 intro m
 induction m with
 | nil=>exact .inr ⟨rfl,fun ⟨x,hx,_⟩=>by simp at hx⟩
 | cons x m ih =>
  unfold R137_0
  by_cases h:r133 x.lo x.hi n=true
  ·rw [if_pos h]; exact .inl ⟨_,_,rfl,x,by simp,r133_iff.1 h⟩
  ·rw [if_neg h]
   rcases ih with ⟨a,b,h1,y,h2,h3⟩|⟨h1,h2⟩
   ·exact .inl ⟨a,b,h1,y,by simp [h2],h3⟩
   ·refine .inr ⟨h1,fun ⟨y,hy,hy2⟩=>?_⟩
    rcases List.mem_cons.1 hy with rfl|hy
    ·exact h (r133_iff.2 hy2)
    ·exact h2 ⟨y,hy,hy2⟩
theorem r137_iff {l:List Sp} {n:Int}:(r137 l n).2=true↔In l n:=by
 unfold r137
 rcases R137_iff l n l with ⟨a,b,h1,h2⟩|⟨h1,h2⟩<;>rw [h1]<;>simp [onSum,h2]
theorem R136_iff (l:List Sp) (t:Int) (ht:0≤t):∀ (m:List Sp),Ord m→Bd 86399 m→(∃ r,R136_0 l t m=.inl r∧(r=t↔In m (t % 86400)))∨(R136_0 l t m=.inr ()∧¬ In m (t % 86400)):=by
 intro m
 have hq:=r160_ok ht
 induction m with
 | nil=>intro _ _; exact .inr ⟨rfl,fun ⟨x,hx,_⟩=>by simp at hx⟩
 | cons x m ih =>
  intro ho hb
  obtain ⟨o1,o2⟩:=List.pairwise_cons.1 ho
  have hx:=hb x (by simp)
  unfold R136_0
  by_cases h:(r160 t).2≤x.hi
  ·rw [if_pos h]
   refine .inl ⟨_,rfl,?_⟩
   constructor
   ·intro e; exact ⟨x,by simp,by omega,by omega⟩
   ·rintro ⟨y,hy,h1,h2⟩
    rcases List.mem_cons.1 hy with rfl|hy
    ·omega
    ·have:=o1 y hy; omega
  ·rw [if_neg h]
   rcases ih o2 (fun y hy=>hb y (by simp [hy])) with ⟨r,h1,h2⟩|⟨h1,h2⟩
   ·refine .inl ⟨r,h1,h2.trans ⟨fun ⟨y,hy,hz⟩=>⟨y,by simp [hy],hz⟩,?_⟩⟩
    rintro ⟨y,hy,hz⟩
    rcases List.mem_cons.1 hy with rfl|hy
    ·omega
    ·exact ⟨y,hy,hz⟩
   ·refine .inr ⟨h1,?_⟩
    rintro ⟨y,hy,hz⟩
    rcases List.mem_cons.1 hy with rfl|hy
    ·omega
    ·exact h2 ⟨y,hy,hz⟩
theorem r136_iff {l:List Sp} {t:Int} (ht:0≤t∧t≤1073741823) (ho:Ord l) (hb:Bd 86399 l):r136 l t=t↔In l (t % 86400):=by
 have hq:=r160_ok ht.1
 unfold r136
 by_cases h0:(l.length:Int)=0
 ·rw [if_pos h0]
  have:l=[]:=List.length_eq_zero_iff.1 (by omega)
  subst this
  constructor
  ·intro e; omega
  ·rintro ⟨x,hx,_⟩; simp at hx
 ·rw [if_neg h0]
  rcases R136_iff l t ht.1 l ho hb with ⟨r,h1,h2⟩|⟨h1,h2⟩
  ·rw [h1]; exact h2
  ·rw [h1]
   have hx:=hb (lget l 0) (List.mem_of_getElem? (lget_some (by omega)))
   constructor
   ·intro e; unfold onSum at e; simp only at e; omega
   ·intro e; exact absurd e h2
def later (d:Dr) (t:Int):Int:=if (r137 d.shut (r136 d.hours t)).2=true then (r137 d.shut (r136 d.hours t)).1.2+1 else r136 d.hours t
theorem later_ge {d:Dr} (hD:OkD d) {t:Int} (ht:0≤t∧t≤1073741823):t≤later d t:=by
 have h1:=r136_ge ht hD.h
 unfold later
 split
 ·rename_i h; have:=r137_ok hD.s h; omega
 ·omega
theorem R89_step (d:Dr) (ti:Int) (m:Nat) (tv:Int):R89_0 d ti (m+1) tv=if tv≤1073741823 then (if later d tv=tv then .inl tv else R89_0 d ti m (later d tv)) else .inr ():=by
 rw [R89_0]
 unfold later
 by_cases h1:tv≤1073741823
 ·rw [if_pos h1,if_pos h1]
  by_cases h2:(r137 d.shut (r136 d.hours tv)).2=true
  ·simp only [if_pos h2]
  ·simp only [if_neg h2]
 ·rw [if_neg h1,if_neg h1]
theorem R89_ge {d:Dr} (hD:OkD d) (ti:Int):∀ (m:Nat) (tv r:Int),0≤tv→R89_0 d ti m tv=.inl r→tv≤r:=by
 intro m
 induction m with
 | zero=>intro tv r _ e; cases e
 | succ m ih =>
  intro tv r h0 e
  rw [R89_step] at e
  split at e
  ·have:=later_ge hD (t:=tv) (by omega)
   split at e
   ·cases e; omega
   ·have:=ih _ _ (by omega) e; omega
  ·cases e
theorem later_iff {d:Dr} (hD:OkD d) (ho:Ord d.hours) {t:Int} (ht:0≤t∧t≤1073741823):later d t=t↔r86 d t=true:=by
 have h1:=r136_ge ht hD.h
 have hm:=tm_ok ht.1
 have hi:=r136_iff ht ho hD.h
 unfold later r86
 rw [hm.2.2.2]
 constructor
 ·intro e
  split at e
  ·rename_i h; have:=r137_ok hD.s h; omega
  ·rename_i h
   rw [e] at h
   rw [if_pos (r134_iff.2 (hi.1 e))]
   have:¬ r134 d.shut t=true:=fun q=>h (r137_iff.2 (r134_iff.1 q))
   simpa using this
 ·intro e
  split at e
  case isFalse=>simp at e
  rename_i h
  have e1:=hi.2 (r134_iff.1 h)
  have:¬ r134 d.shut t=true:=by simpa using e
  rw [e1,if_neg (fun q=>this (r134_iff.2 (r137_iff.1 q)))]
theorem r89_iff {d:Dr} (hD:OkD d) (ho:Ord d.hours) {t:Int} (ht:0≤t∧t≤1073741823):r89 d t=t↔r86 d t=true:=by
 rw [← later_iff hD ho ht]
 unfold r89
 rw [R89_step,if_pos ht.2]
 constructor
 ·intro e
  split at e
  ·assumption
  ·rename_i h
   have hl:=later_ge hD ht
   exfalso
   cases q:R89_0 d t ((1073741824 - t).toNat) (later d t) with
   | inl r=>rw [q] at e; have:=R89_ge hD t _ _ _ (by omega) q; unfold onSum at e; simp only at e; omega
   | inr u=>rw [q] at e; unfold onSum at e; simp only at e; omega
 ·intro e; rw [if_pos e]; rfl
theorem step_eq {h:Hs} (hV:r59 h=0) (room since:Int) (s:Stp):r103 h room since s=r105 h room since s:=by
 unfold r103 r105
 by_cases h1:r143 h s.way=true
 case neg =>
  rw [if_neg h1]
  have:(r98 h s.way s.back s.at_).2=1:=by
   unfold r98
   rw [if_pos hV,if_neg (fun e=>h1 (r143_iff.2 (by have:=r71_iff.1 e; omega)))]
  rw [if_neg (by rw [this]; decide)]
 have h1':=r143_iff.1 h1
 have e71:r71 s.way 0 ((h.ways.length:Int) - 1)=true:=r71_iff.2 (by omega)
 rw [if_pos h1]
 by_cases h2:r88 s.at_=true
 case neg =>
  rw [if_neg h2]
  have:(r98 h s.way s.back s.at_).2=1:=by
   unfold r98
   rw [if_pos hV,if_pos e71,if_neg (fun e=>h2 (r88_iff.2 (r69_iff.1 e)))]
  rw [if_neg (by rw [this]; decide)]
 have h2':=r88_iff.1 h2
 have e69:r69 s.at_=true:=r69_iff.2 h2'
 rw [if_pos h2]
 have k:=okw_at hV h1'
 have kk:=k.k
 have ks:=k.s
 have kd:=k.d
 have key:∀ (w0 fr to secs door:Int) (b:Bool),0≤secs∧secs≤3600 → -1≤door∧door<h.doors.length→r144 h s.way s.back=((w0,b,fr,to,secs,door),true)→r98 h s.way s.back s.at_=((w0,fr,to,secs,door),0) →
   (if (r144 h s.way s.back).2=true then (if (((r144 h s.way s.back).1).2.2.1)=room then (if s.at_<since then ((0:Int),(0:Int),(3:Int)) else (if 0≤(((r144 h s.way s.back).1).2.2.2.2.2) then (if (r89 (lget h.doors (Int.toNat (((r144 h s.way s.back).1).2.2.2.2.2))) s.at_)=s.at_ then (if (r88 (s.at_+(((r144 h s.way s.back).1).2.2.2.2.1)))=true then (((r144 h s.way s.back).1).2.2.2.1,s.at_+(((r144 h s.way s.back).1).2.2.2.2.1),0) else (0,0,3)) else (0,0,9)) else (if (r88 (s.at_+(((r144 h s.way s.back).1).2.2.2.2.1)))=true then (((r144 h s.way s.back).1).2.2.2.1,s.at_+(((r144 h s.way s.back).1).2.2.2.2.1),0) else (0,0,3)))) else (0,0,4)) else (0,0,1)) =
   (if ((r98 h s.way s.back s.at_).2)=0 then (if (((r98 h s.way s.back s.at_).1).2.1)=room then (if s.at_<since then (0,0,3) else (if 0≤(((r98 h s.way s.back s.at_).1).2.2.2.2) then (if (r86 (lget h.doors (Int.toNat (((r98 h s.way s.back s.at_).1).2.2.2.2))) s.at_)=true then (if 1073741824≤(s.at_+(((r98 h s.way s.back s.at_).1).2.2.2.1)) then (0,0,3) else (((r98 h s.way s.back s.at_).1).2.2.1,s.at_+(((r98 h s.way s.back s.at_).1).2.2.2.1),0)) else (0,0,9)) else (if 1073741824≤(s.at_+(((r98 h s.way s.back s.at_).1).2.2.2.1)) then (0,0,3) else (((r98 h s.way s.back s.at_).1).2.2.1,s.at_+(((r98 h s.way s.back s.at_).1).2.2.2.1),0)))) else (0,0,4)) else (0,0,1)):=by
  intro w0 fr to secs door b hs hd e1 e2
  rw [e1,e2]
  simp only [if_true]
  have last:(if r88 (s.at_+secs)=true then (to,s.at_+secs,(0:Int)) else (0,0,3))=(if 1073741824≤s.at_+secs then ((0:Int),(0:Int),(3:Int)) else (to,s.at_+secs,0)):=by
   by_cases q:1073741824≤s.at_+secs
   ·rw [if_pos q,if_neg (fun e=>by have:=r88_iff.1 e; omega)]
   ·rw [if_neg q,if_pos (r88_iff.2 (by omega))]
  rw [last]
  by_cases q1:fr=room
  case neg=>rw [if_neg q1,if_neg q1]
  rw [if_pos q1,if_pos q1]
  by_cases q2:s.at_<since
  ·rw [if_pos q2,if_pos q2]
  rw [if_neg q2,if_neg q2]
  by_cases q3:0≤door
  case neg=>rw [if_neg q3,if_neg q3]
  rw [if_pos q3,if_pos q3]
  have hm:lget h.doors (Int.toNat door) ∈ h.doors:=List.mem_of_getElem? (lget_some (by omega))
  have hi:=r89_iff (okd hV hm) (okd_ord hV hm).1 h2'
  by_cases q4:r86 (lget h.doors (Int.toNat door)) s.at_=true
  ·rw [if_pos q4,if_pos (hi.2 q4)]
  ·rw [if_neg q4,if_neg (fun e=>q4 (hi.1 e))]
 by_cases hb:s.back=true
 ·by_cases h0:(lget h.ways (Int.toNat s.way)).back=0
  ·have e1:(r144 h s.way s.back).2=false:=by unfold r144; rw [if_pos hb]; simp [h0]
   have e2:(r98 h s.way s.back s.at_).2=5:=by unfold r98; rw [if_pos hV,if_pos e71,if_pos e69,if_pos hb,if_pos h0]
   rw [if_neg (by rw [e1]; decide),if_neg (by rw [e2]; decide)]
  ·exact key _ _ _ _ _ _ ⟨kk.1,kk.2⟩ kd (by unfold r144; rw [if_pos hb,decide_eq_true (by omega)]) (by unfold r98; rw [if_pos hV,if_pos e71,if_pos e69,if_pos hb,if_neg h0])
 ·exact key _ _ _ _ _ _ ⟨by omega,ks.2⟩ kd (by unfold r144; rw [if_neg hb]) (by unfold r98; rw [if_pos hV,if_pos e71,if_pos e69,if_neg hb])
theorem walk_eq {h:Hs} (hV:r59 h=0) (f0 t0 f1 t1:Int) (l:List Stp):∀ (m:List Stp) (fr tv:Int),
  onSum (R39_0 h f0 t0 l m fr tv) (fun x=>(x.1,x.2.1,x.2.2)) (fun x=>(x.1,x.2,(0:Int)))=onSum (R40_0 h f1 t1 l m fr tv 0) (fun x=>(x.1,x.2.1,x.2.2)) (fun x=>(x.1,x.2.1,x.2.2)):=by
 intro m
 induction m with
 | nil=>intro fr tv; rfl
 | cons x m ih =>
  intro fr tv
  unfold R39_0 R40_0
  rw [step_eq hV]
  by_cases e:(r105 h fr tv x).2.2=0
  ·rw [if_pos e,if_pos e,e]; exact ih _ _
  ·rw [if_neg e,if_neg e]; rfl
theorem walks_eq (h:Hs) (f t:Int) (l:List Stp):r39 h f t l=r40 h f t l:=by
 have e84:∀ b,r84 h b=if r59 h=0 then (if b=true then 0 else 1) else r59 h:=fun b=>by
  unfold r84 r59; rw [check_eq]
 have e104:r104 h f t=if r59 h=0 then (if r102 h f=true∧r88 t=true then 0 else 1) else r59 h:=by
  unfold r104
  by_cases h0:r59 h=0
  case neg=>rw [if_neg h0,if_neg h0]
  rw [if_pos h0,if_pos h0]
  by_cases h1:r102 h f=true
  case neg=>rw [if_neg (fun e=>h1 (r102_iff.2 (by have:=r71_iff.1 (show r71 f 0 ((h.rooms.length:Int) - 1)=true from e); omega))),if_neg (fun e=>h1 e.1)]
  have h1':=r102_iff.1 h1
  have h2:r122 h f=true:=r71_iff.2 (by omega)
  rw [if_pos h2]
  by_cases h3:r88 t=true
  ·rw [if_pos (r69_iff.2 (r88_iff.1 h3)),if_pos ⟨h1,h3⟩,h0]
  ·rw [if_neg (fun e=>h3 (r88_iff.2 (r69_iff.1 e))),if_neg (fun e=>h3 e.2)]
 unfold r39 r40
 rw [e104,e84,e84]
 by_cases h0:r59 h=0
 case neg =>
  simp only [if_neg h0]
  split<;>rfl
 simp only [if_pos h0]
 by_cases h1:r102 h f=true
 case neg =>
  have:¬ (r102 h f=true∧r88 t=true):=fun e=>h1 e.1
  simp only [if_neg h1,if_neg this,Bool.false_eq_true,if_false]
  rfl
 by_cases h2:r88 t=true
 case neg =>
  have:¬ (r102 h f=true∧r88 t=true):=fun e=>h2 e.2
  simp only [if_pos h1,if_neg h2,if_neg this]
  rfl
 simp only [if_pos h1,if_pos h2,if_pos (And.intro h1 h2),if_true]
 split
 ·rfl
 ·exact walk_eq h0 f t f t l l f t
end House
end Go.Proofs
