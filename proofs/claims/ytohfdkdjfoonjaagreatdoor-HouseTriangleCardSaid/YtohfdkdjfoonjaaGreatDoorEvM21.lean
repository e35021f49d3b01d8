import Derived.Test.YtohfdkdjfoonjaaGreatDoorBZ
import Derived.Test.YtohfdkdjfoonjaaGreatDoorBW
set_option linter.unusedSimpArgs false
set_option linter.unusedVariables false
namespace Go.Proofs
namespace House
open Go Go.RowKit Go.Aev
set_option maxRecDepth 100000
def unw (w:Wy):Wy:=⟨w.a,w.b,w.secs,w.back,-1⟩
def unp (p:Pg):Pg:=⟨p.way,p.back,p.fr,p.to,p.secs,-1⟩
def pl (h:Hs):Hs:=⟨h.rooms,[],h.ways.map unw⟩
theorem R23_1_pl (h:Hs) (i:Nat) (x:Rm):∀ (m j:Nat),R23_1 (pl h) i x m j=R23_1 h i x m j:=by
 intro m
 induction m with
 | zero=>intro j; rfl
 | succ m ih=>intro j; rw [R23_1,R23_1,ih]; rfl
theorem R23_0_pl (h:Hs):∀ (m:List Rm) (i:Nat),R23_0 (pl h) m i=R23_0 h m i:=by
 intro m
 induction m with
 | nil=>intro i; rfl
 | cons x m ih=>intro i; rw [R23_0,R23_0,R23_1_pl]; simp only [ih]
theorem R23_3_all (h:Hs):∀ (m:List Wy) (k:Nat),(∀ x ∈ m,r83 h x=true)→R23_3 h m k=.inr ():=by
 intro m
 induction m with
 | nil=>intro k _; rfl
 | cons y m ih=>intro k hm; rw [R23_3,if_pos (hm y (by simp))]; exact ih _ (fun x hx=>hm x (by simp [hx]))
theorem r83_unw {h:Hs} {x:Wy} (e:r83 h x=true):r83 (pl h) (unw x)=true:=by
 unfold r83 at e ⊢
 split at e
 case isFalse=>simp at e
 rename_i a1
 split at e
 case isFalse=>simp at e
 rename_i a2
 split at e
 ·simp at e
 rename_i a3
 split at e
 case isFalse=>simp at e
 rename_i a4
 split at e
 case isFalse=>simp at e
 rename_i a5
 have a1:r71 (unw x).a 0 (((pl h).rooms.length:Int) - 1)=true:=a1
 have a2:r71 (unw x).b 0 (((pl h).rooms.length:Int) - 1)=true:=a2
 have a3:¬ (unw x).a=(unw x).b:=a3
 have a4:r71 (unw x).secs 1 3600=true:=a4
 have a5:r71 (unw x).back 0 3600=true:=a5
 rw [if_pos a1,if_pos a2,if_neg a3,if_pos a4,if_pos a5]
 exact r71_iff.2 ⟨Int.le_refl _,by show (-1:Int)≤((0:Nat):Int) - 1; omega⟩
theorem pl_ok {h:Hs} (hV:r59 h=0):r59 (pl h)=0:=by
 have v:=valid_parts hV
 have e:=hV
 unfold r59 r23 at e ⊢
 have l1:((pl h).rooms.length:Int)=(h.rooms.length:Int):=rfl
 have l2:((pl h).doors.length:Int)=0:=rfl
 have l3:((pl h).ways.length:Int)=(h.ways.length:Int):=by show (((h.ways.map unw).length:Nat):Int)=_; rw [List.length_map]
 have r3:R23_3 (pl h) (pl h).ways 0=.inr ():=R23_3_all _ _ _ (fun x hx=>by
  obtain ⟨y,hy,rfl⟩:=List.mem_map.1 hx
  exact r83_unw (R23_3_ok h _ _ v.2.1 y hy))
 have r2:R23_2 (pl h) (pl h).doors 0=.inr ():=rfl
 have r0:R23_0 (pl h) (pl h).rooms 0=R23_0 h h.rooms 0:=R23_0_pl h _ _
 rw [l1,l2,l3,r0,r2,r3]
 rw [v.1,v.2.1] at e
 split at e
 ·simp at e
 rename_i g1
 split at e
 ·simp at e
 rename_i g2
 split at e
 ·simp at e
 split at e
 ·simp at e
 rename_i g4
 rw [if_neg g1,if_neg g2,if_neg (by omega),if_neg g4]
 exact e
theorem pgOf_pl (h:Hs) {k:Int} (b:Bool) (hk:0≤k∧k<(h.ways.length:Int)):pgOf (pl h) k b=unp (pgOf h k b)∧(r144 (pl h) k b).2=(r144 h k b).2:=by
 have e:lget (pl h).ways (Int.toNat k)=unw (lget h.ways (Int.toNat k)):=lget_map unw (by omega)
 unfold pgOf r144
 rw [e]
 cases b<;>exact ⟨rfl,rfl⟩
theorem pl_from {h:Hs} {p:Pg} (hp:p ∈ psg (pl h)):∃ q ∈ psg h,p=unp q:=by
 obtain ⟨w,b,h1,h2,h3,rfl⟩:=R148_mem (pl h) (pl h).ways 0 (by simp) p hp
 have hw:0≤w∧w<(h.ways.length:Int):=⟨h1,by have l3:(pl h).ways.length=h.ways.length:=List.length_map _; omega⟩
 have e:=pgOf_pl h b hw
 exact ⟨pgOf h w b,psg_mem hw (by rw [← e.2]; exact h3),e.1⟩
theorem pl_to {h:Hs} {p:Pg} (hp:p ∈ psg h):unp p ∈ psg (pl h):=by
 have q:=psg_way hp
 have e:=pgOf_pl h p.back q.1
 have l3:(pl h).ways.length=h.ways.length:=List.length_map _
 have ep:pgOf h p.way p.back=p:=by unfold pgOf; rw [q.2]
 rw [ep] at e
 rw [← e.1]
 exact psg_mem (by omega) (by rw [e.2,q.2])
theorem r145_un {p:Pg} {t:Int} {g:Hs} (hd:p.door = -1):r145 p t g=min (t+p.secs) 1073741824:=by
 unfold r145; rw [if_neg (by omega)]
theorem shift {h:Hs} (hV:r59 h=0) {a t:Int} (ha:0≤a∧a<(h.rooms.length:Int)) (ht:0≤t∧t≤1073741823) {i:Nat} (hi:i<h.rooms.length) :
  lget (r106 (pl h) a t) i=min (lget (r106 (pl h) a 0) i+t) 1073741824:=by
 have hP:=pl_ok hV
 have z:(0:Int)≤0∧(0:Int)≤1073741823:=by decide
 have door:∀ p ∈ psg (pl h),p.door = -1:=fun p hp=>by obtain ⟨q,_,rfl⟩:=pl_from hp; rfl
 have T:=r106_tm (fr:=a) hP ht
 have D:=r106_tm (fr:=a) hP z
 have len:(pl h).rooms.length=h.rooms.length:=rfl
 have bT:∀ j,j<h.rooms.length→0≤lget (r106 (pl h) a t) j∧lget (r106 (pl h) a t) j≤1073741824:=fun j hj=>T.at (lget_some (by rw [T.len]; exact hj))
 have bD:∀ j,j<h.rooms.length→0≤lget (r106 (pl h) a 0) j∧lget (r106 (pl h) a 0) j≤1073741824:=fun j hj=>D.at (lget_some (by rw [D.len]; exact hj))
 have A:=r106_least (h:=pl h) hP (fr:=a) (ti:=0) ha z (fun j=>lget (r106 (pl h) a t) j - t) (fun p hp s h1 h2=>by
  have ok:=psg_ok hP hp
  have of:=ok.f; have ot:=ok.t; have os:=ok.ok.s
  have c:=r106_closed hP (fr:=a) ht p hp
  rw [r145_un (door p hp)] at c ⊢
  have h1:lget (r106 (pl h) a t) p.fr.toNat - t≤s:=h1
  have b1:=bT p.fr.toNat (by omega); have b2:=bT p.to.toNat (by omega)
  show lget (r106 (pl h) a t) p.to.toNat - t≤_
  by_cases g:lget (r106 (pl h) a t) p.fr.toNat≤1073741823
  ·have c:=c g; omega
  ·omega) (by have:=r106_start hP (fr:=a) ha ht; show lget (r106 (pl h) a t) a.toNat - t≤0; omega) (fun j hj=>by have:=bT j hj; show lget (r106 (pl h) a t) j - t≤_; omega) i hi
 have B:=r106_least (h:=pl h) hP (fr:=a) (ti:=t) ha ht (fun j=>min (lget (r106 (pl h) a 0) j+t) 1073741824) (fun p hp s h1 h2=>by
  have ok:=psg_ok hP hp
  have of:=ok.f; have ot:=ok.t; have os:=ok.ok.s
  have c:=r106_closed hP (fr:=a) z p hp
  rw [r145_un (door p hp)] at c ⊢
  have h1:min (lget (r106 (pl h) a 0) p.fr.toNat+t) 1073741824≤s:=h1
  have c:=c (by omega)
  show min (lget (r106 (pl h) a 0) p.to.toNat+t) 1073741824≤_
  omega) (by have:=r106_start hP (fr:=a) ha z; show min (lget (r106 (pl h) a 0) a.toNat+t) 1073741824≤t; omega) (fun j hj=>by show min (lget (r106 (pl h) a 0) j+t) 1073741824≤_; omega) i hi
 have A:lget (r106 (pl h) a t) i - t≤lget (r106 (pl h) a 0) i:=A
 have B:min (lget (r106 (pl h) a 0) i+t) 1073741824≤lget (r106 (pl h) a t) i:=B
 have b:=bT i hi
 omega
theorem short {h:Hs} (hV:r59 h=0) {a:Int} (ha:0≤a∧a<(h.rooms.length:Int)) {i:Nat} (hi:i<h.rooms.length) (hm:lget (r106 (pl h) a 0) i≤1073741823):lget (r106 (pl h) a 0) i≤86400:=by
 have hP:=pl_ok hV
 have z:(0:Int)≤0∧(0:Int)≤1073741823:=by decide
 have v:=(valid_parts hV).2.2.1
 obtain ⟨rk,hT⟩:=trees (pl h) a 0
 have T:=hT hP ha z
 have key:∀ (n:Nat) (j:Nat),j<h.rooms.length→rk j≤n→lget (r106 (pl h) a 0) j≤1073741823→lget (r106 (pl h) a 0) j≤3600 * (n:Int):=by
  intro n
  induction n with
  | zero =>
   intro j hj hr hm
   by_cases e:j=a.toNat
   ·subst e; have:=T.st; show lget (r114 (pl h) a 0).1.1 a.toNat≤_; omega
   ·obtain ⟨k,p,e1,e2,e3,e4,e5,e6⟩:=T.ed j hj e hm
    omega
  | succ n ih =>
   intro j hj hr hm
   by_cases e:j=a.toNat
   ·subst e; have:=T.st; show lget (r114 (pl h) a 0).1.1 a.toNat≤_; omega
   ·obtain ⟨k,p,e1,e2,e3,e4,e5,e6⟩:=T.ed j hj e hm
    have hp:p ∈ psg (pl h):=List.mem_of_getElem? e2
    have ok:=psg_ok hP hp
    have of:=ok.f; have os:=ok.ok.s
    have len:(pl h).rooms.length=h.rooms.length:=rfl
    have c:=ih p.fr.toNat (by omega) (by omega) e5
    have hd:p.door = -1:=by obtain ⟨q,_,rfl⟩:=pl_from hp; rfl
    have e4:lget (r106 (pl h) a 0) j=r145 p (lget (r106 (pl h) a 0) p.fr.toNat) (pl h):=e4
    rw [r145_un hd] at e4
    omega
 have hr:=T.rl i hi hm
 have hr:rk i<h.rooms.length:=hr
 have:=key (rk i) i hi (Nat.le_refl _) hm
 omega
theorem triangle {h:Hs} (hV:r59 h=0) {a b:Int} (ha:0≤a∧a<(h.rooms.length:Int)) (hb:0≤b∧b<(h.rooms.length:Int)) {i:Nat} (hi:i<h.rooms.length) (h1:lget (r106 (pl h) a 0) b.toNat≤1073741823) (h2:lget (r106 (pl h) b 0) i≤1073741823) :
  lget (r106 (pl h) a 0) i≤lget (r106 (pl h) a 0) b.toNat+lget (r106 (pl h) b 0) i∧lget (r106 (pl h) a 0) i≤1073741823:=by
 have hP:=pl_ok hV
 have z:(0:Int)≤0∧(0:Int)≤1073741823:=by decide
 have D:=r106_tm (fr:=a) hP z
 have len:(pl h).rooms.length=h.rooms.length:=rfl
 have bD:∀ j,j<h.rooms.length→0≤lget (r106 (pl h) a 0) j∧lget (r106 (pl h) a 0) j≤1073741824:=fun j hj=>D.at (lget_some (by rw [D.len]; exact hj))
 have b0:=bD b.toNat (by omega)
 have A:=r106_least (h:=pl h) hP (fr:=b) (ti:=lget (r106 (pl h) a 0) b.toNat) hb ⟨b0.1,h1⟩ (fun j=>lget (r106 (pl h) a 0) j) (fun p hp s q1 q2=>by
  have ok:=psg_ok hP hp
  have c:=r106_closed hP (fr:=a) z p hp
  have hd:p.door = -1:=by obtain ⟨q,_,rfl⟩:=pl_from hp; rfl
  rw [r145_un hd] at c ⊢
  have q1:lget (r106 (pl h) a 0) p.fr.toNat≤s:=q1
  have c:=c (by omega)
  show lget (r106 (pl h) a 0) p.to.toNat≤_
  omega) (Int.le_refl _) (fun j hj=>(bD j hj).2) i hi
 have A:lget (r106 (pl h) a 0) i≤lget (r106 (pl h) b (lget (r106 (pl h) a 0) b.toNat)) i:=A
 rw [shift hV hb ⟨b0.1,h1⟩ hi] at A
 have s1:=short hV ha (by omega) h1
 have s2:=short hV hb hi h2
 omega
theorem doors_slow {h:Hs} (hV:r59 h=0) {a t:Int} (ha:0≤a∧a<(h.rooms.length:Int)) (ht:0≤t∧t≤1073741823) {i:Nat} (hi:i<h.rooms.length):lget (r106 (pl h) a t) i≤lget (r106 h a t) i:=by
 have hP:=pl_ok hV
 have T:=r106_tm (fr:=a) hP ht
 have bT:∀ j,j<h.rooms.length→0≤lget (r106 (pl h) a t) j∧lget (r106 (pl h) a t) j≤1073741824:=fun j hj=>T.at (lget_some (by rw [T.len]; exact hj))
 exact r106_least hV (fr:=a) (ti:=t) ha ht (fun j=>lget (r106 (pl h) a t) j) (fun p hp s h1 h2=>by
  have c:=r106_closed hP (fr:=a) ht (unp p) (pl_to hp)
  rw [r145_un (show (unp p).door = -1 from rfl)] at c
  have h1:lget (r106 (pl h) a t) p.fr.toNat≤s:=h1
  have c:lget (r106 (pl h) a t) p.to.toNat≤min (lget (r106 (pl h) a t) p.fr.toNat+p.secs) 1073741824:=c (show lget (r106 (pl h) a t) p.fr.toNat≤1073741823 by omega)
  have ok:=(psg_ok hV hp).ok
  show lget (r106 (pl h) a t) p.to.toNat≤_
  unfold r145
  split
  ·rename_i hd
   have:=r89_ge (oko hV (List.mem_of_getElem? (lget_some (l:=h.doors) (i:=Int.toNat p.door) (by have:=ok.d; omega)))) h2
   omega
  ·omega) (r106_start hP ha ht) (fun j hj=>(bT j hj).2) i hi
end House
end Go.Proofs
