import Derived.Test.YtohfdkdjfoonjaaGreatDoorEvH46
section
set_option linter.unusedSimpArgs false
set_option linter.unusedVariables false
namespace Go.Proofs
namespace House
open Go Go.RowKit Go.Aev
set_option maxRecDepth 100000
def jn (q:List Sp × List Sp × Int × Int):List Sp:=q.1++((⟨q.2.2.1,q.2.2.2⟩:Sp) :: q.2.1)
theorem R151_flat (ll:List (List Sp)):∀ (m:List (List Sp)) (acc:List Sp),R151_1 ll m acc=acc++m.flatten:=by
 intro m
 induction m with
 | nil=>intro acc; simp [R151_1]
 | cons x m ih=>intro acc; rw [R151_1,ih,List.flatten_cons,List.append_assoc]
theorem r123_jn (l:List Sp) (a b:Int):r123 l a b=jn (R123_0 l a b l [] [] a b):=by
 unfold r123 r151 jn
 rw [R151_flat]
 simp
theorem in_app {a b:List Sp} {t:Int}:In (a++b) t↔In a t∨In b t:=by
 unfold In
 constructor
 ·rintro ⟨x,hx,h⟩
  rcases List.mem_append.1 hx with k|k
  ·exact .inl ⟨x,k,h⟩
  ·exact .inr ⟨x,k,h⟩
 ·rintro (⟨x,hx,h⟩|⟨x,hx,h⟩)
  ·exact ⟨x,List.mem_append.2 (.inl hx),h⟩
  ·exact ⟨x,List.mem_append.2 (.inr hx),h⟩
theorem in_cons {x:Sp} {b:List Sp} {t:Int}:In (x :: b) t↔(x.lo≤t∧t≤x.hi)∨In b t:=by
 unfold In
 constructor
 ·rintro ⟨y,hy,h⟩
  rcases List.mem_cons.1 hy with rfl|k
  ·exact .inl h
  ·exact .inr ⟨y,k,h⟩
 ·rintro (h|⟨y,hy,h⟩)
  ·exact ⟨x,by simp,h⟩
  ·exact ⟨y,List.mem_cons.2 (.inr hy),h⟩
theorem in_nil {t:Int}:¬ In [] t:=fun ⟨x,hx,_⟩=>by simp at hx
theorem R123_ok (l:List Sp) (slo shi:Int):∀ (m bf bh:List Sp) (ulo uhi:Int),Bd 1073741823 m→Ord m→Bd 1073741823 bf→Ord bf→Bd 1073741823 bh→Ord bh→0≤ulo→ulo≤uhi→uhi≤1073741823 →
  (∀ x ∈ bf,x.hi+1<ulo)→(∀ y ∈ bh,uhi+1<y.lo)→(∀ x ∈ bf,∀ z ∈ m,x.hi+1<z.lo)→(∀ y ∈ bh,∀ z ∈ m,y.hi+1<z.lo) →
  Bd 1073741823 (jn (R123_0 l slo shi m bf bh ulo uhi))∧Ord (jn (R123_0 l slo shi m bf bh ulo uhi))∧∀ t,In (jn (R123_0 l slo shi m bf bh ulo uhi)) t↔(In bf t∨(ulo≤t∧t≤uhi)∨In bh t∨In m t):=by
 intro m
 induction m with
 | nil =>
  intro bf bh ulo uhi _ _ b1 o1 b2 o2 u0 u1 u2 f1 f2 _ _
  unfold R123_0 jn
  refine ⟨fun x hx=>?_,?_,fun t=>?_⟩
  ·rcases List.mem_append.1 hx with h|h
   ·exact b1 x h
   ·rcases List.mem_cons.1 h with rfl|h
    ·exact ⟨u0,u1,u2⟩
    ·exact b2 x h
  ·refine List.pairwise_append.2 ⟨o1,List.pairwise_cons.2 ⟨f2,o2⟩,fun x hx y hy=>?_⟩
   have k:=f1 x hx
   rcases List.mem_cons.1 hy with rfl|h
   ·exact k
   ·have:=f2 y h; omega
  ·rw [in_app,in_cons]
   have:=in_nil (t:=t)
   constructor
   ·rintro (h|h|h)
    ·exact .inl h
    ·exact .inr (.inl h)
    ·exact .inr (.inr (.inl h))
   ·rintro (h|h|h|h)
    ·exact .inl h
    ·exact .inr (.inl h)
    ·exact .inr (.inr h)
    ·exact absurd h this
 | cons x m ih =>
  intro bf bh ulo uhi bm om b1 o1 b2 o2 u0 u1 u2 f1 f2 f3 f4
  obtain ⟨om1,om2⟩:=List.pairwise_cons.1 om
  have bx:=bm x (by simp)
  have bm':Bd 1073741823 m:=fun y hy=>bm y (List.mem_cons.2 (.inr hy))
  unfold R123_0
  split
  ·rename_i h1
   obtain ⟨k1,k2,k3⟩:=ih (bf++[(⟨x.lo,x.hi⟩:Sp)]) bh ulo uhi bm' om2 (fun y hy=>by
     rcases List.mem_append.1 hy with h|h
     ·exact b1 y h
     ·rw [List.mem_singleton.1 h]; exact bx) (List.pairwise_append.2 ⟨o1,List.pairwise_singleton _ _,fun y hy z hz=>by rw [List.mem_singleton.1 hz]; exact f3 y hy x (by simp)⟩) b2 o2 u0 u1 u2 (fun y hy=>by
     rcases List.mem_append.1 hy with h|h
     ·exact f1 y h
     ·rw [List.mem_singleton.1 h]; exact h1) f2 (fun y hy z hz=>by
     rcases List.mem_append.1 hy with h|h
     ·exact f3 y h z (List.mem_cons.2 (.inr hz))
     ·rw [List.mem_singleton.1 h]; exact om1 z hz) (fun y hy z hz=>f4 y hy z (List.mem_cons.2 (.inr hz)))
   refine ⟨k1,k2,fun t=>?_⟩
   rw [k3,in_app,in_cons,in_cons]
   have:=in_nil (t:=t)
   constructor
   ·rintro ((h|h|h)|h|h|h)
    ·exact .inl h
    ·exact .inr (.inr (.inr (.inl h)))
    ·exact absurd h this
    ·exact .inr (.inl h)
    ·exact .inr (.inr (.inl h))
    ·exact .inr (.inr (.inr (.inr h)))
   ·rintro (h|h|h|h|h)
    ·exact .inl (.inl h)
    ·exact .inr (.inl h)
    ·exact .inr (.inr (.inl h))
    ·exact .inl (.inr (.inl h))
    ·exact .inr (.inr (.inr h))
  ·rename_i h1
   split
   ·rename_i h2
    obtain ⟨k1,k2,k3⟩:=ih bf (bh++[(⟨x.lo,x.hi⟩:Sp)]) ulo uhi bm' om2 b1 o1 (fun y hy=>by
      rcases List.mem_append.1 hy with h|h
      ·exact b2 y h
      ·rw [List.mem_singleton.1 h]; exact bx) (List.pairwise_append.2 ⟨o2,List.pairwise_singleton _ _,fun y hy z hz=>by rw [List.mem_singleton.1 hz]; exact f4 y hy x (by simp)⟩) u0 u1 u2 f1 (fun y hy=>by
      rcases List.mem_append.1 hy with h|h
      ·exact f2 y h
      ·rw [List.mem_singleton.1 h]; exact h2) (fun y hy z hz=>f3 y hy z (List.mem_cons.2 (.inr hz))) (fun y hy z hz=>by
      rcases List.mem_append.1 hy with h|h
      ·exact f4 y h z (List.mem_cons.2 (.inr hz))
      ·rw [List.mem_singleton.1 h]; exact om1 z hz)
    refine ⟨k1,k2,fun t=>?_⟩
    rw [k3,in_app,in_cons,in_cons]
    have:=in_nil (t:=t)
    constructor
    ·rintro (h|h|(h|h|h)|h)
     ·exact .inl h
     ·exact .inr (.inl h)
     ·exact .inr (.inr (.inl h))
     ·exact .inr (.inr (.inr (.inl h)))
     ·exact absurd h this
     ·exact .inr (.inr (.inr (.inr h)))
    ·rintro (h|h|h|h|h)
     ·exact .inl h
     ·exact .inr (.inl h)
     ·exact .inr (.inr (.inl (.inl h)))
     ·exact .inr (.inr (.inl (.inr (.inl h))))
     ·exact .inr (.inr (.inr h))
   ·rename_i h2
    have nb:∀ y ∈ bh,False:=fun y hy=>by
     have a1:=f2 y hy; have a2:=f4 y hy x (by simp); have a3:=b2 y hy
     omega
    obtain ⟨k1,k2,k3⟩:=ih bf bh (min ulo x.lo) (max uhi x.hi) bm' om2 b1 o1 b2 o2 (by omega) (by omega) (by omega) (fun y hy=>by
      have a1:=f1 y hy; have a2:=f3 y hy x (by simp); omega) (fun y hy=>(nb y hy).elim) (fun y hy z hz=>f3 y hy z (List.mem_cons.2 (.inr hz))) (fun y hy=>(nb y hy).elim)
    refine ⟨k1,k2,fun t=>?_⟩
    rw [k3,in_cons]
    have e:(min ulo x.lo≤t∧t≤max uhi x.hi)↔((ulo≤t∧t≤uhi)∨(x.lo≤t∧t≤x.hi)):=by omega
    rw [e]
    constructor
    ·rintro (h|(h|h)|h|h)
     ·exact .inl h
     ·exact .inr (.inl h)
     ·exact .inr (.inr (.inr (.inl h)))
     ·exact .inr (.inr (.inl h))
     ·exact .inr (.inr (.inr (.inr h)))
    ·rintro (h|h|h|h|h)
     ·exact .inl h
     ·exact .inr (.inl (.inl h))
     ·exact .inr (.inr (.inl h))
     ·exact .inr (.inl (.inr h))
     ·exact .inr (.inr (.inr h))
theorem r123_ok {l:List Sp} {a b:Int} (hb:Bd 1073741823 l) (ho:Ord l) (hs:0≤a∧a≤b∧b≤1073741823):Bd 1073741823 (r123 l a b)∧Ord (r123 l a b)∧∀ t,In (r123 l a b) t↔(In l t∨(a≤t∧t≤b)):=by
 rw [r123_jn]
 obtain ⟨k1,k2,k3⟩:=R123_ok l a b l [] [] a b hb ho (fun x hx=>by simp at hx) .nil (fun x hx=>by simp at hx) .nil hs.1 hs.2.1 hs.2.2 (fun x hx=>by simp at hx) (fun x hx=>by simp at hx) (fun x hx=>by simp at hx) (fun x hx=>by simp at hx)
 refine ⟨k1,k2,fun t=>?_⟩
 rw [k3]
 have:=in_nil (t:=t)
 constructor
 ·rintro (h|h|h|h)
  ·exact absurd h this
  ·exact .inr h
  ·exact absurd h this
  ·exact .inl h
 ·rintro (h|h)
  ·exact .inr (.inr (.inr h))
  ·exact .inr (.inl h)
def hw (h:Hs) (D:List Dr):Hs:=⟨h.rooms,D,h.ways⟩
theorem R23_1_hw (h:Hs) (D:List Dr) (i:Nat) (x:Rm):∀ (m j:Nat),R23_1 (hw h D) i x m j=R23_1 h i x m j:=by
 intro m
 induction m with
 | zero=>intro j; rfl
 | succ m ih=>intro j; rw [R23_1,R23_1,ih]; rfl
theorem R23_0_hw (h:Hs) (D:List Dr):∀ (m:List Rm) (i:Nat),R23_0 (hw h D) m i=R23_0 h m i:=by
 intro m
 induction m with
 | nil=>intro i; rfl
 | cons x m ih=>intro i; rw [R23_0,R23_0,R23_1_hw]; simp only [ih]
theorem R23_3_hw (h:Hs) (D:List Dr) (hl:D.length=h.doors.length):∀ (m:List Wy) (i:Nat),R23_3 (hw h D) m i=R23_3 h m i:=by
 intro m
 induction m with
 | nil=>intro i; rfl
 | cons x m ih =>
  intro i
  have e:r83 (hw h D) x=r83 h x:=by unfold r83; show (if (r71 x.a 0 ((h.rooms.length:Int) - 1))=true then _ else _)=_; rw [show ((hw h D).doors.length:Int)=(h.doors.length:Int) from by show (D.length:Int)=_; rw [hl]]; rfl
  rw [R23_3,R23_3,e,ih]
theorem R23_2_all (h:Hs):∀ (m:List Dr) (k:Nat),(∀ x ∈ m,r82 x.hours 86399=true∧r82 x.shut 1073741823=true)→R23_2 h m k=.inr ():=by
 intro m
 induction m with
 | nil=>intro k _; rfl
 | cons y m ih=>intro k hm; rw [R23_2,if_pos (hm y (by simp)).1,if_pos (hm y (by simp)).2]; exact ih _ (fun x hx=>hm x (by simp [hx]))
theorem R82_of (l:List Sp) (n:Int) (hn:n≤1073741823):∀ (m:List Sp) (k:Nat),l.drop k=m→Bd n m→Ord m→(0<k→(lget l (k - 1)).hi≤n∧0≤(lget l (k - 1)).hi∧∀ y ∈ m,(lget l (k - 1)).hi+1<y.lo)→R82_0 l n m k=.inr ():=by
 intro m
 induction m with
 | nil=>intro k _ _ _ _; rfl
 | cons x m ih =>
  intro k hd hb ho hk
  obtain ⟨d1,d2,d3⟩:=drop_lget hd
  obtain ⟨o1,o2⟩:=List.pairwise_cons.1 ho
  have hx:=hb x (by simp)
  have hb':Bd n m:=fun y hy=>hb y (List.mem_cons.2 (.inr hy))
  have ih':=ih (k+1) d2 hb' o2 (fun _=>by rw [show k+1 - 1=k by omega,d1]; exact ⟨by omega,by omega,o1⟩)
  rw [R82_0,if_neg (by omega),if_pos (r71_iff.2 (by omega)),if_pos (r71_iff.2 (by omega)),ih']
  by_cases h0:0<(k:Int)
  ·obtain ⟨q1,q2,q3⟩:=hk (by omega)
   have:=q3 x (by simp)
   rw [if_pos h0,wr64 (by omega),if_neg (by omega)]
  ·rw [if_neg h0]
theorem r82_of {l:List Sp} {n:Int} (hn:n≤1073741823) (hl:l.length≤8) (hb:Bd n l) (ho:Ord l):r82 l n=true:=by
 unfold r82
 rw [if_neg (by omega),R82_of l n hn l 0 rfl hb ho (fun h=>by omega)]
 rfl
structure Shutted (h g:Hs) (d a b:Int):Prop where
 dr:0≤d∧d<(h.doors.length:Int)
 sp:0≤a∧a≤b∧b≤1073741823
 le:(r123 (lget h.doors d.toNat).shut a b).length≤8
 eq:g=hw h (h.doors.set d.toNat ⟨(lget h.doors d.toNat).hours,r123 (lget h.doors d.toNat).shut a b⟩)
theorem r65_ok {h:Hs} {d a b:Int} (e:(r65 h d a b).2=0):r59 h=0∧Shutted h (r65 h d a b).1 d a b:=by
 unfold r65 at e ⊢
 by_cases h1:r87 h d=true
 case neg=>rw [if_neg h1] at e; exact absurd (r84_ok e).2 (by simp)
 rw [if_pos h1] at e ⊢
 by_cases h2:r84 h (r93 a b)=0
 case neg=>rw [if_neg h2] at e; exact absurd e h2
 rw [if_pos h2] at e ⊢
 by_cases h3:8<((r123 ((lget h.doors (Int.toNat d)).shut:List Sp) a b).length:Int)
 ·rw [if_pos h3] at e; simp at e
 rw [if_neg h3]
 have q:=r84_ok h2
 have s:=r93_iff.1 q.2
 exact ⟨q.1,r87_iff.1 h1,⟨s.2.1,s.1,s.2.2⟩,by omega,rfl⟩
theorem sh_door {h g:Hs} {d a b:Int} (H:Shutted h g d a b) (k:Nat) (hk:k<h.doors.length):lget g.doors k=if k=d.toNat then ⟨(lget h.doors d.toNat).hours,r123 (lget h.doors d.toNat).shut a b⟩ else lget h.doors k:=by
 rw [H.eq]
 show lget (h.doors.set d.toNat _) k=_
 unfold lget
 rw [List.getD_eq_getElem?_getD,List.getD_eq_getElem?_getD,List.getElem?_set]
 by_cases e:d.toNat=k
 ·rw [if_pos e,if_pos (by omega),if_pos e.symm]; rfl
 ·rw [if_neg e,if_neg (fun q=>e q.symm),List.getD_eq_getElem?_getD]
theorem sh_ok {h g:Hs} {d a b:Int} (hV:r59 h=0) (H:Shutted h g d a b):r59 g=0:=by
 have v:=valid_parts hV
 have hd:=H.dr
 have O:=oko hV (List.mem_of_getElem? (lget_some (l:=h.doors) (i:=d.toNat) (by omega)))
 have J:=r123_ok O.o.s O.s H.sp
 have hl:(h.doors.set d.toNat ⟨(lget h.doors d.toNat).hours,r123 (lget h.doors d.toNat).shut a b⟩).length=h.doors.length:=List.length_set
 have o:=R23_2_ok h _ _ v.1
 have r2:∀ k,R23_2 k (h.doors.set d.toNat ⟨(lget h.doors d.toNat).hours,r123 (lget h.doors d.toNat).shut a b⟩) 0=.inr ():=fun k=>R23_2_all _ _ _ (fun x hx=>by
  rcases List.mem_or_eq_of_mem_set hx with q|q
  ·exact o x q
  ·subst q
   exact ⟨(o _ (List.mem_of_getElem? (lget_some (l:=h.doors) (i:=d.toNat) (by omega)))).1,r82_of (Int.le_refl _) H.le J.1 J.2.1⟩)
 have e:=hV
 rw [H.eq]
 generalize hD:h.doors.set d.toNat ⟨(lget h.doors d.toNat).hours,r123 (lget h.doors d.toNat).shut a b⟩=D at *
 unfold r59 r23 at e ⊢
 rw [show ((hw h D).rooms.length:Int)=(h.rooms.length:Int) from rfl,show ((hw h D).doors.length:Int)=(h.doors.length:Int) from by show (D.length:Int)=_; rw [hl],show ((hw h D).ways.length:Int)=(h.ways.length:Int) from rfl,
  show R23_0 (hw h D) (hw h D).rooms 0=R23_0 h h.rooms 0 from R23_0_hw h D _ _,show R23_2 (hw h D) (hw h D).doors 0=R23_2 h h.doors 0 from by rw [v.1]; exact r2 _,show R23_3 (hw h D) (hw h D).ways 0=R23_3 h h.ways 0 from R23_3_hw h D hl _ _]
 exact e
theorem R148_hw (rooms:List Rm) (D E:List Dr) (ways:List Wy):∀ (m:List Wy) (k:Nat),R148_0 rooms D ways m k=R148_0 rooms E ways m k:=by
 intro m
 induction m with
 | nil=>intro k; rfl
 | cons x m ih=>intro k; rw [R148_0,R148_0,ih]; rfl
theorem sh_psg {h g:Hs} {d a b:Int} (H:Shutted h g d a b):psg g=psg h:=by
 rw [H.eq]; exact R148_hw _ _ _ _ _ _
theorem sh_op {h g:Hs} {d a b:Int} (hV:r59 h=0) (H:Shutted h g d a b) {k:Nat} (hk:k<h.doors.length) {t:Int} (ht:0≤t):Op (lget g.doors k) t↔(Op (lget h.doors k) t∧¬ (k=d.toNat∧a≤t∧t≤b)):=by
 rw [sh_door H k hk]
 have hd:=H.dr
 have O:=oko hV (List.mem_of_getElem? (lget_some (l:=h.doors) (i:=d.toNat) (by omega)))
 have J:=r123_ok O.o.s O.s H.sp
 by_cases e:k=d.toNat
 ·subst e
  rw [if_pos rfl,op_iff ht,op_iff ht]
  show (In _ _∧¬ In (r123 (lget h.doors d.toNat).shut a b) t)↔_
  rw [J.2.2]
  constructor
  ·rintro ⟨h1,h2⟩; exact ⟨⟨h1,fun q=>h2 (.inl q)⟩,fun q=>h2 (.inr q.2)⟩
  ·rintro ⟨⟨h1,h2⟩,h3⟩; exact ⟨h1,fun q=>q.elim h2 (fun q=>h3 ⟨rfl,q⟩)⟩
 ·rw [if_neg e]
  constructor
  ·intro q; exact ⟨q,fun z=>e z.1⟩
  ·intro q; exact q.1
end House
end Go.Proofs
end
section
set_option linter.unusedSimpArgs false
set_option linter.unusedVariables false
namespace Go.Proofs
namespace House
open Go Go.RowKit Go.Aev
set_option maxRecDepth 100000
theorem Nx.sub {d e:Dr} {t r q:Int} (ht:0≤t) (hs:∀ n,0≤n→Op e n→Op d n) (h:Nx d t r) (k:Nx e t q):r≤q:=by
 rcases h with ⟨h1,h2⟩|⟨h1,h2,h3,h4⟩<;>rcases k with ⟨k1,k2⟩|⟨k1,k2,k3,k4⟩
 ·omega
 ·exact absurd (hs q (by omega) k3) (h2 q k1 k2)
 ·omega
 ·exact Int.not_lt.1 fun g=>h4 q k1 g (hs q (by omega) k3)
theorem Lx.sub {d e:Dr} {t r q:Int} (hs:∀ n,0≤n→Op e n→Op d n) (h:Lx d t r) (k:Lx e t q):q≤r:=by
 rcases h with ⟨h1,h2⟩|⟨h1,h2,h3,h4⟩<;>rcases k with ⟨k1,k2⟩|⟨k1,k2,k3,k4⟩
 ·omega
 ·exact absurd (hs q k1 k3) (h2 q k1 k2)
 ·omega
 ·exact Int.not_lt.1 fun g=>h4 q g k2 (hs q k1 k3)
theorem sh_less {h g:Hs} {d a b:Int} (hV:r59 h=0) (H:Shutted h g d a b) {k:Nat} (hk:k<h.doors.length):∀ n,0≤n→Op (lget g.doors k) n→Op (lget h.doors k) n:=fun n hn q=>((sh_op hV H hk hn).1 q).1
theorem sh_len {h g:Hs} {d a b:Int} (H:Shutted h g d a b):g.doors.length=h.doors.length∧g.rooms.length=h.rooms.length:=by
 rw [H.eq]; exact ⟨List.length_set,rfl⟩
theorem sh_oko {h g:Hs} {d a b:Int} (hV:r59 h=0) (H:Shutted h g d a b) {k:Nat} (hk:k<h.doors.length):OkO (lget h.doors k)∧OkO (lget g.doors k) :=
 ⟨oko hV (List.mem_of_getElem? (lget_some hk)),oko (sh_ok hV H) (List.mem_of_getElem? (lget_some (by rw [(sh_len H).1]; exact hk)))⟩
theorem r145_sh {h g:Hs} {d a b:Int} (hV:r59 h=0) (H:Shutted h g d a b) {p:Pg} (hP:OkP h p) {t:Int} (ht:0≤t):r145 p t h≤r145 p t g:=by
 have hd:=hP.d
 unfold r145
 by_cases h0:0≤p.door
 ·rw [if_pos h0,if_pos h0]
  have hk:Int.toNat p.door<h.doors.length:=by omega
  have o:=sh_oko hV H hk
  have:=Nx.sub ht (sh_less hV H hk) (r89_nx o.1 ht) (r89_nx o.2 ht)
  omega
 ·rw [if_neg h0,if_neg h0]; exact Int.le_refl _
theorem r146_sh {h g:Hs} {d a b:Int} (hV:r59 h=0) (H:Shutted h g d a b) {p:Pg} (hP:OkP h p) (t:Int):r146 p t g≤r146 p t h:=by
 have hd:=hP.d
 unfold r146
 by_cases h0:0≤p.door
 ·rw [if_pos h0,if_pos h0]
  have hk:Int.toNat p.door<h.doors.length:=by omega
  have o:=sh_oko hV H hk
  have:=Lx.sub (sh_less hV H hk) (r91_lx o.1 (t - p.secs)) (r91_lx o.2 (t - p.secs))
  omega
 ·rw [if_neg h0,if_neg h0]; exact Int.le_refl _
theorem sh_closed {h g:Hs} {d a b:Int} (hV:r59 h=0) (H:Shutted h g d a b) {l:List Int} (hl:l.length=h.rooms.length) (hr:∀ x ∈ l,0≤x∧x≤1073741824)
  (hc:∀ p ∈ psg h,lget l p.fr.toNat≤1073741823→lget l p.to.toNat≤r145 p (lget l p.fr.toNat) h):∀ p ∈ psg g,lget l p.fr.toNat≤1073741823→lget l p.to.toNat≤r145 p (lget l p.fr.toNat) g:=by
 intro p hp h1
 rw [sh_psg H] at hp
 have ok:=psg_ok hV hp
 have kf:=ok.f
 have h0:=hr _ (lget_mem' (l:=l) (i:=p.fr.toNat) (by omega))
 exact Int.le_trans (hc p hp h1) (r145_sh hV H ok.ok h0.1)
theorem sh_early {h g:Hs} {d a b:Int} (hV:r59 h=0) (H:Shutted h g d a b) {fr t:Int} (hf:0≤fr∧fr<(h.rooms.length:Int)) (ht:0≤t∧t≤1073741823):∀ i,i<h.rooms.length→lget (r106 h fr t) i≤lget (r106 g fr t) i:=by
 have T:=r106_tm (fr:=fr) hV ht
 have e:=(sh_len H).2
 intro i hi
 exact wall_least (sh_ok hV H) (by rw [e]; exact hf) ht (by rw [e]; exact T.len) T.all (r106_start hV hf ht) (sh_closed hV H T.len T.all (r106_closed hV ht)) i (by rw [e]; exact hi)
theorem sh_late {h g:Hs} {d a b:Int} (hV:r59 h=0) (H:Shutted h g d a b) {fr t:Int} (hf:0≤fr∧fr<(h.rooms.length:Int)) (ht:0≤t∧t≤1073741823):∀ i,i<h.rooms.length→lget (r112 g fr t) i≤lget (r112 h fr t) i:=by
 have D:=r112_dm (fr:=fr) hV ht
 have hl:=D.len
 have e:=(sh_len H).2
 have bd:∀ i,-1≤lget (r112 h fr t) i:=fun i=>by
  by_cases hi:i<h.rooms.length
  ·exact (D.all _ (lget_mem' (l:=r112 h fr t) (i:=i) (by omega))).1
  ·unfold lget; rw [List.getD_eq_getElem?_getD,List.getElem?_eq_none (by omega)]; decide
 intro i hi
 refine r112_least (sh_ok hV H) (by rw [e]; exact hf) ht (fun j=>lget (r112 h fr t) j) (fun p hp s h1 h2=>?_) (r112_start hV hf ht) bd i (by rw [e]; exact hi)
 rw [sh_psg H] at hp
 have ok:=psg_ok hV hp
 have h1:s≤lget (r112 h fr t) p.to.toNat:=h1
 have c:=r112_closed (fr:=fr) hV ht p hp (by omega)
 have m:=r146_mono ok.ok h1
 have k:=r146_sh hV H ok.ok s
 show r146 p s g≤lget (r112 h fr t) p.fr.toNat
 omega
theorem sh_wall {h g:Hs} {d a b:Int} (hV:r59 h=0) (H:Shutted h g d a b) {x tx y ty:Int} {l:List Int} (hx:0≤x∧x<(h.rooms.length:Int)) (htx:0≤tx∧tx≤1073741823) (hy:0≤y∧y<(h.rooms.length:Int)) (hty:0≤ty∧ty≤1073741823) (hw:r52 h x tx y ty l=0):r52 g x tx y ty l=0:=by
 obtain ⟨q1,q2,q3,q4,q5⟩:=wall_le hV hx htx hy hty hw
 have e:=(sh_len H).2
 have v:=sh_ok hV H
 have e49:r49 g x tx y ty=0:=by rw [← two_eq]; exact r113_val v (by rw [e]; exact hx) htx (by rw [e]; exact hy) hty
 rw [wall_eq]; unfold r53
 rw [if_pos e49,if_pos (is_wall v ⟨by rw [e]; exact q1,q2⟩ q3 q4 (sh_closed hV H q1 q2 q5))]
theorem r26_val {h:Hs} (hV:r59 h=0) {d t:Int} (hd:0≤d∧d<(h.doors.length:Int)) (ht:0≤t∧t≤1073741823):(r26 h d t).2=0∧((r26 h d t).1=true↔Op (lget h.doors d.toNat) t):=by
 have e:r28 h d t=(r89 (lget h.doors d.toNat) t,0):=by
  unfold r28
  rw [if_pos (r87_iff.2 hd),r84_eq,if_pos hV,if_pos (r88_iff.2 ht),if_pos rfl]
 have n:=r89_nx (oko hV (List.mem_of_getElem? (lget_some (l:=h.doors) (i:=d.toNat) (by omega)))) ht.1
 have f:r26 h d t=(decide (r89 (lget h.doors d.toNat) t=t),0):=by
  unfold r26
  rw [e]
  exact if_pos rfl
 rw [f]
 simp only [decide_eq_true_eq]
 refine ⟨trivial,?_⟩
 rcases n with ⟨n1,n2⟩|⟨n1,n2,n3,n4⟩
 ·constructor
  ·intro q; omega
  ·intro q; exact absurd q (n2 t (Int.le_refl _) ht.2)
 ·constructor
  ·intro q; rw [q] at n3; exact n3
  ·intro q
   have:¬ t<r89 (lget h.doors d.toNat) t:=fun g=>n4 t (Int.le_refl _) g q
   omega
theorem r65_bad {h:Hs} {d a b:Int} (e:¬ (r65 h d a b).2=0):(r65 h d a b).1=⟨[],[],[]⟩:=by
 unfold r65 at e ⊢
 split
 ·rename_i h1
  rw [if_pos h1] at e
  split
  ·rename_i h2
   rw [if_pos h2] at e
   split
   ·rfl
   ·rename_i h3
    rw [if_neg h3] at e
    exact absurd rfl e
  ·rfl
 ·rfl
theorem R18_0_ok (h:Hs) (door slo shi a ta b tb tc:Int) (l:List Int) (L:List Int)
  (hk:∀ k,k<L.length→¬ ((lget ((r41 ((r65 h (r70 door (h.doors.length:Int)) slo shi).1) (r70 a (h.rooms.length:Int)) ta).1) k<lget L k)∨((lget ((r43 h (r70 b (h.rooms.length:Int)) tb).1) k)<(lget ((r43 ((r65 h (r70 door (h.doors.length:Int)) slo shi).1) (r70 b (h.rooms.length:Int)) tb).1) k)))) :
  ∀ (m:List Int) (k:Nat),L.drop k=m→R18_0 h door slo shi a ta b tb tc l m k=.inr ():=by
 intro m
 induction m with
 | nil=>intro k _; rfl
 | cons x m ih =>
  intro k hd
  obtain ⟨d1,d2,d3⟩:=drop_lget hd
  rw [R18_0,if_neg (by rw [← d1]; exact hk k d3)]
  exact ih (k+1) d2
theorem r18_true (h:Hs) (door slo shi a ta b tb tc:Int) (l:List Int):r18 h door slo shi a ta b tb tc l=true:=by
 unfold r18
 split
 ·rfl
 rename_i w
 have c1:r68 h=true:=Decidable.byContradiction fun q=>w (.inl q)
 have c2:¬ (h.doors.length:Int)=0:=fun q=>w (.inr (.inl q))
 have c3:r69 ta=true:=Decidable.byContradiction fun q=>w (.inr (.inr (.inl q)))
 have c4:r69 tb=true:=Decidable.byContradiction fun q=>w (.inr (.inr (.inr (.inl q))))
 have c5:r69 tc=true:=Decidable.byContradiction fun q=>w (.inr (.inr (.inr (.inr (.inl q)))))
 have hV:=(r68_ok c1).2
 have hF:=(r68_ok c1).1
 have t3:=r69_iff.1 c3; have t4:=r69_iff.1 c4; have t5:=r69_iff.1 c5
 have hA:=r70_room c1 a
 have hB:=r70_room c1 b
 have hloop:=R18_0_ok h door slo shi a ta b tb tc l
 generalize hgD:r70 door (h.doors.length:Int)=D at *
 generalize hgA:r70 a (h.rooms.length:Int)=A at *
 generalize hgB:r70 b (h.rooms.length:Int)=B at *
 split
 case isFalse =>
  rename_i e
  rw [r65_bad e]; rfl
 rename_i e
 obtain ⟨_,H⟩:=r65_ok e
 generalize (r65 h D slo shi).1=g at *
 have v:=sh_ok hV H
 have el:=sh_len H
 have hA':0≤A∧A<(g.rooms.length:Int):=by rw [el.2]; exact hA
 have hB':0≤B∧B<(g.rooms.length:Int):=by rw [el.2]; exact hB
 have e1:=r41_val hV hA t3; have e2:=r41_val v hA' t3
 have e3:=r43_val hV hB t4; have e4:=r43_val v hB' t4
 have l1:=r106_len hV (fr:=A) t3; have l2:=r106_len v (fr:=A) t3
 have l3:=r112_len h B tb; have l4:=r112_len g B tb
 have early:=sh_early hV H hA t3
 have late:=sh_late hV H hB t4
 have n1:=hloop (r106 h A ta) (fun k hk=>by
  rw [e2,e3,e4]
  have a1:=early k (by omega); have a2:=late k (by omega)
  simp only
  omega) (r106 h A ta) 0 rfl
 rw [if_neg (by simp [e1,e2,e3,e4,l1,l2,l3,l4,el.2]),e1]
 simp only
 rw [n1]
 simp only [onSum]
 rw [if_neg (fun q=>q.2 (sh_wall hV H hA t3 hB t4 q.1))]
 rw [if_neg (fun q=>by
  obtain ⟨q1,q2⟩:=q
  unfold r54 at q1 q2
  rw [if_pos (r113_val hV hA t3 hB t4)] at q1 q2
  by_cases z:lget (r106 h A ta) (Int.toNat B)≤tb
  ·rw [if_pos z] at q1; simp at q1
  ·rw [if_neg z] at q2
   exact q2 (sh_wall hV H hA t3 hB t4 (wall_106 hV hA t3 hB t4 z)))]
 obtain ⟨o1,o2⟩:=r26_val hV H.dr t5
 obtain ⟨o3,o4⟩:=r26_val (h:=g) v (by rw [el.1]; exact H.dr) t5
 have sop:=sh_op hV H (k:=D.toNat) (by have:=H.dr; omega) t5.1
 rw [← o2,← o4] at sop
 refine decide_eq_true ⟨o1,o3,?_⟩
 have in_:r71 tc slo shi=true↔slo≤tc∧tc≤shi:=r71_iff
 cases x1:(r26 h D tc).1<;>cases x2:(r26 g D tc).1<;>cases x3:r71 tc slo shi<;>simp [x1,x2,x3] at sop in_ ⊢<;>omega
end House
end Go.Proofs
end
