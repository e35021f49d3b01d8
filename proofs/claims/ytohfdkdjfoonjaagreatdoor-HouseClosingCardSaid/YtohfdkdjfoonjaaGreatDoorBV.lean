import Derived.Test.YtohfdkdjfoonjaaGreatDoorEvH28
section
set_option linter.unusedSimpArgs false
set_option linter.unusedVariables false
namespace Go.Proofs
namespace House
open Go Go.RowKit Go.Aev
set_option maxRecDepth 100000
def gt (p:Pg):Gt:=⟨p.way,p.fr,p.to,p.secs,p.door⟩
theorem r144_f (h:Hs) (k:Nat):r144 h (k:Int) false=(((k:Int),false,(lget h.ways k).a,(lget h.ways k).b,(lget h.ways k).secs,(lget h.ways k).door),true):=by
 unfold r144; rw [if_neg (by decide),Int.toNat_natCast]
theorem r144_t (h:Hs) (k:Nat):r144 h (k:Int) true=(((k:Int),true,(lget h.ways k).b,(lget h.ways k).a,(lget h.ways k).back,(lget h.ways k).door),decide (0<(lget h.ways k).back)):=by
 unfold r144; rw [if_pos rfl,Int.toNat_natCast]
theorem R116_gt (h:Hs):∀ (m:List Wy) (out:List Gt) (k:Nat),h.ways.drop k=m→R116_0 h m out k=out++(R148_0 h.rooms h.doors h.ways m k).map gt:=by
 intro m
 induction m with
 | nil=>intro out k _; simp [R116_0,R148_0]
 | cons w m ih =>
  intro out k hd
  obtain ⟨hx,hd'⟩:=drop_unc hd
  have hw:lget h.ways k=w:=lget_of hx
  rw [R116_0,R148_0]
  rw [r144_f,r144_t]
  simp only [hw,if_true]
  by_cases hb:0<w.back
  ·rw [if_pos hb,decide_eq_true hb,if_pos rfl,ih _ _ hd']
   simp [gt]
  ·rw [if_neg hb,decide_eq_false hb,if_neg (by decide),ih _ _ hd']
   simp [gt]
theorem gates_eq (h:Hs):r116 h=(psg h).map gt:=by
 unfold r116 psg r148
 rw [R116_gt h h.ways [] 0 rfl]; simp
theorem lget_mem' {α:Type} [Inhabited α] {l:List α} {i:Nat} (h:i<l.length):lget l i ∈ l:=List.mem_of_getElem? (lget_some h)
theorem no_here {times:List Int} {left:List Bool} {here:Int} (hH:Hr times left here) (hl:left.length=times.length) (hc:left.count false=0):here<0:=by
 rcases hH with rfl|⟨h1,h2,_,h4⟩
 ·omega
 ·have hm:lget left here.toNat ∈ left:=lget_mem' (by omega)
  rw [h4] at hm
  have:=List.count_pos_iff.2 hm
  omega
theorem set_self {l:List Int} {i:Nat}:l.set i (lget l i)=l:=by
 by_cases h:i<l.length
 ·rw [show lget l i=l[i] from lget_of (List.getElem?_eq_getElem h),List.set_getElem_self]
 ·rw [List.set_eq_of_length_le (by omega)]
theorem r99_r145 {h:Hs} (hV:r59 h=0) {p:Pg} (hp:OkP h p) {t:Int} (ht:0≤t∧t≤1073741823):r99 h (gt p) t=r145 p t h:=by
 have hd:=hp.d
 unfold r99 r145
 show (if 0≤p.door then _ else _)=_
 by_cases h1:0≤p.door
 ·rw [if_pos h1,if_pos h1,next_eq (oko hV (List.mem_of_getElem? (lget_some (l:=h.doors) (i:=Int.toNat p.door) (by omega)))) ht]; rfl
 ·rw [if_neg h1,if_neg h1]; rfl
end House
end Go.Proofs
end
section
set_option linter.unusedSimpArgs false
set_option linter.unusedVariables false
namespace Go.Proofs
namespace House
open Go Go.RowKit Go.Aev
set_option maxRecDepth 100000
def mir (t:Int):Int:=1073741823 - t
theorem mir_mir (t:Int):mir (mir t)=t:=by unfold mir; omega
theorem lget_map {α β:Type} [Inhabited α] [Inhabited β] (f:α→β) {l:List α} {i:Nat} (h:i<l.length):lget (l.map f) i=f (lget l i):=by
 apply lget_of; rw [List.getElem?_map,lget_some h]; rfl
theorem sim1d (rooms:Nat) (fr ti:Int) (l:List Pg) (g:Pg→Int→Int) (out by_:List Int) (done:List Bool) (h:Hs) (fr' ti':Int) (nv:Nat):∀ (m:List Int) (kv:Nat) (here:Int),m.length+kv=out.length → -1≤here→here<(out.length:Int) →
  R109_1 rooms fr ti l g (out.map mir) by_ done (m.map mir) kv here=R112_2 h fr' ti' out done nv m here kv:=by
 intro m
 induction m with
 | nil=>intro kv here _ _ _; rfl
 | cons x m ih =>
  intro kv here hk h1 h2
  simp only [List.length_cons] at hk
  rw [List.map_cons,R109_1,R112_2]
  by_cases cc1:lget done kv=true
  ·rw [if_pos cc1,if_pos cc1,ih _ _ (by omega) h1 h2]
  ·rw [if_neg cc1,if_neg cc1]
   by_cases cc2:0≤x
   ·rw [if_pos (show mir x≤1073741823 by unfold mir; omega),if_pos cc2]
    by_cases cc3:here<0
    ·rw [if_pos cc3,if_pos cc3,ih _ _ (by omega) (by omega) (by omega)]
    ·rw [if_neg cc3,if_neg cc3,show max here 0=here by omega,lget_map mir (by omega)]
     by_cases cc4:lget out here.toNat<x
     ·rw [if_pos (show mir x<mir (lget out here.toNat) by unfold mir; omega),if_pos cc4,ih _ _ (by omega) (by omega) (by omega)]
     ·rw [if_neg (show ¬ mir x<mir (lget out here.toNat) by unfold mir; omega),if_neg cc4,ih _ _ (by omega) h1 h2]
   ·rw [if_neg (show ¬ mir x≤1073741823 by unfold mir; omega),if_neg cc2,ih _ _ (by omega) h1 h2]
theorem r101_r146 {h:Hs} (hV:r59 h=0) {p:Pg} (hp:OkP h p) {t:Int} (ht:0≤t∧t≤1073741823):r101 h (gt p) t=r146 p t h:=by
 have hd:=hp.d; have hs:=hp.s
 unfold r101 r146
 show (if t - p.secs<0 then -1 else if p.door<0 then t - p.secs else r92 (lget h.doors p.door.toNat) (t - p.secs))=_
 by_cases h1:0≤p.door
 ·have hO:=oko hV (List.mem_of_getElem? (lget_some (l:=h.doors) (i:=Int.toNat p.door) (by omega)))
  rw [if_pos h1,if_neg (show ¬ p.door<0 by omega)]
  have q:=r91_lx hO (t - p.secs)
  by_cases h2:t - p.secs<0
  ·rw [if_pos h2]
   rcases q with q|q<;>omega
  ·rw [if_neg h2,← last_eq hO (by omega)]
   rcases q with q|q<;>omega
 ·rw [if_neg h1,if_pos (show p.door<0 by omega)]
  by_cases h2:t - p.secs<0
  ·rw [if_pos h2]; omega
  ·rw [if_neg h2]; omega
theorem r111_swp (h:Hs) (p:Pg) (t:Int):r111 (swp p) (mir t) h=mir (r146 p t h):=by
 show 1073741823 - r146 (swp p) (1073741823 - mir t) h=mir (r146 p t h)
 rw [show 1073741823 - mir t=t by unfold mir; omega]
 rfl
theorem dm_tm {n:Nat} {l:List Int} (h:Dm n l):Tm n (l.map mir):=⟨by rw [List.length_map]; exact h.len,fun x hx=>by
 obtain ⟨y,hy,rfl⟩:=List.mem_map.1 hx
 have:=h.all y hy; unfold mir; omega⟩
theorem sim2d {h:Hs} (hV:r59 h=0) (fr ti fr' ti':Int) (l:List Pg) (out by_:List Int) (done:List Bool) (nv:Nat) (here:Int)
  (he:R109_1 h.rooms.length fr ti l (fun p t=>r111 p t h) (out.map mir) by_ done (out.map mir) 0 (-1)=here) (he':R112_2 h fr' ti' out done nv out (-1) 0=here) (h0:0≤here∧here<(h.rooms.length:Int)) :
  ∀ (m:List Pg) (t2 b2:List Int) (j:Nat),(∀ p ∈ m,p ∈ psg h)→Dm h.rooms.length t2→0≤lget t2 here.toNat →
   (R109_2 h.rooms.length fr ti l (fun p t=>r111 p t h) (out.map mir) by_ done (m.map swp) (t2.map mir) b2 j).1=(R112_3 h fr' ti' out done nv (m.map gt) t2).map mir∧Dm h.rooms.length (R112_3 h fr' ti' out done nv (m.map gt) t2):=by
 intro m
 induction m with
 | nil=>intro t2 b2 j _ h1 _; exact ⟨rfl,h1⟩
 | cons x m ih =>
  intro t2 b2 j hm h1 h3
  have hx:=hm x (by simp)
  have k:=psg_ok hV hx
  have kf:=k.f
  have hm':∀ p ∈ m,p ∈ psg h:=fun p hp=>hm p (by simp [hp])
  have hl:=h1.len
  have h4:=h1.at (lget_some (l:=t2) (i:=here.toNat) (by omega))
  rw [List.map_cons,List.map_cons,R109_2,R112_3,he,he']
  show (if x.to=here then _ else _:List Int × List Int).1=_∧_
  show _=(if x.to=here then _ else _:List Int).map mir∧Dm _ (if x.to=here then _ else _:List Int)
  by_cases e:x.to=here
  ·rw [if_pos e,if_pos e,lget_map mir (by omega)]
   have er:r111 (swp x) (mir (lget t2 here.toNat)) h=mir (r146 x (lget t2 here.toNat) h):=r111_swp h x _
   rw [er,r101_r146 hV k.ok ⟨h3,h4.2⟩]
   have hv:=r146_ge k.ok (t:=lget t2 here.toNat) ⟨h3,h4.2⟩
   have e1:lget (t2.map mir) (swp x).to.toNat=mir (lget t2 x.fr.toNat):=lget_map mir (i:=x.fr.toNat) (by omega)
   rw [e1]
   show (if _ then R109_2 _ _ _ _ _ _ _ _ _ ((t2.map mir).set x.fr.toNat (mir _)) _ _ else _:List Int × List Int).1=(R112_3 h fr' ti' out done nv (m.map gt) (t2.set x.fr.toNat (max (lget t2 x.fr.toNat) (r146 x (lget t2 here.toNat) h)))).map mir∧Dm _ (R112_3 h fr' ti' out done nv (m.map gt) (t2.set x.fr.toNat (max (lget t2 x.fr.toNat) (r146 x (lget t2 here.toNat) h))))
   by_cases c:lget t2 x.fr.toNat<r146 x (lget t2 here.toNat) h
   ·rw [if_pos (show mir (r146 x (lget t2 here.toNat) h)<mir (lget t2 x.fr.toNat) by unfold mir; omega),show max (lget t2 x.fr.toNat) (r146 x (lget t2 here.toNat) h)=r146 x (lget t2 here.toNat) h by omega,← List.map_set]
    exact ih _ _ _ hm' (h1.set _ (by omega)) (lget_set_ge h3 (by omega) (by omega))
   ·rw [if_neg (show ¬ mir (r146 x (lget t2 here.toNat) h)<mir (lget t2 x.fr.toNat) by unfold mir; omega),show max (lget t2 x.fr.toNat) (r146 x (lget t2 here.toNat) h)=lget t2 x.fr.toNat by omega,set_self]
    exact ih _ _ _ hm' h1 h3
  ·rw [if_neg e,if_neg e]
   exact ih _ _ _ hm' h1 h3
theorem sim0d {h:Hs} (hV:r59 h=0) (fr ti fr' ti':Int):∀ (m:List Rm) (out by_:List Int) (done:List Bool) (nv:Nat),Dm h.rooms.length out→by_.length=h.rooms.length→done.length=h.rooms.length→done.count false≤m.length →
  (R109_0 h.rooms.length fr ti ((psg h).map swp) (fun p t=>r111 p t h) (m.length+1) (out.map mir) by_ done).1=(onSum (R112_1 h fr' ti' m out done nv) (fun r=>r) (fun r=>r)).map mir:=by
 intro m
 induction m with
 | nil =>
  intro out by_ done nv h1 h2 h3 h4
  have hH:=R109_1_hr h.rooms.length fr ti ((psg h).map swp) (fun p t=>r111 p t h) (out.map mir) by_ done (out.map mir) 0 (-1) rfl (Hr.init _ _)
  have hn:=no_here hH (by have:=h1.len; rw [List.length_map]; omega) (by simpa using h4)
  rw [R109_0,if_pos hn]; rfl
 | cons x m ih =>
  intro out by_ done nv h1 h2 h3 h4
  have hl:=h1.len
  have hH:=R109_1_hr h.rooms.length fr ti ((psg h).map swp) (fun p t=>r111 p t h) (out.map mir) by_ done (out.map mir) 0 (-1) rfl (Hr.init _ _)
  have e2:=sim1d h.rooms.length fr ti ((psg h).map swp) (fun p t=>r111 p t h) out by_ done h fr' ti' nv out 0 (-1) rfl (by omega) (by omega)
  rw [R109_0,R112_1]
  generalize he:R109_1 h.rooms.length fr ti ((psg h).map swp) (fun p t=>r111 p t h) (out.map mir) by_ done (out.map mir) 0 (-1)=here at *
  rw [← e2]
  by_cases hn:here<0
  ·rw [if_pos hn,if_pos hn]; rfl
  ·rw [if_neg hn,if_neg hn]
   have q:=hH.get hn
   rw [List.length_map,lget_map mir (by have h5:=hH.get hn; have:=h5.2.1; rw [List.length_map] at this; omega)] at q
   have q3:0≤lget out here.toNat:=by have:=q.2.2.1; unfold mir at this; omega
   have k:=R109_2_tm h.rooms.length fr ti ((psg h).map swp) (fun p t=>r111 p t h) (swp_hg hV rfl) (out.map mir) by_ done here he ⟨q.1,by omega⟩ ((psg h).map swp) (out.map mir) by_ 0 (fun p hp=>hp) (dm_tm h1) h2 (by rw [lget_map mir (by omega)]; exact q.2.2.1)
   have s:=sim2d hV fr ti fr' ti' ((psg h).map swp) out by_ done nv here he e2.symm ⟨q.1,by omega⟩ (psg h) out by_ 0 (fun p hp=>hp) h1 q3
   rw [← gates_eq] at s
   rw [s.1]
   have hc:=cnt_set done here.toNat (by omega) q.2.2.2
   exact ih _ _ _ _ s.2 k.2 (by rw [List.length_set]; exact h3) (by simp only [List.length_cons] at h4; omega)
theorem R43_1_eq (h:Hs) (fr ti:Int) (N:Nat) (hN:N=(r109 h.rooms.length fr (r110 ti) (R43_0 h fr ti ((psg h).length+1) (psg h) 0:List Pg) (fun (p:Pg) (t:Int)=>r111 p t h)).1.length):∀ (m:Nat) (l:List Int) (k:Nat),m+k=N+1→k≤N→l.length=N→R43_1 h fr ti m l k=l.take k++(l.drop k).map mir:=by
 intro m
 induction m with
 | zero=>intro l k h1 h2 _; omega
 | succ m ih =>
  intro l k h1 h2 h3
  rw [R43_1,← hN]
  split
  ·rename_i hk
   have hk':k<l.length:=by omega
   rw [ih _ _ (by omega) (by omega) (by rw [List.length_set]; exact h3)]
   have hP:(l.take k).length=k:=by rw [List.length_take]; omega
   rw [List.set_eq_take_append_cons_drop,if_pos hk',drop_cons' (lget_some hk'),List.map_cons]
   have e1:(l.take k++r110 (lget l k) :: l.drop (k+1)).take (k+1)=l.take k++[r110 (lget l k)]:=by rw [List.take_append,hP,Nat.add_sub_cancel_left,List.take_of_length_le (by omega)]; rfl
   have e2:(l.take k++r110 (lget l k) :: l.drop (k+1)).drop (k+1)=l.drop (k+1):=by rw [List.drop_append,hP,Nat.add_sub_cancel_left,List.drop_of_length_le (by omega)]; rfl
   rw [e1,e2]; simp [mir,r110]
  ·have hk:k=l.length:=by omega
   rw [hk,List.take_length,List.drop_length,List.map_nil,List.append_nil]
theorem departures_eq {h:Hs} (hV:r59 h=0) {fr ti:Int} (ht:0≤ti∧ti≤1073741823) :
  R43_1 h fr ti (h.rooms.length+1) ((r109 h.rooms.length fr (r110 ti) (R43_0 h fr ti ((psg h).length+1) (psg h) 0:List Pg) (fun (p:Pg) (t:Int)=>r111 p t h)).1) 0=r112 h fr ti:=by
 have hr:r110 ti=mir ti:=rfl
 have hlen:h.rooms.length=(r109 h.rooms.length fr (r110 ti) (R43_0 h fr ti ((psg h).length+1) (psg h) 0:List Pg) (fun (p:Pg) (t:Int)=>r111 p t h)).1.length :=
  (r109_tm (rooms:=h.rooms.length) (fr:=fr) (ti:=r110 ti) (by have:r110 ti=1073741823 - ti:=rfl; omega) (swp_hg hV (R43_0_swp h fr ti))).1.len.symm
 rw [R43_1_eq h fr ti h.rooms.length hlen _ _ 0 (by omega) (by omega) hlen.symm,R43_0_swp,hr]
 have e:(r109 h.rooms.length fr (mir ti) ((psg h).map swp) (fun p t=>r111 p t h)).1=(r112 h fr ti).map mir:=by
  show (R109_0 h.rooms.length fr (mir ti) ((psg h).map swp) (fun p t=>r111 p t h) (h.rooms.length+1) _ _ _).1=List.map mir (onSum (R112_1 h fr ti h.rooms _ _ 0) _ _)
  rw [R112_0_eq]
  have e0:(List.replicate h.rooms.length (1073741824:Int)).set fr.toNat (mir ti)=((([]++List.replicate h.rooms.length (-1):List Int)).set fr.toNat ti).map mir:=by
   rw [List.map_set,List.nil_append,List.map_replicate]; rfl
  rw [e0]
  exact sim0d hV fr (mir ti) fr ti h.rooms _ _ _ 0 ((Dm.rep _ (by decide)).set _ (by omega)) (by simp) (by simp) (by simp)
 rw [e,List.take_zero,List.nil_append,List.drop_zero,List.map_map]
 rw [show (mir ∘ mir)=id from funext mir_mir,List.map_id]
theorem r104_eq (h:Hs) (k t:Int):r104 h k t=if r59 h=0 then (if r102 h k=true then (if r88 t=true then 0 else 1) else 1) else r59 h:=by
 unfold r104
 by_cases hV:r59 h=0
 ·rw [if_pos hV,if_pos hV]
  by_cases h1:r102 h k=true
  ·rw [if_pos h1,if_pos (show r122 h k=true from r71_iff.2 (by have:=r102_iff.1 h1; omega))]
   by_cases h2:r88 t=true
   ·rw [if_pos h2,if_pos (show r69 t=true from r69_iff.2 (r88_iff.1 h2)),hV]
   ·rw [if_neg h2,if_neg (show ¬ r69 t=true from fun e=>h2 (r88_iff.2 (r69_iff.1 e)))]
  ·rw [if_neg h1,if_neg (show ¬ r122 h k=true from fun e=>h1 (r102_iff.2 (by have:=r71_iff.1 (show r71 k 0 ((h.rooms.length:Int) - 1)=true from e); omega)))]
 ·rw [if_neg hV,if_neg hV]
theorem two_eq (h:Hs) (a ta b tb:Int):r113 h a ta b tb=r49 h a ta b tb:=by
 unfold r113 r49
 rw [r84_eq,r84_eq,r104_eq,r104_eq]
 by_cases hV:r59 h=0
 ·by_cases h1:r102 h a=true
  ·by_cases h2:r88 ta=true
   ·by_cases h3:r102 h b=true
    ·by_cases h4:r88 tb=true
     ·simp [hV,h1,h2,h3,h4]
     ·simp [hV,h1,h2,h3,h4]
    ·simp [hV,h1,h2,h3]
   ·simp [hV,h1,h2]
  ·simp [hV,h1]
 ·simp [hV]
end House
end Go.Proofs
end
