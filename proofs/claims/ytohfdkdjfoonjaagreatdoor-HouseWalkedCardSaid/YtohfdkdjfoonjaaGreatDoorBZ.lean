import Derived.Test.YtohfdkdjfoonjaaGreatDoorBW
import Derived.Test.YtohfdkdjfoonjaaGreatDoorBX
import Derived.Test.YtohfdkdjfoonjaaGreatDoorBY
section
set_option linter.unusedSimpArgs false
set_option linter.unusedVariables false
namespace Go.Proofs
namespace House
open Go Go.RowKit Go.Aev
set_option maxRecDepth 100000
theorem Nx.mono {d:Dr} {t u r q:Int} (h:Nx d t r) (k:Nx d u q) (hu:t≤u):r≤q:=by
 rcases h with ⟨h1,h2⟩|⟨h1,h2,h3,h4⟩
 ·rcases k with ⟨k1,_⟩|⟨k1,k2,k3,_⟩
  ·omega
  ·exact absurd k3 (h2 q (by omega) k2)
 ·rcases k with ⟨k1,_⟩|⟨k1,k2,k3,_⟩
  ·omega
  ·by_cases e:q<r
   ·exact absurd k3 (h4 q (by omega) e)
   ·omega
theorem Lx.mono {d:Dr} {t u r q:Int} (h:Lx d t r) (k:Lx d u q) (hu:t≤u):r≤q:=by
 rcases h with ⟨h1,h2⟩|⟨h1,h2,h3,h4⟩
 ·rcases k with ⟨k1,_⟩|⟨k1,_⟩<;>omega
 ·rcases k with ⟨k1,k2⟩|⟨k1,k2,k3,k4⟩
  ·exact absurd h3 (k2 r h1 (by omega))
  ·by_cases e:q<r
   ·exact absurd h3 (k4 r e (by omega))
   ·omega
theorem Nx.adj {d:Dr} {t s r q:Int} (h:Nx d t r) (k:Lx d s q) (ht:0≤t) (hs:s≤1073741823):r≤s↔t≤q:=by
 constructor
 ·intro hrs
  rcases h with ⟨h1,_⟩|⟨h1,h2,h3,_⟩
  ·omega
  ·rcases k with ⟨k1,k2⟩|⟨k1,k2,k3,k4⟩
   ·exact absurd h3 (k2 r (by omega) hrs)
   ·by_cases e:q<r
    ·exact absurd h3 (k4 r e hrs)
    ·omega
 ·intro htq
  rcases k with ⟨k1,_⟩|⟨k1,k2,k3,_⟩
  ·omega
  ·rcases h with ⟨h1,h2⟩|⟨h1,h2,h3,h4⟩
   ·exact absurd k3 (h2 q htq (by omega))
   ·by_cases e:q<r
    ·exact absurd k3 (h4 q htq e)
    ·omega
theorem pdoor_ok {h:Hs} {p:Pg} (hP:OkP h p) (hd:0≤p.door):OkO (lget h.doors p.door.toNat):=by
 have:=hP.d
 exact oko hP.v (List.mem_of_getElem? (lget_some (by omega)))
theorem r145_mono {h:Hs} {p:Pg} (hP:OkP h p) {t u:Int} (ht:0≤t) (hu:t≤u):r145 p t h≤r145 p u h:=by
 unfold r145
 by_cases hd:0≤p.door
 ·rw [if_pos hd,if_pos hd]
  have:=(r89_nx (pdoor_ok hP hd) ht).mono (r89_nx (pdoor_ok hP hd) (t:=u) (by omega)) hu
  omega
 ·rw [if_neg hd,if_neg hd]; omega
theorem adj {h:Hs} {p:Pg} (hP:OkP h p) {t s:Int} (ht:0≤t) (hs:s≤1073741823):r145 p t h≤s↔t≤r146 p s h:=by
 have hsec:=hP.s
 unfold r145 r146
 by_cases hd:0≤p.door
 ·rw [if_pos hd,if_pos hd]
  have:=(r89_nx (pdoor_ok hP hd) ht).adj (r91_lx (pdoor_ok hP hd) (s - p.secs)) ht (by omega)
  omega
 ·rw [if_neg hd,if_neg hd]; omega
theorem crsd {h:Hs} (hV:r59 h=0):Crs h.rooms.length ((psg h).map swp) (fun p t=>r111 p t h):=⟨swp_hg hV rfl,fun p hp t ht=>(r111_ge (swp_ok hV hp).1 ht).1,swp_hp hV rfl⟩
theorem dep_mir {h:Hs} (hV:r59 h=0) {fr ti:Int} (ht:0≤ti∧ti≤1073741823):(r109 h.rooms.length fr (mir ti) ((psg h).map swp) (fun p t=>r111 p t h)).1=(r112 h fr ti).map mir:=by
 show (R109_0 h.rooms.length fr (mir ti) ((psg h).map swp) (fun p t=>r111 p t h) (h.rooms.length+1) _ _ _).1=List.map mir (onSum (R112_1 h fr ti h.rooms _ _ 0) _ _)
 rw [R112_0_eq]
 have e0:(List.replicate h.rooms.length (1073741824:Int)).set fr.toNat (mir ti)=((([]++List.replicate h.rooms.length (-1):List Int)).set fr.toNat ti).map mir:=by
  rw [List.map_set,List.nil_append,List.map_replicate]; rfl
 rw [e0]
 exact sim0d hV fr (mir ti) fr ti h.rooms _ _ _ 0 ((Dm.rep _ (by decide)).set _ (by omega)) (by simp) (by simp) (by simp)
theorem mir_ok {t:Int} (ht:0≤t∧t≤1073741823):0≤mir t∧mir t≤1073741823:=by unfold mir; omega
theorem r112_dm {h:Hs} (hV:r59 h=0) {fr ti:Int} (ht:0≤ti∧ti≤1073741823):Dm h.rooms.length (r112 h fr ti):=by
 have k:=(r109_tm (rooms:=h.rooms.length) (fr:=fr) (mir_ok ht) (crsd hV).rng).1
 rw [dep_mir hV ht] at k
 exact ⟨r112_len _ _ _,fun x hx=>by have:=k.all (mir x) (List.mem_map_of_mem hx); unfold mir at this; omega⟩
theorem r112_closed {h:Hs} (hV:r59 h=0) {fr ti:Int} (ht:0≤ti∧ti≤1073741823):∀ p ∈ psg h,0≤lget (r112 h fr ti) p.to.toNat→r146 p (lget (r112 h fr ti) p.to.toNat) h≤lget (r112 h fr ti) p.fr.toNat:=by
 intro p hp h0
 have k:=closed (fr:=fr) (crsd hV) (mir_ok ht) (swp p) (List.mem_map_of_mem hp)
 rw [dep_mir hV ht] at k
 have kq:=psg_ok hV hp
 have kf:=kq.f; have kt:=kq.t
 have hl:=r112_len h fr ti
 have e1:lget ((r112 h fr ti).map mir) (swp p).fr.toNat=mir (lget (r112 h fr ti) p.to.toNat):=lget_map mir (i:=p.to.toNat) (by omega)
 have e2:lget ((r112 h fr ti).map mir) (swp p).to.toNat=mir (lget (r112 h fr ti) p.fr.toNat):=lget_map mir (i:=p.fr.toNat) (by omega)
 rw [e1,e2] at k
 have k:=k (by unfold mir; omega)
 have k:mir (lget (r112 h fr ti) p.fr.toNat)≤r111 (swp p) (mir (lget (r112 h fr ti) p.to.toNat)) h:=k
 rw [r111_swp] at k
 unfold mir at k; omega
theorem r112_start {h:Hs} (hV:r59 h=0) {fr ti:Int} (hf:0≤fr∧fr<(h.rooms.length:Int)) (ht:0≤ti∧ti≤1073741823):ti≤lget (r112 h fr ti) fr.toNat:=by
 have k:=start_le (fr:=fr) (crsd hV) hf (mir_ok ht)
 rw [dep_mir hV ht,lget_map mir (by rw [r112_len]; omega)] at k
 unfold mir at k; omega
theorem r112_least {h:Hs} (hV:r59 h=0) {fr ti:Int} (hf:0≤fr∧fr<(h.rooms.length:Int)) (ht:0≤ti∧ti≤1073741823) (V:Nat→Int) (hW:∀ p ∈ psg h,∀ s,s≤V p.to.toNat→0≤s∧s≤1073741823→r146 p s h≤V p.fr.toNat) (h0:ti≤V fr.toNat) (h1:∀ i,-1≤V i) :
  ∀ i,i<h.rooms.length→lget (r112 h fr ti) i≤V i:=by
 intro i hi
 have k:=least (fr:=fr) (fun i=>mir (V i)) (crsd hV) (fun p hp t hWt ht'=>by
  obtain ⟨q,hq,rfl⟩:=List.mem_map.1 hp
  have e:r111 (swp q) t h=mir (r146 q (mir t) h):=by rw [← r111_swp,mir_mir]
  show mir (V q.fr.toNat)≤r111 (swp q) t h
  rw [e]
  have hWt:mir (V q.to.toNat)≤t:=hWt
  have:=hW q hq (mir t) (by unfold mir at *; omega) (mir_ok ht')
  unfold mir at *; omega) hf (mir_ok ht) (by show mir (V fr.toNat)≤mir ti; unfold mir; omega) (fun i _=>by show mir (V i)≤1073741824; have:=h1 i; unfold mir; omega) i hi
 rw [dep_mir hV ht,lget_map mir (by rw [r112_len]; exact hi)] at k
 have k:mir (V i)≤mir (lget (r112 h fr ti) i):=k
 unfold mir at k; omega
theorem r106_least {h:Hs} (hV:r59 h=0) {fr ti:Int} (hf:0≤fr∧fr<(h.rooms.length:Int)) (ht:0≤ti∧ti≤1073741823) (W:Nat→Int) (hW:∀ p ∈ psg h,∀ t,W p.fr.toNat≤t→0≤t∧t≤1073741823→W p.to.toNat≤r145 p t h) (h0:W fr.toNat≤ti) (h1:∀ i,i<h.rooms.length→W i≤1073741824) :
  ∀ i,i<h.rooms.length→W i≤lget (r106 h fr ti) i:=least (fr:=fr) W (crs hV) hW hf ht h0 h1
theorem both_ways {h:Hs} (hV:r59 h=0) {a ta b tb:Int} (ha:0≤a∧a<(h.rooms.length:Int)) (hta:0≤ta∧ta≤1073741823) (hb:0≤b∧b<(h.rooms.length:Int)) (htb:0≤tb∧tb≤1073741823):lget (r106 h a ta) b.toNat≤tb↔ta≤lget (r112 h b tb) a.toNat:=by
 have hA:=r106_tm (fr:=a) hV hta
 have hD:=r112_dm (fr:=b) hV htb
 have hAl:=hA.len; have hDl:=hD.len
 constructor
 ·intro hle
  apply Classical.byContradiction
  intro hn
  have k:=r106_least hV ha hta (fun i=>lget (r112 h b tb) i+1) (fun p hp t hWt ht=>by
   apply Classical.byContradiction
   intro hc
   have hc:¬ lget (r112 h b tb) p.to.toNat+1≤r145 p t h:=hc
   have hWt:lget (r112 h b tb) p.fr.toNat+1≤t:=hWt
   have kq:=psg_ok hV hp
   have kt:=kq.t
   have:=r145_ge kq.ok ht
   have h2:=hD.at (lget_some (l:=r112 h b tb) (i:=p.to.toNat) (by omega))
   have h3:=(adj kq.ok ht.1 h2.2).1 (by omega)
   have h4:=r112_closed (fr:=b) hV htb p hp (by omega)
   omega) (by show lget (r112 h b tb) a.toNat+1≤ta; omega) (fun i hi=>by show lget (r112 h b tb) i+1≤1073741824; have:=hD.at (lget_some (l:=r112 h b tb) (i:=i) (by omega)); omega) b.toNat (by omega)
  have k:lget (r112 h b tb) b.toNat+1≤lget (r106 h a ta) b.toNat:=k
  have:=r112_start hV hb htb
  omega
 ·intro hle
  apply Classical.byContradiction
  intro hn
  have at0:∀ i,0≤lget (r106 h a ta) i:=fun i=>by
   by_cases hi:i<h.rooms.length
   ·exact (hA.at (lget_some (l:=r106 h a ta) (i:=i) (by omega))).1
   ·unfold lget; rw [List.getD_eq_getElem?_getD,List.getElem?_eq_none (by omega)]; decide
  have k:=r112_least hV hb htb (fun i=>lget (r106 h a ta) i - 1) (fun p hp s hWs hs=>by
   apply Classical.byContradiction
   intro hc
   have hc:¬ r146 p s h≤lget (r106 h a ta) p.fr.toNat - 1:=hc
   have hWs:s≤lget (r106 h a ta) p.to.toNat - 1:=hWs
   have kq:=psg_ok hV hp
   have:=r146_ge kq.ok hs
   have h2:=at0 p.fr.toNat
   have h3:=(adj kq.ok h2 hs.2).2 (by omega)
   have h4:=r106_closed (fr:=a) hV hta p hp (by omega)
   omega) (by show tb≤lget (r106 h a ta) b.toNat - 1; omega) (fun i=>by show -1≤lget (r106 h a ta) i - 1; have:=at0 i; omega) a.toNat (by omega)
  have k:lget (r112 h b tb) a.toNat≤lget (r106 h a ta) a.toNat - 1:=k
  have:=r106_start hV ha hta
  omega
end House
end Go.Proofs
end
section
set_option linter.unusedSimpArgs false
set_option linter.unusedVariables false
namespace Go.Proofs
namespace House
open Go Go.RowKit Go.Aev
set_option maxRecDepth 100000
end House
end Go.Proofs
end
section
set_option linter.unusedSimpArgs false
set_option linter.unusedVariables false
namespace Go.Proofs
namespace House
open Go Go.RowKit Go.Aev
set_option maxRecDepth 100000
def pgOf (h:Hs) (k:Int) (b:Bool):Pg:=⟨(r144 h k b).1.1,(r144 h k b).1.2.1,(r144 h k b).1.2.2.1,(r144 h k b).1.2.2.2.1,(r144 h k b).1.2.2.2.2.1,(r144 h k b).1.2.2.2.2.2⟩
theorem R148_has (h:Hs) (b:Bool) (i:Nat) (hb:(r144 h (i:Int) b).2=true):∀ (m:List Wy) (j:Nat),m.length+j=h.ways.length→j≤i→i<h.ways.length→pgOf h i b ∈ R148_0 h.rooms h.doors h.ways m j:=by
 intro m
 induction m with
 | nil=>intro j h1 h2 h3; simp at h1; omega
 | cons w m ih =>
  intro j h1 h2 h3
  have ih':=ih (j+1) (by simp only [List.length_cons] at h1; omega)
  rw [R148_0]
  by_cases e:j=i
  ·subst e
   cases b with
   | false=>rw [if_pos hb]; exact List.mem_cons_self
   | true =>
    split
    ·refine List.mem_cons_of_mem _ ?_
     first|exact List.mem_cons_self|(rw [if_pos hb]; exact List.mem_cons_self)
    ·first|exact List.mem_cons_self|(rw [if_pos hb]; exact List.mem_cons_self)
  ·have q:=ih' (by omega) h3
   split
   ·refine List.mem_cons_of_mem _ ?_
    split
    ·exact List.mem_cons_of_mem _ q
    ·exact q
   ·split
    ·exact List.mem_cons_of_mem _ q
    ·exact q
theorem psg_mem {h:Hs} {k:Int} {b:Bool} (hk:0≤k∧k<(h.ways.length:Int)) (hb:(r144 h k b).2=true):pgOf h k b ∈ psg h:=by
 have e:((k.toNat:Nat):Int)=k:=by omega
 have q:=R148_has h b k.toNat (by rw [e]; exact hb) h.ways 0 (by simp) (by omega) (by omega)
 rw [e] at q
 exact q
theorem walk_one {h:Hs} (hV:r59 h=0) {p:Pg} (hp:p ∈ psg h) {t d:Int} (ht:0≤t) (hd:t≤d∧d≤1073741823) (ho:0≤p.door→r89 (lget h.doors (Int.toNat p.door)) d=d) (he:d+p.secs≤1073741823) :
  r103 h p.fr t ⟨p.way,p.back,d⟩=(p.to,d+p.secs,0)∧r145 p t h≤d+p.secs:=by
 have hw:=psg_way hp
 have ok:=(psg_ok hV hp).ok
 have hs:=ok.s
 constructor
 ·unfold r103
  simp only [hw.2]
  rw [if_pos (r143_iff.2 hw.1),if_pos (r88_iff.2 (by omega)),if_pos trivial,if_pos trivial,if_neg (by omega)]
  by_cases c:0≤p.door
  ·rw [if_pos c,if_pos (ho c),if_pos (r88_iff.2 (by omega))]
  ·rw [if_neg c,if_pos (r88_iff.2 (by omega))]
 ·unfold r145
  split
  ·rename_i c
   have hO:=oko hV (List.mem_of_getElem? (lget_some (l:=h.doors) (i:=Int.toNat p.door) (by have:=ok.d; omega)))
   have k:=Nx.mono (r89_nx hO ht) (r89_nx hO (show 0≤d by omega)) hd.1
   rw [ho c] at k
   omega
  ·omega
end House
end Go.Proofs
end
