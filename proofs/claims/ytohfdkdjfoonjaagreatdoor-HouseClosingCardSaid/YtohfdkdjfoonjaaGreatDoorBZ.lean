import Derived.Test.YtohfdkdjfoonjaaGreatDoorBW
import Derived.Test.YtohfdkdjfoonjaaGreatDoorBX
import Derived.Test.YtohfdkdjfoonjaaGreatDoorBY
section
set_option linter.unusedSimpArgs false
set_option linter.unusedVariables false
namespace Go.Proofs
namespace House
open Go Go.RowKit Go.Aev
set_option maxRecDepth 100000
theorem Nx.mono {d:Dr} {t u r q:Int} (h:Nx d t r) (k:Nx d u q) (hu:t≤u):r≤q:=by
 rcases h with ⟨h1,h2⟩|⟨h1,h2,h3,h4⟩
 ·rcases k with ⟨k1,_⟩|⟨k1,k2,k3,_⟩
  ·omega
  ·exact absurd k3 (h2 q (by omega) k2)
 ·rcases k with ⟨k1,_⟩|⟨k1,k2,k3,_⟩
  ·omega
  ·by_cases e:q<r
   ·exact absurd k3 (h4 q (by omega) e)
   ·omega
theorem Lx.mono {d:Dr} {t u r q:Int} (h:Lx d t r) (k:Lx d u q) (hu:t≤u):r≤q:=by
 rcases h with ⟨h1,h2⟩|⟨h1,h2,h3,h4⟩
 ·rcases k with ⟨k1,_⟩|⟨k1,_⟩<;>omega
 ·rcases k with ⟨k1,k2⟩|⟨k1,k2,k3,k4⟩
  ·exact absurd h3 (k2 r h1 (by omega))
  ·by_cases e:q<r
   ·exact absurd h3 (k4 r e (by omega))
   ·omega
theorem pdoor_ok {h:Hs} {p:Pg} (hP:OkP h p) (hd:0≤p.door):OkO (lget h.doors p.door.toNat):=by
 have:=hP.d
 exact oko hP.v (List.mem_of_getElem? (lget_some (by omega)))
theorem r145_mono {h:Hs} {p:Pg} (hP:OkP h p) {t u:Int} (ht:0≤t) (hu:t≤u):r145 p t h≤r145 p u h:=by
 unfold r145
 by_cases hd:0≤p.door
 ·rw [if_pos hd,if_pos hd]
  have:=(r89_nx (pdoor_ok hP hd) ht).mono (r89_nx (pdoor_ok hP hd) (t:=u) (by omega)) hu
  omega
 ·rw [if_neg hd,if_neg hd]; omega
theorem r146_mono {h:Hs} {p:Pg} (hP:OkP h p) {t u:Int} (hu:t≤u):r146 p t h≤r146 p u h:=by
 unfold r146
 by_cases hd:0≤p.door
 ·rw [if_pos hd,if_pos hd]
  have:=(r91_lx (pdoor_ok hP hd) (t - p.secs)).mono (r91_lx (pdoor_ok hP hd) (u - p.secs)) (by omega)
  omega
 ·rw [if_neg hd,if_neg hd]; omega
theorem crsd {h:Hs} (hV:r59 h=0):Crs h.rooms.length ((psg h).map swp) (fun p t=>r111 p t h):=⟨swp_hg hV rfl,fun p hp t ht=>(r111_ge (swp_ok hV hp).1 ht).1,swp_hp hV rfl⟩
theorem dep_mir {h:Hs} (hV:r59 h=0) {fr ti:Int} (ht:0≤ti∧ti≤1073741823):(r109 h.rooms.length fr (mir ti) ((psg h).map swp) (fun p t=>r111 p t h)).1=(r112 h fr ti).map mir:=by
 show (R109_0 h.rooms.length fr (mir ti) ((psg h).map swp) (fun p t=>r111 p t h) (h.rooms.length+1) _ _ _).1=List.map mir (onSum (R112_1 h fr ti h.rooms _ _ 0) _ _)
 rw [R112_0_eq]
 have e0:(List.replicate h.rooms.length (1073741824:Int)).set fr.toNat (mir ti)=((([]++List.replicate h.rooms.length (-1):List Int)).set fr.toNat ti).map mir:=by
  rw [List.map_set,List.nil_append,List.map_replicate]; rfl
 rw [e0]
 exact sim0d hV fr (mir ti) fr ti h.rooms _ _ _ 0 ((Dm.rep _ (by decide)).set _ (by omega)) (by simp) (by simp) (by simp)
theorem mir_ok {t:Int} (ht:0≤t∧t≤1073741823):0≤mir t∧mir t≤1073741823:=by unfold mir; omega
theorem r112_dm {h:Hs} (hV:r59 h=0) {fr ti:Int} (ht:0≤ti∧ti≤1073741823):Dm h.rooms.length (r112 h fr ti):=by
 have k:=(r109_tm (rooms:=h.rooms.length) (fr:=fr) (mir_ok ht) (crsd hV).rng).1
 rw [dep_mir hV ht] at k
 exact ⟨r112_len _ _ _,fun x hx=>by have:=k.all (mir x) (List.mem_map_of_mem hx); unfold mir at this; omega⟩
theorem r112_closed {h:Hs} (hV:r59 h=0) {fr ti:Int} (ht:0≤ti∧ti≤1073741823):∀ p ∈ psg h,0≤lget (r112 h fr ti) p.to.toNat→r146 p (lget (r112 h fr ti) p.to.toNat) h≤lget (r112 h fr ti) p.fr.toNat:=by
 intro p hp h0
 have k:=closed (fr:=fr) (crsd hV) (mir_ok ht) (swp p) (List.mem_map_of_mem hp)
 rw [dep_mir hV ht] at k
 have kq:=psg_ok hV hp
 have kf:=kq.f; have kt:=kq.t
 have hl:=r112_len h fr ti
 have e1:lget ((r112 h fr ti).map mir) (swp p).fr.toNat=mir (lget (r112 h fr ti) p.to.toNat):=lget_map mir (i:=p.to.toNat) (by omega)
 have e2:lget ((r112 h fr ti).map mir) (swp p).to.toNat=mir (lget (r112 h fr ti) p.fr.toNat):=lget_map mir (i:=p.fr.toNat) (by omega)
 rw [e1,e2] at k
 have k:=k (by unfold mir; omega)
 have k:mir (lget (r112 h fr ti) p.fr.toNat)≤r111 (swp p) (mir (lget (r112 h fr ti) p.to.toNat)) h:=k
 rw [r111_swp] at k
 unfold mir at k; omega
theorem r112_start {h:Hs} (hV:r59 h=0) {fr ti:Int} (hf:0≤fr∧fr<(h.rooms.length:Int)) (ht:0≤ti∧ti≤1073741823):ti≤lget (r112 h fr ti) fr.toNat:=by
 have k:=start_le (fr:=fr) (crsd hV) hf (mir_ok ht)
 rw [dep_mir hV ht,lget_map mir (by rw [r112_len]; omega)] at k
 unfold mir at k; omega
theorem r112_least {h:Hs} (hV:r59 h=0) {fr ti:Int} (hf:0≤fr∧fr<(h.rooms.length:Int)) (ht:0≤ti∧ti≤1073741823) (V:Nat→Int) (hW:∀ p ∈ psg h,∀ s,s≤V p.to.toNat→0≤s∧s≤1073741823→r146 p s h≤V p.fr.toNat) (h0:ti≤V fr.toNat) (h1:∀ i,-1≤V i) :
  ∀ i,i<h.rooms.length→lget (r112 h fr ti) i≤V i:=by
 intro i hi
 have k:=least (fr:=fr) (fun i=>mir (V i)) (crsd hV) (fun p hp t hWt ht'=>by
  obtain ⟨q,hq,rfl⟩:=List.mem_map.1 hp
  have e:r111 (swp q) t h=mir (r146 q (mir t) h):=by rw [← r111_swp,mir_mir]
  show mir (V q.fr.toNat)≤r111 (swp q) t h
  rw [e]
  have hWt:mir (V q.to.toNat)≤t:=hWt
  have:=hW q hq (mir t) (by unfold mir at *; omega) (mir_ok ht')
  unfold mir at *; omega) hf (mir_ok ht) (by show mir (V fr.toNat)≤mir ti; unfold mir; omega) (fun i _=>by show mir (V i)≤1073741824; have:=h1 i; unfold mir; omega) i hi
 rw [dep_mir hV ht,lget_map mir (by rw [r112_len]; exact hi)] at k
 have k:mir (V i)≤mir (lget (r112 h fr ti) i):=k
 unfold mir at k; omega
theorem r106_least {h:Hs} (hV:r59 h=0) {fr ti:Int} (hf:0≤fr∧fr<(h.rooms.length:Int)) (ht:0≤ti∧ti≤1073741823) (W:Nat→Int) (hW:∀ p ∈ psg h,∀ t,W p.fr.toNat≤t→0≤t∧t≤1073741823→W p.to.toNat≤r145 p t h) (h0:W fr.toNat≤ti) (h1:∀ i,i<h.rooms.length→W i≤1073741824) :
  ∀ i,i<h.rooms.length→W i≤lget (r106 h fr ti) i:=least (fr:=fr) W (crs hV) hW hf ht h0 h1
end House
end Go.Proofs
end
section
set_option linter.unusedSimpArgs false
set_option linter.unusedVariables false
namespace Go.Proofs
namespace House
open Go Go.RowKit Go.Aev
set_option maxRecDepth 100000
theorem r113_val {h:Hs} (hV:r59 h=0) {a ta b tb:Int} (ha:0≤a∧a<(h.rooms.length:Int)) (hta:0≤ta∧ta≤1073741823) (hb:0≤b∧b<(h.rooms.length:Int)) (htb:0≤tb∧tb≤1073741823):r113 h a ta b tb=0:=by
 unfold r113
 rw [if_pos (r102_iff.2 ha),if_pos (r88_iff.2 hta),if_pos (r102_iff.2 hb),r84_eq,if_pos hV,if_pos (r88_iff.2 htb)]
theorem r41_val {h:Hs} (hV:r59 h=0) {a ta:Int} (ha:0≤a∧a<(h.rooms.length:Int)) (hta:0≤ta∧ta≤1073741823):r41 h a ta=(r106 h a ta,0):=by
 unfold r41
 rw [if_pos (r102_iff.2 ha),r84_eq,if_pos hV,if_pos (r88_iff.2 hta),if_pos rfl]
theorem r43_val {h:Hs} (hV:r59 h=0) {a ta:Int} (ha:0≤a∧a<(h.rooms.length:Int)) (hta:0≤ta∧ta≤1073741823):r43 h a ta=(r112 h a ta,0):=by
 unfold r43
 rw [if_pos (r102_iff.2 ha),r84_eq,if_pos hV,if_pos (r88_iff.2 hta),if_pos rfl,departures_eq hV hta]
theorem wall_106 {h:Hs} (hV:r59 h=0) {a ta b tb:Int} (ha:0≤a∧a<(h.rooms.length:Int)) (hta:0≤ta∧ta≤1073741823) (hb:0≤b∧b<(h.rooms.length:Int)) (htb:0≤tb∧tb≤1073741823) (hn:¬ lget (r106 h a ta) b.toNat≤tb):r52 h a ta b tb (r106 h a ta)=0:=by
 have e:r49 h a ta b tb=0:=by rw [← two_eq]; exact r113_val hV ha hta hb htb
 rw [wall_eq]; unfold r53
 rw [if_pos e,if_pos (is_wall hV (r106_tm hV hta) (r106_start hV ha hta) (by omega) (r106_closed hV hta))]
theorem wall_le {h:Hs} (hV:r59 h=0) {a ta b tb:Int} {l:List Int} (ha:0≤a∧a<(h.rooms.length:Int)) (hta:0≤ta∧ta≤1073741823) (hb:0≤b∧b<(h.rooms.length:Int)) (htb:0≤tb∧tb≤1073741823) (hw:r52 h a ta b tb l=0) :
  l.length=h.rooms.length∧(∀ x ∈ l,0≤x∧x≤1073741824)∧lget l a.toNat≤ta∧tb<lget l b.toNat∧(∀ p ∈ psg h,lget l p.fr.toNat≤1073741823→lget l p.to.toNat≤r145 p (lget l p.fr.toNat) h):=by
 unfold r52 at hw
 rw [if_pos (r113_val hV ha hta hb htb)] at hw
 by_cases hl:(l.length:Int)=(h.rooms.length:Int)
 case neg=>rw [if_neg hl] at hw; cases hw
 rw [if_pos hl] at hw
 rcases R52_R55 h a ta b tb l l with ⟨e1,_⟩|⟨e1,_,e3⟩
 ·rw [e1] at hw; cases hw
 ·rw [e1] at hw
  have hw:(if ta<lget l a.toNat then (8:Int) else if lget l b.toNat≤tb then 8 else if r118 h l=true then 0 else 8)=0:=hw
  by_cases k1:ta<lget l a.toNat
  ·rw [if_pos k1] at hw; cases hw
  rw [if_neg k1] at hw
  by_cases k2:lget l b.toNat≤tb
  ·rw [if_pos k2] at hw; cases hw
  rw [if_neg k2] at hw
  by_cases k3:r118 h l=true
  case neg=>rw [if_neg k3] at hw; cases hw
  refine ⟨by omega,e3,by omega,by omega,fun p hp hle=>?_⟩
  unfold r118 at k3
  have k3:(psg h).any (bad h l)=false:=by simpa using k3
  rw [List.any_eq_false] at k3
  have kf:=(psg_ok hV hp).f
  have h0:=e3 _ (lget_mem' (l:=l) (i:=p.fr.toNat) (by omega))
  have:=k3 p hp
  unfold bad at this
  rw [r88_iff.2 ⟨h0.1,hle⟩,Bool.true_and,decide_eq_true_eq] at this
  omega
theorem wall_least {h:Hs} (hV:r59 h=0) {a ta:Int} {l:List Int} (ha:0≤a∧a<(h.rooms.length:Int)) (hta:0≤ta∧ta≤1073741823) (hl:l.length=h.rooms.length) (hr:∀ x ∈ l,0≤x∧x≤1073741824) (h1:lget l a.toNat≤ta) (hc:∀ p ∈ psg h,lget l p.fr.toNat≤1073741823→lget l p.to.toNat≤r145 p (lget l p.fr.toNat) h) :
  ∀ i,i<h.rooms.length→lget l i≤lget (r106 h a ta) i :=
 r106_least hV ha hta (fun i=>lget l i) (fun p hp t hWt ht=>by
  have kf:=(psg_ok hV hp).f
  have hWt:lget l p.fr.toNat≤t:=hWt
  have h0:=hr _ (lget_mem' (l:=l) (i:=p.fr.toNat) (by omega))
  exact Int.le_trans (hc p hp (by omega)) (r145_mono (psg_ok hV hp).ok h0.1 hWt)) h1 (fun i hi=>(hr _ (lget_mem' (l:=l) (i:=i) (by omega))).2)
theorem r70_room {h:Hs} (hF:r68 h=true) (n:Int):0≤r70 n (h.rooms.length:Int)∧r70 n (h.rooms.length:Int)<(h.rooms.length:Int):=by
 have q:=r68_ok hF
 have:=rooms_pos q.2; have:=rooms_len q.2
 exact r70_ok (by omega)
end House
end Go.Proofs
end
section
set_option linter.unusedSimpArgs false
set_option linter.unusedVariables false
namespace Go.Proofs
namespace House
open Go Go.RowKit Go.Aev
set_option maxRecDepth 100000
end House
end Go.Proofs
end
