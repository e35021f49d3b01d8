import Derived.Test.YtohfdkdjfoonjaaGreatDoorEvM14
import Derived.Test.YtohfdkdjfoonjaaGreatDoorEvH32
set_option linter.unusedSimpArgs false
set_option linter.unusedVariables false
namespace Go.Proofs
namespace House
open Go Go.RowKit Go.Aev
set_option maxRecDepth 100000
theorem r113_val {h:Hs} (hV:r59 h=0) {a ta b tb:Int} (ha:0≤a∧a<(h.rooms.length:Int)) (hta:0≤ta∧ta≤1073741823) (hb:0≤b∧b<(h.rooms.length:Int)) (htb:0≤tb∧tb≤1073741823):r113 h a ta b tb=0:=by
 unfold r113
 rw [if_pos (r102_iff.2 ha),if_pos (r88_iff.2 hta),if_pos (r102_iff.2 hb),r84_eq,if_pos hV,if_pos (r88_iff.2 htb)]
theorem r41_val {h:Hs} (hV:r59 h=0) {a ta:Int} (ha:0≤a∧a<(h.rooms.length:Int)) (hta:0≤ta∧ta≤1073741823):r41 h a ta=(r106 h a ta,0):=by
 unfold r41
 rw [if_pos (r102_iff.2 ha),r84_eq,if_pos hV,if_pos (r88_iff.2 hta),if_pos rfl]
theorem r43_val {h:Hs} (hV:r59 h=0) {a ta:Int} (ha:0≤a∧a<(h.rooms.length:Int)) (hta:0≤ta∧ta≤1073741823):r43 h a ta=(r112 h a ta,0):=by
 unfold r43
 rw [if_pos (r102_iff.2 ha),r84_eq,if_pos hV,if_pos (r88_iff.2 hta),if_pos rfl,departures_eq hV hta]
theorem wall_106 {h:Hs} (hV:r59 h=0) {a ta b tb:Int} (ha:0≤a∧a<(h.rooms.length:Int)) (hta:0≤ta∧ta≤1073741823) (hb:0≤b∧b<(h.rooms.length:Int)) (htb:0≤tb∧tb≤1073741823) (hn:¬ lget (r106 h a ta) b.toNat≤tb):r52 h a ta b tb (r106 h a ta)=0:=by
 have e:r49 h a ta b tb=0:=by rw [← two_eq]; exact r113_val hV ha hta hb htb
 rw [wall_eq]; unfold r53
 rw [if_pos e,if_pos (is_wall hV (r106_tm hV hta) (r106_start hV ha hta) (by omega) (r106_closed hV hta))]
theorem wall_le {h:Hs} (hV:r59 h=0) {a ta b tb:Int} {l:List Int} (ha:0≤a∧a<(h.rooms.length:Int)) (hta:0≤ta∧ta≤1073741823) (hb:0≤b∧b<(h.rooms.length:Int)) (htb:0≤tb∧tb≤1073741823) (hw:r52 h a ta b tb l=0) :
  l.length=h.rooms.length∧(∀ x ∈ l,0≤x∧x≤1073741824)∧lget l a.toNat≤ta∧tb<lget l b.toNat∧(∀ p ∈ psg h,lget l p.fr.toNat≤1073741823→lget l p.to.toNat≤r145 p (lget l p.fr.toNat) h):=by
 unfold r52 at hw
 rw [if_pos (r113_val hV ha hta hb htb)] at hw
 by_cases hl:(l.length:Int)=(h.rooms.length:Int)
 case neg=>rw [if_neg hl] at hw; cases hw
 rw [if_pos hl] at hw
 rcases R52_R55 h a ta b tb l l with ⟨e1,_⟩|⟨e1,_,e3⟩
 ·rw [e1] at hw; cases hw
 ·rw [e1] at hw
  have hw:(if ta<lget l a.toNat then (8:Int) else if lget l b.toNat≤tb then 8 else if r118 h l=true then 0 else 8)=0:=hw
  by_cases k1:ta<lget l a.toNat
  ·rw [if_pos k1] at hw; cases hw
  rw [if_neg k1] at hw
  by_cases k2:lget l b.toNat≤tb
  ·rw [if_pos k2] at hw; cases hw
  rw [if_neg k2] at hw
  by_cases k3:r118 h l=true
  case neg=>rw [if_neg k3] at hw; cases hw
  refine ⟨by omega,e3,by omega,by omega,fun p hp hle=>?_⟩
  unfold r118 at k3
  have k3:(psg h).any (bad h l)=false:=by simpa using k3
  rw [List.any_eq_false] at k3
  have kf:=(psg_ok hV hp).f
  have h0:=e3 _ (lget_mem' (l:=l) (i:=p.fr.toNat) (by omega))
  have:=k3 p hp
  unfold bad at this
  rw [r88_iff.2 ⟨h0.1,hle⟩,Bool.true_and,decide_eq_true_eq] at this
  omega
theorem wall_least {h:Hs} (hV:r59 h=0) {a ta:Int} {l:List Int} (ha:0≤a∧a<(h.rooms.length:Int)) (hta:0≤ta∧ta≤1073741823) (hl:l.length=h.rooms.length) (hr:∀ x ∈ l,0≤x∧x≤1073741824) (h1:lget l a.toNat≤ta) (hc:∀ p ∈ psg h,lget l p.fr.toNat≤1073741823→lget l p.to.toNat≤r145 p (lget l p.fr.toNat) h) :
  ∀ i,i<h.rooms.length→lget l i≤lget (r106 h a ta) i :=
 r106_least hV ha hta (fun i=>lget l i) (fun p hp t hWt ht=>by
  have kf:=(psg_ok hV hp).f
  have hWt:lget l p.fr.toNat≤t:=hWt
  have h0:=hr _ (lget_mem' (l:=l) (i:=p.fr.toNat) (by omega))
  exact Int.le_trans (hc p hp (by omega)) (r145_mono (psg_ok hV hp).ok h0.1 hWt)) h1 (fun i hi=>(hr _ (lget_mem' (l:=l) (i:=i) (by omega))).2)
theorem no_wall {h:Hs} (hV:r59 h=0) {a ta b tb:Int} {l:List Int} (ha:0≤a∧a<(h.rooms.length:Int)) (hta:0≤ta∧ta≤1073741823) (hb:0≤b∧b<(h.rooms.length:Int)) (htb:0≤tb∧tb≤1073741823) (hc:lget (r106 h a ta) b.toNat≤tb):r52 h a ta b tb l=8:=by
 have h08:r52 h a ta b tb l=0∨r52 h a ta b tb l=8:=by
  rw [wall_eq]; unfold r53
  rw [if_pos (show r49 h a ta b tb=0 by rw [← two_eq]; exact r113_val hV ha hta hb htb)]
  split<;>simp
 rcases h08 with h0|h8
 ·have q:=wall_le hV ha hta hb htb h0
  have:=wall_least hV ha hta q.1 q.2.1 q.2.2.1 q.2.2.2.2 b.toNat (by omega)
  omega
 ·exact h8
theorem r70_room {h:Hs} (hF:r68 h=true) (n:Int):0≤r70 n (h.rooms.length:Int)∧r70 n (h.rooms.length:Int)<(h.rooms.length:Int):=by
 have q:=r68_ok hF
 have:=rooms_pos q.2; have:=rooms_len q.2
 exact r70_ok (by omega)
theorem r17_true (h:Hs) (a ta b tb:Int) (l:List Int):r17 h a ta b tb l=true:=by
 unfold r17
 by_cases h1:r68 h=true
 case neg=>rw [if_neg h1]
 by_cases h2:r69 ta=true
 case neg=>rw [if_pos h1,if_neg h2]
 by_cases h3:r69 tb=true
 case neg=>rw [if_pos h1,if_pos h2,if_neg h3]
 by_cases h4:40<(l.length:Int)
 ·rw [if_pos h1,if_pos h2,if_pos h3,if_pos h4]
 rw [if_pos h1,if_pos h2,if_pos h3,if_neg h4]
 have hV:=(r68_ok h1).2
 have ha:=r70_room h1 a; have hb:=r70_room h1 b
 have hta:=r69_iff.1 h2; have htb:=r69_iff.1 h3
 generalize r70 a (h.rooms.length:Int)=A at *
 generalize r70 b (h.rooms.length:Int)=B at *
 have e45:r45 h A ta B tb=(decide (lget (r106 h A ta) B.toNat≤tb),0):=by unfold r45; rw [if_pos (r113_val hV ha hta hb htb)]
 have bw:=both_ways hV ha hta hb htb
 have e54:r54 h A ta B tb=if lget (r106 h A ta) B.toNat≤tb then ([],5) else (r106 h A ta,0):=by unfold r54; rw [if_pos (r113_val hV ha hta hb htb)]
 rw [e45,r41_val hV ha hta,r43_val hV hb htb,e54,r112_len,r106_len hV hta]
 by_cases c:lget (r106 h A ta) B.toNat≤tb
 ·rw [no_wall hV ha hta hb htb c]
  simp [c,bw.1 c]
 ·have c':¬ ta≤lget (r112 h B tb) A.toNat:=fun e=>c (bw.2 e)
  have w:=wall_106 hV ha hta hb htb c
  simp [c,c',w]
end House
end Go.Proofs
