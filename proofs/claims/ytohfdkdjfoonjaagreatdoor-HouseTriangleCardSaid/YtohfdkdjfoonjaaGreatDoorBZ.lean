import Derived.Test.YtohfdkdjfoonjaaGreatDoorBW
import Derived.Test.YtohfdkdjfoonjaaGreatDoorBX
import Derived.Test.YtohfdkdjfoonjaaGreatDoorBY
section
set_option linter.unusedSimpArgs false
set_option linter.unusedVariables false
namespace Go.Proofs
namespace House
open Go Go.RowKit Go.Aev
set_option maxRecDepth 100000
theorem r106_least {h:Hs} (hV:r59 h=0) {fr ti:Int} (hf:0≤fr∧fr<(h.rooms.length:Int)) (ht:0≤ti∧ti≤1073741823) (W:Nat→Int) (hW:∀ p ∈ psg h,∀ t,W p.fr.toNat≤t→0≤t∧t≤1073741823→W p.to.toNat≤r145 p t h) (h0:W fr.toNat≤ti) (h1:∀ i,i<h.rooms.length→W i≤1073741824) :
  ∀ i,i<h.rooms.length→W i≤lget (r106 h fr ti) i:=least (fr:=fr) W (crs hV) hW hf ht h0 h1
end House
end Go.Proofs
end
section
set_option linter.unusedSimpArgs false
set_option linter.unusedVariables false
namespace Go.Proofs
namespace House
open Go Go.RowKit Go.Aev
set_option maxRecDepth 100000
theorem r41_val {h:Hs} (hV:r59 h=0) {a ta:Int} (ha:0≤a∧a<(h.rooms.length:Int)) (hta:0≤ta∧ta≤1073741823):r41 h a ta=(r106 h a ta,0):=by
 unfold r41
 rw [if_pos (r102_iff.2 ha),r84_eq,if_pos hV,if_pos (r88_iff.2 hta),if_pos rfl]
theorem r70_room {h:Hs} (hF:r68 h=true) (n:Int):0≤r70 n (h.rooms.length:Int)∧r70 n (h.rooms.length:Int)<(h.rooms.length:Int):=by
 have q:=r68_ok hF
 have:=rooms_pos q.2; have:=rooms_len q.2
 exact r70_ok (by omega)
end House
end Go.Proofs
end
section
set_option linter.unusedSimpArgs false
set_option linter.unusedVariables false
namespace Go.Proofs
namespace House
open Go Go.RowKit Go.Aev
set_option maxRecDepth 100000
def pgOf (h:Hs) (k:Int) (b:Bool):Pg:=⟨(r144 h k b).1.1,(r144 h k b).1.2.1,(r144 h k b).1.2.2.1,(r144 h k b).1.2.2.2.1,(r144 h k b).1.2.2.2.2.1,(r144 h k b).1.2.2.2.2.2⟩
theorem R148_has (h:Hs) (b:Bool) (i:Nat) (hb:(r144 h (i:Int) b).2=true):∀ (m:List Wy) (j:Nat),m.length+j=h.ways.length→j≤i→i<h.ways.length→pgOf h i b ∈ R148_0 h.rooms h.doors h.ways m j:=by
 intro m
 induction m with
 | nil=>intro j h1 h2 h3; simp at h1; omega
 | cons w m ih =>
  intro j h1 h2 h3
  have ih':=ih (j+1) (by simp only [List.length_cons] at h1; omega)
  rw [R148_0]
  by_cases e:j=i
  ·subst e
   cases b with
   | false=>rw [if_pos hb]; exact List.mem_cons_self
   | true =>
    split
    ·refine List.mem_cons_of_mem _ ?_
     first|exact List.mem_cons_self|(rw [if_pos hb]; exact List.mem_cons_self)
    ·first|exact List.mem_cons_self|(rw [if_pos hb]; exact List.mem_cons_self)
  ·have q:=ih' (by omega) h3
   split
   ·refine List.mem_cons_of_mem _ ?_
    split
    ·exact List.mem_cons_of_mem _ q
    ·exact q
   ·split
    ·exact List.mem_cons_of_mem _ q
    ·exact q
theorem psg_mem {h:Hs} {k:Int} {b:Bool} (hk:0≤k∧k<(h.ways.length:Int)) (hb:(r144 h k b).2=true):pgOf h k b ∈ psg h:=by
 have e:((k.toNat:Nat):Int)=k:=by omega
 have q:=R148_has h b k.toNat (by rw [e]; exact hb) h.ways 0 (by simp) (by omega) (by omega)
 rw [e] at q
 exact q
end House
end Go.Proofs
end
