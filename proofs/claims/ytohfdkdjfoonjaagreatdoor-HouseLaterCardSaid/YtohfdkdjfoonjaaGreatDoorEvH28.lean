import Derived.Test.YtohfdkdjfoonjaaGreatDoorBU
set_option linter.unusedSimpArgs false
set_option linter.unusedVariables false
namespace Go.Proofs
namespace House
open Go Go.RowKit Go.Aev
set_option maxRecDepth 100000
theorem TY_EvH28:type_of% TY_EvH27:=TY_EvH27
def r113 (h:Hs) (a:Int) (ta:Int) (b:Int) (tb:Int):Int:=(if (r102 h a)=true then (if (r88 ta)=true then (if (r102 h b)=true then (r84 h (r88 tb)) else (r84 h false)) else (r84 h false)) else (r84 h false))
def r49 (h:Hs) (a:Int) (ta:Int) (b:Int) (tb:Int):Int:=(if (r104 h a ta)=0 then (r104 h b tb) else (r104 h a ta))
theorem r106_len {h:Hs} (hV:r59 h=0) {fr ti:Int} (ht:0≤ti∧ti≤1073741823):(r106 h fr ti).length=h.rooms.length:=(r109_tm (rooms:=h.rooms.length) (fr:=fr) ht (psg_hg hV)).1.len
theorem rooms_len {h:Hs} (hV:r59 h=0):h.rooms.length≤24:=(valid_parts hV).2.2.1
theorem r41_len (h:Hs) (fr ti:Int):(r41 h fr ti).1.length≤1000:=by
 unfold r41
 split
 ·split
  ·rename_i h2
   have q:=r84_ok h2
   have k:=r106_len (fr:=fr) q.1 (r88_iff.1 q.2)
   have:=rooms_len q.1
   simp only; omega
  ·simp
 ·simp
theorem R43_0_eq (h:Hs) (fr ti:Int):∀ (m:Nat) (pl:List Pg) (k:Nat),m+k=(psg h).length+1→k≤(psg h).length→pl.length=(psg h).length→R43_0 h fr ti m pl k=pl.take k++(pl.drop k).map swp:=by
 intro m
 induction m with
 | zero=>intro pl k h1 h2 _; omega
 | succ m ih =>
  intro pl k h1 h2 h3
  rw [R43_0]
  split
  ·rename_i hk
   have hk':k<pl.length:=by omega
   rw [lget_set_self hk',ih _ _ (by omega) (by omega) (by rw [List.length_set,List.length_set]; exact h3)]
   exact swp_set hk' rfl
  ·have hk:k=pl.length:=by omega
   rw [hk,List.take_length,List.drop_length,List.map_nil,List.append_nil]
theorem R43_0_swp (h:Hs) (fr ti:Int):R43_0 h fr ti ((psg h).length+1) (psg h) 0=(psg h).map swp:=R43_0_eq h fr ti _ _ _ (by omega) (by omega) rfl
def r45 (h:Hs) (a:Int) (ta:Int) (b:Int) (tb:Int):Bool × Int:=(if (r113 h a ta b tb)=0 then (decide ((lget (r106 h a ta) (Int.toNat b))≤tb),0) else (false,(r113 h a ta b tb)))
theorem R112_3_len (h:Hs) (fr ti:Int) (out:List Int) (done:List Bool) (nv:Nat):∀ (m:List Gt) (o:List Int),(R112_3 h fr ti out done nv m o).length=o.length:=by
 intro m
 induction m with
 | nil=>intro o; rfl
 | cons g m ih=>intro o; rw [R112_3]; split<;>rw [ih]; rw [List.length_set]
theorem R112_1_len (h:Hs) (fr ti:Int):∀ (m:List Rm) (o:List Int) (d:List Bool) (nv:Nat),(onSum (R112_1 h fr ti m o d nv) (fun r=>r) (fun r=>r)).length=o.length:=by
 intro m
 induction m with
 | nil=>intro o d nv; rfl
 | cons x m ih =>
  intro o d nv
  rw [R112_1]
  split
  ·rfl
  ·rw [ih,R112_3_len]
theorem R112_0_eq (h:Hs) (fr ti:Int):∀ (m:List Rm) (o:List Int) (d:List Bool),R112_0 h fr ti m o d=(o++List.replicate m.length (-1),d++List.replicate m.length false):=by
 intro m
 induction m with
 | nil=>intro o d; simp [R112_0]
 | cons x m ih=>intro o d; rw [R112_0,ih]; simp [List.replicate_succ]
theorem r112_len (h:Hs) (fr ti:Int):(r112 h fr ti).length=h.rooms.length:=by
 unfold r112
 rw [R112_1_len,List.length_set,R112_0_eq]; simp
def r46 (h:Hs) (a:Int) (ta:Int) (b:Int) (tb:Int):Bool × Int:=(if (r49 h a ta b tb)=0 then (decide ((lget (r50 h a ta) (Int.toNat b))≤tb),0) else (false,(r49 h a ta b tb)))
def R47_0 (l:List Int) (q:List Int)  : List Int→Nat→Sum (Bool) (Unit)
 | [],k=>.inr ()
 | x4 :: l',k=>(if x4=(lget q k) then R47_0 l q l' (k+1) else .inl false)
def r47 (l:List Int) (q:List Int):Bool:=(if (l.length:Int)=(q.length:Int) then (onSum (R47_0 l q l 0) (fun (r4:Bool)=>r4) (fun (_:Unit)=>true)) else false)
def r7 (h:Hs) (a:Int) (ta:Int) (b:Int) (tb:Int):Bool:=(if (r20 h)=true then (if ((r41 h a ta).2)=(((r42 h a ta)).2) then (if (r47 ((r41 h a ta).1:List Int) (((r42 h a ta).1):List Int))=true then (if ((r43 h b tb).2)=(((r44 h b tb)).2) then (if (r47 ((r43 h b tb).1:List Int) (((r44 h b tb).1):List Int))=true then (if ((r45 h a ta b tb).1)=((r46 h a ta b tb).1) then decide (((r45 h a ta b tb).2)=((r46 h a ta b tb).2)) else false) else false) else false) else false) else false) else true)
end House
end Go.Proofs
