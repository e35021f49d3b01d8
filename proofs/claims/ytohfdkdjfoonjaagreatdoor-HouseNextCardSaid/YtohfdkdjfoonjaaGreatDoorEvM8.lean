import Derived.Test.YtohfdkdjfoonjaaGreatDoorEvH17
set_option linter.unusedSimpArgs false
set_option linter.unusedVariables false
namespace Go.Proofs
namespace House
open Go Go.RowKit Go.Aev
set_option maxRecDepth 100000
theorem r22_59 (h:Hs):(r22 h).1=r59 h:=by rw [check_eq]; rfl
theorem r84_sel (h:Hs) (b:Bool):r84 h b=if r59 h=0 then (if b=true then 0 else 1) else r59 h:=by unfold r84; rw [r22_59]
theorem r85_eq (h:Hs) (n t:Int):r85 h n t=if r59 h=0 then (if (0≤n∧n<(h.doors.length:Int))∧(0≤t∧t≤1073741823) then 0 else 1) else r59 h:=by
 unfold r85
 by_cases h0:r59 h=0
 ·rw [if_pos h0,if_pos h0]
  by_cases h1:0≤n∧n<(h.doors.length:Int)
  ·rw [if_pos (r71_iff.2 (by omega))]
   by_cases h2:0≤t∧t≤1073741823
   ·rw [if_pos (r69_iff.2 h2),if_pos ⟨h1,h2⟩,h0]
   ·rw [if_neg (fun e=>h2 (r69_iff.1 e)),if_neg (fun e=>h2 e.2)]
  ·rw [if_neg (fun e=>h1 (by have:=r71_iff.1 e; omega)),if_neg (fun e=>h1 e.1)]
 ·rw [if_neg h0,if_neg h0]
theorem door_ok {h:Hs} {n t:Int} (e:r85 h n t=0):OkO (lget h.doors (Int.toNat n))∧0≤t∧t≤1073741823:=by
 have q:=r85_ok e
 exact ⟨oko q.1 (List.mem_of_getElem? (lget_some (by omega))),q.2.2.2.1,q.2.2.2.2⟩
def Bq (l:List Sp):Prop:=∀ y ∈ l,0≤y.hi∧y.hi≤1073741823
theorem lget_mem {l:List Sp} {k:Nat} (h:k<l.length):lget l k ∈ l:=List.mem_of_getElem? (lget_some h)
theorem joinW_eq {l:List Sp} (hb:Bq l) (x:Sp):joinW l x=joinS l x:=by
 unfold joinW joinS
 by_cases h:0<l.length
 ·have q:=hb _ (lget_mem (show l.length - 1<l.length by omega))
  have w:IntKind.i64.wrap ((lget l (l.length - 1)).hi+1)=(lget l (l.length - 1)).hi+1:=by rw [IntWalk.i64_in]; omega
  rw [w]
 ·rw [if_neg (fun e=>h e.1),if_neg (fun e=>h e.1)]
theorem joinS_b {l:List Sp} (hb:Bq l) {x:Sp} (hx:0≤x.hi∧x.hi≤1073741823):Bq (joinS l x):=by
 intro y hy
 unfold joinS at hy
 split at hy
 ·rcases List.mem_or_eq_of_mem_set hy with h|rfl
  ·exact hb y h
  ·exact hx
 ·rcases List.mem_append.1 hy with h|h
  ·exact hb y h
  ·rw [List.mem_singleton.1 h]; exact hx
theorem foldl_join:∀ (ys l:List Sp),Bq ys→Bq l→ys.foldl joinW l=ys.foldl joinS l:=by
 intro ys
 induction ys with
 | nil=>intro l _ _; rfl
 | cons y ys ih =>
  intro l h1 h2
  rw [List.foldl_cons,List.foldl_cons,joinW_eq h2]
  exact ih _ (fun z hz=>h1 z (by simp [hz])) (joinS_b h2 (h1 y (by simp)))
theorem pcs_b (d:Dr) (shi:Int) (hs:0≤shi∧shi≤1073741823):∀ (m:Nat) (t:Int),0≤t→Bq (pcs d shi m t):=by
 intro m
 induction m with
 | zero=>intro t _ y hy; simp [pcs] at hy
 | succ m ih =>
  intro t h0
  have he:=r95_ge (d:=d) h0
  rw [pcs]
  split
  ·have h:=ih (min (r95 d t) shi+1) (by omega)
   split
   ·intro y hy
    rcases List.mem_cons.1 hy with rfl|hy
    ·simp only; omega
    ·exact h y hy
   ·exact h
  ·intro y hy; simp at hy
theorem R33_pcs (h:Hs) (n slo shi:Int):∀ (m:Nat) (out:List Sp) (t:Int),R33_0 h n slo shi m out t=(pcs (lget h.doors (Int.toNat n)) shi m t).foldl joinS out:=by
 intro m
 induction m with
 | zero=>intro out t; rfl
 | succ m ih =>
  intro out t
  rw [R33_0,pcs]
  by_cases h1:t≤shi
  ·rw [if_pos h1,if_pos h1]
   by_cases h2:r86 (lget h.doors (Int.toNat n)) t=true
   ·rw [if_pos h2,if_pos h2,List.foldl_cons]
    by_cases h3:0<(out.length:Int)
    ·have e1:Int.toNat (max ((out.length:Int) - 1) 0)=out.length - 1:=by omega
     have e2:Int.toNat ((out.length:Int) - 1)=out.length - 1:=by omega
     rw [if_pos h3,e1,e2]
     by_cases h4:(lget out (out.length - 1)).hi=t - 1
     ·rw [if_pos h4,ih]
      congr 1
      unfold joinS
      rw [if_pos ⟨by omega,by simp only; omega⟩]
     ·rw [if_neg h4,ih]
      congr 1
      unfold joinS
      rw [if_neg (fun e=>h4 (by have:=e.2; simp only at this; omega))]
    ·rw [if_neg h3,ih]
     congr 1
     unfold joinS
     rw [if_neg (fun e=>h3 (by have:=e.1; omega))]
   ·rw [if_neg h2,if_neg h2,ih]
  ·rw [if_neg h1,if_neg h1]; rfl
theorem r32_eq (h:Hs) (n slo shi:Int):r32 h n slo shi=r33 h n slo shi:=by
 unfold r32 r33
 by_cases h0:r59 h=0
 case neg =>
  have e5:r85 h n 0=r59 h:=by rw [r85_eq,if_neg h0]
  have e4:∀ b,r84 h b=r59 h:=fun b=>by rw [r84_sel,if_neg h0]
  rw [e5,e4,e4,if_neg h0,if_neg h0]
  split<;>rfl
 by_cases h1:r87 h n=true
 case neg =>
  have e5:r85 h n 0=1:=by rw [r85_eq,if_pos h0,if_neg (fun e=>h1 (r87_iff.2 e.1))]
  have e4:r84 h false=1:=by rw [r84_sel,if_pos h0,if_neg (by decide)]
  rw [if_neg h1,e4,e5,if_neg (by decide)]
 have h1':=r87_iff.1 h1
 have e5:r85 h n 0=0:=by rw [r85_eq,if_pos h0,if_pos ⟨h1',by omega⟩]
 rw [if_pos h1,if_pos e5]
 by_cases h2:r93 slo shi=true
 case neg =>
  have e4:r84 h (r93 slo shi)=1:=by rw [r84_sel,if_pos h0,if_neg h2]
  rw [e4,if_neg (by decide)]
  by_cases h3:shi<slo
  ·rw [if_pos h3]
  rw [if_neg h3]
  by_cases h4:r69 slo=true
  ·rw [if_pos h4]
   by_cases h5:r69 shi=true
   ·exact absurd (r93_iff.2 ⟨by omega,(r69_iff.1 h4).1,(r69_iff.1 h5).2⟩) h2
   ·rw [if_neg h5]
  ·rw [if_neg h4]
 have h2':=r93_iff.1 h2
 have e4:r84 h (r93 slo shi)=0:=by rw [r84_sel,if_pos h0,if_pos h2]
 have a1:r69 slo=true:=r69_iff.2 (by omega)
 have a2:r69 shi=true:=r69_iff.2 (by omega)
 rw [if_pos e4,if_neg (show ¬ shi<slo by omega),if_pos a1,if_pos a2]
 by_cases h3:604800≤shi - slo
 ·rw [if_pos h3,if_pos h3]
 rw [if_neg h3,if_neg h3]
 have q:=door_ok e5
 congr 1
 have hp:=r140_pcs (lget h.doors (Int.toNat n)).hours (lget h.doors (Int.toNat n)).shut slo shi q.1 (by omega)
 rw [hp,R33_pcs]
 exact foldl_join _ _ (pcs_b _ shi (by omega) _ slo (by omega)) (fun y hy=>by simp at hy)
end House
end Go.Proofs
