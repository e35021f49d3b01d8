import Derived.Test.YtohfdkdjfoonjaaGreatDoorBZ
import Derived.Test.YtohfdkdjfoonjaaGreatDoorBW
set_option linter.unusedSimpArgs false
set_option linter.unusedVariables false
namespace Go.Proofs
namespace House
open Go Go.RowKit Go.Aev
set_option maxRecDepth 100000
def unw (w:Wy):Wy:=⟨w.a,w.b,w.secs,w.back,-1⟩
def pl (h:Hs):Hs:=⟨h.rooms,[],h.ways.map unw⟩
theorem R23_1_pl (h:Hs) (i:Nat) (x:Rm):∀ (m j:Nat),R23_1 (pl h) i x m j=R23_1 h i x m j:=by
 intro m
 induction m with
 | zero=>intro j; rfl
 | succ m ih=>intro j; rw [R23_1,R23_1,ih]; rfl
theorem R23_0_pl (h:Hs):∀ (m:List Rm) (i:Nat),R23_0 (pl h) m i=R23_0 h m i:=by
 intro m
 induction m with
 | nil=>intro i; rfl
 | cons x m ih=>intro i; rw [R23_0,R23_0,R23_1_pl]; simp only [ih]
theorem R23_3_all (h:Hs):∀ (m:List Wy) (k:Nat),(∀ x ∈ m,r83 h x=true)→R23_3 h m k=.inr ():=by
 intro m
 induction m with
 | nil=>intro k _; rfl
 | cons y m ih=>intro k hm; rw [R23_3,if_pos (hm y (by simp))]; exact ih _ (fun x hx=>hm x (by simp [hx]))
theorem r83_unw {h:Hs} {x:Wy} (e:r83 h x=true):r83 (pl h) (unw x)=true:=by
 unfold r83 at e ⊢
 split at e
 case isFalse=>simp at e
 rename_i a1
 split at e
 case isFalse=>simp at e
 rename_i a2
 split at e
 ·simp at e
 rename_i a3
 split at e
 case isFalse=>simp at e
 rename_i a4
 split at e
 case isFalse=>simp at e
 rename_i a5
 have a1:r71 (unw x).a 0 (((pl h).rooms.length:Int) - 1)=true:=a1
 have a2:r71 (unw x).b 0 (((pl h).rooms.length:Int) - 1)=true:=a2
 have a3:¬ (unw x).a=(unw x).b:=a3
 have a4:r71 (unw x).secs 1 3600=true:=a4
 have a5:r71 (unw x).back 0 3600=true:=a5
 rw [if_pos a1,if_pos a2,if_neg a3,if_pos a4,if_pos a5]
 exact r71_iff.2 ⟨Int.le_refl _,by show (-1:Int)≤((0:Nat):Int) - 1; omega⟩
theorem pl_ok {h:Hs} (hV:r59 h=0):r59 (pl h)=0:=by
 have v:=valid_parts hV
 have e:=hV
 unfold r59 r23 at e ⊢
 have l1:((pl h).rooms.length:Int)=(h.rooms.length:Int):=rfl
 have l2:((pl h).doors.length:Int)=0:=rfl
 have l3:((pl h).ways.length:Int)=(h.ways.length:Int):=by show (((h.ways.map unw).length:Nat):Int)=_; rw [List.length_map]
 have r3:R23_3 (pl h) (pl h).ways 0=.inr ():=R23_3_all _ _ _ (fun x hx=>by
  obtain ⟨y,hy,rfl⟩:=List.mem_map.1 hx
  exact r83_unw (R23_3_ok h _ _ v.2.1 y hy))
 have r2:R23_2 (pl h) (pl h).doors 0=.inr ():=rfl
 have r0:R23_0 (pl h) (pl h).rooms 0=R23_0 h h.rooms 0:=R23_0_pl h _ _
 rw [l1,l2,l3,r0,r2,r3]
 rw [v.1,v.2.1] at e
 split at e
 ·simp at e
 rename_i g1
 split at e
 ·simp at e
 rename_i g2
 split at e
 ·simp at e
 split at e
 ·simp at e
 rename_i g4
 rw [if_neg g1,if_neg g2,if_neg (by omega),if_neg g4]
 exact e
end House
end Go.Proofs
