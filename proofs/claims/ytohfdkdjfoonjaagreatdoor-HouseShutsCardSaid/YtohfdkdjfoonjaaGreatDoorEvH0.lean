import Derived.Test.YtohfdkdjfoonjaaGreatDoorAE5
import Derived.Test.YtohfdkdjfoonjaaGreatDoorAE4
import Derived.Test.YtohfdkdjfoonjaaGreatDoorProg
import Derived.IntWalk
set_option linter.unusedSimpArgs false
set_option linter.unusedVariables false
namespace Go.Proofs
namespace House
open Go Go.RowKit Go.Aev
set_option maxRecDepth 100000
noncomputable def E0:Env:=symEnv 4 (orcTrue 21 (mkEnv 4 164 175 5).orc)
theorem E0_G:E0.G=4:=rfl
theorem E0_same:∀ S,E0.same S S=true:=fun S=>symEnv_same (Agree.refl S)
theorem fin {v v':Value} {S0 S':AS} {z:Option (Value × AS)} (hz:some (v,S')=z) (hv:v=v') (ha:Agree S0 S'):∃ S'',z=some (v',S'')∧Agree S0 S'':=⟨S',by rw [← hz,hv],ha⟩
theorem wr64 {n:Int} (h : -9223372036854775808≤n∧n≤9223372036854775807):IntKind.i64.wrap n=n:=IntWalk.i64_in n h
theorem c21s (S:AS):(evL Tryz.prog E0).call 21 #[] S=some (.bool true,S):=by rw [L_call]; rfl
structure Sp where
 lo:Int
 hi:Int
instance:Inhabited Sp:=⟨⟨0,0⟩⟩
instance:Flat Sp:=⟨[.i64,.i64],fun x=>[x.lo,x.hi],fun _=>rfl⟩
structure Wy where
 a:Int
 b:Int
 secs:Int
 back:Int
 door:Int
instance:Inhabited Wy:=⟨⟨0,0,0,0,0⟩⟩
instance:Flat Wy:=⟨[.i64,.i64,.i64,.i64,.i64],fun x=>[x.a,x.b,x.secs,x.back,x.door],fun _=>rfl⟩
structure Rm where
 name:ByteArray
 floor:Int
instance:Inhabited Rm:=⟨⟨⟨#[]⟩,0⟩⟩
instance:Rep Rm:=⟨2,fun _ cs x=>cs=[.string x.name,.int .i64 x.floor]∧x.name.size≤9223372036854775807,fun h=>by rw [h.1]; rfl,fun h _=>h⟩
structure Dr where
 hours:List Sp
 shut:List Sp
instance:Inhabited Dr:=⟨⟨[],[]⟩⟩
instance:Rep Dr:=⟨2,fun S cs x=>∃ w0 w1,cs=[w0,w1]∧Lst S w0 x.hours∧Lst S w1 x.shut,fun ⟨_,_,h,_⟩=>by rw [h]; rfl,fun ⟨w0,w1,h,h1,h2⟩ ha=>⟨w0,w1,h,h1.agree ha,h2.agree ha⟩⟩
structure Hs where
 rooms:List Rm
 doors:List Dr
 ways:List Wy
structure Stp where
 way:Int
 back:Bool
 at_:Int
instance:Inhabited Stp:=⟨⟨0,false,0⟩⟩
instance:Rep Stp:=⟨3,fun _ cs x=>cs=[.int .i64 x.way,.bool x.back,.int .i64 x.at_],fun h=>by rw [h]; rfl,fun h _=>h⟩
theorem rooms_size {S:AS} {v:Value} {l:List Rm} (h:LstR S v l):∀ x ∈ l,x.name.size≤9223372036854775807:=by
 intro x hx
 obtain ⟨i,hi,rfl⟩:=List.getElem_of_mem hx
 rcases h with ⟨rfl,_⟩|⟨id,off,c,ty,cap,wr,ex,_,_,_,_,h⟩
 ·simp at hi
 ·obtain ⟨cs,k1,_⟩:=h i _ (List.getElem?_eq_getElem hi)
  exact k1.2
structure Few (h:Hs):Prop where
 r:h.rooms.length≤30
 d:h.doors.length≤20
 w:h.ways.length≤70
 s:∀ x ∈ h.doors,x.hours.length≤12∧x.shut.length≤12
end House
end Go.Proofs
