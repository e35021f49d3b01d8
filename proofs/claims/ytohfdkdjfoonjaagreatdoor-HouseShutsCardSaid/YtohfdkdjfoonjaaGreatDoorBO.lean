import Derived.Test.YtohfdkdjfoonjaaGreatDoorEvH0
import Derived.Test.YtohfdkdjfoonjaaGreatDoorAE3
import Derived.Test.YtohfdkdjfoonjaaGreatDoorRows
import Derived.JoinedOf
import Derived.KernelRfl
section
set_option linter.unusedSimpArgs false
set_option linter.unusedVariables false
namespace Go.Aev
open Go Go.RowKit Go.WideShapes Go.ChangeShapes
structure BStr where
 s:ByteArray
instance repBStr:Rep BStr:=⟨1,fun _ cs x=>cs=[.string x.s]∧x.s.size≤9223372036854775807,fun h=>by rw [h.1]; rfl,fun h _=>h⟩
theorem Opens.bstr {P:Program} {t:TypeId} (hu:P.underlying t=some .string) (hc:P.cellsOf t=1):Opens P t BStr:=by
 refine ⟨hc,fun H enc W fuel cs x G σ S h hr=>?_⟩
 obtain ⟨n,rfl,_,hb⟩:=DataW.trod_string hu h
 exact ⟨σ,S,_,⟨n⟩,Sig.le_refl _,hr,Agree.refl S,ARL.one (.str _),rfl,by unfold maxLen at hb; omega⟩
theorem agg_vr {σ:Sig} {l:List Value} {cs:Array Value} (h:ARL σ l (Value.agg cs).cells.toList):VR σ (.agg l.toArray) (.agg cs):=VR.agg_iff.2 ⟨_,rfl,by simpa [Value.cells] using (show AR σ l.toArray (Value.agg cs).cells.toList.toArray from AR.of_get (by simpa using h.1) fun i v v' h1 h2=>h.2 i v v' (by simpa using h1) (by simpa using h2))⟩
theorem okWide_agg {P:Program} {w:World} {b:Nat} {t:TypeId} {fs:Array Field} {v:Value} (hu:P.underlying t=some (.struct fs)) (h:Value.okWide P w .any b t v):∃ cs,v=.agg cs:=by
 unfold Value.okWide at h
 rw [hu] at h
 obtain ⟨cs,rfl,_⟩:=h
 exact ⟨cs,rfl⟩
theorem slice_vr {P:Program} {W:World} {σ:Sig} {b:Nat} {t e:TypeId} {v w:Value} (hu:P.underlying t=some (.slice e)) (h:Value.okWide P W .any b t v) (x:ARL σ [w] v.cells.toList):VR σ w v:=by
 obtain ⟨a,len,cap,rfl⟩:=okWide_slice hu h
 exact x.2 0 w _ rfl rfl
end Go.Aev
namespace Go.Proofs
namespace House
open Go Go.RowKit Go.Aev
set_option maxRecDepth 100000
instance:Rep Hs:=⟨3,fun S cs x=>∃ w0 w1 w2,cs=[w0,w1,w2]∧LstR S w0 x.rooms∧LstR S w1 x.doors∧Lst S w2 x.ways,fun ⟨_,_,_,h,_⟩=>by rw [h]; rfl,fun ⟨w0,w1,w2,h,h1,h2,h3⟩ ha=>⟨w0,w1,w2,h,h1.agree ha,h2.agree ha,h3.agree ha⟩⟩
theorem opInt:Opens Tryz.prog 3 Int:=.int Tryz.underlying3 (by kernel_rfl)
theorem opSp:Opens Tryz.prog 36 Sp :=
 Opens.map (α:=Pr Int (Pr Int Unit)) (Opens.struct Tryz.underlying36 (.cons opInt rfl (.cons opInt rfl (.nil _))) (by kernel_rfl)) rfl (fun p=>⟨p.a,p.b.a⟩)
  (fun S cs p h=>by obtain ⟨zc1,zc2,rfl,rfl,zc3,zc4,rfl,rfl,rfl⟩:=h; rfl)
theorem opWy:Opens Tryz.prog 92 Wy :=
 Opens.map (α:=Pr Int (Pr Int (Pr Int (Pr Int (Pr Int Unit))))) (Opens.struct Tryz.underlying92 (.cons opInt rfl (.cons opInt rfl (.cons opInt rfl (.cons opInt rfl (.cons opInt rfl (.nil _)))))) (by kernel_rfl)) rfl (fun p=>⟨p.a,p.b.a,p.b.b.a,p.b.b.b.a,p.b.b.b.b.a⟩)
  (fun S cs p h=>by obtain ⟨zc1,zc2,rfl,rfl,zc3,zc4,rfl,rfl,zc5,zc6,rfl,rfl,zc7,zc8,rfl,rfl,zc9,zc10,rfl,rfl,rfl⟩:=h; rfl)
theorem opRm:Opens Tryz.prog 110 Rm :=
 Opens.map (α:=Pr BStr (Pr Int Unit)) (Opens.struct Tryz.underlying110 (.cons (.bstr Tryz.underlying9 (by kernel_rfl)) rfl (.cons opInt rfl (.nil _))) (by kernel_rfl)) rfl (fun p=>⟨p.a.s,p.b.a⟩)
  (fun S cs p h=>by obtain ⟨zc1,zc2,rfl,⟨rfl,hb⟩,zc3,zc4,rfl,rfl,rfl⟩:=h; exact ⟨rfl,hb⟩)
theorem opSps:Opens Tryz.prog 40 (List Sp):=.slice Tryz.underlying40 opSp (by decide) (by kernel_rfl)
theorem opDr:Opens Tryz.prog 98 Dr :=
 Opens.map (α:=Pr (List Sp) (Pr (List Sp) Unit)) (Opens.struct Tryz.underlying98 (.cons opSps rfl (.cons opSps rfl (.nil _))) (by kernel_rfl)) rfl (fun p=>⟨p.a,p.b.a⟩)
  (fun S cs p h=>by obtain ⟨zc1,zc2,rfl,⟨w0,rfl,h0⟩,zc3,zc4,rfl,⟨w1,rfl,h1⟩,rfl⟩:=h; exact ⟨w0,w1,rfl,h0.flat,h1.flat⟩)
theorem opHs:Opens Tryz.prog 26 Hs :=
 Opens.map (α:=Pr (List Rm) (Pr (List Dr) (Pr (List Wy) Unit))) (Opens.struct Tryz.underlying26 (.cons (.slice Tryz.underlying22 opRm (by decide) (by kernel_rfl)) rfl (.cons (.slice Tryz.underlying23 opDr (by decide) (by kernel_rfl)) rfl (.cons (.slice Tryz.underlying24 opWy (by decide) (by kernel_rfl)) rfl (.nil _)))) (by kernel_rfl)) rfl (fun p=>⟨p.a,p.b.a,p.b.b.a⟩)
  (fun S cs p h=>by obtain ⟨zc1,zc2,rfl,⟨w0,rfl,h0⟩,zc3,zc4,rfl,⟨w1,rfl,h1⟩,zc5,zc6,rfl,⟨w2,rfl,h2⟩,rfl⟩:=h; exact ⟨w0,w1,w2,rfl,h0,h1,h2.flat⟩)
end House
end Go.Proofs
end
section
set_option linter.unusedSimpArgs false
set_option linter.unusedVariables false
namespace Go.Proofs.YtohfdkdjfoonjaaGreatDoor
open Go Go.Proofs
set_option maxRecDepth 100000
theorem band {a b:Bool} (h:a=true) (k:b=true):(a && b)=true:=by rw [h,k]; rfl
theorem sh1:(laidOutB Tryz.prog)=true:=by kernel_rfl
theorem sh2:(mapsRowed Tryz.prog)=true:=by kernel_rfl
theorem sh6:((Tryz.prog.stops == []))=true:=by kernel_rfl
theorem sh8:((Tryz.prog.stopKnobs == []))=true:=by kernel_rfl
theorem sh22:((Rows.houseChecksRow.plainKeys == Tryz.prog.plainKeys))=true:=by kernel_rfl
theorem sh24:(Tryz.prog.stopsHeard)=true:=by kernel_rfl
theorem sh25:(Tryz.prog.mayEnter)=true:=by kernel_rfl
theorem sh26:((Rows.houseChecksRow.lifted == Tryz.prog.liftsFinal))=true:=by kernel_rfl
theorem sh27:((Tryz.prog.make == some Rows.houseChecksRow.make))=true:=by kernel_rfl
theorem sh29:((Rows.houseChecksRow.pinned == Rows.houseChecksRow.pinnedBy))=true:=by kernel_rfl
end Go.Proofs.YtohfdkdjfoonjaaGreatDoor
end
