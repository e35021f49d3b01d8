import Derived.Test.YtpaipdipkgnpdaaGreatBE
import Derived.Test.YtpaipdipkgnpdaaGreatAE3
import Derived.Test.YtpaipdipkgnpdaaGreatRows
import Derived.JoinedOf
import Derived.KernelRfl
section
set_option linter.unusedSimpArgs false
set_option linter.unusedVariables false
namespace Go.Aev
open Go Go.RowKit Go.WideShapes Go.ChangeShapes
theorem agg_vr {σ:Sig} {l:List Value} {cs:Array Value} (h:ARL σ l (Value.agg cs).cells.toList):VR σ (.agg l.toArray) (.agg cs):=VR.agg_iff.2 ⟨_,rfl,by simpa [Value.cells] using (show AR σ l.toArray (Value.agg cs).cells.toList.toArray from AR.of_get (by simpa using h.1) fun i v v' h1 h2=>h.2 i v v' (by simpa using h1) (by simpa using h2))⟩
theorem okWide_agg {P:Program} {w:World} {b:Nat} {t:TypeId} {fs:Array Field} {v:Value} (hu:P.underlying t=some (.struct fs)) (h:Value.okWide P w .any b t v):∃ cs,v=.agg cs:=by
 unfold Value.okWide at h
 rw [hu] at h
 obtain ⟨cs,rfl,_⟩:=h
 exact ⟨cs,rfl⟩
theorem slice_vr {P:Program} {W:World} {σ:Sig} {b:Nat} {t e:TypeId} {v w:Value} (hu:P.underlying t=some (.slice e)) (h:Value.okWide P W .any b t v) (x:ARL σ [w] v.cells.toList):VR σ w v:=by
 obtain ⟨a,len,cap,rfl⟩:=okWide_slice hu h
 exact x.2 0 w _ rfl rfl
end Go.Aev
namespace Go.Proofs
namespace Clock
open Go Go.RowKit Go.Aev
set_option maxRecDepth 100000
abbrev seCells (x:Se) (w:Value):List Value:=[.int .i64 x.id,.int .i64 x.inLo,.int .i64 x.inHi,.int .i64 x.outLo,.int .i64 x.outHi,.int .i64 x.zLo,.int .i64 x.zHi,.int .i64 x.eLo,.int .i64 x.eHi,.int .i64 x.rLo,.int .i64 x.rHi,w]
instance:Rep Se:=⟨12,fun S cs x=>∃ w,cs=seCells x w∧Lst S w x.stops,fun ⟨_,h,_⟩=>by rw [h]; rfl,fun ⟨w,h,h1⟩ ha=>⟨w,h,h1.agree ha⟩⟩
instance:Rep Rc:=⟨14,fun S cs x=>∃ w0 w1 w2,cs=seCells x.ses w0++[w1,w2]∧Lst S w0 x.ses.stops∧Lst S w1 x.strikes∧Lst S w2 x.sights,fun ⟨_,_,_,h,_⟩=>by rw [h]; rfl,fun ⟨w0,w1,w2,h,h1,h2,h3⟩ ha=>⟨w0,w1,w2,h,h1.agree ha,h2.agree ha,h3.agree ha⟩⟩
instance:Rep Rn:=⟨3,fun S cs x=>∃ w,cs=[.int .i64 x.start,.int .i64 x.micro,w]∧Lst S w x.legs,fun ⟨_,h,_⟩=>by rw [h]; rfl,fun ⟨w,h,h1⟩ ha=>⟨w,h,h1.agree ha⟩⟩
theorem opInt:Opens Tryz.prog 3 Int:=.int Tryz.underlying3 (by kernel_rfl)
theorem opSp:Opens Tryz.prog 23 Sp :=
 Opens.map (α:=Pr Int (Pr Int Unit)) (Opens.struct Tryz.underlying23 (.cons opInt rfl (.cons opInt rfl (.nil _))) (by kernel_rfl)) rfl (fun p=>⟨p.a,p.b.a⟩)
  (fun S cs p h=>by obtain ⟨zc1,zc2,rfl,rfl,zc3,zc4,rfl,rfl,rfl⟩:=h; rfl)
theorem opStp:Opens Tryz.prog 117 Stp :=
 Opens.map (α:=Pr Int (Pr Sp Unit)) (Opens.struct Tryz.underlying117 (.cons opInt rfl (.cons opSp rfl (.nil _))) (by kernel_rfl)) rfl (fun p=>⟨p.a,p.b.a.lo,p.b.a.hi⟩)
  (fun S cs p h=>by obtain ⟨zc1,zc2,rfl,rfl,zc3,zc4,rfl,rfl,rfl⟩:=h; rfl)
theorem opSk:Opens Tryz.prog 112 Sk :=
 Opens.map (α:=Pr Int (Pr Sp Unit)) (Opens.struct Tryz.underlying112 (.cons opInt rfl (.cons opSp rfl (.nil _))) (by kernel_rfl)) rfl (fun p=>⟨p.a,p.b.a.lo,p.b.a.hi⟩)
  (fun S cs p h=>by obtain ⟨zc1,zc2,rfl,rfl,zc3,zc4,rfl,rfl,rfl⟩:=h; rfl)
theorem opSg:Opens Tryz.prog 115 Sg :=
 Opens.map (α:=Pr Int (Pr Sp Unit)) (Opens.struct Tryz.underlying115 (.cons opInt rfl (.cons opSp rfl (.nil _))) (by kernel_rfl)) rfl (fun p=>⟨p.a,p.b.a.lo,p.b.a.hi⟩)
  (fun S cs p h=>by obtain ⟨zc1,zc2,rfl,rfl,zc3,zc4,rfl,rfl,rfl⟩:=h; rfl)
theorem opSe:Opens Tryz.prog 26 Se :=
 Opens.map (α:=Pr Int (Pr Sp (Pr Sp (Pr Sp (Pr Sp (Pr Sp (Pr (List Stp) Unit))))))) (Opens.struct Tryz.underlying26 (.cons opInt rfl (.cons opSp rfl (.cons opSp rfl (.cons opSp rfl (.cons opSp rfl (.cons opSp rfl (.cons (.slice Tryz.underlying24 opStp (by decide) (by kernel_rfl)) rfl (.nil _)))))))) (by kernel_rfl)) rfl
  (fun p=>⟨p.a,p.b.a.lo,p.b.a.hi,p.b.b.a.lo,p.b.b.a.hi,p.b.b.b.a.lo,p.b.b.b.a.hi,p.b.b.b.b.a.lo,p.b.b.b.b.a.hi,p.b.b.b.b.b.a.lo,p.b.b.b.b.b.a.hi,p.b.b.b.b.b.b.a⟩)
  (fun S cs p h=>by obtain ⟨zc1,zc2,rfl,rfl,zc3,zc4,rfl,rfl,zc5,zc6,rfl,rfl,zc7,zc8,rfl,rfl,zc9,zc10,rfl,rfl,zc11,zc12,rfl,rfl,zc13,zc14,rfl,⟨w0,rfl,h0⟩,rfl⟩:=h; exact ⟨w0,rfl,h0.flat⟩)
theorem opRc:Opens Tryz.prog 30 Rc :=
 Opens.map (α:=Pr Se (Pr (List Sk) (Pr (List Sg) Unit))) (Opens.struct Tryz.underlying30 (.cons opSe rfl (.cons (.slice Tryz.underlying27 opSk (by decide) (by kernel_rfl)) rfl (.cons (.slice Tryz.underlying28 opSg (by decide) (by kernel_rfl)) rfl (.nil _)))) (by kernel_rfl)) rfl (fun p=>⟨p.a,p.b.a,p.b.b.a⟩)
  (fun S cs p h=>by obtain ⟨zc1,zc2,rfl,⟨w,rfl,h⟩,zc3,zc4,rfl,⟨w0,rfl,h0⟩,zc5,zc6,rfl,⟨w1,rfl,h1⟩,rfl⟩:=h; exact ⟨w,w0,w1,rfl,h,h0.flat,h1.flat⟩)
theorem opInts:Opens Tryz.prog 31 (List Int):=.slice Tryz.underlying31 opInt (by decide) (by kernel_rfl)
end Clock
end Go.Proofs
end
section
set_option linter.unusedSimpArgs false
set_option linter.unusedVariables false
namespace Go.Proofs.YtpaipdipkgnpdaaGreat
open Go Go.Proofs
set_option maxRecDepth 100000
theorem band {a b:Bool} (h:a=true) (k:b=true):(a && b)=true:=by rw [h,k]; rfl
theorem sh1:(laidOutB Tryz.prog)=true:=by kernel_rfl
theorem sh2:(mapsRowed Tryz.prog)=true:=by kernel_rfl
theorem sh6:((Tryz.prog.stops == []))=true:=by kernel_rfl
theorem sh8:((Tryz.prog.stopKnobs == []))=true:=by kernel_rfl
theorem sh22:((Rows.clockRunsRow.plainKeys == Tryz.prog.plainKeys))=true:=by kernel_rfl
theorem sh24:(Tryz.prog.stopsHeard)=true:=by kernel_rfl
theorem sh25:(Tryz.prog.mayEnter)=true:=by kernel_rfl
theorem sh26:((Rows.clockRunsRow.lifted == Tryz.prog.liftsFinal))=true:=by kernel_rfl
theorem sh27:((Tryz.prog.make == some Rows.clockRunsRow.make))=true:=by kernel_rfl
theorem sh29:((Rows.clockRunsRow.pinned == Rows.clockRunsRow.pinnedBy))=true:=by kernel_rfl
end Go.Proofs.YtpaipdipkgnpdaaGreat
end
