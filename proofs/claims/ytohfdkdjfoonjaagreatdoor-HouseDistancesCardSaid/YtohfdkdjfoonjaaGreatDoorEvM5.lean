import Derived.Test.YtohfdkdjfoonjaaGreatDoorEvM4
set_option linter.unusedSimpArgs false
set_option linter.unusedVariables false
namespace Go.Proofs
namespace House
open Go Go.RowKit Go.Aev
set_option maxRecDepth 100000
def Best2 (d:Dr) (t:Int) (C:Int→Prop) (b r:Int):Prop:=(r=b∨(0≤r∧r<t∧b<r∧Op d r))∧∀ n,C n→0≤n→n<t→Op d n→n≤r
theorem Best2.le {d:Dr} {t:Int} {C:Int→Prop} {b r:Int} (h:Best2 d t C b r):b≤r:=by rcases h.1 with h|h<;>omega
theorem Best2.trans {d:Dr} {t:Int} {C D:Int→Prop} {b r q:Int} (h:Best2 d t C b r) (k:Best2 d t D r q):Best2 d t (fun n=>C n∨D n) b q:=by
 have hk:=k.le
 refine ⟨?_,fun n hn h0 h1 h2=>?_⟩
 ·rcases k.1 with e|e
  ·rw [e]; exact h.1
  ·have:=h.le; exact .inr ⟨e.1,e.2.1,by omega,e.2.2.2⟩
 ·rcases hn with hn|hn
  ·have:=h.2 n hn h0 h1 h2; omega
  ·exact k.2 n hn h0 h1 h2
theorem Best2.none {d:Dr} {t b:Int}:Best2 d t (fun _=>False) b b:=⟨.inl rfl,fun n h=>h.elim⟩
end House
end Go.Proofs
