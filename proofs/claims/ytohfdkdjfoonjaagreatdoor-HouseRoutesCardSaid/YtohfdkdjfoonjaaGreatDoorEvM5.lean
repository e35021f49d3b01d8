import Derived.Test.YtohfdkdjfoonjaaGreatDoorEvM4
set_option linter.unusedSimpArgs false
set_option linter.unusedVariables false
namespace Go.Proofs
namespace House
open Go Go.RowKit Go.Aev
set_option maxRecDepth 100000
def Lx (d:Dr) (t r:Int):Prop:=(r = -1∧∀ n,0≤n→n≤t→¬ Op d n)∨(0≤r∧r≤t∧Op d r∧∀ n,r<n→n≤t→¬ Op d n)
theorem Lx.unique {d:Dr} {t r q:Int} (h:Lx d t r) (k:Lx d t q):r=q:=by
 rcases h with ⟨h1,h2⟩|⟨h1,h2,h3,h4⟩<;>rcases k with ⟨k1,k2⟩|⟨k1,k2,k3,k4⟩
 ·omega
 ·exact absurd k3 (h2 q k1 k2)
 ·exact absurd h3 (k2 r h1 h2)
 ·rcases Int.lt_trichotomy r q with e|e|e
  ·exact absurd k3 (h4 q e k2)
  ·exact e
  ·exact absurd h3 (k4 r e h2)
def Best2 (d:Dr) (t:Int) (C:Int→Prop) (b r:Int):Prop:=(r=b∨(0≤r∧r<t∧b<r∧Op d r))∧∀ n,C n→0≤n→n<t→Op d n→n≤r
theorem Best2.le {d:Dr} {t:Int} {C:Int→Prop} {b r:Int} (h:Best2 d t C b r):b≤r:=by rcases h.1 with h|h<;>omega
theorem Best2.trans {d:Dr} {t:Int} {C D:Int→Prop} {b r q:Int} (h:Best2 d t C b r) (k:Best2 d t D r q):Best2 d t (fun n=>C n∨D n) b q:=by
 have hk:=k.le
 refine ⟨?_,fun n hn h0 h1 h2=>?_⟩
 ·rcases k.1 with e|e
  ·rw [e]; exact h.1
  ·have:=h.le; exact .inr ⟨e.1,e.2.1,by omega,e.2.2.2⟩
 ·rcases hn with hn|hn
  ·have:=h.2 n hn h0 h1 h2; omega
  ·exact k.2 n hn h0 h1 h2
theorem Best2.none {d:Dr} {t b:Int}:Best2 d t (fun _=>False) b b:=⟨.inl rfl,fun n h=>h.elim⟩
end House
end Go.Proofs
