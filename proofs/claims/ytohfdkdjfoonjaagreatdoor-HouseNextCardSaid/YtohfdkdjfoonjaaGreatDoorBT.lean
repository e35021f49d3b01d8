import Derived.Test.YtohfdkdjfoonjaaGreatDoorEvH22
section
set_option linter.unusedSimpArgs false
set_option linter.unusedVariables false
namespace Go.Proofs
namespace House
open Go Go.RowKit Go.Aev
set_option maxRecDepth 100000
def R148_0 (rooms:List Rm) (doors:List Dr) (ways:List Wy)  : List Wy→Nat→List Pg
 | [],kv=>[]
 | _x :: l',kv=>(if (r144 (⟨rooms,doors,ways⟩:Hs) (kv:Int) false).2=true then ((⟨((r144 (⟨rooms,doors,ways⟩:Hs) (kv:Int) false).1).1,((r144 (⟨rooms,doors,ways⟩:Hs) (kv:Int) false).1).2.1,((r144 (⟨rooms,doors,ways⟩:Hs) (kv:Int) false).1).2.2.1,((r144 (⟨rooms,doors,ways⟩:Hs) (kv:Int) false).1).2.2.2.1,((r144 (⟨rooms,doors,ways⟩:Hs) (kv:Int) false).1).2.2.2.2.1,((r144 (⟨rooms,doors,ways⟩:Hs) (kv:Int) false).1).2.2.2.2.2⟩:Pg) :: (if (r144 (⟨rooms,doors,ways⟩:Hs) (kv:Int) true).2=true then ((⟨((r144 (⟨rooms,doors,ways⟩:Hs) (kv:Int) true).1).1,((r144 (⟨rooms,doors,ways⟩:Hs) (kv:Int) true).1).2.1,((r144 (⟨rooms,doors,ways⟩:Hs) (kv:Int) true).1).2.2.1,((r144 (⟨rooms,doors,ways⟩:Hs) (kv:Int) true).1).2.2.2.1,((r144 (⟨rooms,doors,ways⟩:Hs) (kv:Int) true).1).2.2.2.2.1,((r144 (⟨rooms,doors,ways⟩:Hs) (kv:Int) true).1).2.2.2.2.2⟩:Pg) :: R148_0 rooms doors ways l' (kv+1)) else R148_0 rooms doors ways l' (kv+1))) else (if (r144 (⟨rooms,doors,ways⟩:Hs) (kv:Int) true).2=true then ((⟨((r144 (⟨rooms,doors,ways⟩:Hs) (kv:Int) true).1).1,((r144 (⟨rooms,doors,ways⟩:Hs) (kv:Int) true).1).2.1,((r144 (⟨rooms,doors,ways⟩:Hs) (kv:Int) true).1).2.2.1,((r144 (⟨rooms,doors,ways⟩:Hs) (kv:Int) true).1).2.2.2.1,((r144 (⟨rooms,doors,ways⟩:Hs) (kv:Int) true).1).2.2.2.2.1,((r144 (⟨rooms,doors,ways⟩:Hs) (kv:Int) true).1).2.2.2.2.2⟩:Pg) :: R148_0 rooms doors ways l' (kv+1)) else R148_0 rooms doors ways l' (kv+1)))
def r148 (rooms:List Rm) (doors:List Dr) (ways:List Wy):List Pg:=R148_0 rooms doors ways ways 0
end House
end Go.Proofs
end
section
set_option linter.unusedSimpArgs false
set_option linter.unusedVariables false
namespace Go.Proofs
namespace House
open Go Go.RowKit Go.Aev
set_option maxRecDepth 100000
abbrev argsP:Pg→Array Value:=fun b=>#[Value.agg (cellsOf b).toArray]
def Yields (S:AS) (kf:FuncId) (cs ds:Array Value) (ys:List Pg):Prop :=
 ∀ (Sx:AS) (y:Nat) (I J:Nat→(Nat→Prop)→AS→Prop) (T0:Nat→Prop),Agree S Sx→(∀ id,T0 id→S.next≤id)→YieldS Tryz.prog E0 Sx y argsP ys I J→I 0 T0 Sx →
  ∃ S' T',(evL Tryz.prog E0).call kf (cs++#[.func (.yield y) #[] #[]]++ds) Sx=some (.tuple #[],S')∧(I ys.length T' S'∨∃ i b,ys[i]?=some b∧J i T' S')∧Off T0 Sx S'∧Wider T0 Sx T'
theorem Yields.agree {S S':AS} {kf:FuncId} {cs ds:Array Value} {ys:List Pg} (h:Yields S kf cs ds ys) (ha:Agree S S'):Yields S' kf cs ds ys :=
 fun Sx y I J T0 a hT=>h Sx y I J T0 (ha.trans a) (fun id hid=>Nat.le_trans ha.1 (hT id hid))
def psg (h:Hs):List Pg:=r148 h.rooms h.doors h.ways
end House
end Go.Proofs
end
section
set_option linter.unusedSimpArgs false
set_option linter.unusedVariables false
namespace Go.Proofs
namespace House
open Go Go.RowKit Go.Aev
set_option maxRecDepth 100000
theorem tz57:szOf Tryz.prog 57=some 2:=by kernel_rfl
theorem tt57:inTab Tryz.prog 57=true:=by kernel_rfl
theorem t0_57:zeroOf Tryz.prog 57=some (.agg #[.slice none 0 0,.int .i64 0]):=by kernel_rfl
theorem tz58:szOf Tryz.prog 58=some 2:=by kernel_rfl
theorem tt58:inTab Tryz.prog 58=true:=by kernel_rfl
theorem t0_58:zeroOf Tryz.prog 58=some (.agg #[.slice none 0 0,.int .i64 0]):=by kernel_rfl
def r114 (h:Hs) (fr:Int) (ti:Int):(List Int × List Int) × List Pg:=((((r109 h.rooms.length fr ti (psg h:List Pg) (fun (p:Pg) (t:Int)=>r145 p t h)).1),((r109 h.rooms.length fr ti (psg h:List Pg) (fun (p:Pg) (t:Int)=>r145 p t h)).2)),psg h)
def r106 (h:Hs) (fr:Int) (ti:Int):List Int:=((r114 h fr ti).1.1)
end House
end Go.Proofs
end
