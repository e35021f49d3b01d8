import Derived.Test.YtpaipdipkgnpdaaGreatAE4
set_option linter.unusedSimpArgs false
set_option linter.unusedVariables false
namespace Go.Aev
open Go Go.RowKit
section
variable {P:Program} {E:Env} {r:Rec}
def alList:List Oper→Nat→List (Nat × AlK × Option Tmp)
 | [],_=>[]
 | o :: l,i=>match isAl o with
  | some k=>(i,k,o.dst) :: alList l (i+1)
  | none=>alList l (i+1)
def fillK (P:Program) (E:Env) (k:AlK) (n:Nat) (dst:Option Tmp) (cont:Fr→AS→Option (Fr × AS)) (x:Option (Fr × AS)):Option (Fr × AS) :=
 match x with
 | some (f,S)=>match alB P E.G k f n,S.heap.get n with
  | some (v,b),some .resv=>match goodB b with
   | true=>cont (f.put dst v) (S.fil n b)
   | false=>none
  | _,_=>none
 | none=>none
def cutRun (P:Program) (E:Env) (r:Rec) (cs:Nat→Bool) (ds:List (Option Tmp)) (ops:List Oper):List (Nat × AlK × Option Tmp)→Nat→Nat→Fr→AS→Option (Fr × AS)
 | [],i,_,f,S=>runOps P E r cs ds i (ops.drop i) f S
 | (k,al,dst) :: ks,i,n,f,S=>fillK P E al n dst (cutRun P E r cs ds ops ks (k+1) (n+1)) (runOps P E r cs ds i ((ops.drop i).take (k - i)) f S)
theorem alList_ge:∀ (l:List Oper) (i:Nat) (x:Nat × AlK × Option Tmp) (ks:List (Nat × AlK × Option Tmp)),alList l i=x :: ks→i≤x.1
 | [],i,x,ks,h=>by simp [alList] at h
 | o :: l,i,x,ks,h=>by
  unfold alList at h
  split at h
  ·simp only [List.cons.injEq] at h
   rw [← h.1]; exact Nat.le_refl _
  ·have:=alList_ge l (i+1) x ks h; omega
theorem cut_step (cs:Nat→Bool) (ds:List (Option Tmp)) (ops:List Oper) {i:Nat} {o:Oper} {l:List Oper} (h:ops.drop i=o :: l) (ks:List (Nat × AlK × Option Tmp)) (hk:∀ x t,ks=x :: t→i+1≤x.1) (n:Nat) (f:Fr) (S:AS) :
  cutRun P E r cs ds ops ks i n f S=match guardL ds o.guard f with
   | some true=>match evOp P E r o f S with
    | some (v,S')=>match okStep E (cs i && agreeKind o.op) S S' with
     | true=>cutRun P E r cs ds ops ks (i+1) n (f.put o.dst v) S'
     | false=>none
    | none=>none
   | some false=>cutRun P E r cs ds ops ks (i+1) n (f.put o.dst undef) S
   | none=>none:=by
 have hl:ops.drop (i+1)=l:=by rw [← List.drop_drop,h]; rfl
 cases ks with
 | nil =>
  simp only [cutRun,h,hl,runOps]
  cases guardL ds o.guard f with
  | none=>rfl
  | some b =>
   cases b with
   | false=>rfl
   | true =>
    cases evOp P E r o f S with
    | none=>rfl
    | some x =>
     obtain ⟨v,S'⟩:=x
     simp only
     cases okStep E (cs i && agreeKind o.op) S S'<;>rfl
 | cons x t =>
  obtain ⟨k,al,dst⟩:=x
  have hki:=hk _ _ rfl
  simp only at hki
  have e:(ops.drop i).take (k - i)=o :: (ops.drop (i+1)).take (k - (i+1)):=by rw [h,hl,show k - i=(k - (i+1))+1 by omega,List.take_succ_cons]
  simp only [cutRun,e,runOps]
  cases guardL ds o.guard f with
  | none=>rfl
  | some b =>
   cases b with
   | false=>rfl
   | true =>
    cases evOp P E r o f S with
    | none=>rfl
    | some x =>
     obtain ⟨v,S'⟩:=x
     simp only
     cases okStep E (cs i && agreeKind o.op) S S'<;>rfl
theorem evOps2_cut (cs:Nat→Bool) (ops:Array Oper) (hcs:∀ p op,ops[p]?=some op→cs p=true→agreeKind op.op=true) (base:Nat):∀ (l:List Oper) (i:Nat) (f:Fr) (S:AS),ops.toList.drop i=l →
  evOps2 P E r cs ops base (List.range' i l.length) f S=cutRun P E r cs (ops.toList.map (·.dst)) ops.toList (alList l i) i (base+slot ops i) f S
 | [],i,f,S,h=>by simp only [List.length_nil,List.range'_zero,evOps2,alList,cutRun,h,runOps]
 | o :: l,i,f,S,h=>by
  have ho:ops[i]?=some o:=by
   have:(ops.toList.drop i)[0]?=some o:=by rw [h]; rfl
   simpa using this
  have hl:ops.toList.drop (i+1)=l:=by rw [← List.drop_drop,h]; rfl
  have ih:=fun f S=>evOps2_cut cs ops hcs base l (i+1) f S hl
  have hc:(cs i && agreeKind o.op)=cs i:=by
   cases h1:cs i with
   | false=>rfl
   | true=>simp [hcs i o ho h1]
  cases hal:isAl o with
  | none =>
   have hs:slot ops (i+1)=slot ops i:=by simp only [slot,isAlAt,ho,hal]
   have ea:alList (o :: l) i=alList l (i+1):=by simp only [alList,hal]
   rw [ea,cut_step cs _ _ h _ (fun x t e=>alList_ge _ _ _ _ e)]
   simp only [List.length_cons,List.range'_succ,evOps2,ho,stepA2,hal,stepA,guardA_L,hc]
   rw [hs] at ih
   cases guardL (ops.toList.map (·.dst)) o.guard f with
   | none=>rfl
   | some b =>
    cases b with
    | false=>exact ih _ _
    | true =>
     cases evOp P E r o f S with
     | none=>rfl
     | some x =>
      obtain ⟨v,S'⟩:=x
      simp only
      cases okStep E (cs i) S S' with
      | false=>rfl
      | true=>exact ih _ _
  | some k =>
   have hs:slot ops (i+1)=slot ops i+1:=by simp only [slot,isAlAt,ho,hal]
   have ea:alList (o :: l) i=(i,k,o.dst) :: alList l (i+1):=by simp only [alList,hal]
   rw [ea]
   simp only [List.length_cons,List.range'_succ,evOps2,ho,stepA2,hal,cutRun,Nat.sub_self,List.take_zero,runOps,fillK]
   rw [hs,← Nat.add_assoc] at ih
   cases alB P E.G k f (base+slot ops i) with
   | none=>rfl
   | some y =>
    obtain ⟨v,b⟩:=y
    cases S.heap.get (base+slot ops i) with
    | none=>rfl
    | some q =>
     cases q<;>try rfl
     simp only
     cases goodB b with
     | false=>rfl
     | true=>exact ih _ _
theorem code_draws4 {ro:Option Nat} (n:Nat) (ops:Array Oper) (s:St) (ks:List (Nat × AlK × Option Tmp)) (m:Nat) (h1:drawOk (needy ops) ops=false) (h2:drawOk2 (needy ops) ops=true) (h3:noLoose ops=true) (h4:alList ops.toList 0=ks) (h5:slot ops ops.size=m) :
  evCode P E r ro (.region n ops true) s=behind s (cutRun P E r (needy ops) (ops.toList.map (·.dst)) ops.toList ks 0 s.S.next s.f (pushR m s.S)):=by
 subst h4; subst h5
 have hreg:evReg2 P E r ops s.f s.S=cutRun P E r (needy ops) (ops.toList.map (·.dst)) ops.toList (alList ops.toList 0) 0 s.S.next s.f (pushR (slot ops ops.size) s.S):=by
  have e:=evOps2_cut (P:=P) (E:=E) (r:=r) (needy ops) ops (needy_calls ops) s.S.next ops.toList 0 s.f (pushR (slot ops ops.size) s.S) rfl
  rw [Array.length_toList,← List.range_eq_range'] at e
  simp only [slot,Nat.add_zero] at e
  rw [← e]
  unfold evReg2
  cases evOps2 P E r (needy ops) ops s.S.next (List.range ops.size) s.f (pushR (slot ops ops.size) s.S) with
  | none=>rfl
  | some y=>simp only [noLoose_dis h3]
 simp only [evCode,h1,h2,hreg,behind]
 cases cutRun P E r (needy ops) (ops.toList.map (·.dst)) ops.toList (alList ops.toList 0) 0 s.S.next s.f (pushR (slot ops ops.size) s.S)<;>rfl
theorem cut_list (cs:Nat→Bool) (l:List Oper) (ks:List (Nat × AlK × Option Tmp)) (i n:Nat) (f:Fr) (S:AS):cutRun P E r cs (l.toArray.toList.map (·.dst)) l.toArray.toList ks i n f S=cutRun P E r cs (l.map (·.dst)) l ks i n f S:=rfl
theorem fillK_none (k:AlK) (n:Nat) (dst:Option Tmp) (cont:Fr→AS→Option (Fr × AS)):fillK P E k n dst cont none=none:=rfl
theorem fillK_ite (k:AlK) (n:Nat) (dst:Option Tmp) (cont:Fr→AS→Option (Fr × AS)) (c:Prop) [Decidable c] (x y:Option (Fr × AS)):fillK P E k n dst cont (if c then x else y)=if c then fillK P E k n dst cont x else fillK P E k n dst cont y:=by split<;>rfl
theorem fillK_var {S:AS} {n:Nat} {e:TypeId} {c:List Value} (hr:S.heap.get n=some .resv) (hz:allocB P e=some (.cells c e 0 true true)) (hg:goodB (.cells c e 0 true true)=true) :
  ∃ S1,(∀ (E:Env) (dst:Option Tmp) (cont:Fr→AS→Option (Fr × AS)) (f:Fr),fillK P E (.var e) n dst cont (some (f,S))=cont (f.put dst (.pointer (some ⟨n,0,none⟩))) S1)∧S1.next=S.next ∧
   S1.heap.get n=some (.cells c e 0 true true)∧∀ j,j≠n→S1.heap.get j=S.heap.get j :=
 ⟨S.fil n (.cells c e 0 true true),fun E dst cont f=>by simp only [fillK,alB,hz,hr,hg,Option.map_some],rfl,by simp only [AS.fil,T.get_set,if_true],fun j hj=>fil_get hj⟩
def fillL (P:Program) (t:TypeId) (m:Nat) (l:Option (List (Nat × Value))) (n:Nat) (dst:Option Tmp) (cont:Fr→AS→Option (Fr × AS)) (f:Fr) (S:AS):Option (Fr × AS) :=
 match l with
 | some l=>match slB P t m l n,S.heap.get n with
  | some (v,b),some .resv=>match goodB b with
   | true=>cont (f.put dst v) (S.fil n b)
   | false=>none
  | _,_=>none
 | none=>none
theorem fillK_sl (t:TypeId) (m:Nat) (parts:List (Nat × Operand)) (n:Nat) (dst:Option Tmp) (cont:Fr→AS→Option (Fr × AS)) (f:Fr) (S:AS):fillK P E (.sl t m parts) n dst cont (some (f,S))=fillL P t m (pVals f E.G parts) n dst cont f S:=by
 simp only [fillK,fillL,alB]
 cases pVals f E.G parts with
 | none=>rfl
 | some l=>simp only
theorem pushR_two (S:AS):pushR 2 S=(S.push .resv).push .resv:=rfl
theorem pushR_three (S:AS):pushR 3 S=((S.push .resv).push .resv).push .resv:=rfl
theorem pushR_four (S:AS):pushR 4 S=(((S.push .resv).push .resv).push .resv).push .resv:=rfl
end
end Go.Aev
