import Derived.Test.YtfjnbekocdffbaaGreatDoorAevBi
set_option linter.unusedSimpArgs false
set_option linter.unusedVariables false
namespace Go.Aev
open Go Go.RowKit Go.ChangeShapes
section
variable {α : Type} [Flat α]
theorem flat_set1 {n : Nat} : ∀ (l : List (List Value)),(∀ x ∈ l,x.length = n) → ∀ (i j : Nat) (y : List Value) (u : Value),l[i]? = some y → j < n → l.flatten.set (i * n + j) u = (l.set i (y.set j u)).flatten
  | [],_,i,j,y,u,e,_ => by simp at e
  | z :: l,h,0,j,y,u,e,hj => by
    simp only [List.getElem?_cons_zero,Option.some.injEq] at e
    subst e
    have hz := h z (by simp)
    rw [List.flatten_cons,Nat.zero_mul,Nat.zero_add,List.set_append_left _ _ (by omega),List.set_cons_zero,List.flatten_cons]
  | z :: l,h,i + 1,j,y,u,e,hj => by
    have hz := h z (by simp)
    have ih := flat_set1 l (fun w hw => h w (by simp [hw])) i j y u (by simpa using e) hj
    rw [List.flatten_cons,List.set_append_right _ _ (by rw [hz,Nat.succ_mul]; omega),hz,show (i + 1) * n + j - n = i * n + j by rw [Nat.succ_mul]; omega,ih,List.set_cons_succ,List.flatten_cons]
theorem take_set_drop {β : Type} (l : List β) (o : Nat) (u : β) (h : o < l.length) : l.take o ++ [u] ++ l.drop (o + 1) = l.set o u := by
  rw [List.set_eq_take_append_cons_drop,if_pos h]
  simp
theorem Own.at3 {el lo : Nat} {S : AS} {v : Value} {l : List α} (ho : Own el lo S v l) {P : Program} {t : TypeId} (hu : P.underlying t = some (.slice el)) (hs : szOf P el = some (Flat.ks α).length) {i : Nat} {x : α} (hx : l[i]? = some x) :
    ∃ id o c ty wr ex,aIndexAddr P t v (.int .i64 (i : Int)) = some (.pointer (some ⟨id,o,none⟩))∧S.heap.get id = some (.cells c ty (Flat.ks α).length wr ex)∧id < S.next ∧
      (∀ j,j < (Flat.ks α).length → c[o + j]? = (cellsOf x)[j]?)∧lo ≤ id∧blkOf v = some id ∧
      ∀ (f : TypeId) (u : Value) (j : Nat) (x' : α),szOf P f = some 1 → u.cells.toList = [u] → oneB u = true → j < (Flat.ks α).length → cellsOf x' = (cellsOf x).set j u →
        ∃ S1,stA P f ⟨id,o + j,none⟩ u S = some S1∧S1.next = S.next∧Own el lo S1 v (l.set i x')∧∀ q,q ≠ id → S1.heap.get q = S.heap.get q := by
  have hi : i < l.length := (List.getElem?_eq_some_iff.1 hx).1
  obtain ⟨id,c,ex,h1,h2,h3,h4,h5,h6⟩ := ho.at hu hs hx
  refine ⟨id,_,c,el,true,ex,h4,h5,h3,h6,h2,h1,?_⟩
  intro f u j x' k1 k2 k3 k4 k5
  rcases ho with ⟨rfl,_⟩ | ⟨id',ex',rfl,o1,o2,o3⟩
  · simp at hi
  · simp only [blkOf,Option.some.injEq] at h1
    subst h1
    have hlen : ((l.map cellsOf).flatten).length = l.length * (Flat.ks α).length := by rw [flat_len _ (cells_all l),List.length_map]
    have hle : i * (Flat.ks α).length + (Flat.ks α).length ≤ l.length * (Flat.ks α).length := by
      rw [← Nat.succ_mul]; exact Nat.mul_le_mul_right _ hi
    obtain ⟨S1,q1,q2,q3,q4⟩ := st_at (o := i * (Flat.ks α).length + j) (v := u) k1 o3 (by rw [k2]; simp [k3]) (by rw [← Array.length_toList,k2]; rfl) (by rw [hlen]; omega) rfl
    refine ⟨S1,q1,q2,.inr ⟨id',ex',by simp,o1,by omega,?_⟩,q4⟩
    rw [q3,k2,take_set_drop _ _ _ (by rw [hlen]; omega),flat_set1 _ (cells_all l) i j (cellsOf x) u (by simp [hx]) k4,List.map_set,k5]
end
end Go.Aev
