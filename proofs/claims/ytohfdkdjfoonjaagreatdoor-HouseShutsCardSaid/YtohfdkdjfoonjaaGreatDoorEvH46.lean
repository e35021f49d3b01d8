import Derived.Test.YtohfdkdjfoonjaaGreatDoorBAF
set_option linter.unusedSimpArgs false
set_option linter.unusedVariables false
namespace Go.Proofs
namespace House
open Go Go.RowKit Go.Aev
set_option maxRecDepth 100000
theorem TY_EvH46:type_of% TY_EvH45:=TY_EvH45
theorem few_r65 {h:Hs} {d a b:Int} (hF:Few h):Few (r65 h d a b).1:=by
 have z:Few (⟨[],[],[]⟩:Hs):=⟨by decide,by decide,by decide,fun x hx=>by simp at hx⟩
 unfold r65
 split
 ·split
  ·split
   ·exact z
   ·rename_i h3
    refine ⟨hF.r,by simp only [List.length_set]; exact hF.d,hF.w,fun x hx=>?_⟩
    simp only at hx
    rcases List.mem_or_eq_of_mem_set hx with h|h
    ·exact hF.s x h
    ·subst h
     refine ⟨?_,by simp only; omega⟩
     simp only
     by_cases hd:Int.toNat d<h.doors.length
     ·exact (hF.s _ (List.mem_of_getElem? (lget_some hd))).1
     ·rw [List.set_eq_of_length_le (by omega)] at hx
      exact (hF.s _ hx).1
  ·exact z
 ·exact z
end House
end Go.Proofs
