/-
  A REFERENCE RUN, PART P: the two functions without a text; where a run begins; what a closed run says of the model.
-/
import Derived.Test.YtecfjfhcoffhfaaGreatDoorAevO
import Derived.Lib.MakeNoZero
set_option linter.unusedSimpArgs false
set_option linter.unusedVariables false
namespace Go.Aev
open Go Go.RowKit

/-! ### internal/abi.NoEscape, internal/bytealg.MakeNoZero -/
theorem digits_one : ∀ (n t : Nat) (acc : Array Value), (∀ (i : Nat) (v : Value), acc[i]? = some v → oneB v = true) → ∀ (i : Nat) (v : Value), (Extern.BytealgMakeNoZero.digits n t acc)[i]? = some v → oneB v = true
  | 0, _, acc, h => h
  | n + 1, t, acc, h => by
    rw [Extern.BytealgMakeNoZero.digits]
    refine digits_one n _ _ (fun i v e => ?_)
    rw [Array.getElem?_push] at e
    split at e
    · simp only [Option.some.injEq] at e; subst e; rfl
    · exact h i v e
theorem ok_digits {w : World} {c n b : Nat} {e : TypeId} {z : Result Value} (hr : .ok (.slice (some ⟨w.heap.size, 0, none⟩) n c) (w.drew.drew.alloc (.cells (Extern.BytealgMakeNoZero.digits c b #[]) e)) = z) (hc : n ≤ c) :
    ∃ cs : Array Value, z = .ok (.slice (some ⟨w.heap.size, 0, none⟩) n cs.size) (w.drew.drew.alloc (.cells cs e)) ∧ n ≤ cs.size ∧ ∀ (i : Nat) (v : Value), cs[i]? = some v → oneB v = true := by
  subst hr
  have hs : (Extern.BytealgMakeNoZero.digits c b #[]).size = c := by rw [Go.Lib.size_digits]; simp
  exact ⟨_, by rw [hs], by rw [hs]; exact hc, digits_one _ _ _ (fun i v e => by simp at e)⟩
theorem run_makeNoZero1 {P : Program} (w : World) (ps : Array TypeId) (t e : TypeId) (ht : P.underlying t = some (.slice e)) (n : Nat) (hn : n ≤ 281474976710656) :
    ∃ cs : Array Value, (Extern.BytealgMakeNoZero.makeNoZero ps #[t] #[.int .i64 n]).run P w = .ok (.slice (some ⟨w.heap.size, 0, none⟩) n cs.size) (w.drew.drew.alloc (.cells cs e)) ∧ n ≤ cs.size ∧ ∀ (i : Nat) (v : Value), cs[i]? = some v → oneB v = true := by
  have h1 : ¬ (n : Int) < 0 := by omega
  have h2 : ¬ (281474976710656 : Int) < (n : Int) := by omega
  generalize hr : (Extern.BytealgMakeNoZero.makeNoZero ps #[t] #[.int .i64 n]).run P w = z
  rw [Extern.BytealgMakeNoZero.makeNoZero.eq_1] at hr
  have key : ∀ (A : Int → Sem Value) (B : Array Value → Sem Value), Extern.BytealgMakeNoZero.makeNoZero.match_3 (fun _ => Sem Value) #[.int .i64 n] A B = A n := fun _ _ => rfl
  rw [key] at hr
  simp [run_und ht, h1, h2, Question.forced, newRow] at hr
  exact ok_digits hr (grownCap_ge w n 0 e)

def orc (ne mk : FuncId) (u8 : TypeId) (k : FuncId) (args : Array Value) (S : AS) : Option (Value × AS) :=
  match Nat.beq k ne with
  | true => match args.toList with
    | [x] => some (x, S)
    | _ => none
  | false => match Nat.beq k mk with
    | false => none
    | true => match args.toList with
      | [.int .i64 (.ofNat n)] => match Nat.ble n 131072 with
        | true => some (.slice (some ⟨S.next, 0, none⟩) n n, S.push (.cells (List.replicate n (.chan (some 0))) u8 1 true false))
        | false => none
      | _ => none

def mkEnv (G : Nat) (ne mk : FuncId) (u8 : TypeId) : Env := { G, orc := orc ne mk u8 }

structure ExtOk (P : Program) (ne mk : FuncId) (u8 : TypeId) : Prop where
  esc : ∀ x w, (callFunc ne #[x]).run P w = .ok (.value x) w
  zer : ∀ (n : Nat) w, n ≤ 131072 → ∃ cs : Array Value, (callFunc mk #[.int .i64 n]).run P w = .ok (.value (.slice (some ⟨w.heap.size, 0, none⟩) n cs.size)) (w.drew.drew.alloc (.cells cs u8)) ∧ n ≤ cs.size ∧ ∀ (i : Nat) (v : Value), cs[i]? = some v → oneB v = true

/-- The two entries, by what the table says of their names. -/
theorem ExtOk.of_rows {P : Program} {ne mk : FuncId} {u8 : TypeId} {fe fm : Func} (h1 : P.funcs[ne]? = some fe) (h2 : fe.body = none) (h3 : fe.name ≠ "runtime.NumGoroutine") (h4 : Extern.findNext fe = none) (h5 : Extern.find fe = some Extern.AbiNoEscape.same)
    (k1 : P.funcs[mk]? = some fm) (k2 : fm.body = none) (k3 : fm.name ≠ "runtime.NumGoroutine") (k4 : Extern.findNext fm = none) {ps : Array TypeId} {t : TypeId} (k5 : Extern.find fm = some (Extern.BytealgMakeNoZero.makeNoZero ps #[t])) (k6 : P.underlying t = some (.slice u8)) : ExtOk P ne mk u8 := by
  refine ⟨fun x w => ?_, fun n w hn => ?_⟩
  · have hs : (Extern.AbiNoEscape.same #[x]).run P w = .ok x w := rfl
    simp [callFunc, Go.program, Sem.run, h1, h2, h3, h4, h5, mark, Sem.run_bind, Result.andThen, hs]
  · obtain ⟨cs, q1, q2, q3⟩ := run_makeNoZero1 (P := P) w ps t u8 k6 n (by omega)
    refine ⟨cs, ?_, q2, q3⟩
    simp [callFunc, Go.program, Sem.run, k1, k2, k3, k4, k5, mark, Sem.run_bind, Result.andThen, q1]

section
variable {B : Nat} {w0 : World} {P : Program} {σ : Sig}

theorem orc_ok {G : Nat} {ne mk : FuncId} {u8 : TypeId} (hX : ExtOk P ne mk u8) : OrcOk B w0 P (mkEnv G ne mk u8) := by
  intro k args S v S' e σ w args' h hargs
  simp only [mkEnv, orc] at e
  split at e
  · rename_i hk
    have hk := Nat.eq_of_beq_eq_true hk
    subst hk
    split at e
    · rename_i x hx
      have hx' : args = #[x] := by apply Array.ext'; simpa using hx
      subst hx'
      simp only [Option.some.injEq, Prod.mk.injEq] at e
      obtain ⟨rfl, rfl⟩ := e
      obtain ⟨x', hx', r⟩ := hargs.get (i := 0) (v := x) (by simp)
      have ha' : args' = #[x'] := by
        have hs : args'.size = 1 := by rw [← hargs.1]; rfl
        apply Array.ext
        · simpa using hs
        · intro i h1 h2
          have : i = 0 := by omega
          subst this
          rw [Array.getElem?_eq_getElem h1] at hx'
          simpa using hx'
      subst ha'
      exact .inl ⟨σ, x', w, Sig.le_refl _, hX.esc x' w, r, h⟩
    · simp at e
  · split at e
    · simp at e
    · rename_i hk
      have hk := Nat.eq_of_beq_eq_true hk
      subst hk
      split at e
      · rename_i n hx
        have hx' : args = #[.int .i64 (.ofNat n)] := by apply Array.ext'; simpa using hx
        subst hx'
        split at e
        · rename_i hb
          have hb := Nat.le_of_ble_eq_true hb
          simp only [Option.some.injEq, Prod.mk.injEq] at e
          obtain ⟨rfl, rfl⟩ := e
          obtain ⟨x', hx', r⟩ := hargs.get (i := 0) (v := .int .i64 (.ofNat n)) (by simp)
          cases r
          have ha' : args' = #[.int .i64 (.ofNat n)] := by
            have hs : args'.size = 1 := by rw [← hargs.1]; rfl
            apply Array.ext
            · simpa using hs
            · intro i h1 h2
              have : i = 0 := by omega
              subst this
              rw [Array.getElem?_eq_getElem h1] at hx'
              simpa using hx'
          subst ha'
          obtain ⟨cs, q1, q2, q3⟩ := hX.zer n w hb
          have hnew := (h.drew.drew).newPart (cs := List.replicate n (.chan (some 0))) (C := cs) (fun j v hv => by
            rw [List.getElem?_replicate] at hv
            split at hv
            · rename_i hj
              simp only [Option.some.injEq] at hv
              subst hv
              exact ⟨cs[j]'(by omega), by simp [show j < cs.size by omega], .unk (q3 j _ (by simp [show j < cs.size by omega]))⟩
            · simp at hv) u8 1
          refine .inl ⟨_, _, _, Sig.more_le h.fresh, q1, ?_, hnew⟩
          exact VR.sl (σ := σ.more S.next ⟨w.heap.size, 0, cs.size, 1⟩) (id := S.next) (off := 0) (L := ⟨w.heap.size, 0, cs.size, 1⟩) (Sig.more_self _ _ _) q2 q2 (by simp)
        · simp at e
      · simp at e

end

/-- A call that turns nothing that was there: the abstract store may stay. -/
theorem HR.grow {B : Nat} {w0 w w' : World} {G : Nat} {σ : Sig} {S : AS} (h : HR B w0 G σ S w) (hb : Below w.heap.size w w') : HR B w0 G σ S w' := by
  refine ⟨h.below.trans (hb.mono h.hB), Nat.le_trans h.hB hb.size, fun id L e => ⟨(h.dom id L e).1, Nat.lt_of_lt_of_le (h.dom id L e).2 hb.size⟩, fun id b e => ?_, h.inj, h.glob⟩
  exact (h.blk id b e).of_same (fun _ M hM => hb.block _ (h.dom id M hM).2)

/-! ### Where a run begins: package-level variables of plain values -/
theorem HR.start {G : Nat} {w : World} {S0 : AS} (hG : G ≤ w.heap.size) (hnext : S0.next = G)
    (hblk : ∀ id b, S0.heap.get id = some b → id < G ∧ ∃ c ty sz, b = .cells c ty sz false false ∧ ∃ C T fz, w.heap[id]? = some (.cells C T fz) ∧ ∀ (j : Nat) (v : Value), c[j]? = some v → C[j]? = some v ∧ selfB 8 v = true) :
    ∃ σ, HR w.heap.size w G σ S0 w := by
  let σ : Sig := fun id => if id < G then some ⟨id, 0, (match w.heap[id]? with | some (.cells C _ _) => C.size | _ => 0), (match S0.heap.get id with | some (.cells _ _ sz _ _) => sz | _ => 0)⟩ else none
  have hσ : ∀ id L, σ id = some L → id < G ∧ L.blk = id ∧ L.off = 0 := by
    intro id L e
    simp only [σ] at e
    split at e
    · cases e; exact ⟨by assumption, rfl, rfl⟩
    · simp at e
  refine ⟨σ, Below.refl _ _, Nat.le_refl _, fun id L e => ?_, fun id b e => ?_, fun id id' b b' L L' _ _ _ _ e e' he _ => ?_, fun g hg => ?_⟩
  · obtain ⟨h1, h2, _⟩ := hσ id L e
    rw [hnext, h2]; exact ⟨h1, by omega⟩
  · obtain ⟨h1, c, ty, sz, rfl, C, T, fz, h2, h3⟩ := hblk id b e
    refine ⟨⟨id, 0, C.size, sz⟩, C, T, fz, ?_, h2, rfl, rfl, fun hx => by simp at hx, fun hx => by simp at hx, fun j v hv => ?_⟩
    · simp only [σ, if_pos h1, h2, e]
    · obtain ⟨k1, k2⟩ := h3 j v hv
      exact ⟨v, by simpa using k1, selfB_spec _ _ _ k2⟩
  · obtain ⟨_, h2, _⟩ := hσ id L e
    obtain ⟨_, k2, _⟩ := hσ id' L' e'
    rw [← h2, ← k2]; exact he
  · exact ⟨_, if_pos hg, rfl, rfl⟩

/-- THE END: what a closed run says of the model. -/
theorem calls_of_run {P : Program} (hT : TabOk P) (hm : P.follows .mixedOrders = true) {G : Nat} {ne mk : FuncId} {u8 : TypeId} (hX : ExtOk P ne mk u8) {n : Nat} {k : FuncId} {S0 S' : AS} {v : Value} {w : World} {σ : Sig}
    (h : HR w.heap.size w G σ S0 w) (hn : orc ne mk u8 k #[] S0 = none) (e : (ev P (mkEnv G ne mk u8) n).call k #[] S0 = some (v, S')) :
    Calls P k #[] w fun e w' => ∃ σ' v', e = .returned v' ∧ VR σ' v v' ∧ Below w.heap.size w w' := by
  have hr := ev_ok (B := w.heap.size) (w0 := w) hT hm (orc_ok (G := G) hX) n
  rcases hr.call k #[] S0 v S' e σ w #[] h (AR.empty _) with ⟨hne, _⟩ | ⟨_, hc⟩
  · exact absurd hn hne
  · refine (callsIn_wide.1 hc).mono ?_
    rintro e w' ⟨σ', v', _, rfl, h2, h3⟩
    exact ⟨σ', v', rfl, h2, h3.below⟩

theorem calls_true {P : Program} (hT : TabOk P) (hm : P.follows .mixedOrders = true) {G : Nat} {ne mk : FuncId} {u8 : TypeId} (hX : ExtOk P ne mk u8) {n : Nat} {k : FuncId} {S0 S' : AS} {w : World} {σ : Sig}
    (h : HR w.heap.size w G σ S0 w) (hn : orc ne mk u8 k #[] S0 = none) (e : (ev P (mkEnv G ne mk u8) n).call k #[] S0 = some (.bool true, S')) :
    Calls P k #[] w fun e w' => e = .returned (.bool true) ∧ Below w.heap.size w w' :=
  (calls_of_run hT hm hX h hn e).mono fun e w' ⟨_, _, he, hv, hb⟩ => by cases hv; exact ⟨he, hb⟩
end Go.Aev
