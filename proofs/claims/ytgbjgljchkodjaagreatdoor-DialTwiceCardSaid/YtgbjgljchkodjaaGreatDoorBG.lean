/-
  BG: EvC1, EvC2, EvN0.
-/
import Derived.Test.YtgbjgljchkodjaaGreatDoorBS
import Derived.Test.YtgbjgljchkodjaaGreatDoorEvA10
import Derived.Test.YtgbjgljchkodjaaGreatDoorAE4
section
/-
  The great seat of stage 1: the cuts of two lists.
-/
set_option linter.unusedSimpArgs false
set_option linter.unusedVariables false
namespace Go.Proofs
namespace Great
open Go Go.RowKit Go.Aev
set_option maxRecDepth 100000

theorem tz105 : szOf Tryz.prog 84 = some 2 := by kernel_rfl
theorem tt105 : inTab Tryz.prog 84 = true := by kernel_rfl
theorem tz179 : szOf Tryz.prog 138 = some 1 := by kernel_rfl
theorem tt179 : inTab Tryz.prog 138 = true := by kernel_rfl
theorem t0_179 : zeroOf Tryz.prog 138 = some (.slice none 0 0) := by kernel_rfl

set_option maxHeartbeats 4000000 in
theorem c162 (p : Option Addr) (n c : Nat) (S : AS) : ∃ S', (evL Tryz.prog E0).call 106 #[.slice p n c] S = some (.func (.func 112) #[] #[.pointer (some ⟨S.next, 0, none⟩)], S') ∧ Agree S S' ∧ S'.next = S.next + 1 ∧
    S'.heap.get S.next = some (.cells [.slice p n c] 22 0 true true) := by
  obtain ⟨S1, e1, n1, b1, a1⟩ := push_open S (.cells [.slice p n c] 22 0 true true)
  refine ⟨S1, ?_, a1, by omega, b1⟩
  rw [L_call, evCall_said rfl Tryz.func106 rfl (by decide) Tryz.ntmps106 Tryz.results106]
  simp (disch := first | omega | assumption) only [E0_G, SY, setArgs, off, agreeKind, vals, boxed, eq_self, Nat.reduceAdd, Nat.reduceSub, Nat.reduceLT, Nat.reduceBEq, e1, op_makeFunc, Op.operands, List.map_toArray, Option.getD_some, Tryz.underlying120, Tryz.underlying119]

/-- The cuts of the pieces of a list. -/
def cutsOf (k : Int) (ps : List Sp) : List Ct := ps.flatMap fun p => [⟨p.lo, k, 1⟩, ⟨IntKind.i64.wrap (p.hi + 1), k, -1⟩]
def cutsTo (a b : List Ar) : Nat → List Ct
  | 0 => []
  | 1 => cutsOf 0 (r178 a)
  | _ => cutsOf 0 (r178 a) ++ cutsOf 1 (r178 b)

/-- The first range over a function in a code: its head and its body. -/
def findR : Code → Option (Code × Code)
  | .rangeFunc _ _ A B => some (A, B)
  | .seq x y => match findR x with
    | some r => some r
    | none => findR y
  | .block _ c => findR c
  | .loop c => findR c
  | .cond _ x y => match findR x with
    | some r => some r
    | none => findR y
  | _ => none
noncomputable def R151 : Code × Code := ((Tryz.f99.body.bind findR).getD (.skip, .skip))
theorem own_slice {el lo : Nat} {S : AS} {v : Value} {l : List Ct} (h : Own el lo S v l) : ∃ p n c, v = .slice p n c := by
  rcases h with ⟨_, rfl⟩ | ⟨id, ex, rfl, _⟩
  · exact ⟨_, _, _, rfl⟩
  · exact ⟨_, _, _, rfl⟩
theorem cutsOf_len (k : Int) (ps : List Sp) : (cutsOf k ps).length = 2 * ps.length := by
  induction ps with
  | nil => rfl
  | cons p ps ih => simp only [cutsOf, List.flatMap_cons, List.length_append, List.length_cons, List.length_nil] at ih ⊢; omega
theorem cutsOf_take (k : Int) (ps : List Sp) (i : Nat) (b : Sp) (h : ps[i]? = some b) : cutsOf k (ps.take (i + 1)) = cutsOf k (ps.take i) ++ [⟨b.lo, k, 1⟩, ⟨IntKind.i64.wrap (b.hi + 1), k, -1⟩] := by
  rw [List.take_add_one, h]
  simp [cutsOf]

set_option maxHeartbeats 8000000 in
theorem rg151 (k : Int) (l : List Ar) (hn : l.length ≤ 1000) (hr : (r178 l).length ≤ 2000) (o : List Ct) (ho : o.length ≤ 4000) (lo : Nat) (S : AS) (hlo : lo ≤ S.next) (t : T Value) (d : List Nat) (z : Option (X × St))
    (p3 p4 pb : Nat) (pl : Option Addr) (nl cl : Nat) (po : Option Addr) (no co : Nat)
    (g3 : t.get 3 = some (.pointer (some ⟨p3, 0, none⟩))) (g4 : t.get 4 = some (.pointer (some ⟨p4, 0, none⟩))) (g13 : t.get 13 = some (.func (.func 112) #[] #[.pointer (some ⟨pb, 0, none⟩)]))
    (h3 : S.heap.get p3 = some (.cells [.slice po no co] 138 0 true true)) (h4 : S.heap.get p4 = some (.cells [.int .i64 k] 3 0 true true)) (hb : S.heap.get pb = some (.cells [.slice pl nl cl] 22 0 true true))
    (l3 : p3 < S.next) (l4 : p4 < S.next) (lb : pb < S.next) (n34 : p4 ≠ p3) (n3b : pb ≠ p3)
    (hl : Lst S (.slice pl nl cl) l) (ow : Own 142 lo S (.slice po no co) o)
    (nl' : ∀ q, blkOf (.slice pl nl cl) = some q → q < S.next ∧ q ≠ p3 ∧ blkOf (.slice po no co) ≠ some q) (nb' : blkOf (.slice po no co) ≠ some pb) (n4' : blkOf (.slice po no co) ≠ some p4) (n3' : blkOf (.slice po no co) ≠ some p3)
    (hz : evCode Tryz.prog E0 (evL Tryz.prog E0) none (.rangeFunc (.tmp 13) #[14] R151.1 R151.2) ⟨⟨t, 31⟩, d, S⟩ = z) :
    ∃ S' po' no' co', z = some (.normal, ⟨⟨t, 31⟩, S.next :: d, S'⟩) ∧ S.next ≤ S'.next ∧ S'.heap.get p3 = some (.cells [.slice po' no' co'] 138 0 true true) ∧ Own 142 lo S' (.slice po' no' co') (o ++ cutsOf k (r178 l)) ∧
      S'.heap.get S.next = some (.dfd true) ∧ S.next < S'.next ∧ (∀ q, q ≤ S.next → blkOf (.slice po no co) ≠ some q → blkOf (.slice po' no' co') ≠ some q) ∧ ∀ q, q < S.next → q ≠ p3 → blkOf (.slice po no co) ≠ some q → S'.heap.get q = S.heap.get q := by
  obtain ⟨x, S', rfl, hQ⟩ := range_met hz (k := 112) (cs := #[]) (ds := #[.pointer (some ⟨pb, 0, none⟩)]) g13 (fun a S' => rfl)
    (fun x S' => x = .normal ∧ ∃ po' no' co', S.next ≤ S'.next ∧ S'.heap.get p3 = some (.cells [.slice po' no' co'] 138 0 true true) ∧ Own 142 lo S' (.slice po' no' co') (o ++ cutsOf k (r178 l)) ∧
      S'.heap.get S.next = some (.dfd true) ∧ S.next < S'.next ∧ (∀ q, q ≤ S.next → blkOf (.slice po no co) ≠ some q → blkOf (.slice po' no' co') ≠ some q) ∧ ∀ q, q < S.next → q ≠ p3 → blkOf (.slice po no co) ≠ some q → S'.heap.get q = S.heap.get q)
    (by
      intro L0 S1 S2 e1 e2 hbg
      obtain rfl := hbg.eq
      obtain ⟨Sx, ex1, nx1, bx1, ax1⟩ := push_open S (.dfd true)
      obtain rfl : Sx = S1 := ex1.symm.trans e1
      obtain ⟨Sy, ex2, nx2, bx2, ax2⟩ := push_open Sx (.loop ⟨.ready, none, t, 31, #[14], R151.1, R151.2⟩)
      obtain rfl : Sy = S2 := ex2.symm.trans e2
      have ag := ax1.trans ax2
      generalize hy : Sx.next = y at *
      have hys : y = S.next + 1 := by omega
      have key := it178 l hn Sy y (fun i T S' => Sy.next ≤ S'.next ∧ i ≤ (r178 l).length ∧ S'.heap.get y = some (.loop ⟨.ready, none, t, 31, #[14], R151.1, R151.2⟩) ∧ S'.heap.get p4 = some (.cells [.int .i64 k] 3 0 true true) ∧
          ∃ po' no' co', S'.heap.get p3 = some (.cells [.slice po' no' co'] 138 0 true true) ∧ Own 142 lo S' (.slice po' no' co') (o ++ cutsOf k ((r178 l).take i)) ∧
            (∀ q, q < Sy.next → blkOf (.slice po no co) ≠ some q → blkOf (.slice po' no' co') ≠ some q) ∧ T = fun id => id = p3 ∨ id = y ∨ blkOf (.slice po' no' co') = some id)
        (fun id => id = p3 ∨ id = y ∨ blkOf (.slice po no co) = some id) ?_ ?_ (.slice pl nl cl) (hl.agree ag) ?_ pb ((ag.2 pb lb).trans hb) (by omega) ?_
      · obtain ⟨S3, T3, hc, ⟨hn3, _, hy3, _, po', no', co', hp3, ow3, hw3, rfl⟩, off3, _⟩ := key
        refine ⟨_, S3, _, .normal, hc, hy3, by simp, rfl, rfl, po', no', co', ?_, ?_, ?_, ?_, ?_, ?_, ?_⟩
        · show S.next ≤ S3.next; omega
        · simp only [T.get_set]; rw [if_neg (by omega)]; exact hp3
        · rw [List.take_length] at ow3
          refine ow3.frame (Nat.le_refl _) fun id hid hbk => ?_
          have : id ≠ y := fun e => hw3 y (by omega) (ow.new (by omega)) (by rw [← e]; exact hbk)
          simp only [T.get_set]; rw [if_neg this]
        · simp only [T.get_set]; rw [if_neg (by omega)]
          exact (off3.2 S.next (by omega) (fun h => h.elim (fun h => by omega) fun h => h.elim (fun h => by omega) (ow.new (Nat.le_refl _)))).trans ((ax2.2 S.next (by omega)).trans bx1)
        · show S.next < S3.next; omega
        · intro q hq hne; exact hw3 q (by omega) hne
        · intro q hq h1 h2
          simp only [T.get_set]; rw [if_neg (by omega)]
          exact (off3.2 q (by omega) (fun h => h.elim h1 fun h => h.elim (fun h => by omega) h2)).trans (ag.2 q hq)
      · refine ⟨?_, ?_, ?_⟩
        · rintro i T S' ⟨hn', _, _, _, po', no', co', _, ow', _, rfl⟩ id (rfl | rfl | hid)
          · omega
          · omega
          · exact ow'.lt hid
        · rintro i T S' S'' ⟨hn', hi, hy', h4', po', no', co', h3', ow', hw', rfl⟩ hle hk
          exact ⟨by omega, hi, (hk y (by omega) (.inl (.inr (.inl rfl)))).trans hy', (hk p4 (by omega) (.inr (by omega))).trans h4', po', no', co', (hk p3 (by omega) (.inl (.inl rfl))).trans h3', ow'.frame hle (fun id hid hb => hk id hid (.inl (.inr (.inr hb)))), hw', rfl⟩
        · rintro i T S' b hbi ⟨hn', hi, hy', h4', po', no', co', h3', ow', hw', rfl⟩
          have hi2 : i < (r178 l).length := (List.getElem?_eq_some_iff.1 hbi).1
          have hlen : (o ++ cutsOf k ((r178 l).take i)).length ≤ 8000 := by rw [List.length_append, cutsOf_len, List.length_take]; omega
          have hny : blkOf (.slice po' no' co') ≠ some y := hw' y (by omega) (ow.new (by omega))
          have hn4 : blkOf (.slice po' no' co') ≠ some p4 := hw' p4 (by omega) n4'
          have hn3 : blkOf (.slice po' no' co') ≠ some p3 := hw' p3 (by omega) n3'
          obtain ⟨S4, r1, T', r2, r3, r4⟩ := round_run (P := Tryz.prog) (E := E0) (l := y) (b := Value.agg (cellsOf b).toArray) (show 14 < 31 by decide) hy' (Q := fun S4 => ∃ T' : Nat → Prop, (Sy.next ≤ S4.next ∧ i + 1 ≤ (r178 l).length ∧ S4.heap.get y = some (.loop ⟨.ready, none, t, 31, #[14], R151.1, R151.2⟩) ∧ S4.heap.get p4 = some (.cells [.int .i64 k] 3 0 true true) ∧
            ∃ po' no' co', S4.heap.get p3 = some (.cells [.slice po' no' co'] 138 0 true true) ∧ Own 142 lo S4 (.slice po' no' co') (o ++ cutsOf k ((r178 l).take (i + 1))) ∧
              (∀ q, q < Sy.next → blkOf (.slice po no co) ≠ some q → blkOf (.slice po' no' co') ≠ some q) ∧ T' = fun id => id = p3 ∨ id = y ∨ blkOf (.slice po' no' co') = some id) ∧
              Off (fun id => id = p3 ∨ id = y ∨ blkOf (.slice po' no' co') = some id) S' S4 ∧ Wider (fun id => id = p3 ∨ id = y ∨ blkOf (.slice po' no' co') = some id) S' T') (by
            intro zA hA
            change evCode _ _ _ _ (Code.region 6 _ _) ⟨⟨t.set 14 (some (.agg #[.int .i64 b.lo, .int .i64 b.hi])), 31⟩, [], S'⟩ = _ at hA
            obtain ⟨S5, e5, n5, b5, a5⟩ := push_open S' (.cells [.int .i64 0, .int .i64 0] 137 0 true true)
            obtain ⟨S6, e6, n6, b6, q6⟩ := st_at (P := Tryz.prog) (o := 0) (c' := [.int .i64 b.lo, .int .i64 b.hi]) (v := .agg #[.int .i64 b.lo, .int .i64 b.hi]) tz178 b5 rfl rfl (show 0 + 2 ≤ 2 by decide) rfl
            simp (disch := first | omega | assumption) only [E0_G, SY, off, agreeKind, allocV, Nat.reduceAdd, Nat.reduceLT, Nat.reduceBEq, TY_EvA14, e5, e6] at hA
            refine ⟨_, S6, hA.symm, ?_, ?_⟩
            · exact (q6 y (by omega)).trans ((a5.2 y (by omega)).trans hy')
            intro S7 n7 b7 q7 zB hB
            change evCode _ _ _ _ (Code.block 3 (Code.region 7 _ _)) _ = _ at hB
            have u3 : S7.heap.get p3 = some (.cells [.slice po' no' co'] 138 0 true true) := (q7 p3 (by omega)).trans ((q6 p3 (by omega)).trans ((a5.2 p3 (by omega)).trans h3'))
            have u4 : S7.heap.get p4 = some (.cells [.int .i64 k] 3 0 true true) := (q7 p4 (by omega)).trans ((q6 p4 (by omega)).trans ((a5.2 p4 (by omega)).trans h4'))
            have u6 : S7.heap.get S'.next = some (.cells [.int .i64 b.lo, .int .i64 b.hi] 137 0 true true) := (q7 S'.next (by omega)).trans b6
            have ow7 : Own 142 lo S7 (.slice po' no' co') (o ++ cutsOf k ((r178 l).take i)) := ow'.frame (by omega) fun id hid hbk => (q7 id (fun e => hny (by rw [← e]; exact hbk))).trans ((q6 id (by omega)).trans (a5.2 id hid))
            obtain ⟨S8, e8, n8, b8, a8⟩ := push_open S7 (.cells [.int .i64 b.lo, .int .i64 k, .int .i64 1, .int .i64 (IntKind.i64.wrap (b.hi + 1)), .int .i64 k, .int .i64 (-1)] 142 3 true true)
            have y8 : aBuildSlice Tryz.prog 138 2 [(0, .agg #[.int .i64 b.lo, .int .i64 k, .int .i64 1]), (1, .agg #[.int .i64 (IntKind.i64.wrap (b.hi + 1)), .int .i64 k, .int .i64 (-1)])] S7 = some (.slice (some ⟨S7.next, 0, none⟩) 2 2, S7.push (.cells [.int .i64 b.lo, .int .i64 k, .int .i64 1, .int .i64 (IntKind.i64.wrap (b.hi + 1)), .int .i64 k, .int .i64 (-1)] 142 3 true true)) := by kernel_rfl
            have o8 : Own 142 S7.next S8 (.slice (some ⟨S7.next, 0, none⟩) 2 2) ([⟨b.lo, k, 1⟩, ⟨IntKind.i64.wrap (b.hi + 1), k, -1⟩] : List Ct) := .inr ⟨_, true, rfl, Nat.le_refl _, by omega, b8⟩
            obtain ⟨u, S9, k9, o9, n9, f9, d9⟩ := own_append (P := Tryz.prog) (t := 138) (tx := 138) (n := 2) (v := .slice po' no' co') (ow7.agree a8) o8.rows (by omega) (by omega) (by simp) Tryz.underlying138 Tryz.underlying138 ti183 tv183 rfl tz183
            obtain ⟨pu, nu, cu, rfl⟩ := own_slice o9
            have v3 : S9.heap.get p3 = some (.cells [.slice po' no' co'] 138 0 true true) := (f9 p3 (by omega) hn3).trans ((a8.2 p3 (by omega)).trans u3)
            obtain ⟨S10, k10, n10, b10, q10⟩ := st_at (P := Tryz.prog) (o := 0) (c' := [.slice pu nu cu]) (v := .slice pu nu cu) tz179 v3 rfl rfl (show 0 + 1 ≤ 1 by decide) rfl
            have y7 : aBuild Tryz.prog 142 [(0, .int .i64 b.lo), (1, .int .i64 k), (2, .int .i64 1)] = some (.agg #[.int .i64 b.lo, .int .i64 k, .int .i64 1]) := by kernel_rfl
            have y7' : aBuild Tryz.prog 142 [(0, .int .i64 (IntKind.i64.wrap (b.hi + 1))), (1, .int .i64 k), (2, .int .i64 (-1))] = some (.agg #[.int .i64 (IntKind.i64.wrap (b.hi + 1)), .int .i64 k, .int .i64 (-1)]) := by kernel_rfl
            simp (disch := first | omega | assumption) only [E0_G, SY, off, agreeKind, partVals, ldA, aggD, aField, Nat.reduceAdd, Nat.reduceLT, Nat.reduceBEq, TY_EvA14, g3, g4, u3, u4, u6, y7, y7', Tryz.underlying138, y8, e8, k9, k10] at hB
            refine ⟨_, _, S10, hB.symm, (q10 y (by omega)).trans ((f9 y (by omega) hny).trans ((a8.2 y (by omega)).trans b7)), ?_⟩
            intro S11 n11 b11 q11
            have dy := d9 y (by omega) hny
            have d3 := d9 p3 (by omega) hn3
            refine ⟨_, ⟨by omega, by omega, b11, (q11 p4 (by omega)).trans ((q10 p4 n34).trans ((f9 p4 (by omega) hn4).trans ((a8.2 p4 (by omega)).trans u4))), pu, nu, cu, (q11 p3 (by omega)).trans b10, ?_, fun q hq h => d9 q (by omega) (hw' q hq h), rfl⟩, ?_, ?_⟩
            · rw [cutsOf_take k _ i b hbi, ← List.append_assoc]
              exact o9.frame (by omega) fun id hid hbk => (q11 id (fun e => dy (by rw [← e]; exact hbk))).trans (q10 id (fun e => d3 (by rw [← e]; exact hbk)))
            · exact ⟨by omega, fun id hid hT => (q11 id (fun e => hT (.inr (.inl e)))).trans ((q10 id (fun e => hT (.inl e))).trans ((f9 id (by omega) (fun h => hT (.inr (.inr h)))).trans ((a8.2 id (by omega)).trans ((q7 id (fun e => hT (.inr (.inl e)))).trans ((q6 id (by omega)).trans (a5.2 id hid))))))⟩
            · intro id hT
              refine hT.elim (fun h => .inl (.inl h)) fun h => h.elim (fun h => .inl (.inr (.inl h))) fun h => ?_
              by_cases hid : id < S'.next
              · by_cases ho' : blkOf (.slice po' no' co') = some id
                · exact .inl (.inr (.inr ho'))
                · exact absurd h (d9 id (by omega) ho')
              · exact .inr (by omega))
          exact ⟨S4, T', r1, r2, r3, r4⟩
      · exact ⟨Nat.le_refl _, Nat.zero_le _, bx2, (ag.2 p4 l4).trans h4, po, no, co, (ag.2 p3 l3).trans h3, by simpa [cutsOf] using ow.agree ag, fun q _ h => h, rfl⟩
      · rintro q hq (h | h | h)
        · exact (nl' q hq).2.1 h
        · exact absurd h (by have := (nl' q hq).1; omega)
        · exact (nl' q hq).2.2 h
      · rintro (h | h | h)
        · exact n3b h
        · omega
        · exact nb' h)
  obtain ⟨rfl, po', no', co', q1, q2, q3, q4, q5, q6, q7⟩ := hQ
  exact ⟨S', po', no', co', rfl, q1, q2, q3, q4, q5, q6, q7⟩

theorem own_blk {el lo : Nat} {S : AS} {v : Value} {l : List Ct} (h : Own el lo S v l) (hl : 0 < l.length) : ∃ id, blkOf v = some id := by
  rcases h with ⟨rfl, _⟩ | ⟨id, ex, rfl, _⟩
  · simp at hl
  · exact ⟨id, rfl⟩
theorem R178_len (l : List Ar) : ∀ m : List Ar, (R178_0 l m).length ≤ 2 * m.length := by
  intro m
  induction m with
  | nil => simp [R178_0]
  | cons x m ih => unfold R178_0; split <;> (simp only [List.length_cons]; omega)
theorem r178_len (l : List Ar) : (r178 l).length ≤ 2 * l.length := R178_len l l

set_option maxHeartbeats 8000000 in
theorem c151 {N : Nat} (hs : SortOk N) (a b : List Ar) (hna : a.length ≤ 250) (hnb : b.length ≤ 250) (hN : 2 * (r178 a).length + 2 * (r178 b).length ≤ N) (S : AS) (pa pb : Option Addr) (na ca nb cb : Nat) (hv_a : Lst S (.slice pa na ca) a) (hv_b : Lst S (.slice pb nb cb) b)
    (hba : ∀ q, blkOf (.slice pa na ca) = some q → q < S.next) (hbb : ∀ q, blkOf (.slice pb nb cb) = some q → q < S.next) :
    ∃ v' S' ks, (evL Tryz.prog E0).call 99 #[.agg #[.slice pa na ca, .slice pb nb cb]] S = some (v', S') ∧ Agree S S' ∧ Own 142 S.next S' v' ks ∧ ks.Perm (cutsTo a b 2) ∧ KSorted ks := by
  have ra := r178_len a
  have rb := r178_len b
  generalize hz : (evL Tryz.prog E0).call 99 _ _ = z
  rw [L_call, evCall_said rfl Tryz.func99 rfl (by decide) Tryz.ntmps99 Tryz.results99] at hz
  obtain ⟨S1, e1, n1, b1, a1⟩ := push_open S (.cells [.slice pa na ca, .slice pb nb cb] 84 0 true true)
  obtain ⟨S2, e2, n2, b2, a2⟩ := push_open S1 (.cells [.slice none 0 0] 138 0 true true)
  have b1' := (a2.2 S.next (by omega)).trans b1
  simp (disch := first | omega | assumption) only [E0_G, SY, setArgs, off, agreeKind, allocV, boxed, ldA, rdCells, aggD, Nat.reduceAdd, Nat.reduceSub, Nat.reduceLT, Nat.reduceBEq, e1, tz105, Tryz.underlying84, tt179, t0_179, Tryz.underlying138, e2, b1'] at hz
  have x0 : aIndexV Tryz.prog 84 (.agg #[.slice pa na ca, .slice pb nb cb]) (.int .i64 0) = some (.slice pa na ca) := by kernel_rfl
  have x1 : aIndexV Tryz.prog 84 (.agg #[.slice pa na ca, .slice pb nb cb]) (.int .i64 1) = some (.slice pb nb cb) := by kernel_rfl
  have w1 : IntKind.i64.wrap ((0 : Int) + 1) = 1 := by decide
  have w2 : IntKind.i64.wrap ((1 : Int) + 1) = 2 := by decide
  -- the first list
  obtain ⟨S3, e3, n3, b3, a3⟩ := push_open S2 (.cells [.int .i64 0] 3 0 true true)
  obtain ⟨S4, e4, n4, b4, q4⟩ := st_at (P := Tryz.prog) (o := 0) (c' := [.int .i64 0]) (v := .int .i64 0) tz3 b3 rfl rfl (show 0 + 1 ≤ 1 by decide) rfl
  obtain ⟨S5, e5, a5, n5, b5⟩ := c162 pa na ca S4
  rw [L_loop_step] at hz
  simp (disch := first | omega | assumption) only [E0_G, SY, off, agreeKind, vals, allocV, Nat.reduceAdd, Nat.reduceLT, Nat.reduceBEq, Int.reduceLT, TY_EvA14, x0, e3, e4, e5] at hz
  generalize hR : evCode Tryz.prog E0 (evL Tryz.prog E0) none (.rangeFunc _ _ _ _) _ = R at hz
  have ag5 : ∀ q, q < S2.next → S5.heap.get q = S2.heap.get q := fun q hq => (a5.2 q (by omega)).trans ((q4 q (by omega)).trans (a3.2 q hq))
  have agS : Agree S S5 := ⟨by omega, fun q hq => (ag5 q (by omega)).trans ((a2.2 q (by omega)).trans (a1.2 q hq))⟩
  obtain ⟨S6, p6, m6, k6, rfl, n6, b6, o6, t6, l6, d6, f6⟩ := rg151 0 a (by omega) (by have := r178_len a; omega) [] (by simp) S.next S5 (by omega) _ _ _ S1.next S2.next S4.next pa na ca none 0 0
    (by simp only [SY, eq_self, Nat.reduceBEq] <;> rfl) (by simp only [SY, eq_self, Nat.reduceBEq] <;> rfl) (by simp only [SY, eq_self, Nat.reduceBEq] <;> rfl)
    ((ag5 S1.next (by omega)).trans b2) ((a5.2 S2.next (by omega)).trans b4) b5 (by omega) (by omega) (by omega) (by omega) (by omega) (hv_a.agree agS) (Own.nil _ _ _)
    (fun q hq => ⟨by have := hba q hq; omega, by have := hba q hq; omega, by simp [blkOf]⟩) (by simp [blkOf]) (by simp [blkOf]) (by simp [blkOf]) hR
  -- the second list
  obtain ⟨S7, e7, n7, b7, a7⟩ := push_open S6 (.cells [.int .i64 0] 3 0 true true)
  obtain ⟨S8, e8, n8, b8, q8⟩ := st_at (P := Tryz.prog) (o := 0) (c' := [.int .i64 1]) (v := .int .i64 1) tz3 b7 rfl rfl (show 0 + 1 ≤ 1 by decide) rfl
  obtain ⟨S9, e9, a9, n9, b9⟩ := c162 pb nb cb S8
  simp (disch := first | omega | assumption) only [E0_G, SY, off, agreeKind, Nat.reduceAdd, Nat.reduceLT, Nat.reduceBEq, w1] at hz
  rw [L_loop_step] at hz
  simp (disch := first | omega | assumption) only [E0_G, SY, off, agreeKind, vals, allocV, Nat.reduceAdd, Nat.reduceLT, Nat.reduceBEq, Int.reduceLT, TY_EvA14, x1, e7, e8, e9] at hz
  generalize hR2 : evCode Tryz.prog E0 (evL Tryz.prog E0) none (.rangeFunc _ _ _ _) _ = R2 at hz
  have ag9 : ∀ q, q < S6.next → S9.heap.get q = S6.heap.get q := fun q hq => (a9.2 q (by omega)).trans ((q8 q (by omega)).trans (a7.2 q hq))
  have agT : Agree S S9 := ⟨by omega, fun q hq => (ag9 q (by omega)).trans ((f6 q (by omega) (by omega) (by simp [blkOf])).trans (agS.2 q hq))⟩
  obtain ⟨S10, p10, m10, k10, rfl, n10, b10, o10, t10, l10, d10, f10⟩ := rg151 1 b (by omega) (by have := r178_len b; omega) _ (by have := cutsOf_len 0 (r178 a); simp only [List.nil_append]; omega) S.next S9 (by omega) _ _ _ S1.next S6.next S8.next pb nb cb p6 m6 k6
    (by simp only [SY, eq_self, Nat.reduceBEq] <;> rfl) (by simp only [SY, eq_self, Nat.reduceBEq] <;> rfl) (by simp only [SY, eq_self, Nat.reduceBEq] <;> rfl)
    ((ag9 S1.next (by omega)).trans b6) ((a9.2 S6.next (by omega)).trans b8) b9 (by omega) (by omega) (by omega) (by omega) (by omega) (hv_b.agree agT) (o6.frame (by omega) fun id hid _ => ag9 id hid)
    (fun q hq => ⟨by have := hbb q hq; omega, by have := hbb q hq; omega, o6.ne (hbb q hq)⟩) (o6.new (by omega)) (o6.new (Nat.le_refl _)) (d6 S1.next (by omega) (by simp [blkOf])) hR2
  -- the end
  have hc : [] ++ cutsOf 0 (r178 a) ++ cutsOf 1 (r178 b) = cutsTo a b 2 := rfl
  rw [hc] at o10
  have hlen : (cutsTo a b 2).length = 2 * (r178 a).length + 2 * (r178 b).length := by simp only [cutsTo, List.length_append, cutsOf_len]
  obtain ⟨id, hid⟩ : ∃ id, 0 < (cutsTo a b 2).length → blkOf (.slice p10 m10 k10) = some id := by
    by_cases hc0 : 0 < (cutsTo a b 2).length
    · obtain ⟨id, hid⟩ := own_blk o10 hc0
      exact ⟨id, fun _ => hid⟩
    · exact ⟨0, fun h => absurd h hc0⟩
  obtain ⟨S11, ks, k11, kp11, o11, hpm, hso⟩ := hs (cutsTo a b 2) (by omega) S.next S10 _ o10 id hid
  have b11 := (kp11.2 S1.next (by omega) (d10 S1.next (by omega) (d6 S1.next (by omega) (by simp [blkOf])))).trans b10
  simp (disch := first | omega | assumption) only [E0_G, SY, off, agreeKind, Nat.reduceAdd, Nat.reduceLT, Nat.reduceBEq, w2] at hz
  rw [L_loop_step] at hz
  simp (disch := first | omega | assumption) only [E0_G, SY, off, agreeKind, vals, ldA, aggD, eq_self, if_true, Nat.reduceAdd, Nat.reduceLT, Nat.reduceBEq, Int.reduceLT, Tryz.underlying138, b10, k11, b11] at hz
  have hd5 : S11.heap.get S5.next = some (.dfd true) := (kp11.2 S5.next (by omega) (d10 S5.next (by omega) (d6 S5.next (Nat.le_refl _) (by simp [blkOf])))).trans ((f10 S5.next (by omega) (by omega) (d6 S5.next (Nat.le_refl _) (by simp [blkOf]))).trans ((ag9 S5.next (by omega)).trans t6))
  have hd9 : S11.heap.get S9.next = some (.dfd true) := (kp11.2 S9.next (by omega) (d10 S9.next (Nat.le_refl _) (o6.new (by omega)))).trans t10
  obtain ⟨S12, k12, n12, q12⟩ := take2 hd9 hd5 (by omega)
  rw [handed_take k12] at hz
  simp (disch := first | omega | assumption) only [SY, Nat.reduceBEq] at hz
  have hkp := kp11.1
  refine ⟨_, S12, ks, hz.symm, ⟨by omega, fun q hq => ?_⟩, ?_, hpm, hso⟩
  · exact (q12 q (by omega) (by omega)).trans ((kp11.2 q (by omega) (o10.ne hq)).trans ((f10 q (by omega) (by omega) (o6.ne hq)).trans (agT.2 q hq)))
  · exact o11.frame (by omega) fun id' hid' hb' => q12 id' (fun e => d10 S9.next (Nat.le_refl _) (o6.new (by omega)) (by rw [← e]; exact hb')) (fun e => d10 S5.next (by omega) (d6 S5.next (Nat.le_refl _) (by simp [blkOf])) (by rw [← e]; exact hb'))
end Great
end Go.Proofs
end
section
/-
  The great seat of stage 1: the pieces that are kept.
-/
set_option linter.unusedSimpArgs false
set_option linter.unusedVariables false
namespace Go.Proofs
namespace Great
open Go Go.RowKit Go.Aev
set_option maxRecDepth 100000

theorem tz107 : szOf Tryz.prog 86 = some 1 := by kernel_rfl
theorem tt107 : inTab Tryz.prog 86 = true := by kernel_rfl
set_option maxHeartbeats 8000000 in
theorem c130 {N : Nat} (hs : SortOk N) (a b : List Ar) (hna : a.length ≤ 250) (hnb : b.length ≤ 250) (hN : 2 * (r178 a).length + 2 * (r178 b).length ≤ N) (S : AS) (pa pb : Option Addr) (na ca nb cb : Nat) (hv_a : Lst S (.slice pa na ca) a) (hv_b : Lst S (.slice pb nb cb) b)
    (hba : ∀ q, blkOf (.slice pa na ca) = some q → q < S.next) (hbb : ∀ q, blkOf (.slice pb nb cb) = some q → q < S.next) (kf : FuncId) :
    ∃ S' x y po no co ks, (evL Tryz.prog E0).call 82 #[.agg #[.slice pa na ca, .slice pb nb cb], .func (.func kf) #[] #[]] S = some (.func (.func 100) #[] #[.pointer (some ⟨x, 0, none⟩), .pointer (some ⟨y, 0, none⟩)], S') ∧ Agree S S' ∧
      S'.heap.get x = some (.cells [.slice po no co] 138 0 true true) ∧ S'.heap.get y = some (.cells [.func (.func kf) #[] #[]] 86 0 true true) ∧ S.next ≤ x ∧ S.next ≤ y ∧ x < S'.next ∧ y < S'.next ∧ x ≠ y ∧
      Own 142 S.next S' (.slice po no co) ks ∧ blkOf (.slice po no co) ≠ some x ∧ blkOf (.slice po no co) ≠ some y ∧ ks.Perm (cutsTo a b 2) ∧ KSorted ks := by
  generalize hz : (evL Tryz.prog E0).call 82 _ _ = z
  rw [L_call, evCall_said rfl Tryz.func82 rfl (by decide) Tryz.ntmps82 Tryz.results82] at hz
  obtain ⟨S1, e1, n1, b1, a1⟩ := push_open S (.cells [.slice pa na ca, .slice pb nb cb] 84 0 true true)
  obtain ⟨S2, e2, n2, b2, a2⟩ := push_open S1 (.cells [.func (.func kf) #[] #[]] 86 0 true true)
  have b1' := (a2.2 S.next (by omega)).trans b1
  obtain ⟨v, S3, ks, e3, a3, o3, hpm, hso⟩ := c151 hs a b hna hnb hN S2 pa pb na ca nb cb (hv_a.agree (a1.trans a2)) (hv_b.agree (a1.trans a2)) (fun q hq => by have := hba q hq; omega) (fun q hq => by have := hbb q hq; omega)
  obtain ⟨po, no, co, rfl⟩ := own_slice o3
  have m3 := a3.1
  obtain ⟨S4, e4, n4, b4, a4⟩ := push_open S3 (.cells [.slice none 0 0] 138 0 true true)
  obtain ⟨S5, e5, n5, b5, q5⟩ := st_at (P := Tryz.prog) (o := 0) (c' := [.slice po no co]) (v := .slice po no co) tz179 b4 rfl rfl (show 0 + 1 ≤ 1 by decide) rfl
  simp (disch := first | omega | assumption) only [E0_G, SY, setArgs, off, agreeKind, partVals, vals, allocV, boxed, ldA, rdCells, oneB, aggD, aField, aFieldV, aExtract, eq_self, ne_eq, if_true, if_false, not_false_eq_true, Nat.reduceAdd, Nat.reduceSub, Nat.reduceMul, Nat.reduceLT, Nat.reduceEqDiff, Nat.reduceBEq, reduceIte, Int.reduceEq, Int.reduceLT, Int.reduceLE, reduceCtorEq, TY_EvA14, and_fold, or_fold, not_fold, e1, b1, tz105, tt105, Tryz.underlying84, tz179, tt179, t0_179, Tryz.underlying138, tz107, tt107, Tryz.underlying86, e2, b1', e3, e4, e5, op_makeFunc, Op.operands, List.map_toArray, List.append_toArray, List.append_nil, List.nil_append, Option.getD_some, Tryz.underlying120, Tryz.underlying119] at hz
  have low : ∀ q, q < S3.next → S5.heap.get q = S3.heap.get q := fun q hq => (q5 q (by omega)).trans (a4.2 q hq)
  refine ⟨S5, S3.next, S1.next, po, no, co, ks, hz.symm, ⟨by omega, fun q hq => (low q (by omega)).trans ((a3.2 q (by omega)).trans ((a2.2 q (by omega)).trans (a1.2 q hq)))⟩, b5, (low S1.next (by omega)).trans ((a3.2 S1.next (by omega)).trans b2), by omega, by omega, by omega, by omega, by omega, ?_, ?_, ?_, hpm, hso⟩
  · exact (o3.frame (by omega) fun id hid _ => low id hid).low (by omega)
  · exact o3.new (Nat.le_refl _)
  · exact o3.ne (by omega)
end Great
end Go.Proofs
end
section
/-
  The great seat of stage 1: what the kept pieces, and their join, are.
-/
set_option linter.unusedSimpArgs false
set_option linter.unusedVariables false
namespace Go.Proofs
namespace Great
open Go Go.RowKit Go.Aev
set_option maxRecDepth 100000

def stepC (x : Ct) (p q : Int) : Int × Int := if x.li = 0 then (IntKind.i64.wrap (p + x.by_), q) else (p, IntKind.i64.wrap (q + x.by_))
def R152 (keep : Bool → Bool → Bool) : List Ct → Int → Int → List Sp
  | [], _, _ => []
  | [_], _, _ => []
  | x :: x2 :: l, p, q =>
    if x2.at_ = x.at_ then R152 keep (x2 :: l) (stepC x p q).1 (stepC x p q).2
    else if (0 < (stepC x p q).1 ∨ 0 < (stepC x p q).2) ∧ keep (decide (0 < (stepC x p q).1)) (decide (0 < (stepC x p q).2)) = true then (⟨x.at_, IntKind.i64.wrap (x2.at_ - 1)⟩ : Sp) :: R152 keep (x2 :: l) (stepC x p q).1 (stepC x p q).2
    else R152 keep (x2 :: l) (stepC x p q).1 (stepC x p q).2

/-- One piece more: the last arc becomes longer, or there is one more. -/
def joinS (o : List Ar) (p : Sp) : List Ar :=
  if 0 < o.length ∧ IntKind.i64.wrap (IntKind.i64.wrap ((lget o (o.length - 1)).f + (lget o (o.length - 1)).l) + 1) = p.lo then o.set (o.length - 1) ⟨(lget o (o.length - 1)).f, IntKind.i64.wrap (p.hi - (lget o (o.length - 1)).f)⟩
  else o ++ [⟨p.lo, IntKind.i64.wrap (p.hi - p.lo)⟩]
/-- The last arc leads over the angle 0 into the first one. -/
def wrapA (o : List Ar) : List Ar :=
  if 1 < o.length ∧ (lget o 0).f = 0 ∧ IntKind.i64.wrap ((lget o (o.length - 1)).f + (lget o (o.length - 1)).l) = 43199 then
    (o.set (o.length - 1) ⟨(lget o (o.length - 1)).f, IntKind.i64.wrap ((lget o (o.length - 1)).l + IntKind.i64.wrap (1 + (lget o 0).l))⟩).drop 1
  else o
def r129 (ps : List Sp) : List Ar := wrapA (ps.foldl joinS [])
theorem joinS_len (o : List Ar) (p : Sp) : (joinS o p).length ≤ o.length + 1 := by
  unfold joinS
  split
  · rw [List.length_set]; omega
  · simp
theorem foldl_joinS_len (ps : List Sp) : ∀ o : List Ar, (ps.foldl joinS o).length ≤ o.length + ps.length := by
  induction ps with
  | nil => intro o; simp
  | cons p ps ih => intro o; have h1 := ih (joinS o p); have h2 := joinS_len o p; simp only [List.foldl_cons, List.length_cons]; omega
theorem R152_len (keep : Bool → Bool → Bool) : ∀ (l : List Ct) (x : Ct) (p q : Int), (R152 keep (x :: l) p q).length ≤ l.length := by
  intro l
  induction l with
  | nil => intro x p q; simp [R152]
  | cons x2 l ih =>
    intro x p q
    have h := ih x2 (stepC x p q).1 (stepC x p q).2
    rw [R152]
    split
    · simp only [List.length_cons]; omega
    · split
      · simp only [List.length_cons]; omega
      · simp only [List.length_cons]; omega
theorem R152_len' (keep : Bool → Bool → Bool) (ks : List Ct) (p q : Int) : (R152 keep ks p q).length ≤ ks.length := by
  cases ks with
  | nil => simp [R152]
  | cons x l => have := R152_len keep l x p q; simp only [List.length_cons]; omega
end Great
end Go.Proofs
end
