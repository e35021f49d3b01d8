/-
  The great seat of stage 1: usual and apart, by the generator.
-/
import Derived.Test.YtgbjgljchkodjaaGreatDoorEvC11
import Derived.Test.YtgbjgljchkodjaaGreatDoorBT
set_option linter.unusedSimpArgs false
set_option linter.unusedVariables false
namespace Go.Proofs
namespace Great
open Go Go.RowKit Go.Aev
set_option maxRecDepth 100000
/-- What is known of the types. -/
theorem TY_EvC12 : type_of% (And.intro (And.intro (And.intro (And.intro (And.intro (And.intro Tryz.underlying3 tz3) (And.intro tt3 (And.intro t0_3 Tryz.underlying22))) (And.intro (And.intro tz22 (And.intro tt22 t0_22)) (And.intro Tryz.underlying56 (And.intro tz43 tt43)))) (And.intro (And.intro (And.intro t0_43 Tryz.underlying59) (And.intro tz44 (And.intro tt44 t0_44))) (And.intro (And.intro Tryz.underlying60 (And.intro tz45 tt45)) (And.intro t0_45 (And.intro Tryz.underlying62 tz51))))) (And.intro (And.intro (And.intro (And.intro tt51 t0_51) (And.intro Tryz.underlying63 (And.intro tz52 tt52))) (And.intro (And.intro t0_52 (And.intro Tryz.underlying43 tz55)) (And.intro tt55 (And.intro t0_55 Tryz.underlying44)))) (And.intro (And.intro (And.intro tz56 tt56) (And.intro t0_56 (And.intro Tryz.underlying45 tz57))) (And.intro (And.intro tt57 (And.intro t0_57 Tryz.underlying46)) (And.intro tz58 (And.intro tt58 t0_58)))))) (And.intro (And.intro (And.intro (And.intro (And.intro Tryz.underlying66 tz77) (And.intro tt77 (And.intro t0_77 Tryz.underlying73))) (And.intro (And.intro tz80 (And.intro tt80 t0_80)) (And.intro Tryz.underlying82 (And.intro tz90 tt90)))) (And.intro (And.intro (And.intro t0_90 Tryz.underlying89) (And.intro tz110 (And.intro tt110 t0_110))) (And.intro (And.intro Tryz.underlying94 (And.intro tz115 tt115)) (And.intro t0_115 (And.intro Tryz.underlying95 tz116))))) (And.intro (And.intro (And.intro (And.intro tt116 t0_116) (And.intro Tryz.underlying76 (And.intro tz123 tt123))) (And.intro (And.intro t0_123 (And.intro Tryz.underlying136 tz177)) (And.intro tt177 (And.intro t0_177 Tryz.underlying137)))) (And.intro (And.intro (And.intro tz178 tt178) (And.intro t0_178 (And.intro Tryz.underlying141 tz182))) (And.intro (And.intro tt182 (And.intro t0_182 Tryz.underlying142)) (And.intro tz183 (And.intro tt183 t0_183))))))) := (And.intro (And.intro (And.intro (And.intro (And.intro (And.intro Tryz.underlying3 tz3) (And.intro tt3 (And.intro t0_3 Tryz.underlying22))) (And.intro (And.intro tz22 (And.intro tt22 t0_22)) (And.intro Tryz.underlying56 (And.intro tz43 tt43)))) (And.intro (And.intro (And.intro t0_43 Tryz.underlying59) (And.intro tz44 (And.intro tt44 t0_44))) (And.intro (And.intro Tryz.underlying60 (And.intro tz45 tt45)) (And.intro t0_45 (And.intro Tryz.underlying62 tz51))))) (And.intro (And.intro (And.intro (And.intro tt51 t0_51) (And.intro Tryz.underlying63 (And.intro tz52 tt52))) (And.intro (And.intro t0_52 (And.intro Tryz.underlying43 tz55)) (And.intro tt55 (And.intro t0_55 Tryz.underlying44)))) (And.intro (And.intro (And.intro tz56 tt56) (And.intro t0_56 (And.intro Tryz.underlying45 tz57))) (And.intro (And.intro tt57 (And.intro t0_57 Tryz.underlying46)) (And.intro tz58 (And.intro tt58 t0_58)))))) (And.intro (And.intro (And.intro (And.intro (And.intro Tryz.underlying66 tz77) (And.intro tt77 (And.intro t0_77 Tryz.underlying73))) (And.intro (And.intro tz80 (And.intro tt80 t0_80)) (And.intro Tryz.underlying82 (And.intro tz90 tt90)))) (And.intro (And.intro (And.intro t0_90 Tryz.underlying89) (And.intro tz110 (And.intro tt110 t0_110))) (And.intro (And.intro Tryz.underlying94 (And.intro tz115 tt115)) (And.intro t0_115 (And.intro Tryz.underlying95 tz116))))) (And.intro (And.intro (And.intro (And.intro tt116 t0_116) (And.intro Tryz.underlying76 (And.intro tz123 tt123))) (And.intro (And.intro t0_123 (And.intro Tryz.underlying136 tz177)) (And.intro tt177 (And.intro t0_177 Tryz.underlying137)))) (And.intro (And.intro (And.intro tz178 tt178) (And.intro t0_178 (And.intro Tryz.underlying141 tz182))) (And.intro (And.intro tt182 (And.intro t0_182 Tryz.underlying142)) (And.intro tz183 (And.intro tt183 t0_183)))))))
def r75 (l : List Ar) : Bool := (if (l.length : Int) ≤ 40 then decide ((r20 (l : List Ar)) = 0) else false)
set_option maxHeartbeats 2000000 in
theorem c75 (l : List Ar)  (S : AS) (v_l : Value) (hv_l : Lst S v_l l) :
    ∃ S', (evL Tryz.prog E0).call 34 #[v_l] S = some (.bool (r75 l), S') ∧ Agree S S' := by
  generalize hz : (evL Tryz.prog E0).call 34 _ _ = z
  rw [L_call, evCall_said rfl Tryz.func34 rfl (by decide) Tryz.ntmps34 Tryz.results34] at hz
  have w1 := (hv_l).len (P := Tryz.prog) (t := 22) Tryz.underlying22
  try simp (disch := first | omega | assumption) only [E0_G, SY, setArgs, off, agreeKind, Nat.reduceAdd, Nat.reduceSub, Nat.reduceLT, Nat.reduceBEq, w1] at hz
  rcases dP ((l.length : Int) ≤ 40) with ⟨h2a, h2⟩ | ⟨h2a, h2⟩
  · skip
    obtain ⟨S3, k3, a3⟩ := c20 (l : List Ar) (by omega) S (v_l) (hv_l) 
    have l3 := a3.1
    have s3 : E0.same S S3 = true := symEnv_same a3
    have g3 : Agree S S3 := a3
    try simp (disch := first | omega | assumption) only [E0_G, SY, off, agreeKind, vals, Nat.reduceAdd, Nat.reduceLT, Nat.reduceBEq, h2a, k3] at hz
    have hr : r75 l = decide ((r20 (l : List Ar)) = 0) := (if_pos h2).trans (rfl)
    exact fin hz (by rw [hr]) g3
  · skip
    try simp (disch := first | omega | assumption) only [E0_G, SY, off, agreeKind, Nat.reduceAdd, Nat.reduceLT, Nat.reduceBEq, h2a] at hz
    have hr : r75 l = false := (if_neg h2).trans (rfl)
    exact fin hz (by rw [hr]) (Agree.refl S)

def R78_1 (l : List Ar) (i : Nat) (x1 : Ar) : List Ar → Nat → Sum (Bool) (Unit)
  | [], k => .inr ()
  | x13 :: l', k => (if (k : Int) = (i : Int) then R78_1 l i x1 l' (k + 1) else (if (r81 ((lget l i).f) x13.f) ≤ (IntKind.i64.wrap (((lget l i).l) + 1)) then .inl false else R78_1 l i x1 l' (k + 1)))
def R78_2 (l : List Ar) (i : Nat) (x1 : Ar) : List Ar → Nat → Sum (Bool) (Unit)
  | [], k => .inr ()
  | x27 :: l', k => (if (k : Int) = (i : Int) then R78_2 l i x1 l' (k + 1) else (if (r81 ((lget l i).f) x27.f) ≤ (IntKind.i64.wrap (((lget l i).l) + 1)) then .inl false else R78_2 l i x1 l' (k + 1)))
def R78_0 (l : List Ar)  : List Ar → Nat → Sum (Bool) (Unit)
  | [], i => .inr ()
  | x1 :: l', i => (if ArcOk x1.f x1.l then (if 0 < (i : Int) then (if x1.f ≤ ((lget l (i - 1)).f) then .inl false else (onSum (R78_1 l i x1 l 0) (fun (r2 : Bool) => .inl r2) (fun (_ : Unit) => R78_0 l l' (i + 1)))) else (onSum (R78_2 l i x1 l 0) (fun (r2 : Bool) => .inl r2) (fun (_ : Unit) => R78_0 l l' (i + 1)))) else .inl false)
def r78 (l : List Ar) : Bool := (onSum (R78_0 l l 0) (fun (r2 : Bool) => r2) (fun (_ : Unit) => true))
set_option maxHeartbeats 4000000 in
theorem c78 (l : List Ar) (hn : l.length ≤ 100000)  (S : AS) (v_l : Value) (hv_l : Lst S v_l l) (ht : Tab S) :
    ∃ S', (evL Tryz.prog E0).call 37 #[v_l] S = some (.bool (r78 l), S') ∧ Agree S S' := by
  generalize hz : (evL Tryz.prog E0).call 37 _ _ = z
  rw [L_call, evCall_said rfl Tryz.func37 rfl (by decide) Tryz.ntmps37 Tryz.results37] at hz
  try simp (disch := first | omega | assumption) only [E0_G, SY, setArgs, off, agreeKind, Nat.reduceAdd, Nat.reduceSub, Nat.reduceLT] at hz
  generalize hL1 : Rec.loop _ _ _ _ = L1 at hz
  obtain ⟨x1, t1, S1e, rfl, hQ1⟩ := loop_met hL1 (fun m t S' => ∃ (i : Nat), m + i = l.length ∧ i ≤ l.length ∧ t.get 0 = some (v_l) ∧ t.get 3 = some (.int .i64 (i : Int)) ∧ Agree S S' ∧ S.next ≤ S'.next ∧ R78_0 l (l.drop i) i = R78_0 l l 0)
    (fun x t S' => (x = .exit 0 ∧ ∃ (i : Nat), Agree S S' ∧ S.next ≤ S'.next ∧ i ≤ l.length ∧ R78_0 l l 0 = .inr ()) ∨ (x = .ret ∧ ∃ (r2 : Bool), t.get 2 = some (.bool r2) ∧ Agree S S' ∧ R78_0 l l 0 = .inl (r2))) (l.length - 0) ⟨0, by first | rfl | omega | (simp; omega) | simp, by first | rfl | omega | (simp; omega) | simp, by simp only [SY, eq_self, Nat.reduceBEq] <;> rfl, by simp only [SY, Nat.reduceBEq] <;> rfl, (Agree.refl S), Nat.le_refl _, rfl⟩ (by
      rintro m t S1 ⟨i, hi1_0, hi1_1, g1_0, g1_3, ga1, gn1, hd1⟩
      refine .run fun z he => ?_
      have w2 := (hv_l.agree ga1).len (P := Tryz.prog) (t := 22) Tryz.underlying22
      try simp (disch := first | omega | assumption) only [E0_G, SY, off, agreeKind, Nat.reduceAdd, Nat.reduceLT, Nat.reduceBEq, g1_0, g1_3, w2] at he
      rcases dP ((i : Int) < (l.length : Int)) with ⟨h3a, h3⟩ | ⟨h3a, h3⟩
      · skip
        try simp (disch := first | omega | assumption) only [SY, h3a] at he
        rw [code_draws _ _ _ (by kernel_rfl)] at he
        generalize hnd4 : needy _ = nd4 at he
        have hx1 : l[i]? = some (l[i]'(by first | omega | (simp; omega) | exact len_pos (by assumption) (A4_vl ..))) := List.getElem?_eq_getElem _
        generalize l[i]'_ = x1 at hx1
        obtain ⟨id5, of5, cc5, ty5, wr5, ex5, i5, j5, l5, q5⟩ := (hv_l).at (P := Tryz.prog) (t := 22) Tryz.underlying22 tz56 hx1
        have jr5 := j5
        have j5 := (ga1.2 id5 l5).trans jr5
        have m5_0 : cc5[of5]? = some (.int .i64 x1.f) := q5 0 (show 0 < 2 by decide)
        have m5_1 : cc5[of5 + 1]? = some (.int .i64 x1.l) := q5 1 (show 1 < 2 by decide)
        obtain ⟨S6, k6, a6⟩ := c116 x1.f x1.l S1 (ht.agree ga1) 
        have l6 := a6.1
        have s6 : E0.same S1 S6 = true := symEnv_same a6
        have v5_6 := (a6.2 id5 (by omega)).trans j5
        have g6 : Agree S S6 := ga1.trans a6
        try simp (disch := first | omega | assumption) only [E0_G, SY, agreeKind, vals, ldA, rdCells, aggD, Nat.reduceAdd, Nat.reduceLT, Nat.reduceBEq, TY_EvC12, g1_0, g1_3, store_agree, store_refl E0_same, i5, j5, m5_0, m5_1, k6] at he
        rcases dP (ArcOk x1.f x1.l) with ⟨h7a, h7⟩ | ⟨h7a, h7⟩
        · skip
          try simp (disch := first | omega | assumption) only [E0_G, SY, agreeKind, Nat.reduceAdd, Nat.reduceLT, Nat.reduceBEq, g1_3, store_refl E0_same, h7a] at he
          rcases dP (0 < (i : Int)) with ⟨h8a, h8⟩ | ⟨h8a, h8⟩
          · skip
            obtain ⟨id9, of9, cc9, ty9, wr9, ex9, i9, j9, l9, q9⟩ := (hv_l).at (P := Tryz.prog) (t := 22) Tryz.underlying22 tz56 hx1
            have jr9 := j9
            have j9 := (g6.2 id9 l9).trans jr9
            have j9_5 := (g6.2 id5 l5).trans jr5
            have m9_0 : cc9[of9]? = some (.int .i64 x1.f) := q9 0 (show 0 < 2 by decide)
            have m9_1 : cc9[of9 + 1]? = some (.int .i64 x1.l) := q9 1 (show 1 < 2 by decide)
            have w10 : IntKind.i64.wrap ((i : Int) - 1) = ((i - 1 : Nat) : Int) := by rw [IntWalk.i64_in] <;> omega
            have hx11 : l[(i - 1)]? = some (lget l (i - 1)) := lget_some (by first | omega | (simp; omega) | exact len_pos (by assumption) (A4_vl ..))
            obtain ⟨id11, of11, cc11, ty11, wr11, ex11, i11, j11, l11, q11⟩ := (hv_l).at (P := Tryz.prog) (t := 22) Tryz.underlying22 tz56 hx11
            have jr11 := j11
            have j11 := (g6.2 id11 l11).trans jr11
            have m11_0 : cc11[of11]? = some (.int .i64 ((lget l (i - 1)).f)) := q11 0 (show 0 < 2 by decide)
            have m11_1 : cc11[of11 + 1]? = some (.int .i64 ((lget l (i - 1)).l)) := q11 1 (show 1 < 2 by decide)
            try simp (disch := first | omega | assumption) only [E0_G, SY, agreeKind, ldA, aggD, aField, Nat.reduceAdd, Nat.reduceLT, Nat.reduceBEq, TY_EvC12, g1_0, g1_3, store_refl E0_same, i5, m5_0, v5_6, h8a, w10, i11, j11, m11_0] at he
            rcases dP (x1.f ≤ ((lget l (i - 1)).f)) with ⟨h12a, h12⟩ | ⟨h12a, h12⟩
            · skip
              try simp (disch := first | omega | assumption) only [E0_G, SY, off, agreeKind, Nat.reduceLT, store_refl E0_same, h12a] at he
              rw [drop_cons' hx1] at hd1
              have hf := (show _ = (.inl false : Sum (Bool) (Unit)) from (if_pos h7).trans ((if_pos h8).trans ((if_pos h12).trans (rfl)))).symm.trans hd1
              exact .ret he (.inr ⟨rfl, ⟨false, (by simp only [SY, eq_self, Nat.reduceBEq] <;> rfl), g6, hf.symm⟩⟩)
            · skip
              try simp (disch := first | omega | assumption) only [E0_G, SY, off, agreeKind, Nat.reduceLT, store_refl E0_same, h12a] at he
              generalize hL13 : Rec.loop _ _ _ _ = L13 at he
              obtain ⟨x13, t13, S13e, rfl, hQ13⟩ := loop_met hL13 (fun m t S' => ∃ (k : Nat), m + k = l.length ∧ k ≤ l.length ∧ t.get 0 = some (v_l) ∧ t.get 3 = some (.int .i64 (i : Int)) ∧ t.get 4 = some (.int .i64 (k : Int)) ∧ Agree S S' ∧ S6.next ≤ S'.next ∧ R78_1 l i x1 (l.drop k) k = R78_1 l i x1 l 0)
                (fun x t S' => (x = .exit 2 ∧ ∃ (k : Nat), t.get 0 = some (v_l) ∧ t.get 3 = some (.int .i64 (i : Int)) ∧ Agree S S' ∧ S6.next ≤ S'.next ∧ k ≤ l.length ∧ R78_1 l i x1 l 0 = .inr ()) ∨ (x = .ret ∧ ∃ (r2 : Bool), t.get 2 = some (.bool r2) ∧ Agree S S' ∧ R78_1 l i x1 l 0 = .inl (r2))) (l.length - 0) ⟨0, by first | rfl | omega | (simp; omega) | simp, by first | rfl | omega | (simp; omega) | simp, by simp only [SY, eq_self, Nat.reduceBEq, g1_0] <;> rfl, by simp only [SY, eq_self, Nat.reduceBEq, g1_3] <;> rfl, by simp only [SY, Nat.reduceBEq] <;> rfl, g6, Nat.le_refl _, rfl⟩ (by
                  rintro m t S13 ⟨k, hi13_0, hi13_1, g13_0, g13_3, g13_4, ga13, gn13, hd13⟩
                  refine .run fun z he => ?_
                  have w14 := (hv_l.agree ga13).len (P := Tryz.prog) (t := 22) Tryz.underlying22
                  try simp (disch := first | omega | assumption) only [E0_G, SY, off, agreeKind, Nat.reduceAdd, Nat.reduceLT, Nat.reduceBEq, g13_0, g13_4, w2] at he
                  rcases dP ((k : Int) < (l.length : Int)) with ⟨h15a, h15⟩ | ⟨h15a, h15⟩
                  · skip
                    try simp (disch := first | omega | assumption) only [SY, h15a] at he
                    rw [code_draws _ _ _ (by kernel_rfl)] at he
                    generalize hnd16 : needy _ = nd16 at he
                    try simp (disch := first | omega | assumption) only [E0_G, SY, agreeKind, Nat.reduceAdd, Nat.reduceLT, Nat.reduceBEq, g13_3, g13_4, store_refl E0_same] at he
                    rcases dP ((k : Int) = (i : Int)) with ⟨h17a, h17⟩ | ⟨h17a, h17⟩
                    · skip
                      have w18 : IntKind.i64.wrap ((k : Int) + 1) = ((k + 1 : Nat) : Int) := by rw [IntWalk.i64_in] <;> omega
                      try simp (disch := first | omega | assumption) only [E0_G, SY, off, agreeKind, Nat.reduceAdd, Nat.reduceLT, Nat.reduceBEq, g13_4, store_refl E0_same, h17a, w18] at he
                      rw [drop_cons' (List.getElem?_eq_getElem (show k < _ by omega))] at hd13
                      have hf := (show _ = (R78_1 l i x1 (l.drop (k + 1)) (k + 1) : Sum (Bool) (Unit)) from (if_pos h17).trans (rfl)).symm.trans hd13
                      exact .next he (m - 1) (by omega) ⟨(k + 1), by first | omega | (simp; omega) | simp, by first | omega | (simp; omega) | simp, (by simp only [SY, eq_self, Nat.reduceBEq, g13_0] <;> rfl), (by simp only [SY, eq_self, Nat.reduceBEq, g13_3] <;> rfl), (by simp only [SY, eq_self, Nat.reduceBEq, g13_4] <;> rfl), ga13, by omega, hf⟩
                    · skip
                      have hx19 : l[i]? = some (lget l i) := lget_some (by first | omega | (simp; omega) | exact len_pos (by assumption) (A4_vl ..))
                      obtain ⟨id19, of19, cc19, ty19, wr19, ex19, i19, j19, l19, q19⟩ := (hv_l).at (P := Tryz.prog) (t := 22) Tryz.underlying22 tz56 hx19
                      have jr19 := j19
                      have j19 := (ga13.2 id19 l19).trans jr19
                      have m19_0 : cc19[of19]? = some (.int .i64 ((lget l i).f)) := q19 0 (show 0 < 2 by decide)
                      have m19_1 : cc19[of19 + 1]? = some (.int .i64 ((lget l i).l)) := q19 1 (show 1 < 2 by decide)
                      have hx13 : l[k]? = some (l[k]'(by first | omega | (simp; omega) | exact len_pos (by assumption) (A4_vl ..))) := List.getElem?_eq_getElem _
                      generalize l[k]'_ = x13 at hx13
                      obtain ⟨id20, of20, cc20, ty20, wr20, ex20, i20, j20, l20, q20⟩ := (hv_l).at (P := Tryz.prog) (t := 22) Tryz.underlying22 tz56 hx13
                      have jr20 := j20
                      have j20 := (ga13.2 id20 l20).trans jr20
                      have m20_0 : cc20[of20]? = some (.int .i64 x13.f) := q20 0 (show 0 < 2 by decide)
                      have m20_1 : cc20[of20 + 1]? = some (.int .i64 x13.l) := q20 1 (show 1 < 2 by decide)
                      obtain ⟨S21, k21, a21⟩ := c81 ((lget l i).f) x13.f  S13  
                      have l21 := a21.1
                      have s21 : E0.same S13 S21 = true := symEnv_same a21
                      have v19_21 := (a21.2 id19 (by omega)).trans j19
                      have v20_21 := (a21.2 id20 (by omega)).trans j20
                      have g21 : Agree S S21 := ga13.trans a21
                      obtain ⟨id22, of22, cc22, ty22, wr22, ex22, i22, j22, l22, q22⟩ := (hv_l).at (P := Tryz.prog) (t := 22) Tryz.underlying22 tz56 hx19
                      have jr22 := j22
                      have j22 := (g21.2 id22 l22).trans jr22
                      have j22_19 := (g21.2 id19 l19).trans jr19
                      have m22_0 : cc22[of22]? = some (.int .i64 ((lget l i).f)) := q22 0 (show 0 < 2 by decide)
                      have m22_1 : cc22[of22 + 1]? = some (.int .i64 ((lget l i).l)) := q22 1 (show 1 < 2 by decide)
                      try simp (disch := first | omega | assumption) only [E0_G, SY, agreeKind, vals, ldA, aggD, aField, Nat.reduceAdd, Nat.reduceLT, Nat.reduceBEq, TY_EvC12, g13_0, g13_3, g13_4, store_agree, store_refl E0_same, h17a, i19, j19, m19_0, m19_1, i20, j20, m20_0, k21, v19_21] at he
                      rcases dP ((r81 ((lget l i).f) x13.f) ≤ (IntKind.i64.wrap (((lget l i).l) + 1))) with ⟨h23a, h23⟩ | ⟨h23a, h23⟩
                      · skip
                        try simp (disch := first | omega | assumption) only [E0_G, SY, off, agreeKind, Nat.reduceLT, store_refl E0_same, h23a] at he
                        rw [drop_cons' hx13] at hd13
                        have hf := (show _ = (.inl false : Sum (Bool) (Unit)) from (if_neg h17).trans ((if_pos h23).trans (rfl))).symm.trans hd13
                        exact .ret he (.inr ⟨rfl, ⟨false, (by simp only [SY, eq_self, Nat.reduceBEq] <;> rfl), g21, hf.symm⟩⟩)
                      · skip
                        have w24 : IntKind.i64.wrap ((k : Int) + 1) = ((k + 1 : Nat) : Int) := by rw [IntWalk.i64_in] <;> omega
                        try simp (disch := first | omega | assumption) only [E0_G, SY, off, agreeKind, Nat.reduceAdd, Nat.reduceLT, Nat.reduceBEq, g13_4, store_refl E0_same, h23a, w24] at he
                        rw [drop_cons' hx13] at hd13
                        have hf := (show _ = (R78_1 l i x1 (l.drop (k + 1)) (k + 1) : Sum (Bool) (Unit)) from (if_neg h17).trans ((if_neg h23).trans (rfl))).symm.trans hd13
                        exact .next he (m - 1) (by omega) ⟨(k + 1), by first | omega | (simp; omega) | simp, by first | omega | (simp; omega) | simp, (by simp only [SY, eq_self, Nat.reduceBEq, g13_0] <;> rfl), (by simp only [SY, eq_self, Nat.reduceBEq, g13_3] <;> rfl), (by simp only [SY, eq_self, Nat.reduceBEq, g13_4] <;> rfl), g21, by omega, hf⟩
                  · skip
                    try simp (disch := first | omega | assumption) only [SY, h15a] at he
                    rw [List.drop_eq_nil_of_le (show l.length ≤ k by omega)] at hd13
                    have hf := (show _ = (.inr () : Sum (Bool) (Unit)) from rfl).symm.trans hd13
                    exact .exit he (.inl ⟨rfl, ⟨k, (by simp only [SY, eq_self, Nat.reduceBEq, g13_0] <;> rfl), (by simp only [SY, eq_self, Nat.reduceBEq, g13_3] <;> rfl), ga13, by omega, by first | omega | assumption | simp, hf.symm⟩⟩))
              rcases hQ13 with ⟨rfl, hQ13⟩ | ⟨rfl, hQ13⟩
              · skip
                obtain ⟨k, ge13_0, ge13_3, ge13, gm13, hj13_0, hR13⟩ := hQ13
                have w26 : IntKind.i64.wrap ((i : Int) + 1) = ((i + 1 : Nat) : Int) := by rw [IntWalk.i64_in] <;> omega
                try simp (disch := first | omega | assumption) only [E0_G, SY, off, agreeKind, eq_self, if_true, Nat.reduceAdd, Nat.reduceLT, Nat.reduceBEq, ge13_3, w26] at he
                rw [drop_cons' hx1] at hd1
                have hf := (show _ = (R78_0 l (l.drop (i + 1)) (i + 1) : Sum (Bool) (Unit)) from (if_pos h7).trans ((if_pos h8).trans ((if_neg h12).trans ((onSum_inr hR13).trans (rfl))))).symm.trans hd1
                exact .next he (m - 1) (by omega) ⟨(i + 1), by first | omega | (simp; omega) | simp, by first | omega | (simp; omega) | simp, (by simp only [SY, eq_self, Nat.reduceBEq, ge13_0] <;> rfl), (by simp only [SY, eq_self, Nat.reduceBEq, ge13_3] <;> rfl), ge13, by omega, hf⟩
              · skip
                obtain ⟨r2, ge13_2, ge13, hR13⟩ := hQ13
                try simp (disch := first | omega | assumption) only [SY] at he
                rw [drop_cons' hx1] at hd1
                have hf := (show _ = (.inl r2 : Sum (Bool) (Unit)) from (if_pos h7).trans ((if_pos h8).trans ((if_neg h12).trans ((onSum_inl hR13).trans (rfl))))).symm.trans hd1
                exact .ret he (.inr ⟨rfl, ⟨r2, (by simp only [eq_self, ge13_2] <;> rfl), ge13, hf.symm⟩⟩)
          · skip
            try simp (disch := first | omega | assumption) only [E0_G, SY, off, agreeKind, Nat.reduceAdd, Nat.reduceLT, Nat.reduceBEq, store_refl E0_same, h8a] at he
            generalize hL27 : Rec.loop _ _ _ _ = L27 at he
            obtain ⟨x27, t27, S27e, rfl, hQ27⟩ := loop_met hL27 (fun m t S' => ∃ (k : Nat), m + k = l.length ∧ k ≤ l.length ∧ t.get 0 = some (v_l) ∧ t.get 3 = some (.int .i64 (i : Int)) ∧ t.get 4 = some (.int .i64 (k : Int)) ∧ Agree S S' ∧ S6.next ≤ S'.next ∧ R78_2 l i x1 (l.drop k) k = R78_2 l i x1 l 0)
              (fun x t S' => (x = .exit 2 ∧ ∃ (k : Nat), t.get 0 = some (v_l) ∧ t.get 3 = some (.int .i64 (i : Int)) ∧ Agree S S' ∧ S6.next ≤ S'.next ∧ k ≤ l.length ∧ R78_2 l i x1 l 0 = .inr ()) ∨ (x = .ret ∧ ∃ (r2 : Bool), t.get 2 = some (.bool r2) ∧ Agree S S' ∧ R78_2 l i x1 l 0 = .inl (r2))) (l.length - 0) ⟨0, by first | rfl | omega | (simp; omega) | simp, by first | rfl | omega | (simp; omega) | simp, by simp only [SY, eq_self, Nat.reduceBEq, g1_0] <;> rfl, by simp only [SY, eq_self, Nat.reduceBEq, g1_3] <;> rfl, by simp only [SY, Nat.reduceBEq] <;> rfl, g6, Nat.le_refl _, rfl⟩ (by
                rintro m t S27 ⟨k, hi27_0, hi27_1, g27_0, g27_3, g27_4, ga27, gn27, hd27⟩
                refine .run fun z he => ?_
                have w28 := (hv_l.agree ga27).len (P := Tryz.prog) (t := 22) Tryz.underlying22
                try simp (disch := first | omega | assumption) only [E0_G, SY, off, agreeKind, Nat.reduceAdd, Nat.reduceLT, Nat.reduceBEq, g27_0, g27_4, w2] at he
                rcases dP ((k : Int) < (l.length : Int)) with ⟨h29a, h29⟩ | ⟨h29a, h29⟩
                · skip
                  try simp (disch := first | omega | assumption) only [SY, h29a] at he
                  rw [code_draws _ _ _ (by kernel_rfl)] at he
                  generalize hnd30 : needy _ = nd30 at he
                  try simp (disch := first | omega | assumption) only [E0_G, SY, agreeKind, Nat.reduceAdd, Nat.reduceLT, Nat.reduceBEq, g27_3, g27_4, store_refl E0_same] at he
                  rcases dP ((k : Int) = (i : Int)) with ⟨h31a, h31⟩ | ⟨h31a, h31⟩
                  · skip
                    have w32 : IntKind.i64.wrap ((k : Int) + 1) = ((k + 1 : Nat) : Int) := by rw [IntWalk.i64_in] <;> omega
                    try simp (disch := first | omega | assumption) only [E0_G, SY, off, agreeKind, Nat.reduceAdd, Nat.reduceLT, Nat.reduceBEq, g27_4, store_refl E0_same, h31a, w32] at he
                    rw [drop_cons' (List.getElem?_eq_getElem (show k < _ by omega))] at hd27
                    have hf := (show _ = (R78_2 l i x1 (l.drop (k + 1)) (k + 1) : Sum (Bool) (Unit)) from (if_pos h31).trans (rfl)).symm.trans hd27
                    exact .next he (m - 1) (by omega) ⟨(k + 1), by first | omega | (simp; omega) | simp, by first | omega | (simp; omega) | simp, (by simp only [SY, eq_self, Nat.reduceBEq, g27_0] <;> rfl), (by simp only [SY, eq_self, Nat.reduceBEq, g27_3] <;> rfl), (by simp only [SY, eq_self, Nat.reduceBEq, g27_4] <;> rfl), ga27, by omega, hf⟩
                  · skip
                    have hx33 : l[i]? = some (lget l i) := lget_some (by first | omega | (simp; omega) | exact len_pos (by assumption) (A4_vl ..))
                    obtain ⟨id33, of33, cc33, ty33, wr33, ex33, i33, j33, l33, q33⟩ := (hv_l).at (P := Tryz.prog) (t := 22) Tryz.underlying22 tz56 hx33
                    have jr33 := j33
                    have j33 := (ga27.2 id33 l33).trans jr33
                    have m33_0 : cc33[of33]? = some (.int .i64 ((lget l i).f)) := q33 0 (show 0 < 2 by decide)
                    have m33_1 : cc33[of33 + 1]? = some (.int .i64 ((lget l i).l)) := q33 1 (show 1 < 2 by decide)
                    have hx27 : l[k]? = some (l[k]'(by first | omega | (simp; omega) | exact len_pos (by assumption) (A4_vl ..))) := List.getElem?_eq_getElem _
                    generalize l[k]'_ = x27 at hx27
                    obtain ⟨id34, of34, cc34, ty34, wr34, ex34, i34, j34, l34, q34⟩ := (hv_l).at (P := Tryz.prog) (t := 22) Tryz.underlying22 tz56 hx27
                    have jr34 := j34
                    have j34 := (ga27.2 id34 l34).trans jr34
                    have m34_0 : cc34[of34]? = some (.int .i64 x27.f) := q34 0 (show 0 < 2 by decide)
                    have m34_1 : cc34[of34 + 1]? = some (.int .i64 x27.l) := q34 1 (show 1 < 2 by decide)
                    obtain ⟨S35, k35, a35⟩ := c81 ((lget l i).f) x27.f  S27  
                    have l35 := a35.1
                    have s35 : E0.same S27 S35 = true := symEnv_same a35
                    have v33_35 := (a35.2 id33 (by omega)).trans j33
                    have v34_35 := (a35.2 id34 (by omega)).trans j34
                    have g35 : Agree S S35 := ga27.trans a35
                    obtain ⟨id36, of36, cc36, ty36, wr36, ex36, i36, j36, l36, q36⟩ := (hv_l).at (P := Tryz.prog) (t := 22) Tryz.underlying22 tz56 hx33
                    have jr36 := j36
                    have j36 := (g35.2 id36 l36).trans jr36
                    have j36_33 := (g35.2 id33 l33).trans jr33
                    have m36_0 : cc36[of36]? = some (.int .i64 ((lget l i).f)) := q36 0 (show 0 < 2 by decide)
                    have m36_1 : cc36[of36 + 1]? = some (.int .i64 ((lget l i).l)) := q36 1 (show 1 < 2 by decide)
                    try simp (disch := first | omega | assumption) only [E0_G, SY, agreeKind, vals, ldA, aggD, aField, Nat.reduceAdd, Nat.reduceLT, Nat.reduceBEq, TY_EvC12, g27_0, g27_3, g27_4, store_agree, store_refl E0_same, h31a, i33, j33, m33_0, m33_1, i34, j34, m34_0, k35, v33_35] at he
                    rcases dP ((r81 ((lget l i).f) x27.f) ≤ (IntKind.i64.wrap (((lget l i).l) + 1))) with ⟨h37a, h37⟩ | ⟨h37a, h37⟩
                    · skip
                      try simp (disch := first | omega | assumption) only [E0_G, SY, off, agreeKind, Nat.reduceLT, store_refl E0_same, h37a] at he
                      rw [drop_cons' hx27] at hd27
                      have hf := (show _ = (.inl false : Sum (Bool) (Unit)) from (if_neg h31).trans ((if_pos h37).trans (rfl))).symm.trans hd27
                      exact .ret he (.inr ⟨rfl, ⟨false, (by simp only [SY, eq_self, Nat.reduceBEq] <;> rfl), g35, hf.symm⟩⟩)
                    · skip
                      have w38 : IntKind.i64.wrap ((k : Int) + 1) = ((k + 1 : Nat) : Int) := by rw [IntWalk.i64_in] <;> omega
                      try simp (disch := first | omega | assumption) only [E0_G, SY, off, agreeKind, Nat.reduceAdd, Nat.reduceLT, Nat.reduceBEq, g27_4, store_refl E0_same, h37a, w38] at he
                      rw [drop_cons' hx27] at hd27
                      have hf := (show _ = (R78_2 l i x1 (l.drop (k + 1)) (k + 1) : Sum (Bool) (Unit)) from (if_neg h31).trans ((if_neg h37).trans (rfl))).symm.trans hd27
                      exact .next he (m - 1) (by omega) ⟨(k + 1), by first | omega | (simp; omega) | simp, by first | omega | (simp; omega) | simp, (by simp only [SY, eq_self, Nat.reduceBEq, g27_0] <;> rfl), (by simp only [SY, eq_self, Nat.reduceBEq, g27_3] <;> rfl), (by simp only [SY, eq_self, Nat.reduceBEq, g27_4] <;> rfl), g35, by omega, hf⟩
                · skip
                  try simp (disch := first | omega | assumption) only [SY, h29a] at he
                  rw [List.drop_eq_nil_of_le (show l.length ≤ k by omega)] at hd27
                  have hf := (show _ = (.inr () : Sum (Bool) (Unit)) from rfl).symm.trans hd27
                  exact .exit he (.inl ⟨rfl, ⟨k, (by simp only [SY, eq_self, Nat.reduceBEq, g27_0] <;> rfl), (by simp only [SY, eq_self, Nat.reduceBEq, g27_3] <;> rfl), ga27, by omega, by first | omega | assumption | simp, hf.symm⟩⟩))
            rcases hQ27 with ⟨rfl, hQ27⟩ | ⟨rfl, hQ27⟩
            · skip
              obtain ⟨k, ge27_0, ge27_3, ge27, gm27, hj27_0, hR27⟩ := hQ27
              have w40 : IntKind.i64.wrap ((i : Int) + 1) = ((i + 1 : Nat) : Int) := by rw [IntWalk.i64_in] <;> omega
              try simp (disch := first | omega | assumption) only [E0_G, SY, off, agreeKind, eq_self, if_true, Nat.reduceAdd, Nat.reduceLT, Nat.reduceBEq, ge27_3, w40] at he
              rw [drop_cons' hx1] at hd1
              have hf := (show _ = (R78_0 l (l.drop (i + 1)) (i + 1) : Sum (Bool) (Unit)) from (if_pos h7).trans ((if_neg h8).trans ((onSum_inr hR27).trans (rfl)))).symm.trans hd1
              exact .next he (m - 1) (by omega) ⟨(i + 1), by first | omega | (simp; omega) | simp, by first | omega | (simp; omega) | simp, (by simp only [SY, eq_self, Nat.reduceBEq, ge27_0] <;> rfl), (by simp only [SY, eq_self, Nat.reduceBEq, ge27_3] <;> rfl), ge27, by omega, hf⟩
            · skip
              obtain ⟨r2, ge27_2, ge27, hR27⟩ := hQ27
              try simp (disch := first | omega | assumption) only [SY] at he
              rw [drop_cons' hx1] at hd1
              have hf := (show _ = (.inl r2 : Sum (Bool) (Unit)) from (if_pos h7).trans ((if_neg h8).trans ((onSum_inl hR27).trans (rfl)))).symm.trans hd1
              exact .ret he (.inr ⟨rfl, ⟨r2, (by simp only [eq_self, ge27_2] <;> rfl), ge27, hf.symm⟩⟩)
        · skip
          try simp (disch := first | omega | assumption) only [E0_G, SY, off, agreeKind, Nat.reduceAdd, Nat.reduceLT, Nat.reduceBEq, store_refl E0_same, h7a] at he
          rw [drop_cons' hx1] at hd1
          have hf := (show _ = (.inl false : Sum (Bool) (Unit)) from (if_neg h7).trans (rfl)).symm.trans hd1
          exact .ret he (.inr ⟨rfl, ⟨false, (by simp only [SY, eq_self, Nat.reduceBEq] <;> rfl), g6, hf.symm⟩⟩)
      · skip
        try simp (disch := first | omega | assumption) only [SY, h3a] at he
        rw [List.drop_eq_nil_of_le (show l.length ≤ i by omega)] at hd1
        have hf := (show _ = (.inr () : Sum (Bool) (Unit)) from rfl).symm.trans hd1
        exact .exit he (.inl ⟨rfl, ⟨i, ga1, by omega, by first | omega | assumption | simp, hf.symm⟩⟩))
  rcases hQ1 with ⟨rfl, hQ1⟩ | ⟨rfl, hQ1⟩
  · skip
    obtain ⟨i, ge1, gm1, hj1_0, hR1⟩ := hQ1
    try simp (disch := first | omega | assumption) only [E0_G, SY, off, agreeKind, eq_self, if_true, Nat.reduceLT, Nat.reduceBEq] at hz
    have hr : r78 l = true := (onSum_inr hR1).trans (rfl)
    exact fin hz (by rw [hr]) ge1
  · skip
    obtain ⟨r2, ge1_2, ge1, hR1⟩ := hQ1
    try simp (disch := first | omega | assumption) only [SY, ge1_2] at hz
    have hr : r78 l = r2 := (onSum_inl hR1).trans (rfl)
    exact fin hz (by rw [hr]) ge1
end Great
end Go.Proofs
