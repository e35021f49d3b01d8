/-
  The great seat of stage 1: the law DialMembers, by the generator.
-/
import Derived.Test.YtgbjgljchkodjaaGreatDoorEvC12
set_option linter.unusedSimpArgs false
set_option linter.unusedVariables false
namespace Go.Proofs
namespace Great
open Go Go.RowKit Go.Aev
set_option maxRecDepth 100000
/-- What is known of the types. -/
theorem TY_EvC13 : type_of% (And.intro (And.intro (And.intro (And.intro (And.intro (And.intro Tryz.underlying3 tz3) (And.intro tt3 (And.intro t0_3 Tryz.underlying4))) (And.intro (And.intro tz4 (And.intro tt4 t0_4)) (And.intro Tryz.underlying22 (And.intro tz22 tt22)))) (And.intro (And.intro (And.intro t0_22 (And.intro Tryz.underlying56 tz43)) (And.intro tt43 (And.intro t0_43 Tryz.underlying59))) (And.intro (And.intro tz44 (And.intro tt44 t0_44)) (And.intro Tryz.underlying60 (And.intro tz45 tt45))))) (And.intro (And.intro (And.intro (And.intro t0_45 Tryz.underlying62) (And.intro tz51 (And.intro tt51 t0_51))) (And.intro (And.intro Tryz.underlying63 (And.intro tz52 tt52)) (And.intro t0_52 (And.intro Tryz.underlying43 tz55)))) (And.intro (And.intro (And.intro tt55 (And.intro t0_55 Tryz.underlying44)) (And.intro tz56 (And.intro tt56 t0_56))) (And.intro (And.intro Tryz.underlying45 (And.intro tz57 tt57)) (And.intro t0_57 (And.intro Tryz.underlying46 tz58)))))) (And.intro (And.intro (And.intro (And.intro (And.intro tt58 t0_58) (And.intro Tryz.underlying66 (And.intro tz77 tt77))) (And.intro (And.intro t0_77 (And.intro Tryz.underlying73 tz80)) (And.intro tt80 (And.intro t0_80 Tryz.underlying82)))) (And.intro (And.intro (And.intro tz90 (And.intro tt90 t0_90)) (And.intro Tryz.underlying89 (And.intro tz110 tt110))) (And.intro (And.intro t0_110 (And.intro Tryz.underlying94 tz115)) (And.intro tt115 (And.intro t0_115 Tryz.underlying95))))) (And.intro (And.intro (And.intro (And.intro tz116 tt116) (And.intro t0_116 (And.intro Tryz.underlying76 tz123))) (And.intro (And.intro tt123 (And.intro t0_123 Tryz.underlying136)) (And.intro tz177 (And.intro tt177 t0_177)))) (And.intro (And.intro (And.intro Tryz.underlying137 (And.intro tz178 tt178)) (And.intro t0_178 (And.intro Tryz.underlying141 tz182))) (And.intro (And.intro tt182 (And.intro t0_182 Tryz.underlying142)) (And.intro tz183 (And.intro tt183 t0_183))))))) := (And.intro (And.intro (And.intro (And.intro (And.intro (And.intro Tryz.underlying3 tz3) (And.intro tt3 (And.intro t0_3 Tryz.underlying4))) (And.intro (And.intro tz4 (And.intro tt4 t0_4)) (And.intro Tryz.underlying22 (And.intro tz22 tt22)))) (And.intro (And.intro (And.intro t0_22 (And.intro Tryz.underlying56 tz43)) (And.intro tt43 (And.intro t0_43 Tryz.underlying59))) (And.intro (And.intro tz44 (And.intro tt44 t0_44)) (And.intro Tryz.underlying60 (And.intro tz45 tt45))))) (And.intro (And.intro (And.intro (And.intro t0_45 Tryz.underlying62) (And.intro tz51 (And.intro tt51 t0_51))) (And.intro (And.intro Tryz.underlying63 (And.intro tz52 tt52)) (And.intro t0_52 (And.intro Tryz.underlying43 tz55)))) (And.intro (And.intro (And.intro tt55 (And.intro t0_55 Tryz.underlying44)) (And.intro tz56 (And.intro tt56 t0_56))) (And.intro (And.intro Tryz.underlying45 (And.intro tz57 tt57)) (And.intro t0_57 (And.intro Tryz.underlying46 tz58)))))) (And.intro (And.intro (And.intro (And.intro (And.intro tt58 t0_58) (And.intro Tryz.underlying66 (And.intro tz77 tt77))) (And.intro (And.intro t0_77 (And.intro Tryz.underlying73 tz80)) (And.intro tt80 (And.intro t0_80 Tryz.underlying82)))) (And.intro (And.intro (And.intro tz90 (And.intro tt90 t0_90)) (And.intro Tryz.underlying89 (And.intro tz110 tt110))) (And.intro (And.intro t0_110 (And.intro Tryz.underlying94 tz115)) (And.intro tt115 (And.intro t0_115 Tryz.underlying95))))) (And.intro (And.intro (And.intro (And.intro tz116 tt116) (And.intro t0_116 (And.intro Tryz.underlying76 tz123))) (And.intro (And.intro tt123 (And.intro t0_123 Tryz.underlying136)) (And.intro tz177 (And.intro tt177 t0_177)))) (And.intro (And.intro (And.intro Tryz.underlying137 (And.intro tz178 tt178)) (And.intro t0_178 (And.intro Tryz.underlying141 tz182))) (And.intro (And.intro tt182 (And.intro t0_182 Tryz.underlying142)) (And.intro tz183 (And.intro tt183 t0_183)))))))

theorem usual_few {l : List Ar} (h : r75 l = true) : r14 l = true := by
  unfold r75 at h
  by_cases h1 : (l.length : Int) ≤ 40
  · unfold r14; exact if_pos (by omega)
  · rw [if_neg h1] at h; simp at h
theorem usual_len {l : List Ar} (h : r75 l = true) : l.length ≤ 40 := by
  unfold r75 at h
  by_cases h1 : (l.length : Int) ≤ 40
  · omega
  · rw [if_neg h1] at h; simp at h
theorem usual_ok {l : List Ar} (h : r75 l = true) : r20 l = 0 := by
  have h2 := usual_len h
  unfold r75 at h
  rw [if_pos (by omega)] at h
  exact of_decide_eq_true h

def r80 (a : Int) (b : Int) : Int := min (r81 a b) (r81 b a)
set_option maxHeartbeats 2000000 in
theorem c80 (a : Int) (b : Int)  (S : AS)  :
    ∃ S', (evL Tryz.prog E0).call 39 #[.int .i64 a, .int .i64 b] S = some (.int .i64 (r80 a b), S') ∧ Agree S S' := by
  generalize hz : (evL Tryz.prog E0).call 39 _ _ = z
  rw [L_call, evCall_said rfl Tryz.func39 rfl (by decide) Tryz.ntmps39 Tryz.results39] at hz
  obtain ⟨S1, k1, a1⟩ := c81 a b  S  
  have l1 := a1.1
  have s1 : E0.same S S1 = true := symEnv_same a1
  have g1 : Agree S S1 := a1
  obtain ⟨S2, k2, a2⟩ := c81 b a  S1  
  have l2 := a2.1
  have s2 : E0.same S1 S2 = true := symEnv_same a2
  have g2 : Agree S S2 := g1.trans a2
  try simp (disch := first | omega | assumption) only [E0_G, SY, setArgs, off, agreeKind, vals, Nat.reduceAdd, Nat.reduceSub, Nat.reduceLT, Nat.reduceBEq, k1, k2] at hz
  have hr : r80 a b = min (r81 a b) (r81 b a) := rfl
  exact fin hz (by rw [hr]) g2

def R13_0 (a : List Ar) (b : List Ar) (w : Int) (u : Int)  : List Ar → Bool → Bool
  | [], near => near
  | x123 :: l', near => (if near = true then R13_0 a b w u l' true else (if (r79 x123.f x123.l u) = true then R13_0 a b w u l' true else (if (r80 u x123.f) ≤ (Int.tmod (angle w) 700) then R13_0 a b w u l' true else R13_0 a b w u l' (decide ((r80 u (angle (IntKind.i64.wrap (x123.f + x123.l)))) ≤ (Int.tmod (angle w) 700))))))
def R13_1 (a : List Ar) (b : List Ar) (w : Int) (u : Int)  : List Ar → Bool → Bool
  | [], near => near
  | x165 :: l', near => (if near = true then R13_1 a b w u l' true else (if (r79 x165.f x165.l u) = true then R13_1 a b w u l' true else (if (r80 u x165.f) ≤ (Int.tmod (angle w) 700) then R13_1 a b w u l' true else R13_1 a b w u l' (decide ((r80 u (angle (IntKind.i64.wrap (x165.f + x165.l)))) ≤ (Int.tmod (angle w) 700))))))
def r13 (a : List Ar) (b : List Ar) (w : Int) (u : Int) : Bool := (if (r75 (a : List Ar)) = true then (if (r75 (b : List Ar)) = true then (if (r78 ((nrm (a)) : List Ar)) = true then (if (r78 ((two r24 (a) (b)) : List Ar)) = true then (if (r78 ((two r25 (a) (b)) : List Ar)) = true then (if (r78 ((two r26 (a) (b)) : List Ar)) = true then (if (r78 (((r27 (a) (Int.tmod (angle w) 700)).1) : List Ar)) = true then (if ((r27 (a) (Int.tmod (angle w) 700)).2) = 0 then (if (cvr (a) (b)) = (decide (((two r26 (b) (a)).length : Int) = 0)) then (if (r77 ((nrm (a)) : List Ar) u) = (r77 (a : List Ar) u) then (if (r77 (a : List Ar) u) = true then (if (r77 ((two r24 (a) (b)) : List Ar) u) = true then (if (r77 ((two r25 (a) (b)) : List Ar) u) = (r77 (b : List Ar) u) then (if (r77 ((two r26 (a) (b)) : List Ar) u) = (!(r77 (b : List Ar) u)) then decide ((r77 (((r27 (a) (Int.tmod (angle w) 700)).1) : List Ar) u) = (R13_0 a b w u a false)) else false) else false) else false) else (if (r77 ((two r24 (a) (b)) : List Ar) u) = (r77 (b : List Ar) u) then (if (r77 ((two r25 (a) (b)) : List Ar) u) = false then (if (r77 ((two r26 (a) (b)) : List Ar) u) = false then decide ((r77 (((r27 (a) (Int.tmod (angle w) 700)).1) : List Ar) u) = (R13_1 a b w u a false)) else false) else false) else false)) else false) else false) else false) else false) else false) else false) else false) else false) else true) else true)
set_option maxHeartbeats 16000000 in
theorem c13 (a : List Ar) (b : List Ar) (w : Int) (u : Int) (hs : SortOk 1000)  (S : AS) (v_a : Value) (hv_a : Lst S v_a a) (v_b : Value) (hv_b : Lst S v_b b) (ht : Tab S) :
    ∃ S', (evL Tryz.prog E0).call 6 #[v_a, v_b, .int .i64 w, .int .i64 u] S = some (.bool (r13 a b w u), S') ∧ Agree S S' := by
  generalize hz : (evL Tryz.prog E0).call 6 _ _ = z
  rw [L_call, evCall_said rfl Tryz.func6 rfl (by decide) Tryz.ntmps6 Tryz.results6] at hz
  obtain ⟨S1, k1, a1⟩ := c75 (a : List Ar)  S (v_a) (hv_a) 
  have l1 := a1.1
  have s1 : E0.same S S1 = true := symEnv_same a1
  have g1 : Agree S S1 := a1
  try simp (disch := first | omega | assumption) only [E0_G, SY, setArgs, off, agreeKind, vals, Nat.reduceAdd, Nat.reduceSub, Nat.reduceLT, Nat.reduceBEq, k1] at hz
  rcases dB ((r75 (a : List Ar))) with ⟨h2a, h2⟩ | ⟨h2a, h2⟩
  · skip
    obtain ⟨S3, k3, a3⟩ := c75 (b : List Ar)  S1 (v_b) (hv_b.agree g1) 
    have l3 := a3.1
    have s3 : E0.same S1 S3 = true := symEnv_same a3
    have g3 : Agree S S3 := g1.trans a3
    try simp (disch := first | omega | assumption) only [E0_G, SY, off, agreeKind, vals, Nat.reduceAdd, Nat.reduceLT, Nat.reduceBEq, h2a, k3] at hz
    rcases dB ((r75 (b : List Ar))) with ⟨h4a, h4⟩ | ⟨h4a, h4⟩
    · skip
      obtain ⟨u5, S5, k5, a5, oo5⟩ := c16f hs (a) (usual_few (by assumption)) S3 (v_a) (hv_a.agree g3) (ht.agree g3)
      have l5 := a5.1
      have s5 : E0.same S3 S5 = true := symEnv_same a5
      have g5 : Agree S S5 := g3.trans a5
      obtain ⟨u6, S6, k6, a6, oo6⟩ := c17f hs (a) (b) (usual_few (by assumption)) (usual_few (by assumption)) S5 (v_a) (hv_a.agree g5) (v_b) (hv_b.agree g5) (ht.agree g5)
      have l6 := a6.1
      have s6 : E0.same S5 S6 = true := symEnv_same a6
      have o5_7 := oo5.agree a6
      have g6 : Agree S S6 := g5.trans a6
      obtain ⟨u8, S8, k8, a8, oo8⟩ := c18f hs (a) (b) (usual_few (by assumption)) (usual_few (by assumption)) S6 (v_a) (hv_a.agree g6) (v_b) (hv_b.agree g6) (ht.agree g6)
      have l8 := a8.1
      have s8 : E0.same S6 S8 = true := symEnv_same a8
      have o5_9 := o5_7.agree a8
      have o6_10 := oo6.agree a8
      have g8 : Agree S S8 := g6.trans a8
      obtain ⟨u11, S11, k11, a11, oo11⟩ := c19f hs (a) (b) (usual_few (by assumption)) (usual_few (by assumption)) S8 (v_a) (hv_a.agree g8) (v_b) (hv_b.agree g8) (ht.agree g8)
      have l11 := a11.1
      have s11 : E0.same S8 S11 = true := symEnv_same a11
      have o5_12 := o5_9.agree a11
      have o6_13 := o6_10.agree a11
      have o8_14 := oo8.agree a11
      have g11 : Agree S S11 := g8.trans a11
      obtain ⟨u15, S15, k15, a15, oo15⟩ := c19f hs (b) (a) (usual_few (by assumption)) (usual_few (by assumption)) S11 (v_b) (hv_b.agree g11) (v_a) (hv_a.agree g11) (ht.agree g11)
      have l15 := a15.1
      have s15 : E0.same S11 S15 = true := symEnv_same a15
      have o5_16 := o5_12.agree a15
      have o6_17 := o6_13.agree a15
      have o8_18 := o8_14.agree a15
      have o11_19 := oo11.agree a15
      have g15 : Agree S S15 := g11.trans a15
      obtain ⟨S20, k20, a20⟩ := c29f hs (a) (b) (usual_few (by assumption)) (usual_few (by assumption)) S15 (v_a) (hv_a.agree g15) (v_b) (hv_b.agree g15) (ht.agree g15)
      have l20 := a20.1
      have s20 : E0.same S15 S20 = true := symEnv_same a20
      have o5_21 := o5_16.agree a20
      have o6_22 := o6_17.agree a20
      have o8_23 := o8_18.agree a20
      have o11_24 := o11_19.agree a20
      have o15_25 := oo15.agree a20
      have g20 : Agree S S20 := g15.trans a20
      have k26 := c76 w S20
      obtain ⟨u27, S27, k27, a27, oo27⟩ := c27 (a) (Int.tmod (angle w) 700) hs (usual_few (by assumption)) S20 (v_a) (hv_a.agree g20) (ht.agree g20)
      have l27 := a27.1
      have s27 : E0.same S20 S27 = true := symEnv_same a27
      have o5_28 := o5_21.agree a27
      have o6_29 := o6_22.agree a27
      have o8_30 := o8_23.agree a27
      have o11_31 := o11_24.agree a27
      have o15_32 := o15_25.agree a27
      have g27 : Agree S S27 := g20.trans a27
      obtain ⟨S33, k33, a33⟩ := c77 (a : List Ar) u (by first | (have := usual_len (show r75 a = true by assumption); omega) | (have := usual_len (show r75 b = true by assumption); omega) | exact nrm_le _ | exact two24_le _ _ | exact two25_le (usual_few (by assumption)) | exact two26_le (usual_few (by assumption)) | exact r27_le _ _) S27 (v_a) (hv_a.agree g27) (ht.agree g27)
      have l33 := a33.1
      have s33 : E0.same S27 S33 = true := symEnv_same a33
      have o5_34 := o5_28.agree a33
      have o6_35 := o6_29.agree a33
      have o8_36 := o8_30.agree a33
      have o11_37 := o11_31.agree a33
      have o15_38 := o15_32.agree a33
      have o27_39 := oo27.agree a33
      have g33 : Agree S S33 := g27.trans a33
      obtain ⟨S40, k40, a40⟩ := c77 (b : List Ar) u (by first | (have := usual_len (show r75 a = true by assumption); omega) | (have := usual_len (show r75 b = true by assumption); omega) | exact nrm_le _ | exact two24_le _ _ | exact two25_le (usual_few (by assumption)) | exact two26_le (usual_few (by assumption)) | exact r27_le _ _) S33 (v_b) (hv_b.agree g33) (ht.agree g33)
      have l40 := a40.1
      have s40 : E0.same S33 S40 = true := symEnv_same a40
      have o5_41 := o5_34.agree a40
      have o6_42 := o6_35.agree a40
      have o8_43 := o8_36.agree a40
      have o11_44 := o11_37.agree a40
      have o15_45 := o15_38.agree a40
      have o27_46 := o27_39.agree a40
      have g40 : Agree S S40 := g33.trans a40
      obtain ⟨S47, k47, a47⟩ := c78 ((nrm (a)) : List Ar) (by first | (have := usual_len (show r75 a = true by assumption); omega) | (have := usual_len (show r75 b = true by assumption); omega) | exact nrm_le _ | exact two24_le _ _ | exact two25_le (usual_few (by assumption)) | exact two26_le (usual_few (by assumption)) | exact r27_le _ _) S40 (u5) (o5_41.rows) (ht.agree g40)
      have l47 := a47.1
      have s47 : E0.same S40 S47 = true := symEnv_same a47
      have o5_48 := o5_41.agree a47
      have o6_49 := o6_42.agree a47
      have o8_50 := o8_43.agree a47
      have o11_51 := o11_44.agree a47
      have o15_52 := o15_45.agree a47
      have o27_53 := o27_46.agree a47
      have g47 : Agree S S47 := g40.trans a47
      try simp (disch := first | omega | assumption) only [E0_G, SY, off, agreeKind, vals, aExtract, Nat.reduceAdd, Nat.reduceLT, Nat.reduceBEq, Int.reduceEq, h4a, k5, k6, k8, k11, k15, k20, k26, k27, k33, k40, k47] at hz
      rcases dB ((r78 ((nrm (a)) : List Ar))) with ⟨h54a, h54⟩ | ⟨h54a, h54⟩
      · skip
        obtain ⟨S55, k55, a55⟩ := c78 ((two r24 (a) (b)) : List Ar) (by first | (have := usual_len (show r75 a = true by assumption); omega) | (have := usual_len (show r75 b = true by assumption); omega) | exact nrm_le _ | exact two24_le _ _ | exact two25_le (usual_few (by assumption)) | exact two26_le (usual_few (by assumption)) | exact r27_le _ _) S47 (u6) (o6_49.rows) (ht.agree g47)
        have l55 := a55.1
        have s55 : E0.same S47 S55 = true := symEnv_same a55
        have o5_56 := o5_48.agree a55
        have o6_57 := o6_49.agree a55
        have o8_58 := o8_50.agree a55
        have o11_59 := o11_51.agree a55
        have o15_60 := o15_52.agree a55
        have o27_61 := o27_53.agree a55
        have g55 : Agree S S55 := g47.trans a55
        try simp (disch := first | omega | assumption) only [E0_G, SY, off, agreeKind, vals, Nat.reduceAdd, Nat.reduceLT, Nat.reduceBEq, h54a, k55] at hz
        rcases dB ((r78 ((two r24 (a) (b)) : List Ar))) with ⟨h62a, h62⟩ | ⟨h62a, h62⟩
        · skip
          obtain ⟨S63, k63, a63⟩ := c78 ((two r25 (a) (b)) : List Ar) (by first | (have := usual_len (show r75 a = true by assumption); omega) | (have := usual_len (show r75 b = true by assumption); omega) | exact nrm_le _ | exact two24_le _ _ | exact two25_le (usual_few (by assumption)) | exact two26_le (usual_few (by assumption)) | exact r27_le _ _) S55 (u8) (o8_58.rows) (ht.agree g55)
          have l63 := a63.1
          have s63 : E0.same S55 S63 = true := symEnv_same a63
          have o5_64 := o5_56.agree a63
          have o6_65 := o6_57.agree a63
          have o8_66 := o8_58.agree a63
          have o11_67 := o11_59.agree a63
          have o15_68 := o15_60.agree a63
          have o27_69 := o27_61.agree a63
          have g63 : Agree S S63 := g55.trans a63
          try simp (disch := first | omega | assumption) only [E0_G, SY, off, agreeKind, vals, Nat.reduceAdd, Nat.reduceLT, Nat.reduceBEq, h62a, k63] at hz
          rcases dB ((r78 ((two r25 (a) (b)) : List Ar))) with ⟨h70a, h70⟩ | ⟨h70a, h70⟩
          · skip
            obtain ⟨S71, k71, a71⟩ := c78 ((two r26 (a) (b)) : List Ar) (by first | (have := usual_len (show r75 a = true by assumption); omega) | (have := usual_len (show r75 b = true by assumption); omega) | exact nrm_le _ | exact two24_le _ _ | exact two25_le (usual_few (by assumption)) | exact two26_le (usual_few (by assumption)) | exact r27_le _ _) S63 (u11) (o11_67.rows) (ht.agree g63)
            have l71 := a71.1
            have s71 : E0.same S63 S71 = true := symEnv_same a71
            have o5_72 := o5_64.agree a71
            have o6_73 := o6_65.agree a71
            have o8_74 := o8_66.agree a71
            have o11_75 := o11_67.agree a71
            have o15_76 := o15_68.agree a71
            have o27_77 := o27_69.agree a71
            have g71 : Agree S S71 := g63.trans a71
            try simp (disch := first | omega | assumption) only [E0_G, SY, off, agreeKind, vals, Nat.reduceAdd, Nat.reduceLT, Nat.reduceBEq, h70a, k71] at hz
            rcases dB ((r78 ((two r26 (a) (b)) : List Ar))) with ⟨h78a, h78⟩ | ⟨h78a, h78⟩
            · skip
              obtain ⟨S79, k79, a79⟩ := c78 (((r27 (a) (Int.tmod (angle w) 700)).1) : List Ar) (by first | (have := usual_len (show r75 a = true by assumption); omega) | (have := usual_len (show r75 b = true by assumption); omega) | exact nrm_le _ | exact two24_le _ _ | exact two25_le (usual_few (by assumption)) | exact two26_le (usual_few (by assumption)) | exact r27_le _ _) S71 (u27) (o27_77.rows) (ht.agree g71)
              have l79 := a79.1
              have s79 : E0.same S71 S79 = true := symEnv_same a79
              have o5_80 := o5_72.agree a79
              have o6_81 := o6_73.agree a79
              have o8_82 := o8_74.agree a79
              have o11_83 := o11_75.agree a79
              have o15_84 := o15_76.agree a79
              have o27_85 := o27_77.agree a79
              have g79 : Agree S S79 := g71.trans a79
              try simp (disch := first | omega | assumption) only [E0_G, SY, off, agreeKind, vals, Nat.reduceAdd, Nat.reduceLT, Nat.reduceBEq, h78a, k79] at hz
              rcases dB ((r78 (((r27 (a) (Int.tmod (angle w) 700)).1) : List Ar))) with ⟨h86a, h86⟩ | ⟨h86a, h86⟩
              · skip
                try simp (disch := first | omega | assumption) only [E0_G, SY, off, agreeKind, Nat.reduceAdd, Nat.reduceLT, Nat.reduceBEq, h86a] at hz
                rcases dP (((r27 (a) (Int.tmod (angle w) 700)).2) = 0) with ⟨h87a, h87⟩ | ⟨h87a, h87⟩
                · skip
                  have w88 := (o15_84.rows).len (P := Tryz.prog) (t := 22) Tryz.underlying22
                  try simp (disch := first | omega | assumption) only [E0_G, SY, off, agreeKind, Nat.reduceAdd, Nat.reduceLT, Nat.reduceBEq, TY_EvC13, h87a, w88] at hz
                  rcases dP ((cvr (a) (b)) = (decide (((two r26 (b) (a)).length : Int) = 0))) with ⟨h89a, h89⟩ | ⟨h89a, h89⟩
                  · skip
                    obtain ⟨S90, k90, a90⟩ := c77 ((nrm (a)) : List Ar) u (by first | (have := usual_len (show r75 a = true by assumption); omega) | (have := usual_len (show r75 b = true by assumption); omega) | exact nrm_le _ | exact two24_le _ _ | exact two25_le (usual_few (by assumption)) | exact two26_le (usual_few (by assumption)) | exact r27_le _ _) S79 (u5) (o5_80.rows) (ht.agree g79)
                    have l90 := a90.1
                    have s90 : E0.same S79 S90 = true := symEnv_same a90
                    have o5_91 := o5_80.agree a90
                    have o6_92 := o6_81.agree a90
                    have o8_93 := o8_82.agree a90
                    have o11_94 := o11_83.agree a90
                    have o15_95 := o15_84.agree a90
                    have o27_96 := o27_85.agree a90
                    have g90 : Agree S S90 := g79.trans a90
                    try simp (disch := first | omega | assumption) only [E0_G, SY, off, agreeKind, vals, Nat.reduceAdd, Nat.reduceLT, Nat.reduceBEq, TY_EvC13, h89a, k90] at hz
                    rcases dP ((r77 ((nrm (a)) : List Ar) u) = (r77 (a : List Ar) u)) with ⟨h97a, h97⟩ | ⟨h97a, h97⟩
                    · skip
                      obtain ⟨S98, k98, a98⟩ := c77 ((two r24 (a) (b)) : List Ar) u (by first | (have := usual_len (show r75 a = true by assumption); omega) | (have := usual_len (show r75 b = true by assumption); omega) | exact nrm_le _ | exact two24_le _ _ | exact two25_le (usual_few (by assumption)) | exact two26_le (usual_few (by assumption)) | exact r27_le _ _) S90 (u6) (o6_92.rows) (ht.agree g90)
                      have l98 := a98.1
                      have s98 : E0.same S90 S98 = true := symEnv_same a98
                      have o5_99 := o5_91.agree a98
                      have o6_100 := o6_92.agree a98
                      have o8_101 := o8_93.agree a98
                      have o11_102 := o11_94.agree a98
                      have o15_103 := o15_95.agree a98
                      have o27_104 := o27_96.agree a98
                      have g98 : Agree S S98 := g90.trans a98
                      try simp (disch := first | omega | assumption) only [E0_G, SY, off, agreeKind, vals, Nat.reduceAdd, Nat.reduceLT, Nat.reduceBEq, h97a, k98] at hz
                      rcases dB ((r77 (a : List Ar) u)) with ⟨h105a, h105⟩ | ⟨h105a, h105⟩
                      · skip
                        try simp (disch := first | omega | assumption) only [E0_G, SY, off, agreeKind, Nat.reduceAdd, Nat.reduceLT, Nat.reduceBEq, TY_EvC13, h105a] at hz
                        rcases dP ((r77 ((two r24 (a) (b)) : List Ar) u) = true) with ⟨h106a, h106⟩ | ⟨h106a, h106⟩
                        · skip
                          obtain ⟨S107, k107, a107⟩ := c77 ((two r25 (a) (b)) : List Ar) u (by first | (have := usual_len (show r75 a = true by assumption); omega) | (have := usual_len (show r75 b = true by assumption); omega) | exact nrm_le _ | exact two24_le _ _ | exact two25_le (usual_few (by assumption)) | exact two26_le (usual_few (by assumption)) | exact r27_le _ _) S98 (u8) (o8_101.rows) (ht.agree g98)
                          have l107 := a107.1
                          have s107 : E0.same S98 S107 = true := symEnv_same a107
                          have o5_108 := o5_99.agree a107
                          have o6_109 := o6_100.agree a107
                          have o8_110 := o8_101.agree a107
                          have o11_111 := o11_102.agree a107
                          have o15_112 := o15_103.agree a107
                          have o27_113 := o27_104.agree a107
                          have g107 : Agree S S107 := g98.trans a107
                          try simp (disch := first | omega | assumption) only [E0_G, SY, off, agreeKind, vals, Nat.reduceAdd, Nat.reduceLT, Nat.reduceBEq, TY_EvC13, h106a, k107] at hz
                          rcases dP ((r77 ((two r25 (a) (b)) : List Ar) u) = (r77 (b : List Ar) u)) with ⟨h114a, h114⟩ | ⟨h114a, h114⟩
                          · skip
                            obtain ⟨S115, k115, a115⟩ := c77 ((two r26 (a) (b)) : List Ar) u (by first | (have := usual_len (show r75 a = true by assumption); omega) | (have := usual_len (show r75 b = true by assumption); omega) | exact nrm_le _ | exact two24_le _ _ | exact two25_le (usual_few (by assumption)) | exact two26_le (usual_few (by assumption)) | exact r27_le _ _) S107 (u11) (o11_111.rows) (ht.agree g107)
                            have l115 := a115.1
                            have s115 : E0.same S107 S115 = true := symEnv_same a115
                            have o5_116 := o5_108.agree a115
                            have o6_117 := o6_109.agree a115
                            have o8_118 := o8_110.agree a115
                            have o11_119 := o11_111.agree a115
                            have o15_120 := o15_112.agree a115
                            have o27_121 := o27_113.agree a115
                            have g115 : Agree S S115 := g107.trans a115
                            try simp (disch := first | omega | assumption) only [E0_G, SY, off, agreeKind, vals, Nat.reduceAdd, Nat.reduceLT, Nat.reduceBEq, TY_EvC13, h114a, k115] at hz
                            rcases dP ((r77 ((two r26 (a) (b)) : List Ar) u) = (!(r77 (b : List Ar) u))) with ⟨h122a, h122⟩ | ⟨h122a, h122⟩
                            · skip
                              try simp (disch := first | omega | assumption) only [E0_G, SY, off, agreeKind, Nat.reduceLT, h122a] at hz
                              have hq := usual_len (show r75 a = true by assumption)
                              generalize hL123 : Rec.loop _ _ _ _ = L123 at hz
                              obtain ⟨x123, t123, S123e, rfl, hQ123⟩ := loop_met hL123 (fun m t S' => ∃ (near : Bool) (i : Nat), m + i = a.length ∧ i ≤ a.length ∧ t.get 0 = some (v_a) ∧ t.get 3 = some (.int .i64 u) ∧ t.get 21 = some (.int .i64 (Int.tmod (angle w) 700)) ∧ t.get 22 = some (u27) ∧ t.get 26 = some (.bool near) ∧ t.get 27 = some (.int .i64 (i : Int)) ∧ Agree S S' ∧ S115.next ≤ S'.next ∧ Fre S20.next S' u27 ((r27 (a) (Int.tmod (angle w) 700)).1) ∧ R13_0 a b w u (a.drop i) near = R13_0 a b w u a false)
                                (fun x t S' => x = .exit 0 ∧ ∃ (near : Bool) (i : Nat), t.get 3 = some (.int .i64 u) ∧ t.get 22 = some (u27) ∧ t.get 26 = some (.bool near) ∧ Agree S S' ∧ S115.next ≤ S'.next ∧ Fre S20.next S' u27 ((r27 (a) (Int.tmod (angle w) 700)).1) ∧ i ≤ a.length ∧ R13_0 a b w u a false = near) (a.length - 0) ⟨false, 0, by first | rfl | omega | (simp; omega) | simp, by first | rfl | omega | (simp; omega) | simp, by simp only [SY, eq_self, Nat.reduceBEq] <;> rfl, by simp only [SY, eq_self, Nat.reduceBEq] <;> rfl, by simp only [SY, eq_self, Nat.reduceBEq] <;> rfl, by simp only [SY, eq_self, Nat.reduceBEq] <;> rfl, by simp only [SY, eq_self, Nat.reduceBEq] <;> rfl, by simp only [SY, Nat.reduceBEq] <;> rfl, g115, Nat.le_refl _, o27_121, rfl⟩ (by
                                  rintro m t S123 ⟨near, i, hi123_0, hi123_1, g123_0, g123_3, g123_21, g123_22, g123_26, g123_27, ga123, gn123, cw123_0, hd123⟩
                                  refine .run fun z he => ?_
                                  have w124 := (hv_a.agree ga123).len (P := Tryz.prog) (t := 22) Tryz.underlying22
                                  try simp (disch := first | omega | assumption) only [E0_G, SY, off, agreeKind, Nat.reduceAdd, Nat.reduceLT, Nat.reduceBEq, g123_0, g123_27, w124] at he
                                  rcases dP ((i : Int) < (a.length : Int)) with ⟨h125a, h125⟩ | ⟨h125a, h125⟩
                                  · skip
                                    try simp (disch := first | omega | assumption) only [SY, h125a] at he
                                    rw [code_draws _ _ _ (by kernel_rfl)] at he
                                    generalize hnd126 : needy _ = nd126 at he
                                    try simp (disch := first | omega | assumption) only [E0_G, SY, agreeKind, Nat.reduceAdd, Nat.reduceLT, Nat.reduceBEq, g123_26, store_refl E0_same] at he
                                    rcases dB (near) with ⟨h127a, h127⟩ | ⟨h127a, h127⟩
                                    · skip
                                      have w128 : IntKind.i64.wrap ((i : Int) + 1) = ((i + 1 : Nat) : Int) := by rw [IntWalk.i64_in] <;> omega
                                      try simp (disch := first | omega | assumption) only [E0_G, SY, off, agreeKind, Nat.reduceAdd, Nat.reduceLT, Nat.reduceBEq, g123_27, store_refl E0_same, h127a, w128] at he
                                      rw [drop_cons' (List.getElem?_eq_getElem (show i < _ by omega))] at hd123
                                      have hf := (show _ = (R13_0 a b w u (a.drop (i + 1)) true : Bool) from (if_pos h127).trans (rfl)).symm.trans hd123
                                      exact .next he (m - 1) (by omega) ⟨true, (i + 1), by first | omega | (simp; omega) | simp, by first | omega | (simp; omega) | simp, (by simp only [SY, eq_self, Nat.reduceBEq, g123_0] <;> rfl), (by simp only [SY, eq_self, Nat.reduceBEq, g123_3] <;> rfl), (by simp only [SY, eq_self, Nat.reduceBEq, g123_21] <;> rfl), (by simp only [SY, eq_self, Nat.reduceBEq, g123_22] <;> rfl), (by simp only [SY, eq_self, Nat.reduceBEq, g123_26] <;> rfl), (by simp only [SY, eq_self, Nat.reduceBEq, g123_27] <;> rfl), ga123, by omega, cw123_0, hf⟩
                                    · skip
                                      have hx123 : a[i]? = some (a[i]'(by first | omega | (simp; omega) | exact len_pos (by assumption) (A4_vl ..))) := List.getElem?_eq_getElem _
                                      generalize a[i]'_ = x123 at hx123
                                      obtain ⟨id129, of129, cc129, ty129, wr129, ex129, i129, j129, l129, q129⟩ := (hv_a).at (P := Tryz.prog) (t := 22) Tryz.underlying22 tz56 hx123
                                      have jr129 := j129
                                      have j129 := (ga123.2 id129 l129).trans jr129
                                      have m129_0 : cc129[of129]? = some (.int .i64 x123.f) := q129 0 (show 0 < 2 by decide)
                                      have m129_1 : cc129[of129 + 1]? = some (.int .i64 x123.l) := q129 1 (show 1 < 2 by decide)
                                      obtain ⟨S130, k130, a130⟩ := c79 x123.f x123.l u  S123  (ht.agree ga123)
                                      have l130 := a130.1
                                      have s130 : E0.same S123 S130 = true := symEnv_same a130
                                      have v129_130 := (a130.2 id129 (by omega)).trans j129
                                      have ocw123_131 := cw123_0.agree a130
                                      have g130 : Agree S S130 := ga123.trans a130
                                      try simp (disch := first | omega | assumption) only [E0_G, SY, agreeKind, vals, ldA, rdCells, aggD, Nat.reduceAdd, Nat.reduceLT, Nat.reduceBEq, TY_EvC13, g123_0, g123_3, g123_27, store_agree, store_refl E0_same, h127a, i129, j129, m129_0, m129_1, k130] at he
                                      rcases dB ((r79 x123.f x123.l u)) with ⟨h132a, h132⟩ | ⟨h132a, h132⟩
                                      · skip
                                        have w133 : IntKind.i64.wrap ((i : Int) + 1) = ((i + 1 : Nat) : Int) := by rw [IntWalk.i64_in] <;> omega
                                        try simp (disch := first | omega | assumption) only [E0_G, SY, off, agreeKind, Nat.reduceAdd, Nat.reduceLT, Nat.reduceBEq, g123_27, store_refl E0_same, h132a, w133] at he
                                        rw [drop_cons' hx123] at hd123
                                        have hf := (show _ = (R13_0 a b w u (a.drop (i + 1)) true : Bool) from (if_neg h127).trans ((if_pos h132).trans (rfl))).symm.trans hd123
                                        exact .next he (m - 1) (by omega) ⟨true, (i + 1), by first | omega | (simp; omega) | simp, by first | omega | (simp; omega) | simp, (by simp only [SY, eq_self, Nat.reduceBEq, g123_0] <;> rfl), (by simp only [SY, eq_self, Nat.reduceBEq, g123_3] <;> rfl), (by simp only [SY, eq_self, Nat.reduceBEq, g123_21] <;> rfl), (by simp only [SY, eq_self, Nat.reduceBEq, g123_22] <;> rfl), (by simp only [SY, eq_self, Nat.reduceBEq, g123_26] <;> rfl), (by simp only [SY, eq_self, Nat.reduceBEq, g123_27] <;> rfl), g130, by omega, ocw123_131, hf⟩
                                      · skip
                                        obtain ⟨id134, of134, cc134, ty134, wr134, ex134, i134, j134, l134, q134⟩ := (hv_a).at (P := Tryz.prog) (t := 22) Tryz.underlying22 tz56 hx123
                                        have jr134 := j134
                                        have j134 := (g130.2 id134 l134).trans jr134
                                        have j134_129 := (g130.2 id129 l129).trans jr129
                                        have m134_0 : cc134[of134]? = some (.int .i64 x123.f) := q134 0 (show 0 < 2 by decide)
                                        have m134_1 : cc134[of134 + 1]? = some (.int .i64 x123.l) := q134 1 (show 1 < 2 by decide)
                                        obtain ⟨S135, k135, a135⟩ := c80 u x123.f  S130  
                                        have l135 := a135.1
                                        have s135 : E0.same S130 S135 = true := symEnv_same a135
                                        have v129_135 := (a135.2 id129 (by omega)).trans v129_130
                                        have v134_135 := (a135.2 id134 (by omega)).trans j134
                                        have ocw123_136 := ocw123_131.agree a135
                                        have g135 : Agree S S135 := g130.trans a135
                                        try simp (disch := first | omega | assumption) only [E0_G, SY, agreeKind, vals, ldA, aggD, aField, Nat.reduceAdd, Nat.reduceLT, Nat.reduceBEq, TY_EvC13, g123_0, g123_3, g123_21, g123_27, store_agree, store_refl E0_same, i129, m129_0, v129_130, h132a, k135] at he
                                        rcases dP ((r80 u x123.f) ≤ (Int.tmod (angle w) 700)) with ⟨h137a, h137⟩ | ⟨h137a, h137⟩
                                        · skip
                                          have w138 : IntKind.i64.wrap ((i : Int) + 1) = ((i + 1 : Nat) : Int) := by rw [IntWalk.i64_in] <;> omega
                                          try simp (disch := first | omega | assumption) only [E0_G, SY, off, agreeKind, Nat.reduceAdd, Nat.reduceLT, Nat.reduceBEq, g123_27, store_refl E0_same, h137a, w138] at he
                                          rw [drop_cons' hx123] at hd123
                                          have hf := (show _ = (R13_0 a b w u (a.drop (i + 1)) true : Bool) from (if_neg h127).trans ((if_neg h132).trans ((if_pos h137).trans (rfl)))).symm.trans hd123
                                          exact .next he (m - 1) (by omega) ⟨true, (i + 1), by first | omega | (simp; omega) | simp, by first | omega | (simp; omega) | simp, (by simp only [SY, eq_self, Nat.reduceBEq, g123_0] <;> rfl), (by simp only [SY, eq_self, Nat.reduceBEq, g123_3] <;> rfl), (by simp only [SY, eq_self, Nat.reduceBEq, g123_21] <;> rfl), (by simp only [SY, eq_self, Nat.reduceBEq, g123_22] <;> rfl), (by simp only [SY, eq_self, Nat.reduceBEq, g123_26] <;> rfl), (by simp only [SY, eq_self, Nat.reduceBEq, g123_27] <;> rfl), g135, by omega, ocw123_136, hf⟩
                                        · skip
                                          obtain ⟨id139, of139, cc139, ty139, wr139, ex139, i139, j139, l139, q139⟩ := (hv_a).at (P := Tryz.prog) (t := 22) Tryz.underlying22 tz56 hx123
                                          have jr139 := j139
                                          have j139 := (g135.2 id139 l139).trans jr139
                                          have j139_129 := (g135.2 id129 l129).trans jr129
                                          have j139_134 := (g135.2 id134 l134).trans jr134
                                          have m139_0 : cc139[of139]? = some (.int .i64 x123.f) := q139 0 (show 0 < 2 by decide)
                                          have m139_1 : cc139[of139 + 1]? = some (.int .i64 x123.l) := q139 1 (show 1 < 2 by decide)
                                          obtain ⟨id140, of140, cc140, ty140, wr140, ex140, i140, j140, l140, q140⟩ := (hv_a).at (P := Tryz.prog) (t := 22) Tryz.underlying22 tz56 hx123
                                          have jr140 := j140
                                          have j140 := (g135.2 id140 l140).trans jr140
                                          have j140_129 := (g135.2 id129 l129).trans jr129
                                          have j140_134 := (g135.2 id134 l134).trans jr134
                                          have j140_139 := (g135.2 id139 l139).trans jr139
                                          have m140_0 : cc140[of140]? = some (.int .i64 x123.f) := q140 0 (show 0 < 2 by decide)
                                          have m140_1 : cc140[of140 + 1]? = some (.int .i64 x123.l) := q140 1 (show 1 < 2 by decide)
                                          have k141 := c76 (IntKind.i64.wrap (x123.f + x123.l)) S135
                                          obtain ⟨S142, k142, a142⟩ := c80 u (angle (IntKind.i64.wrap (x123.f + x123.l)))  S135  
                                          have l142 := a142.1
                                          have s142 : E0.same S135 S142 = true := symEnv_same a142
                                          have v129_142 := (a142.2 id129 (by omega)).trans v129_135
                                          have v134_142 := (a142.2 id134 (by omega)).trans v134_135
                                          have v139_142 := (a142.2 id139 (by omega)).trans j139
                                          have v140_142 := (a142.2 id140 (by omega)).trans j140
                                          have ocw123_143 := ocw123_136.agree a142
                                          have g142 : Agree S S142 := g135.trans a142
                                          have w144 : IntKind.i64.wrap ((i : Int) + 1) = ((i + 1 : Nat) : Int) := by rw [IntWalk.i64_in] <;> omega
                                          try simp (disch := first | omega | assumption) only [E0_G, SY, off, agreeKind, vals, ldA, aggD, aField, Nat.reduceAdd, Nat.reduceLT, Nat.reduceBEq, TY_EvC13, g123_0, g123_3, g123_21, g123_27, store_agree, store_refl E0_same, i129, m129_0, m129_1, v129_135, h137a, k141, k142, w144] at he
                                          rw [drop_cons' hx123] at hd123
                                          have hf := (show _ = (R13_0 a b w u (a.drop (i + 1)) (decide ((r80 u (angle (IntKind.i64.wrap (x123.f + x123.l)))) ≤ (Int.tmod (angle w) 700))) : Bool) from (if_neg h127).trans ((if_neg h132).trans ((if_neg h137).trans (rfl)))).symm.trans hd123
                                          exact .next he (m - 1) (by omega) ⟨decide ((r80 u (angle (IntKind.i64.wrap (x123.f + x123.l)))) ≤ (Int.tmod (angle w) 700)), (i + 1), by first | omega | (simp; omega) | simp, by first | omega | (simp; omega) | simp, (by simp only [SY, eq_self, Nat.reduceBEq, g123_0] <;> rfl), (by simp only [SY, eq_self, Nat.reduceBEq, g123_3] <;> rfl), (by simp only [SY, eq_self, Nat.reduceBEq, g123_21] <;> rfl), (by simp only [SY, eq_self, Nat.reduceBEq, g123_22] <;> rfl), (by simp only [SY, eq_self, Nat.reduceBEq, g123_26] <;> rfl), (by simp only [SY, eq_self, Nat.reduceBEq, g123_27] <;> rfl), g142, by omega, ocw123_143, hf⟩
                                  · skip
                                    try simp (disch := first | omega | assumption) only [SY, h125a] at he
                                    rw [List.drop_eq_nil_of_le (show a.length ≤ i by omega)] at hd123
                                    have hf := (show _ = (near : Bool) from rfl).symm.trans hd123
                                    exact .exit he ⟨rfl, ⟨near, i, (by simp only [SY, eq_self, Nat.reduceBEq, g123_3] <;> rfl), (by simp only [SY, eq_self, Nat.reduceBEq, g123_22] <;> rfl), (by simp only [SY, eq_self, Nat.reduceBEq, g123_26] <;> rfl), ga123, by omega, cw123_0, by first | omega | assumption | simp, hf.symm⟩⟩)
                              obtain ⟨rfl, near, i, ge123_3, ge123_22, ge123_26, ge123, gm123, ce123_0, hj123_0, hR123⟩ := hQ123
                              obtain rfl : near = R13_0 a b w u a false := hR123.symm
                              obtain ⟨S146, k146, a146⟩ := c77 (((r27 (a) (Int.tmod (angle w) 700)).1) : List Ar) u (by first | (have := usual_len (show r75 a = true by assumption); omega) | (have := usual_len (show r75 b = true by assumption); omega) | exact nrm_le _ | exact two24_le _ _ | exact two25_le (usual_few (by assumption)) | exact two26_le (usual_few (by assumption)) | exact r27_le _ _) S123e (u27) (ce123_0.rows) (ht.agree ge123)
                              have l146 := a146.1
                              have s146 : E0.same S123e S146 = true := symEnv_same a146
                              have oce123_147 := ce123_0.agree a146
                              have g146 : Agree S S146 := ge123.trans a146
                              try simp (disch := first | omega | assumption) only [E0_G, SY, off, agreeKind, vals, eq_self, if_true, Nat.reduceAdd, Nat.reduceLT, Nat.reduceBEq, TY_EvC13, ge123_3, ge123_22, ge123_26, c15s, k146] at hz
                              have hr : r13 a b w u = decide ((r77 (((r27 (a) (Int.tmod (angle w) 700)).1) : List Ar) u) = (R13_0 a b w u a false)) := (if_pos h2).trans ((if_pos h4).trans ((if_pos h54).trans ((if_pos h62).trans ((if_pos h70).trans ((if_pos h78).trans ((if_pos h86).trans ((if_pos h87).trans ((if_pos h89).trans ((if_pos h97).trans ((if_pos h105).trans ((if_pos h106).trans ((if_pos h114).trans ((if_pos h122).trans (rfl))))))))))))))
                              exact fin hz (by rw [hr]) g146
                            · skip
                              try simp (disch := first | omega | assumption) only [E0_G, SY, off, agreeKind, Nat.reduceLT, Nat.reduceBEq, h122a] at hz
                              have hr : r13 a b w u = false := (if_pos h2).trans ((if_pos h4).trans ((if_pos h54).trans ((if_pos h62).trans ((if_pos h70).trans ((if_pos h78).trans ((if_pos h86).trans ((if_pos h87).trans ((if_pos h89).trans ((if_pos h97).trans ((if_pos h105).trans ((if_pos h106).trans ((if_pos h114).trans ((if_neg h122).trans (rfl))))))))))))))
                              exact fin hz (by rw [hr]) g115
                          · skip
                            try simp (disch := first | omega | assumption) only [E0_G, SY, off, agreeKind, Nat.reduceAdd, Nat.reduceLT, Nat.reduceBEq, h114a] at hz
                            have hr : r13 a b w u = false := (if_pos h2).trans ((if_pos h4).trans ((if_pos h54).trans ((if_pos h62).trans ((if_pos h70).trans ((if_pos h78).trans ((if_pos h86).trans ((if_pos h87).trans ((if_pos h89).trans ((if_pos h97).trans ((if_pos h105).trans ((if_pos h106).trans ((if_neg h114).trans (rfl)))))))))))))
                            exact fin hz (by rw [hr]) g107
                        · skip
                          try simp (disch := first | omega | assumption) only [E0_G, SY, off, agreeKind, Nat.reduceAdd, Nat.reduceLT, Nat.reduceBEq, h106a] at hz
                          have hr : r13 a b w u = false := (if_pos h2).trans ((if_pos h4).trans ((if_pos h54).trans ((if_pos h62).trans ((if_pos h70).trans ((if_pos h78).trans ((if_pos h86).trans ((if_pos h87).trans ((if_pos h89).trans ((if_pos h97).trans ((if_pos h105).trans ((if_neg h106).trans (rfl))))))))))))
                          exact fin hz (by rw [hr]) g98
                      · skip
                        try simp (disch := first | omega | assumption) only [E0_G, SY, off, agreeKind, Nat.reduceAdd, Nat.reduceLT, Nat.reduceBEq, TY_EvC13, h105a] at hz
                        rcases dP ((r77 ((two r24 (a) (b)) : List Ar) u) = (r77 (b : List Ar) u)) with ⟨h148a, h148⟩ | ⟨h148a, h148⟩
                        · skip
                          obtain ⟨S149, k149, a149⟩ := c77 ((two r25 (a) (b)) : List Ar) u (by first | (have := usual_len (show r75 a = true by assumption); omega) | (have := usual_len (show r75 b = true by assumption); omega) | exact nrm_le _ | exact two24_le _ _ | exact two25_le (usual_few (by assumption)) | exact two26_le (usual_few (by assumption)) | exact r27_le _ _) S98 (u8) (o8_101.rows) (ht.agree g98)
                          have l149 := a149.1
                          have s149 : E0.same S98 S149 = true := symEnv_same a149
                          have o5_150 := o5_99.agree a149
                          have o6_151 := o6_100.agree a149
                          have o8_152 := o8_101.agree a149
                          have o11_153 := o11_102.agree a149
                          have o15_154 := o15_103.agree a149
                          have o27_155 := o27_104.agree a149
                          have g149 : Agree S S149 := g98.trans a149
                          try simp (disch := first | omega | assumption) only [E0_G, SY, off, agreeKind, vals, Nat.reduceAdd, Nat.reduceLT, Nat.reduceBEq, TY_EvC13, h148a, k149] at hz
                          rcases dP ((r77 ((two r25 (a) (b)) : List Ar) u) = false) with ⟨h156a, h156⟩ | ⟨h156a, h156⟩
                          · skip
                            obtain ⟨S157, k157, a157⟩ := c77 ((two r26 (a) (b)) : List Ar) u (by first | (have := usual_len (show r75 a = true by assumption); omega) | (have := usual_len (show r75 b = true by assumption); omega) | exact nrm_le _ | exact two24_le _ _ | exact two25_le (usual_few (by assumption)) | exact two26_le (usual_few (by assumption)) | exact r27_le _ _) S149 (u11) (o11_153.rows) (ht.agree g149)
                            have l157 := a157.1
                            have s157 : E0.same S149 S157 = true := symEnv_same a157
                            have o5_158 := o5_150.agree a157
                            have o6_159 := o6_151.agree a157
                            have o8_160 := o8_152.agree a157
                            have o11_161 := o11_153.agree a157
                            have o15_162 := o15_154.agree a157
                            have o27_163 := o27_155.agree a157
                            have g157 : Agree S S157 := g149.trans a157
                            try simp (disch := first | omega | assumption) only [E0_G, SY, off, agreeKind, vals, Nat.reduceAdd, Nat.reduceLT, Nat.reduceBEq, TY_EvC13, h156a, k157] at hz
                            rcases dP ((r77 ((two r26 (a) (b)) : List Ar) u) = false) with ⟨h164a, h164⟩ | ⟨h164a, h164⟩
                            · skip
                              try simp (disch := first | omega | assumption) only [E0_G, SY, off, agreeKind, Nat.reduceLT, h164a] at hz
                              have hq := usual_len (show r75 a = true by assumption)
                              generalize hL165 : Rec.loop _ _ _ _ = L165 at hz
                              obtain ⟨x165, t165, S165e, rfl, hQ165⟩ := loop_met hL165 (fun m t S' => ∃ (near : Bool) (i : Nat), m + i = a.length ∧ i ≤ a.length ∧ t.get 0 = some (v_a) ∧ t.get 3 = some (.int .i64 u) ∧ t.get 21 = some (.int .i64 (Int.tmod (angle w) 700)) ∧ t.get 22 = some (u27) ∧ t.get 26 = some (.bool near) ∧ t.get 27 = some (.int .i64 (i : Int)) ∧ Agree S S' ∧ S157.next ≤ S'.next ∧ Fre S20.next S' u27 ((r27 (a) (Int.tmod (angle w) 700)).1) ∧ R13_1 a b w u (a.drop i) near = R13_1 a b w u a false)
                                (fun x t S' => x = .exit 0 ∧ ∃ (near : Bool) (i : Nat), t.get 3 = some (.int .i64 u) ∧ t.get 22 = some (u27) ∧ t.get 26 = some (.bool near) ∧ Agree S S' ∧ S157.next ≤ S'.next ∧ Fre S20.next S' u27 ((r27 (a) (Int.tmod (angle w) 700)).1) ∧ i ≤ a.length ∧ R13_1 a b w u a false = near) (a.length - 0) ⟨false, 0, by first | rfl | omega | (simp; omega) | simp, by first | rfl | omega | (simp; omega) | simp, by simp only [SY, eq_self, Nat.reduceBEq] <;> rfl, by simp only [SY, eq_self, Nat.reduceBEq] <;> rfl, by simp only [SY, eq_self, Nat.reduceBEq] <;> rfl, by simp only [SY, eq_self, Nat.reduceBEq] <;> rfl, by simp only [SY, eq_self, Nat.reduceBEq] <;> rfl, by simp only [SY, Nat.reduceBEq] <;> rfl, g157, Nat.le_refl _, o27_163, rfl⟩ (by
                                  rintro m t S165 ⟨near, i, hi165_0, hi165_1, g165_0, g165_3, g165_21, g165_22, g165_26, g165_27, ga165, gn165, cw165_0, hd165⟩
                                  refine .run fun z he => ?_
                                  have w166 := (hv_a.agree ga165).len (P := Tryz.prog) (t := 22) Tryz.underlying22
                                  try simp (disch := first | omega | assumption) only [E0_G, SY, off, agreeKind, Nat.reduceAdd, Nat.reduceLT, Nat.reduceBEq, g165_0, g165_27, w166] at he
                                  rcases dP ((i : Int) < (a.length : Int)) with ⟨h167a, h167⟩ | ⟨h167a, h167⟩
                                  · skip
                                    try simp (disch := first | omega | assumption) only [SY, h167a] at he
                                    rw [code_draws _ _ _ (by kernel_rfl)] at he
                                    generalize hnd168 : needy _ = nd168 at he
                                    try simp (disch := first | omega | assumption) only [E0_G, SY, agreeKind, Nat.reduceAdd, Nat.reduceLT, Nat.reduceBEq, g165_26, store_refl E0_same] at he
                                    rcases dB (near) with ⟨h169a, h169⟩ | ⟨h169a, h169⟩
                                    · skip
                                      have w170 : IntKind.i64.wrap ((i : Int) + 1) = ((i + 1 : Nat) : Int) := by rw [IntWalk.i64_in] <;> omega
                                      try simp (disch := first | omega | assumption) only [E0_G, SY, off, agreeKind, Nat.reduceAdd, Nat.reduceLT, Nat.reduceBEq, g165_27, store_refl E0_same, h169a, w170] at he
                                      rw [drop_cons' (List.getElem?_eq_getElem (show i < _ by omega))] at hd165
                                      have hf := (show _ = (R13_1 a b w u (a.drop (i + 1)) true : Bool) from (if_pos h169).trans (rfl)).symm.trans hd165
                                      exact .next he (m - 1) (by omega) ⟨true, (i + 1), by first | omega | (simp; omega) | simp, by first | omega | (simp; omega) | simp, (by simp only [SY, eq_self, Nat.reduceBEq, g165_0] <;> rfl), (by simp only [SY, eq_self, Nat.reduceBEq, g165_3] <;> rfl), (by simp only [SY, eq_self, Nat.reduceBEq, g165_21] <;> rfl), (by simp only [SY, eq_self, Nat.reduceBEq, g165_22] <;> rfl), (by simp only [SY, eq_self, Nat.reduceBEq, g165_26] <;> rfl), (by simp only [SY, eq_self, Nat.reduceBEq, g165_27] <;> rfl), ga165, by omega, cw165_0, hf⟩
                                    · skip
                                      have hx165 : a[i]? = some (a[i]'(by first | omega | (simp; omega) | exact len_pos (by assumption) (A4_vl ..))) := List.getElem?_eq_getElem _
                                      generalize a[i]'_ = x165 at hx165
                                      obtain ⟨id171, of171, cc171, ty171, wr171, ex171, i171, j171, l171, q171⟩ := (hv_a).at (P := Tryz.prog) (t := 22) Tryz.underlying22 tz56 hx165
                                      have jr171 := j171
                                      have j171 := (ga165.2 id171 l171).trans jr171
                                      have m171_0 : cc171[of171]? = some (.int .i64 x165.f) := q171 0 (show 0 < 2 by decide)
                                      have m171_1 : cc171[of171 + 1]? = some (.int .i64 x165.l) := q171 1 (show 1 < 2 by decide)
                                      obtain ⟨S172, k172, a172⟩ := c79 x165.f x165.l u  S165  (ht.agree ga165)
                                      have l172 := a172.1
                                      have s172 : E0.same S165 S172 = true := symEnv_same a172
                                      have v171_172 := (a172.2 id171 (by omega)).trans j171
                                      have ocw165_173 := cw165_0.agree a172
                                      have g172 : Agree S S172 := ga165.trans a172
                                      try simp (disch := first | omega | assumption) only [E0_G, SY, agreeKind, vals, ldA, rdCells, aggD, Nat.reduceAdd, Nat.reduceLT, Nat.reduceBEq, TY_EvC13, g165_0, g165_3, g165_27, store_agree, store_refl E0_same, h169a, i171, j171, m171_0, m171_1, k172] at he
                                      rcases dB ((r79 x165.f x165.l u)) with ⟨h174a, h174⟩ | ⟨h174a, h174⟩
                                      · skip
                                        have w175 : IntKind.i64.wrap ((i : Int) + 1) = ((i + 1 : Nat) : Int) := by rw [IntWalk.i64_in] <;> omega
                                        try simp (disch := first | omega | assumption) only [E0_G, SY, off, agreeKind, Nat.reduceAdd, Nat.reduceLT, Nat.reduceBEq, g165_27, store_refl E0_same, h174a, w175] at he
                                        rw [drop_cons' hx165] at hd165
                                        have hf := (show _ = (R13_1 a b w u (a.drop (i + 1)) true : Bool) from (if_neg h169).trans ((if_pos h174).trans (rfl))).symm.trans hd165
                                        exact .next he (m - 1) (by omega) ⟨true, (i + 1), by first | omega | (simp; omega) | simp, by first | omega | (simp; omega) | simp, (by simp only [SY, eq_self, Nat.reduceBEq, g165_0] <;> rfl), (by simp only [SY, eq_self, Nat.reduceBEq, g165_3] <;> rfl), (by simp only [SY, eq_self, Nat.reduceBEq, g165_21] <;> rfl), (by simp only [SY, eq_self, Nat.reduceBEq, g165_22] <;> rfl), (by simp only [SY, eq_self, Nat.reduceBEq, g165_26] <;> rfl), (by simp only [SY, eq_self, Nat.reduceBEq, g165_27] <;> rfl), g172, by omega, ocw165_173, hf⟩
                                      · skip
                                        obtain ⟨id176, of176, cc176, ty176, wr176, ex176, i176, j176, l176, q176⟩ := (hv_a).at (P := Tryz.prog) (t := 22) Tryz.underlying22 tz56 hx165
                                        have jr176 := j176
                                        have j176 := (g172.2 id176 l176).trans jr176
                                        have j176_171 := (g172.2 id171 l171).trans jr171
                                        have m176_0 : cc176[of176]? = some (.int .i64 x165.f) := q176 0 (show 0 < 2 by decide)
                                        have m176_1 : cc176[of176 + 1]? = some (.int .i64 x165.l) := q176 1 (show 1 < 2 by decide)
                                        obtain ⟨S177, k177, a177⟩ := c80 u x165.f  S172  
                                        have l177 := a177.1
                                        have s177 : E0.same S172 S177 = true := symEnv_same a177
                                        have v171_177 := (a177.2 id171 (by omega)).trans v171_172
                                        have v176_177 := (a177.2 id176 (by omega)).trans j176
                                        have ocw165_178 := ocw165_173.agree a177
                                        have g177 : Agree S S177 := g172.trans a177
                                        try simp (disch := first | omega | assumption) only [E0_G, SY, agreeKind, vals, ldA, aggD, aField, Nat.reduceAdd, Nat.reduceLT, Nat.reduceBEq, TY_EvC13, g165_0, g165_3, g165_21, g165_27, store_agree, store_refl E0_same, i171, m171_0, v171_172, h174a, k177] at he
                                        rcases dP ((r80 u x165.f) ≤ (Int.tmod (angle w) 700)) with ⟨h179a, h179⟩ | ⟨h179a, h179⟩
                                        · skip
                                          have w180 : IntKind.i64.wrap ((i : Int) + 1) = ((i + 1 : Nat) : Int) := by rw [IntWalk.i64_in] <;> omega
                                          try simp (disch := first | omega | assumption) only [E0_G, SY, off, agreeKind, Nat.reduceAdd, Nat.reduceLT, Nat.reduceBEq, g165_27, store_refl E0_same, h179a, w180] at he
                                          rw [drop_cons' hx165] at hd165
                                          have hf := (show _ = (R13_1 a b w u (a.drop (i + 1)) true : Bool) from (if_neg h169).trans ((if_neg h174).trans ((if_pos h179).trans (rfl)))).symm.trans hd165
                                          exact .next he (m - 1) (by omega) ⟨true, (i + 1), by first | omega | (simp; omega) | simp, by first | omega | (simp; omega) | simp, (by simp only [SY, eq_self, Nat.reduceBEq, g165_0] <;> rfl), (by simp only [SY, eq_self, Nat.reduceBEq, g165_3] <;> rfl), (by simp only [SY, eq_self, Nat.reduceBEq, g165_21] <;> rfl), (by simp only [SY, eq_self, Nat.reduceBEq, g165_22] <;> rfl), (by simp only [SY, eq_self, Nat.reduceBEq, g165_26] <;> rfl), (by simp only [SY, eq_self, Nat.reduceBEq, g165_27] <;> rfl), g177, by omega, ocw165_178, hf⟩
                                        · skip
                                          obtain ⟨id181, of181, cc181, ty181, wr181, ex181, i181, j181, l181, q181⟩ := (hv_a).at (P := Tryz.prog) (t := 22) Tryz.underlying22 tz56 hx165
                                          have jr181 := j181
                                          have j181 := (g177.2 id181 l181).trans jr181
                                          have j181_171 := (g177.2 id171 l171).trans jr171
                                          have j181_176 := (g177.2 id176 l176).trans jr176
                                          have m181_0 : cc181[of181]? = some (.int .i64 x165.f) := q181 0 (show 0 < 2 by decide)
                                          have m181_1 : cc181[of181 + 1]? = some (.int .i64 x165.l) := q181 1 (show 1 < 2 by decide)
                                          obtain ⟨id182, of182, cc182, ty182, wr182, ex182, i182, j182, l182, q182⟩ := (hv_a).at (P := Tryz.prog) (t := 22) Tryz.underlying22 tz56 hx165
                                          have jr182 := j182
                                          have j182 := (g177.2 id182 l182).trans jr182
                                          have j182_171 := (g177.2 id171 l171).trans jr171
                                          have j182_176 := (g177.2 id176 l176).trans jr176
                                          have j182_181 := (g177.2 id181 l181).trans jr181
                                          have m182_0 : cc182[of182]? = some (.int .i64 x165.f) := q182 0 (show 0 < 2 by decide)
                                          have m182_1 : cc182[of182 + 1]? = some (.int .i64 x165.l) := q182 1 (show 1 < 2 by decide)
                                          have k183 := c76 (IntKind.i64.wrap (x165.f + x165.l)) S177
                                          obtain ⟨S184, k184, a184⟩ := c80 u (angle (IntKind.i64.wrap (x165.f + x165.l)))  S177  
                                          have l184 := a184.1
                                          have s184 : E0.same S177 S184 = true := symEnv_same a184
                                          have v171_184 := (a184.2 id171 (by omega)).trans v171_177
                                          have v176_184 := (a184.2 id176 (by omega)).trans v176_177
                                          have v181_184 := (a184.2 id181 (by omega)).trans j181
                                          have v182_184 := (a184.2 id182 (by omega)).trans j182
                                          have ocw165_185 := ocw165_178.agree a184
                                          have g184 : Agree S S184 := g177.trans a184
                                          have w186 : IntKind.i64.wrap ((i : Int) + 1) = ((i + 1 : Nat) : Int) := by rw [IntWalk.i64_in] <;> omega
                                          try simp (disch := first | omega | assumption) only [E0_G, SY, off, agreeKind, vals, ldA, aggD, aField, Nat.reduceAdd, Nat.reduceLT, Nat.reduceBEq, TY_EvC13, g165_0, g165_3, g165_21, g165_27, store_agree, store_refl E0_same, i171, m171_0, m171_1, v171_177, h179a, k183, k184, w186] at he
                                          rw [drop_cons' hx165] at hd165
                                          have hf := (show _ = (R13_1 a b w u (a.drop (i + 1)) (decide ((r80 u (angle (IntKind.i64.wrap (x165.f + x165.l)))) ≤ (Int.tmod (angle w) 700))) : Bool) from (if_neg h169).trans ((if_neg h174).trans ((if_neg h179).trans (rfl)))).symm.trans hd165
                                          exact .next he (m - 1) (by omega) ⟨decide ((r80 u (angle (IntKind.i64.wrap (x165.f + x165.l)))) ≤ (Int.tmod (angle w) 700)), (i + 1), by first | omega | (simp; omega) | simp, by first | omega | (simp; omega) | simp, (by simp only [SY, eq_self, Nat.reduceBEq, g165_0] <;> rfl), (by simp only [SY, eq_self, Nat.reduceBEq, g165_3] <;> rfl), (by simp only [SY, eq_self, Nat.reduceBEq, g165_21] <;> rfl), (by simp only [SY, eq_self, Nat.reduceBEq, g165_22] <;> rfl), (by simp only [SY, eq_self, Nat.reduceBEq, g165_26] <;> rfl), (by simp only [SY, eq_self, Nat.reduceBEq, g165_27] <;> rfl), g184, by omega, ocw165_185, hf⟩
                                  · skip
                                    try simp (disch := first | omega | assumption) only [SY, h167a] at he
                                    rw [List.drop_eq_nil_of_le (show a.length ≤ i by omega)] at hd165
                                    have hf := (show _ = (near : Bool) from rfl).symm.trans hd165
                                    exact .exit he ⟨rfl, ⟨near, i, (by simp only [SY, eq_self, Nat.reduceBEq, g165_3] <;> rfl), (by simp only [SY, eq_self, Nat.reduceBEq, g165_22] <;> rfl), (by simp only [SY, eq_self, Nat.reduceBEq, g165_26] <;> rfl), ga165, by omega, cw165_0, by first | omega | assumption | simp, hf.symm⟩⟩)
                              obtain ⟨rfl, near, i, ge165_3, ge165_22, ge165_26, ge165, gm165, ce165_0, hj165_0, hR165⟩ := hQ165
                              obtain rfl : near = R13_1 a b w u a false := hR165.symm
                              obtain ⟨S188, k188, a188⟩ := c77 (((r27 (a) (Int.tmod (angle w) 700)).1) : List Ar) u (by first | (have := usual_len (show r75 a = true by assumption); omega) | (have := usual_len (show r75 b = true by assumption); omega) | exact nrm_le _ | exact two24_le _ _ | exact two25_le (usual_few (by assumption)) | exact two26_le (usual_few (by assumption)) | exact r27_le _ _) S165e (u27) (ce165_0.rows) (ht.agree ge165)
                              have l188 := a188.1
                              have s188 : E0.same S165e S188 = true := symEnv_same a188
                              have oce165_189 := ce165_0.agree a188
                              have g188 : Agree S S188 := ge165.trans a188
                              try simp (disch := first | omega | assumption) only [E0_G, SY, off, agreeKind, vals, eq_self, if_true, Nat.reduceAdd, Nat.reduceLT, Nat.reduceBEq, TY_EvC13, ge165_3, ge165_22, ge165_26, c15s, k188] at hz
                              have hr : r13 a b w u = decide ((r77 (((r27 (a) (Int.tmod (angle w) 700)).1) : List Ar) u) = (R13_1 a b w u a false)) := (if_pos h2).trans ((if_pos h4).trans ((if_pos h54).trans ((if_pos h62).trans ((if_pos h70).trans ((if_pos h78).trans ((if_pos h86).trans ((if_pos h87).trans ((if_pos h89).trans ((if_pos h97).trans ((if_neg h105).trans ((if_pos h148).trans ((if_pos h156).trans ((if_pos h164).trans (rfl))))))))))))))
                              exact fin hz (by rw [hr]) g188
                            · skip
                              try simp (disch := first | omega | assumption) only [E0_G, SY, off, agreeKind, Nat.reduceLT, Nat.reduceBEq, h164a] at hz
                              have hr : r13 a b w u = false := (if_pos h2).trans ((if_pos h4).trans ((if_pos h54).trans ((if_pos h62).trans ((if_pos h70).trans ((if_pos h78).trans ((if_pos h86).trans ((if_pos h87).trans ((if_pos h89).trans ((if_pos h97).trans ((if_neg h105).trans ((if_pos h148).trans ((if_pos h156).trans ((if_neg h164).trans (rfl))))))))))))))
                              exact fin hz (by rw [hr]) g157
                          · skip
                            try simp (disch := first | omega | assumption) only [E0_G, SY, off, agreeKind, Nat.reduceAdd, Nat.reduceLT, Nat.reduceBEq, h156a] at hz
                            have hr : r13 a b w u = false := (if_pos h2).trans ((if_pos h4).trans ((if_pos h54).trans ((if_pos h62).trans ((if_pos h70).trans ((if_pos h78).trans ((if_pos h86).trans ((if_pos h87).trans ((if_pos h89).trans ((if_pos h97).trans ((if_neg h105).trans ((if_pos h148).trans ((if_neg h156).trans (rfl)))))))))))))
                            exact fin hz (by rw [hr]) g149
                        · skip
                          try simp (disch := first | omega | assumption) only [E0_G, SY, off, agreeKind, Nat.reduceAdd, Nat.reduceLT, Nat.reduceBEq, h148a] at hz
                          have hr : r13 a b w u = false := (if_pos h2).trans ((if_pos h4).trans ((if_pos h54).trans ((if_pos h62).trans ((if_pos h70).trans ((if_pos h78).trans ((if_pos h86).trans ((if_pos h87).trans ((if_pos h89).trans ((if_pos h97).trans ((if_neg h105).trans ((if_neg h148).trans (rfl))))))))))))
                          exact fin hz (by rw [hr]) g98
                    · skip
                      try simp (disch := first | omega | assumption) only [E0_G, SY, off, agreeKind, Nat.reduceAdd, Nat.reduceLT, Nat.reduceBEq, h97a] at hz
                      have hr : r13 a b w u = false := (if_pos h2).trans ((if_pos h4).trans ((if_pos h54).trans ((if_pos h62).trans ((if_pos h70).trans ((if_pos h78).trans ((if_pos h86).trans ((if_pos h87).trans ((if_pos h89).trans ((if_neg h97).trans (rfl))))))))))
                      exact fin hz (by rw [hr]) g90
                  · skip
                    try simp (disch := first | omega | assumption) only [E0_G, SY, off, agreeKind, Nat.reduceLT, Nat.reduceBEq, h89a] at hz
                    have hr : r13 a b w u = false := (if_pos h2).trans ((if_pos h4).trans ((if_pos h54).trans ((if_pos h62).trans ((if_pos h70).trans ((if_pos h78).trans ((if_pos h86).trans ((if_pos h87).trans ((if_neg h89).trans (rfl)))))))))
                    exact fin hz (by rw [hr]) g79
                · skip
                  try simp (disch := first | omega | assumption) only [E0_G, SY, off, agreeKind, Nat.reduceAdd, Nat.reduceLT, Nat.reduceBEq, h87a] at hz
                  have hr : r13 a b w u = false := (if_pos h2).trans ((if_pos h4).trans ((if_pos h54).trans ((if_pos h62).trans ((if_pos h70).trans ((if_pos h78).trans ((if_pos h86).trans ((if_neg h87).trans (rfl))))))))
                  exact fin hz (by rw [hr]) g79
              · skip
                try simp (disch := first | omega | assumption) only [E0_G, SY, off, agreeKind, Nat.reduceAdd, Nat.reduceLT, Nat.reduceBEq, h86a] at hz
                have hr : r13 a b w u = false := (if_pos h2).trans ((if_pos h4).trans ((if_pos h54).trans ((if_pos h62).trans ((if_pos h70).trans ((if_pos h78).trans ((if_neg h86).trans (rfl)))))))
                exact fin hz (by rw [hr]) g79
            · skip
              try simp (disch := first | omega | assumption) only [E0_G, SY, off, agreeKind, Nat.reduceAdd, Nat.reduceLT, Nat.reduceBEq, h78a] at hz
              have hr : r13 a b w u = false := (if_pos h2).trans ((if_pos h4).trans ((if_pos h54).trans ((if_pos h62).trans ((if_pos h70).trans ((if_neg h78).trans (rfl))))))
              exact fin hz (by rw [hr]) g71
          · skip
            try simp (disch := first | omega | assumption) only [E0_G, SY, off, agreeKind, Nat.reduceAdd, Nat.reduceLT, Nat.reduceBEq, h70a] at hz
            have hr : r13 a b w u = false := (if_pos h2).trans ((if_pos h4).trans ((if_pos h54).trans ((if_pos h62).trans ((if_neg h70).trans (rfl)))))
            exact fin hz (by rw [hr]) g63
        · skip
          try simp (disch := first | omega | assumption) only [E0_G, SY, off, agreeKind, Nat.reduceAdd, Nat.reduceLT, Nat.reduceBEq, h62a] at hz
          have hr : r13 a b w u = false := (if_pos h2).trans ((if_pos h4).trans ((if_pos h54).trans ((if_neg h62).trans (rfl))))
          exact fin hz (by rw [hr]) g55
      · skip
        try simp (disch := first | omega | assumption) only [E0_G, SY, off, agreeKind, Nat.reduceAdd, Nat.reduceLT, Nat.reduceBEq, h54a] at hz
        have hr : r13 a b w u = false := (if_pos h2).trans ((if_pos h4).trans ((if_neg h54).trans (rfl)))
        exact fin hz (by rw [hr]) g47
    · skip
      try simp (disch := first | omega | assumption) only [E0_G, SY, off, agreeKind, vals, Nat.reduceAdd, Nat.reduceLT, Nat.reduceBEq, h4a, c15s] at hz
      have hr : r13 a b w u = true := (if_pos h2).trans ((if_neg h4).trans (rfl))
      exact fin hz (by rw [hr]) g3
  · skip
    try simp (disch := first | omega | assumption) only [E0_G, SY, off, agreeKind, vals, Nat.reduceAdd, Nat.reduceLT, Nat.reduceBEq, h2a, c15s] at hz
    have hr : r13 a b w u = true := (if_neg h2).trans (rfl)
    exact fin hz (by rw [hr]) g1
end Great
end Go.Proofs
