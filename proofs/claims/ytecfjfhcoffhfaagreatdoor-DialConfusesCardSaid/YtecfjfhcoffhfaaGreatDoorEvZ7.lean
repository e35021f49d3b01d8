/-
  The great seat of stage 1 at c2f8ee9: the law of marks.
-/
import Derived.Test.YtecfjfhcoffhfaaGreatDoorEvZ6
set_option linter.unusedSimpArgs false
set_option linter.unusedVariables false
namespace Go.Proofs
namespace Great
open Go Go.RowKit Go.Aev
set_option maxRecDepth 100000
theorem strikeV_is (id tr p at_ mi di sh f s l : Int) : ∃ a b c d e g : Int, strikeV id tr p at_ mi di sh f s l = .tuple #[.agg #[.int .i64 a, .int .i64 b, .int .i64 c, .int .i64 d, .int .i64 e], .int .i64 g] := by
  unfold strikeV
  split
  · exact hitV_is _ _ _ _ _ _ _ _ _ _
  · exact ⟨_, _, _, _, _, _, rfl⟩
theorem twiceV_is (i1 t1 p1 i2 t2 p2 at_ ap mi di sh f s l : Int) : ∃ a b c d e g : Int, twiceV i1 t1 p1 i2 t2 p2 at_ ap mi di sh f s l = .tuple #[.agg #[.int .i64 a, .int .i64 b, .int .i64 c, .int .i64 d, .int .i64 e], .int .i64 g] := by
  unfold twiceV
  split
  · exact hitV_is _ _ _ _ _ _ _ _ _ _
  · exact ⟨_, _, _, _, _, _, rfl⟩
theorem eqMark (a b c d e a' b' c' d' e' : Int) : aEqAgg Tryz.prog 58 (.agg #[.int .i64 a, .int .i64 b, .int .i64 c, .int .i64 d, .int .i64 e]) (.agg #[.int .i64 a', .int .i64 b', .int .i64 c', .int .i64 d', .int .i64 e']) =
    some (((a == a') && ((b == b') && true)) && ((c == c') && ((d == d') && ((e == e') && true)))) := by kernel_rfl
theorem c15 (S : AS) : (evL Tryz.prog E0).call 15 #[] S = some (.bool true, S) := by rw [L_call]; rfl

set_option maxHeartbeats 4000000 in
theorem c8 (a b c d e i1 t1 p1 i2 t2 p2 at_ ap mi di sh f s l : Int) (S : AS) (ht : Tab S) : ∃ S', (evL Tryz.prog E0).call 8 #[.agg #[.int .i64 a, .int .i64 b, .int .i64 c, .int .i64 d, .int .i64 e], .agg #[.int .i64 i1, .int .i64 t1, .int .i64 p1], .agg #[.int .i64 i2, .int .i64 t2, .int .i64 p2], .int .i64 at_, .int .i64 ap, .agg #[.int .i64 mi, .int .i64 di, .int .i64 sh], .agg #[.int .i64 f, .int .i64 s, .int .i64 l]] S = some (.bool true, S') ∧ Agree S S' := by
  obtain ⟨S1, e1, n1, b1, a1⟩ := push_open S (.cells [.int .i64 a, .int .i64 b, .int .i64 c, .int .i64 d, .int .i64 e] 58 0 true true)
  have g1 : Agree S S1 := a1
  obtain ⟨S2, e2, n2, b2, a2⟩ := push_open S1 (.cells [.int .i64 i1, .int .i64 t1, .int .i64 p1] 52 0 true true)
  have vm_2 := (a2.2 S.next (by omega)).trans b1
  have g2 : Agree S S2 := g1.trans a2
  obtain ⟨S3, e3, n3, b3, a3⟩ := push_open S2 (.cells [.int .i64 i2, .int .i64 t2, .int .i64 p2] 52 0 true true)
  have vm_3 := (a3.2 S.next (by omega)).trans vm_2
  have vx_3 := (a3.2 S1.next (by omega)).trans b2
  have g3 : Agree S S3 := g2.trans a3
  obtain ⟨S4, e4, n4, b4, a4⟩ := push_open S3 (.cells [.int .i64 mi, .int .i64 di, .int .i64 sh] 68 0 true true)
  have vm_4 := (a4.2 S.next (by omega)).trans vm_3
  have vx_4 := (a4.2 S1.next (by omega)).trans vx_3
  have vy_4 := (a4.2 S2.next (by omega)).trans b3
  have g4 : Agree S S4 := g3.trans a4
  obtain ⟨S5, e5, n5, b5, a5⟩ := push_open S4 (.cells [.int .i64 f, .int .i64 s, .int .i64 l] 45 0 true true)
  have vm_5 := (a5.2 S.next (by omega)).trans vm_4
  have vx_5 := (a5.2 S1.next (by omega)).trans vx_4
  have vy_5 := (a5.2 S2.next (by omega)).trans vy_4
  have vw_5 := (a5.2 S3.next (by omega)).trans b4
  have g5 : Agree S S5 := g4.trans a5
  obtain ⟨u1, u2, u3, u4, u5, u6, hu⟩ := strikeV_is i1 t1 p1 at_ mi di sh f s l
  obtain ⟨S6, k6, a6⟩ := c50 i1 t1 p1 at_ mi di sh f s l S5
  have l6 := a6.1
  have s6 : E0.same S5 S6 = true := symEnv_same a6
  have vm_6 := (a6.2 S.next (by omega)).trans vm_5
  have vx_6 := (a6.2 S1.next (by omega)).trans vx_5
  have vy_6 := (a6.2 S2.next (by omega)).trans vy_5
  have vw_6 := (a6.2 S3.next (by omega)).trans vw_5
  have vi_6 := (a6.2 S4.next (by omega)).trans b5
  have g6 : Agree S S6 := g5.trans a6
  rw [hu] at k6
  obtain ⟨S7, e7, n7, b7, a7⟩ := push_open S6 (.cells [.int .i64 0, .int .i64 0, .int .i64 0, .int .i64 0, .int .i64 0] 58 0 true true)
  have vm_7 := (a7.2 S.next (by omega)).trans vm_6
  have vx_7 := (a7.2 S1.next (by omega)).trans vx_6
  have vy_7 := (a7.2 S2.next (by omega)).trans vy_6
  have vw_7 := (a7.2 S3.next (by omega)).trans vw_6
  have vi_7 := (a7.2 S4.next (by omega)).trans vi_6
  have g7 : Agree S S7 := g6.trans a7
  obtain ⟨S8, k8, n8, b8, o8⟩ := st_open (vs := [.int .i64 u1, .int .i64 u2, .int .i64 u3, .int .i64 u4, .int .i64 u5]) sz58 b7 rfl rfl rfl
  have vm_8 := (o8 S.next (by omega)).trans vm_7
  have vx_8 := (o8 S1.next (by omega)).trans vx_7
  have vy_8 := (o8 S2.next (by omega)).trans vy_7
  have vw_8 := (o8 S3.next (by omega)).trans vw_7
  have vi_8 := (o8 S4.next (by omega)).trans vi_7
  have g8 : Agree S S8 := ⟨by have := g7.1; omega, fun id hid => (o8 id (by omega)).trans (g7.2 id hid)⟩
  obtain ⟨v1, v2, v3, v4, v5, v6, hv⟩ := strikeV_is i1 t1 p1 at_ mi di sh f s l
  obtain ⟨S9, k9, a9⟩ := c51 i1 t1 p1 at_ mi di sh f s l S8
  have l9 := a9.1
  have s9 : E0.same S8 S9 = true := symEnv_same a9
  have vm_9 := (a9.2 S.next (by omega)).trans vm_8
  have vx_9 := (a9.2 S1.next (by omega)).trans vx_8
  have vy_9 := (a9.2 S2.next (by omega)).trans vy_8
  have vw_9 := (a9.2 S3.next (by omega)).trans vw_8
  have vi_9 := (a9.2 S4.next (by omega)).trans vi_8
  have vp_9 := (a9.2 S6.next (by omega)).trans b8
  have g9 : Agree S S9 := g8.trans a9
  rw [hv] at k9
  obtain ⟨S10, e10, n10, b10, a10⟩ := push_open S9 (.cells [.int .i64 0, .int .i64 0, .int .i64 0, .int .i64 0, .int .i64 0] 58 0 true true)
  have vm_10 := (a10.2 S.next (by omega)).trans vm_9
  have vx_10 := (a10.2 S1.next (by omega)).trans vx_9
  have vy_10 := (a10.2 S2.next (by omega)).trans vy_9
  have vw_10 := (a10.2 S3.next (by omega)).trans vw_9
  have vi_10 := (a10.2 S4.next (by omega)).trans vi_9
  have vp_10 := (a10.2 S6.next (by omega)).trans vp_9
  have g10 : Agree S S10 := g9.trans a10
  obtain ⟨S11, k11, n11, b11, o11⟩ := st_open (vs := [.int .i64 v1, .int .i64 v2, .int .i64 v3, .int .i64 v4, .int .i64 v5]) sz58 b10 rfl rfl rfl
  have vm_11 := (o11 S.next (by omega)).trans vm_10
  have vx_11 := (o11 S1.next (by omega)).trans vx_10
  have vy_11 := (o11 S2.next (by omega)).trans vy_10
  have vw_11 := (o11 S3.next (by omega)).trans vw_10
  have vi_11 := (o11 S4.next (by omega)).trans vi_10
  have vp_11 := (o11 S6.next (by omega)).trans vp_10
  have g11 : Agree S S11 := ⟨by have := g10.1; omega, fun id hid => (o11 id (by omega)).trans (g10.2 id hid)⟩
  obtain ⟨w1, w2, w3, w4, w5, w6, hw⟩ := twiceV_is i1 t1 p1 i2 t2 p2 at_ ap mi di sh f s l
  obtain ⟨S12, k12, a12⟩ := c52 i1 t1 p1 i2 t2 p2 at_ ap mi di sh f s l S11
  have l12 := a12.1
  have s12 : E0.same S11 S12 = true := symEnv_same a12
  have vm_12 := (a12.2 S.next (by omega)).trans vm_11
  have vx_12 := (a12.2 S1.next (by omega)).trans vx_11
  have vy_12 := (a12.2 S2.next (by omega)).trans vy_11
  have vw_12 := (a12.2 S3.next (by omega)).trans vw_11
  have vi_12 := (a12.2 S4.next (by omega)).trans vi_11
  have vp_12 := (a12.2 S6.next (by omega)).trans vp_11
  have vq_12 := (a12.2 S9.next (by omega)).trans b11
  have g12 : Agree S S12 := g11.trans a12
  rw [hw] at k12
  obtain ⟨S13, e13, n13, b13, a13⟩ := push_open S12 (.cells [.int .i64 0, .int .i64 0, .int .i64 0, .int .i64 0, .int .i64 0] 58 0 true true)
  have vm_13 := (a13.2 S.next (by omega)).trans vm_12
  have vx_13 := (a13.2 S1.next (by omega)).trans vx_12
  have vy_13 := (a13.2 S2.next (by omega)).trans vy_12
  have vw_13 := (a13.2 S3.next (by omega)).trans vw_12
  have vi_13 := (a13.2 S4.next (by omega)).trans vi_12
  have vp_13 := (a13.2 S6.next (by omega)).trans vp_12
  have vq_13 := (a13.2 S9.next (by omega)).trans vq_12
  have g13 : Agree S S13 := g12.trans a13
  obtain ⟨S14, k14, n14, b14, o14⟩ := st_open (vs := [.int .i64 w1, .int .i64 w2, .int .i64 w3, .int .i64 w4, .int .i64 w5]) sz58 b13 rfl rfl rfl
  have vm_14 := (o14 S.next (by omega)).trans vm_13
  have vx_14 := (o14 S1.next (by omega)).trans vx_13
  have vy_14 := (o14 S2.next (by omega)).trans vy_13
  have vw_14 := (o14 S3.next (by omega)).trans vw_13
  have vi_14 := (o14 S4.next (by omega)).trans vi_13
  have vp_14 := (o14 S6.next (by omega)).trans vp_13
  have vq_14 := (o14 S9.next (by omega)).trans vq_13
  have g14 : Agree S S14 := ⟨by have := g13.1; omega, fun id hid => (o14 id (by omega)).trans (g13.2 id hid)⟩
  obtain ⟨z1, z2, z3, z4, z5, z6, hz⟩ := twiceV_is i1 t1 p1 i2 t2 p2 at_ ap mi di sh f s l
  obtain ⟨S15, k15, a15⟩ := c53 i1 t1 p1 i2 t2 p2 at_ ap mi di sh f s l S14
  have l15 := a15.1
  have s15 : E0.same S14 S15 = true := symEnv_same a15
  have vm_15 := (a15.2 S.next (by omega)).trans vm_14
  have vx_15 := (a15.2 S1.next (by omega)).trans vx_14
  have vy_15 := (a15.2 S2.next (by omega)).trans vy_14
  have vw_15 := (a15.2 S3.next (by omega)).trans vw_14
  have vi_15 := (a15.2 S4.next (by omega)).trans vi_14
  have vp_15 := (a15.2 S6.next (by omega)).trans vp_14
  have vq_15 := (a15.2 S9.next (by omega)).trans vq_14
  have vr_15 := (a15.2 S12.next (by omega)).trans b14
  have g15 : Agree S S15 := g14.trans a15
  rw [hz] at k15
  obtain ⟨S16, e16, n16, b16, a16⟩ := push_open S15 (.cells [.int .i64 0, .int .i64 0, .int .i64 0, .int .i64 0, .int .i64 0] 58 0 true true)
  have vm_16 := (a16.2 S.next (by omega)).trans vm_15
  have vx_16 := (a16.2 S1.next (by omega)).trans vx_15
  have vy_16 := (a16.2 S2.next (by omega)).trans vy_15
  have vw_16 := (a16.2 S3.next (by omega)).trans vw_15
  have vi_16 := (a16.2 S4.next (by omega)).trans vi_15
  have vp_16 := (a16.2 S6.next (by omega)).trans vp_15
  have vq_16 := (a16.2 S9.next (by omega)).trans vq_15
  have vr_16 := (a16.2 S12.next (by omega)).trans vr_15
  have g16 : Agree S S16 := g15.trans a16
  obtain ⟨S17, k17, n17, b17, o17⟩ := st_open (vs := [.int .i64 z1, .int .i64 z2, .int .i64 z3, .int .i64 z4, .int .i64 z5]) sz58 b16 rfl rfl rfl
  have vm_17 := (o17 S.next (by omega)).trans vm_16
  have vx_17 := (o17 S1.next (by omega)).trans vx_16
  have vy_17 := (o17 S2.next (by omega)).trans vy_16
  have vw_17 := (o17 S3.next (by omega)).trans vw_16
  have vi_17 := (o17 S4.next (by omega)).trans vi_16
  have vp_17 := (o17 S6.next (by omega)).trans vp_16
  have vq_17 := (o17 S9.next (by omega)).trans vq_16
  have vr_17 := (o17 S12.next (by omega)).trans vr_16
  have g17 : Agree S S17 := ⟨by have := g16.1; omega, fun id hid => (o17 id (by omega)).trans (g16.2 id hid)⟩
  obtain ⟨S18, k18, a18⟩ := c54 a b c d e S17 (ht.agree g17)
  have l18 := a18.1
  have s18 : E0.same S17 S18 = true := symEnv_same a18
  have vm_18 := (a18.2 S.next (by omega)).trans vm_17
  have vx_18 := (a18.2 S1.next (by omega)).trans vx_17
  have vy_18 := (a18.2 S2.next (by omega)).trans vy_17
  have vw_18 := (a18.2 S3.next (by omega)).trans vw_17
  have vi_18 := (a18.2 S4.next (by omega)).trans vi_17
  have vp_18 := (a18.2 S6.next (by omega)).trans vp_17
  have vq_18 := (a18.2 S9.next (by omega)).trans vq_17
  have vr_18 := (a18.2 S12.next (by omega)).trans vr_17
  have vt_18 := (a18.2 S15.next (by omega)).trans b17
  have g18 : Agree S S18 := g17.trans a18
  obtain ⟨S19, k19, a19⟩ := c43 a b c d e S18
  have l19 := a19.1
  have s19 : E0.same S18 S19 = true := symEnv_same a19
  have vm_19 := (a19.2 S.next (by omega)).trans vm_18
  have vx_19 := (a19.2 S1.next (by omega)).trans vx_18
  have vy_19 := (a19.2 S2.next (by omega)).trans vy_18
  have vw_19 := (a19.2 S3.next (by omega)).trans vw_18
  have vi_19 := (a19.2 S4.next (by omega)).trans vi_18
  have vp_19 := (a19.2 S6.next (by omega)).trans vp_18
  have vq_19 := (a19.2 S9.next (by omega)).trans vq_18
  have vr_19 := (a19.2 S12.next (by omega)).trans vr_18
  have vt_19 := (a19.2 S15.next (by omega)).trans vt_18
  have g19 : Agree S S19 := g18.trans a19
  have q1 : Value.tuple #[.agg #[.int .i64 u1, .int .i64 u2, .int .i64 u3, .int .i64 u4, .int .i64 u5], .int .i64 u6] = .tuple #[.agg #[.int .i64 v1, .int .i64 v2, .int .i64 v3, .int .i64 v4, .int .i64 v5], .int .i64 v6] := hu.symm.trans hv
  have q2 : Value.tuple #[.agg #[.int .i64 w1, .int .i64 w2, .int .i64 w3, .int .i64 w4, .int .i64 w5], .int .i64 w6] = .tuple #[.agg #[.int .i64 z1, .int .i64 z2, .int .i64 z3, .int .i64 z4, .int .i64 z5], .int .i64 z6] := hw.symm.trans hz
  injection q1 with q1
  injection q2 with q2
  simp only [Array.mk.injEq, List.cons.injEq, Value.agg.injEq, Value.int.injEq, and_true, true_and] at q1 q2
  obtain ⟨⟨r1, r2, r3, r4, r5⟩, r6⟩ := q1
  obtain ⟨⟨x1, x2, x3, x4, x5⟩, x6⟩ := q2
  subst r1 r2 r3 r4 r5 r6 x1 x2 x3 x4 x5 x6
  generalize hr : (evL Tryz.prog E0).call 8 _ _ = res
  rw [L_call, evCall_said rfl Tryz.func8 rfl (by decide) Tryz.ntmps8 Tryz.results8] at hr
  by_cases hM : MarkOk a b c d e
  · simp only [errV_pos hM, decide_eq_true hM] at k19 k18
    simp (disch := first | omega | assumption) only [E0_G, List.size_toArray, List.length_cons, List.length_nil, setArgs, start_list, code_seq, code_region, code_cond, code_ret, code_skip, code_exit, code_label, code_block, code_loop, leave_normal, leave_ret, leave_exit, leave_ite,
    andThen_normal, andThen_ret, andThen_exit, andThen_ite, behind_some, behind_ite, List.map_cons, List.map_nil, run_nil, run_cons, run_guarded, guardV_some, guard_tt, guard_tf, guard_ft, guard_ff, guard_undef, store_off, off, callKind, Bool.and_false, Bool.false_and, Bool.and_true, Bool.true_and,
    op_assign, op_move, op_pick, pickV_true, pickV_false,  op_bin, op_box, op_load, op_store, op_field, op_fieldAddr, op_index, op_indexAddr, op_extract, op_call, called_some, op_not, op_neg, op_min, op_max, op_min3, op_convert, convV_int, op_build, partVals,  vals, val_tmp, val_int, val_bool, val_str, val_nilSlice, val_nilFunc, val_func, val_global,
    put_some, put_none, get_sel, T.get_lf, Option.map_some, Option.map_none, Option.bind_some, Option.bind_none, firstOf_some, Nat.reduceAdd, Nat.reduceSub, Nat.reduceMul, Nat.reduceLT, Nat.reduceEqDiff, Nat.reduceBEq, cond_yes, cond_no, if_true, if_false, reduceIte, sel_true, sel_false, decide_true, decide_false, Bool.not_true, Bool.not_false,
    bin_add, bin_sub, bin_mul, bin_quo, bin_rem, bin_and, bin_or, bin_xor, bin_andNot, bin_eql, bin_neq, bin_lss, bin_leq, bin_gtr, bin_geq, bin_shl, bin_shr, bin_eqlAgg, bin_neqAgg, bin_eqlBool, bin_neqBool, boolV?_bool, eq_self,  ne_eq, Int.reduceEq, Int.reduceLT, Int.reduceLE, not_false_eq_true, handed_ret, handed_normal, handed_ite, results_nil, results_t, results_c, consV_some, op_alloc, allocV,
    next_push, next_upd, push_eq, push_ne, upd_eq, upd_ne, cell_at, cellOf_cells, put_at, putOf_cells, boxed, ldA, rdCells,  oneB, aggD, aField, aFieldV, addr_add, cells_agg, cells_int, cells_bool, cells_string, cells_pointer, cells_slice, cells_func, List.getElem?_cons_zero, List.getElem?_cons_succ, List.getElem?_toArray, List.set_cons_zero, List.set_cons_succ, List.toList_toArray, Nat.zero_add, Nat.add_zero, reduceCtorEq, inTab58, zero58, aExtract, c15, eqMark, beq_self_eq_true, vm_5, vx_5, vy_5, vw_5, b5, k6, vm_6, vx_6, vy_6, vw_6, vi_6, k8, vm_8, vx_8, vy_8, vw_8, vi_8, k9, vm_9, vx_9, vy_9, vw_9, vi_9, k11, vm_11, vx_11, vy_11, vw_11, vi_11, k12, vm_12, vx_12, vy_12, vw_12, vi_12, k14, vm_14, vx_14, vy_14, vw_14, vi_14, k15, vm_15, vx_15, vy_15, vw_15, vi_15, k17, vm_17, vx_17, vy_17, vw_17, vi_17, k18, vm_18, vp_18, vq_18, vr_18, vt_18, k19, vm_19, vp_19, vq_19, vr_19, vt_19, e1, e2, e3, e4, e5, e7, e10, e13, e16, Tryz.underlying52, Tryz.underlying68, Tryz.underlying58, Tryz.underlying45, Tryz.underlying25, Tryz.underlying4, Tryz.underlying3, sz52, sz68, sz58, sz45, sz3] at hr
    exact fin hr rfl g19
  · simp only [errV_neg hM, decide_eq_false hM] at k19 k18
    simp (disch := first | omega | assumption) only [E0_G, List.size_toArray, List.length_cons, List.length_nil, setArgs, start_list, code_seq, code_region, code_cond, code_ret, code_skip, code_exit, code_label, code_block, code_loop, leave_normal, leave_ret, leave_exit, leave_ite,
    andThen_normal, andThen_ret, andThen_exit, andThen_ite, behind_some, behind_ite, List.map_cons, List.map_nil, run_nil, run_cons, run_guarded, guardV_some, guard_tt, guard_tf, guard_ft, guard_ff, guard_undef, store_off, off, callKind, Bool.and_false, Bool.false_and, Bool.and_true, Bool.true_and,
    op_assign, op_move, op_pick, pickV_true, pickV_false,  op_bin, op_box, op_load, op_store, op_field, op_fieldAddr, op_index, op_indexAddr, op_extract, op_call, called_some, op_not, op_neg, op_min, op_max, op_min3, op_convert, convV_int, op_build, partVals,  vals, val_tmp, val_int, val_bool, val_str, val_nilSlice, val_nilFunc, val_func, val_global,
    put_some, put_none, get_sel, T.get_lf, Option.map_some, Option.map_none, Option.bind_some, Option.bind_none, firstOf_some, Nat.reduceAdd, Nat.reduceSub, Nat.reduceMul, Nat.reduceLT, Nat.reduceEqDiff, Nat.reduceBEq, cond_yes, cond_no, if_true, if_false, reduceIte, sel_true, sel_false, decide_true, decide_false, Bool.not_true, Bool.not_false,
    bin_add, bin_sub, bin_mul, bin_quo, bin_rem, bin_and, bin_or, bin_xor, bin_andNot, bin_eql, bin_neq, bin_lss, bin_leq, bin_gtr, bin_geq, bin_shl, bin_shr, bin_eqlAgg, bin_neqAgg, bin_eqlBool, bin_neqBool, boolV?_bool, eq_self,  ne_eq, Int.reduceEq, Int.reduceLT, Int.reduceLE, not_false_eq_true, handed_ret, handed_normal, handed_ite, results_nil, results_t, results_c, consV_some, op_alloc, allocV,
    next_push, next_upd, push_eq, push_ne, upd_eq, upd_ne, cell_at, cellOf_cells, put_at, putOf_cells, boxed, ldA, rdCells,  oneB, aggD, aField, aFieldV, addr_add, cells_agg, cells_int, cells_bool, cells_string, cells_pointer, cells_slice, cells_func, List.getElem?_cons_zero, List.getElem?_cons_succ, List.getElem?_toArray, List.set_cons_zero, List.set_cons_succ, List.toList_toArray, Nat.zero_add, Nat.add_zero, reduceCtorEq, inTab58, zero58, aExtract, c15, eqMark, beq_self_eq_true, vm_5, vx_5, vy_5, vw_5, b5, k6, vm_6, vx_6, vy_6, vw_6, vi_6, k8, vm_8, vx_8, vy_8, vw_8, vi_8, k9, vm_9, vx_9, vy_9, vw_9, vi_9, k11, vm_11, vx_11, vy_11, vw_11, vi_11, k12, vm_12, vx_12, vy_12, vw_12, vi_12, k14, vm_14, vx_14, vy_14, vw_14, vi_14, k15, vm_15, vx_15, vy_15, vw_15, vi_15, k17, vm_17, vx_17, vy_17, vw_17, vi_17, k18, vm_18, vp_18, vq_18, vr_18, vt_18, k19, vm_19, vp_19, vq_19, vr_19, vt_19, e1, e2, e3, e4, e5, e7, e10, e13, e16, Tryz.underlying52, Tryz.underlying68, Tryz.underlying58, Tryz.underlying45, Tryz.underlying25, Tryz.underlying4, Tryz.underlying3, sz52, sz68, sz58, sz45, sz3] at hr
    exact fin hr rfl g19
end Great
end Go.Proofs
