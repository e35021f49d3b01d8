/-
  The great seat of stage 1 at c2f8ee9: Witness, and its law.
-/
import Derived.Test.YtecfjfhcoffhfaaGreatDoorEvZ7
import Derived.Test.YtecfjfhcoffhfaaGreatDoorEvZ10
set_option linter.unusedSimpArgs false
set_option linter.unusedVariables false
namespace Go.Proofs
namespace Great
open Go Go.RowKit Go.Aev
set_option maxRecDepth 100000
theorem rest_val (s : BitVec 12) : notV 4095 (val s) = val (4095#12 &&& ~~~s) := not_val 4095#12 s
set_option maxHeartbeats 1000000 in
theorem c40_no (i1 t1 p1 i2 t2 p2 f s l : Int) (hC : ¬ Conf i1 t1 p1 i2 t2 p2 f s l) (S : AS) : ∃ S', (evL Tryz.prog E0).call 40 #[.agg #[.int .i64 i1, .int .i64 t1, .int .i64 p1], .agg #[.int .i64 i2, .int .i64 t2, .int .i64 p2], .agg #[.int .i64 f, .int .i64 s, .int .i64 l]] S = some (.tuple #[.agg #[.int .i64 0, .int .i64 0, .int .i64 0, .int .i64 0, .int .i64 0], .bool false], S') ∧ Agree S S' := by
  obtain ⟨S1, e1, n1, b1, a1⟩ := push_open S (.cells [.int .i64 i1, .int .i64 t1, .int .i64 p1] 52 0 true true)
  have g1 : Agree S S1 := a1
  obtain ⟨S2, e2, n2, b2, a2⟩ := push_open S1 (.cells [.int .i64 i2, .int .i64 t2, .int .i64 p2] 52 0 true true)
  have vx_2 := (a2.2 S.next (by omega)).trans b1
  have g2 : Agree S S2 := g1.trans a2
  obtain ⟨S3, e3, n3, b3, a3⟩ := push_open S2 (.cells [.int .i64 f, .int .i64 s, .int .i64 l] 45 0 true true)
  have vx_3 := (a3.2 S.next (by omega)).trans vx_2
  have vy_3 := (a3.2 S1.next (by omega)).trans b2
  have g3 : Agree S S3 := g2.trans a3
  obtain ⟨S4, e4, n4, b4, a4⟩ := push_open S3 (.cells [.int .i64 0, .int .i64 0, .int .i64 0, .int .i64 0, .int .i64 0] 58 0 true true)
  have vx_4 := (a4.2 S.next (by omega)).trans vx_3
  have vy_4 := (a4.2 S1.next (by omega)).trans vy_3
  have vi_4 := (a4.2 S2.next (by omega)).trans b3
  have g4 : Agree S S4 := g3.trans a4
  obtain ⟨S5, k5, a5⟩ := c42 i1 t1 p1 i2 t2 p2 f s l S4
  have l5 := a5.1
  have s5 : E0.same S4 S5 = true := symEnv_same a5
  have vx_5 := (a5.2 S.next (by omega)).trans vx_4
  have vy_5 := (a5.2 S1.next (by omega)).trans vy_4
  have vi_5 := (a5.2 S2.next (by omega)).trans vi_4
  have vm_5 := (a5.2 S3.next (by omega)).trans b4
  have g5 : Agree S S5 := g4.trans a5
  rw [decide_eq_false hC] at k5
  obtain ⟨S6, k6, n6, b6, o6⟩ := st_open (vs := [.int .i64 0, .int .i64 0, .int .i64 0, .int .i64 0, .int .i64 0]) sz58 vm_5 rfl rfl rfl
  have vx_6 := (o6 S.next (by omega)).trans vx_5
  have vy_6 := (o6 S1.next (by omega)).trans vy_5
  have vi_6 := (o6 S2.next (by omega)).trans vi_5
  have g6 : Agree S S6 := ⟨by have := g5.1; omega, fun id hid => (o6 id (by omega)).trans (g5.2 id hid)⟩
  generalize hz : (evL Tryz.prog E0).call 40 _ _ = z
  rw [L_call, evCall_said rfl Tryz.func40 rfl (by decide) Tryz.ntmps40 Tryz.results40] at hz
  simp (disch := first | omega | assumption) only [E0_G, List.size_toArray, List.length_cons, List.length_nil, setArgs, start_list, code_seq, code_region, code_cond, code_ret, code_skip, code_exit, code_label, code_block, code_loop, leave_normal, leave_ret, leave_exit, leave_ite,
    andThen_normal, andThen_ret, andThen_exit, andThen_ite, behind_some, behind_ite, List.map_cons, List.map_nil, run_nil, run_cons, run_guarded, guardV_some, guard_tt, guard_tf, guard_ft, guard_ff, guard_undef, store_off, off, callKind, Bool.and_false, Bool.false_and, Bool.and_true, Bool.true_and,
    op_assign, op_move, op_pick, pickV_true, pickV_false,  op_bin, op_box, op_load, op_store, op_field, op_fieldAddr, op_index, op_indexAddr, op_extract, op_call, called_some, op_not, op_neg, op_min, op_max, op_min3, op_convert, convV_int, op_build, partVals,  vals, val_tmp, val_int, val_bool, val_str, val_nilSlice, val_nilFunc, val_func, val_global,
    put_some, put_none, get_sel, T.get_lf, Option.map_some, Option.map_none, Option.bind_some, Option.bind_none, firstOf_some, Nat.reduceAdd, Nat.reduceSub, Nat.reduceMul, Nat.reduceLT, Nat.reduceEqDiff, Nat.reduceBEq, cond_yes, cond_no, if_true, if_false, reduceIte, sel_true, sel_false, decide_true, decide_false, Bool.not_true, Bool.not_false,
    bin_add, bin_sub, bin_mul, bin_quo, bin_rem, bin_and, bin_or, bin_xor, bin_andNot, bin_eql, bin_neq, bin_lss, bin_leq, bin_gtr, bin_geq, bin_shl, bin_shr, bin_eqlAgg, bin_neqAgg, bin_eqlBool, bin_neqBool, boolV?_bool, eq_self,  ne_eq, Int.reduceEq, Int.reduceLT, Int.reduceLE, not_false_eq_true, handed_ret, handed_normal, handed_ite, results_nil, results_t, results_c, consV_some, op_alloc, allocV,
    next_push, next_upd, push_eq, push_ne, upd_eq, upd_ne, cell_at, cellOf_cells, put_at, putOf_cells, boxed, ldA, rdCells,  oneB, aggD, aField, aFieldV, addr_add, cells_agg, cells_int, cells_bool, cells_string, cells_pointer, cells_slice, cells_func, List.getElem?_cons_zero, List.getElem?_cons_succ, List.getElem?_toArray, List.set_cons_zero, List.set_cons_succ, List.toList_toArray, Nat.zero_add, Nat.add_zero, reduceCtorEq, aExtract, inTab125, inTab123, inTab52, inTab58, zero125, zero123, zero52, zero58, newPair, newKeys, arc00, noMark, ixA0, ixA1, ixV0, ixV1, ixK0, ixK1, w01, w12, and_fold, or_fold, not_fold, and_val, or_val, not_val, vx_4, vy_4, vi_4, b4, k5, vx_5, vy_5, vi_5, vm_5, k6, b6, e1, e2, e3, e4, Tryz.underlying52, Tryz.underlying56, Tryz.underlying58, Tryz.underlying45, Tryz.underlying25, Tryz.underlying4, Tryz.underlying3, Tryz.underlying125, Tryz.underlying123, sz52, sz56, sz58, sz45, sz3, sz125, sz123] at hz
  exact fin hz rfl g6
set_option maxHeartbeats 1000000 in
theorem c40_yes (i1 t1 i2 t2 f l : Int) (u v : BitVec 12) (n : Nat) (hn : n ≤ 12) (hC : Conf i1 t1 (val u) i2 t2 (val v) f (n : Int) l) (S : AS) : ∃ S', (evL Tryz.prog E0).call 40 #[.agg #[.int .i64 i1, .int .i64 t1, .int .i64 (val u)], .agg #[.int .i64 i2, .int .i64 t2, .int .i64 (val v)], .agg #[.int .i64 f, .int .i64 (n : Int), .int .i64 l]] S = some (.tuple #[.agg #[.int .i64 0, .int .i64 0, .int .i64 t1, .int .i64 (val (seenB u v n)), .int .i64 (val (4095#12 &&& ~~~(seenB u v n)))], .bool true], S') ∧ Agree S S' := by
  obtain ⟨S1, e1, n1, b1, a1⟩ := push_open S (.cells [.int .i64 i1, .int .i64 t1, .int .i64 (val u)] 52 0 true true)
  have g1 : Agree S S1 := a1
  obtain ⟨S2, e2, n2, b2, a2⟩ := push_open S1 (.cells [.int .i64 i2, .int .i64 t2, .int .i64 (val v)] 52 0 true true)
  have vx_2 := (a2.2 S.next (by omega)).trans b1
  have g2 : Agree S S2 := g1.trans a2
  obtain ⟨S3, e3, n3, b3, a3⟩ := push_open S2 (.cells [.int .i64 f, .int .i64 (n : Int), .int .i64 l] 45 0 true true)
  have vx_3 := (a3.2 S.next (by omega)).trans vx_2
  have vy_3 := (a3.2 S1.next (by omega)).trans b2
  have g3 : Agree S S3 := g2.trans a3
  obtain ⟨S4, e4, n4, b4, a4⟩ := push_open S3 (.cells [.int .i64 0, .int .i64 0, .int .i64 0, .int .i64 0, .int .i64 0] 58 0 true true)
  have vx_4 := (a4.2 S.next (by omega)).trans vx_3
  have vy_4 := (a4.2 S1.next (by omega)).trans vy_3
  have vi_4 := (a4.2 S2.next (by omega)).trans b3
  have g4 : Agree S S4 := g3.trans a4
  obtain ⟨S5, k5, a5⟩ := c42 i1 t1 (val u) i2 t2 (val v) f (n : Int) l S4
  have l5 := a5.1
  have s5 : E0.same S4 S5 = true := symEnv_same a5
  have vx_5 := (a5.2 S.next (by omega)).trans vx_4
  have vy_5 := (a5.2 S1.next (by omega)).trans vy_4
  have vi_5 := (a5.2 S2.next (by omega)).trans vi_4
  have vm_5 := (a5.2 S3.next (by omega)).trans b4
  have g5 : Agree S S5 := g4.trans a5
  rw [decide_eq_true hC] at k5
  obtain ⟨S6, k6, a6⟩ := c102 i1 t1 (val u) i2 t2 (val v) S5
  have l6 := a6.1
  have s6 : E0.same S5 S6 = true := symEnv_same a6
  have vx_6 := (a6.2 S.next (by omega)).trans vx_5
  have vy_6 := (a6.2 S1.next (by omega)).trans vy_5
  have vi_6 := (a6.2 S2.next (by omega)).trans vi_5
  have vm_6 := (a6.2 S3.next (by omega)).trans vm_5
  have g6 : Agree S S6 := g5.trans a6
  rw [own_eq (val_range u) (val_range v), and_comm (val u) (val v), own_eq (val_range v) (val_range u), not_val, not_val] at k6
  obtain ⟨S7, k7, a7⟩ := c104 0 0 t1 (val (seenB u v n)) S6
  have l7 := a7.1
  have s7 : E0.same S6 S7 = true := symEnv_same a7
  have vx_7 := (a7.2 S.next (by omega)).trans vx_6
  have vy_7 := (a7.2 S1.next (by omega)).trans vy_6
  have vi_7 := (a7.2 S2.next (by omega)).trans vi_6
  have vm_7 := (a7.2 S3.next (by omega)).trans vm_6
  have g7 : Agree S S7 := g6.trans a7
  rw [rest_val] at k7
  obtain ⟨S8, k8, n8, b8, o8⟩ := st_open (vs := [.int .i64 0, .int .i64 0, .int .i64 t1, .int .i64 (val (seenB u v n)), .int .i64 (val (4095#12 &&& ~~~(seenB u v n)))]) sz58 vm_7 rfl rfl rfl
  have vx_8 := (o8 S.next (by omega)).trans vx_7
  have vy_8 := (o8 S1.next (by omega)).trans vy_7
  have vi_8 := (o8 S2.next (by omega)).trans vi_7
  have g8 : Agree S S8 := ⟨by have := g7.1; omega, fun id hid => (o8 id (by omega)).trans (g7.2 id hid)⟩
  generalize hz : (evL Tryz.prog E0).call 40 _ _ = z
  rw [L_call, evCall_said rfl Tryz.func40 rfl (by decide) Tryz.ntmps40 Tryz.results40] at hz
  simp (disch := first | omega | assumption) only [E0_G, List.size_toArray, List.length_cons, List.length_nil, setArgs, start_list, code_seq, code_region, code_cond, code_ret, code_skip, code_exit, code_label, code_block, code_loop, leave_normal, leave_ret, leave_exit, leave_ite,
    andThen_normal, andThen_ret, andThen_exit, andThen_ite, behind_some, behind_ite, List.map_cons, List.map_nil, run_nil, run_cons, run_guarded, guardV_some, guard_tt, guard_tf, guard_ft, guard_ff, guard_undef, store_off, off, callKind, Bool.and_false, Bool.false_and, Bool.and_true, Bool.true_and,
    op_assign, op_move, op_pick, pickV_true, pickV_false,  op_bin, op_box, op_load, op_store, op_field, op_fieldAddr, op_index, op_indexAddr, op_extract, op_call, called_some, op_not, op_neg, op_min, op_max, op_min3, op_convert, convV_int, op_build, partVals,  vals, val_tmp, val_int, val_bool, val_str, val_nilSlice, val_nilFunc, val_func, val_global,
    put_some, put_none, get_sel, T.get_lf, Option.map_some, Option.map_none, Option.bind_some, Option.bind_none, firstOf_some, Nat.reduceAdd, Nat.reduceSub, Nat.reduceMul, Nat.reduceLT, Nat.reduceEqDiff, Nat.reduceBEq, cond_yes, cond_no, if_true, if_false, reduceIte, sel_true, sel_false, decide_true, decide_false, Bool.not_true, Bool.not_false,
    bin_add, bin_sub, bin_mul, bin_quo, bin_rem, bin_and, bin_or, bin_xor, bin_andNot, bin_eql, bin_neq, bin_lss, bin_leq, bin_gtr, bin_geq, bin_shl, bin_shr, bin_eqlAgg, bin_neqAgg, bin_eqlBool, bin_neqBool, boolV?_bool, eq_self,  ne_eq, Int.reduceEq, Int.reduceLT, Int.reduceLE, not_false_eq_true, handed_ret, handed_normal, handed_ite, results_nil, results_t, results_c, consV_some, op_alloc, allocV,
    next_push, next_upd, push_eq, push_ne, upd_eq, upd_ne, cell_at, cellOf_cells, put_at, putOf_cells, boxed, ldA, rdCells,  oneB, aggD, aField, aFieldV, addr_add, cells_agg, cells_int, cells_bool, cells_string, cells_pointer, cells_slice, cells_func, List.getElem?_cons_zero, List.getElem?_cons_succ, List.getElem?_toArray, List.set_cons_zero, List.set_cons_succ, List.toList_toArray, Nat.zero_add, Nat.add_zero, reduceCtorEq, aExtract, inTab125, inTab123, inTab52, inTab58, zero125, zero123, zero52, zero58, newPair, newKeys, arc00, noMark, ixA0, ixA1, ixV0, ixV1, ixK0, ixK1, w01, w12, and_fold, or_fold, not_fold, and_val, or_val, not_val, c103 _ n hn, vx_4, vy_4, vi_4, b4, k5, vx_5, vy_5, vi_5, vm_5, k6, vx_6, vy_6, vi_6, vm_6, k7, vx_7, vy_7, vi_7, vm_7, k8, b8, e1, e2, e3, e4, Tryz.underlying52, Tryz.underlying56, Tryz.underlying58, Tryz.underlying45, Tryz.underlying25, Tryz.underlying4, Tryz.underlying3, Tryz.underlying125, Tryz.underlying123, sz52, sz56, sz58, sz45, sz3, sz125, sz123] at hz
  rw [L_loop_step] at hz
  simp (disch := first | omega | assumption) only [E0_G, List.size_toArray, List.length_cons, List.length_nil, setArgs, start_list, code_seq, code_region, code_cond, code_ret, code_skip, code_exit, code_label, code_block, code_loop, leave_normal, leave_ret, leave_exit, leave_ite,
    andThen_normal, andThen_ret, andThen_exit, andThen_ite, behind_some, behind_ite, List.map_cons, List.map_nil, run_nil, run_cons, run_guarded, guardV_some, guard_tt, guard_tf, guard_ft, guard_ff, guard_undef, store_off, off, callKind, Bool.and_false, Bool.false_and, Bool.and_true, Bool.true_and,
    op_assign, op_move, op_pick, pickV_true, pickV_false,  op_bin, op_box, op_load, op_store, op_field, op_fieldAddr, op_index, op_indexAddr, op_extract, op_call, called_some, op_not, op_neg, op_min, op_max, op_min3, op_convert, convV_int, op_build, partVals,  vals, val_tmp, val_int, val_bool, val_str, val_nilSlice, val_nilFunc, val_func, val_global,
    put_some, put_none, get_sel, T.get_lf, Option.map_some, Option.map_none, Option.bind_some, Option.bind_none, firstOf_some, Nat.reduceAdd, Nat.reduceSub, Nat.reduceMul, Nat.reduceLT, Nat.reduceEqDiff, Nat.reduceBEq, cond_yes, cond_no, if_true, if_false, reduceIte, sel_true, sel_false, decide_true, decide_false, Bool.not_true, Bool.not_false,
    bin_add, bin_sub, bin_mul, bin_quo, bin_rem, bin_and, bin_or, bin_xor, bin_andNot, bin_eql, bin_neq, bin_lss, bin_leq, bin_gtr, bin_geq, bin_shl, bin_shr, bin_eqlAgg, bin_neqAgg, bin_eqlBool, bin_neqBool, boolV?_bool, eq_self,  ne_eq, Int.reduceEq, Int.reduceLT, Int.reduceLE, not_false_eq_true, handed_ret, handed_normal, handed_ite, results_nil, results_t, results_c, consV_some, op_alloc, allocV,
    next_push, next_upd, push_eq, push_ne, upd_eq, upd_ne, cell_at, cellOf_cells, put_at, putOf_cells, boxed, ldA, rdCells,  oneB, aggD, aField, aFieldV, addr_add, cells_agg, cells_int, cells_bool, cells_string, cells_pointer, cells_slice, cells_func, List.getElem?_cons_zero, List.getElem?_cons_succ, List.getElem?_toArray, List.set_cons_zero, List.set_cons_succ, List.toList_toArray, Nat.zero_add, Nat.add_zero, reduceCtorEq, aExtract, inTab125, inTab123, inTab52, inTab58, zero125, zero123, zero52, zero58, newPair, newKeys, arc00, noMark, ixA0, ixA1, ixV0, ixV1, ixK0, ixK1, w01, w12, and_fold, or_fold, not_fold, and_val, or_val, not_val, c103 _ n hn, vx_4, vy_4, vi_4, b4, k5, vx_5, vy_5, vi_5, vm_5, k6, vx_6, vy_6, vi_6, vm_6, k7, vx_7, vy_7, vi_7, vm_7, k8, b8, e1, e2, e3, e4, Tryz.underlying52, Tryz.underlying56, Tryz.underlying58, Tryz.underlying45, Tryz.underlying25, Tryz.underlying4, Tryz.underlying3, Tryz.underlying125, Tryz.underlying123, sz52, sz56, sz58, sz45, sz3, sz125, sz123] at hz
  rw [L_loop_step] at hz
  simp (disch := first | omega | assumption) only [E0_G, List.size_toArray, List.length_cons, List.length_nil, setArgs, start_list, code_seq, code_region, code_cond, code_ret, code_skip, code_exit, code_label, code_block, code_loop, leave_normal, leave_ret, leave_exit, leave_ite,
    andThen_normal, andThen_ret, andThen_exit, andThen_ite, behind_some, behind_ite, List.map_cons, List.map_nil, run_nil, run_cons, run_guarded, guardV_some, guard_tt, guard_tf, guard_ft, guard_ff, guard_undef, store_off, off, callKind, Bool.and_false, Bool.false_and, Bool.and_true, Bool.true_and,
    op_assign, op_move, op_pick, pickV_true, pickV_false,  op_bin, op_box, op_load, op_store, op_field, op_fieldAddr, op_index, op_indexAddr, op_extract, op_call, called_some, op_not, op_neg, op_min, op_max, op_min3, op_convert, convV_int, op_build, partVals,  vals, val_tmp, val_int, val_bool, val_str, val_nilSlice, val_nilFunc, val_func, val_global,
    put_some, put_none, get_sel, T.get_lf, Option.map_some, Option.map_none, Option.bind_some, Option.bind_none, firstOf_some, Nat.reduceAdd, Nat.reduceSub, Nat.reduceMul, Nat.reduceLT, Nat.reduceEqDiff, Nat.reduceBEq, cond_yes, cond_no, if_true, if_false, reduceIte, sel_true, sel_false, decide_true, decide_false, Bool.not_true, Bool.not_false,
    bin_add, bin_sub, bin_mul, bin_quo, bin_rem, bin_and, bin_or, bin_xor, bin_andNot, bin_eql, bin_neq, bin_lss, bin_leq, bin_gtr, bin_geq, bin_shl, bin_shr, bin_eqlAgg, bin_neqAgg, bin_eqlBool, bin_neqBool, boolV?_bool, eq_self,  ne_eq, Int.reduceEq, Int.reduceLT, Int.reduceLE, not_false_eq_true, handed_ret, handed_normal, handed_ite, results_nil, results_t, results_c, consV_some, op_alloc, allocV,
    next_push, next_upd, push_eq, push_ne, upd_eq, upd_ne, cell_at, cellOf_cells, put_at, putOf_cells, boxed, ldA, rdCells,  oneB, aggD, aField, aFieldV, addr_add, cells_agg, cells_int, cells_bool, cells_string, cells_pointer, cells_slice, cells_func, List.getElem?_cons_zero, List.getElem?_cons_succ, List.getElem?_toArray, List.set_cons_zero, List.set_cons_succ, List.toList_toArray, Nat.zero_add, Nat.add_zero, reduceCtorEq, aExtract, inTab125, inTab123, inTab52, inTab58, zero125, zero123, zero52, zero58, newPair, newKeys, arc00, noMark, ixA0, ixA1, ixV0, ixV1, ixK0, ixK1, w01, w12, and_fold, or_fold, not_fold, and_val, or_val, not_val, c103 _ n hn, vx_4, vy_4, vi_4, b4, k5, vx_5, vy_5, vi_5, vm_5, k6, vx_6, vy_6, vi_6, vm_6, k7, vx_7, vy_7, vi_7, vm_7, k8, b8, e1, e2, e3, e4, Tryz.underlying52, Tryz.underlying56, Tryz.underlying58, Tryz.underlying45, Tryz.underlying25, Tryz.underlying4, Tryz.underlying3, Tryz.underlying125, Tryz.underlying123, sz52, sz56, sz58, sz45, sz3, sz125, sz123] at hz
  rw [L_loop_step] at hz
  have sf : val (u &&& v ||| first (u &&& ~~~v) n ||| first (v &&& ~~~u) n) = val (seenB u v n) := rfl
  simp (disch := first | omega | assumption) only [E0_G, List.size_toArray, List.length_cons, List.length_nil, setArgs, start_list, code_seq, code_region, code_cond, code_ret, code_skip, code_exit, code_label, code_block, code_loop, leave_normal, leave_ret, leave_exit, leave_ite,
    andThen_normal, andThen_ret, andThen_exit, andThen_ite, behind_some, behind_ite, List.map_cons, List.map_nil, run_nil, run_cons, run_guarded, guardV_some, guard_tt, guard_tf, guard_ft, guard_ff, guard_undef, store_off, off, callKind, Bool.and_false, Bool.false_and, Bool.and_true, Bool.true_and,
    op_assign, op_move, op_pick, pickV_true, pickV_false,  op_bin, op_box, op_load, op_store, op_field, op_fieldAddr, op_index, op_indexAddr, op_extract, op_call, called_some, op_not, op_neg, op_min, op_max, op_min3, op_convert, convV_int, op_build, partVals,  vals, val_tmp, val_int, val_bool, val_str, val_nilSlice, val_nilFunc, val_func, val_global,
    put_some, put_none, get_sel, T.get_lf, Option.map_some, Option.map_none, Option.bind_some, Option.bind_none, firstOf_some, Nat.reduceAdd, Nat.reduceSub, Nat.reduceMul, Nat.reduceLT, Nat.reduceEqDiff, Nat.reduceBEq, cond_yes, cond_no, if_true, if_false, reduceIte, sel_true, sel_false, decide_true, decide_false, Bool.not_true, Bool.not_false,
    bin_add, bin_sub, bin_mul, bin_quo, bin_rem, bin_and, bin_or, bin_xor, bin_andNot, bin_eql, bin_neq, bin_lss, bin_leq, bin_gtr, bin_geq, bin_shl, bin_shr, bin_eqlAgg, bin_neqAgg, bin_eqlBool, bin_neqBool, boolV?_bool, eq_self,  ne_eq, Int.reduceEq, Int.reduceLT, Int.reduceLE, not_false_eq_true, handed_ret, handed_normal, handed_ite, results_nil, results_t, results_c, consV_some, op_alloc, allocV,
    next_push, next_upd, push_eq, push_ne, upd_eq, upd_ne, cell_at, cellOf_cells, put_at, putOf_cells, boxed, ldA, rdCells,  oneB, aggD, aField, aFieldV, addr_add, cells_agg, cells_int, cells_bool, cells_string, cells_pointer, cells_slice, cells_func, List.getElem?_cons_zero, List.getElem?_cons_succ, List.getElem?_toArray, List.set_cons_zero, List.set_cons_succ, List.toList_toArray, Nat.zero_add, Nat.add_zero, reduceCtorEq, aExtract, inTab125, inTab123, inTab52, inTab58, zero125, zero123, zero52, zero58, newPair, newKeys, arc00, noMark, ixA0, ixA1, ixV0, ixV1, ixK0, ixK1, w01, w12, and_fold, or_fold, not_fold, and_val, or_val, not_val, sf, vx_4, vy_4, vi_4, b4, k5, vx_5, vy_5, vi_5, vm_5, k6, vx_6, vy_6, vi_6, vm_6, k7, vx_7, vy_7, vi_7, vm_7, k8, b8, e1, e2, e3, e4, Tryz.underlying52, Tryz.underlying56, Tryz.underlying58, Tryz.underlying45, Tryz.underlying25, Tryz.underlying4, Tryz.underlying3, Tryz.underlying125, Tryz.underlying123, sz52, sz56, sz58, sz45, sz3, sz125, sz123] at hz
  exact fin hz rfl g8
set_option maxHeartbeats 2000000 in
theorem c6_no (i1 t1 p1 i2 t2 p2 f s l : Int) (hC : ¬ Conf i1 t1 p1 i2 t2 p2 f s l) (S : AS) : ∃ S', (evL Tryz.prog E0).call 6 #[.agg #[.int .i64 i1, .int .i64 t1, .int .i64 p1], .agg #[.int .i64 i2, .int .i64 t2, .int .i64 p2], .agg #[.int .i64 f, .int .i64 s, .int .i64 l]] S = some (.bool true, S') ∧ Agree S S' := by
  obtain ⟨S1, e1, n1, b1, a1⟩ := push_open S (.cells [.int .i64 i1, .int .i64 t1, .int .i64 p1] 52 0 true true)
  have g1 : Agree S S1 := a1
  obtain ⟨S2, e2, n2, b2, a2⟩ := push_open S1 (.cells [.int .i64 i2, .int .i64 t2, .int .i64 p2] 52 0 true true)
  have vx_2 := (a2.2 S.next (by omega)).trans b1
  have g2 : Agree S S2 := g1.trans a2
  obtain ⟨S3, e3, n3, b3, a3⟩ := push_open S2 (.cells [.int .i64 f, .int .i64 s, .int .i64 l] 45 0 true true)
  have vx_3 := (a3.2 S.next (by omega)).trans vx_2
  have vy_3 := (a3.2 S1.next (by omega)).trans b2
  have g3 : Agree S S3 := g2.trans a3
  obtain ⟨S4, k4, a4⟩ := c40_no i1 t1 p1 i2 t2 p2 f s l hC S3
  have l4 := a4.1
  have s4 : E0.same S3 S4 = true := symEnv_same a4
  have vx_4 := (a4.2 S.next (by omega)).trans vx_3
  have vy_4 := (a4.2 S1.next (by omega)).trans vy_3
  have vi_4 := (a4.2 S2.next (by omega)).trans b3
  have g4 : Agree S S4 := g3.trans a4
  obtain ⟨S5, e5, n5, b5, a5⟩ := push_open S4 (.cells [.int .i64 0, .int .i64 0, .int .i64 0, .int .i64 0, .int .i64 0] 58 0 true true)
  have vx_5 := (a5.2 S.next (by omega)).trans vx_4
  have vy_5 := (a5.2 S1.next (by omega)).trans vy_4
  have vi_5 := (a5.2 S2.next (by omega)).trans vi_4
  have g5 : Agree S S5 := g4.trans a5
  obtain ⟨S6, k6, n6, b6, o6⟩ := st_open (vs := [.int .i64 0, .int .i64 0, .int .i64 0, .int .i64 0, .int .i64 0]) sz58 b5 rfl rfl rfl
  have vx_6 := (o6 S.next (by omega)).trans vx_5
  have vy_6 := (o6 S1.next (by omega)).trans vy_5
  have vi_6 := (o6 S2.next (by omega)).trans vi_5
  have g6 : Agree S S6 := ⟨by have := g5.1; omega, fun id hid => (o6 id (by omega)).trans (g5.2 id hid)⟩
  obtain ⟨S7, k7, a7⟩ := c41 i1 t1 p1 i2 t2 p2 f s l S6
  have l7 := a7.1
  have s7 : E0.same S6 S7 = true := symEnv_same a7
  have vx_7 := (a7.2 S.next (by omega)).trans vx_6
  have vy_7 := (a7.2 S1.next (by omega)).trans vy_6
  have vi_7 := (a7.2 S2.next (by omega)).trans vi_6
  have vm_7 := (a7.2 S4.next (by omega)).trans b6
  have g7 : Agree S S7 := g6.trans a7
  obtain ⟨S8, k8, a8⟩ := c42 i1 t1 p1 i2 t2 p2 f s l S7
  have l8 := a8.1
  have s8 : E0.same S7 S8 = true := symEnv_same a8
  have vx_8 := (a8.2 S.next (by omega)).trans vx_7
  have vy_8 := (a8.2 S1.next (by omega)).trans vy_7
  have vi_8 := (a8.2 S2.next (by omega)).trans vi_7
  have vm_8 := (a8.2 S4.next (by omega)).trans vm_7
  have g8 : Agree S S8 := g7.trans a8
  rw [decide_eq_false hC] at k7 k8
  generalize hz : (evL Tryz.prog E0).call 6 _ _ = z
  rw [L_call, evCall_said rfl Tryz.func6 rfl (by decide) Tryz.ntmps6 Tryz.results6] at hz
  simp (disch := first | omega | assumption) only [E0_G, List.size_toArray, List.length_cons, List.length_nil, setArgs, start_list, code_seq, code_region, code_cond, code_ret, code_skip, code_exit, code_label, code_block, code_loop, leave_normal, leave_ret, leave_exit, leave_ite,
    andThen_normal, andThen_ret, andThen_exit, andThen_ite, behind_some, behind_ite, List.map_cons, List.map_nil, run_nil, run_cons, run_guarded, guardV_some, guard_tt, guard_tf, guard_ft, guard_ff, guard_undef, store_off, off, callKind, Bool.and_false, Bool.false_and, Bool.and_true, Bool.true_and,
    op_assign, op_move, op_pick, pickV_true, pickV_false,  op_bin, op_box, op_load, op_store, op_field, op_fieldAddr, op_index, op_indexAddr, op_extract, op_call, called_some, op_not, op_neg, op_min, op_max, op_min3, op_convert, convV_int, op_build, partVals,  vals, val_tmp, val_int, val_bool, val_str, val_nilSlice, val_nilFunc, val_func, val_global,
    put_some, put_none, get_sel, T.get_lf, Option.map_some, Option.map_none, Option.bind_some, Option.bind_none, firstOf_some, Nat.reduceAdd, Nat.reduceSub, Nat.reduceMul, Nat.reduceLT, Nat.reduceEqDiff, Nat.reduceBEq, cond_yes, cond_no, if_true, if_false, reduceIte, sel_true, sel_false, decide_true, decide_false, Bool.not_true, Bool.not_false,
    bin_add, bin_sub, bin_mul, bin_quo, bin_rem, bin_and, bin_or, bin_xor, bin_andNot, bin_eql, bin_neq, bin_lss, bin_leq, bin_gtr, bin_geq, bin_shl, bin_shr, bin_eqlAgg, bin_neqAgg, bin_eqlBool, bin_neqBool, boolV?_bool, eq_self,  ne_eq, Int.reduceEq, Int.reduceLT, Int.reduceLE, not_false_eq_true, handed_ret, handed_normal, handed_ite, results_nil, results_t, results_c, consV_some, op_alloc, allocV,
    next_push, next_upd, push_eq, push_ne, upd_eq, upd_ne, cell_at, cellOf_cells, put_at, putOf_cells, boxed, ldA, rdCells,  oneB, aggD, aField, aFieldV, addr_add, cells_agg, cells_int, cells_bool, cells_string, cells_pointer, cells_slice, cells_func, List.getElem?_cons_zero, List.getElem?_cons_succ, List.getElem?_toArray, List.set_cons_zero, List.set_cons_succ, List.toList_toArray, Nat.zero_add, Nat.add_zero, reduceCtorEq, aExtract, inTab125, inTab123, inTab52, inTab58, zero125, zero123, zero52, zero58, newPair, newKeys, arc00, noMark, ixA0, ixA1, ixV0, ixV1, ixK0, ixK1, w01, w12, and_fold, or_fold, not_fold, vx_3, vy_3, b3, k4, vx_4, vy_4, vi_4, k6, vx_6, vy_6, vi_6, b6, k7, vx_7, vy_7, vi_7, vm_7, k8, vx_8, vy_8, vi_8, vm_8, e1, e2, e3, e5, c15, eqMark, beq_self_eq_true, Tryz.underlying52, Tryz.underlying56, Tryz.underlying58, Tryz.underlying45, Tryz.underlying25, Tryz.underlying4, Tryz.underlying3, Tryz.underlying125, Tryz.underlying123, sz52, sz56, sz58, sz45, sz3, sz125, sz123] at hz
  exact fin hz rfl g8
set_option maxHeartbeats 2000000 in
theorem c6_yes (i1 t1 i2 t2 f l : Int) (u v : BitVec 12) (n : Nat) (hn : n ≤ 4) (hC : Conf i1 t1 (val u) i2 t2 (val v) f (n : Int) l) (S : AS) : ∃ S', (evL Tryz.prog E0).call 6 #[.agg #[.int .i64 i1, .int .i64 t1, .int .i64 (val u)], .agg #[.int .i64 i2, .int .i64 t2, .int .i64 (val v)], .agg #[.int .i64 f, .int .i64 (n : Int), .int .i64 l]] S = some (.bool true, S') ∧ Agree S S' := by
  obtain ⟨S1, e1, n1, b1, a1⟩ := push_open S (.cells [.int .i64 i1, .int .i64 t1, .int .i64 (val u)] 52 0 true true)
  have g1 : Agree S S1 := a1
  obtain ⟨S2, e2, n2, b2, a2⟩ := push_open S1 (.cells [.int .i64 i2, .int .i64 t2, .int .i64 (val v)] 52 0 true true)
  have vx_2 := (a2.2 S.next (by omega)).trans b1
  have g2 : Agree S S2 := g1.trans a2
  obtain ⟨S3, e3, n3, b3, a3⟩ := push_open S2 (.cells [.int .i64 f, .int .i64 (n : Int), .int .i64 l] 45 0 true true)
  have vx_3 := (a3.2 S.next (by omega)).trans vx_2
  have vy_3 := (a3.2 S1.next (by omega)).trans b2
  have g3 : Agree S S3 := g2.trans a3
  obtain ⟨S4, k4, a4⟩ := c40_yes i1 t1 i2 t2 f l u v n (by omega) hC S3
  have l4 := a4.1
  have s4 : E0.same S3 S4 = true := symEnv_same a4
  have vx_4 := (a4.2 S.next (by omega)).trans vx_3
  have vy_4 := (a4.2 S1.next (by omega)).trans vy_3
  have vi_4 := (a4.2 S2.next (by omega)).trans b3
  have g4 : Agree S S4 := g3.trans a4
  obtain ⟨S5, e5, n5, b5, a5⟩ := push_open S4 (.cells [.int .i64 0, .int .i64 0, .int .i64 0, .int .i64 0, .int .i64 0] 58 0 true true)
  have vx_5 := (a5.2 S.next (by omega)).trans vx_4
  have vy_5 := (a5.2 S1.next (by omega)).trans vy_4
  have vi_5 := (a5.2 S2.next (by omega)).trans vi_4
  have g5 : Agree S S5 := g4.trans a5
  obtain ⟨S6, k6, n6, b6, o6⟩ := st_open (vs := [.int .i64 0, .int .i64 0, .int .i64 t1, .int .i64 (val (seenB u v n)), .int .i64 (val (4095#12 &&& ~~~(seenB u v n)))]) sz58 b5 rfl rfl rfl
  have vx_6 := (o6 S.next (by omega)).trans vx_5
  have vy_6 := (o6 S1.next (by omega)).trans vy_5
  have vi_6 := (o6 S2.next (by omega)).trans vi_5
  have g6 : Agree S S6 := ⟨by have := g5.1; omega, fun id hid => (o6 id (by omega)).trans (g5.2 id hid)⟩
  obtain ⟨S7, k7, a7⟩ := c41 i1 t1 (val u) i2 t2 (val v) f (n : Int) l S6
  have l7 := a7.1
  have s7 : E0.same S6 S7 = true := symEnv_same a7
  have vx_7 := (a7.2 S.next (by omega)).trans vx_6
  have vy_7 := (a7.2 S1.next (by omega)).trans vy_6
  have vi_7 := (a7.2 S2.next (by omega)).trans vi_6
  have vm_7 := (a7.2 S4.next (by omega)).trans b6
  have g7 : Agree S S7 := g6.trans a7
  obtain ⟨S8, k8, a8⟩ := c42 i1 t1 (val u) i2 t2 (val v) f (n : Int) l S7
  have l8 := a8.1
  have s8 : E0.same S7 S8 = true := symEnv_same a8
  have vx_8 := (a8.2 S.next (by omega)).trans vx_7
  have vy_8 := (a8.2 S1.next (by omega)).trans vy_7
  have vi_8 := (a8.2 S2.next (by omega)).trans vi_7
  have vm_8 := (a8.2 S4.next (by omega)).trans vm_7
  have g8 : Agree S S8 := g7.trans a8
  rw [decide_eq_true hC] at k7 k8
  have hC2 := hC
  obtain ⟨q1, q2, q3, q4, q5, q6⟩ := hC2
  rw [not_val, cnt_val] at q4 q5
  have q7 := q3
  unfold InkOk at q7
  have mr := val_range (seenB u v n)
  have br := val_range (4095#12 &&& ~~~(seenB u v n))
  obtain ⟨z1, z2⟩ := all_blank (seenB u v n)
  have j1 : andV (val (seenB u v n)) (val (4095#12 &&& ~~~(seenB u v n))) = 0 := by rw [and_val, z1]; rfl
  have j2 : orV (val (seenB u v n)) (val (4095#12 &&& ~~~(seenB u v n))) = 4095 := by rw [or_val, z2]; rfl
  have y1 : MarkOk 0 0 t1 (val (seenB u v n)) (val (4095#12 &&& ~~~(seenB u v n))) := by
    unfold KeyOk at q1
    exact ⟨.inr (by omega), by omega, by omega, mr.1, mr.2, br.1, br.2, j1⟩
  have y2 : ShowsP (val (seenB u v n)) (val (4095#12 &&& ~~~(seenB u v n))) (val u) f (n : Int) := by
    refine ⟨?_, ?_⟩
    · rw [and_val, blank_one, cnt_val, cb_rest _ _ _ (Nat.le_refl _)]; omega
    · rw [not_val, seen_one, cnt_val, cb_first _ _ _ (Nat.le_refl _)]; omega
  have y3 : ShowsP (val (seenB u v n)) (val (4095#12 &&& ~~~(seenB u v n))) (val v) f (n : Int) := by
    refine ⟨?_, ?_⟩
    · rw [and_val, blank_two, cnt_val, cb_rest _ _ _ (Nat.le_refl _)]; omega
    · rw [not_val, seen_two, cnt_val, cb_first _ _ _ (Nat.le_refl _)]; omega
  obtain ⟨S9, k9, a9⟩ := c43 0 0 t1 (val (seenB u v n)) (val (4095#12 &&& ~~~(seenB u v n))) S8
  have l9 := a9.1
  have s9 : E0.same S8 S9 = true := symEnv_same a9
  have vx_9 := (a9.2 S.next (by omega)).trans vx_8
  have vy_9 := (a9.2 S1.next (by omega)).trans vy_8
  have vi_9 := (a9.2 S2.next (by omega)).trans vi_8
  have vm_9 := (a9.2 S4.next (by omega)).trans vm_8
  have g9 : Agree S S9 := g8.trans a9
  rw [decide_eq_true y1] at k9
  obtain ⟨S10, k10, a10⟩ := c44 0 0 t1 (val (seenB u v n)) (val (4095#12 &&& ~~~(seenB u v n))) S9
  have l10 := a10.1
  have s10 : E0.same S9 S10 = true := symEnv_same a10
  have vx_10 := (a10.2 S.next (by omega)).trans vx_9
  have vy_10 := (a10.2 S1.next (by omega)).trans vy_9
  have vi_10 := (a10.2 S2.next (by omega)).trans vi_9
  have vm_10 := (a10.2 S4.next (by omega)).trans vm_9
  have g10 : Agree S S10 := g9.trans a10
  rw [decide_eq_true j2] at k10
  obtain ⟨S11, k11, a11⟩ := c45 i1 t1 (val u) 0 0 t1 (val (seenB u v n)) (val (4095#12 &&& ~~~(seenB u v n))) f (n : Int) l S10
  have l11 := a11.1
  have s11 : E0.same S10 S11 = true := symEnv_same a11
  have vx_11 := (a11.2 S.next (by omega)).trans vx_10
  have vy_11 := (a11.2 S1.next (by omega)).trans vy_10
  have vi_11 := (a11.2 S2.next (by omega)).trans vi_10
  have vm_11 := (a11.2 S4.next (by omega)).trans vm_10
  have g11 : Agree S S11 := g10.trans a11
  rw [decide_eq_true ⟨rfl, y2⟩] at k11
  obtain ⟨S12, k12, a12⟩ := c45 i2 t2 (val v) 0 0 t1 (val (seenB u v n)) (val (4095#12 &&& ~~~(seenB u v n))) f (n : Int) l S11
  have l12 := a12.1
  have s12 : E0.same S11 S12 = true := symEnv_same a12
  have vx_12 := (a12.2 S.next (by omega)).trans vx_11
  have vy_12 := (a12.2 S1.next (by omega)).trans vy_11
  have vi_12 := (a12.2 S2.next (by omega)).trans vi_11
  have vm_12 := (a12.2 S4.next (by omega)).trans vm_11
  have g12 : Agree S S12 := g11.trans a12
  rw [decide_eq_true ⟨q6.symm, y3⟩] at k12
  generalize hz : (evL Tryz.prog E0).call 6 _ _ = z
  rw [L_call, evCall_said rfl Tryz.func6 rfl (by decide) Tryz.ntmps6 Tryz.results6] at hz
  simp (disch := first | omega | assumption) only [E0_G, List.size_toArray, List.length_cons, List.length_nil, setArgs, start_list, code_seq, code_region, code_cond, code_ret, code_skip, code_exit, code_label, code_block, code_loop, leave_normal, leave_ret, leave_exit, leave_ite,
    andThen_normal, andThen_ret, andThen_exit, andThen_ite, behind_some, behind_ite, List.map_cons, List.map_nil, run_nil, run_cons, run_guarded, guardV_some, guard_tt, guard_tf, guard_ft, guard_ff, guard_undef, store_off, off, callKind, Bool.and_false, Bool.false_and, Bool.and_true, Bool.true_and,
    op_assign, op_move, op_pick, pickV_true, pickV_false,  op_bin, op_box, op_load, op_store, op_field, op_fieldAddr, op_index, op_indexAddr, op_extract, op_call, called_some, op_not, op_neg, op_min, op_max, op_min3, op_convert, convV_int, op_build, partVals,  vals, val_tmp, val_int, val_bool, val_str, val_nilSlice, val_nilFunc, val_func, val_global,
    put_some, put_none, get_sel, T.get_lf, Option.map_some, Option.map_none, Option.bind_some, Option.bind_none, firstOf_some, Nat.reduceAdd, Nat.reduceSub, Nat.reduceMul, Nat.reduceLT, Nat.reduceEqDiff, Nat.reduceBEq, cond_yes, cond_no, if_true, if_false, reduceIte, sel_true, sel_false, decide_true, decide_false, Bool.not_true, Bool.not_false,
    bin_add, bin_sub, bin_mul, bin_quo, bin_rem, bin_and, bin_or, bin_xor, bin_andNot, bin_eql, bin_neq, bin_lss, bin_leq, bin_gtr, bin_geq, bin_shl, bin_shr, bin_eqlAgg, bin_neqAgg, bin_eqlBool, bin_neqBool, boolV?_bool, eq_self,  ne_eq, Int.reduceEq, Int.reduceLT, Int.reduceLE, not_false_eq_true, handed_ret, handed_normal, handed_ite, results_nil, results_t, results_c, consV_some, op_alloc, allocV,
    next_push, next_upd, push_eq, push_ne, upd_eq, upd_ne, cell_at, cellOf_cells, put_at, putOf_cells, boxed, ldA, rdCells,  oneB, aggD, aField, aFieldV, addr_add, cells_agg, cells_int, cells_bool, cells_string, cells_pointer, cells_slice, cells_func, List.getElem?_cons_zero, List.getElem?_cons_succ, List.getElem?_toArray, List.set_cons_zero, List.set_cons_succ, List.toList_toArray, Nat.zero_add, Nat.add_zero, reduceCtorEq, aExtract, inTab125, inTab123, inTab52, inTab58, zero125, zero123, zero52, zero58, newPair, newKeys, arc00, noMark, ixA0, ixA1, ixV0, ixV1, ixK0, ixK1, w01, w12, and_fold, or_fold, not_fold, vx_3, vy_3, b3, k4, vx_4, vy_4, vi_4, k6, vx_6, vy_6, vi_6, b6, k7, vx_7, vy_7, vi_7, vm_7, k8, vx_8, vy_8, vi_8, vm_8, k9, vx_9, vy_9, vi_9, vm_9, k10, vx_10, vy_10, vi_10, vm_10, k11, vx_11, vy_11, vi_11, vm_11, k12, vx_12, vy_12, vi_12, vm_12, e1, e2, e3, e5, c15, eqMark, beq_self_eq_true, Tryz.underlying52, Tryz.underlying56, Tryz.underlying58, Tryz.underlying45, Tryz.underlying25, Tryz.underlying4, Tryz.underlying3, Tryz.underlying125, Tryz.underlying123, sz52, sz56, sz58, sz45, sz3, sz125, sz123] at hz
  exact fin hz rfl g12
theorem c6 (i1 t1 p1 i2 t2 p2 f s l : Int) (S : AS) : ∃ S', (evL Tryz.prog E0).call 6 #[.agg #[.int .i64 i1, .int .i64 t1, .int .i64 p1], .agg #[.int .i64 i2, .int .i64 t2, .int .i64 p2], .agg #[.int .i64 f, .int .i64 s, .int .i64 l]] S = some (.bool true, S') ∧ Agree S S' := by
  by_cases hC : Conf i1 t1 p1 i2 t2 p2 f s l
  · obtain ⟨u, rfl⟩ := val_of hC.1.set.1 hC.1.set.2
    obtain ⟨v, rfl⟩ := val_of hC.2.1.set.1 hC.2.1.set.2
    have hs : ∃ n : Nat, n ≤ 4 ∧ s = (n : Int) := ⟨s.toNat, by have := hC.2.2.1; unfold InkOk at this; omega, by have := hC.2.2.1; unfold InkOk at this; omega⟩
    obtain ⟨n, hn, rfl⟩ := hs
    exact c6_yes i1 t1 i2 t2 f l u v n hn hC S
  · exact c6_no i1 t1 p1 i2 t2 p2 f s l hC S
end Great
end Go.Proofs
