/-
  The great seat of stage 1 at c2f8ee9: Twice.
-/
import Derived.Test.YtgbjgljchkodjaaGreatDoorEvZ5
set_option linter.unusedSimpArgs false
set_option linter.unusedVariables false
namespace Go.Proofs
namespace Great
open Go Go.RowKit Go.Aev
set_option maxRecDepth 100000
def TwiceOk (i1 t1 i2 t2 ap : Int) : Prop := i1 ≠ i2 ∧ t1 = t2 ∧ 0 ≤ ap ∧ ap ≤ 60
instance (i1 t1 i2 t2 ap : Int) : Decidable (TwiceOk i1 t1 i2 t2 ap) := by unfold TwiceOk; infer_instance
def twiceV (i1 t1 p1 i2 t2 p2 at_ ap mi di sh f s l : Int) : Value :=
  if (KeyOk i1 t1 p1 ∧ KeyOk i2 t2 p2 ∧ BlowOk mi di f s l) ∧ TwiceOk i1 t1 i2 t2 ap then hitV (orV p1 p2) t1 at_ ap mi di sh f s l else argV 1
set_option maxHeartbeats 2000000 in
theorem c52 (i1 t1 p1 i2 t2 p2 at_ ap mi di sh f s l : Int) (S : AS) : ∃ S', (evL Tryz.prog E0).call 46 #[.agg #[.int .i64 i1, .int .i64 t1, .int .i64 p1], .agg #[.int .i64 i2, .int .i64 t2, .int .i64 p2], .int .i64 at_, .int .i64 ap, .agg #[.int .i64 mi, .int .i64 di, .int .i64 sh], .agg #[.int .i64 f, .int .i64 s, .int .i64 l]] S = some (twiceV i1 t1 p1 i2 t2 p2 at_ ap mi di sh f s l, S') ∧ Agree S S' := by
  obtain ⟨S1, e1, n1, b1, a1⟩ := push_open S (.cells [.int .i64 i1, .int .i64 t1, .int .i64 p1] 63 0 true true)
  have g1 : Agree S S1 := a1
  obtain ⟨S2, e2, n2, b2, a2⟩ := push_open S1 (.cells [.int .i64 i2, .int .i64 t2, .int .i64 p2] 63 0 true true)
  have vx_2 := (a2.2 S.next (by omega)).trans b1
  have g2 : Agree S S2 := g1.trans a2
  obtain ⟨S3, e3, n3, b3, a3⟩ := push_open S2 (.cells [.int .i64 mi, .int .i64 di, .int .i64 sh] 58 0 true true)
  have vx_3 := (a3.2 S.next (by omega)).trans vx_2
  have vy_3 := (a3.2 S1.next (by omega)).trans b2
  have g3 : Agree S S3 := g2.trans a3
  obtain ⟨S4, e4, n4, b4, a4⟩ := push_open S3 (.cells [.int .i64 f, .int .i64 s, .int .i64 l] 60 0 true true)
  have vx_4 := (a4.2 S.next (by omega)).trans vx_3
  have vy_4 := (a4.2 S1.next (by omega)).trans vy_3
  have vw_4 := (a4.2 S2.next (by omega)).trans b3
  have g4 : Agree S S4 := g3.trans a4
  obtain ⟨S5, e5, n5, b5, a5⟩ := push_open S4 (.cells [.int .i64 0, .int .i64 0, .int .i64 0, .int .i64 0, .int .i64 0] 46 0 true true)
  have vx_5 := (a5.2 S.next (by omega)).trans vx_4
  have vy_5 := (a5.2 S1.next (by omega)).trans vy_4
  have vw_5 := (a5.2 S2.next (by omega)).trans vw_4
  have vi_5 := (a5.2 S3.next (by omega)).trans b4
  have g5 : Agree S S5 := g4.trans a5
  obtain ⟨S6, k6, a6⟩ := c38 i1 t1 p1 S5
  have l6 := a6.1
  have s6 : E0.same S5 S6 = true := symEnv_same a6
  have vx_6 := (a6.2 S.next (by omega)).trans vx_5
  have vy_6 := (a6.2 S1.next (by omega)).trans vy_5
  have vw_6 := (a6.2 S2.next (by omega)).trans vw_5
  have vi_6 := (a6.2 S3.next (by omega)).trans vi_5
  have vm_6 := (a6.2 S4.next (by omega)).trans b5
  have g6 : Agree S S6 := g5.trans a6
  generalize hz : (evL Tryz.prog E0).call 46 _ _ = z
  rw [L_call, evCall_said rfl Tryz.func46 rfl (by decide) Tryz.ntmps46 Tryz.results46] at hz
  by_cases h1 : KeyOk i1 t1 p1
  · rw [errV_pos h1] at k6
    obtain ⟨S7, k7, a7⟩ := c38 i2 t2 p2 S6
    have l7 := a7.1
    have s7 : E0.same S6 S7 = true := symEnv_same a7
    have vx_7 := (a7.2 S.next (by omega)).trans vx_6
    have vy_7 := (a7.2 S1.next (by omega)).trans vy_6
    have vw_7 := (a7.2 S2.next (by omega)).trans vw_6
    have vi_7 := (a7.2 S3.next (by omega)).trans vi_6
    have vm_7 := (a7.2 S4.next (by omega)).trans vm_6
    have g7 : Agree S S7 := g6.trans a7
    by_cases h2 : KeyOk i2 t2 p2
    · rw [errV_pos h2] at k7
      obtain ⟨S8, k8, a8⟩ := c112 mi di sh f s l S7
      have l8 := a8.1
      have s8 : E0.same S7 S8 = true := symEnv_same a8
      have vx_8 := (a8.2 S.next (by omega)).trans vx_7
      have vy_8 := (a8.2 S1.next (by omega)).trans vy_7
      have vw_8 := (a8.2 S2.next (by omega)).trans vw_7
      have vi_8 := (a8.2 S3.next (by omega)).trans vi_7
      have vm_8 := (a8.2 S4.next (by omega)).trans vm_7
      have g8 : Agree S S8 := g7.trans a8
      by_cases h3 : BlowOk mi di f s l
      · rw [errV_pos h3] at k8
        obtain ⟨u1, u2, u3, u4, u5, u6, hu⟩ := hitV_is (orV p1 p2) t1 at_ ap mi di sh f s l
        obtain ⟨S9, k9, a9⟩ := c113 (orV p1 p2) t1 at_ ap mi di sh f s l S8 h3.1
        have l9 := a9.1
        have s9 : E0.same S8 S9 = true := symEnv_same a9
        have vx_9 := (a9.2 S.next (by omega)).trans vx_8
        have vy_9 := (a9.2 S1.next (by omega)).trans vy_8
        have vw_9 := (a9.2 S2.next (by omega)).trans vw_8
        have vi_9 := (a9.2 S3.next (by omega)).trans vi_8
        have vm_9 := (a9.2 S4.next (by omega)).trans vm_8
        have g9 : Agree S S9 := g8.trans a9
        rw [hu] at k9
        obtain ⟨S10, k10, n10, b10, o10⟩ := st_open (vs := [.int .i64 u1, .int .i64 u2, .int .i64 u3, .int .i64 u4, .int .i64 u5]) sz58 vm_9 rfl rfl rfl
        have vx_10 := (o10 S.next (by omega)).trans vx_9
        have vy_10 := (o10 S1.next (by omega)).trans vy_9
        have vw_10 := (o10 S2.next (by omega)).trans vw_9
        have vi_10 := (o10 S3.next (by omega)).trans vi_9
        have g10 : Agree S S10 := ⟨by have := g9.1; omega, fun id hid => (o10 id (by omega)).trans (g9.2 id hid)⟩
        obtain ⟨S21, k21, n21, b21, o21⟩ := st_open (vs := [.int .i64 0, .int .i64 0, .int .i64 0, .int .i64 0, .int .i64 0]) sz58 vm_8 rfl rfl rfl
        have vx_21 := (o21 S.next (by omega)).trans vx_8
        have vy_21 := (o21 S1.next (by omega)).trans vy_8
        have vw_21 := (o21 S2.next (by omega)).trans vw_8
        have vi_21 := (o21 S3.next (by omega)).trans vi_8
        have g21 : Agree S S21 := ⟨by have := g8.1; omega, fun id hid => (o21 id (by omega)).trans (g8.2 id hid)⟩
        rcases deq i1 i2 with ⟨h4, h5⟩ | ⟨h4, h5⟩ <;> rcases deq t1 t2 with ⟨h6, h7⟩ | ⟨h6, h7⟩ <;> by_cases h8 : ap < 0 <;> by_cases h9 : 60 < ap <;>
          first
          | (exfalso; omega)
          | (have hT : TwiceOk i1 t1 i2 t2 ap := ⟨h5, h7, by omega, by omega⟩
             simp (disch := first | omega | assumption) only [E0_G, List.size_toArray, List.length_cons, List.length_nil, setArgs, start_list, code_seq, code_region, code_cond, code_ret, code_skip, code_exit, code_label, code_block, code_loop, leave_normal, leave_ret, leave_exit, leave_ite,
    andThen_normal, andThen_ret, andThen_exit, andThen_ite, behind_some, behind_ite, List.map_cons, List.map_nil, run_nil, run_cons, run_guarded, guardV_some, guard_tt, guard_tf, guard_ft, guard_ff, guard_undef, store_off, off, agreeKind, Bool.and_false, Bool.false_and, Bool.and_true, Bool.true_and,
    op_assign, op_move, op_pick, pickV_true, pickV_false,  op_bin, op_box, op_load, op_store, op_field, op_fieldAddr, op_index, op_indexAddr, op_extract, op_call, called_some, op_not, op_neg, op_min, op_max, op_min3, op_convert, convV_int, op_build, partVals,  vals, val_tmp, val_int, val_bool, val_str, val_nilSlice, val_nilFunc, val_func, val_global,
    put_some, put_none, get_sel, T.get_lf, Option.map_some, Option.map_none, Option.bind_some, Option.bind_none, firstOf_some, Nat.reduceAdd, Nat.reduceSub, Nat.reduceMul, Nat.reduceLT, Nat.reduceEqDiff, Nat.reduceBEq, cond_yes, cond_no, if_true, if_false, reduceIte, sel_true, sel_false, decide_true, decide_false, Bool.not_true, Bool.not_false,
    bin_add, bin_sub, bin_mul, bin_quo, bin_rem, bin_and, bin_or, bin_xor, bin_andNot, bin_eql, bin_neq, bin_lss, bin_leq, bin_gtr, bin_geq, bin_shl, bin_shr, bin_eqlAgg, bin_neqAgg, bin_eqlBool, bin_neqBool, boolV?_bool, eq_self,  ne_eq, Int.reduceEq, Int.reduceLT, Int.reduceLE, not_false_eq_true, handed_ret, handed_normal, handed_ite, results_nil, results_t, results_c, consV_some, op_alloc, allocV,
    next_push, next_upd, push_eq, push_ne, upd_eq, upd_ne, cell_at, cellOf_cells, put_at, putOf_cells, boxed, ldA, rdCells,  oneB, aggD, aField, aFieldV, addr_add, cells_agg, cells_int, cells_bool, cells_string, cells_pointer, cells_slice, cells_func, List.getElem?_cons_zero, List.getElem?_cons_succ, List.getElem?_toArray, List.set_cons_zero, List.set_cons_succ, List.toList_toArray, Nat.zero_add, Nat.add_zero, reduceCtorEq, e1, e2, e3, e4, e5, inTab58, zero58, noMark, aExtract, vx_5, vy_5, vw_5, vi_5, b5, k6, vx_6, vy_6, vw_6, vi_6, k7, vx_7, vy_7, vw_7, vi_7, k8, vx_8, vy_8, vw_8, vi_8, h4, h6, h8, h9, or_fold, k9, k10, b10, Tryz.underlying63, Tryz.underlying58, Tryz.underlying46, Tryz.underlying60, Tryz.underlying3, sz52, sz68, sz58, sz45, sz3] at hz
             exact fin hz (by unfold twiceV; rw [if_pos ⟨⟨h1, h2, h3⟩, hT⟩, hu]) g10)
          | (have hT : ¬ TwiceOk i1 t1 i2 t2 ap := fun hh => by unfold TwiceOk at hh; omega
             simp (disch := first | omega | assumption) only [E0_G, List.size_toArray, List.length_cons, List.length_nil, setArgs, start_list, code_seq, code_region, code_cond, code_ret, code_skip, code_exit, code_label, code_block, code_loop, leave_normal, leave_ret, leave_exit, leave_ite,
    andThen_normal, andThen_ret, andThen_exit, andThen_ite, behind_some, behind_ite, List.map_cons, List.map_nil, run_nil, run_cons, run_guarded, guardV_some, guard_tt, guard_tf, guard_ft, guard_ff, guard_undef, store_off, off, agreeKind, Bool.and_false, Bool.false_and, Bool.and_true, Bool.true_and,
    op_assign, op_move, op_pick, pickV_true, pickV_false,  op_bin, op_box, op_load, op_store, op_field, op_fieldAddr, op_index, op_indexAddr, op_extract, op_call, called_some, op_not, op_neg, op_min, op_max, op_min3, op_convert, convV_int, op_build, partVals,  vals, val_tmp, val_int, val_bool, val_str, val_nilSlice, val_nilFunc, val_func, val_global,
    put_some, put_none, get_sel, T.get_lf, Option.map_some, Option.map_none, Option.bind_some, Option.bind_none, firstOf_some, Nat.reduceAdd, Nat.reduceSub, Nat.reduceMul, Nat.reduceLT, Nat.reduceEqDiff, Nat.reduceBEq, cond_yes, cond_no, if_true, if_false, reduceIte, sel_true, sel_false, decide_true, decide_false, Bool.not_true, Bool.not_false,
    bin_add, bin_sub, bin_mul, bin_quo, bin_rem, bin_and, bin_or, bin_xor, bin_andNot, bin_eql, bin_neq, bin_lss, bin_leq, bin_gtr, bin_geq, bin_shl, bin_shr, bin_eqlAgg, bin_neqAgg, bin_eqlBool, bin_neqBool, boolV?_bool, eq_self,  ne_eq, Int.reduceEq, Int.reduceLT, Int.reduceLE, not_false_eq_true, handed_ret, handed_normal, handed_ite, results_nil, results_t, results_c, consV_some, op_alloc, allocV,
    next_push, next_upd, push_eq, push_ne, upd_eq, upd_ne, cell_at, cellOf_cells, put_at, putOf_cells, boxed, ldA, rdCells,  oneB, aggD, aField, aFieldV, addr_add, cells_agg, cells_int, cells_bool, cells_string, cells_pointer, cells_slice, cells_func, List.getElem?_cons_zero, List.getElem?_cons_succ, List.getElem?_toArray, List.set_cons_zero, List.set_cons_succ, List.toList_toArray, Nat.zero_add, Nat.add_zero, reduceCtorEq, e1, e2, e3, e4, e5, inTab58, zero58, noMark, aExtract, vx_5, vy_5, vw_5, vi_5, b5, k6, vx_6, vy_6, vw_6, vi_6, k7, vx_7, vy_7, vw_7, vi_7, k8, vx_8, vy_8, vw_8, vi_8, h4, h6, h8, h9, k21, b21, Tryz.underlying63, Tryz.underlying58, Tryz.underlying46, Tryz.underlying60, Tryz.underlying3, sz52, sz68, sz58, sz45, sz3] at hz
             exact fin hz (by unfold twiceV; rw [if_neg (fun hh => hT hh.2)]; rfl) g21)
      · rw [errV_neg h3] at k8
        obtain ⟨S9, k9, n9, b9, o9⟩ := st_open (vs := [.int .i64 0, .int .i64 0, .int .i64 0, .int .i64 0, .int .i64 0]) sz58 vm_8 rfl rfl rfl
        have vx_9 := (o9 S.next (by omega)).trans vx_8
        have vy_9 := (o9 S1.next (by omega)).trans vy_8
        have vw_9 := (o9 S2.next (by omega)).trans vw_8
        have vi_9 := (o9 S3.next (by omega)).trans vi_8
        have g9 : Agree S S9 := ⟨by have := g8.1; omega, fun id hid => (o9 id (by omega)).trans (g8.2 id hid)⟩
        simp (disch := first | omega | assumption) only [E0_G, List.size_toArray, List.length_cons, List.length_nil, setArgs, start_list, code_seq, code_region, code_cond, code_ret, code_skip, code_exit, code_label, code_block, code_loop, leave_normal, leave_ret, leave_exit, leave_ite,
    andThen_normal, andThen_ret, andThen_exit, andThen_ite, behind_some, behind_ite, List.map_cons, List.map_nil, run_nil, run_cons, run_guarded, guardV_some, guard_tt, guard_tf, guard_ft, guard_ff, guard_undef, store_off, off, agreeKind, Bool.and_false, Bool.false_and, Bool.and_true, Bool.true_and,
    op_assign, op_move, op_pick, pickV_true, pickV_false,  op_bin, op_box, op_load, op_store, op_field, op_fieldAddr, op_index, op_indexAddr, op_extract, op_call, called_some, op_not, op_neg, op_min, op_max, op_min3, op_convert, convV_int, op_build, partVals,  vals, val_tmp, val_int, val_bool, val_str, val_nilSlice, val_nilFunc, val_func, val_global,
    put_some, put_none, get_sel, T.get_lf, Option.map_some, Option.map_none, Option.bind_some, Option.bind_none, firstOf_some, Nat.reduceAdd, Nat.reduceSub, Nat.reduceMul, Nat.reduceLT, Nat.reduceEqDiff, Nat.reduceBEq, cond_yes, cond_no, if_true, if_false, reduceIte, sel_true, sel_false, decide_true, decide_false, Bool.not_true, Bool.not_false,
    bin_add, bin_sub, bin_mul, bin_quo, bin_rem, bin_and, bin_or, bin_xor, bin_andNot, bin_eql, bin_neq, bin_lss, bin_leq, bin_gtr, bin_geq, bin_shl, bin_shr, bin_eqlAgg, bin_neqAgg, bin_eqlBool, bin_neqBool, boolV?_bool, eq_self,  ne_eq, Int.reduceEq, Int.reduceLT, Int.reduceLE, not_false_eq_true, handed_ret, handed_normal, handed_ite, results_nil, results_t, results_c, consV_some, op_alloc, allocV,
    next_push, next_upd, push_eq, push_ne, upd_eq, upd_ne, cell_at, cellOf_cells, put_at, putOf_cells, boxed, ldA, rdCells,  oneB, aggD, aField, aFieldV, addr_add, cells_agg, cells_int, cells_bool, cells_string, cells_pointer, cells_slice, cells_func, List.getElem?_cons_zero, List.getElem?_cons_succ, List.getElem?_toArray, List.set_cons_zero, List.set_cons_succ, List.toList_toArray, Nat.zero_add, Nat.add_zero, reduceCtorEq, e1, e2, e3, e4, e5, inTab58, zero58, noMark, aExtract, vx_5, vy_5, vw_5, vi_5, b5, k6, vx_6, vy_6, vw_6, vi_6, k7, vx_7, vy_7, vw_7, vi_7, k8, vx_8, vy_8, vw_8, vi_8, k9, b9, Tryz.underlying63, Tryz.underlying58, Tryz.underlying46, Tryz.underlying60, Tryz.underlying3, sz52, sz68, sz58, sz45, sz3] at hz
        exact fin hz (by unfold twiceV; rw [if_neg (fun hh => h3 hh.1.2.2)]; rfl) g9
    · rw [errV_neg h2] at k7
      obtain ⟨S8, k8, n8, b8, o8⟩ := st_open (vs := [.int .i64 0, .int .i64 0, .int .i64 0, .int .i64 0, .int .i64 0]) sz58 vm_7 rfl rfl rfl
      have vx_8 := (o8 S.next (by omega)).trans vx_7
      have vy_8 := (o8 S1.next (by omega)).trans vy_7
      have vw_8 := (o8 S2.next (by omega)).trans vw_7
      have vi_8 := (o8 S3.next (by omega)).trans vi_7
      have g8 : Agree S S8 := ⟨by have := g7.1; omega, fun id hid => (o8 id (by omega)).trans (g7.2 id hid)⟩
      simp (disch := first | omega | assumption) only [E0_G, List.size_toArray, List.length_cons, List.length_nil, setArgs, start_list, code_seq, code_region, code_cond, code_ret, code_skip, code_exit, code_label, code_block, code_loop, leave_normal, leave_ret, leave_exit, leave_ite,
    andThen_normal, andThen_ret, andThen_exit, andThen_ite, behind_some, behind_ite, List.map_cons, List.map_nil, run_nil, run_cons, run_guarded, guardV_some, guard_tt, guard_tf, guard_ft, guard_ff, guard_undef, store_off, off, agreeKind, Bool.and_false, Bool.false_and, Bool.and_true, Bool.true_and,
    op_assign, op_move, op_pick, pickV_true, pickV_false,  op_bin, op_box, op_load, op_store, op_field, op_fieldAddr, op_index, op_indexAddr, op_extract, op_call, called_some, op_not, op_neg, op_min, op_max, op_min3, op_convert, convV_int, op_build, partVals,  vals, val_tmp, val_int, val_bool, val_str, val_nilSlice, val_nilFunc, val_func, val_global,
    put_some, put_none, get_sel, T.get_lf, Option.map_some, Option.map_none, Option.bind_some, Option.bind_none, firstOf_some, Nat.reduceAdd, Nat.reduceSub, Nat.reduceMul, Nat.reduceLT, Nat.reduceEqDiff, Nat.reduceBEq, cond_yes, cond_no, if_true, if_false, reduceIte, sel_true, sel_false, decide_true, decide_false, Bool.not_true, Bool.not_false,
    bin_add, bin_sub, bin_mul, bin_quo, bin_rem, bin_and, bin_or, bin_xor, bin_andNot, bin_eql, bin_neq, bin_lss, bin_leq, bin_gtr, bin_geq, bin_shl, bin_shr, bin_eqlAgg, bin_neqAgg, bin_eqlBool, bin_neqBool, boolV?_bool, eq_self,  ne_eq, Int.reduceEq, Int.reduceLT, Int.reduceLE, not_false_eq_true, handed_ret, handed_normal, handed_ite, results_nil, results_t, results_c, consV_some, op_alloc, allocV,
    next_push, next_upd, push_eq, push_ne, upd_eq, upd_ne, cell_at, cellOf_cells, put_at, putOf_cells, boxed, ldA, rdCells,  oneB, aggD, aField, aFieldV, addr_add, cells_agg, cells_int, cells_bool, cells_string, cells_pointer, cells_slice, cells_func, List.getElem?_cons_zero, List.getElem?_cons_succ, List.getElem?_toArray, List.set_cons_zero, List.set_cons_succ, List.toList_toArray, Nat.zero_add, Nat.add_zero, reduceCtorEq, e1, e2, e3, e4, e5, inTab58, zero58, noMark, aExtract, vx_5, vy_5, vw_5, vi_5, b5, k6, vx_6, vy_6, vw_6, vi_6, k7, vx_7, vy_7, vw_7, vi_7, k8, b8, Tryz.underlying63, Tryz.underlying58, Tryz.underlying46, Tryz.underlying60, Tryz.underlying3, sz52, sz68, sz58, sz45, sz3] at hz
      exact fin hz (by unfold twiceV; rw [if_neg (fun hh => h2 hh.1.2.1)]; rfl) g8
  · rw [errV_neg h1] at k6
    obtain ⟨S7, k7, n7, b7, o7⟩ := st_open (vs := [.int .i64 0, .int .i64 0, .int .i64 0, .int .i64 0, .int .i64 0]) sz58 vm_6 rfl rfl rfl
    have vx_7 := (o7 S.next (by omega)).trans vx_6
    have vy_7 := (o7 S1.next (by omega)).trans vy_6
    have vw_7 := (o7 S2.next (by omega)).trans vw_6
    have vi_7 := (o7 S3.next (by omega)).trans vi_6
    have g7 : Agree S S7 := ⟨by have := g6.1; omega, fun id hid => (o7 id (by omega)).trans (g6.2 id hid)⟩
    simp (disch := first | omega | assumption) only [E0_G, List.size_toArray, List.length_cons, List.length_nil, setArgs, start_list, code_seq, code_region, code_cond, code_ret, code_skip, code_exit, code_label, code_block, code_loop, leave_normal, leave_ret, leave_exit, leave_ite,
    andThen_normal, andThen_ret, andThen_exit, andThen_ite, behind_some, behind_ite, List.map_cons, List.map_nil, run_nil, run_cons, run_guarded, guardV_some, guard_tt, guard_tf, guard_ft, guard_ff, guard_undef, store_off, off, agreeKind, Bool.and_false, Bool.false_and, Bool.and_true, Bool.true_and,
    op_assign, op_move, op_pick, pickV_true, pickV_false,  op_bin, op_box, op_load, op_store, op_field, op_fieldAddr, op_index, op_indexAddr, op_extract, op_call, called_some, op_not, op_neg, op_min, op_max, op_min3, op_convert, convV_int, op_build, partVals,  vals, val_tmp, val_int, val_bool, val_str, val_nilSlice, val_nilFunc, val_func, val_global,
    put_some, put_none, get_sel, T.get_lf, Option.map_some, Option.map_none, Option.bind_some, Option.bind_none, firstOf_some, Nat.reduceAdd, Nat.reduceSub, Nat.reduceMul, Nat.reduceLT, Nat.reduceEqDiff, Nat.reduceBEq, cond_yes, cond_no, if_true, if_false, reduceIte, sel_true, sel_false, decide_true, decide_false, Bool.not_true, Bool.not_false,
    bin_add, bin_sub, bin_mul, bin_quo, bin_rem, bin_and, bin_or, bin_xor, bin_andNot, bin_eql, bin_neq, bin_lss, bin_leq, bin_gtr, bin_geq, bin_shl, bin_shr, bin_eqlAgg, bin_neqAgg, bin_eqlBool, bin_neqBool, boolV?_bool, eq_self,  ne_eq, Int.reduceEq, Int.reduceLT, Int.reduceLE, not_false_eq_true, handed_ret, handed_normal, handed_ite, results_nil, results_t, results_c, consV_some, op_alloc, allocV,
    next_push, next_upd, push_eq, push_ne, upd_eq, upd_ne, cell_at, cellOf_cells, put_at, putOf_cells, boxed, ldA, rdCells,  oneB, aggD, aField, aFieldV, addr_add, cells_agg, cells_int, cells_bool, cells_string, cells_pointer, cells_slice, cells_func, List.getElem?_cons_zero, List.getElem?_cons_succ, List.getElem?_toArray, List.set_cons_zero, List.set_cons_succ, List.toList_toArray, Nat.zero_add, Nat.add_zero, reduceCtorEq, e1, e2, e3, e4, e5, inTab58, zero58, noMark, aExtract, vx_5, vy_5, vw_5, vi_5, b5, k6, vx_6, vy_6, vw_6, vi_6, k7, b7, Tryz.underlying63, Tryz.underlying58, Tryz.underlying46, Tryz.underlying60, Tryz.underlying3, sz52, sz68, sz58, sz45, sz3] at hz
    exact fin hz (by unfold twiceV; rw [if_neg (fun hh => h1 hh.1.1)]; rfl) g7
end Great
end Go.Proofs
