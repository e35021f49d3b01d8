/-
  The great seat of stage 1 at c2f8ee9: Strike.
-/
import Derived.Test.YtgbjgljchkodjaaGreatDoorBZ
set_option linter.unusedSimpArgs false
set_option linter.unusedVariables false
namespace Go.Proofs
namespace Great
open Go Go.RowKit Go.Aev
set_option maxRecDepth 100000
def HitOk (set mi di sh f s l : Int) : Prop := cnt (andV set mi) ≤ f ∧ cnt (notV di set) ≤ s ∧ -l ≤ sh ∧ sh ≤ l
instance (set mi di sh f s l : Int) : Decidable (HitOk set mi di sh f s l) := by unfold HitOk; infer_instance
def seenV (set mi di : Int) : Int := orV (notV set mi) di
def hitV (set tr at_ lo mi di sh f s l : Int) : Value :=
  if HitOk set mi di sh f s l then .tuple #[.agg #[.int .i64 (angle (angle at_ + sh)), .int .i64 lo, .int .i64 tr, .int .i64 (seenV set mi di), .int .i64 (notV 4095 (seenV set mi di))], .int .i64 0]
  else .tuple #[.agg #[.int .i64 0, .int .i64 0, .int .i64 0, .int .i64 0, .int .i64 0], .int .i64 3]
theorem seen_fold (set mi di : Int) : orV (notV set mi) di = seenV set mi di := rfl
theorem neg_wrap {l : Int} (h0 : 0 ≤ l) (h1 : l ≤ 600) : IntKind.i64.wrap (0 - l) = -l := by rw [IntWalk.i64_in] <;> omega
theorem shift_wrap {at_ sh l : Int} (h1 : l ≤ 600) (h2 : -l ≤ sh) (h3 : sh ≤ l) : IntKind.i64.wrap (angle at_ + sh) = angle at_ + sh := by
  have := angle_range at_
  rw [IntWalk.i64_in]; omega
set_option maxHeartbeats 1000000 in
theorem c113 (set tr at_ lo mi di sh f s l : Int) (S : AS) (hI : InkOk f s l) : ∃ S', (evL Tryz.prog E0).call 72 #[.int .i64 set, .int .i64 tr, .int .i64 at_, .int .i64 lo, .agg #[.int .i64 mi, .int .i64 di, .int .i64 sh], .agg #[.int .i64 f, .int .i64 s, .int .i64 l]] S = some (hitV set tr at_ lo mi di sh f s l, S') ∧ Agree S S' := by
  have hl : 0 ≤ l ∧ l ≤ 600 := by unfold InkOk at hI; omega
  have wn := neg_wrap hl.1 hl.2
  obtain ⟨S1, e1, n1, b1, a1⟩ := push_open S (.cells [.int .i64 mi, .int .i64 di, .int .i64 sh] 58 0 true true)
  obtain ⟨S2, e2, n2, b2, a2⟩ := push_open S1 (.cells [.int .i64 f, .int .i64 s, .int .i64 l] 60 0 true true)
  obtain ⟨S3, e3, n3, b3, a3⟩ := push_open S2 (.cells [.int .i64 0, .int .i64 0, .int .i64 0, .int .i64 0, .int .i64 0] 46 0 true true)
  have i3 := (a3.2 S1.next (by omega)).trans b2
  have w3 := (a3.2 S.next (by omega)).trans ((a2.2 S.next (by omega)).trans b1)
  obtain ⟨S4, k4, n4, b4, o4⟩ := st_open (vs := [.int .i64 0, .int .i64 0, .int .i64 0, .int .i64 0, .int .i64 0]) sz58 b3 rfl rfl rfl
  have ag3 := (a1.trans a2).trans a3
  have ag4 : Agree S S4 := ⟨by omega, fun id hid => (o4 id (by omega)).trans (ag3.2 id hid)⟩
  obtain ⟨S5, k5, a5⟩ := c104 (angle (angle at_ + sh)) lo tr (seenV set mi di) S3
  have l5 := a5.1
  obtain ⟨S6, k6, n6, b6, o6⟩ := st_open (vs := [.int .i64 (angle (angle at_ + sh)), .int .i64 lo, .int .i64 tr, .int .i64 (seenV set mi di), .int .i64 (notV 4095 (seenV set mi di))]) sz58 ((a5.2 S2.next (by omega)).trans b3) rfl rfl rfl
  have ag6 : Agree S S6 := ⟨by omega, fun id hid => (o6 id (by omega)).trans ((ag3.trans a5).2 id hid)⟩
  generalize hz : (evL Tryz.prog E0).call 72 _ _ = z
  rw [L_call, evCall_said rfl Tryz.func72 rfl (by decide) Tryz.ntmps72 Tryz.results72] at hz
  simp (disch := first | omega | assumption) only [E0_G, List.size_toArray, List.length_cons, List.length_nil, setArgs, start_list, code_seq, code_region, code_cond, code_ret, code_skip, code_exit, code_label, code_block, code_loop, leave_normal, leave_ret, leave_exit, leave_ite,
    andThen_normal, andThen_ret, andThen_exit, andThen_ite, behind_some, behind_ite, List.map_cons, List.map_nil, run_nil, run_cons, run_guarded, guardV_some, guard_tt, guard_tf, guard_ft, guard_ff, guard_undef, store_off, off, agreeKind, Bool.and_false, Bool.false_and, Bool.and_true, Bool.true_and,
    op_assign, op_move, op_pick, pickV_true, pickV_false,  op_bin, op_box, op_load, op_store, op_field, op_fieldAddr, op_index, op_indexAddr, op_extract, op_call, called_some, op_not, op_neg, op_min, op_max, op_min3, op_convert, convV_int, op_build, partVals,  vals, val_tmp, val_int, val_bool, val_str, val_nilSlice, val_nilFunc, val_func, val_global,
    put_some, put_none, get_sel, T.get_lf, Option.map_some, Option.map_none, Option.bind_some, Option.bind_none, firstOf_some, Nat.reduceAdd, Nat.reduceSub, Nat.reduceMul, Nat.reduceLT, Nat.reduceEqDiff, Nat.reduceBEq, cond_yes, cond_no, if_true, if_false, reduceIte, sel_true, sel_false, decide_true, decide_false, Bool.not_true, Bool.not_false,
    bin_add, bin_sub, bin_mul, bin_quo, bin_rem, bin_and, bin_or, bin_xor, bin_andNot, bin_eql, bin_neq, bin_lss, bin_leq, bin_gtr, bin_geq, bin_shl, bin_shr, bin_eqlAgg, bin_neqAgg, bin_eqlBool, bin_neqBool, boolV?_bool, eq_self,  ne_eq, Int.reduceEq, Int.reduceLT, Int.reduceLE, not_false_eq_true, handed_ret, handed_normal, handed_ite, results_nil, results_t, results_c, consV_some, op_alloc, allocV,
    next_push, next_upd, push_eq, push_ne, upd_eq, upd_ne, cell_at, cellOf_cells, put_at, putOf_cells, boxed, ldA, rdCells,  oneB, aggD, aField, aFieldV, addr_add, cells_agg, cells_int, cells_bool, cells_string, cells_pointer, cells_slice, cells_func, List.getElem?_cons_zero, List.getElem?_cons_succ, List.getElem?_toArray, List.set_cons_zero, List.set_cons_succ, List.toList_toArray, Nat.zero_add, Nat.add_zero, reduceCtorEq, e1, e2, e3, inTab58, zero58] at hz
  rw [code_draws _ _ _ (by kernel_rfl)] at hz
  generalize needy _ = nd at hz
  by_cases h1 : f < cnt (andV set mi) <;> by_cases h2 : s < cnt (notV di set) <;> by_cases h3 : sh < -l <;> by_cases h4 : l < sh <;>
    first
    | (exfalso; omega)
    | (have hH : ¬ HitOk set mi di sh f s l := by unfold HitOk; omega
       simp (disch := first | omega | assumption) only [E0_G, List.size_toArray, List.length_cons, List.length_nil, setArgs, start_list, code_seq, code_region, code_cond, code_ret, code_skip, code_exit, code_label, code_block, code_loop, leave_normal, leave_ret, leave_exit, leave_ite,
    andThen_normal, andThen_ret, andThen_exit, andThen_ite, behind_some, behind_ite, List.map_cons, List.map_nil, run_nil, run_cons, run_guarded, guardV_some, guard_tt, guard_tf, guard_ft, guard_ff, guard_undef, store_off, off, agreeKind, Bool.and_false, Bool.false_and, Bool.and_true, Bool.true_and,
    op_assign, op_move, op_pick, pickV_true, pickV_false,  op_bin, op_box, op_load, op_store, op_field, op_fieldAddr, op_index, op_indexAddr, op_extract, op_call, called_some, op_not, op_neg, op_min, op_max, op_min3, op_convert, convV_int, op_build, partVals,  vals, val_tmp, val_int, val_bool, val_str, val_nilSlice, val_nilFunc, val_func, val_global,
    put_some, put_none, get_sel, T.get_lf, Option.map_some, Option.map_none, Option.bind_some, Option.bind_none, firstOf_some, Nat.reduceAdd, Nat.reduceSub, Nat.reduceMul, Nat.reduceLT, Nat.reduceEqDiff, Nat.reduceBEq, cond_yes, cond_no, if_true, if_false, reduceIte, sel_true, sel_false, decide_true, decide_false, Bool.not_true, Bool.not_false,
    bin_add, bin_sub, bin_mul, bin_quo, bin_rem, bin_and, bin_or, bin_xor, bin_andNot, bin_eql, bin_neq, bin_lss, bin_leq, bin_gtr, bin_geq, bin_shl, bin_shr, bin_eqlAgg, bin_neqAgg, bin_eqlBool, bin_neqBool, boolV?_bool, eq_self,  ne_eq, Int.reduceEq, Int.reduceLT, Int.reduceLE, not_false_eq_true, handed_ret, handed_normal, handed_ite, results_nil, results_t, results_c, consV_some, op_alloc, allocV,
    next_push, next_upd, push_eq, push_ne, upd_eq, upd_ne, cell_at, cellOf_cells, put_at, putOf_cells, boxed, ldA, rdCells,  oneB, aggD, aField, aFieldV, addr_add, cells_agg, cells_int, cells_bool, cells_string, cells_pointer, cells_slice, cells_func, List.getElem?_cons_zero, List.getElem?_cons_succ, List.getElem?_toArray, List.set_cons_zero, List.set_cons_succ, List.toList_toArray, Nat.zero_add, Nat.add_zero, reduceCtorEq, c136, store_refl E0_same, w3, i3, and_fold, not_fold, wn, h1, h2, h3, h4, noMark, k4, b4, Tryz.underlying58, Tryz.underlying46, Tryz.underlying60, Tryz.underlying3, sz68, sz58, sz45, sz3] at hz
       exact fin hz (if_neg hH).symm ag4)
    | (have hH : HitOk set mi di sh f s l := by unfold HitOk; omega
       have ws : IntKind.i64.wrap (angle at_ + sh) = angle at_ + sh := shift_wrap hl.2 hH.2.2.1 hH.2.2.2
       simp (disch := first | omega | assumption) only [E0_G, List.size_toArray, List.length_cons, List.length_nil, setArgs, start_list, code_seq, code_region, code_cond, code_ret, code_skip, code_exit, code_label, code_block, code_loop, leave_normal, leave_ret, leave_exit, leave_ite,
    andThen_normal, andThen_ret, andThen_exit, andThen_ite, behind_some, behind_ite, List.map_cons, List.map_nil, run_nil, run_cons, run_guarded, guardV_some, guard_tt, guard_tf, guard_ft, guard_ff, guard_undef, store_off, off, agreeKind, Bool.and_false, Bool.false_and, Bool.and_true, Bool.true_and,
    op_assign, op_move, op_pick, pickV_true, pickV_false,  op_bin, op_box, op_load, op_store, op_field, op_fieldAddr, op_index, op_indexAddr, op_extract, op_call, called_some, op_not, op_neg, op_min, op_max, op_min3, op_convert, convV_int, op_build, partVals,  vals, val_tmp, val_int, val_bool, val_str, val_nilSlice, val_nilFunc, val_func, val_global,
    put_some, put_none, get_sel, T.get_lf, Option.map_some, Option.map_none, Option.bind_some, Option.bind_none, firstOf_some, Nat.reduceAdd, Nat.reduceSub, Nat.reduceMul, Nat.reduceLT, Nat.reduceEqDiff, Nat.reduceBEq, cond_yes, cond_no, if_true, if_false, reduceIte, sel_true, sel_false, decide_true, decide_false, Bool.not_true, Bool.not_false,
    bin_add, bin_sub, bin_mul, bin_quo, bin_rem, bin_and, bin_or, bin_xor, bin_andNot, bin_eql, bin_neq, bin_lss, bin_leq, bin_gtr, bin_geq, bin_shl, bin_shr, bin_eqlAgg, bin_neqAgg, bin_eqlBool, bin_neqBool, boolV?_bool, eq_self,  ne_eq, Int.reduceEq, Int.reduceLT, Int.reduceLE, not_false_eq_true, handed_ret, handed_normal, handed_ite, results_nil, results_t, results_c, consV_some, op_alloc, allocV,
    next_push, next_upd, push_eq, push_ne, upd_eq, upd_ne, cell_at, cellOf_cells, put_at, putOf_cells, boxed, ldA, rdCells,  oneB, aggD, aField, aFieldV, addr_add, cells_agg, cells_int, cells_bool, cells_string, cells_pointer, cells_slice, cells_func, List.getElem?_cons_zero, List.getElem?_cons_succ, List.getElem?_toArray, List.set_cons_zero, List.set_cons_succ, List.toList_toArray, Nat.zero_add, Nat.add_zero, reduceCtorEq, c136, store_refl E0_same, w3, i3, and_fold, not_fold, wn, h1, h2, h3, h4, Tryz.underlying58, Tryz.underlying46, Tryz.underlying60, Tryz.underlying3, sz68, sz58, sz45, sz3] at hz
       rw [code_draws _ _ _ (by kernel_rfl)] at hz
       generalize needy _ = nd at hz
       simp (disch := first | omega | assumption) only [E0_G, List.size_toArray, List.length_cons, List.length_nil, setArgs, start_list, code_seq, code_region, code_cond, code_ret, code_skip, code_exit, code_label, code_block, code_loop, leave_normal, leave_ret, leave_exit, leave_ite,
    andThen_normal, andThen_ret, andThen_exit, andThen_ite, behind_some, behind_ite, List.map_cons, List.map_nil, run_nil, run_cons, run_guarded, guardV_some, guard_tt, guard_tf, guard_ft, guard_ff, guard_undef, store_off, off, agreeKind, Bool.and_false, Bool.false_and, Bool.and_true, Bool.true_and,
    op_assign, op_move, op_pick, pickV_true, pickV_false,  op_bin, op_box, op_load, op_store, op_field, op_fieldAddr, op_index, op_indexAddr, op_extract, op_call, called_some, op_not, op_neg, op_min, op_max, op_min3, op_convert, convV_int, op_build, partVals,  vals, val_tmp, val_int, val_bool, val_str, val_nilSlice, val_nilFunc, val_func, val_global,
    put_some, put_none, get_sel, T.get_lf, Option.map_some, Option.map_none, Option.bind_some, Option.bind_none, firstOf_some, Nat.reduceAdd, Nat.reduceSub, Nat.reduceMul, Nat.reduceLT, Nat.reduceEqDiff, Nat.reduceBEq, cond_yes, cond_no, if_true, if_false, reduceIte, sel_true, sel_false, decide_true, decide_false, Bool.not_true, Bool.not_false,
    bin_add, bin_sub, bin_mul, bin_quo, bin_rem, bin_and, bin_or, bin_xor, bin_andNot, bin_eql, bin_neq, bin_lss, bin_leq, bin_gtr, bin_geq, bin_shl, bin_shr, bin_eqlAgg, bin_neqAgg, bin_eqlBool, bin_neqBool, boolV?_bool, eq_self,  ne_eq, Int.reduceEq, Int.reduceLT, Int.reduceLE, not_false_eq_true, handed_ret, handed_normal, handed_ite, results_nil, results_t, results_c, consV_some, op_alloc, allocV,
    next_push, next_upd, push_eq, push_ne, upd_eq, upd_ne, cell_at, cellOf_cells, put_at, putOf_cells, boxed, ldA, rdCells,  oneB, aggD, aField, aFieldV, addr_add, cells_agg, cells_int, cells_bool, cells_string, cells_pointer, cells_slice, cells_func, List.getElem?_cons_zero, List.getElem?_cons_succ, List.getElem?_toArray, List.set_cons_zero, List.set_cons_succ, List.toList_toArray, Nat.zero_add, Nat.add_zero, reduceCtorEq, c76, ws, store_refl E0_same, w3, i3, newArc, not_fold, or_fold, seen_fold, k5, k6, b6, Tryz.underlying58, Tryz.underlying46, Tryz.underlying60, Tryz.underlying3, sz68, sz58, sz45, sz3] at hz
       exact fin hz (if_pos hH).symm ag6)
end Great
end Go.Proofs
