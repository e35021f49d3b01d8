/-
  BZZ: EvZ4, EvZ5, EvZ6.
-/
import Derived.Test.YtgbjgljchkodjaaDoorBZ
section
/-
  The great seat of stage 1 at c2f8ee9: Strike.
-/
set_option linter.unusedSimpArgs false
set_option linter.unusedVariables false
namespace Go.Proofs
namespace Great
open Go Go.RowKit Go.Aev
set_option maxRecDepth 100000
def HitOk (set mi di sh f s l : Int) : Prop := cnt (andV set mi) ≤ f ∧ cnt (notV di set) ≤ s ∧ -l ≤ sh ∧ sh ≤ l
instance (set mi di sh f s l : Int) : Decidable (HitOk set mi di sh f s l) := by unfold HitOk; infer_instance
def seenV (set mi di : Int) : Int := orV (notV set mi) di
def hitV (set tr at_ lo mi di sh f s l : Int) : Value :=
  if HitOk set mi di sh f s l then .tuple #[.agg #[.int .i64 (angle (angle at_ + sh)), .int .i64 lo, .int .i64 tr, .int .i64 (seenV set mi di), .int .i64 (notV 4095 (seenV set mi di))], .int .i64 0]
  else .tuple #[.agg #[.int .i64 0, .int .i64 0, .int .i64 0, .int .i64 0, .int .i64 0], .int .i64 3]
theorem seen_fold (set mi di : Int) : orV (notV set mi) di = seenV set mi di := rfl
theorem neg_wrap {l : Int} (h0 : 0 ≤ l) (h1 : l ≤ 600) : IntKind.i64.wrap (0 - l) = -l := by rw [IntWalk.i64_in] <;> omega
theorem shift_wrap {at_ sh l : Int} (h1 : l ≤ 600) (h2 : -l ≤ sh) (h3 : sh ≤ l) : IntKind.i64.wrap (angle at_ + sh) = angle at_ + sh := by
  have := angle_range at_
  rw [IntWalk.i64_in]; omega
set_option maxHeartbeats 1000000 in
theorem c113 (set tr at_ lo mi di sh f s l : Int) (S : AS) (hI : InkOk f s l) : ∃ S', (evL Tryd.prog E0).call 37 #[.int .i64 set, .int .i64 tr, .int .i64 at_, .int .i64 lo, .agg #[.int .i64 mi, .int .i64 di, .int .i64 sh], .agg #[.int .i64 f, .int .i64 s, .int .i64 l]] S = some (hitV set tr at_ lo mi di sh f s l, S') ∧ Agree S S' := by
  have hl : 0 ≤ l ∧ l ≤ 600 := by unfold InkOk at hI; omega
  have wn := neg_wrap hl.1 hl.2
  obtain ⟨S1, e1, n1, b1, a1⟩ := push_open S (.cells [.int .i64 mi, .int .i64 di, .int .i64 sh] 52 0 true true)
  obtain ⟨S2, e2, n2, b2, a2⟩ := push_open S1 (.cells [.int .i64 f, .int .i64 s, .int .i64 l] 41 0 true true)
  obtain ⟨S3, e3, n3, b3, a3⟩ := push_open S2 (.cells [.int .i64 0, .int .i64 0, .int .i64 0, .int .i64 0, .int .i64 0] 39 0 true true)
  have i3 := (a3.2 S1.next (by omega)).trans b2
  have w3 := (a3.2 S.next (by omega)).trans ((a2.2 S.next (by omega)).trans b1)
  obtain ⟨S4, k4, n4, b4, o4⟩ := st_open (vs := [.int .i64 0, .int .i64 0, .int .i64 0, .int .i64 0, .int .i64 0]) sz58 b3 rfl rfl rfl
  have ag3 := (a1.trans a2).trans a3
  have ag4 : Agree S S4 := ⟨by omega, fun id hid => (o4 id (by omega)).trans (ag3.2 id hid)⟩
  obtain ⟨S5, k5, a5⟩ := c104 (angle (angle at_ + sh)) lo tr (seenV set mi di) S3
  have l5 := a5.1
  obtain ⟨S6, k6, n6, b6, o6⟩ := st_open (vs := [.int .i64 (angle (angle at_ + sh)), .int .i64 lo, .int .i64 tr, .int .i64 (seenV set mi di), .int .i64 (notV 4095 (seenV set mi di))]) sz58 ((a5.2 S2.next (by omega)).trans b3) rfl rfl rfl
  have ag6 : Agree S S6 := ⟨by omega, fun id hid => (o6 id (by omega)).trans ((ag3.trans a5).2 id hid)⟩
  generalize hz : (evL Tryd.prog E0).call 37 _ _ = z
  rw [L_call, evCall_said rfl Tryd.func37 rfl (by decide) Tryd.ntmps37 Tryd.results37] at hz
  simp (disch := first | omega | assumption) only [E0_G, List.size_toArray, List.length_cons, List.length_nil, setArgs, start_list, code_seq, code_region, code_cond, code_ret, code_skip, code_exit, code_label, code_block, code_loop, leave_normal, leave_ret, leave_exit, leave_ite,
    andThen_normal, andThen_ret, andThen_exit, andThen_ite, behind_some, behind_ite, List.map_cons, List.map_nil, run_nil, run_cons, run_guarded, guardV_some, guard_tt, guard_tf, guard_ft, guard_ff, guard_undef, store_off, off, agreeKind, Bool.and_false, Bool.false_and, Bool.and_true, Bool.true_and,
    op_assign, op_move, op_pick, pickV_true, pickV_false,  op_bin, op_box, op_load, op_store, op_field, op_fieldAddr, op_index, op_indexAddr, op_extract, op_call, called_some, op_not, op_neg, op_min, op_max, op_min3, op_convert, convV_int, op_build, partVals,  vals, val_tmp, val_int, val_bool, val_str, val_nilSlice, val_nilFunc, val_func, val_global,
    put_some, put_none, get_sel, T.get_lf, Option.map_some, Option.map_none, Option.bind_some, Option.bind_none, firstOf_some, Nat.reduceAdd, Nat.reduceSub, Nat.reduceMul, Nat.reduceLT, Nat.reduceEqDiff, Nat.reduceBEq, cond_yes, cond_no, if_true, if_false, reduceIte, sel_true, sel_false, decide_true, decide_false, Bool.not_true, Bool.not_false,
    bin_add, bin_sub, bin_mul, bin_quo, bin_rem, bin_and, bin_or, bin_xor, bin_andNot, bin_eql, bin_neq, bin_lss, bin_leq, bin_gtr, bin_geq, bin_shl, bin_shr, bin_eqlAgg, bin_neqAgg, bin_eqlBool, bin_neqBool, boolV?_bool, eq_self,  ne_eq, Int.reduceEq, Int.reduceLT, Int.reduceLE, not_false_eq_true, handed_ret, handed_normal, handed_ite, results_nil, results_t, results_c, consV_some, op_alloc, allocV,
    next_push, next_upd, push_eq, push_ne, upd_eq, upd_ne, cell_at, cellOf_cells, put_at, putOf_cells, boxed, ldA, rdCells,  oneB, aggD, aField, aFieldV, addr_add, cells_agg, cells_int, cells_bool, cells_string, cells_pointer, cells_slice, cells_func, List.getElem?_cons_zero, List.getElem?_cons_succ, List.getElem?_toArray, List.set_cons_zero, List.set_cons_succ, List.toList_toArray, Nat.zero_add, Nat.add_zero, reduceCtorEq, e1, e2, e3, inTab58, zero58] at hz
  rw [code_draws _ _ _ (by kernel_rfl)] at hz
  generalize needy _ = nd at hz
  by_cases h1 : f < cnt (andV set mi) <;> by_cases h2 : s < cnt (notV di set) <;> by_cases h3 : sh < -l <;> by_cases h4 : l < sh <;>
    first
    | (exfalso; omega)
    | (have hH : ¬ HitOk set mi di sh f s l := by unfold HitOk; omega
       simp (disch := first | omega | assumption) only [E0_G, List.size_toArray, List.length_cons, List.length_nil, setArgs, start_list, code_seq, code_region, code_cond, code_ret, code_skip, code_exit, code_label, code_block, code_loop, leave_normal, leave_ret, leave_exit, leave_ite,
    andThen_normal, andThen_ret, andThen_exit, andThen_ite, behind_some, behind_ite, List.map_cons, List.map_nil, run_nil, run_cons, run_guarded, guardV_some, guard_tt, guard_tf, guard_ft, guard_ff, guard_undef, store_off, off, agreeKind, Bool.and_false, Bool.false_and, Bool.and_true, Bool.true_and,
    op_assign, op_move, op_pick, pickV_true, pickV_false,  op_bin, op_box, op_load, op_store, op_field, op_fieldAddr, op_index, op_indexAddr, op_extract, op_call, called_some, op_not, op_neg, op_min, op_max, op_min3, op_convert, convV_int, op_build, partVals,  vals, val_tmp, val_int, val_bool, val_str, val_nilSlice, val_nilFunc, val_func, val_global,
    put_some, put_none, get_sel, T.get_lf, Option.map_some, Option.map_none, Option.bind_some, Option.bind_none, firstOf_some, Nat.reduceAdd, Nat.reduceSub, Nat.reduceMul, Nat.reduceLT, Nat.reduceEqDiff, Nat.reduceBEq, cond_yes, cond_no, if_true, if_false, reduceIte, sel_true, sel_false, decide_true, decide_false, Bool.not_true, Bool.not_false,
    bin_add, bin_sub, bin_mul, bin_quo, bin_rem, bin_and, bin_or, bin_xor, bin_andNot, bin_eql, bin_neq, bin_lss, bin_leq, bin_gtr, bin_geq, bin_shl, bin_shr, bin_eqlAgg, bin_neqAgg, bin_eqlBool, bin_neqBool, boolV?_bool, eq_self,  ne_eq, Int.reduceEq, Int.reduceLT, Int.reduceLE, not_false_eq_true, handed_ret, handed_normal, handed_ite, results_nil, results_t, results_c, consV_some, op_alloc, allocV,
    next_push, next_upd, push_eq, push_ne, upd_eq, upd_ne, cell_at, cellOf_cells, put_at, putOf_cells, boxed, ldA, rdCells,  oneB, aggD, aField, aFieldV, addr_add, cells_agg, cells_int, cells_bool, cells_string, cells_pointer, cells_slice, cells_func, List.getElem?_cons_zero, List.getElem?_cons_succ, List.getElem?_toArray, List.set_cons_zero, List.set_cons_succ, List.toList_toArray, Nat.zero_add, Nat.add_zero, reduceCtorEq, c136, store_refl E0_same, w3, i3, and_fold, not_fold, wn, h1, h2, h3, h4, noMark, k4, b4, Tryd.underlying52, Tryd.underlying39, Tryd.underlying41, Tryd.underlying3, sz68, sz58, sz45, sz3] at hz
       exact fin hz (if_neg hH).symm ag4)
    | (have hH : HitOk set mi di sh f s l := by unfold HitOk; omega
       have ws : IntKind.i64.wrap (angle at_ + sh) = angle at_ + sh := shift_wrap hl.2 hH.2.2.1 hH.2.2.2
       simp (disch := first | omega | assumption) only [E0_G, List.size_toArray, List.length_cons, List.length_nil, setArgs, start_list, code_seq, code_region, code_cond, code_ret, code_skip, code_exit, code_label, code_block, code_loop, leave_normal, leave_ret, leave_exit, leave_ite,
    andThen_normal, andThen_ret, andThen_exit, andThen_ite, behind_some, behind_ite, List.map_cons, List.map_nil, run_nil, run_cons, run_guarded, guardV_some, guard_tt, guard_tf, guard_ft, guard_ff, guard_undef, store_off, off, agreeKind, Bool.and_false, Bool.false_and, Bool.and_true, Bool.true_and,
    op_assign, op_move, op_pick, pickV_true, pickV_false,  op_bin, op_box, op_load, op_store, op_field, op_fieldAddr, op_index, op_indexAddr, op_extract, op_call, called_some, op_not, op_neg, op_min, op_max, op_min3, op_convert, convV_int, op_build, partVals,  vals, val_tmp, val_int, val_bool, val_str, val_nilSlice, val_nilFunc, val_func, val_global,
    put_some, put_none, get_sel, T.get_lf, Option.map_some, Option.map_none, Option.bind_some, Option.bind_none, firstOf_some, Nat.reduceAdd, Nat.reduceSub, Nat.reduceMul, Nat.reduceLT, Nat.reduceEqDiff, Nat.reduceBEq, cond_yes, cond_no, if_true, if_false, reduceIte, sel_true, sel_false, decide_true, decide_false, Bool.not_true, Bool.not_false,
    bin_add, bin_sub, bin_mul, bin_quo, bin_rem, bin_and, bin_or, bin_xor, bin_andNot, bin_eql, bin_neq, bin_lss, bin_leq, bin_gtr, bin_geq, bin_shl, bin_shr, bin_eqlAgg, bin_neqAgg, bin_eqlBool, bin_neqBool, boolV?_bool, eq_self,  ne_eq, Int.reduceEq, Int.reduceLT, Int.reduceLE, not_false_eq_true, handed_ret, handed_normal, handed_ite, results_nil, results_t, results_c, consV_some, op_alloc, allocV,
    next_push, next_upd, push_eq, push_ne, upd_eq, upd_ne, cell_at, cellOf_cells, put_at, putOf_cells, boxed, ldA, rdCells,  oneB, aggD, aField, aFieldV, addr_add, cells_agg, cells_int, cells_bool, cells_string, cells_pointer, cells_slice, cells_func, List.getElem?_cons_zero, List.getElem?_cons_succ, List.getElem?_toArray, List.set_cons_zero, List.set_cons_succ, List.toList_toArray, Nat.zero_add, Nat.add_zero, reduceCtorEq, c136, store_refl E0_same, w3, i3, and_fold, not_fold, wn, h1, h2, h3, h4, Tryd.underlying52, Tryd.underlying39, Tryd.underlying41, Tryd.underlying3, sz68, sz58, sz45, sz3] at hz
       rw [code_draws _ _ _ (by kernel_rfl)] at hz
       generalize needy _ = nd at hz
       simp (disch := first | omega | assumption) only [E0_G, List.size_toArray, List.length_cons, List.length_nil, setArgs, start_list, code_seq, code_region, code_cond, code_ret, code_skip, code_exit, code_label, code_block, code_loop, leave_normal, leave_ret, leave_exit, leave_ite,
    andThen_normal, andThen_ret, andThen_exit, andThen_ite, behind_some, behind_ite, List.map_cons, List.map_nil, run_nil, run_cons, run_guarded, guardV_some, guard_tt, guard_tf, guard_ft, guard_ff, guard_undef, store_off, off, agreeKind, Bool.and_false, Bool.false_and, Bool.and_true, Bool.true_and,
    op_assign, op_move, op_pick, pickV_true, pickV_false,  op_bin, op_box, op_load, op_store, op_field, op_fieldAddr, op_index, op_indexAddr, op_extract, op_call, called_some, op_not, op_neg, op_min, op_max, op_min3, op_convert, convV_int, op_build, partVals,  vals, val_tmp, val_int, val_bool, val_str, val_nilSlice, val_nilFunc, val_func, val_global,
    put_some, put_none, get_sel, T.get_lf, Option.map_some, Option.map_none, Option.bind_some, Option.bind_none, firstOf_some, Nat.reduceAdd, Nat.reduceSub, Nat.reduceMul, Nat.reduceLT, Nat.reduceEqDiff, Nat.reduceBEq, cond_yes, cond_no, if_true, if_false, reduceIte, sel_true, sel_false, decide_true, decide_false, Bool.not_true, Bool.not_false,
    bin_add, bin_sub, bin_mul, bin_quo, bin_rem, bin_and, bin_or, bin_xor, bin_andNot, bin_eql, bin_neq, bin_lss, bin_leq, bin_gtr, bin_geq, bin_shl, bin_shr, bin_eqlAgg, bin_neqAgg, bin_eqlBool, bin_neqBool, boolV?_bool, eq_self,  ne_eq, Int.reduceEq, Int.reduceLT, Int.reduceLE, not_false_eq_true, handed_ret, handed_normal, handed_ite, results_nil, results_t, results_c, consV_some, op_alloc, allocV,
    next_push, next_upd, push_eq, push_ne, upd_eq, upd_ne, cell_at, cellOf_cells, put_at, putOf_cells, boxed, ldA, rdCells,  oneB, aggD, aField, aFieldV, addr_add, cells_agg, cells_int, cells_bool, cells_string, cells_pointer, cells_slice, cells_func, List.getElem?_cons_zero, List.getElem?_cons_succ, List.getElem?_toArray, List.set_cons_zero, List.set_cons_succ, List.toList_toArray, Nat.zero_add, Nat.add_zero, reduceCtorEq, c76, ws, store_refl E0_same, w3, i3, newArc, not_fold, or_fold, seen_fold, k5, k6, b6, Tryd.underlying52, Tryd.underlying39, Tryd.underlying41, Tryd.underlying3, sz68, sz58, sz45, sz3] at hz
       exact fin hz (if_pos hH).symm ag6)
end Great
end Go.Proofs
end
section
/-
  The great seat of stage 1 at c2f8ee9: Strike and Twice.
-/
set_option linter.unusedSimpArgs false
set_option linter.unusedVariables false
namespace Go.Proofs
namespace Great
open Go Go.RowKit Go.Aev
set_option maxRecDepth 100000
def argV (e : Int) : Value := .tuple #[.agg #[.int .i64 0, .int .i64 0, .int .i64 0, .int .i64 0, .int .i64 0], .int .i64 e]
def strikeV (id tr p at_ mi di sh f s l : Int) : Value := if KeyOk id tr p ∧ BlowOk mi di f s l then hitV p tr at_ 0 mi di sh f s l else argV 1
theorem hitV_is (set tr at_ lo mi di sh f s l : Int) : ∃ a b c d e g : Int, hitV set tr at_ lo mi di sh f s l = .tuple #[.agg #[.int .i64 a, .int .i64 b, .int .i64 c, .int .i64 d, .int .i64 e], .int .i64 g] := by
  unfold hitV
  split <;> exact ⟨_, _, _, _, _, _, rfl⟩
set_option maxHeartbeats 1000000 in
theorem c50 (id tr p at_ mi di sh f s l : Int) (S : AS) : ∃ S', (evL Tryd.prog E0).call 18 #[.agg #[.int .i64 id, .int .i64 tr, .int .i64 p], .int .i64 at_, .agg #[.int .i64 mi, .int .i64 di, .int .i64 sh], .agg #[.int .i64 f, .int .i64 s, .int .i64 l]] S = some (strikeV id tr p at_ mi di sh f s l, S') ∧ Agree S S' := by
  obtain ⟨S1, e1, n1, b1, a1⟩ := push_open S (.cells [.int .i64 id, .int .i64 tr, .int .i64 p] 46 0 true true)
  obtain ⟨S2, e2, n2, b2, a2⟩ := push_open S1 (.cells [.int .i64 mi, .int .i64 di, .int .i64 sh] 52 0 true true)
  obtain ⟨S3, e3, n3, b3, a3⟩ := push_open S2 (.cells [.int .i64 f, .int .i64 s, .int .i64 l] 41 0 true true)
  obtain ⟨S4, e4, n4, b4, a4⟩ := push_open S3 (.cells [.int .i64 0, .int .i64 0, .int .i64 0, .int .i64 0, .int .i64 0] 39 0 true true)
  have i4 := (a4.2 S2.next (by omega)).trans b3
  have w4 := (a4.2 S1.next (by omega)).trans ((a3.2 S1.next (by omega)).trans b2)
  have y4 := (a4.2 S.next (by omega)).trans ((a3.2 S.next (by omega)).trans ((a2.2 S.next (by omega)).trans b1))
  obtain ⟨S5, k5, a5⟩ := c38 id tr p S4
  have l5 := a5.1
  have i5 := (a5.2 S2.next (by omega)).trans i4
  have w5 := (a5.2 S1.next (by omega)).trans w4
  have y5 := (a5.2 S.next (by omega)).trans y4
  have m5 := (a5.2 S3.next (by omega)).trans b4
  have ag4 := ((a1.trans a2).trans a3).trans a4
  generalize hz : (evL Tryd.prog E0).call 18 _ _ = z
  rw [L_call, evCall_said rfl Tryd.func18 rfl (by decide) Tryd.ntmps18 Tryd.results18] at hz
  by_cases hK : KeyOk id tr p
  · rw [errV_pos hK] at k5
    obtain ⟨S6, k6, a6⟩ := c112 mi di sh f s l S5
    have l6 := a6.1
    have i6 := (a6.2 S2.next (by omega)).trans i5
    have w6 := (a6.2 S1.next (by omega)).trans w5
    have y6 := (a6.2 S.next (by omega)).trans y5
    have m6 := (a6.2 S3.next (by omega)).trans m5
    by_cases hB : BlowOk mi di f s l
    · rw [errV_pos hB] at k6
      obtain ⟨S7, k7, a7⟩ := c113 p tr at_ 0 mi di sh f s l S6 hB.1
      have l7 := a7.1
      obtain ⟨u1, u2, u3, u4, u5, u6, hu⟩ := hitV_is p tr at_ 0 mi di sh f s l
      rw [hu] at k7
      obtain ⟨S8, k8, n8, b8, o8⟩ := st_open (vs := [.int .i64 u1, .int .i64 u2, .int .i64 u3, .int .i64 u4, .int .i64 u5]) sz58 ((a7.2 S3.next (by omega)).trans m6) rfl rfl rfl
      have ag8 : Agree S S8 := ⟨by omega, fun id hid => (o8 id (by omega)).trans ((((ag4.trans a5).trans a6).trans a7).2 id hid)⟩
      simp (disch := first | omega | assumption) only [E0_G, List.size_toArray, List.length_cons, List.length_nil, setArgs, start_list, code_seq, code_region, code_cond, code_ret, code_skip, code_exit, code_label, code_block, code_loop, leave_normal, leave_ret, leave_exit, leave_ite,
    andThen_normal, andThen_ret, andThen_exit, andThen_ite, behind_some, behind_ite, List.map_cons, List.map_nil, run_nil, run_cons, run_guarded, guardV_some, guard_tt, guard_tf, guard_ft, guard_ff, guard_undef, store_off, off, agreeKind, Bool.and_false, Bool.false_and, Bool.and_true, Bool.true_and,
    op_assign, op_move, op_pick, pickV_true, pickV_false,  op_bin, op_box, op_load, op_store, op_field, op_fieldAddr, op_index, op_indexAddr, op_extract, op_call, called_some, op_not, op_neg, op_min, op_max, op_min3, op_convert, convV_int, op_build, partVals,  vals, val_tmp, val_int, val_bool, val_str, val_nilSlice, val_nilFunc, val_func, val_global,
    put_some, put_none, get_sel, T.get_lf, Option.map_some, Option.map_none, Option.bind_some, Option.bind_none, firstOf_some, Nat.reduceAdd, Nat.reduceSub, Nat.reduceMul, Nat.reduceLT, Nat.reduceEqDiff, Nat.reduceBEq, cond_yes, cond_no, if_true, if_false, reduceIte, sel_true, sel_false, decide_true, decide_false, Bool.not_true, Bool.not_false,
    bin_add, bin_sub, bin_mul, bin_quo, bin_rem, bin_and, bin_or, bin_xor, bin_andNot, bin_eql, bin_neq, bin_lss, bin_leq, bin_gtr, bin_geq, bin_shl, bin_shr, bin_eqlAgg, bin_neqAgg, bin_eqlBool, bin_neqBool, boolV?_bool, eq_self,  ne_eq, Int.reduceEq, Int.reduceLT, Int.reduceLE, not_false_eq_true, handed_ret, handed_normal, handed_ite, results_nil, results_t, results_c, consV_some, op_alloc, allocV,
    next_push, next_upd, push_eq, push_ne, upd_eq, upd_ne, cell_at, cellOf_cells, put_at, putOf_cells, boxed, ldA, rdCells,  oneB, aggD, aField, aFieldV, addr_add, cells_agg, cells_int, cells_bool, cells_string, cells_pointer, cells_slice, cells_func, List.getElem?_cons_zero, List.getElem?_cons_succ, List.getElem?_toArray, List.set_cons_zero, List.set_cons_succ, List.toList_toArray, Nat.zero_add, Nat.add_zero, reduceCtorEq, e1, e2, e3, e4, inTab58, zero58, y4, k5, w5, i5, k6, y6, w6, i6, k7, k8, b8, aExtract, Tryd.underlying46, Tryd.underlying52, Tryd.underlying39, Tryd.underlying41, Tryd.underlying3, sz52, sz68, sz58, sz45, sz3] at hz
      exact fin hz (by unfold strikeV; rw [if_pos ⟨hK, hB⟩, hu]) ag8
    · rw [errV_neg hB] at k6
      obtain ⟨S8, k8, n8, b8, o8⟩ := st_open (vs := [.int .i64 0, .int .i64 0, .int .i64 0, .int .i64 0, .int .i64 0]) sz58 m6 rfl rfl rfl
      have ag8 : Agree S S8 := ⟨by omega, fun id hid => (o8 id (by omega)).trans (((ag4.trans a5).trans a6).2 id hid)⟩
      simp (disch := first | omega | assumption) only [E0_G, List.size_toArray, List.length_cons, List.length_nil, setArgs, start_list, code_seq, code_region, code_cond, code_ret, code_skip, code_exit, code_label, code_block, code_loop, leave_normal, leave_ret, leave_exit, leave_ite,
    andThen_normal, andThen_ret, andThen_exit, andThen_ite, behind_some, behind_ite, List.map_cons, List.map_nil, run_nil, run_cons, run_guarded, guardV_some, guard_tt, guard_tf, guard_ft, guard_ff, guard_undef, store_off, off, agreeKind, Bool.and_false, Bool.false_and, Bool.and_true, Bool.true_and,
    op_assign, op_move, op_pick, pickV_true, pickV_false,  op_bin, op_box, op_load, op_store, op_field, op_fieldAddr, op_index, op_indexAddr, op_extract, op_call, called_some, op_not, op_neg, op_min, op_max, op_min3, op_convert, convV_int, op_build, partVals,  vals, val_tmp, val_int, val_bool, val_str, val_nilSlice, val_nilFunc, val_func, val_global,
    put_some, put_none, get_sel, T.get_lf, Option.map_some, Option.map_none, Option.bind_some, Option.bind_none, firstOf_some, Nat.reduceAdd, Nat.reduceSub, Nat.reduceMul, Nat.reduceLT, Nat.reduceEqDiff, Nat.reduceBEq, cond_yes, cond_no, if_true, if_false, reduceIte, sel_true, sel_false, decide_true, decide_false, Bool.not_true, Bool.not_false,
    bin_add, bin_sub, bin_mul, bin_quo, bin_rem, bin_and, bin_or, bin_xor, bin_andNot, bin_eql, bin_neq, bin_lss, bin_leq, bin_gtr, bin_geq, bin_shl, bin_shr, bin_eqlAgg, bin_neqAgg, bin_eqlBool, bin_neqBool, boolV?_bool, eq_self,  ne_eq, Int.reduceEq, Int.reduceLT, Int.reduceLE, not_false_eq_true, handed_ret, handed_normal, handed_ite, results_nil, results_t, results_c, consV_some, op_alloc, allocV,
    next_push, next_upd, push_eq, push_ne, upd_eq, upd_ne, cell_at, cellOf_cells, put_at, putOf_cells, boxed, ldA, rdCells,  oneB, aggD, aField, aFieldV, addr_add, cells_agg, cells_int, cells_bool, cells_string, cells_pointer, cells_slice, cells_func, List.getElem?_cons_zero, List.getElem?_cons_succ, List.getElem?_toArray, List.set_cons_zero, List.set_cons_succ, List.toList_toArray, Nat.zero_add, Nat.add_zero, reduceCtorEq, e1, e2, e3, e4, inTab58, zero58, noMark, y4, k5, w5, i5, k6, k8, b8, aExtract, Tryd.underlying46, Tryd.underlying52, Tryd.underlying39, Tryd.underlying41, Tryd.underlying3, sz52, sz68, sz58, sz45, sz3] at hz
      exact fin hz (by unfold strikeV; rw [if_neg (fun hh => hB hh.2)]; rfl) ag8
  · rw [errV_neg hK] at k5
    obtain ⟨S8, k8, n8, b8, o8⟩ := st_open (vs := [.int .i64 0, .int .i64 0, .int .i64 0, .int .i64 0, .int .i64 0]) sz58 m5 rfl rfl rfl
    have ag8 : Agree S S8 := ⟨by omega, fun id hid => (o8 id (by omega)).trans ((ag4.trans a5).2 id hid)⟩
    simp (disch := first | omega | assumption) only [E0_G, List.size_toArray, List.length_cons, List.length_nil, setArgs, start_list, code_seq, code_region, code_cond, code_ret, code_skip, code_exit, code_label, code_block, code_loop, leave_normal, leave_ret, leave_exit, leave_ite,
    andThen_normal, andThen_ret, andThen_exit, andThen_ite, behind_some, behind_ite, List.map_cons, List.map_nil, run_nil, run_cons, run_guarded, guardV_some, guard_tt, guard_tf, guard_ft, guard_ff, guard_undef, store_off, off, agreeKind, Bool.and_false, Bool.false_and, Bool.and_true, Bool.true_and,
    op_assign, op_move, op_pick, pickV_true, pickV_false,  op_bin, op_box, op_load, op_store, op_field, op_fieldAddr, op_index, op_indexAddr, op_extract, op_call, called_some, op_not, op_neg, op_min, op_max, op_min3, op_convert, convV_int, op_build, partVals,  vals, val_tmp, val_int, val_bool, val_str, val_nilSlice, val_nilFunc, val_func, val_global,
    put_some, put_none, get_sel, T.get_lf, Option.map_some, Option.map_none, Option.bind_some, Option.bind_none, firstOf_some, Nat.reduceAdd, Nat.reduceSub, Nat.reduceMul, Nat.reduceLT, Nat.reduceEqDiff, Nat.reduceBEq, cond_yes, cond_no, if_true, if_false, reduceIte, sel_true, sel_false, decide_true, decide_false, Bool.not_true, Bool.not_false,
    bin_add, bin_sub, bin_mul, bin_quo, bin_rem, bin_and, bin_or, bin_xor, bin_andNot, bin_eql, bin_neq, bin_lss, bin_leq, bin_gtr, bin_geq, bin_shl, bin_shr, bin_eqlAgg, bin_neqAgg, bin_eqlBool, bin_neqBool, boolV?_bool, eq_self,  ne_eq, Int.reduceEq, Int.reduceLT, Int.reduceLE, not_false_eq_true, handed_ret, handed_normal, handed_ite, results_nil, results_t, results_c, consV_some, op_alloc, allocV,
    next_push, next_upd, push_eq, push_ne, upd_eq, upd_ne, cell_at, cellOf_cells, put_at, putOf_cells, boxed, ldA, rdCells,  oneB, aggD, aField, aFieldV, addr_add, cells_agg, cells_int, cells_bool, cells_string, cells_pointer, cells_slice, cells_func, List.getElem?_cons_zero, List.getElem?_cons_succ, List.getElem?_toArray, List.set_cons_zero, List.set_cons_succ, List.toList_toArray, Nat.zero_add, Nat.add_zero, reduceCtorEq, e1, e2, e3, e4, inTab58, zero58, noMark, y4, k5, k8, b8, aExtract, Tryd.underlying46, Tryd.underlying52, Tryd.underlying39, Tryd.underlying41, Tryd.underlying3, sz52, sz68, sz58, sz45, sz3] at hz
    exact fin hz (by unfold strikeV; rw [if_neg (fun hh => hK hh.1)]; rfl) ag8
end Great
end Go.Proofs
end
section
/-
  The great seat of stage 1 at c2f8ee9: Twice.
-/
set_option linter.unusedSimpArgs false
set_option linter.unusedVariables false
namespace Go.Proofs
namespace Great
open Go Go.RowKit Go.Aev
set_option maxRecDepth 100000
def TwiceOk (i1 t1 i2 t2 ap : Int) : Prop := i1 ≠ i2 ∧ t1 = t2 ∧ 0 ≤ ap ∧ ap ≤ 60
instance (i1 t1 i2 t2 ap : Int) : Decidable (TwiceOk i1 t1 i2 t2 ap) := by unfold TwiceOk; infer_instance
end Great
end Go.Proofs
end
