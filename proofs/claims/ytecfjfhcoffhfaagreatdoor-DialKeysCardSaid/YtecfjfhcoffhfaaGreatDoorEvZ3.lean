/-
  The great seat of stage 1 at c2f8ee9: strikes.
-/
import Derived.Test.YtecfjfhcoffhfaaGreatDoorEvZ2
set_option linter.unusedSimpArgs false
set_option linter.unusedVariables false
namespace Go.Proofs
namespace Great
open Go Go.RowKit Go.Aev
set_option maxRecDepth 100000
def andV (a b : Int) : Int := IntKind.i64.wrap (BitVec.ofInt IntKind.i64.bits a &&& BitVec.ofInt IntKind.i64.bits b).toNat
def orV (a b : Int) : Int := IntKind.i64.wrap (BitVec.ofInt IntKind.i64.bits a ||| BitVec.ofInt IntKind.i64.bits b).toNat
def notV (a b : Int) : Int := IntKind.i64.wrap (BitVec.ofInt IntKind.i64.bits a &&& ~~~(BitVec.ofInt IntKind.i64.bits b)).toNat
theorem and_fold (a b : Int) : IntKind.i64.wrap (BitVec.ofInt IntKind.i64.bits a &&& BitVec.ofInt IntKind.i64.bits b).toNat = andV a b := rfl
theorem or_fold (a b : Int) : IntKind.i64.wrap (BitVec.ofInt IntKind.i64.bits a ||| BitVec.ofInt IntKind.i64.bits b).toNat = orV a b := rfl
theorem not_fold (a b : Int) : IntKind.i64.wrap (BitVec.ofInt IntKind.i64.bits a &&& ~~~(BitVec.ofInt IntKind.i64.bits b)).toNat = notV a b := rfl
theorem inTab58 : inTab Tryz.prog 58 = true := by kernel_rfl
theorem zero58 : zeroOf Tryz.prog 58 = some (.agg #[.int .i64 0, .int .i64 0, .int .i64 0, .int .i64 0, .int .i64 0]) := by kernel_rfl
theorem inTab56 : inTab Tryz.prog 56 = true := by kernel_rfl
theorem newArc (a b : Int) : aBuild Tryz.prog 56 [(0, .int .i64 a), (1, .int .i64 b)] = some (.agg #[.int .i64 a, .int .i64 b]) := by kernel_rfl
theorem newMark (a b c d e : Int) : aBuild Tryz.prog 58 [(0, .agg #[.int .i64 a, .int .i64 b]), (1, .int .i64 c), (2, .int .i64 d), (3, .int .i64 e)] = some (.agg #[.int .i64 a, .int .i64 b, .int .i64 c, .int .i64 d, .int .i64 e]) := by kernel_rfl
theorem noMark : aBuild Tryz.prog 58 [] = some (.agg #[.int .i64 0, .int .i64 0, .int .i64 0, .int .i64 0, .int .i64 0]) := by kernel_rfl
def MarkOk (f l t s b : Int) : Prop := ArcOk f l ∧ 0 ≤ t ∧ t < 4 ∧ 0 ≤ s ∧ s ≤ 4095 ∧ 0 ≤ b ∧ b ≤ 4095 ∧ andV s b = 0
instance (f l t s b : Int) : Decidable (MarkOk f l t s b) := by unfold MarkOk; infer_instance
theorem c54 (f l t s b : Int) (S : AS) (ht : Tab S) : ∃ S', (evL Tryz.prog E0).call 54 #[.agg #[.int .i64 f, .int .i64 l, .int .i64 t, .int .i64 s, .int .i64 b]] S = some (.int .i64 (errV (MarkOk f l t s b)), S') ∧ Agree S S' := by
  obtain ⟨S1, e1, n1, b1, a1⟩ := push_open S (.cells [.int .i64 f, .int .i64 l, .int .i64 t, .int .i64 s, .int .i64 b] 58 0 true true)
  obtain ⟨S2, k2, a2⟩ := c116 f l S1 (ht.agree a1)
  have b2 := (a2.2 S.next (by omega)).trans b1
  generalize hz : (evL Tryz.prog E0).call 54 _ _ = z
  rw [L_call, evCall_said rfl Tryz.func54 rfl (by decide) Tryz.ntmps54 Tryz.results54] at hz
  by_cases h1 : ArcOk f l <;> by_cases h2 : 0 ≤ t ∧ t < 4 <;> by_cases h3 : 0 ≤ s ∧ s ≤ 4095 <;> by_cases h4 : 0 ≤ b ∧ b ≤ 4095 <;> rcases deq (andV s b) 0 with ⟨h5, h6⟩ | ⟨h5, h6⟩ <;>
    first
    | (simp (disch := first | omega | assumption) only [E0_G, List.size_toArray, List.length_cons, List.length_nil, setArgs, start_list, code_seq, code_region, code_cond, code_ret, code_skip, code_exit, code_label, code_block, code_loop, leave_normal, leave_ret, leave_exit, leave_ite,
    andThen_normal, andThen_ret, andThen_exit, andThen_ite, behind_some, behind_ite, List.map_cons, List.map_nil, run_nil, run_cons, run_guarded, guardV_some, guard_tt, guard_tf, guard_ft, guard_ff, guard_undef, store_off, off, callKind, Bool.and_false, Bool.false_and, Bool.and_true, Bool.true_and,
    op_assign, op_move, op_pick, pickV_true, pickV_false,  op_bin, op_box, op_load, op_store, op_field, op_fieldAddr, op_index, op_indexAddr, op_extract, op_call, called_some, op_not, op_neg, op_min, op_max, op_min3, op_convert, convV_int, op_build, partVals,  vals, val_tmp, val_int, val_bool, val_str, val_nilSlice, val_nilFunc, val_func, val_global,
    put_some, put_none, get_sel, T.get_lf, Option.map_some, Option.map_none, Option.bind_some, Option.bind_none, firstOf_some, Nat.reduceAdd, Nat.reduceSub, Nat.reduceMul, Nat.reduceLT, Nat.reduceEqDiff, Nat.reduceBEq, cond_yes, cond_no, if_true, if_false, reduceIte, sel_true, sel_false, decide_true, decide_false, Bool.not_true, Bool.not_false,
    bin_add, bin_sub, bin_mul, bin_quo, bin_rem, bin_and, bin_or, bin_xor, bin_andNot, bin_eql, bin_neq, bin_lss, bin_leq, bin_gtr, bin_geq, bin_shl, bin_shr, bin_eqlAgg, bin_neqAgg, bin_eqlBool, bin_neqBool, boolV?_bool, eq_self,  ne_eq, Int.reduceEq, Int.reduceLT, Int.reduceLE, not_false_eq_true, handed_ret, handed_normal, handed_ite, results_nil, results_t, results_c, consV_some, op_alloc, allocV,
    next_push, next_upd, push_eq, push_ne, upd_eq, upd_ne, cell_at, cellOf_cells, put_at, putOf_cells, boxed, ldA, rdCells,  oneB, aggD, aField, aFieldV, addr_add, cells_agg, cells_int, cells_bool, cells_string, cells_pointer, cells_slice, cells_func, List.getElem?_cons_zero, List.getElem?_cons_succ, List.getElem?_toArray, List.set_cons_zero, List.set_cons_succ, List.toList_toArray, Nat.zero_add, Nat.add_zero, reduceCtorEq, e1, b1, k2, b2, c100, c101, and_fold, h1, h2, h3, h4, h5, and_self, Tryz.underlying58, Tryz.underlying56, Tryz.underlying3, sz58, sz56, sz3] at hz
       first
       | exact fin hz (intV (errV_pos ⟨h1, h2.1, h2.2, h3.1, h3.2, h4.1, h4.2, h6⟩).symm) (a1.trans a2)
       | exact fin hz (intV (errV_neg (fun hh => by unfold MarkOk at hh; obtain ⟨g1, g2, g3, g4, g5, g6, g7, g8⟩ := hh; first | exact h1 g1 | exact h2 ⟨g2, g3⟩ | exact h3 ⟨g4, g5⟩ | exact h4 ⟨g6, g7⟩ | exact h6 g8)).symm) (a1.trans a2))
theorem c43 (f l t s b : Int) (S : AS) : ∃ S', (evL Tryz.prog E0).call 43 #[.agg #[.int .i64 f, .int .i64 l, .int .i64 t, .int .i64 s, .int .i64 b]] S = some (.bool (decide (MarkOk f l t s b)), S') ∧ Agree S S' := by
  obtain ⟨S1, e1, n1, b1, a1⟩ := push_open S (.cells [.int .i64 f, .int .i64 l, .int .i64 t, .int .i64 s, .int .i64 b] 58 0 true true)
  obtain ⟨S2, k2, a2⟩ := c86 f l S1
  have b2 := (a2.2 S.next (by omega)).trans b1
  generalize hz : (evL Tryz.prog E0).call 43 _ _ = z
  rw [L_call, evCall_said rfl Tryz.func43 rfl (by decide) Tryz.ntmps43 Tryz.results43] at hz
  by_cases h1 : ArcOk f l <;> by_cases h2 : 0 ≤ t ∧ t ≤ 3 <;> by_cases h3 : 0 ≤ s ∧ s ≤ 4095 <;> by_cases h4 : 0 ≤ b ∧ b ≤ 4095 <;> rcases deq (andV s b) 0 with ⟨h5, h6⟩ | ⟨h5, h6⟩ <;>
    first
    | (simp (disch := first | omega | assumption) only [E0_G, List.size_toArray, List.length_cons, List.length_nil, setArgs, start_list, code_seq, code_region, code_cond, code_ret, code_skip, code_exit, code_label, code_block, code_loop, leave_normal, leave_ret, leave_exit, leave_ite,
    andThen_normal, andThen_ret, andThen_exit, andThen_ite, behind_some, behind_ite, List.map_cons, List.map_nil, run_nil, run_cons, run_guarded, guardV_some, guard_tt, guard_tf, guard_ft, guard_ff, guard_undef, store_off, off, callKind, Bool.and_false, Bool.false_and, Bool.and_true, Bool.true_and,
    op_assign, op_move, op_pick, pickV_true, pickV_false,  op_bin, op_box, op_load, op_store, op_field, op_fieldAddr, op_index, op_indexAddr, op_extract, op_call, called_some, op_not, op_neg, op_min, op_max, op_min3, op_convert, convV_int, op_build, partVals,  vals, val_tmp, val_int, val_bool, val_str, val_nilSlice, val_nilFunc, val_func, val_global,
    put_some, put_none, get_sel, T.get_lf, Option.map_some, Option.map_none, Option.bind_some, Option.bind_none, firstOf_some, Nat.reduceAdd, Nat.reduceSub, Nat.reduceMul, Nat.reduceLT, Nat.reduceEqDiff, Nat.reduceBEq, cond_yes, cond_no, if_true, if_false, reduceIte, sel_true, sel_false, decide_true, decide_false, Bool.not_true, Bool.not_false,
    bin_add, bin_sub, bin_mul, bin_quo, bin_rem, bin_and, bin_or, bin_xor, bin_andNot, bin_eql, bin_neq, bin_lss, bin_leq, bin_gtr, bin_geq, bin_shl, bin_shr, bin_eqlAgg, bin_neqAgg, bin_eqlBool, bin_neqBool, boolV?_bool, eq_self,  ne_eq, Int.reduceEq, Int.reduceLT, Int.reduceLE, not_false_eq_true, handed_ret, handed_normal, handed_ite, results_nil, results_t, results_c, consV_some, op_alloc, allocV,
    next_push, next_upd, push_eq, push_ne, upd_eq, upd_ne, cell_at, cellOf_cells, put_at, putOf_cells, boxed, ldA, rdCells,  oneB, aggD, aField, aFieldV, addr_add, cells_agg, cells_int, cells_bool, cells_string, cells_pointer, cells_slice, cells_func, List.getElem?_cons_zero, List.getElem?_cons_succ, List.getElem?_toArray, List.set_cons_zero, List.set_cons_succ, List.toList_toArray, Nat.zero_add, Nat.add_zero, reduceCtorEq, e1, b1, k2, b2, c30, c107, and_fold, h1, h2, h3, h4, h5, and_self, Tryz.underlying58, Tryz.underlying56, Tryz.underlying3, sz58, sz56, sz3] at hz
       first
       | exact fin hz (boolV (decide_eq_true ⟨h1, h2.1, by omega, h3.1, h3.2, h4.1, h4.2, h6⟩).symm) (a1.trans a2)
       | exact fin hz (boolV (decide_eq_false (fun hh => by unfold MarkOk at hh; obtain ⟨g1, g2, g3, g4, g5, g6, g7, g8⟩ := hh; first | exact h1 g1 | exact h2 ⟨g2, by omega⟩ | exact h3 ⟨g4, g5⟩ | exact h4 ⟨g6, g7⟩ | exact h6 g8)).symm) (a1.trans a2))

/-! ### Blows -/
def BlowOk (mi di f s l : Int) : Prop := InkOk f s l ∧ 0 ≤ mi ∧ mi ≤ 4095 ∧ 0 ≤ di ∧ di ≤ 4095
instance (mi di f s l : Int) : Decidable (BlowOk mi di f s l) := by unfold BlowOk; infer_instance
theorem c112 (mi di sh f s l : Int) (S : AS) : ∃ S', (evL Tryz.prog E0).call 112 #[.agg #[.int .i64 mi, .int .i64 di, .int .i64 sh], .agg #[.int .i64 f, .int .i64 s, .int .i64 l]] S = some (.int .i64 (errV (BlowOk mi di f s l)), S') ∧ Agree S S' := by
  obtain ⟨S1, e1, n1, b1, a1⟩ := push_open S (.cells [.int .i64 mi, .int .i64 di, .int .i64 sh] 68 0 true true)
  obtain ⟨S2, e2, n2, b2, a2⟩ := push_open S1 (.cells [.int .i64 f, .int .i64 s, .int .i64 l] 45 0 true true)
  obtain ⟨S3, k3, a3⟩ := c36 f s l S2
  have x2 := (a2.2 S.next (by omega)).trans b1
  have x3 := (a3.2 S.next (by omega)).trans x2
  generalize hz : (evL Tryz.prog E0).call 112 _ _ = z
  rw [L_call, evCall_said rfl Tryz.func112 rfl (by decide) Tryz.ntmps112 Tryz.results112] at hz
  by_cases h1 : InkOk f s l
  · rw [errV_pos h1] at k3
    by_cases h2 : 0 ≤ mi ∧ mi ≤ 4095 <;> by_cases h3 : 0 ≤ di ∧ di ≤ 4095 <;>
      first
      | (simp (disch := first | omega | assumption) only [E0_G, List.size_toArray, List.length_cons, List.length_nil, setArgs, start_list, code_seq, code_region, code_cond, code_ret, code_skip, code_exit, code_label, code_block, code_loop, leave_normal, leave_ret, leave_exit, leave_ite,
    andThen_normal, andThen_ret, andThen_exit, andThen_ite, behind_some, behind_ite, List.map_cons, List.map_nil, run_nil, run_cons, run_guarded, guardV_some, guard_tt, guard_tf, guard_ft, guard_ff, guard_undef, store_off, off, callKind, Bool.and_false, Bool.false_and, Bool.and_true, Bool.true_and,
    op_assign, op_move, op_pick, pickV_true, pickV_false,  op_bin, op_box, op_load, op_store, op_field, op_fieldAddr, op_index, op_indexAddr, op_extract, op_call, called_some, op_not, op_neg, op_min, op_max, op_min3, op_convert, convV_int, op_build, partVals,  vals, val_tmp, val_int, val_bool, val_str, val_nilSlice, val_nilFunc, val_func, val_global,
    put_some, put_none, get_sel, T.get_lf, Option.map_some, Option.map_none, Option.bind_some, Option.bind_none, firstOf_some, Nat.reduceAdd, Nat.reduceSub, Nat.reduceMul, Nat.reduceLT, Nat.reduceEqDiff, Nat.reduceBEq, cond_yes, cond_no, if_true, if_false, reduceIte, sel_true, sel_false, decide_true, decide_false, Bool.not_true, Bool.not_false,
    bin_add, bin_sub, bin_mul, bin_quo, bin_rem, bin_and, bin_or, bin_xor, bin_andNot, bin_eql, bin_neq, bin_lss, bin_leq, bin_gtr, bin_geq, bin_shl, bin_shr, bin_eqlAgg, bin_neqAgg, bin_eqlBool, bin_neqBool, boolV?_bool, eq_self,  ne_eq, Int.reduceEq, Int.reduceLT, Int.reduceLE, not_false_eq_true, handed_ret, handed_normal, handed_ite, results_nil, results_t, results_c, consV_some, op_alloc, allocV,
    next_push, next_upd, push_eq, push_ne, upd_eq, upd_ne, cell_at, cellOf_cells, put_at, putOf_cells, boxed, ldA, rdCells,  oneB, aggD, aField, aFieldV, addr_add, cells_agg, cells_int, cells_bool, cells_string, cells_pointer, cells_slice, cells_func, List.getElem?_cons_zero, List.getElem?_cons_succ, List.getElem?_toArray, List.set_cons_zero, List.set_cons_succ, List.toList_toArray, Nat.zero_add, Nat.add_zero, reduceCtorEq, e1, b1, e2, b2, x2, x3, k3, c101, h2, h3, and_self, Tryz.underlying68, Tryz.underlying45, Tryz.underlying3, sz68, sz45, sz3] at hz
         first
         | exact fin hz (intV (errV_pos ⟨h1, h2.1, h2.2, h3.1, h3.2⟩).symm) ((a1.trans a2).trans a3)
         | exact fin hz (intV (errV_neg (fun hh => by obtain ⟨g1, g2, g3, g4, g5⟩ := hh; first | exact h2 ⟨g2, g3⟩ | exact h3 ⟨g4, g5⟩)).symm) ((a1.trans a2).trans a3))
  · rw [errV_neg h1] at k3
    simp (disch := first | omega | assumption) only [E0_G, List.size_toArray, List.length_cons, List.length_nil, setArgs, start_list, code_seq, code_region, code_cond, code_ret, code_skip, code_exit, code_label, code_block, code_loop, leave_normal, leave_ret, leave_exit, leave_ite,
    andThen_normal, andThen_ret, andThen_exit, andThen_ite, behind_some, behind_ite, List.map_cons, List.map_nil, run_nil, run_cons, run_guarded, guardV_some, guard_tt, guard_tf, guard_ft, guard_ff, guard_undef, store_off, off, callKind, Bool.and_false, Bool.false_and, Bool.and_true, Bool.true_and,
    op_assign, op_move, op_pick, pickV_true, pickV_false,  op_bin, op_box, op_load, op_store, op_field, op_fieldAddr, op_index, op_indexAddr, op_extract, op_call, called_some, op_not, op_neg, op_min, op_max, op_min3, op_convert, convV_int, op_build, partVals,  vals, val_tmp, val_int, val_bool, val_str, val_nilSlice, val_nilFunc, val_func, val_global,
    put_some, put_none, get_sel, T.get_lf, Option.map_some, Option.map_none, Option.bind_some, Option.bind_none, firstOf_some, Nat.reduceAdd, Nat.reduceSub, Nat.reduceMul, Nat.reduceLT, Nat.reduceEqDiff, Nat.reduceBEq, cond_yes, cond_no, if_true, if_false, reduceIte, sel_true, sel_false, decide_true, decide_false, Bool.not_true, Bool.not_false,
    bin_add, bin_sub, bin_mul, bin_quo, bin_rem, bin_and, bin_or, bin_xor, bin_andNot, bin_eql, bin_neq, bin_lss, bin_leq, bin_gtr, bin_geq, bin_shl, bin_shr, bin_eqlAgg, bin_neqAgg, bin_eqlBool, bin_neqBool, boolV?_bool, eq_self,  ne_eq, Int.reduceEq, Int.reduceLT, Int.reduceLE, not_false_eq_true, handed_ret, handed_normal, handed_ite, results_nil, results_t, results_c, consV_some, op_alloc, allocV,
    next_push, next_upd, push_eq, push_ne, upd_eq, upd_ne, cell_at, cellOf_cells, put_at, putOf_cells, boxed, ldA, rdCells,  oneB, aggD, aField, aFieldV, addr_add, cells_agg, cells_int, cells_bool, cells_string, cells_pointer, cells_slice, cells_func, List.getElem?_cons_zero, List.getElem?_cons_succ, List.getElem?_toArray, List.set_cons_zero, List.set_cons_succ, List.toList_toArray, Nat.zero_add, Nat.add_zero, reduceCtorEq, e1, b1, e2, b2, x2, x3, k3, Tryz.underlying68, Tryz.underlying45, Tryz.underlying3, sz68, sz45, sz3] at hz
    exact fin hz (intV (errV_neg (fun hh => h1 hh.1)).symm) ((a1.trans a2).trans a3)

theorem c104 (a b tr s : Int) (S : AS) : ∃ S', (evL Tryz.prog E0).call 104 #[.agg #[.int .i64 a, .int .i64 b], .int .i64 tr, .int .i64 s] S = some (.agg #[.int .i64 a, .int .i64 b, .int .i64 tr, .int .i64 s, .int .i64 (notV 4095 s)], S') ∧ Agree S S' := by
  obtain ⟨S1, e1, n1, b1, a1⟩ := push_open S (.cells [.int .i64 a, .int .i64 b] 56 0 true true)
  obtain ⟨S2, e2, n2, b2, a2⟩ := push_open S1 (.cells [.int .i64 0, .int .i64 0, .int .i64 0, .int .i64 0, .int .i64 0] 58 0 true true)
  have x2 := (a2.2 S.next (by omega)).trans b1
  obtain ⟨S3, k3, n3, b3, o3⟩ := st_open (vs := [.int .i64 a, .int .i64 b, .int .i64 tr, .int .i64 s, .int .i64 (notV 4095 s)]) sz58 b2 rfl rfl rfl
  have ag : Agree S S3 := ⟨by omega, fun id hid => (o3 id (by omega)).trans ((a1.trans a2).2 id hid)⟩
  generalize hz : (evL Tryz.prog E0).call 104 _ _ = z
  rw [L_call, evCall_said rfl Tryz.func104 rfl (by decide) Tryz.ntmps104 Tryz.results104] at hz
  simp (disch := first | omega | assumption) only [E0_G, List.size_toArray, List.length_cons, List.length_nil, setArgs, start_list, code_seq, code_region, code_cond, code_ret, code_skip, code_exit, code_label, code_block, code_loop, leave_normal, leave_ret, leave_exit, leave_ite,
    andThen_normal, andThen_ret, andThen_exit, andThen_ite, behind_some, behind_ite, List.map_cons, List.map_nil, run_nil, run_cons, run_guarded, guardV_some, guard_tt, guard_tf, guard_ft, guard_ff, guard_undef, store_off, off, callKind, Bool.and_false, Bool.false_and, Bool.and_true, Bool.true_and,
    op_assign, op_move, op_pick, pickV_true, pickV_false,  op_bin, op_box, op_load, op_store, op_field, op_fieldAddr, op_index, op_indexAddr, op_extract, op_call, called_some, op_not, op_neg, op_min, op_max, op_min3, op_convert, convV_int, op_build, partVals,  vals, val_tmp, val_int, val_bool, val_str, val_nilSlice, val_nilFunc, val_func, val_global,
    put_some, put_none, get_sel, T.get_lf, Option.map_some, Option.map_none, Option.bind_some, Option.bind_none, firstOf_some, Nat.reduceAdd, Nat.reduceSub, Nat.reduceMul, Nat.reduceLT, Nat.reduceEqDiff, Nat.reduceBEq, cond_yes, cond_no, if_true, if_false, reduceIte, sel_true, sel_false, decide_true, decide_false, Bool.not_true, Bool.not_false,
    bin_add, bin_sub, bin_mul, bin_quo, bin_rem, bin_and, bin_or, bin_xor, bin_andNot, bin_eql, bin_neq, bin_lss, bin_leq, bin_gtr, bin_geq, bin_shl, bin_shr, bin_eqlAgg, bin_neqAgg, bin_eqlBool, bin_neqBool, boolV?_bool, eq_self,  ne_eq, Int.reduceEq, Int.reduceLT, Int.reduceLE, not_false_eq_true, handed_ret, handed_normal, handed_ite, results_nil, results_t, results_c, consV_some, op_alloc, allocV,
    next_push, next_upd, push_eq, push_ne, upd_eq, upd_ne, cell_at, cellOf_cells, put_at, putOf_cells, boxed, ldA, rdCells,  oneB, aggD, aField, aFieldV, addr_add, cells_agg, cells_int, cells_bool, cells_string, cells_pointer, cells_slice, cells_func, List.getElem?_cons_zero, List.getElem?_cons_succ, List.getElem?_toArray, List.set_cons_zero, List.set_cons_succ, List.toList_toArray, Nat.zero_add, Nat.add_zero, reduceCtorEq, e1, b1, e2, b2, x2, k3, b3, newMark, not_fold, inTab58, zero58, Tryz.underlying58, Tryz.underlying56, Tryz.underlying3, sz58, sz56, sz3] at hz
  exact fin hz rfl ag
end Great
end Go.Proofs
