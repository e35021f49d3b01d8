/-
  BI: EvC5, EvC6, EvC7.
-/
import Derived.Test.YtgbjgljchkodjaaGreatDoorBH
import Derived.Test.YtgbjgljchkodjaaGreatDoorBS
import Derived.Test.YtgbjgljchkodjaaGreatDoorBN
import Derived.Test.YtgbjgljchkodjaaGreatDoorEvA13
section
/-
  The great seat of stage 1: pieces joined: the call.
-/
set_option linter.unusedSimpArgs false
set_option linter.unusedVariables false
namespace Go.Proofs
namespace Great
open Go Go.RowKit Go.Aev
set_option maxRecDepth 100000

theorem lst_slice {α : Type} [Flat α] {S : AS} {v : Value} {l : List α} (h : Lst S v l) : ∃ p n c, v = .slice p n c := by
  rcases h with ⟨_, rfl | rfl⟩ | ⟨id, off, c, ty, cap, wr, ex, rfl, _⟩
  · exact ⟨_, _, _, rfl⟩
  · exact ⟨_, _, _, rfl⟩
  · exact ⟨_, _, _, rfl⟩

set_option maxHeartbeats 8000000 in
theorem c129 (ks : List Ct) (hn : ks.length ≤ 1000) (hli : ∀ x ∈ ks, x.li = 0 ∨ x.li = 1) (kf : FuncId) (keep : Bool → Bool → Bool) (hk : KeepOk kf keep) (S : AS) (px pk : Nat) (po : Option Addr) (no co : Nat)
    (hx : S.heap.get px = some (.cells [.slice po no co] 138 0 true true)) (hkf : S.heap.get pk = some (.cells [.func (.func kf) #[] #[]] 86 0 true true)) (lx : px < S.next) (lk : pk < S.next) (hl : Lst S (.slice po no co) ks) (nl : ∀ q, blkOf (.slice po no co) = some q → q < S.next) :
    ∃ S' v', (evL Tryz.prog E0).call 81 #[.func (.func 100) #[] #[.pointer (some ⟨px, 0, none⟩), .pointer (some ⟨pk, 0, none⟩)]] S = some (v', S') ∧ Agree S S' ∧ Lst S' v' (r129 (R152 keep ks 0 0)) ∧ ∀ q, blkOf v' = some q → S.next ≤ q := by
  generalize hz : (evL Tryz.prog E0).call 81 _ _ = z
  rw [L_call, evCall_said rfl Tryz.func81 rfl (by decide) Tryz.ntmps81 Tryz.results81] at hz
  obtain ⟨S1, e1, n1, b1, a1⟩ := push_open S (.cells [.slice none 0 0] 22 0 true true)
  simp (disch := first | omega | assumption) only [E0_G, SY, setArgs, off, agreeKind, partVals, vals, allocV, boxed, ldA, rdCells, oneB, aggD, aField, aFieldV, aExtract, eq_self, ne_eq, if_true, if_false, not_false_eq_true, Nat.reduceAdd, Nat.reduceSub, Nat.reduceMul, Nat.reduceLT, Nat.reduceEqDiff, Nat.reduceBEq, reduceIte, Int.reduceEq, Int.reduceLT, Int.reduceLE, reduceCtorEq, TY_EvA14, and_fold, or_fold, not_fold, e1, tz22, tt22, t0_22, Tryz.underlying22] at hz
  generalize hR : evCode Tryz.prog E0 (evL Tryz.prog E0) none (.rangeFunc _ _ _ _) _ = R at hz
  obtain ⟨S2, p2, m2, k2, rfl, n2, b2, o2, t2, f2⟩ := rg129 ks hn hli kf keep hk S1 _ _ _ S.next px pk po no co
    (by simp only [SY, setArgs, off, agreeKind, partVals, vals, allocV, boxed, ldA, rdCells, oneB, aggD, aField, aFieldV, aExtract, eq_self, ne_eq, if_true, if_false, not_false_eq_true, Nat.reduceAdd, Nat.reduceSub, Nat.reduceMul, Nat.reduceLT, Nat.reduceEqDiff, Nat.reduceBEq, reduceIte, Int.reduceEq, Int.reduceLT, Int.reduceLE, reduceCtorEq] <;> rfl) (by simp only [SY, setArgs, off, agreeKind, partVals, vals, allocV, boxed, ldA, rdCells, oneB, aggD, aField, aFieldV, aExtract, eq_self, ne_eq, if_true, if_false, not_false_eq_true, Nat.reduceAdd, Nat.reduceSub, Nat.reduceMul, Nat.reduceLT, Nat.reduceEqDiff, Nat.reduceBEq, reduceIte, Int.reduceEq, Int.reduceLT, Int.reduceLE, reduceCtorEq] <;> rfl) b1 ((a1.2 px lx).trans hx) ((a1.2 pk lk).trans hkf) (by omega) (by omega) (by omega) (by omega) (by omega) (hl.agree a1) (fun q hq => by have := nl q hq; omega) hR
  have hr : r129 (R152 keep ks 0 0) = wrapA ((R152 keep ks 0 0).foldl joinS []) := rfl
  have hlen : ((R152 keep ks 0 0).foldl joinS []).length ≤ 1000 := by
    have h1 := foldl_joinS_len (R152 keep ks 0 0) []; have h2 := R152_len' keep ks 0 0
    simp only [List.length_nil] at h1; omega
  rw [hr]
  generalize (R152 keep ks 0 0).foldl joinS [] = L at *
  have w2 := o2.rows.len (P := Tryz.prog) (t := 22) Tryz.underlying22
  have ag2 : Agree S S2 := ⟨by omega, fun q hq => (f2 q (by omega) (by omega)).trans (a1.2 q hq)⟩
  simp (disch := first | omega | assumption) only [E0_G, SY, setArgs, off, agreeKind, partVals, vals, allocV, boxed, ldA, rdCells, oneB, aggD, aField, aFieldV, aExtract, eq_self, ne_eq, if_true, if_false, not_false_eq_true, Nat.reduceAdd, Nat.reduceSub, Nat.reduceMul, Nat.reduceLT, Nat.reduceEqDiff, Nat.reduceBEq, reduceIte, Int.reduceEq, Int.reduceLT, Int.reduceLE, reduceCtorEq, TY_EvA14, and_fold, or_fold, not_fold, tz22, Tryz.underlying22, b2, w2] at hz
  rw [code_draws _ _ _ (by kernel_rfl)] at hz
  generalize hnd : needy _ = nd at hz
  -- the end
  have fin2 : ∀ (S9 : AS) (v : Value) (l : List Ar), S9.heap.get S1.next = some (.dfd true) → Agree S S9 → Lst S9 v l → blkOf v ≠ some S1.next → (∀ q, blkOf v = some q → S.next ≤ q) → ∃ S', takeAll [S1.next] S9 = some S' ∧ Agree S S' ∧ Lst S' v l ∧ ∀ q, blkOf v = some q → S.next ≤ q := by
    intro S9 v l h1 h2 h3 h4 h5
    obtain ⟨S', k1, k2, k3⟩ := take1 h1
    refine ⟨S', k1, ⟨by have := h2.1; omega, fun q hq => (k3 q (by omega)).trans (h2.2 q hq)⟩, h3.frame (by omega) fun id hid hb => k3 id (fun e => h4 (by rw [← e]; exact hb)), h5⟩
  have bk2 : ∀ q, blkOf (.slice p2 m2 k2) = some q → S.next ≤ q := fun q hq => by
    rcases Nat.lt_or_ge q (S1.next + 1) with h | h
    · exact absurd hq (o2.ne h)
    · omega
  have noW : ¬ (1 < L.length ∧ (lget L 0).f = 0 ∧ IntKind.i64.wrap ((lget L (L.length - 1)).f + (lget L (L.length - 1)).l) = 43199) → ∃ S', takeAll [S1.next] S2 = some S' ∧ Agree S S' ∧ Lst S' (.slice p2 m2 k2) (wrapA L) ∧ ∀ q, blkOf (.slice p2 m2 k2) = some q → S.next ≤ q := by
    intro h
    have e : wrapA L = L := if_neg h
    rw [e]
    exact fin2 S2 _ L t2 ag2 o2.rows (o2.ne (by omega)) bk2
  rcases dP (1 < (L.length : Int)) with ⟨h1a, h1⟩ | ⟨h1a, h1⟩
  · obtain ⟨id, cc, ex, of_, hof, hb', lo', lt', ix, gb, m0, m1⟩ := own_arc o2 (show L.length - 1 < L.length by omega)
    obtain ⟨id', cc', ex', of', hof', hb'', lo'', lt'', ix', gb', m0', m1'⟩ := own_arc o2 (show 0 < L.length by omega)
    have w1 : IntKind.i64.wrap ((L.length : Int) - 1) = ((L.length - 1 : Nat) : Int) := by rw [IntWalk.i64_in] <;> omega
    replace ix' : aIndexAddr Tryz.prog 22 (.slice p2 m2 k2) (.int .i64 0) = some (.pointer (some ⟨id', of', none⟩)) := ix'
    rcases dP ((lget L 0).f = 0) with ⟨h2a, h2⟩ | ⟨h2a, h2⟩
    · rcases dP (IntKind.i64.wrap ((lget L (L.length - 1)).f + (lget L (L.length - 1)).l) = 43199) with ⟨h3a, h3⟩ | ⟨h3a, h3⟩
      · simp (disch := first | omega | assumption) only [E0_G, SY, setArgs, off, agreeKind, partVals, vals, allocV, boxed, ldA, rdCells, oneB, aggD, aField, aFieldV, aExtract, eq_self, ne_eq, if_true, if_false, not_false_eq_true, Nat.reduceAdd, Nat.reduceSub, Nat.reduceMul, Nat.reduceLT, Nat.reduceEqDiff, Nat.reduceBEq, reduceIte, Int.reduceEq, Int.reduceLT, Int.reduceLE, reduceCtorEq, TY_EvA14, and_fold, or_fold, not_fold, tz22, Tryz.underlying22, b2, w2, h1a, w1, ix, gb, m0, m1, ix', gb', m0', m1', h2a, h3a, store_agree, store_refl E0_same] at hz
        rw [code_draws _ _ _ (by kernel_rfl)] at hz
        generalize hnd2 : needy _ = nd2 at hz
        subst hof
        obtain ⟨S8, e8, n8, o8, q8⟩ := own_len (y := IntKind.i64.wrap ((lget L (L.length - 1)).l + IntKind.i64.wrap (1 + (lget L 0).l))) o2 (show L.length - 1 < L.length by omega) hb'
        have hne : id ≠ S.next := fun e => o2.ne (show S.next < S1.next + 1 by omega) (by rw [← e]; exact hb')
        have hne1 : id ≠ S1.next := fun e => o2.ne (show S1.next < S1.next + 1 by omega) (by rw [← e]; exact hb')
        have b8 := (q8 S.next (Ne.symm hne)).trans b2
        obtain ⟨v9, k9, l9, bk9⟩ := o8.rows.drop (P := Tryz.prog) (t := 22) Tryz.underlying22 tz56 (i := 1) (by rw [List.length_set]; omega) o8.good
        replace k9 : aSlice Tryz.prog 22 (.slice p2 m2 k2) (some (.int .i64 1)) none S8 = some v9 := k9
        obtain ⟨p9, m9, c9, rfl⟩ := lst_slice l9
        have bk9' : blkOf (.slice p9 m9 c9) = some id := (bk9.resolve_right (by rw [List.length_set]; omega)).trans hb'
        obtain ⟨S10, k10, n10, b10, q10⟩ := st_at (P := Tryz.prog) (o := 0) (c' := [.slice p9 m9 c9]) (v := .slice p9 m9 c9) tz22 b8 rfl rfl (show 0 + 1 ≤ 1 by decide) rfl
        simp (disch := first | omega | assumption) only [E0_G, SY, setArgs, off, agreeKind, partVals, vals, allocV, boxed, ldA, rdCells, oneB, aggD, aField, aFieldV, aExtract, eq_self, ne_eq, if_true, if_false, not_false_eq_true, Nat.reduceAdd, Nat.reduceSub, Nat.reduceMul, Nat.reduceLT, Nat.reduceEqDiff, Nat.reduceBEq, reduceIte, Int.reduceEq, Int.reduceLT, Int.reduceLE, reduceCtorEq, TY_EvA14, and_fold, or_fold, not_fold, tz22, Tryz.underlying22, b2, w2, w1, ix, gb, m0, m1, ix', gb', m0', m1', e8, b8, k9, k10, b10, store_agree, store_refl E0_same] at hz
        have e : wrapA L = (L.set (L.length - 1) ⟨(lget L (L.length - 1)).f, IntKind.i64.wrap ((lget L (L.length - 1)).l + IntKind.i64.wrap (1 + (lget L 0).l))⟩).drop 1 := if_pos ⟨by omega, h2, h3⟩
        rw [e]
        obtain ⟨S', t1, t2', t3, t4⟩ := fin2 S10 (.slice p9 m9 c9) _ ((q10 S1.next (by omega)).trans ((q8 S1.next (Ne.symm hne1)).trans t2)) ⟨by omega, fun q hq => (q10 q (by omega)).trans ((q8 q (fun e => by have := bk2 id hb'; omega)).trans (ag2.2 q hq))⟩
          (l9.frame (by omega) fun j hj hbj => q10 j (fun e => hne (by rw [bk9'] at hbj; have := Option.some.inj hbj; omega))) (by rw [bk9']; exact fun h => hne1 (Option.some.inj h)) (fun q hq => by rw [bk9'] at hq; have := bk2 id hb'; have := Option.some.inj hq; omega)
        rw [handed_take t1] at hz
        simp (disch := first | omega | assumption) only [E0_G, SY, setArgs, off, agreeKind, partVals, vals, allocV, boxed, ldA, rdCells, oneB, aggD, aField, aFieldV, aExtract, eq_self, ne_eq, if_true, if_false, not_false_eq_true, Nat.reduceAdd, Nat.reduceSub, Nat.reduceMul, Nat.reduceLT, Nat.reduceEqDiff, Nat.reduceBEq, reduceIte, Int.reduceEq, Int.reduceLT, Int.reduceLE, reduceCtorEq, TY_EvA14] at hz
        exact ⟨S', _, hz.symm, t2', t3, t4⟩
      · simp (disch := first | omega | assumption) only [E0_G, SY, setArgs, off, agreeKind, partVals, vals, allocV, boxed, ldA, rdCells, oneB, aggD, aField, aFieldV, aExtract, eq_self, ne_eq, if_true, if_false, not_false_eq_true, Nat.reduceAdd, Nat.reduceSub, Nat.reduceMul, Nat.reduceLT, Nat.reduceEqDiff, Nat.reduceBEq, reduceIte, Int.reduceEq, Int.reduceLT, Int.reduceLE, reduceCtorEq, TY_EvA14, and_fold, or_fold, not_fold, tz22, Tryz.underlying22, b2, w2, h1a, w1, ix, gb, m0, m1, ix', gb', m0', m1', h2a, h3a, store_agree, store_refl E0_same] at hz
        obtain ⟨S', t1, t2', t3, t4⟩ := noW (fun h => h3 h.2.2)
        rw [handed_take t1] at hz
        simp (disch := first | omega | assumption) only [E0_G, SY, setArgs, off, agreeKind, partVals, vals, allocV, boxed, ldA, rdCells, oneB, aggD, aField, aFieldV, aExtract, eq_self, ne_eq, if_true, if_false, not_false_eq_true, Nat.reduceAdd, Nat.reduceSub, Nat.reduceMul, Nat.reduceLT, Nat.reduceEqDiff, Nat.reduceBEq, reduceIte, Int.reduceEq, Int.reduceLT, Int.reduceLE, reduceCtorEq, TY_EvA14] at hz
        exact ⟨S', _, hz.symm, t2', t3, t4⟩
    · simp (disch := first | omega | assumption) only [E0_G, SY, setArgs, off, agreeKind, partVals, vals, allocV, boxed, ldA, rdCells, oneB, aggD, aField, aFieldV, aExtract, eq_self, ne_eq, if_true, if_false, not_false_eq_true, Nat.reduceAdd, Nat.reduceSub, Nat.reduceMul, Nat.reduceLT, Nat.reduceEqDiff, Nat.reduceBEq, reduceIte, Int.reduceEq, Int.reduceLT, Int.reduceLE, reduceCtorEq, TY_EvA14, and_fold, or_fold, not_fold, tz22, Tryz.underlying22, b2, w2, h1a, w1, ix, gb, m0, m1, ix', gb', m0', m1', h2a, store_agree, store_refl E0_same] at hz
      obtain ⟨S', t1, t2', t3, t4⟩ := noW (fun h => h2 h.2.1)
      rw [handed_take t1] at hz
      simp (disch := first | omega | assumption) only [E0_G, SY, setArgs, off, agreeKind, partVals, vals, allocV, boxed, ldA, rdCells, oneB, aggD, aField, aFieldV, aExtract, eq_self, ne_eq, if_true, if_false, not_false_eq_true, Nat.reduceAdd, Nat.reduceSub, Nat.reduceMul, Nat.reduceLT, Nat.reduceEqDiff, Nat.reduceBEq, reduceIte, Int.reduceEq, Int.reduceLT, Int.reduceLE, reduceCtorEq, TY_EvA14] at hz
      exact ⟨S', _, hz.symm, t2', t3, t4⟩
  · simp (disch := first | omega | assumption) only [E0_G, SY, setArgs, off, agreeKind, partVals, vals, allocV, boxed, ldA, rdCells, oneB, aggD, aField, aFieldV, aExtract, eq_self, ne_eq, if_true, if_false, not_false_eq_true, Nat.reduceAdd, Nat.reduceSub, Nat.reduceMul, Nat.reduceLT, Nat.reduceEqDiff, Nat.reduceBEq, reduceIte, Int.reduceEq, Int.reduceLT, Int.reduceLE, reduceCtorEq, TY_EvA14, and_fold, or_fold, not_fold, tz22, Tryz.underlying22, b2, w2, h1a, store_agree, store_refl E0_same] at hz
    obtain ⟨S', t1, t2', t3, t4⟩ := noW (fun h => h1 (by omega))
    rw [handed_take t1] at hz
    simp (disch := first | omega | assumption) only [E0_G, SY, setArgs, off, agreeKind, partVals, vals, allocV, boxed, ldA, rdCells, oneB, aggD, aField, aFieldV, aExtract, eq_self, ne_eq, if_true, if_false, not_false_eq_true, Nat.reduceAdd, Nat.reduceSub, Nat.reduceMul, Nat.reduceLT, Nat.reduceEqDiff, Nat.reduceBEq, reduceIte, Int.reduceEq, Int.reduceLT, Int.reduceLE, reduceCtorEq, TY_EvA14] at hz
    exact ⟨S', _, hz.symm, t2', t3, t4⟩
end Great
end Go.Proofs
end
section
/-
  The great seat of stage 1: Meet, Minus and Union of short lists.
-/
set_option linter.unusedSimpArgs false
set_option linter.unusedVariables false
namespace Go.Proofs
namespace Great
open Go Go.RowKit Go.Aev
set_option maxRecDepth 100000

/-- A list that a run made: it stands in a block that is younger than lo (a part of it, perhaps). -/
def Fre {α : Type} [Flat α] (lo : Nat) (S : AS) (v : Value) (l : List α) : Prop := Lst S v l ∧ ∀ q, blkOf v = some q → lo ≤ q ∧ q < S.next
section
variable {α : Type} [Flat α] {lo lo' : Nat} {S S' : AS} {v : Value} {l : List α}
theorem lstLt (h : Lst S v l) {q : Nat} (hq : blkOf v = some q) : q < S.next ∨ v = .slice (some ⟨0, 0, some 0⟩) 0 0 := by
  rcases h with ⟨_, rfl | rfl⟩ | ⟨id, off, c, ty, cap, wr, ex, rfl, _, _, h4, _⟩
  · simp [blkOf] at hq
  · exact .inr rfl
  · simp only [blkOf, Option.some.injEq] at hq; exact .inl (by omega)
theorem Fre.rows (h : Fre lo S v l) : Lst S v l := h.1
theorem Fre.frame (h : Fre lo S v l) (hn : S.next ≤ S'.next) (hf : ∀ id, id < S.next → blkOf v = some id → S'.heap.get id = S.heap.get id) : Fre lo S' v l := ⟨h.1.frame hn hf, fun q hq => by have := h.2 q hq; omega⟩
theorem Fre.agree (h : Fre lo S v l) (ha : Agree S S') : Fre lo S' v l := h.frame ha.1 fun id hid _ => ha.2 id hid
theorem Fre.ne (h : Fre lo S v l) {id : Nat} (hi : id < lo) : blkOf v ≠ some id := fun e => by have := h.2 id e; omega
theorem Fre.new (h : Fre lo S v l) {id : Nat} (hi : S.next ≤ id) : blkOf v ≠ some id := fun e => by have := h.2 id e; omega
theorem Fre.lt (h : Fre lo S v l) {id : Nat} (hb : blkOf v = some id) : id < S.next := (h.2 id hb).2
end

theorem R132_ok (l0 : List Ar) (w : Int) : ∀ (l : List Ar) (j : Nat), (∀ x ∈ l, ArcOk x.f x.l) → R132_0 l0 w l j = .inr () := by
  intro l
  induction l with
  | nil => intro j _; rfl
  | cons x l ih =>
    intro j h
    have hx : r133 (j : Int) x.f x.l = 0 := if_pos (h x (by simp))
    rw [R132_0, if_pos hx]
    exact ih _ (fun y hy => h y (by simp [hy]))
theorem r91_ok {l : List Ar} (h : ∀ x ∈ l, ArcOk x.f x.l) (hn : l.length ≤ 200) : r91 l = 0 := by
  show (r132 l 200).1 = 0
  unfold r132
  rw [if_neg (by omega), onSum_inr (R132_ok l 200 l 0 h)]

set_option maxHeartbeats 2000000 in
theorem keep84 : KeepOk 53 (fun u w => u && w) := by
  intro u w S
  generalize hz : (evL Tryz.prog E0).call 53 _ _ = z
  rw [L_call, evCall_said rfl Tryz.func53 rfl (by decide) Tryz.ntmps53 Tryz.results53] at hz
  obtain ⟨S1, e1, n1, b1, a1⟩ := push_open S (.cells [.bool u, .bool w] 85 0 true true)
  have i0 : aIndexAddr Tryz.prog 85 (.pointer (some ⟨S.next, 0, none⟩)) (.int .i64 0) = some (.pointer (some ⟨S.next, 0, none⟩)) := by kernel_rfl
  have i1 : aIndexAddr Tryz.prog 85 (.pointer (some ⟨S.next, 0, none⟩)) (.int .i64 1) = some (.pointer (some ⟨S.next, 1, none⟩)) := by kernel_rfl
  cases u
  · simp (disch := first | omega | assumption) only [E0_G, SY, setArgs, off, agreeKind, boxed, ldA, aggD, Nat.reduceAdd, Nat.reduceSub, Nat.reduceLT, Nat.reduceBEq, e1, b1, i0, Tryz.underlying85, Tryz.underlying4] at hz
    exact ⟨S1, hz.symm, a1⟩
  · simp (disch := first | omega | assumption) only [E0_G, SY, setArgs, off, agreeKind, boxed, ldA, aggD, Nat.reduceAdd, Nat.reduceSub, Nat.reduceLT, Nat.reduceBEq, e1, b1, i0, i1, Tryz.underlying85, Tryz.underlying4] at hz
    exact ⟨S1, hz.symm, a1⟩

theorem cutsTo_len (a b : List Ar) : (cutsTo a b 2).length = 2 * (r178 a).length + 2 * (r178 b).length := by simp only [cutsTo, List.length_append, cutsOf_len]
set_option maxHeartbeats 8000000 in
theorem c82 {N : Nat} (hs : SortOk N) (hN1 : N ≤ 1000) (a b : List Ar) (ha : ∀ x ∈ a, ArcOk x.f x.l) (hb : ∀ x ∈ b, ArcOk x.f x.l) (hna : a.length ≤ 200) (hnb : b.length ≤ 200) (hN : 2 * (r178 a).length + 2 * (r178 b).length ≤ N)
    (kf : FuncId) (keep : Bool → Bool → Bool) (hk : KeepOk kf keep) (S : AS) (ht : Tab S) (pa pb : Option Addr) (na ca nb cb : Nat) (hv_a : Lst S (.slice pa na ca) a) (hv_b : Lst S (.slice pb nb cb) b)
    (hba : ∀ q, blkOf (.slice pa na ca) = some q → q < S.next) (hbb : ∀ q, blkOf (.slice pb nb cb) = some q → q < S.next) :
    ∃ v' S' ks, (evL Tryz.prog E0).call 51 #[.agg #[.slice pa na ca, .slice pb nb cb], .func (.func kf) #[] #[]] S = some (.tuple #[v', .int .i64 0], S') ∧ Agree S S' ∧ Fre S.next S' v' (r129 (R152 keep ks 0 0)) ∧ ks.Perm (cutsTo a b 2) ∧ KSorted ks := by
  generalize hz : (evL Tryz.prog E0).call 51 _ _ = z
  rw [L_call, evCall_said rfl Tryz.func51 rfl (by decide) Tryz.ntmps51 Tryz.results51] at hz
  obtain ⟨S1, e1, n1, b1, a1⟩ := push_open S (.cells [.slice pa na ca, .slice pb nb cb] 84 0 true true)
  have x0 : aIndexV Tryz.prog 84 (.agg #[.slice pa na ca, .slice pb nb cb]) (.int .i64 0) = some (.slice pa na ca) := by kernel_rfl
  have x1 : aIndexV Tryz.prog 84 (.agg #[.slice pa na ca, .slice pb nb cb]) (.int .i64 1) = some (.slice pb nb cb) := by kernel_rfl
  have w1 : IntKind.i64.wrap ((0 : Int) + 1) = 1 := by decide
  have w2 : IntKind.i64.wrap ((1 : Int) + 1) = 2 := by decide
  obtain ⟨S2, k2, a2⟩ := c91 a (by omega) S1 _ (hv_a.agree a1) (ht.agree a1)
  rw [r91_ok ha (by omega)] at k2
  obtain ⟨S3, k3, a3⟩ := c91 b (by omega) S2 _ (hv_b.agree (a1.trans a2)) (ht.agree (a1.trans a2))
  rw [r91_ok hb (by omega)] at k3
  have b3 := (a3.2 S.next (by have := a2.1; omega)).trans ((a2.2 S.next (by omega)).trans b1)
  have g3 := (a1.trans a2).trans a3
  have m3 := g3.1
  have m3' := (a2.trans a3).1
  obtain ⟨S4, x, y, po, no, co, ks, k4, a4, hx, hy, lx, ly, lx', ly', nxy, o4, nx4, ny4, hc1, hc2⟩ := c130 hs a b (by omega) (by omega) hN S3 pa pb na ca nb cb (hv_a.agree g3) (hv_b.agree g3) (fun q hq => by have := hba q hq; omega) (fun q hq => by have := hbb q hq; omega) kf
  have hcl : ks.length ≤ 1000 := by rw [hc1.length_eq, cutsTo_len]; omega
  obtain ⟨S5, v5, k5, a5, l5, f5⟩ := c129 ks hcl (fun z hz => (cutsTo_ok ha hb z (hc1.mem_iff.1 hz)).1) kf keep hk S4 x y po no co hx hy lx' ly' o4.rows (fun q hq => o4.lt hq)
  simp (disch := first | omega | assumption) only [E0_G, SY, setArgs, off, agreeKind, boxed, ldA, rdCells, aggD, Nat.reduceAdd, Nat.reduceSub, Nat.reduceLT, Nat.reduceBEq, e1, b1, tz105, Tryz.underlying84] at hz
  rw [L_loop_step] at hz
  simp (disch := first | omega | assumption) only [E0_G, SY, off, agreeKind, vals, eq_self, Nat.reduceAdd, Nat.reduceLT, Nat.reduceBEq, Int.reduceLT, x0, k2, w1] at hz
  rw [L_loop_step] at hz
  simp (disch := first | omega | assumption) only [E0_G, SY, off, agreeKind, vals, eq_self, Nat.reduceAdd, Nat.reduceLT, Nat.reduceBEq, Int.reduceLT, x1, k3, w2] at hz
  rw [L_loop_step] at hz
  simp (disch := first | omega | assumption) only [E0_G, SY, off, agreeKind, vals, ldA, rdCells, aggD, eq_self, if_true, Nat.reduceAdd, Nat.reduceLT, Nat.reduceBEq, Int.reduceLT, b3, tz105, Tryz.underlying84, k4, k5] at hz
  have m4 := a4.1
  exact ⟨v5, S5, ks, hz.symm, (g3.trans a4).trans a5, ⟨l5, fun q hq => by
    have h1 := f5 q hq
    have h2 := ht.1
    rcases lstLt l5 hq with h3 | h3
    · omega
    · subst h3; simp only [blkOf, Option.some.injEq] at hq; omega⟩, hc1, hc2⟩

theorem lst_lt {S : AS} {v : Value} {l : List Ar} (h : Lst S v l) (h1 : 1 ≤ S.next) : ∀ q, blkOf v = some q → q < S.next := by
  intro q hq
  rcases lstLt h hq with h2 | h2
  · exact h2
  · subst h2; simp only [blkOf, Option.some.injEq] at hq; omega
set_option maxHeartbeats 2000000 in
theorem c18 {N : Nat} (hs : SortOk N) (hN1 : N ≤ 1000) (a b : List Ar) (ha : ∀ x ∈ a, ArcOk x.f x.l) (hb : ∀ x ∈ b, ArcOk x.f x.l) (hna : a.length ≤ 200) (hnb : b.length ≤ 200) (hN : 2 * (r178 a).length + 2 * (r178 b).length ≤ N)
    (S : AS) (v_a : Value) (hv_a : Lst S v_a a) (v_b : Value) (hv_b : Lst S v_b b) (ht : Tab S) :
    ∃ v' S', (evL Tryz.prog E0).call 14 #[v_a, v_b] S = some (.tuple #[v', .int .i64 0], S') ∧ Agree S S' ∧ Fre S.next S' v' (r25 a b) := by
  generalize hz : (evL Tryz.prog E0).call 14 _ _ = z
  rw [L_call, evCall_said rfl Tryz.func14 rfl (by decide) Tryz.ntmps14 Tryz.results14] at hz
  have hS := ht.1
  obtain ⟨pa, na, ca, rfl⟩ := lst_slice hv_a
  obtain ⟨pb, nb, cb, rfl⟩ := lst_slice hv_b
  obtain ⟨v', S', ks, k, ag, fr, hc1, hc2⟩ := c82 hs hN1 a b ha hb hna hnb hN 53 _ keep84 S ht pa pb na ca nb cb hv_a hv_b (lst_lt hv_a (by omega)) (lst_lt hv_b (by omega))
  rw [meet_eq ha hb hc1 hc2 (by rw [hc1.length_eq, cutsTo_len]; omega)] at fr
  have y1 : aBuild Tryz.prog 84 [(0, .slice pa na ca), (1, .slice pb nb cb)] = some (.agg #[.slice pa na ca, .slice pb nb cb]) := by kernel_rfl
  simp (disch := first | omega | assumption) only [E0_G, SY, setArgs, off, agreeKind, partVals, vals, aExtract, Nat.reduceAdd, Nat.reduceSub, Nat.reduceLT, Nat.reduceBEq, y1, k] at hz
  exact ⟨v', S', hz.symm, ag, fr⟩
/-- At most twelve cuts are sorted. -/
theorem sort12 : SortOk 12 := by
  intro l hl lo S v ho id hb
  obtain ⟨S', k, kp, ow⟩ := c163 len12 l hl lo S v ho id hb
  by_cases h : 0 < l.length
  case neg =>
    have e : l = [] := List.eq_nil_of_length_eq_zero (by omega)
    subst e
    exact ⟨S', [], k, kp, ow, List.Perm.refl _, trivial⟩
  obtain ⟨i1, i2⟩ := isort_ok (l.length - 1) 1 l (Nat.le_refl _) (by omega) (fun u v huv hv => by omega)
  exact ⟨S', _, k, kp, ow, i1, ksorted_of _ fun u w huw hw => i2 u w huw (by rw [i1.length_eq] at hw; omega)⟩
theorem pieces_one {x y : Int} (h : ArcOk x y) : 0 < (r178 [⟨x, y⟩]).length ∧ (r178 [⟨x, y⟩]).length ≤ 2 := by
  show 0 < (R178_0 _ [⟨x, y⟩]).length ∧ (R178_0 _ [⟨x, y⟩]).length ≤ 2
  rw [R178_0]
  split <;> simp [R178_0]
theorem one_ok {x y : Int} (h : ArcOk x y) : ∀ z ∈ ([(⟨x, y⟩ : Ar)] : List Ar), ArcOk z.f z.l := by
  intro z hz
  rw [List.mem_singleton] at hz
  subst hz; exact h
theorem mark_arc {a b c d e : Int} (h : errV (MarkOk a b c d e) = 0) : ArcOk a b := by
  by_cases h1 : MarkOk a b c d e
  · exact h1.1
  · rw [errV_neg h1] at h; simp at h
/-- The angles that two arcs have. -/
theorem c18o (x y x2 y2 : Int) (h : ArcOk x y) (h2 : ArcOk x2 y2) (S : AS) (v_a : Value) (hv_a : Lst S v_a ([(⟨x, y⟩ : Ar)] : List Ar)) (v_b : Value) (hv_b : Lst S v_b ([(⟨x2, y2⟩ : Ar)] : List Ar)) (ht : Tab S) :
    ∃ v' S', (evL Tryz.prog E0).call 14 #[v_a, v_b] S = some (.tuple #[v', .int .i64 0], S') ∧ Agree S S' ∧ Fre S.next S' v' (r25 ([(⟨x, y⟩ : Ar)] : List Ar) ([(⟨x2, y2⟩ : Ar)] : List Ar)) := by
  have p1 := pieces_one h
  have p2 := pieces_one h2
  exact c18 sort12 (by omega) _ _ (one_ok h) (one_ok h2) (by simp) (by simp) (by omega) S v_a hv_a v_b hv_b ht
end Great
end Go.Proofs
end
