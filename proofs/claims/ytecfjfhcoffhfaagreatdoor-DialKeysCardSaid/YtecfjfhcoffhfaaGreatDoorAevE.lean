/-
  A REFERENCE RUN, PART E: slices of slices, and the built-in append: behind it the old block is gone from the abstract store, whether the model moved or not.
-/
import Derived.Test.YtecfjfhcoffhfaaGreatDoorAevD
set_option linter.unusedSimpArgs false
namespace Go.Aev
open Go Go.RowKit

section
variable {B : Nat} {w0 : World} {G : Nat} {P : Program} {σ : Sig}

/-! ### s[l:h] -/
def natOr (d : Nat) : Option Value → Option Nat
  | none => some d
  | some (.int _ (.ofNat n)) => some n
  | _ => none

def aSlice (P : Program) (t : TypeId) (x : Value) (lo hi : Option Value) (S : AS) : Option Value :=
  match x, P.underlying t with
  | .slice (some a) len cap, some (.slice el) =>
    match a.spot, S.heap.get a.block, szOf P el, natOr 0 lo, natOr len hi with
    | none, some (.cells _ _ sz _ _), some n, some l, some h =>
      match Nat.ble l h, Nat.ble h cap, Nat.beq sz n with
      | true, true, true =>
        match Nat.beq cap l with
        | true => some (.slice (some ⟨0, 0, some 0⟩) 0 0)
        | false => some (.slice (some (a.add (l * n))) (h - l) (cap - l))
      | _, _, _ => none
    | _, _, _, _, _ => none
  | _, _ => none

theorem bound_run {v v' : Value} {n y d : Nat} {c : BoundsCode} (hv : VR σ v v') (e : natOr d (some v) = some n) (hy : n ≤ y) (w : World) : (Instr.sliceBound v' y c).run P w = .ok n w := by
  unfold natOr at e
  split at e
  · rename_i h; cases h
  · rename_i k m h
    cases h
    cases hv
    simp at e
    subst e
    have : (0 : Int) ≤ (Int.ofNat m) ∧ (Int.ofNat m) ≤ (y : Int) := by constructor <;> simp <;> omega
    simp [Instr.sliceBound, asIntOf, hy, pure, Sem.run]
  · simp at e

theorem aSlice_ok {S : AS} {w : World} (h : HR B w0 G σ S w) (t : TypeId) {x x' : Value} (hx : VR σ x x') {lo hi lo' hi' : Option Value} (hlo : ∀ v, lo = some v → ∃ v', lo' = some v' ∧ VR σ v v') (hlo0 : lo = none → lo' = none)
    (hhi : ∀ v, hi = some v → ∃ v', hi' = some v' ∧ VR σ v v') (hhi0 : hi = none → hi' = none) {v : Value} (e : aSlice P t x lo hi S = some v) :
    ∃ v', (Instr.sliceAt t x' lo' hi' none).run P w = .ok v' w ∧ VR σ v v' := by
  unfold aSlice at e
  split at e
  · rename_i a len cap el hu
    split at e
    · rename_i c ty sz wr ex n l hh hsp hg hn hl hhh
      split at e
      · rename_i b1 b2 b3
        have b1 := Nat.le_of_ble_eq_true b1
        have b2 := Nat.le_of_ble_eq_true b2
        have b3 := Nat.eq_of_beq_eq_true b3
        subst b3
        cases hx with
        | slg => simp at hsp
        | sl hs hc hlc he =>
          rename_i id off L cap'
          obtain ⟨L', C, Ty, fz, k1, k2, k3, k4, _⟩ := h.blk _ _ hg
          rw [hs] at k1; cases k1
          have runb : (Instr.sliceBounds true len cap' lo' hi' none).run P w = .ok (l, hh, cap') w := by
            cases hi with
            | none =>
              rw [hhi0 rfl]
              simp only [natOr, Option.some.injEq] at hhh
              subst hhh
              cases lo with
              | none => rw [hlo0 rfl]; simp only [natOr, Option.some.injEq] at hl; subst hl; simp [Instr.sliceBounds, pure, Sem.run]
              | some y =>
                obtain ⟨y', rfl, hy⟩ := hlo y rfl
                have hb := bound_run (P := P) (c := .sliceB) hy hl b1 w
                simp [Instr.sliceBounds, pure, Sem.run, hb]
            | some z =>
              obtain ⟨z', rfl, hz⟩ := hhi z rfl
              have ha := bound_run (P := P) (c := .sliceAcap) hz hhh (Nat.le_trans b2 hc) w
              cases lo with
              | none => rw [hlo0 rfl]; simp only [natOr, Option.some.injEq] at hl; subst hl; simp [Instr.sliceBounds, pure, Sem.run, ha]
              | some y =>
                obtain ⟨y', rfl, hy⟩ := hlo y rfl
                have hb := bound_run (P := P) (c := .sliceB) hy hl b1 w
                simp [Instr.sliceBounds, pure, Sem.run, ha, hb]
          have run : (Instr.sliceAt t (.slice (some ⟨L.blk, L.off + off, none⟩) len cap') lo' hi' none).run P w =
              .ok (.slice (some (if cap' = l then ⟨L.blk, L.off + off, none⟩ else Addr.add ⟨L.blk, L.off + off, none⟩ (l * sz))) (hh - l) (cap' - l)) w := by
            simp only [Instr.sliceAt, Instr.slice, Sem.run_bind, run_und hu, Result.andThen_ok, runb, run_sz hn, pure, Sem.run]
            by_cases hcl : cap' = l <;> simp [hcl]
          split at e
          · rename_i b4
            have b4 := Nat.eq_of_beq_eq_true b4
            simp only [Option.some.injEq] at e
            subst e
            have : hh - l = 0 := by omega
            rw [this] at run
            exact ⟨_, run, .slg⟩
          · rename_i b4
            have b4 := Nat.ne_of_beq_eq_false b4
            simp only [Option.some.injEq] at e
            subst e
            have hne : ¬ cap' = l := by omega
            rw [if_neg hne] at run
            refine ⟨_, run, ?_⟩
            have e1 : Addr.add ⟨id, off, none⟩ (l * sz) = ⟨id, off + l * sz, none⟩ := by unfold Addr.add; split <;> simp_all
            have e2 : Addr.add ⟨L.blk, L.off + off, none⟩ (l * sz) = ⟨L.blk, L.off + (off + l * sz), none⟩ := by unfold Addr.add; split <;> simp_all [Nat.add_assoc]
            rw [e1, e2]
            refine .sl hs (by omega) (by omega) (fun h0 => ?_)
            have := he h0
            rw [k4] at this ⊢
            have h5 : cap' * sz = l * sz + (cap' - l) * sz := by rw [← Nat.add_mul]; congr 1; omega
            omega
      · simp at e
    · simp at e
  · simp at e

/-! ### append: the store -/
/-- Cells from a place on, all there. -/
def AS.cellsAt (S : AS) (a : Addr) (n : Nat) : Option (List Value) :=
  match a.spot, S.heap.get a.block with
  | none, some (.cells c _ _ _ _) =>
    match Nat.ble (a.off + n) c.length with
    | true => some ((c.drop a.off).take n)
    | false => none
  | _, _ => none

/-- The block is given up; what follows from a place on is a block of its own. -/
theorem HR.move {S : AS} {w : World} (h : HR B w0 G σ S w) {id off : Nat} {c : List Value} {ty sz : Nat} {ex : Bool} {L : Loc} (hg : S.heap.get id = some (.cells c ty sz true ex)) (hL : σ id = some L) :
    HR B w0 G (σ.more S.next ⟨L.blk, L.off + off, L.ext, L.sz⟩) ({ heap := (S.heap.set id (some .gone)).set S.next (some (.cells (c.drop off) ty sz true false)), next := S.next + 1 }) w := by
  have hle := Sig.more_le (L := ⟨L.blk, L.off + off, L.ext, L.sz⟩) h.fresh
  obtain ⟨L', C, Ty, fz, k1, k2, k3, k4, k5, k7, k6⟩ := h.blk _ _ hg
  rw [hL] at k1; cases k1
  have hidn : id < S.next := (h.dom _ _ hL).1
  refine ⟨h.below, h.hB, ?_, ?_, ?_, fun g hg => let ⟨M, a, b⟩ := h.glob g hg; ⟨M, hle _ _ a, b⟩⟩
  · intro i M hM
    unfold Sig.more at hM
    by_cases hi : i = S.next
    · rw [if_pos hi] at hM; cases hM; exact ⟨by simp [hi], (h.dom _ _ hL).2⟩
    · rw [if_neg hi] at hM; have := h.dom i M hM; exact ⟨by simp only; omega, this.2⟩
  · intro i b hb
    simp only [T.get_set] at hb
    by_cases hi : i = S.next
    · rw [if_pos hi] at hb; cases hb
      subst hi
      refine ⟨_, C, Ty, fz, Sig.more_self _ _ _, k2, k3, k4, k5, fun hf => by simp at hf, fun j v e => ?_⟩
      rw [List.getElem?_drop] at e
      obtain ⟨v', e', r⟩ := k6 _ _ e
      exact ⟨v', by rw [← e']; congr 1; simp only; omega, r.mono hle⟩
    · rw [if_neg hi] at hb
      by_cases hi2 : i = id
      · rw [if_pos hi2] at hb; cases hb; trivial
      · rw [if_neg hi2] at hb; exact (h.blk i b hb).mono hle
  · intro i i' b b' M M' hb hl hb' hl' hM hM' e hm
    simp only [T.get_set] at hb hb'
    unfold Sig.more at hM hM'
    have notid : ∀ {j : Nat} {b : ABlk}, (if j = id then some ABlk.gone else S.heap.get j) = some b → b.live = true → j ≠ id ∧ S.heap.get j = some b := by
      intro j b hb hl
      by_cases hj : j = id
      · rw [if_pos hj] at hb; cases hb; simp [ABlk.live] at hl
      · rw [if_neg hj] at hb; exact ⟨hj, hb⟩
    by_cases hi : i = S.next <;> by_cases hi' : i' = S.next
    · rw [hi, hi']
    · rw [if_pos hi] at hM; rw [if_neg hi'] at hM' hb'
      cases hM
      obtain ⟨h1, h2⟩ := notid hb' hl'
      exact absurd (h.inj _ _ _ _ _ _ h2 hl' hg rfl hM' hL e.symm (by simp [ABlk.mut])) h1
    · rw [if_neg hi] at hM hb; rw [if_pos hi'] at hM'
      cases hM'
      obtain ⟨h1, h2⟩ := notid hb hl
      exact absurd (h.inj _ _ _ _ _ _ h2 hl hg rfl hM hL e (by simp [ABlk.mut])) h1
    · rw [if_neg hi] at hM hb; rw [if_neg hi'] at hM' hb'
      exact h.inj _ _ _ _ M M' (notid hb hl).2 hl (notid hb' hl').2 hl' hM hM' e hm

/-- One cell more at the end of a block. -/
theorem HR.more {S : AS} {w : World} (h : HR B w0 G σ S w) {id : Nat} {c : List Value} {ty sz : Nat} {L : Loc} (hg : S.heap.get id = some (.cells c ty sz true false)) (hL : σ id = some L) (hroom : L.off + c.length < L.ext)
    {v v' : Value} (hv : VR σ v v') :
    (∃ u, w.cell? ⟨L.blk, L.off + c.length, none⟩ = some u) ∧ w.frozen? ⟨L.blk, L.off + c.length, none⟩ = false ∧
      HR B w0 G σ { S with heap := S.heap.set id (some (.cells (c ++ [v]) ty sz true false)) } (w.setCell ⟨L.blk, L.off + c.length, none⟩ v') := by
  obtain ⟨L', C, Ty, fz, k1, k2, k3, k4, k5, k7, k6⟩ := h.blk _ _ hg
  rw [hL] at k1; cases k1
  obtain ⟨rfl, kB, kT⟩ := k5 rfl
  have hCs : L.off + c.length < C.size := by omega
  have same : ∀ k, k ≠ L.blk → (w.setCell ⟨L.blk, L.off + c.length, none⟩ v').heap[k]? = w.heap[k]? := fun k hk => Below.heap_setCell _ _ _ _ hk
  have here : (w.setCell ⟨L.blk, L.off + c.length, none⟩ v').heap[L.blk]? = some (.cells (C.setIfInBounds (L.off + c.length) v') Ty (0, 0)) := by
    simp [World.setCell, Array.getElem?_modify, k2]
  refine ⟨⟨C[L.off + c.length], by simp [World.cell?, k2, hCs]⟩, by simp [World.frozen?, k2], ?_⟩
  refine ⟨h.below.setCell (p := ⟨L.blk, L.off + c.length, none⟩) kB v', by simpa [World.setCell] using h.hB, fun id M hM => by simpa [World.setCell] using h.dom id M hM, ?_, ?_, h.glob⟩
  · intro i b hb
    simp only [T.get_set] at hb
    by_cases hid : i = id
    · subst hid
      simp only [if_true, Option.some.injEq] at hb
      subst hb
      refine ⟨L, _, Ty, (0, 0), hL, here, by simpa using k3, k4, fun _ => ⟨rfl, kB, kT⟩, fun hx => by simp at hx, fun j x hx => ?_⟩
      rw [List.getElem?_append] at hx
      split at hx
      · rename_i hj
        obtain ⟨x', hx', r⟩ := k6 _ _ hx
        exact ⟨x', by rw [Array.getElem?_setIfInBounds, if_neg (by omega)]; exact hx', r⟩
      · rename_i hj
        have hj2 : j = c.length := by
          rcases Nat.lt_or_ge j (c.length + 1) with h1 | h1
          · omega
          · rw [List.getElem?_eq_none (by simp; omega)] at hx; cases hx
        subst hj2
        simp at hx
        subst hx
        exact ⟨v', by simp [hCs], hv⟩
    · rw [if_neg hid] at hb
      refine (h.blk i b hb).of_same (fun hl M hM => same _ fun eM => hid ?_)
      exact h.inj i id b _ M L hb hl hg rfl hM hL eM (by simp [ABlk.mut])
  · intro i i' b b' M M' hb hl hb' hl' hM hM' e hm
    simp only [T.get_set] at hb hb'
    by_cases hid : i = id
    · by_cases hid' : i' = id
      · rw [hid, hid']
      · rw [if_neg hid'] at hb'
        subst hid
        exact h.inj _ _ _ _ M M' hg rfl hb' hl' hM hM' e (by simp [ABlk.mut])
    · rw [if_neg hid] at hb
      by_cases hid' : i' = id
      · subst hid'
        exact h.inj _ _ _ _ M M' hb hl hg rfl hM hM' e (by simp [ABlk.mut])
      · rw [if_neg hid'] at hb'
        exact h.inj _ _ _ _ M M' hb hl hb' hl' hM hM' e hm

theorem HR.congr {S S' : AS} {w : World} (h : HR B w0 G σ S w) (hn : S'.next = S.next) (hg : ∀ j, S'.heap.get j = S.heap.get j) : HR B w0 G σ S' w :=
  ⟨h.below, h.hB, fun i L e => by rw [hn]; exact h.dom i L e, fun j b hb => h.blk j b ((hg j).symm.trans hb),
    fun j j' b b' M M' hb hl hb' hl' => h.inj j j' b b' M M' ((hg j).symm.trans hb) hl ((hg j').symm.trans hb') hl', h.glob⟩
theorem run_store {w : World} {a : Addr} {v u : Value} (h1 : oneB v = true) (hc : w.cell? a = some u) (hf : w.frozen? a = false) : (Sem.store .plain a v (.pure ())).run P w = .ok () (w.setCell a v) := by
  cases v <;> first | (simp [oneB] at h1; done) | simp [Sem.run, hc, hf]

/-- Cells more at the end of a block, by the model's own loop. -/
theorem HR.moreAll {id : Nat} {ty sz : Nat} {L : Loc} : ∀ (vs vs' : List Value) {S : AS} {w : World} {c : List Value} (a : Addr) (i : Nat), HR B w0 G σ S w → S.heap.get id = some (.cells c ty sz true false) → σ id = some L →
    L.off + c.length + vs.length ≤ L.ext → a.spot = none → a.block = L.blk → a.off + i = L.off + c.length → AR σ ⟨vs⟩ ⟨vs'⟩ → (∀ v ∈ vs, oneB v = true) →
    ∃ w', (storeCells a vs' i).run P w = .ok () w' ∧ HR B w0 G σ { S with heap := S.heap.set id (some (.cells (c ++ vs) ty sz true false)) } w'
  | [], [], S, w, c, a, i, h, hg, hL, _, _, _, _, _, _ => by
    refine ⟨w, by simp [storeCells, pure, Sem.run], h.congr rfl (fun j => ?_)⟩
    simp only [T.get_set, List.append_nil]
    by_cases hj : j = id
    · subst hj; simp [hg]
    · rw [if_neg hj]
  | [], _ :: _, _, _, _, _, _, _, _, _, _, _, _, _, hr, _ => by have := hr.1; simp at this
  | _ :: _, [], _, _, _, _, _, _, _, _, _, _, _, _, hr, _ => by have := hr.1; simp at this
  | v :: vs, v' :: vs', S, w, c, a, i, h, hg, hL, hroom, hs, hb, ho, hr, h1 => by
    have h0 : VR σ v v' := by obtain ⟨u, hu, r⟩ := hr.get (i := 0) (v := v) (by simp); simp at hu; exact hu ▸ r
    have hr' : AR σ ⟨vs⟩ ⟨vs'⟩ := by
      refine AR.of_get (by have := hr.1; simpa using this) (fun j x y hx hy => ?_)
      obtain ⟨u, hu, r⟩ := hr.get (i := j + 1) (v := x) (by simpa using hx)
      have : u = y := by simp at hu hy; rw [hu] at hy; exact Option.some.inj hy
      exact this ▸ r
    obtain ⟨⟨u, hu⟩, hf, hm⟩ := h.more hg hL (by simp at hroom; omega) h0
    have hadd : a.add i = ⟨L.blk, L.off + c.length, none⟩ := by
      obtain ⟨ab, ao, as⟩ := a
      simp only at hs hb ho
      subst hs; subst hb
      unfold Addr.add
      split <;> simp_all
    have hone : oneB v' = true := h0.oneCell.trans (h1 v (by simp))
    obtain ⟨w', hrun, hr2⟩ := HR.moreAll (ty := ty) (sz := sz) vs vs' (S := { S with heap := S.heap.set id (some (.cells (c ++ [v]) ty sz true false)) }) (c := c ++ [v]) a (i + 1) hm (by simp [T.get_set]) hL (by simp at hroom ⊢; omega) hs hb (by simp; omega) hr'
      (fun x hx => h1 x (List.mem_cons_of_mem _ hx))
    refine ⟨w', ?_, ?_⟩
    · simp only [storeCells, store, hadd, Sem.run_bind]
      rw [run_store hone hu hf, Result.andThen_ok, hrun]
    · refine hr2.congr rfl (fun j => ?_)
      simp only [T.get_set]
      by_cases hj : j = id <;> simp [hj]
end
end Go.Aev
