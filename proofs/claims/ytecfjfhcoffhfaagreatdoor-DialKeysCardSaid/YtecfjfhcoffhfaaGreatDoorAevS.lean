/-
  A REFERENCE RUN, PART S (before G): bytes that become a string; copy of nothing.
-/
import Derived.Test.YtecfjfhcoffhfaaGreatDoorAevF
import Derived.Lib.UnsafeStr
set_option linter.unusedSimpArgs false
set_option linter.unusedVariables false
namespace Go.Aev
open Go Go.RowKit

section
variable {B : Nat} {w0 : World} {G : Nat} {P : Program} {σ : Sig}

/-- One block is turned. -/
theorem HR.turn {S : AS} {w w' : World} (h : HR B w0 G σ S w) {id : Nat} {b b' : ABlk} {L : Loc} (hg : S.heap.get id = some b) (hl : b.live = true) (hmu : b.mut = true) (hL : σ id = some L) (hbelow : Below B w0 w') (hsize : w'.heap.size = w.heap.size)
    (same : ∀ k, k ≠ L.blk → w'.heap[k]? = w.heap[k]?) (hnew : BR B σ w' id b') :
    HR B w0 G σ { S with heap := S.heap.set id (some b') } w' := by
  refine ⟨hbelow, by rw [hsize]; exact h.hB, fun i M hM => by rw [hsize]; exact h.dom i M hM, ?_, ?_, h.glob⟩
  · intro i c hc
    simp only [T.get_set] at hc
    by_cases hi : i = id
    · rw [if_pos hi] at hc; cases hc; rw [hi]; exact hnew
    · rw [if_neg hi] at hc
      exact (h.blk i c hc).of_same (fun hcl M hM => same _ fun eM => hi (h.inj i id c b M L hc hcl hg hl hM hL eM (by simp [hmu])))
  · intro i i' c c' M M' hc hcl hc' hcl' hM hM' e hm
    simp only [T.get_set] at hc hc'
    by_cases hi : i = id
    · by_cases hi' : i' = id
      · rw [hi, hi']
      · rw [if_neg hi'] at hc'
        subst hi
        exact h.inj _ _ _ _ M M' hg hl hc' hcl' hM hM' e (by simp [hmu])
    · rw [if_neg hi] at hc
      by_cases hi' : i' = id
      · subst hi'
        exact h.inj _ _ _ _ M M' hc hcl hg hl hM hM' e (by simp [hmu])
      · rw [if_neg hi'] at hc'
        exact h.inj _ _ _ _ M M' hc hcl hc' hcl' hM hM' e hm

def valByte : Value → Option UInt8
  | .int .u8 (.ofNat k) => match Nat.ble k 255 with
    | true => some (UInt8.ofNat k)
    | false => none
  | _ => none
def valBytes : List Value → Option (List UInt8)
  | [] => some []
  | v :: l => match valByte v, valBytes l with
    | some x, some xs => some (x :: xs)
    | _, _ => none

theorem valBytes_spec : ∀ (vs : List Value) {l : List UInt8}, valBytes vs = some l → l.length = vs.length ∧ ∀ (j : Nat) (x : UInt8), l[j]? = some x → vs[j]? = some (.int .u8 x.toNat)
  | [], l, e => by simp [valBytes] at e; subst e; exact ⟨rfl, fun j x h => by simp at h⟩
  | v :: vs, l, e => by
    simp only [valBytes] at e
    split at e
    · rename_i x xs h1 h2
      simp only [Option.some.injEq] at e
      subst e
      obtain ⟨k1, k2⟩ := valBytes_spec vs h2
      refine ⟨by simp [k1], fun j y hy => ?_⟩
      cases j with
      | zero =>
        simp at hy; subst hy
        unfold valByte at h1
        split at h1
        · rename_i k
          split at h1
          · rename_i hb
            have hb := Nat.le_of_ble_eq_true hb
            simp only [Option.some.injEq] at h1
            subst h1
            have : (UInt8.ofNat k).toNat = k := by simp; omega
            simp [this]
          · simp at h1
        · simp at h1
      | succ j => simpa using k2 j y (by simpa using hy)
    · simp at e

def aString (P : Program) (pt : TypeId) (p n : Value) (S : AS) : Option (Value × AS) :=
  match p, n with
  | .pointer _, .int .i64 (.ofNat 0) => some (.string .empty, S)
  | .pointer (some a), .int .i64 (.ofNat n) =>
    match a.spot, S.heap.get a.block, P.underlying pt with
    | none, some (.cells c ty sz true ex), some (.pointer e) =>
      match Nat.beq e ty, Nat.beq (P.cellsOf e) 1, Nat.ble (a.off + n) c.length, Nat.ble n 9223372036854775807, valBytes ((c.drop a.off).take n) with
      | true, true, true, true, some l => some (.string ⟨l.toArray⟩, { S with heap := S.heap.set a.block (some (.cells c ty sz false ex)) })
      | _, _, _, _, _ => none
    | _, _, _ => none
  | _, _ => none

theorem liesAt_row {e : TypeId} (hc : P.cellsOf e = 1) (count off n : Nat) (hn : off + n ≤ count) : liesAt P P.depth e count off e n = true := by
  have hd : P.depth = (2 * (P.types.size + Made.depth) + 1) + 1 := rfl
  rw [hd]
  simp only [liesAt, Bool.or_eq_true]
  left
  rw [hd]
  simp [rowAt, hc, hn, sameLayout, Nat.mod_one]

theorem run_unsafeString_at (w : World) (pt it ty e : TypeId) (hp : P.underlying pt = some (.pointer e)) (hc : P.cellsOf e = 1) (g off cells : Nat) (hsh : w.shape? g = some (e, cells)) (l : List UInt8) (hn : off + l.length ≤ cells) (h63 : l.length ≤ 9223372036854775807)
    (hcell : ∀ j x, l[j]? = some x → w.cell? ((⟨g, off, none⟩ : Addr).add j) = some (.int .u8 x.toNat)) :
    (Builtin.unsafeString_ #[pt, it] ty #[.pointer (some ⟨g, off, none⟩), .int .i64 l.length]).run P w = .ok (.string ⟨l.toArray⟩) (w.freeze ⟨g, off, none⟩ l.length) := by
  have hlb := Go.Lib.run_loadBytes (P := P) w l ⟨g, off, none⟩ .empty hcell
  have hlies := liesAt_row (P := P) hc (cells / P.cellsOf e) off l.length (by rw [hc]; simpa using hn)
  have h63' : ¬ (9223372036854775807 : Int) < (l.length : Int) := by omega
  have key : ∀ (A : Option Addr → Value → Sem Value) (B : Array Value → Sem Value), Builtin.unsafeString_.match_3 (fun _ => Sem Value) #[.pointer (some ⟨g, off, none⟩), .int .i64 l.length] A B = A (some ⟨g, off, none⟩) (.int .i64 l.length) := fun _ _ => rfl
  rw [Builtin.unsafeString_.eq_1, key]
  have hmax : IntKind.i64.max = 9223372036854775807 := rfl
  have hneg : ¬ (l.length : Int) < 0 := by omega
  by_cases hl : l = []
  · subst hl
    simp [asInt, asIntOf, hmax, World.freeze]
    rfl
  · have hl : l.length ≠ 0 := by simpa using hl
    simp [asInt, asIntOf, hmax, h63', hneg, hl, variablesAt, hsh, elemOf, run_und hp, hlies, hlb]

theorem aString_ok {S S' : AS} {w : World} (h : HR B w0 G σ S w) {pt it ty : TypeId} {p p' n n' : Value} (hp : VR σ p p') (hn : VR σ n n') {v : Value} (e : aString P pt p n S = some (v, S')) :
    ∃ w', (Builtin.unsafeString_ #[pt, it] ty #[p', n']).run P w = .ok v w' ∧ HR B w0 G σ S' w' ∧ VR σ v v := by
  unfold aString at e
  split at e
  · rename_i q
    have hp' : ∃ q', p' = .pointer q' := by cases hp <;> exact ⟨_, rfl⟩
    obtain ⟨q', rfl⟩ := hp'
    cases hn
    simp only [Option.some.injEq, Prod.mk.injEq] at e
    obtain ⟨rfl, rfl⟩ := e
    exact ⟨w, Go.Lib.run_unsafeString_none w pt it ty q', h, .str _⟩
  · rename_i a k hk0
    have hk : k ≠ 0 := fun hh => by subst hh; exact hk0 rfl
    cases hn
    cases hp with
    | p hL =>
      rename_i id off L
      split at e
      · rename_i c tyc sz ex el hsp hg hu
        split at e
        · rename_i l b1 b2 b3 b4 hb
          have b1 := Nat.eq_of_beq_eq_true b1
          have b2 := Nat.eq_of_beq_eq_true b2
          have b3 := Nat.le_of_ble_eq_true b3
          have b4 := Nat.le_of_ble_eq_true b4
          subst b1
          simp only [Option.some.injEq, Prod.mk.injEq] at e
          obtain ⟨rfl, rfl⟩ := e
          simp only at b3 hb hg
          obtain ⟨L', C, Ty, fz, k1, k2, k3, k4, k5, k7, k6⟩ := h.blk _ _ hg
          rw [hL] at k1; cases k1
          obtain ⟨rfl, kB, rfl⟩ := k5 rfl
          obtain ⟨s1, s2⟩ := valBytes_spec _ hb
          have hlen : l.length = k := by rw [s1]; simp; omega
          have hcells : L.off + off + k ≤ C.size := by
            obtain ⟨v', hv', _⟩ := k6 (off + k - 1) c[off + k - 1] (by rw [List.getElem?_eq_getElem])
            have := (Array.getElem?_eq_some_iff.1 hv').1
            omega
          have hrun := run_unsafeString_at (P := P) w pt it ty Ty hu b2 L.blk (L.off + off) C.size (by simp [World.shape?, k2]) l (by rw [hlen]; exact hcells) (by rw [hlen]; exact b4) (fun j x hx => by
            have h1 := s2 j x hx
            rw [List.getElem?_take] at h1
            split at h1
            · rw [List.getElem?_drop] at h1
              obtain ⟨v', hv', r⟩ := k6 _ _ h1
              cases r
              unfold Addr.add
              by_cases hj : j = 0
              · subst hj; simp [World.cell?, k2]; simpa using hv'
              · simp [hj, World.cell?, k2, Nat.add_assoc]; exact hv'
            · simp at h1)
          rw [hlen] at hrun
          refine ⟨_, hrun, ?_, .str _⟩
          have hblk : L.blk < w.heap.size := (h.dom _ _ hL).2
          refine h.turn hg rfl rfl hL (Go.Lib.below_freeze h.below kB _) ?_ ?_ ?_
          · unfold World.freeze; split <;> simp
          · intro j hj
            unfold World.freeze
            split
            · rfl
            · simp only [Array.getElem?_modify]; rw [if_neg (fun hh => hj hh.symm)]
          · unfold World.freeze
            split
            · exact ⟨L, C, Ty, (0, 0), hL, k2, k3, k4, fun hx => by simp at hx, k7, k6⟩
            · exact ⟨L, C, Ty, (L.off + off, L.off + off + k), hL, by simp [Array.getElem?_modify, k2], k3, k4, fun hx => by simp at hx, k7, k6⟩
        · simp at e
      · simp at e
  · simp at e

/-! ### copy of nothing -/
def aCopy0 (P : Program) (t : TypeId) (d s : Value) : Option Value :=
  match P.underlying t, d, s with
  | some (.slice el), .slice _ 0 _, .slice _ _ _ =>
    match szOf P el with
    | some _ => some (.int .i64 0)
    | none => none
  | _, _, _ => none

theorem aCopy0_ok {t : TypeId} {ts : Array TypeId} {ty : TypeId} {d d' s s' v : Value} (ht : ts[0]? = some t) (hd : VR σ d d') (hs : VR σ s s') (e : aCopy0 P t d s = some v) (w : World) :
    (Builtin.copy_ ts ty #[d', s']).run P w = .ok v w ∧ v = .int .i64 0 := by
  unfold aCopy0 at e
  split at e
  · rename_i el a1 c1 a2 n2 c2 hu
    split at e
    · rename_i m hz
      simp only [Option.some.injEq] at e
      subst e
      have hd' : ∃ a c, d' = .slice a 0 c := by cases hd <;> exact ⟨_, _, rfl⟩
      have hs' : ∃ a n c, s' = .slice a n c := by cases hs <;> exact ⟨_, _, _, rfl⟩
      obtain ⟨a, c, rfl⟩ := hd'
      obtain ⟨a2, n2, c2, rfl⟩ := hs'
      refine ⟨?_, rfl⟩
      cases a <;> cases a2 <;> simp [Builtin.copy_, ht, run_und hu, run_sz hz, Builtin.lenOf, Builtin.firstCells, loadCells, loadCellsFrom, storeCells, goInt, Sem.run_bind, Result.andThen]
    · simp at e
  · simp at e

def aSliceData (x : Value) : Option Value :=
  match x with
  | .slice none 0 0 => some (.pointer none)
  | .slice (some a) _ (c + 1) =>
    match a.spot with
    | none => some (.pointer (some a))
    | some _ => none
  | _ => none
theorem aSliceData_ok {x x' v : Value} (hx : VR σ x x') (e : aSliceData x = some v) (ts : Array TypeId) (ty : TypeId) (w : World) : ∃ v', (Builtin.unsafeSliceData_ ts ty #[x']).run P w = .ok v' w ∧ VR σ v v' := by
  unfold aSliceData at e
  split at e
  · cases hx; simp only [Option.some.injEq] at e; subst e; exact ⟨_, rfl, .p0⟩
  · rename_i a n c
    split at e
    · simp only [Option.some.injEq] at e
      subst e
      cases hx with
      | sl hL hc _ _ => exact ⟨_, Go.Lib.run_unsafeSliceData_row w ts ty _ _ _ (by omega), .p hL⟩
    · simp at e
  · simp at e
end
end Go.Aev
