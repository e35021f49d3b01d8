/-
  A REFERENCE RUN, PART F: the built-in append, whole.
-/
import Derived.Test.YtecfjfhcoffhfaaGreatDoorAevE
set_option linter.unusedSimpArgs false
namespace Go.Aev
open Go Go.RowKit

section
variable {B : Nat} {w0 : World} {G : Nat} {P : Program} {σ : Sig}

theorem load_list {w : World} {a' : Addr} : ∀ (cs : List Value) (i : Nat) {acc acc' : Array Value}, (∀ (j : Nat) (v : Value), cs[j]? = some v → ∃ v', w.cell? (a'.add (i + j)) = some v' ∧ VR σ v v') → AR σ acc acc' →
    ∃ r', (loadCellsFrom a' i cs.length acc').run P w = .ok r' w ∧ AR σ (acc ++ cs.toArray) r'
  | [], i, acc, acc', _, h => ⟨acc', by simp [loadCellsFrom, pure, Sem.run], by simpa using h⟩
  | v :: cs, i, acc, acc', hc, h => by
    obtain ⟨v', e', r⟩ := hc 0 v (by simp)
    obtain ⟨r', h1, h2⟩ := load_list cs (i + 1) (acc := acc.push v) (acc' := acc'.push v') (fun j x hx => by
      obtain ⟨x', hx', rx⟩ := hc (j + 1) x (by simpa using hx)
      exact ⟨x', by rw [show i + 1 + j = i + (j + 1) from by omega]; exact hx', rx⟩) (h.push r)
    refine ⟨r', ?_, by simpa using h2⟩
    simp only [List.length_cons, loadCellsFrom, load, Sem.run_bind]
    have : (Sem.load .plain (a'.add i) .pure).run P w = .ok v' w := by simp [Sem.run, show w.cell? (a'.add i) = some v' from e']
    rw [this, Result.andThen_ok, h1]

theorem cellsAt_inv {S : AS} {a : Addr} {n : Nat} {cs : List Value} (e : S.cellsAt a n = some cs) : a.spot = none ∧ cs.length = n ∧ ∃ c ty sz wr ex, S.heap.get a.block = some (.cells c ty sz wr ex) ∧ a.off + n ≤ c.length ∧ cs = (c.drop a.off).take n := by
  unfold AS.cellsAt at e
  split at e
  · rename_i c ty sz wr ex hs hg
    split at e
    · rename_i hb
      have hb := Nat.le_of_ble_eq_true hb
      simp only [Option.some.injEq] at e
      subst e
      exact ⟨hs, by simp; omega, c, ty, sz, wr, ex, hg, hb, rfl⟩
    · simp at e
  · simp at e

theorem add_lit (b o n : Nat) : Addr.add ⟨b, o, none⟩ n = ⟨b, o + n, none⟩ := by unfold Addr.add; split <;> simp_all

theorem cellsAt_ok {S : AS} {w : World} (h : HR B w0 G σ S w) {id off : Nat} {L : Loc} (hL : σ id = some L) {n : Nat} {cs : List Value} (e : S.cellsAt ⟨id, off, none⟩ n = some cs) :
    ∃ c', (loadCells ⟨L.blk, L.off + off, none⟩ n).run P w = .ok c' w ∧ AR σ cs.toArray c' := by
  obtain ⟨_, hlen, c, ty, sz, wr, ex, hg, hb, rfl⟩ := cellsAt_inv e
  obtain ⟨L', C, Ty, fz, k1, k2, k3, k4, k5, k7, k6⟩ := h.blk _ _ hg
  rw [hL] at k1; cases k1
  obtain ⟨r', h1, h2⟩ := load_list (P := P) (σ := σ) (w := w) (a' := ⟨L.blk, L.off + off, none⟩) ((c.drop off).take n) 0 (acc := #[]) (acc' := #[]) (fun j v hv => by
    have hj : j < n := by
      rcases Nat.lt_or_ge j n with h | h
      · exact h
      · rw [List.getElem?_eq_none (by simp; omega)] at hv; cases hv
    rw [List.getElem?_take, if_pos hj, List.getElem?_drop] at hv
    obtain ⟨v', e', r⟩ := k6 _ _ hv
    refine ⟨v', ?_, r⟩
    rw [add_lit]
    simp only [World.cell?, k2, Option.isSome_none, Bool.false_eq_true, if_false]
    rw [← e']; congr 1; omega) (AR.empty _)
  rw [hlen] at h1
  exact ⟨r', h1, by simpa using h2⟩

def bytesOf (s : ByteArray) : List Value := s.data.toList.map fun b => .int .u8 b.toNat

def srcOf (P : Program) (tx : TypeId) (size : Nat) (x : Value) (S : AS) : Option (List Value × Nat) :=
  match x, P.underlying tx with
  | .slice none 0 0, some (.slice _) => some ([], 0)
  | .slice (some a) n _, some (.slice _) =>
    match n with
    | 0 => some ([], 0)
    | k + 1 => (S.cellsAt a ((k + 1) * size)).map fun cs => (cs, k + 1)
  | .string s, some .string =>
    match Nat.beq size 1 with
    | true => some (bytesOf s, s.size)
    | false => none
  | _, _ => none

theorem firstCells_str (s : ByteArray) (w : World) : (Builtin.firstCells 1 s.size (.string s)).run P w = .ok (bytesOf s).toArray w := by
  have : s.extract 0 s.size = s := by
    apply ByteArray.ext
    simp
  simp [Builtin.firstCells, this, pure, Sem.run, bytesOf]
  apply Array.ext'
  simp

theorem srcOf_ok {S : AS} {tx size n : Nat} {x x' : Value} (hx : VR σ x x') {cs : List Value} (e : srcOf P tx size x S = some (cs, n)) :
    ((∃ e', P.underlying tx = some (.slice e')) ∨ P.underlying tx = some .string) ∧ (∀ w, (Builtin.lenOf x').run P w = .ok n w) ∧ cs.length = n * size ∧
      ∀ w, HR B w0 G σ S w → ∃ c', AR σ cs.toArray c' ∧ (Builtin.firstCells size n x').run P w = .ok c' w := by
  unfold srcOf at e
  split at e
  · rename_i el hu
    cases hx
    simp only [Option.some.injEq, Prod.mk.injEq] at e
    obtain ⟨rfl, rfl⟩ := e
    exact ⟨.inl ⟨_, hu⟩, fun w => rfl, by simp, fun w _ => ⟨#[], AR.empty _, rfl⟩⟩
  · rename_i a n' cap el hu
    split at e
    · simp only [Option.some.injEq, Prod.mk.injEq] at e
      obtain ⟨rfl, rfl⟩ := e
      cases hx with
      | sl hs hc hl he => exact ⟨.inl ⟨_, hu⟩, fun w => rfl, by simp, fun w _ => ⟨#[], AR.empty _, by simp [Builtin.firstCells, loadCells, loadCellsFrom, pure, Sem.run]⟩⟩
      | slg => exact ⟨.inl ⟨_, hu⟩, fun w => rfl, by simp, fun w _ => ⟨#[], AR.empty _, by simp [Builtin.firstCells, loadCells, loadCellsFrom, pure, Sem.run]⟩⟩
    · rename_i k
      cases hc : S.cellsAt a ((k + 1) * size) with
      | none => simp [hc] at e
      | some cs' =>
        simp [hc] at e
        obtain ⟨rfl, rfl⟩ := e
        cases hx with
        | sl hs hcap hl he =>
          rename_i id off L cap'
          refine ⟨.inl ⟨_, hu⟩, fun w => rfl, (cellsAt_inv hc).2.1, fun w' h' => ?_⟩
          obtain ⟨c2, h3, h4⟩ := cellsAt_ok (P := P) h' hs hc
          exact ⟨c2, h4, by simpa [Builtin.firstCells] using h3⟩
  · rename_i s hu
    split at e
    · rename_i hb
      have hb := Nat.eq_of_beq_eq_true hb
      subst hb
      simp only [Option.some.injEq, Prod.mk.injEq] at e
      obtain ⟨rfl, rfl⟩ := e
      cases hx
      refine ⟨.inr hu, fun w => rfl, by simp [bytesOf], fun w _ => ⟨_, ?_, firstCells_str s w⟩⟩
      exact AR.of_all (fun v hv => by simp [bytesOf] at hv; obtain ⟨b, _, rfl⟩ := hv; exact .int _ _)
    · simp at e
  · simp at e

/-- A store that has drawn. -/
theorem HR.drew {S : AS} {w : World} (h : HR B w0 G σ S w) : HR B w0 G σ S w.drew :=
  ⟨h.below.drew, h.hB, h.dom, fun i b hb => (h.blk i b hb).of_same (fun _ _ _ => rfl), h.inj, h.glob⟩

theorem growBy_le (n : Nat) : ∀ (r c : Nat), c < n → Builtin.growBy n r c ≤ 2 * n + 768
  | 0, c, h => by simp [Builtin.growBy]; omega
  | r + 1, c, h => by
    unfold Builtin.growBy
    rw [if_neg (by omega)]
    rcases Nat.lt_or_ge (c + (c + 768) / 4) n with h1 | h1
    · exact growBy_le n r _ h1
    · cases r with
      | zero => simp [Builtin.growBy]; omega
      | succ r => unfold Builtin.growBy; rw [if_pos h1]; omega
theorem nextcap_le {n c : Nat} (h : c < n) : Builtin.nextslicecap n c ≤ 2 * n + 768 := by
  unfold Builtin.nextslicecap
  split
  · omega
  · split
    · omega
    · exact growBy_le n 4 c h

def aAppend (P : Program) (t tx : TypeId) (s x : Value) (S : AS) : Option (Value × AS) :=
  match P.underlying t with
  | some (.slice el) =>
    match P.info? el, zeroOf P el, szOf P el with
    | some i, some _, some (sz + 1) =>
      match srcOf P tx (sz + 1) x S with
      | some (cs, n) =>
        match cs.all oneB, Nat.ble i.bytes 65536, Nat.ble n 65536 with
        | true, true, true =>
          match s with
          | .slice none 0 0 =>
            match n with
            | 0 => some (s, S)
            | m + 1 => some (.slice (some ⟨S.next, 0, none⟩) (m + 1) (m + 1), S.push (.cells cs el (sz + 1) true false))
          | .slice (some a) len cap =>
            match a.spot, S.heap.get a.block with
            | none, some (.cells c ty sz' true _) =>
              match Nat.beq sz' (sz + 1), Nat.ble len 65536, Nat.beq ty el with
              | true, true, true =>
                match n with
                | 0 => some (s, S)
                | m + 1 =>
                  match Nat.ble (len + (m + 1)) cap with
                  | true =>
                    match ai P 0 (storeCells (a.add (len * (sz + 1))) cs 0) S with
                    | some (_, S') => some (.slice (some a) (len + (m + 1)) cap, S')
                    | none => none
                  | false =>
                    match Nat.beq (a.off + len * (sz + 1)) c.length with
                    | true => some (.slice (some ⟨S.next, 0, none⟩) (len + (m + 1)) (len + (m + 1)),
                        { heap := (S.heap.set a.block (some .gone)).set S.next (some (.cells (c.drop a.off ++ cs) ty (sz + 1) true false)), next := S.next + 1 })
                    | false => none
              | _, _, _ => none
            | _, _ => none
          | _ => none
        | _, _, _ => none
      | none => none
    | _, _, _ => none
  | _ => none

set_option maxHeartbeats 1000000 in
theorem append_room {t tx ty el size n sLen sCap : Nat} {a' : Addr} {x' : Value} {c' : Array Value} {w w' : World} (hu : P.underlying t = some (.slice el)) (hs : szOf P el = some size)
    (hx : (∃ e', P.underlying tx = some (.slice e')) ∨ P.underlying tx = some .string) (hlen : (Builtin.lenOf x').run P w = .ok n w) (hc : (Builtin.firstCells size n x').run P w = .ok c' w)
    (hroom : sLen + n ≤ sCap) (hst : (storeCells (a'.add (sLen * size)) c'.toList 0).run P w = .ok () w') :
    (Builtin.append_ #[t, tx] ty #[.slice (some a') sLen sCap, x']).run P w = .ok (.slice (some a') (sLen + n) sCap) w' := by
  rcases hx with ⟨e', hd⟩ | hd <;> simp [Builtin.append_, run_und hu, run_und hd, run_sz hs, hlen, hroom, hc, hst]

set_option maxHeartbeats 1000000 in
theorem append_grow {t tx ty el size n sLen sCap : Nat} {base : Option Addr} {x' z : Value} {i : TypeInfo} {o' c' : Array Value} {w : World} (hu : P.underlying t = some (.slice el)) (hi : P.info? el = some i)
    (hz : zeroOf P el = some z) (hs : szOf P el = some size)
    (hx : (∃ e', P.underlying tx = some (.slice e')) ∨ P.underlying tx = some .string) (hlen : (Builtin.lenOf x').run P w = .ok n w)
    (ho : (Builtin.firstCells size sLen (.slice base sLen sCap)).run P w.drew = .ok o' w.drew)
    (hc : (Builtin.firstCells size n x').run P w.drew = .ok c' w.drew)
    (hg : sCap < sLen + n) (hb : i.bytes ≤ 65536) (hn : sLen + n ≤ 131072) :
    ∃ cap', sLen + n ≤ cap' ∧ (Builtin.append_ #[t, tx] ty #[.slice base sLen sCap, x']).run P w =
      .ok (.slice (some ⟨w.heap.size, 0, none⟩) (sLen + n) cap') (w.drew.alloc (.cells (o' ++ c' ++ Builtin.zeroCells z.cells (cap' - (sLen + n))) el)) := by
  have hle := nextcap_le hg
  have hm : Builtin.nextslicecap (sLen + n) sCap * i.bytes ≤ 262912 * 65536 := Nat.mul_le_mul (by omega) hb
  have h1 : ¬ (sLen + n ≤ sCap) := by omega
  have h2 : ¬ (281474976710656 < Builtin.nextslicecap (sLen + n) sCap * i.bytes) := by omega
  have h3 : ¬ ((9223372036854775807 : Int) < (sLen : Int) + (n : Int)) := by omega
  have hq : (Question.appendCap (sLen + n) sCap el).forced = false := rfl
  have hmax : IntKind.i64.max = 9223372036854775807 := by decide
  refine ⟨(Question.appendCap (sLen + n) sCap el).cut (w.tape w.drawn (Question.appendCap (sLen + n) sCap el)), by simp [Question.cut], ?_⟩
  have ask : ∀ b w, (askRoom b).run P w = .ok () w := by intro b w; unfold askRoom; split <;> rfl
  rcases hx with ⟨e', hd⟩ | hd <;>
    simp [Builtin.append_, run_und hu, run_und hd, run_sz hs, typeInfo, hi, hlen, h1, h2, h3, hq, hmax, ho, hc, ask, run_zeroOf hz, newRow]

/-- A new row of which the first cells are known. -/
theorem HR.newPart {S : AS} {w : World} (h : HR B w0 G σ S w) {cs : List Value} {C : Array Value} (hc : ∀ (j : Nat) (v : Value), cs[j]? = some v → ∃ v', C[j]? = some v' ∧ VR σ v v') (el sz : Nat) :
    HR B w0 G (σ.more S.next ⟨w.heap.size, 0, C.size, sz⟩) (S.push (.cells cs el sz true false)) { w with heap := w.heap.push (.cells C el) } := by
  refine h.push rfl ⟨_, C, el, (0, 0), Sig.more_self _ _ _, by simp, rfl, rfl, fun _ => ⟨rfl, h.hB, rfl⟩, fun hf => by simp at hf, fun j v e => ?_⟩
  obtain ⟨v', e', r⟩ := hc j v e
  exact ⟨v', by simpa using e', r.mono (Sig.more_le h.fresh)⟩

theorem AR.of_append {a b : List Value} {a' b' : Array Value} {r : Array Value} (ha : AR σ a.toArray a') (hb : AR σ b.toArray b') : ∀ (j : Nat) (v : Value), (a ++ b)[j]? = some v → ∃ v', (a' ++ b' ++ r)[j]? = some v' ∧ VR σ v v' := by
  intro j v e
  have h : AR σ (a.toArray ++ b.toArray) (a' ++ b') := ha.append hb
  obtain ⟨v', e', r'⟩ := h.get (i := j) (v := v) (by simpa using e)
  refine ⟨v', ?_, r'⟩
  rw [Array.getElem?_append, if_pos (Array.getElem?_eq_some_iff.1 e').1]
  exact e'

theorem zeroCells_size (z : Array Value) (n : Nat) : (Builtin.zeroCells z n).size = n * z.size := by simp [Builtin.zeroCells]

theorem zero_size (hzs : ∀ t i z, inTab P t = true → P.info? t = some i → i.zero = some z → z.cells.size = i.size) {t s : Nat} {z : Value} (hz : zeroOf P t = some z) (hs : szOf P t = some s) : z.cells.size = s := by
  unfold zeroOf at hz; unfold szOf at hs
  split at hz
  case h_2 => simp at hz
  rename_i ht
  cases hi : P.info? t with
  | none => simp [hi] at hz
  | some i => simp [hi] at hz hs; rw [← hs]; exact hzs t i z ht hi hz

set_option maxHeartbeats 1000000 in
theorem aAppend_ok (hzs : ∀ t i z, inTab P t = true → P.info? t = some i → i.zero = some z → z.cells.size = i.size) {S S' : AS} {w : World} (h : HR B w0 G σ S w) {t tx ty : Nat} {s s' x x' : Value} (hs : VR σ s s') (hx : VR σ x x') {v : Value}
    (e : aAppend P t tx s x S = some (v, S')) :
    ∃ σ' v' w', σ.le σ' ∧ (Builtin.append_ #[t, tx] ty #[s', x']).run P w = .ok v' w' ∧ VR σ' v v' ∧ HR B w0 G σ' S' w' := by
  unfold aAppend at e
  split at e
  case h_2 => simp at e
  rename_i el hu
  split at e
  case h_2 => simp at e
  rename_i i z sz hi hz hsz
  split at e
  case h_2 => simp at e
  rename_i cs n hsrc
  obtain ⟨k1, k2, k3, k4⟩ := srcOf_ok (B := B) (w0 := w0) (G := G) hx hsrc
  split at e
  case h_2 => simp at e
  rename_i b1 b2 b3
  have b2 := Nat.le_of_ble_eq_true b2
  have b3 := Nat.le_of_ble_eq_true b3
  have zs := zero_size hzs hz hsz
  split at e
  · -- the nil slice
    cases hs
    split at e
    · simp only [Option.some.injEq, Prod.mk.injEq] at e
      obtain ⟨rfl, rfl⟩ := e
      obtain ⟨c', hc', hrun⟩ := k4 w h
      refine ⟨σ, .slice none 0 0, w, Sig.le_refl _, ?_, .sl0, h⟩
      rcases k1 with ⟨e', hd⟩ | hd <;> simp [Builtin.append_, run_und hu, run_und hd, run_sz hsz, k2, hrun]
    · rename_i m _
      simp only [Option.some.injEq, Prod.mk.injEq] at e
      obtain ⟨rfl, rfl⟩ := e
      obtain ⟨c', hc', hrun⟩ := k4 _ h.drew
      obtain ⟨cap', hcap, hr⟩ := append_grow (P := P) (w := w) (ty := ty) (sLen := 0) (sCap := 0) (base := none) hu hi hz hsz k1 (k2 w) (o' := #[]) (by simp [Builtin.firstCells]) hrun (by omega) b2 (by omega)
      have hcs : c'.size = (m + 1) * (sz + 1) := by rw [← hc'.1]; simpa using k3
      have h0 : 0 + (m + 1) = m + 1 := by omega
      rw [show 0 + m.succ = m + 1 from by omega] at hcap hr
      have hnew := h.drew.newPart (cs := cs) (C := #[] ++ c' ++ Builtin.zeroCells z.cells (cap' - (m + 1))) (fun j v hv => by
        have := AR.of_append (σ := σ) (a := []) (r := Builtin.zeroCells z.cells (cap' - (m + 1))) (AR.empty _) hc' j v (by simpa using hv)
        exact this) el (sz + 1)
      refine ⟨_, _, _, Sig.more_le h.fresh, hr, ?_, hnew⟩
      refine VR.sl (σ := σ.more S.next _) (id := S.next) (off := 0) (L := ⟨w.heap.size, 0, (#[] ++ c' ++ Builtin.zeroCells z.cells (cap' - (m + 1))).size, sz + 1⟩) (Sig.more_self _ _ _) (by omega) (by omega) (fun _ => ?_)
      simp only [Nat.zero_add, Array.size_append, zeroCells_size, hcs, zs]
      have : cap' = (m + 1) + (cap' - (m + 1)) := by omega
      calc cap' * (sz + 1) = ((m + 1) + (cap' - (m + 1))) * (sz + 1) := by rw [← this]
        _ = (m + 1) * (sz + 1) + (cap' - (m + 1)) * (sz + 1) := Nat.add_mul _ _ _
        _ ≤ _ := by simp
  · rename_i a len cap
    split at e
    case h_2 => simp at e
    rename_i c ty' sz' ex hsp hg
    split at e
    case h_2 => simp at e
    rename_i d1 d2 d3
    have d1 := Nat.eq_of_beq_eq_true d1
    have d2 := Nat.le_of_ble_eq_true d2
    have d3 := Nat.eq_of_beq_eq_true d3
    subst d1; subst d3
    cases hs with
    | slg => simp at hsp
    | sl hL hcap hlen he =>
      rename_i id off L cap'
      obtain ⟨L', C, Ty, fz, q1, q2, q3, q4, q5, q7, q6⟩ := h.blk _ _ hg
      simp only at q1
      rw [hL] at q1; cases q1
      have he' := he (by rw [q4]; omega)
      rw [q4] at he'
      split at e
      · -- nothing is appended
        simp only [Option.some.injEq, Prod.mk.injEq] at e
        obtain ⟨rfl, rfl⟩ := e
        obtain ⟨c', hc', hrun⟩ := k4 w h
        have hc0 : c' = #[] := by
          have : c'.size = 0 := by rw [← hc'.1]; simpa using k3
          exact Array.eq_empty_of_size_eq_zero this
        subst hc0
        have hr := append_room (P := P) (w := w) (w' := w) (ty := ty) (a' := ⟨L.blk, L.off + off, none⟩) (sLen := len) (sCap := cap') hu hsz k1 (k2 w) hrun (by omega) (by simp [storeCells])
        exact ⟨σ, _, w, Sig.le_refl _, hr, .sl hL hcap hlen he, h⟩
      · rename_i m _
        split at e
        · -- room that is known of
          rename_i hroom
          have hroom := Nat.le_of_ble_eq_true hroom
          split at e
          case h_2 => simp at e
          rename_i u S1 hai
          simp only [Option.some.injEq, Prod.mk.injEq] at e
          obtain ⟨rfl, rfl⟩ := e
          obtain ⟨c', hc', hrun⟩ := k4 w h
          have ha : AddrR σ ⟨id, off, none⟩ ⟨L.blk, L.off + off, none⟩ := ⟨L, hL, rfl, rfl⟩
          obtain ⟨σ', _, w', h1, h2, _, h4⟩ := rs_storeCells (B := B) (w0 := w0) (G := G) (P := P) (sz := 0) cs c'.toList 0 (ha.add (len * (sz + 1))) (by simpa using hc') σ S w (Sig.le_refl _) h u S1 hai
          have hr := append_room (P := P) (w := w) (w' := w') (ty := ty) (a' := ⟨L.blk, L.off + off, none⟩) (sLen := len) (sCap := cap') hu hsz k1 (k2 w) hrun (by omega) h2
          exact ⟨σ', _, w', h1, hr, .sl (h1 _ _ hL) (by omega) (by omega) he, h4⟩
        · split at e
          case h_2 => simp at e
          rename_i hfr
          have hfr := Nat.eq_of_beq_eq_true hfr
          simp only at hfr
          simp only [Option.some.injEq, Prod.mk.injEq] at e
          obtain ⟨rfl, rfl⟩ := e
          have hmove := h.move (off := off) hg hL
          rcases Nat.lt_or_ge cap' (len + (m + 1)) with hgr | hroom
          · -- the model makes a new row
            obtain ⟨c', hc', hrun⟩ := k4 _ h.drew
            have hcells : S.cellsAt ⟨id, off, none⟩ (len * (sz + 1)) = some ((c.drop off).take (len * (sz + 1))) := by
              simp only [AS.cellsAt, hg]
              rw [show Nat.ble (off + len * (sz + 1)) c.length = true from Nat.ble_eq_true_of_le (by omega)]
            obtain ⟨o', ho, hco⟩ := cellsAt_ok (P := P) h.drew hL hcells
            have htake : (c.drop off).take (len * (sz + 1)) = c.drop off := List.take_of_length_le (by simp; omega)
            rw [htake] at hco
            obtain ⟨cap2, hcap2, hr⟩ := append_grow (P := P) (w := w) (ty := ty) (sLen := len) (sCap := cap') (base := some ⟨L.blk, L.off + off, none⟩) hu hi hz hsz k1 (k2 w) (o' := o') (by simpa [Builtin.firstCells] using ho) hrun hgr b2 (by omega)
            have hnew := h.drew.newPart (cs := c.drop off ++ cs) (C := o' ++ c' ++ Builtin.zeroCells z.cells (cap2 - (len + (m + 1)))) (AR.of_append hco hc') ty' (sz + 1)
            have hgone : HR B w0 G (σ.more S.next ⟨w.heap.size, 0, (o' ++ c' ++ Builtin.zeroCells z.cells (cap2 - (len + (m + 1)))).size, sz + 1⟩)
                { heap := (S.heap.set id (some .gone)).set S.next (some (.cells (c.drop off ++ cs) ty' (sz + 1) true false)), next := S.next + 1 } (w.drew.alloc (.cells (o' ++ c' ++ Builtin.zeroCells z.cells (cap2 - (len + (m + 1)))) ty')) := by
              have hidn : id ≠ S.next := by have := (h.dom _ _ hL).1; omega
              refine ⟨hnew.below, hnew.hB, hnew.dom, ?_, ?_, hnew.glob⟩
              · intro j b hb
                simp only [T.get_set] at hb
                by_cases hj : j = S.next
                · exact hnew.blk j b (by simp only [AS.push, T.get_set]; rw [if_pos hj] at hb ⊢; exact hb)
                · rw [if_neg hj] at hb
                  by_cases hj2 : j = id
                  · rw [if_pos hj2] at hb; cases hb; trivial
                  · rw [if_neg hj2] at hb; exact hnew.blk j b (by simp only [AS.push, T.get_set]; rw [if_neg hj]; exact hb)
              · have keep : ∀ {j : Nat} {b : ABlk}, (if j = S.next then some (ABlk.cells (c.drop off ++ cs) ty' (sz + 1) true false) else if j = id then some .gone else S.heap.get j) = some b → b.live = true →
                    (S.push (.cells (c.drop off ++ cs) ty' (sz + 1) true false)).heap.get j = some b := by
                  intro j b hb hl
                  simp only [AS.push, T.get_set]
                  by_cases hj : j = S.next
                  · rw [if_pos hj] at hb ⊢; exact hb
                  · rw [if_neg hj] at hb ⊢
                    by_cases hj2 : j = id
                    · rw [if_pos hj2] at hb; cases hb; simp [ABlk.live] at hl
                    · rw [if_neg hj2] at hb; exact hb
                intro j j' b b' M M' hb hl hb' hl' hM hM' e hm
                simp only [T.get_set] at hb hb'
                exact hnew.inj j j' b b' M M' (keep hb hl) hl (keep hb' hl') hl' hM hM' e hm
            refine ⟨_, _, _, Sig.more_le h.fresh, hr, ?_, hgone⟩
            refine VR.sl (σ := σ.more S.next _) (id := S.next) (off := 0) (L := ⟨w.heap.size, 0, (o' ++ c' ++ Builtin.zeroCells z.cells (cap2 - (len + (m + 1)))).size, sz + 1⟩) (Sig.more_self _ _ _) (by omega) (by omega) (fun _ => ?_)
            have ho1 : o'.size = len * (sz + 1) := by rw [← hco.1]; simp; omega
            have hc1 : c'.size = (m + 1) * (sz + 1) := by rw [← hc'.1]; simpa using k3
            simp only [Nat.zero_add, Array.size_append, zeroCells_size, ho1, hc1, zs]
            rw [← Nat.add_mul, ← Nat.add_mul]
            exact Nat.mul_le_mul_right _ (by omega)
          · -- the model writes behind its end
            obtain ⟨c', hc', hrun⟩ := k4 w h
            have hle := Sig.more_le (L := ⟨L.blk, L.off + off, L.ext, L.sz⟩) h.fresh
            have hrt : (len + (m + 1)) * (sz + 1) ≤ cap' * (sz + 1) := Nat.mul_le_mul_right _ hroom
            have hdist : (len + (m + 1)) * (sz + 1) = len * (sz + 1) + (m + 1) * (sz + 1) := Nat.add_mul _ _ _
            obtain ⟨w', h1, h2⟩ := HR.moreAll (P := P) (c := c.drop off) (id := S.next) (ty := ty') (sz := sz + 1) (L := ⟨L.blk, L.off + off, L.ext, L.sz⟩) cs c'.toList (Addr.add ⟨L.blk, L.off + off, none⟩ (len * (sz + 1))) 0 hmove
              (by simp [T.get_set]) (Sig.more_self _ _ _) (by simp only [List.length_drop, show cs.length = (m + 1) * (sz + 1) from k3]; omega) (by rw [add_lit]) (by rw [add_lit]) (by rw [add_lit]; simp only [List.length_drop]; omega) (by simpa using hc'.mono hle) (fun v hv => List.all_eq_true.1 b1 v hv)
            have hr := append_room (P := P) (w := w) (w' := w') (ty := ty) (a' := ⟨L.blk, L.off + off, none⟩) (sLen := len) (sCap := cap') hu hsz k1 (k2 w) hrun (by omega) h1
            refine ⟨_, _, w', hle, hr, ?_, h2.congr rfl (fun j => ?_)⟩
            · exact VR.sl (σ := σ.more S.next _) (id := S.next) (off := 0) (L := ⟨L.blk, L.off + off, L.ext, L.sz⟩) (Sig.more_self _ _ _) (by omega) (by omega) (fun _ => by simp only [q4]; omega)
            · simp only [T.get_set]
              by_cases hj : j = S.next <;> simp [hj]
  · simp at e
end
end Go.Aev
