/-
  A REFERENCE RUN, PART AR: arguments that are lists of structs of integers.
-/
import Derived.Test.YtecfjfhcoffhfaaGreatDoorAevT
set_option linter.unusedSimpArgs false
set_option linter.unusedVariables false
namespace Go.Aev
open Go Go.RowKit Go.WideShapes Go.ChangeShapes

theorem BR.low {B : Nat} {σ : Sig} {w : World} {id : Nat} {b : ABlk} (h : BR B σ w id b) (hm : b.mut = true) {L : Loc} (hL : σ id = some L) : B ≤ L.blk := by
  cases b with
  | cells c ty sz wr ex =>
    obtain ⟨M, _, _, _, h1, _, _, _, h5, _⟩ := h
    rw [hL] at h1; cases h1
    exact (h5 hm).2.1
  | loop l => obtain ⟨M, _, h1, h2, _⟩ := h; rw [hL] at h1; cases h1; exact h2
  | dfd o => obtain ⟨M, h1, h2, _⟩ := h; rw [hL] at h1; cases h1; exact h2
  | gone => simp [ABlk.mut] at hm

/-- What stood before is seen as a block of its own, for reading. -/
theorem HR.window {B : Nat} {w0 : World} {G : Nat} {σ : Sig} {S : AS} {w : World} (h : HR B w0 G σ S w) {b off : Nat} {C : Array Value} {Ty : TypeId} {fz : Nat × Nat} {c : List Value} (ty sz : Nat) (hb : b < B) (hw : w.heap[b]? = some (.cells C Ty fz))
    (hcs : ∀ (j : Nat) (v : Value), c[j]? = some v → C[off + j]? = some v ∧ selfB 8 v = true) :
    HR B w0 G (σ.more S.next ⟨b, off, C.size, sz⟩) (S.push (.cells c ty sz false false)) w := by
  have hle := Sig.more_le (L := ⟨b, off, C.size, sz⟩) h.fresh
  have hlt : b < w.heap.size := (Array.getElem?_eq_some_iff.1 hw).1
  refine ⟨h.below, h.hB, ?_, ?_, ?_, fun g hg => let ⟨M, h1, h2⟩ := h.glob g hg; ⟨M, hle _ _ h1, h2⟩⟩
  · intro id M hM
    unfold Sig.more at hM
    by_cases hi : id = S.next
    · rw [if_pos hi] at hM; cases hM; exact ⟨by simp [AS.push, hi], hlt⟩
    · rw [if_neg hi] at hM; have := h.dom id M hM; simp [AS.push]; omega
  · intro id d hd
    simp only [AS.push, T.get_set] at hd
    by_cases hi : id = S.next
    · rw [if_pos hi] at hd; cases hd
      subst hi
      exact ⟨_, C, Ty, fz, Sig.more_self _ _ _, hw, rfl, rfl, fun hx => by simp at hx, fun hx => by simp at hx, fun j v hv => ⟨v, (hcs j v hv).1, selfB_spec _ _ _ (hcs j v hv).2⟩⟩
    · rw [if_neg hi] at hd; exact (h.blk id d hd).mono hle
  · intro id id' d d' M M' hd hl hd' hl' hM hM' e hm
    simp only [AS.push, T.get_set] at hd hd'
    unfold Sig.more at hM hM'
    by_cases hi : id = S.next <;> by_cases hi' : id' = S.next
    · rw [hi, hi']
    · rw [if_pos hi] at hM hd; rw [if_neg hi'] at hM' hd'; cases hM; cases hd
      have := (h.blk id' d' hd').low (by simpa [ABlk.mut] using hm) hM'
      simp only at e; omega
    · rw [if_neg hi] at hM hd; rw [if_pos hi'] at hM' hd'; cases hM'; cases hd'
      have := (h.blk id d hd).low (by simpa [ABlk.mut] using hm) hM
      simp only at e; omega
    · rw [if_neg hi] at hM hd; rw [if_neg hi'] at hM' hd'
      exact h.inj _ _ _ _ M M' hd hl hd' hl' hM hM' e hm

/-- A list of structs of integers, in a store of the run. -/
def Row (ks : List IntKind) (S : AS) (v : Value) (nss : List (List Int)) : Prop :=
  (nss = [] ∧ (v = .slice none 0 0 ∨ v = .slice (some ⟨0, 0, some 0⟩) 0 0)) ∨
  ∃ id off c ty cap wr ex, v = .slice (some ⟨id, off, none⟩) nss.length cap ∧ nss.length ≤ cap ∧ S.heap.get id = some (.cells c ty ks.length wr ex) ∧ id < S.next ∧
    ∀ i ns, nss[i]? = some ns → ∀ j, j < ks.length → c[off + i * ks.length + j]? = (ints ks ns)[j]?
theorem Row.agree {ks : List IntKind} {S S' : AS} {v : Value} {nss : List (List Int)} (h : Row ks S v nss) (ha : Agree S S') : Row ks S' v nss := by
  rcases h with h | ⟨id, off, c, ty, cap, wr, ex, h1, h2, h3, h4, h5⟩
  · exact .inl h
  · exact .inr ⟨id, off, c, ty, cap, wr, ex, h1, h2, (ha.2 id h4).trans h3, Nat.lt_of_lt_of_le h4 ha.1, h5⟩

section
variable {H : Type} {enc : TypeId × Value → H} {P : Program} {w : World}

theorem cells_get {base k : Nat} {a : Addr} {cs : List Value} (h : w.cells? base a k = some cs) : cs.length = k ∧ ∀ j, j < k → w.cell? (a.add j) = cs[j]? := by
  unfold World.cells? at h
  split at h
  · have hl := mapM_some_length h
    refine ⟨by simpa using hl, fun j hj => ?_⟩
    exact mapM_some_get h j j (by simp [hj])
  · simp at h
theorem cell_of {a : Addr} {v : Value} (h : w.cell? a = some v) : a.spot = none ∧ ∃ C T fz, w.heap[a.block]? = some (.cells C T fz) ∧ C[a.off]? = some v := by
  unfold World.cell? at h
  split at h
  · rename_i C T fz hc
    split at h
    · simp at h
    · rename_i hs
      exact ⟨by simpa using hs, C, T, fz, hc, h⟩
  · simp at h
theorem addr_two {a : Addr} (hs : a.spot = none) (m j : Nat) : (a.add m).add j = ⟨a.block, a.off + m + j, none⟩ := by
  obtain ⟨b, o, s⟩ := a
  simp only at hs
  subst hs
  rw [addr_add, addr_add]

/-- A list of structs of integers, as it is handed in. -/
theorem open_slice {r : Reach} {b0 n : Nat} {t e : TypeId} {ks : List IntKind} {v : Value} {d : DataW H} {ps : List MemPlace} (hk : kindsOf P n e = some ks) (hz : P.cellsOf e = ks.length) (hpos : 0 < ks.length) (hu : P.underlying t = some (.slice e)) (hv : Value.okWide P w r b0 t v)
    (h : DataW.Trod enc P w 0 (fun _ => true) true t v d ps) :
    v = .slice none 0 0 ∨ (∃ a cap, v = .slice (some a) 0 cap) ∨
    ∃ b off len cap C T fz, v = .slice (some ⟨b, off, none⟩) len cap ∧ 0 < len ∧ len ≤ cap ∧ w.heap[b]? = some (.cells C T fz) ∧ off + cap * ks.length ≤ C.size ∧
      ∀ i, i < len → ∃ ns, Fits ks ns ∧ ∀ j, j < ks.length → C[off + i * ks.length + j]? = (ints ks ns)[j]? := by
  obtain ⟨a0, len0, cap0, rfl⟩ := okWide_slice hu hv
  obtain ⟨fuel, hf⟩ := h
  rcases DataW.trod_slice hu hf with ⟨hc, _⟩ | ⟨a, len, cap, elems, rest, m, _, hc, _, _, hl, _, he, hE, hR, _⟩
  · left
    simpa [Value.cells] using hc
  · right
    obtain ⟨rfl, rfl, rfl⟩ : a0 = some a ∧ len0 = len ∧ cap0 = cap := by simpa [Value.cells] using hc
    by_cases h0 : len0 = 0
    · subst h0; exact .inl ⟨a, cap0, rfl⟩
    right
    rw [hz] at hE hR
    obtain ⟨hrl, hR⟩ := hR rfl
    have key : ∀ i, i < cap0 → ∃ cs x, w.cells? 0 (a.add (i * ks.length)) ks.length = some cs ∧ DataW.trod enc P w 0 (fun _ => true) true m e cs = some x := by
      intro i hi
      by_cases hil : i < len0
      · have := hE i hil
        rw [List.getElem?_eq_getElem (by omega)] at this
        obtain ⟨cs, h1, h2⟩ := Option.bind_eq_some_iff.1 this
        exact ⟨cs, _, h1, h2⟩
      · have := hR (i - len0) (by omega)
        rw [List.getElem?_eq_getElem (by omega), show len0 + (i - len0) = i by omega] at this
        obtain ⟨cs, h1, h2⟩ := Option.bind_eq_some_iff.1 this
        exact ⟨cs, _, h1, h2⟩
    have some_at : ∀ i, i < cap0 → ∀ j, j < ks.length → ∃ u, w.cell? ((a.add (i * ks.length)).add j) = some u := by
      intro i hi j hj
      obtain ⟨cs, x, h1, _⟩ := key i hi
      obtain ⟨h3, h4⟩ := cells_get h1
      exact ⟨cs[j], by rw [h4 j hj, List.getElem?_eq_getElem (by omega)]⟩
    obtain ⟨u, hu0⟩ := some_at 0 (by omega) 0 hpos
    have ha0 : (a.add (0 * ks.length)).add 0 = a := by simp [Addr.add]
    rw [ha0] at hu0
    obtain ⟨hs, C, T, fz, hw, _⟩ := cell_of hu0
    have at_ : ∀ i j, w.cell? ((a.add (i * ks.length)).add j) = C[a.off + i * ks.length + j]? := by
      intro i j
      rw [addr_two hs]
      simp [World.cell?, hw]
    refine ⟨a.block, a.off, len0, cap0, C, T, fz, ?_, by omega, hl, hw, ?_, fun i hi => ?_⟩
    · obtain ⟨b, o, s⟩ := a
      simp only at hs
      subst hs
      rfl
    · obtain ⟨u, hu⟩ := some_at (cap0 - 1) (by omega) (ks.length - 1) (by omega)
      rw [at_] at hu
      have hlt := (Array.getElem?_eq_some_iff.1 hu).1
      have : cap0 * ks.length = (cap0 - 1) * ks.length + ks.length := by
        rw [← Nat.succ_mul]; congr 1; omega
      omega
    · obtain ⟨cs, x, h1, h2⟩ := key i (by omega)
      obtain ⟨ns, f1, rfl⟩ := trod_kinds n hk h2
      obtain ⟨_, h4⟩ := cells_get h1
      exact ⟨ns, f1, fun j hj => by rw [← h4 j hj, at_]⟩

theorem self_ints {ks : List IntKind} {ns : List Int} {j : Nat} {v : Value} (h : (ints ks ns)[j]? = some v) : selfB 8 v = true := by
  unfold ints at h
  rw [List.getElem?_zipWith] at h
  split at h
  · cases h; rfl
  · simp at h

/-- A list that is handed in is a block of the run's own. -/
theorem HR.arg {G : Nat} {σ : Sig} {S : AS} (hr : HR w.heap.size w G σ S w) {r : Reach} {b0 n : Nat} {t e : TypeId} {ks : List IntKind} {v : Value} {d : DataW H} {ps : List MemPlace} (hk : kindsOf P n e = some ks) (hz : P.cellsOf e = ks.length) (hpos : 0 < ks.length)
    (hu : P.underlying t = some (.slice e)) (hv : Value.okWide P w r b0 t v) (h : DataW.Trod enc P w 0 (fun _ => true) true t v d ps) :
    ∃ σ' S' v' nss, σ.le σ' ∧ HR w.heap.size w G σ' S' w ∧ VR σ' v' v ∧ Row ks S' v' nss ∧ Agree S S' ∧ ∀ ns ∈ nss, Fits ks ns := by
  rcases open_slice hk hz hpos hu hv h with rfl | ⟨a, cap, rfl⟩ | ⟨b, off, len, cap, C, T, fz, rfl, h1, h2, h3, h4, h5⟩
  · exact ⟨σ, S, _, [], fun _ _ e => e, hr, .sl0, .inl ⟨rfl, .inl rfl⟩, Agree.refl S, fun _ h => by simp at h⟩
  · exact ⟨σ, S, _, [], fun _ _ e => e, hr, .slg, .inl ⟨rfl, .inr rfl⟩, Agree.refl S, fun _ h => by simp at h⟩
  · have hf : ∃ f : Nat → List Int, ∀ i, i < len → Fits ks (f i) ∧ ∀ j, j < ks.length → C[off + i * ks.length + j]? = (ints ks (f i))[j]? :=
      ⟨fun i => if hi : i < len then Classical.choose (h5 i hi) else [], fun i hi => by simp only [dif_pos hi]; exact Classical.choose_spec (h5 i hi)⟩
    obtain ⟨f, hf⟩ := hf
    have hlen : len * ks.length ≤ cap * ks.length := Nat.mul_le_mul_right _ h2
    have hget : ∀ j, j < len * ks.length → ((C.toList.drop off).take (len * ks.length))[j]? = C[off + j]? := fun j hj => by
      rw [List.getElem?_take_of_lt hj, List.getElem?_drop, Array.getElem?_toList]
    refine ⟨_, _, .slice (some ⟨S.next, 0, none⟩) len len, (List.range len).map f, Sig.more_le hr.fresh, hr.window (b := b) (off := off) (c := (C.toList.drop off).take (len * ks.length)) 0 ks.length (Array.getElem?_eq_some_iff.1 h3).1 h3 (fun j u hj => ?_), ?_, .inr ⟨S.next, 0, _, 0, len, false, false, by simp, by simp, by rw [push_eq _ _ rfl], by simp [AS.push], fun i ns hi j hj => ?_⟩, ?_, fun ns hns => ?_⟩
    · have hj2 : j < len * ks.length := by
        have := (List.getElem?_eq_some_iff.1 hj).1
        simp at this; omega
      rw [hget j hj2] at hj
      refine ⟨hj, ?_⟩
      have hi : j / ks.length < len := Nat.div_lt_of_lt_mul (by rw [Nat.mul_comm]; exact hj2)
      have hm := (hf _ hi).2 (j % ks.length) (Nat.mod_lt _ hpos)
      rw [Nat.add_assoc, Nat.div_add_mod'] at hm
      rw [hm] at hj
      exact self_ints hj
    · exact VR.sl (L := ⟨b, off, C.size, ks.length⟩) (off := 0) (Sig.more_self _ _ _) h2 h2 (fun _ => by simpa using h4)
    · have hi2 : i < len := by
        have := (List.getElem?_eq_some_iff.1 hi).1
        simpa using this
      have e1 : f i = ns := by simpa [hi2] using hi
      subst e1
      have : i * ks.length + j < len * ks.length := by
        have := Nat.mul_le_mul_right ks.length (show i + 1 ≤ len by omega)
        rw [Nat.succ_mul] at this; omega
      rw [Nat.zero_add, hget _ this, ← Nat.add_assoc]
      exact (hf i hi2).2 j hj
    · exact ⟨by simp [AS.push], fun id hid => push_ne _ _ (by omega)⟩
    · obtain ⟨i, hi, rfl⟩ := List.mem_map.1 hns
      exact (hf i (by simpa using hi)).1
end
end Go.Aev
