/-
  BN: EvN1, EvN2.
-/
import Derived.Test.YtgbjgljchkodjaaGreatDoorBG
import Derived.Test.YtgbjgljchkodjaaGreatDoorBE
section
/-
  The great seat of stage 1: sets of angles as spans in order: one list for each set.
-/
set_option linter.unusedSimpArgs false
set_option linter.unusedVariables false
namespace Go.Proofs
namespace Great
open Go Go.RowKit Go.Aev
set_option maxRecDepth 100000

theorem wr64 {n : Int} (h : -9223372036854775808 ≤ n ∧ n ≤ 9223372036854775807) : IntKind.i64.wrap n = n := IntWalk.i64_in n h
theorem sp_ext {s t : Sp} (h : s.lo = t.lo) (h' : s.hi = t.hi) : s = t := by
  cases s; cases t; simp only at h h'; rw [h, h']
/-- A number lies in a list of spans. -/
def SMem (l : List Sp) (n : Int) : Prop := ∃ s ∈ l, s.lo ≤ n ∧ n ≤ s.hi
theorem smem_nil (n : Int) : ¬ SMem [] n := by simp [SMem]
theorem smem_cons {s : Sp} {l : List Sp} {n : Int} : SMem (s :: l) n ↔ (s.lo ≤ n ∧ n ≤ s.hi) ∨ SMem l n := by simp [SMem]
theorem smem_append {a b : List Sp} {n : Int} : SMem (a ++ b) n ↔ SMem a n ∨ SMem b n := by
  simp only [SMem, List.mem_append, or_and_right, exists_or]
theorem smem_one {s : Sp} {n : Int} : SMem [s] n ↔ (s.lo ≤ n ∧ n ≤ s.hi) := by simp [SMem]
/-- In order, none of which touch, from m on. -/
def SCan : Int → List Sp → Prop
  | _, [] => True
  | m, s :: l => m ≤ s.lo ∧ s.lo ≤ s.hi ∧ SCan (s.hi + 2) l
/-- In order, from m on. -/
def SOrd : Int → List Sp → Prop
  | _, [] => True
  | m, s :: l => m ≤ s.lo ∧ s.lo ≤ s.hi ∧ SOrd (s.hi + 1) l
def Up (l : List Sp) : Prop := ∀ y ∈ l, y.hi ≤ 43199
theorem SCan.weak {m m' : Int} {l : List Sp} (h : SCan m l) (hm : m' ≤ m) : SCan m' l := by
  cases l with
  | nil => trivial
  | cons s l => exact ⟨by have := h.1; omega, h.2⟩
theorem SOrd.weak {m m' : Int} {l : List Sp} (h : SOrd m l) (hm : m' ≤ m) : SOrd m' l := by
  cases l with
  | nil => trivial
  | cons s l => exact ⟨by have := h.1; omega, h.2⟩
theorem SCan.ge : ∀ {l : List Sp} {m n : Int}, SCan m l → SMem l n → m ≤ n := by
  intro l
  induction l with
  | nil => intro m n _ h; exact absurd h (smem_nil n)
  | cons s l ih =>
    intro m n h hn
    obtain ⟨h1, h2, h3⟩ := h
    rcases smem_cons.1 hn with h4 | h4
    · omega
    · have := ih h3 h4; omega
theorem SCan.each : ∀ {l : List Sp} {m : Int}, SCan m l → ∀ y ∈ l, m ≤ y.lo ∧ y.lo ≤ y.hi := by
  intro l
  induction l with
  | nil => intro m _ y hy; simp at hy
  | cons s l ih =>
    intro m h y hy
    obtain ⟨h1, h2, h3⟩ := h
    rcases List.mem_cons.1 hy with rfl | hy
    · exact ⟨h1, h2⟩
    · have := ih h3 y hy; exact ⟨by omega, this.2⟩
theorem SCan.tail {m : Int} {x : Sp} {l : List Sp} (h : SCan m (x :: l)) : SCan m l := by
  obtain ⟨h1, h2, h3⟩ := h
  exact h3.weak (by omega)
theorem SCan.drop1 : ∀ {o : List Sp} {m : Int} {x : Sp} {l : List Sp}, SCan m (o ++ x :: l) → SCan m (o ++ l) := by
  intro o
  induction o with
  | nil => intro m x l h; exact SCan.tail h
  | cons y o ih =>
    intro m x l h
    exact ⟨h.1, h.2.1, ih h.2.2⟩
theorem SCan.before : ∀ {o : List Sp} {m : Int} {x : Sp} {l : List Sp}, SCan m (o ++ x :: l) → ∀ y ∈ o, y.hi + 2 ≤ x.lo := by
  intro o
  induction o with
  | nil => intro m x l h y hy; simp at hy
  | cons z o ih =>
    intro m x l h y hy
    rcases List.mem_cons.1 hy with rfl | hy
    · exact (SCan.each h.2.2 x (by simp)).1
    · exact ih h.2.2 y hy
theorem scan_uniq : ∀ (a b : List Sp) (m m' : Int), SCan m a → SCan m' b → (∀ n, SMem a n ↔ SMem b n) → a = b := by
  intro a
  induction a with
  | nil =>
    intro b m m' _ hb h
    cases b with
    | nil => rfl
    | cons t b => exact absurd ((h t.lo).2 (smem_cons.2 (.inl ⟨Int.le_refl _, hb.2.1⟩))) (smem_nil _)
  | cons s a ih =>
    intro b m m' ha hb h
    cases b with
    | nil => exact absurd ((h s.lo).1 (smem_cons.2 (.inl ⟨Int.le_refl _, ha.2.1⟩))) (smem_nil _)
    | cons t b =>
      obtain ⟨a1, a2, a3⟩ := ha
      obtain ⟨b1, b2, b3⟩ := hb
      have key : ∀ n, ((s.lo ≤ n ∧ n ≤ s.hi) ∨ SMem a n) ↔ ((t.lo ≤ n ∧ n ≤ t.hi) ∨ SMem b n) := fun n => by rw [← smem_cons, ← smem_cons]; exact h n
      have ga : ∀ n, SMem a n → s.hi + 2 ≤ n := fun n hn => a3.ge hn
      have gb : ∀ n, SMem b n → t.hi + 2 ≤ n := fun n hn => b3.ge hn
      have e1 : s.lo = t.lo := by
        have x1 : t.lo ≤ s.lo := by
          rcases (key s.lo).1 (.inl ⟨by omega, a2⟩) with x | x
          · omega
          · have := gb _ x; omega
        have x2 : s.lo ≤ t.lo := by
          rcases (key t.lo).2 (.inl ⟨by omega, b2⟩) with x | x
          · omega
          · have := ga _ x; omega
        omega
      have e2 : s.hi = t.hi := by
        rcases Int.lt_trichotomy s.hi t.hi with hlt | he | hgt
        · rcases (key (s.hi + 1)).2 (.inl ⟨by omega, by omega⟩) with x | x
          · omega
          · have := ga _ x; omega
        · exact he
        · rcases (key (t.hi + 1)).1 (.inl ⟨by omega, by omega⟩) with x | x
          · omega
          · have := gb _ x; omega
      have est : s = t := sp_ext e1 e2
      subst est
      rw [ih b _ _ a3 b3 (fun n => ?_)]
      constructor
      · intro x
        rcases (key n).1 (.inr x) with y | y
        · have := ga _ x; omega
        · exact y
      · intro x
        rcases (key n).2 (.inr x) with y | y
        · have := gb _ x; omega
        · exact y

def Sep (o : List Sp) (p q : Int) : Prop := ∀ y ∈ o, y.hi + 1 < p ∨ q + 1 < y.lo
theorem R131_0_ok (l0 : List Sp) (lo hi : Int) : ∀ (l : List Sp) (p q : Int) (o : List Sp), 0 ≤ p → p ≤ q → q ≤ 43199 → SCan 0 (o ++ l) → Up (o ++ l) → Sep o p q →
    0 ≤ (R131_0 l0 lo hi l p q o).1 ∧ (R131_0 l0 lo hi l p q o).1 ≤ (R131_0 l0 lo hi l p q o).2.1 ∧ (R131_0 l0 lo hi l p q o).2.1 ≤ 43199 ∧ SCan 0 (R131_0 l0 lo hi l p q o).2.2 ∧ Up (R131_0 l0 lo hi l p q o).2.2 ∧
    Sep (R131_0 l0 lo hi l p q o).2.2 (R131_0 l0 lo hi l p q o).1 (R131_0 l0 lo hi l p q o).2.1 ∧
    ∀ n, (SMem (R131_0 l0 lo hi l p q o).2.2 n ∨ ((R131_0 l0 lo hi l p q o).1 ≤ n ∧ n ≤ (R131_0 l0 lo hi l p q o).2.1)) ↔ (SMem o n ∨ SMem l n ∨ (p ≤ n ∧ n ≤ q)) := by
  intro l
  induction l with
  | nil =>
    intro p q o h1 h2 h3 h4 h5 h6
    rw [List.append_nil] at h4 h5
    refine ⟨h1, h2, h3, h4, h5, h6, fun n => ?_⟩
    simp only [R131_0, smem_nil, false_or]
  | cons x l ih =>
    intro p q o h1 h2 h3 h4 h5 h6
    have hx := SCan.each h4 x (by simp)
    have hx5 := h5 x (by simp)
    have w1 : IntKind.i64.wrap (x.hi + 1) = x.hi + 1 := wr64 (by omega)
    have w2 : IntKind.i64.wrap (q + 1) = q + 1 := wr64 (by omega)
    have st : R131_0 l0 lo hi (x :: l) p q o = (if x.hi + 1 < p then R131_0 l0 lo hi l p q (o ++ [x]) else if q + 1 < x.lo then R131_0 l0 lo hi l p q (o ++ [x]) else R131_0 l0 lo hi l (min p x.lo) (max q x.hi) o) := by
      rw [R131_0, w1, w2]
    have hs : SCan 0 ((o ++ [x]) ++ l) := by simpa using h4
    have hu : Up ((o ++ [x]) ++ l) := by simpa using h5
    have sn : ∀ n, (SMem (o ++ [x]) n ∨ SMem l n ∨ (p ≤ n ∧ n ≤ q)) ↔ (SMem o n ∨ SMem (x :: l) n ∨ (p ≤ n ∧ n ≤ q)) := by
      intro n; rw [smem_append, smem_one, smem_cons]; simp only [or_assoc]
    rw [st]
    by_cases c1 : x.hi + 1 < p
    · rw [if_pos c1]
      obtain ⟨i1, i2, i3, i4, i5, i6, i7⟩ := ih p q (o ++ [x]) h1 h2 h3 hs hu (by
        intro y hy
        rcases List.mem_append.1 hy with hy | hy
        · exact h6 y hy
        · rw [List.mem_singleton] at hy; subst hy; exact .inl c1)
      exact ⟨i1, i2, i3, i4, i5, i6, fun n => (i7 n).trans (sn n)⟩
    · rw [if_neg c1]
      by_cases c2 : q + 1 < x.lo
      · rw [if_pos c2]
        obtain ⟨i1, i2, i3, i4, i5, i6, i7⟩ := ih p q (o ++ [x]) h1 h2 h3 hs hu (by
          intro y hy
          rcases List.mem_append.1 hy with hy | hy
          · exact h6 y hy
          · rw [List.mem_singleton] at hy; subst hy; exact .inr c2)
        exact ⟨i1, i2, i3, i4, i5, i6, fun n => (i7 n).trans (sn n)⟩
      · rw [if_neg c2]
        have hb := SCan.before h4
        obtain ⟨i1, i2, i3, i4, i5, i6, i7⟩ := ih (min p x.lo) (max q x.hi) o (by omega) (by omega) (by omega) (SCan.drop1 h4) (fun y hy => h5 y (by
          rcases List.mem_append.1 hy with hy | hy
          · simp [hy]
          · simp [hy])) (by
          intro y hy
          have e1 := hb y hy
          have e2 := SCan.each h4 y (by simp [hy])
          rcases h6 y hy with e3 | e3
          · left; omega
          · omega)
        refine ⟨i1, i2, i3, i4, i5, i6, fun n => (i7 n).trans ?_⟩
        have U : (min p x.lo ≤ n ∧ n ≤ max q x.hi) ↔ ((x.lo ≤ n ∧ n ≤ x.hi) ∨ (p ≤ n ∧ n ≤ q)) := by omega
        rw [U, smem_cons]
        by_cases hA : SMem o n <;> by_cases hB : SMem l n <;> by_cases hX : (x.lo ≤ n ∧ n ≤ x.hi) <;> by_cases hP : (p ≤ n ∧ n ≤ q) <;> simp [hA, hB, hX, hP]

def insS (p q : Int) : List Sp → List Sp
  | [] => [⟨p, q⟩]
  | y :: l => if y.lo < p then y :: insS p q l else ⟨p, q⟩ :: y :: l
theorem R131_1_add (l : List Sp) (lo hi : Int) : ∀ (m : List Sp) (k : Nat), R131_1 l lo hi m k = R131_1 l lo hi m 0 + k := by
  intro m
  induction m with
  | nil => intro k; simp [R131_1]
  | cons y m ih =>
    intro k
    rw [R131_1, R131_1, ih (k + 1), ih (0 + 1)]
    split <;> omega
theorem r131_split (l : List Sp) (lo hi : Int) : ∀ m : List Sp, (m.take (R131_1 l lo hi m 0) ++ [(⟨(R131_0 l lo hi l lo hi ([])).1, (R131_0 l lo hi l lo hi ([])).2.1⟩ : Sp)]) ++ m.drop (R131_1 l lo hi m 0) = insS (R131_0 l lo hi l lo hi ([])).1 (R131_0 l lo hi l lo hi ([])).2.1 m := by
  intro m
  induction m with
  | nil => simp [R131_1, insS]
  | cons y m ih =>
    rw [R131_1, insS, R131_1_add]
    split
    · rw [Nat.zero_add, List.take_succ_cons, List.drop_succ_cons, ← ih]; rfl
    · rfl
theorem r131_ins (l : List Sp) (lo hi : Int) : r131 l lo hi = insS (R131_0 l lo hi l lo hi ([])).1 (R131_0 l lo hi l lo hi ([])).2.1 (R131_0 l lo hi l lo hi ([])).2.2 := by
  unfold r131
  rw [List.nil_append]
  exact r131_split l lo hi _
theorem insS_ok : ∀ (o : List Sp) (m p q : Int), m ≤ p → p ≤ q → q ≤ 43199 → SCan m o → Up o → Sep o p q → SCan m (insS p q o) ∧ Up (insS p q o) ∧ ∀ n, SMem (insS p q o) n ↔ (SMem o n ∨ (p ≤ n ∧ n ≤ q)) := by
  intro o
  induction o with
  | nil =>
    intro m p q h1 h2 h3 _ _ _
    refine ⟨⟨h1, h2, trivial⟩, ?_, fun n => ?_⟩
    · intro y hy; simp only [insS, List.mem_singleton] at hy; subst hy; exact h3
    · simp only [insS, smem_one, smem_nil, false_or]
  | cons y o ih =>
    intro m p q h1 h2 h3 h4 h5 h6
    obtain ⟨a1, a2, a3⟩ := h4
    have sy := h6 y (by simp)
    rw [insS]
    by_cases c : y.lo < p
    · rw [if_pos c]
      obtain ⟨i1, i2, i3⟩ := ih (y.hi + 2) p q (by omega) h2 h3 a3 (fun z hz => h5 z (by simp [hz])) (fun z hz => h6 z (by simp [hz]))
      refine ⟨⟨a1, a2, i1⟩, ?_, fun n => ?_⟩
      · intro z hz
        rcases List.mem_cons.1 hz with rfl | hz
        · exact h5 z (by simp)
        · exact i2 z hz
      · rw [smem_cons, smem_cons, i3]; simp only [or_assoc]
    · rw [if_neg c]
      refine ⟨⟨h1, h2, ?_, a2, a3⟩, ?_, fun n => ?_⟩
      · show q + 2 ≤ y.lo
        omega
      · intro z hz
        rcases List.mem_cons.1 hz with rfl | hz
        · exact h3
        · exact h5 z hz
      · rw [smem_cons]; exact or_comm
theorem r131_ok {l : List Sp} {lo hi : Int} (h : SCan 0 l) (hu : Up l) (h1 : 0 ≤ lo) (h2 : lo ≤ hi) (h3 : hi ≤ 43199) : SCan 0 (r131 l lo hi) ∧ Up (r131 l lo hi) ∧ ∀ n, SMem (r131 l lo hi) n ↔ (SMem l n ∨ (lo ≤ n ∧ n ≤ hi)) := by
  obtain ⟨i1, i2, i3, i4, i5, i6, i7⟩ := R131_0_ok l lo hi l lo hi [] h1 h2 h3 h hu (by intro y hy; simp at hy)
  rw [r131_ins]
  obtain ⟨j1, j2, j3⟩ := insS_ok _ 0 _ _ i1 i2 i3 i4 i5 i6
  refine ⟨j1, j2, fun n => (j3 n).trans ((i7 n).trans ?_)⟩
  simp only [smem_nil, false_or]

theorem R88_ok (l0 l1 : List Ar) : ∀ (l : List Ar) (o : List Sp), (∀ x ∈ l, ArcOk x.f x.l) → SCan 0 o → Up o → SCan 0 (R88_0 l0 l o) ∧ Up (R88_0 l0 l o) ∧ ∀ n, SMem (R88_0 l0 l o) n ↔ (SMem o n ∨ SMem (R178_0 l1 l) n) := by
  intro l
  induction l with
  | nil => intro o _ h hu; exact ⟨h, hu, fun n => by simp only [R88_0, R178_0, smem_nil, or_false]⟩
  | cons x l ih =>
    intro o hv h hu
    have hx : (x.f = 0 ∧ x.l = 43199) ∨ (0 ≤ x.f ∧ x.f < 43200 ∧ 0 ≤ x.l ∧ x.l < 43199) := hv x (by simp)
    have hv' : ∀ y ∈ l, ArcOk y.f y.l := fun y hy => hv y (by simp [hy])
    have w1 : IntKind.i64.wrap (x.f + x.l) = x.f + x.l := wr64 (by omega)
    have w2 : IntKind.i64.wrap (x.f + x.l - 43200) = x.f + x.l - 43200 := wr64 (by omega)
    rw [R88_0, R178_0, w1, w2]
    by_cases c : x.f + x.l < 43200
    · rw [if_pos c, if_neg (by omega)]
      obtain ⟨i1, i2, i3⟩ := r131_ok (lo := x.f) (hi := x.f + x.l) h hu (by omega) (by omega) (by omega)
      obtain ⟨j1, j2, j3⟩ := ih _ hv' i1 i2
      refine ⟨j1, j2, fun n => (j3 n).trans ?_⟩
      have e : min (x.f + x.l) 43199 = x.f + x.l := by omega
      rw [i3, smem_cons, e]
      simp only [or_assoc]
    · rw [if_neg c, if_pos (by omega)]
      obtain ⟨i1, i2, i3⟩ := r131_ok (lo := x.f) (hi := 43199) h hu (by omega) (by omega) (by omega)
      obtain ⟨k1, k2, k3⟩ := r131_ok (lo := 0) (hi := x.f + x.l - 43200) i1 i2 (by omega) (by omega) (by omega)
      obtain ⟨j1, j2, j3⟩ := ih _ hv' k1 k2
      refine ⟨j1, j2, fun n => (j3 n).trans ?_⟩
      have e : min (x.f + x.l) 43199 = 43199 := by omega
      rw [k3, i3, smem_cons, smem_cons, e]
      simp only [or_assoc]
theorem r88_ok {l : List Ar} (hv : ∀ x ∈ l, ArcOk x.f x.l) : SCan 0 (r88 l) ∧ Up (r88 l) ∧ ∀ n, SMem (r88 l) n ↔ SMem (r178 l) n := by
  obtain ⟨i1, i2, i3⟩ := R88_ok l l l [] hv trivial (by intro y hy; simp at hy)
  refine ⟨i1, i2, fun n => (i3 n).trans ?_⟩
  simp only [smem_nil, false_or]; rfl

theorem R89_1_ok (a b : List Sp) (i : Nat) (o0 : List Sp) (hx1 : 0 ≤ (lget a i).lo) (hx2 : (lget a i).hi ≤ 43199) : ∀ (l p : List Sp), (∀ y ∈ l, 0 ≤ y.lo ∧ y.lo ≤ y.hi ∧ y.hi ≤ 43199) → SCan 0 p → Up p →
    SCan 0 (R89_1 a b i o0 l p) ∧ Up (R89_1 a b i o0 l p) ∧ ∀ n, SMem (R89_1 a b i o0 l p) n ↔ (SMem p n ∨ (((lget a i).lo ≤ n ∧ n ≤ (lget a i).hi) ∧ SMem l n)) := by
  intro l
  induction l with
  | nil => intro p _ h hu; exact ⟨h, hu, fun n => by simp only [R89_1, smem_nil, and_false, or_false]⟩
  | cons y l ih =>
    intro p hl h hu
    have hy := hl y (by simp)
    have hl' : ∀ y ∈ l, 0 ≤ y.lo ∧ y.lo ≤ y.hi ∧ y.hi ≤ 43199 := fun z hz => hl z (by simp [hz])
    rw [R89_1]
    by_cases c : max ((lget a i).lo) y.lo ≤ min ((lget a i).hi) y.hi
    · rw [if_pos c]
      obtain ⟨i1, i2, i3⟩ := r131_ok (lo := max ((lget a i).lo) y.lo) (hi := min ((lget a i).hi) y.hi) h hu (by omega) c (by omega)
      obtain ⟨j1, j2, j3⟩ := ih _ hl' i1 i2
      refine ⟨j1, j2, fun n => (j3 n).trans ?_⟩
      have U : (max ((lget a i).lo) y.lo ≤ n ∧ n ≤ min ((lget a i).hi) y.hi) ↔ (((lget a i).lo ≤ n ∧ n ≤ (lget a i).hi) ∧ (y.lo ≤ n ∧ n ≤ y.hi)) := by omega
      rw [i3, U, smem_cons, or_assoc, ← and_or_left]
    · rw [if_neg c]
      obtain ⟨j1, j2, j3⟩ := ih _ hl' h hu
      refine ⟨j1, j2, fun n => (j3 n).trans ?_⟩
      have U : ¬ (((lget a i).lo ≤ n ∧ n ≤ (lget a i).hi) ∧ (y.lo ≤ n ∧ n ≤ y.hi)) := by omega
      rw [smem_cons, and_or_left]
      simp only [U, false_or]
theorem drop_lget {α : Type} [Inhabited α] {a : List α} {i : Nat} {x : α} {l : List α} (h : a.drop i = x :: l) : lget a i = x ∧ a.drop (i + 1) = l ∧ i < a.length := by
  have h1 : i < a.length := by
    rcases Nat.lt_or_ge i a.length with h1 | h1
    · exact h1
    · rw [List.drop_eq_nil_of_le h1] at h; exact absurd h (by simp)
  have h2 := lget_some (l := a) h1
  rw [drop_cons' h2] at h
  injection h with h3 h4
  exact ⟨h3, h4, h1⟩
theorem R89_0_ok (a b : List Sp) (ha : ∀ y ∈ a, 0 ≤ y.lo ∧ y.lo ≤ y.hi ∧ y.hi ≤ 43199) (hb : ∀ y ∈ b, 0 ≤ y.lo ∧ y.lo ≤ y.hi ∧ y.hi ≤ 43199) : ∀ (l : List Sp) (i : Nat) (o : List Sp), a.drop i = l → SCan 0 o → Up o →
    SCan 0 (R89_0 a b l i o) ∧ Up (R89_0 a b l i o) ∧ ∀ n, SMem (R89_0 a b l i o) n ↔ (SMem o n ∨ (SMem l n ∧ SMem b n)) := by
  intro l
  induction l with
  | nil => intro i o _ h hu; exact ⟨h, hu, fun n => by simp only [R89_0, smem_nil, false_and, or_false]⟩
  | cons x l ih =>
    intro i o hd h hu
    obtain ⟨e1, e2, e3⟩ := drop_lget hd
    have hx := ha x (List.mem_of_mem_drop (hd ▸ List.mem_cons_self))
    obtain ⟨i1, i2, i3⟩ := R89_1_ok a b i o (by rw [e1]; omega) (by rw [e1]; omega) b o hb h hu
    obtain ⟨j1, j2, j3⟩ := ih (i + 1) _ e2 i1 i2
    rw [R89_0]
    refine ⟨j1, j2, fun n => (j3 n).trans ?_⟩
    rw [i3, e1, smem_cons, or_and_right, or_assoc]
theorem r89_ok {a b : List Sp} (ha : SCan 0 a) (hua : Up a) (hb : SCan 0 b) (hub : Up b) : SCan 0 (r89 a b) ∧ Up (r89 a b) ∧ ∀ n, SMem (r89 a b) n ↔ (SMem a n ∧ SMem b n) := by
  obtain ⟨i1, i2, i3⟩ := R89_0_ok a b (fun y hy => ⟨(ha.each y hy).1, (ha.each y hy).2, hua y hy⟩) (fun y hy => ⟨(hb.each y hy).1, (hb.each y hy).2, hub y hy⟩) a 0 [] rfl trivial (by intro y hy; simp at hy)
  refine ⟨i1, i2, fun n => (i3 n).trans ?_⟩
  simp only [smem_nil, false_or]
end Great
end Go.Proofs
end
section
/-
  The great seat of stage 1: the kept pieces of sorted cuts, joined, are the normal list.
-/
set_option linter.unusedSimpArgs false
set_option linter.unusedVariables false
namespace Go.Proofs
namespace Great
open Go Go.RowKit Go.Aev
set_option maxRecDepth 100000

/-- How often a place is covered by the pieces of a list, by the cuts. -/
def cov (k n : Int) : List Ct → Int
  | [] => 0
  | c :: l => (if c.li = k ∧ c.at_ ≤ n then c.by_ else 0) + cov k n l
theorem cov_append (k n : Int) (a b : List Ct) : cov k n (a ++ b) = cov k n a + cov k n b := by
  induction a with
  | nil => simp [cov]
  | cons c a ih => simp only [List.cons_append, cov, ih]; omega
theorem cov_perm {k n : Int} {a b : List Ct} (h : a.Perm b) : cov k n a = cov k n b := by
  induction h with
  | nil => rfl
  | cons x _ ih => simp only [cov, ih]
  | swap x y l => simp only [cov]; omega
  | trans _ _ h1 h2 => exact h1.trans h2
theorem cov_zero {k n : Int} {l : List Ct} (h : ∀ c ∈ l, n < c.at_) : cov k n l = 0 := by
  induction l with
  | nil => rfl
  | cons c l ih =>
    have hc := h c (by simp)
    rw [cov, ih (fun x hx => h x (by simp [hx])), if_neg (by omega)]; rfl
def CtOk (x : Ct) : Prop := (x.li = 0 ∨ x.li = 1) ∧ (x.by_ = 1 ∨ x.by_ = -1) ∧ 0 ≤ x.at_ ∧ x.at_ ≤ 43200
def Kp (keep : Bool → Bool → Bool) (u v : Int) : Prop := (0 < u ∨ 0 < v) ∧ keep (decide (0 < u)) (decide (0 < v)) = true
theorem stepC_ok {x : Ct} {p q : Int} (hx : CtOk x) (hp : -1000000 ≤ p ∧ p ≤ 1000000) (hq : -1000000 ≤ q ∧ q ≤ 1000000) (n : Int) (hn : x.at_ ≤ n) :
    (stepC x p q).1 = p + (if x.li = 0 ∧ x.at_ ≤ n then x.by_ else 0) ∧ (stepC x p q).2 = q + (if x.li = 1 ∧ x.at_ ≤ n then x.by_ else 0) := by
  obtain ⟨h1, h2, h3, h4⟩ := hx
  have w1 : IntKind.i64.wrap (p + x.by_) = p + x.by_ := wr64 (by omega)
  have w2 : IntKind.i64.wrap (q + x.by_) = q + x.by_ := wr64 (by omega)
  unfold stepC
  rcases h1 with h | h
  · rw [if_pos h, w1, if_pos ⟨h, hn⟩, if_neg (by omega)]; exact ⟨rfl, by simp⟩
  · rw [if_neg (by omega), w2, if_neg (by omega), if_pos ⟨h, hn⟩]; exact ⟨by simp, rfl⟩
theorem R152_ok (keep : Bool → Bool → Bool) : ∀ (ks : List Ct) (p q m : Int), (∀ x ∈ ks, CtOk x) → KSorted ks → (∀ x ∈ ks, m ≤ x.at_) → -900000 ≤ p - ks.length ∧ p + ks.length ≤ 900000 → -900000 ≤ q - ks.length ∧ q + ks.length ≤ 900000 →
    SOrd m (R152 keep ks p q) ∧ Up (R152 keep ks p q) ∧ ∀ n, SMem (R152 keep ks p q) n ↔ ((∃ x ∈ ks, x.at_ ≤ n) ∧ (∃ x ∈ ks, n < x.at_) ∧ Kp keep (p + cov 0 n ks) (q + cov 1 n ks)) := by
  intro ks
  induction ks with
  | nil => intro p q m _ _ _ _ _; exact ⟨trivial, by intro y hy; simp [R152] at hy, fun n => by simp [R152, smem_nil]⟩
  | cons x ks ih =>
    cases ks with
    | nil =>
      intro p q m hk _ _ _ _
      refine ⟨trivial, by intro y hy; simp [R152] at hy, fun n => ?_⟩
      simp only [R152, smem_nil, false_iff, List.mem_singleton, exists_eq_left]
      rintro ⟨h1, h2, _⟩; omega
    | cons x2 l =>
      intro p q m hk hs hm hp hq
      have hx := hk x (by simp)
      have hx2 := hk x2 (by simp)
      have hs1 := hs.1
      have hm1 := hm x (by simp)
      have hk' : ∀ y ∈ x2 :: l, CtOk y := fun y hy => hk y (by simp only [List.mem_cons] at hy ⊢; exact .inr hy)
      have h12 : x.at_ ≤ x2.at_ := hs1 x2 (by simp)
      have hs2 : ∀ y ∈ x2 :: l, x2.at_ ≤ y.at_ := by
        intro y hy
        rcases List.mem_cons.1 hy with rfl | hy
        · exact Int.le_refl _
        · exact hs.2.1 y hy
      have hlen : (x :: x2 :: l).length = (x2 :: l).length + 1 := rfl
      have bx : x.by_ = 1 ∨ x.by_ = -1 := hx.2.1
      have sk := stepC_ok hx (p := p) (q := q) (by omega) (by omega) x.at_ (Int.le_refl _)
      have sb1 : p - 1 ≤ (stepC x p q).1 ∧ (stepC x p q).1 ≤ p + 1 := by rw [sk.1]; split <;> omega
      have sb2 : q - 1 ≤ (stepC x p q).2 ∧ (stepC x p q).2 ≤ q + 1 := by rw [sk.2]; split <;> omega
      obtain ⟨i1, i2, i3⟩ := ih (stepC x p q).1 (stepC x p q).2 x2.at_ hk' hs.2 hs2 (by omega) (by omega)
      have cv : ∀ n, x.at_ ≤ n → p + cov 0 n (x :: x2 :: l) = (stepC x p q).1 + cov 0 n (x2 :: l) ∧ q + cov 1 n (x :: x2 :: l) = (stepC x p q).2 + cov 1 n (x2 :: l) := by
        intro n hn
        have sk' := stepC_ok hx (p := p) (q := q) (by omega) (by omega) n hn
        rw [sk'.1, sk'.2, show cov 0 n (x :: x2 :: l) = (if x.li = 0 ∧ x.at_ ≤ n then x.by_ else 0) + cov 0 n (x2 :: l) from rfl, show cov 1 n (x :: x2 :: l) = (if x.li = 1 ∧ x.at_ ≤ n then x.by_ else 0) + cov 1 n (x2 :: l) from rfl]
        exact ⟨(Int.add_assoc _ _ _).symm, (Int.add_assoc _ _ _).symm⟩
      have w : IntKind.i64.wrap (x2.at_ - 1) = x2.at_ - 1 := wr64 (by have := hx2.2.2; omega)
      have ex1 : ∀ n, (∃ y ∈ x :: x2 :: l, y.at_ ≤ n) ↔ x.at_ ≤ n := by
        intro n
        constructor
        · rintro ⟨y, hy, h⟩
          rcases List.mem_cons.1 hy with rfl | hy
          · exact h
          · have := hs1 y hy; omega
        · intro h; exact ⟨x, by simp, h⟩
      have ex1' : ∀ n, (∃ y ∈ x2 :: l, y.at_ ≤ n) ↔ x2.at_ ≤ n := by
        intro n
        constructor
        · rintro ⟨y, hy, h⟩; have := hs2 y hy; omega
        · intro h; exact ⟨x2, by simp, h⟩
      have ex2 : ∀ n, (∃ y ∈ x :: x2 :: l, n < y.at_) ↔ (∃ y ∈ x2 :: l, n < y.at_) := by
        intro n
        constructor
        · rintro ⟨y, hy, h⟩
          rcases List.mem_cons.1 hy with rfl | hy
          · exact ⟨x2, by simp, by omega⟩
          · exact ⟨y, hy, h⟩
        · rintro ⟨y, hy, h⟩; exact ⟨y, List.mem_cons_of_mem _ hy, h⟩
      rw [R152, w]
      by_cases c : x2.at_ = x.at_
      · rw [if_pos c]
        refine ⟨i1.weak (by omega), i2, fun n => (i3 n).trans ?_⟩
        rw [ex1, ex1', ex2, c]
        constructor
        · rintro ⟨h1, h2, h3⟩; rw [(cv n h1).1, (cv n h1).2]; exact ⟨h1, h2, h3⟩
        · rintro ⟨h1, h2, h3⟩; rw [(cv n h1).1, (cv n h1).2] at h3; exact ⟨h1, h2, h3⟩
      · rw [if_neg c]
        have z : ∀ n, n < x2.at_ → cov 0 n (x2 :: l) = 0 ∧ cov 1 n (x2 :: l) = 0 := fun n hn =>
          ⟨cov_zero fun y hy => by have := hs2 y hy; omega, cov_zero fun y hy => by have := hs2 y hy; omega⟩
        have here : ∀ n, x.at_ ≤ n → n ≤ x2.at_ - 1 → (Kp keep (p + cov 0 n (x :: x2 :: l)) (q + cov 1 n (x :: x2 :: l)) ↔ Kp keep (stepC x p q).1 (stepC x p q).2) := by
          intro n h1 h2
          rw [(cv n h1).1, (cv n h1).2, (z n (by omega)).1, (z n (by omega)).2, Int.add_zero, Int.add_zero]
        have rest : ∀ n, SMem (R152 keep (x2 :: l) (stepC x p q).1 (stepC x p q).2) n ↔ (x2.at_ ≤ n ∧ (∃ y ∈ x2 :: l, n < y.at_) ∧ Kp keep (p + cov 0 n (x :: x2 :: l)) (q + cov 1 n (x :: x2 :: l))) := by
          intro n
          rw [i3, ex1']
          constructor
          · rintro ⟨h1, h2, h3⟩; rw [(cv n (by omega)).1, (cv n (by omega)).2]; exact ⟨h1, h2, h3⟩
          · rintro ⟨h1, h2, h3⟩; rw [(cv n (by omega)).1, (cv n (by omega)).2] at h3; exact ⟨h1, h2, h3⟩
        by_cases ck : (0 < (stepC x p q).1 ∨ 0 < (stepC x p q).2) ∧ keep (decide (0 < (stepC x p q).1)) (decide (0 < (stepC x p q).2)) = true
        · rw [if_pos ck]
          refine ⟨⟨hm1, by show x.at_ ≤ x2.at_ - 1; omega, i1.weak (by show x2.at_ - 1 + 1 ≤ x2.at_; omega)⟩, ?_, fun n => ?_⟩
          · intro y hy
            rcases List.mem_cons.1 hy with rfl | hy
            · show x2.at_ - 1 ≤ 43199; have := hx2.2.2; omega
            · exact i2 y hy
          · rw [smem_cons, rest, ex1, ex2]
            show ((x.at_ ≤ n ∧ n ≤ x2.at_ - 1) ∨ _) ↔ _
            constructor
            · rintro (⟨h1, h2⟩ | ⟨h1, h2, h3⟩)
              · exact ⟨h1, ⟨x2, by simp, by omega⟩, (here n h1 h2).2 ck⟩
              · exact ⟨by omega, h2, h3⟩
            · rintro ⟨h1, h2, h3⟩
              by_cases h4 : n ≤ x2.at_ - 1
              · exact .inl ⟨h1, h4⟩
              · exact .inr ⟨by omega, h2, h3⟩
        · rw [if_neg ck]
          refine ⟨i1.weak (by omega), i2, fun n => ?_⟩
          rw [rest, ex1, ex2]
          constructor
          · rintro ⟨h1, h2, h3⟩; exact ⟨by omega, h2, h3⟩
          · rintro ⟨h1, h2, h3⟩
            by_cases h4 : n ≤ x2.at_ - 1
            · exact absurd ((here n h1 h4).1 h3) ck
            · exact ⟨by omega, h2, h3⟩

/-- Pieces in order, joined: s is the last one so far. -/
def mrg : Sp → List Sp → List Sp
  | s, [] => [s]
  | s, p :: ps => if s.hi + 1 = p.lo then mrg ⟨s.lo, p.hi⟩ ps else s :: mrg p ps
theorem mrg_ok : ∀ (ps : List Sp) (s : Sp) (m : Int), m ≤ s.lo → s.lo ≤ s.hi → s.hi ≤ 43199 → SOrd (s.hi + 1) ps → Up ps → SCan m (mrg s ps) ∧ Up (mrg s ps) ∧ ∀ n, SMem (mrg s ps) n ↔ ((s.lo ≤ n ∧ n ≤ s.hi) ∨ SMem ps n) := by
  intro ps
  induction ps with
  | nil =>
    intro s m h1 h2 h3 _ _
    refine ⟨⟨h1, h2, trivial⟩, ?_, fun n => ?_⟩
    · intro y hy; simp only [mrg, List.mem_singleton] at hy; subst hy; exact h3
    · simp only [mrg, smem_one, smem_nil, or_false]
  | cons p ps ih =>
    intro s m h1 h2 h3 h4 h5
    obtain ⟨a1, a2, a3⟩ := h4
    have h5' : Up ps := fun y hy => h5 y (by simp [hy])
    have hp := h5 p (by simp)
    rw [mrg]
    by_cases c : s.hi + 1 = p.lo
    · rw [if_pos c]
      obtain ⟨i1, i2, i3⟩ := ih ⟨s.lo, p.hi⟩ m h1 (by show s.lo ≤ p.hi; omega) hp a3 h5'
      refine ⟨i1, i2, fun n => (i3 n).trans ?_⟩
      have U : (s.lo ≤ n ∧ n ≤ p.hi) ↔ ((s.lo ≤ n ∧ n ≤ s.hi) ∨ (p.lo ≤ n ∧ n ≤ p.hi)) := by omega
      show ((s.lo ≤ n ∧ n ≤ p.hi) ∨ _) ↔ _
      rw [U, smem_cons, or_assoc]
    · rw [if_neg c]
      obtain ⟨i1, i2, i3⟩ := ih p (s.hi + 2) (by omega) a2 hp a3 h5'
      refine ⟨⟨h1, h2, i1⟩, ?_, fun n => ?_⟩
      · intro y hy
        rcases List.mem_cons.1 hy with rfl | hy
        · exact h3
        · exact i2 y hy
      · rw [smem_cons, i3, smem_cons]
def toAr (s : Sp) : Ar := ⟨s.lo, s.hi - s.lo⟩
theorem lget_snoc {α : Type} [Inhabited α] (o : List α) (x : α) : lget (o ++ [x]) o.length = x := by
  unfold lget; simp
theorem joinS_snoc (o : List Ar) (s p : Sp) (hs1 : 0 ≤ s.lo) (hs : s.lo ≤ s.hi) (hs2 : s.hi ≤ 43199) (hp1 : 0 ≤ p.lo) (hp : p.lo ≤ p.hi) (hp2 : p.hi ≤ 43199) :
    joinS (o ++ [toAr s]) p = if s.hi + 1 = p.lo then o ++ [toAr ⟨s.lo, p.hi⟩] else o ++ [toAr s, toAr p] := by
  have hl : (o ++ [toAr s]).length - 1 = o.length := by simp
  unfold joinS
  rw [hl, lget_snoc]
  have w1 : IntKind.i64.wrap ((toAr s).f + (toAr s).l) = s.hi := by show IntKind.i64.wrap (s.lo + (s.hi - s.lo)) = s.hi; rw [wr64 (by omega)]; omega
  have w2 : IntKind.i64.wrap (s.hi + 1) = s.hi + 1 := wr64 (by omega)
  have w3 : IntKind.i64.wrap (p.hi - (toAr s).f) = p.hi - s.lo := wr64 (by show _ ≤ p.hi - s.lo ∧ p.hi - s.lo ≤ _; omega)
  have w4 : IntKind.i64.wrap (p.hi - p.lo) = p.hi - p.lo := wr64 (by omega)
  rw [w1, w2, w3, w4]
  by_cases c : s.hi + 1 = p.lo
  · rw [if_pos ⟨by simp, c⟩, if_pos c]
    rw [List.set_append_right _ _ (Nat.le_refl _), Nat.sub_self]; rfl
  · rw [if_neg (fun h => c h.2), if_neg c, List.append_assoc]; rfl
theorem fold_mrg : ∀ (ps : List Sp) (o : List Ar) (s : Sp), 0 ≤ s.lo → s.lo ≤ s.hi → s.hi ≤ 43199 → SOrd (s.hi + 1) ps → Up ps → ps.foldl joinS (o ++ [toAr s]) = o ++ (mrg s ps).map toAr := by
  intro ps
  induction ps with
  | nil => intro o s _ _ _ _ _; rfl
  | cons p ps ih =>
    intro o s h1 h2 h3 h4 h5
    obtain ⟨a1, a2, a3⟩ := h4
    have h5' : Up ps := fun y hy => h5 y (by simp [hy])
    have hp := h5 p (by simp)
    rw [List.foldl_cons, joinS_snoc o s p h1 h2 h3 (by omega) a2 hp, mrg]
    by_cases c : s.hi + 1 = p.lo
    · rw [if_pos c, if_pos c]
      exact ih o ⟨s.lo, p.hi⟩ h1 (by show s.lo ≤ p.hi; omega) hp a3 h5'
    · rw [if_neg c, if_neg c]
      have := ih (o ++ [toAr s]) p (by omega) a2 hp a3 h5'
      rw [List.append_assoc] at this
      exact this.trans (by rw [List.append_assoc]; rfl)
def mrg0 : List Sp → List Sp
  | [] => []
  | p :: ps => mrg p ps
theorem fold_join {ps : List Sp} (h : SOrd 0 ps) (hu : Up ps) : ps.foldl joinS [] = (mrg0 ps).map toAr ∧ SCan 0 (mrg0 ps) ∧ Up (mrg0 ps) ∧ ∀ n, SMem (mrg0 ps) n ↔ SMem ps n := by
  cases ps with
  | nil => exact ⟨rfl, trivial, by intro y hy; simp [mrg0] at hy, fun n => Iff.rfl⟩
  | cons p ps =>
    obtain ⟨a1, a2, a3⟩ := h
    have hp := hu p (by simp)
    have hu' : Up ps := fun y hy => hu y (by simp [hy])
    obtain ⟨i1, i2, i3⟩ := mrg_ok ps p 0 a1 a2 hp a3 hu'
    refine ⟨?_, i1, i2, fun n => (i3 n).trans smem_cons.symm⟩
    have w4 : IntKind.i64.wrap (p.hi - p.lo) = p.hi - p.lo := wr64 (by omega)
    have e : joinS [] p = [toAr p] := by
      unfold joinS
      rw [if_neg (by simp), w4]; rfl
    rw [List.foldl_cons, e]
    exact fold_mrg ps [] p a1 a2 hp a3 hu'

theorem lget_map (l : List Sp) (i : Nat) (h : i < l.length) : lget (l.map toAr) i = toAr (lget l i) := by
  unfold lget
  rw [List.getD_eq_getElem?_getD, List.getD_eq_getElem?_getD, List.getElem?_map, List.getElem?_eq_getElem h]; rfl
theorem R87_1_eq (l : List Sp) : ∀ (m : List Sp) (i : Nat) (o : List Ar), (∀ y ∈ m, 0 ≤ y.lo ∧ y.lo ≤ y.hi ∧ y.hi ≤ 43199) → R87_1 l m i o = o ++ m.map toAr := by
  intro m
  induction m with
  | nil => intro i o _; simp [R87_1]
  | cons x m ih =>
    intro i o h
    have hx := h x (by simp)
    have w : IntKind.i64.wrap (x.hi - x.lo) = x.hi - x.lo := wr64 (by omega)
    rw [R87_1, w, ih _ _ (fun y hy => h y (by simp [hy])), List.append_assoc]; rfl
theorem R87_2_eq (l : List Sp) : ∀ (m : List Sp) (i : Nat) (o : List Ar), (∀ y ∈ m, 0 ≤ y.lo ∧ y.lo ≤ y.hi ∧ y.hi ≤ 43199) → R87_2 l m i o = o ++ m.map toAr := by
  intro m
  induction m with
  | nil => intro i o _; simp [R87_2]
  | cons x m ih =>
    intro i o h
    have hx := h x (by simp)
    have w : IntKind.i64.wrap (x.hi - x.lo) = x.hi - x.lo := wr64 (by omega)
    rw [R87_2, w, ih _ _ (fun y hy => h y (by simp [hy])), List.append_assoc]; rfl
theorem R87_0_eq (l : List Sp) (hl : (lget l (l.length - 1)).hi ≠ 43199) : ∀ (m : List Sp) (i : Nat) (o : List Ar), (∀ y ∈ m, 0 ≤ y.lo ∧ y.lo ≤ y.hi ∧ y.hi ≤ 43199) → R87_0 l m i o = o ++ m.map toAr := by
  intro m
  induction m with
  | nil => intro i o _; simp [R87_0]
  | cons x m ih =>
    intro i o h
    have hx := h x (by simp)
    have w : IntKind.i64.wrap (x.hi - x.lo) = x.hi - x.lo := wr64 (by omega)
    rw [R87_0, if_neg hl, w, ih _ _ (fun y hy => h y (by simp [hy])), List.append_assoc]; rfl
theorem R87_0_wrap (l : List Sp) (hl : (lget l (l.length - 1)).hi = 43199) (h0 : 0 ≤ (lget l 0).hi ∧ (lget l 0).hi ≤ 43199) : ∀ (m : List Sp) (i : Nat) (o : List Ar), l.drop i = m → 1 ≤ i → (∀ y ∈ m, 0 ≤ y.lo ∧ y.lo ≤ y.hi ∧ y.hi ≤ 43199) →
    R87_0 l m i o = o ++ (m.map toAr).set (m.length - 1) ⟨(lget l (l.length - 1)).lo, (lget l (l.length - 1)).hi - (lget l (l.length - 1)).lo + 1 + (lget l 0).hi⟩ := by
  intro m
  induction m with
  | nil => intro i o _ _ _; simp [R87_0]
  | cons x m ih =>
    intro i o hd hi h
    have hx := h x (by simp)
    obtain ⟨e1, e2, e3⟩ := drop_lget hd
    have w : IntKind.i64.wrap (x.hi - x.lo) = x.hi - x.lo := wr64 (by omega)
    have w2 : IntKind.i64.wrap (x.hi - x.lo + 1) = x.hi - x.lo + 1 := wr64 (by omega)
    have w3 : IntKind.i64.wrap (x.hi - x.lo + 1 + (lget l 0).hi) = x.hi - x.lo + 1 + (lget l 0).hi := wr64 (by omega)
    have hlen : (l.drop i).length = l.length - i := List.length_drop
    rw [hd, List.length_cons] at hlen
    rw [R87_0, if_pos hl, if_neg (by omega), w, w2, w3]
    by_cases c : (i : Int) = ((l.length - 1 : Nat) : Int)
    · have hm : m = [] := List.eq_nil_of_length_eq_zero (by omega)
      have hi' : i = l.length - 1 := by omega
      subst hm
      rw [if_pos c, ← hi', e1]; rfl
    · rw [if_neg c]
      have hm : m.length ≠ 0 := by omega
      rw [ih (i + 1) _ e2 (by omega) (fun y hy => h y (by simp [hy])), List.append_assoc]
      obtain ⟨k, hk⟩ : ∃ k, m.length = k + 1 := ⟨m.length - 1, by omega⟩
      rw [List.length_cons, hk, Nat.add_sub_cancel, List.map_cons, Nat.add_sub_cancel, List.set_cons_succ]; rfl
theorem r87_wrapA {l : List Sp} (h : SCan 0 l) (hu : Up l) : r87 l = wrapA (l.map toAr) := by
  have hb : ∀ y ∈ l, 0 ≤ y.lo ∧ y.lo ≤ y.hi ∧ y.hi ≤ 43199 := fun y hy => ⟨(h.each y hy).1, (h.each y hy).2, hu y hy⟩
  have hlen : (l.map toAr).length = l.length := List.length_map _
  unfold r87 wrapA
  rw [hlen]
  by_cases c1 : 1 < l.length
  · have b0 := hb _ (List.mem_of_getElem? (lget_some (l := l) (i := 0) (by omega)))
    have b1 := hb _ (List.mem_of_getElem? (lget_some (l := l) (i := l.length - 1) (by omega)))
    rw [lget_map l 0 (by omega), lget_map l (l.length - 1) (by omega), if_pos (show 1 < (l.length : Int) by omega)]
    have w1 : IntKind.i64.wrap ((toAr (lget l (l.length - 1))).f + (toAr (lget l (l.length - 1))).l) = (lget l (l.length - 1)).hi := by
      show IntKind.i64.wrap ((lget l (l.length - 1)).lo + ((lget l (l.length - 1)).hi - (lget l (l.length - 1)).lo)) = _
      rw [wr64 (by omega)]; omega
    rw [w1]
    by_cases c2 : (lget l 0).lo = 0
    · rw [if_pos c2]
      by_cases c3 : (lget l (l.length - 1)).hi = 43199
      · rw [if_pos ⟨c1, c2, c3⟩]
        cases hl : l with
        | nil => rw [hl] at c1; simp at c1
        | cons x m =>
          rw [← hl]
          have hm0 : l.drop 1 = m := by rw [hl]; rfl
          have hml : l.length = m.length + 1 := by rw [hl]; rfl
          have w2 : IntKind.i64.wrap (1 + (toAr (lget l 0)).l) = 1 + (lget l 0).hi := by
            show IntKind.i64.wrap (1 + ((lget l 0).hi - (lget l 0).lo)) = _
            rw [c2, wr64 (by omega)]; omega
          have w3 : IntKind.i64.wrap ((toAr (lget l (l.length - 1))).l + (1 + (lget l 0).hi)) = (lget l (l.length - 1)).hi - (lget l (l.length - 1)).lo + 1 + (lget l 0).hi := by
            show IntKind.i64.wrap ((lget l (l.length - 1)).hi - (lget l (l.length - 1)).lo + (1 + (lget l 0).hi)) = _
            rw [wr64 (by omega)]; omega
          rw [w2, w3]
          have st : R87_0 l l 0 [] = R87_0 l m 1 [] := by
            rw [show R87_0 l l 0 [] = R87_0 l (x :: m) 0 [] from by rw [← hl], R87_0, if_pos c3, if_pos (show ((0 : Nat) : Int) = 0 from rfl)]
          rw [st, R87_0_wrap l c3 ⟨by omega, by omega⟩ m 1 [] hm0 (Nat.le_refl _) (fun y hy => hb y (by rw [hl]; simp [hy])), List.nil_append]
          obtain ⟨k, hk⟩ : ∃ k, m.length = k + 1 := ⟨m.length - 1, by omega⟩
          have e : l.map toAr = toAr x :: m.map toAr := by rw [hl]; rfl
          rw [e, hml, hk, Nat.add_sub_cancel, Nat.add_sub_cancel, List.set_cons_succ]; rfl
      · rw [if_neg (fun h => c3 h.2.2), R87_0_eq l c3 l 0 [] hb, List.nil_append]
    · rw [if_neg c2, if_neg (fun h => c2 h.2.1), R87_1_eq l l 0 [] hb, List.nil_append]
  · rw [if_neg (show ¬ 1 < (l.length : Int) by omega), if_neg (fun h => c1 h.1), R87_2_eq l l 0 [] hb, List.nil_append]
/-- What the program joins is the normal list of the same set. -/
theorem r129_eq {ps T : List Sp} (h : SOrd 0 ps) (hu : Up ps) (hT : SCan 0 T) (huT : Up T) (he : ∀ n, SMem ps n ↔ SMem T n) : r129 ps = r87 T := by
  obtain ⟨i1, i2, i3, i4⟩ := fold_join h hu
  unfold r129
  rw [i1, r87_wrapA hT huT, scan_uniq (mrg0 ps) T 0 0 i2 hT (fun n => (i4 n).trans (he n))]

/-- The pieces of valid arcs. -/
theorem r178_ok (l1 : List Ar) : ∀ (l : List Ar), (∀ x ∈ l, ArcOk x.f x.l) → ∀ s ∈ R178_0 l1 l, 0 ≤ s.lo ∧ s.lo ≤ s.hi ∧ s.hi ≤ 43199 := by
  intro l
  induction l with
  | nil => intro _ s hs; simp [R178_0] at hs
  | cons x l ih =>
    intro hv s hs
    have hx : (x.f = 0 ∧ x.l = 43199) ∨ (0 ≤ x.f ∧ x.f < 43200 ∧ 0 ≤ x.l ∧ x.l < 43199) := hv x (by simp)
    have w1 : IntKind.i64.wrap (x.f + x.l) = x.f + x.l := wr64 (by omega)
    have w2 : IntKind.i64.wrap (x.f + x.l - 43200) = x.f + x.l - 43200 := wr64 (by omega)
    rw [R178_0, w1, w2] at hs
    have ih' := ih (fun y hy => hv y (by simp [hy])) s
    rcases List.mem_cons.1 hs with rfl | hs
    · show 0 ≤ x.f ∧ x.f ≤ min (x.f + x.l) 43199 ∧ min (x.f + x.l) 43199 ≤ 43199; omega
    · by_cases c : 43200 ≤ x.f + x.l
      · rw [if_pos c] at hs
        rcases List.mem_cons.1 hs with rfl | hs
        · show 0 ≤ (0 : Int) ∧ 0 ≤ x.f + x.l - 43200 ∧ x.f + x.l - 43200 ≤ 43199; omega
        · exact ih' hs
      · rw [if_neg c] at hs
        exact ih' hs
theorem cov_cuts (k n : Int) : ∀ (ps : List Sp), (∀ s ∈ ps, 0 ≤ s.lo ∧ s.lo ≤ s.hi ∧ s.hi ≤ 43199) → 0 ≤ cov k n (cutsOf k ps) ∧ (0 < cov k n (cutsOf k ps) ↔ SMem ps n) := by
  intro ps
  induction ps with
  | nil => intro _; exact ⟨by simp [cutsOf, cov], by simp [cutsOf, cov, smem_nil]⟩
  | cons p ps ih =>
    intro h
    have hp := h p (by simp)
    obtain ⟨i1, i2⟩ := ih (fun s hs => h s (by simp [hs]))
    have w : IntKind.i64.wrap (p.hi + 1) = p.hi + 1 := wr64 (by omega)
    have e : cutsOf k (p :: ps) = ⟨p.lo, k, 1⟩ :: ⟨p.hi + 1, k, -1⟩ :: cutsOf k ps := by
      simp only [cutsOf, List.flatMap_cons, w]; rfl
    rw [e, cov, cov, smem_cons, ← i2]
    generalize cov k n (cutsOf k ps) = c at *
    show 0 ≤ (if k = k ∧ p.lo ≤ n then (1 : Int) else 0) + ((if k = k ∧ p.hi + 1 ≤ n then (-1 : Int) else 0) + c) ∧ (0 < (if k = k ∧ p.lo ≤ n then (1 : Int) else 0) + ((if k = k ∧ p.hi + 1 ≤ n then (-1 : Int) else 0) + c) ↔ _)
    simp only [true_and]
    by_cases c1 : p.lo ≤ n
    · rw [if_pos c1]
      by_cases c2 : p.hi + 1 ≤ n
      · rw [if_pos c2]; omega
      · rw [if_neg c2]; omega
    · rw [if_neg c1]
      by_cases c2 : p.hi + 1 ≤ n
      · rw [if_pos c2]; omega
      · rw [if_neg c2]; omega
theorem cov_other (k k' n : Int) (hk : k ≠ k') : ∀ (ps : List Sp), cov k' n (cutsOf k ps) = 0 := by
  intro ps
  induction ps with
  | nil => rfl
  | cons p ps ih =>
    have e : cutsOf k (p :: ps) = ⟨p.lo, k, 1⟩ :: ⟨IntKind.i64.wrap (p.hi + 1), k, -1⟩ :: cutsOf k ps := rfl
    rw [e, cov, cov, ih, if_neg (fun h => hk h.1), if_neg (fun h => hk h.1)]; rfl
theorem cuts_mem {k : Int} {ps : List Sp} {x : Ct} (h : x ∈ cutsOf k ps) : ∃ s ∈ ps, x = ⟨s.lo, k, 1⟩ ∨ x = ⟨IntKind.i64.wrap (s.hi + 1), k, -1⟩ := by
  simp only [cutsOf, List.mem_flatMap, List.mem_cons, List.not_mem_nil, or_false] at h
  exact h
theorem mem_cuts {k : Int} {ps : List Sp} {s : Sp} (h : s ∈ ps) : (⟨s.lo, k, 1⟩ : Ct) ∈ cutsOf k ps ∧ (⟨IntKind.i64.wrap (s.hi + 1), k, -1⟩ : Ct) ∈ cutsOf k ps := by
  simp only [cutsOf, List.mem_flatMap, List.mem_cons, List.not_mem_nil, or_false]
  exact ⟨⟨s, h, .inl rfl⟩, ⟨s, h, .inr rfl⟩⟩
theorem cutsTo_ok {a b : List Ar} (ha : ∀ x ∈ a, ArcOk x.f x.l) (hb : ∀ x ∈ b, ArcOk x.f x.l) : ∀ x ∈ cutsTo a b 2, CtOk x := by
  intro x hx
  have hx' : x ∈ cutsOf 0 (r178 a) ++ cutsOf 1 (r178 b) := hx
  rcases List.mem_append.1 hx' with h | h
  · obtain ⟨s, hs, h⟩ := cuts_mem h
    have := r178_ok a a ha s hs
    have w : IntKind.i64.wrap (s.hi + 1) = s.hi + 1 := wr64 (by omega)
    rw [w] at h
    rcases h with rfl | rfl
    · exact ⟨.inl rfl, .inl rfl, by show 0 ≤ s.lo; omega, by show s.lo ≤ 43200; omega⟩
    · exact ⟨.inl rfl, .inr rfl, by show 0 ≤ s.hi + 1; omega, by show s.hi + 1 ≤ 43200; omega⟩
  · obtain ⟨s, hs, h⟩ := cuts_mem h
    have := r178_ok b b hb s hs
    have w : IntKind.i64.wrap (s.hi + 1) = s.hi + 1 := wr64 (by omega)
    rw [w] at h
    rcases h with rfl | rfl
    · exact ⟨.inr rfl, .inl rfl, by show 0 ≤ s.lo; omega, by show s.lo ≤ 43200; omega⟩
    · exact ⟨.inr rfl, .inr rfl, by show 0 ≤ s.hi + 1; omega, by show s.hi + 1 ≤ 43200; omega⟩
theorem cov_cutsTo {a b : List Ar} (ha : ∀ x ∈ a, ArcOk x.f x.l) (hb : ∀ x ∈ b, ArcOk x.f x.l) (n : Int) : (0 < cov 0 n (cutsTo a b 2) ↔ SMem (r178 a) n) ∧ (0 < cov 1 n (cutsTo a b 2) ↔ SMem (r178 b) n) := by
  have e : cutsTo a b 2 = cutsOf 0 (r178 a) ++ cutsOf 1 (r178 b) := rfl
  rw [e, cov_append, cov_append, cov_other 1 0 n (by decide), cov_other 0 1 n (by decide), Int.add_zero, Int.zero_add]
  exact ⟨(cov_cuts 0 n _ (r178_ok a a ha)).2, (cov_cuts 1 n _ (r178_ok b b hb)).2⟩
/-- What is kept of sorted cuts. -/
theorem kept_ok (keep : Bool → Bool → Bool) {a b : List Ar} (ha : ∀ x ∈ a, ArcOk x.f x.l) (hb : ∀ x ∈ b, ArcOk x.f x.l) {ks : List Ct} (hp : ks.Perm (cutsTo a b 2)) (hs : KSorted ks) (hl : ks.length ≤ 800000) :
    SOrd 0 (R152 keep ks 0 0) ∧ Up (R152 keep ks 0 0) ∧ ∀ n, SMem (R152 keep ks 0 0) n ↔ ((SMem (r178 a) n ∨ SMem (r178 b) n) ∧ keep (decide (0 < cov 0 n (cutsTo a b 2))) (decide (0 < cov 1 n (cutsTo a b 2))) = true) := by
  have hk : ∀ x ∈ ks, CtOk x := fun x hx => cutsTo_ok ha hb x (hp.mem_iff.1 hx)
  obtain ⟨i1, i2, i3⟩ := R152_ok keep ks 0 0 0 hk hs (fun x hx => (hk x hx).2.2.1) (by omega) (by omega)
  refine ⟨i1, i2, fun n => (i3 n).trans ?_⟩
  obtain ⟨c0, c1⟩ := cov_cutsTo ha hb n
  rw [Int.zero_add, Int.zero_add, cov_perm hp, cov_perm hp]
  unfold Kp
  constructor
  · rintro ⟨_, _, h1, h2⟩; exact ⟨h1.imp c0.1 c1.1, h2⟩
  · rintro ⟨h1, h2⟩
    have side : ∀ (k : Int) (ps : List Sp), (∀ s ∈ ps, 0 ≤ s.lo ∧ s.lo ≤ s.hi ∧ s.hi ≤ 43199) → (∀ x ∈ cutsOf k ps, x ∈ ks) → SMem ps n → (∃ x ∈ ks, x.at_ ≤ n) ∧ (∃ x ∈ ks, n < x.at_) := by
      rintro k ps hps hin ⟨s, hs, h3, h4⟩
      have hb := hps s hs
      have w : IntKind.i64.wrap (s.hi + 1) = s.hi + 1 := wr64 (by omega)
      obtain ⟨m1, m2⟩ := mem_cuts (k := k) hs
      rw [w] at m2
      exact ⟨⟨_, hin _ m1, h3⟩, ⟨_, hin _ m2, by show n < s.hi + 1; omega⟩⟩
    have both : (∃ x ∈ ks, x.at_ ≤ n) ∧ (∃ x ∈ ks, n < x.at_) := by
      rcases h1 with h1 | h1
      · exact side 0 _ (r178_ok a a ha) (fun x hx => hp.mem_iff.2 (List.mem_append_left _ hx)) h1
      · exact side 1 _ (r178_ok b b hb) (fun x hx => hp.mem_iff.2 (List.mem_append_right _ hx)) h1
    exact ⟨both.1, both.2, h1.imp c0.2 c1.2, h2⟩
/-- The program's union, meet and so on, of valid lists. -/
theorem meet_eq {a b : List Ar} (ha : ∀ x ∈ a, ArcOk x.f x.l) (hb : ∀ x ∈ b, ArcOk x.f x.l) {ks : List Ct} (hp : ks.Perm (cutsTo a b 2)) (hs : KSorted ks) (hl : ks.length ≤ 800000) : r129 (R152 (fun u v => u && v) ks 0 0) = r25 a b := by
  obtain ⟨i1, i2, i3⟩ := kept_ok (fun u v => u && v) ha hb hp hs hl
  obtain ⟨a1, a2, a3⟩ := r88_ok ha
  obtain ⟨b1, b2, b3⟩ := r88_ok hb
  obtain ⟨m1, m2, m3⟩ := r89_ok a1 a2 b1 b2
  unfold r25
  refine r129_eq i1 i2 m1 m2 fun n => (i3 n).trans ?_
  obtain ⟨c0, c1⟩ := cov_cutsTo ha hb n
  rw [m3, a3, b3, Bool.and_eq_true, decide_eq_true_eq, decide_eq_true_eq, c0, c1]
  exact ⟨fun h => h.2, fun h => ⟨.inl h.1, h⟩⟩
/-- The insertion sort. -/
def PSort (l : List Ct) (i j : Nat) : Prop := ∀ u v : Nat, u < v → v ≤ i → v ≠ j → (lget l u).at_ ≤ (lget l v).at_
theorem r164_lt (x y : Ct) : (r164 x.at_ x.li x.by_ y.at_ y.li y.by_ < 0) ↔ x.at_ < y.at_ := by
  show (r165 x.at_ y.at_ < 0) ↔ _
  unfold r165 r181
  simp only [Bool.false_eq_true, if_false]
  by_cases c : x.at_ < y.at_
  · simp [c]
  · by_cases c2 : y.at_ < x.at_ <;> simp [c, c2]
theorem lget_set {α : Type} [Inhabited α] (l : List α) (i j : Nat) (x : α) (h : i < l.length) : lget (l.set i x) j = if i = j then x else lget l j := by
  unfold lget
  rw [List.getD_eq_getElem?_getD, List.getD_eq_getElem?_getD, List.getElem?_set]
  by_cases c : i = j
  · subst c; simp [h]
  · simp [c]
theorem swap_perm {α : Type} [Inhabited α] (l : List α) (j : Nat) (h : j + 1 < l.length) : ((l.set (j + 1) (lget l j)).set j (lget l (j + 1))).Perm l := by
  induction l generalizing j with
  | nil => simp at h
  | cons x l ih =>
    cases j with
    | zero =>
      cases l with
      | nil => simp at h
      | cons y l => exact List.Perm.swap x y l
    | succ j =>
      have := ih j (by simp only [List.length_cons] at h; omega)
      have e : lget (x :: l) (j + 1) = lget l j := rfl
      have e2 : lget (x :: l) (j + 1 + 1) = lget l (j + 1) := rfl
      rw [e, e2, List.set_cons_succ, List.set_cons_succ]
      exact List.Perm.cons x this
theorem sdown_ok : ∀ (j : Nat) (l : List Ct) (i : Nat), j ≤ i → i < l.length → PSort l i j → (sdown l j).Perm l ∧ ∀ u v : Nat, u < v → v ≤ i → (lget (sdown l j) u).at_ ≤ (lget (sdown l j) v).at_ := by
  intro j
  induction j with
  | zero =>
    intro l i hj hi hs
    exact ⟨List.Perm.refl _, fun u v huv hv => hs u v huv hv (by omega)⟩
  | succ j ih =>
    intro l i hj hi hs
    rw [sdown]
    by_cases c : r164 (lget l (j + 1)).at_ (lget l (j + 1)).li (lget l (j + 1)).by_ (lget l j).at_ (lget l j).li (lget l j).by_ < 0
    · rw [if_pos c]
      rw [r164_lt] at c
      have hp := swap_perm l j (by omega)
      have hlen : ((l.set (j + 1) (lget l j)).set j (lget l (j + 1))).length = l.length := by simp
      have gt : ∀ u, lget ((l.set (j + 1) (lget l j)).set j (lget l (j + 1))) u = if j = u then lget l (j + 1) else if j + 1 = u then lget l j else lget l u := by
        intro u
        rw [lget_set _ _ _ _ (by simp; omega), lget_set _ _ _ _ (by omega)]
      obtain ⟨i1, i2⟩ := ih ((l.set (j + 1) (lget l j)).set j (lget l (j + 1))) i (by omega) (by omega) (by
        intro u v huv hv hne
        rw [gt, gt, if_neg (Ne.symm hne)]
        by_cases c1 : j + 1 = v
        · rw [if_pos c1]
          by_cases c2 : j = u
          · rw [if_pos c2]; omega
          · rw [if_neg c2, if_neg (by omega)]
            exact hs u j (by omega) (by omega) (by omega)
        · rw [if_neg c1]
          by_cases c2 : j = u
          · rw [if_pos c2]; exact hs (j + 1) v (by omega) hv (Ne.symm c1)
          · rw [if_neg c2]
            by_cases c3 : j + 1 = u
            · rw [if_pos c3]; exact hs j v (by omega) hv (Ne.symm c1)
            · rw [if_neg c3]; exact hs u v huv hv (Ne.symm c1))
      exact ⟨i1.trans hp, i2⟩
    · rw [if_neg c]
      rw [r164_lt] at c
      refine ⟨List.Perm.refl _, fun u v huv hv => ?_⟩
      by_cases c1 : v = j + 1
      · subst c1
        by_cases c2 : u = j
        · subst c2; omega
        · have := hs u j (by omega) (by omega) (by omega); omega
      · exact hs u v huv hv c1
theorem isort_ok : ∀ (m i : Nat) (l : List Ct), 1 ≤ i → i + m ≤ l.length → (∀ u v : Nat, u < v → v < i → (lget l u).at_ ≤ (lget l v).at_) → (isort m i l).Perm l ∧ ∀ u v : Nat, u < v → v < i + m → (lget (isort m i l) u).at_ ≤ (lget (isort m i l) v).at_ := by
  intro m
  induction m with
  | zero => intro i l _ _ h; exact ⟨List.Perm.refl _, fun u v huv hv => h u v huv (by omega)⟩
  | succ m ih =>
    intro i l hi hl h
    obtain ⟨s1, s2⟩ := sdown_ok i l i (Nat.le_refl _) (by omega) (fun u v huv hv hne => h u v huv (by omega))
    obtain ⟨i1, i2⟩ := ih (i + 1) (sdown l i) (by omega) (by rw [s1.length_eq]; omega) (fun u v huv hv => s2 u v huv (by omega))
    rw [isort]
    exact ⟨i1.trans s1, fun u v huv hv => i2 u v huv (by omega)⟩
theorem ksorted_of : ∀ (l : List Ct), (∀ u v : Nat, u < v → v < l.length → (lget l u).at_ ≤ (lget l v).at_) → KSorted l := by
  intro l
  induction l with
  | nil => intro _; trivial
  | cons x l ih =>
    intro h
    refine ⟨fun y hy => ?_, ih fun u v huv hv => h (u + 1) (v + 1) (by omega) (by simp only [List.length_cons]; omega)⟩
    obtain ⟨i, hi, rfl⟩ := List.getElem_of_mem hy
    have := h 0 (i + 1) (by omega) (by simp only [List.length_cons]; omega)
    have e : lget (x :: l) (i + 1) = l[i] := by unfold lget; simp [hi]
    rw [e] at this
    exact this
end Great
end Go.Proofs
end
