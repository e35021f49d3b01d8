/-
  BAD: EvM24, EvH39, EvM25.
-/
import Derived.Test.YtohfdkdjfoonjaaGreatDoorEvH38
import Derived.Test.YtohfdkdjfoonjaaGreatDoorEvM21
section
/-
  The house: both ways in which a house without doors is made give it (math).
-/
set_option linter.unusedSimpArgs false
set_option linter.unusedVariables false
namespace Go.Proofs
namespace House
open Go Go.RowKit Go.Aev
set_option maxRecDepth 100000
theorem map_set {α : Type} [Inhabited α] (f : α → α) {l : List α} {k : Nat} (hk : k < l.length) : (l.set k (f (lget l k))).take (k + 1) ++ ((l.set k (f (lget l k))).drop (k + 1)).map f = l.take k ++ (l.drop k).map f := by
  have hP : (l.take k).length = k := by rw [List.length_take]; omega
  generalize hb : f (lget l k) = b
  rw [List.set_eq_take_append_cons_drop, if_pos hk, drop_cons' (lget_some hk), List.map_cons, hb]
  have e1 : (l.take k ++ b :: l.drop (k + 1)).take (k + 1) = l.take k ++ [b] := by rw [List.take_append, hP, Nat.add_sub_cancel_left, List.take_of_length_le (by omega)]; rfl
  have e2 : (l.take k ++ b :: l.drop (k + 1)).drop (k + 1) = l.drop (k + 1) := by rw [List.drop_append, hP, Nat.add_sub_cancel_left, List.drop_of_length_le (by omega)]; rfl
  rw [e1, e2]; simp
theorem R150_map (h : Hs) : ∀ (m : Nat) (ws : List Wy) (k : Nat), m + k = h.ways.length + 1 → k ≤ h.ways.length → ws.length = h.ways.length → R150_0 h m ws k = ws.take k ++ (ws.drop k).map unw := by
  intro m
  induction m with
  | zero => intro ws k h1 h2 _; omega
  | succ m ih =>
    intro ws k h1 h2 h3
    rw [R150_0]
    split
    · rename_i hk
      have hk' : k < ws.length := by omega
      rw [ih _ _ (by omega) (by omega) (by rw [List.length_set]; exact h3)]
      exact map_set unw hk'
    · have hk : k = ws.length := by omega
      rw [hk, List.take_length, List.drop_length, List.map_nil, List.append_nil]
theorem r150_pl (h : Hs) : (⟨h.rooms, [], (r150 h).ways⟩ : Hs) = pl h := by
  have e : (r150 h).ways = h.ways.map unw := by
    show R150_0 h (h.ways.length + 1) h.ways 0 = _
    rw [R150_map h _ _ _ (by omega) (by omega) rfl]; simp
  rw [e]; rfl
theorem R120_map (h : Hs) : ∀ (m ws : List Wy), R120_0 h m ws = ws ++ m.map unw := by
  intro m
  induction m with
  | nil => intro ws; simp [R120_0]
  | cons w m ih => intro ws; rw [R120_0, ih, List.map_cons, List.append_assoc]; rfl
theorem r120_pl (h : Hs) : (⟨h.rooms, [], (r120 h).ways⟩ : Hs) = pl h := by
  have e : (r120 h).ways = h.ways.map unw := by
    show R120_0 h h.ways [] = _
    rw [R120_map]; rfl
  rw [e]; rfl
theorem few_pl {h : Hs} (hF : Few h) : Few (pl h) := ⟨hF.r, by show (0 : Nat) ≤ 20; omega, by show (h.ways.map unw).length ≤ 70; rw [List.length_map]; exact hF.w, fun x hx => absurd hx (List.not_mem_nil)⟩
theorem few_150 {h : Hs} (hF : Few h) : Few (⟨h.rooms, [], (r150 h).ways⟩ : Hs) := by rw [r150_pl]; exact few_pl hF
theorem v_150 {h : Hs} (hV : r59 h = 0) : r59 (⟨h.rooms, [], (r150 h).ways⟩ : Hs) = 0 := by rw [r150_pl]; exact pl_ok hV
theorem few_120 {h : Hs} (hF : Few h) : Few (⟨h.rooms, [], (r120 h).ways⟩ : Hs) := by rw [r120_pl]; exact few_pl hF
theorem v_120 {h : Hs} (hV : r59 h = 0) : r59 (⟨h.rooms, [], (r120 h).ways⟩ : Hs) = 0 := by rw [r120_pl]; exact pl_ok hV
end House
end Go.Proofs
end
section
/-
  The house's seat: distances.
-/
set_option linter.unusedSimpArgs false
set_option linter.unusedVariables false
namespace Go.Proofs
namespace House
open Go Go.RowKit Go.Aev
set_option maxRecDepth 100000
theorem tz72 : szOf Tryz.prog 72 = some 1 := by kernel_rfl
theorem tt72 : inTab Tryz.prog 72 = true := by kernel_rfl
theorem t0_72 : zeroOf Tryz.prog 72 = some (.slice none 0 0) := by kernel_rfl
/-- What is known of the types. -/
theorem TY_EvH39 : type_of% (And.intro (And.intro (And.intro (And.intro (And.intro (And.intro (And.intro Tryz.underlying3 tz3) (And.intro tt3 (And.intro t0_3 Tryz.underlying4))) (And.intro (And.intro tz4 tt4) (And.intro t0_4 (And.intro Tryz.underlying9 tz9)))) (And.intro (And.intro (And.intro tt9 t0_9) (And.intro Tryz.underlying22 (And.intro tz22 tt22))) (And.intro (And.intro t0_22 (And.intro Tryz.underlying23 tz23)) (And.intro tt23 (And.intro t0_23 Tryz.underlying24))))) (And.intro (And.intro (And.intro (And.intro tz24 tt24) (And.intro t0_24 (And.intro Tryz.underlying25 tz25))) (And.intro (And.intro tt25 (And.intro t0_25 Tryz.underlying26)) (And.intro tz26 (And.intro tt26 t0_26)))) (And.intro (And.intro (And.intro Tryz.underlying29 tz29) (And.intro tt29 (And.intro t0_29 Tryz.underlying35))) (And.intro (And.intro tz35 (And.intro tt35 t0_35)) (And.intro Tryz.underlying36 (And.intro tz36 tt36)))))) (And.intro (And.intro (And.intro (And.intro (And.intro t0_36 Tryz.underlying40) (And.intro tz40 (And.intro tt40 t0_40))) (And.intro (And.intro Tryz.underlying47 tz47) (And.intro tt47 (And.intro t0_47 Tryz.underlying50)))) (And.intro (And.intro (And.intro tz50 tt50) (And.intro t0_50 (And.intro Tryz.underlying51 tz51))) (And.intro (And.intro tt51 (And.intro t0_51 Tryz.underlying54)) (And.intro tz54 (And.intro tt54 t0_54))))) (And.intro (And.intro (And.intro (And.intro Tryz.underlying57 tz57) (And.intro tt57 (And.intro t0_57 Tryz.underlying58))) (And.intro (And.intro tz58 (And.intro tt58 t0_58)) (And.intro Tryz.underlying72 (And.intro tz72 tt72)))) (And.intro (And.intro (And.intro t0_72 Tryz.underlying91) (And.intro tz91 (And.intro tt91 t0_91))) (And.intro (And.intro Tryz.underlying92 (And.intro tz92 tt92)) (And.intro t0_92 (And.intro Tryz.underlying93 tz93))))))) (And.intro (And.intro (And.intro (And.intro (And.intro (And.intro tt93 t0_93) (And.intro Tryz.underlying94 (And.intro tz94 tt94))) (And.intro (And.intro t0_94 Tryz.underlying97) (And.intro tz97 (And.intro tt97 t0_97)))) (And.intro (And.intro (And.intro Tryz.underlying98 tz98) (And.intro tt98 (And.intro t0_98 Tryz.underlying109))) (And.intro (And.intro tz109 (And.intro tt109 t0_109)) (And.intro Tryz.underlying110 (And.intro tz110 tt110))))) (And.intro (And.intro (And.intro (And.intro t0_110 Tryz.underlying113) (And.intro tz113 (And.intro tt113 t0_113))) (And.intro (And.intro Tryz.underlying124 (And.intro tz124 tt124)) (And.intro t0_124 (And.intro Tryz.underlying125 tz125)))) (And.intro (And.intro (And.intro tt125 t0_125) (And.intro Tryz.underlying127 (And.intro tz127 tt127))) (And.intro (And.intro t0_127 (And.intro Tryz.underlying128 tz128)) (And.intro tt128 (And.intro t0_128 Tryz.underlying134)))))) (And.intro (And.intro (And.intro (And.intro (And.intro tz134 tt134) (And.intro t0_134 (And.intro Tryz.underlying136 tz136))) (And.intro (And.intro tt136 t0_136) (And.intro Tryz.underlying137 (And.intro tz137 tt137)))) (And.intro (And.intro (And.intro t0_137 Tryz.underlying141) (And.intro tz141 (And.intro tt141 t0_141))) (And.intro (And.intro Tryz.underlying142 (And.intro tz142 tt142)) (And.intro t0_142 (And.intro Tryz.underlying148 tz148))))) (And.intro (And.intro (And.intro (And.intro tt148 t0_148) (And.intro Tryz.underlying149 (And.intro tz149 tt149))) (And.intro (And.intro t0_149 (And.intro Tryz.underlying154 tz154)) (And.intro tt154 (And.intro t0_154 Tryz.underlying168)))) (And.intro (And.intro (And.intro tz168 tt168) (And.intro t0_168 (And.intro Tryz.underlying204 tz204))) (And.intro (And.intro tt204 (And.intro t0_204 Tryz.underlying207)) (And.intro tz207 (And.intro tt207 t0_207)))))))) := (And.intro (And.intro (And.intro (And.intro (And.intro (And.intro (And.intro Tryz.underlying3 tz3) (And.intro tt3 (And.intro t0_3 Tryz.underlying4))) (And.intro (And.intro tz4 tt4) (And.intro t0_4 (And.intro Tryz.underlying9 tz9)))) (And.intro (And.intro (And.intro tt9 t0_9) (And.intro Tryz.underlying22 (And.intro tz22 tt22))) (And.intro (And.intro t0_22 (And.intro Tryz.underlying23 tz23)) (And.intro tt23 (And.intro t0_23 Tryz.underlying24))))) (And.intro (And.intro (And.intro (And.intro tz24 tt24) (And.intro t0_24 (And.intro Tryz.underlying25 tz25))) (And.intro (And.intro tt25 (And.intro t0_25 Tryz.underlying26)) (And.intro tz26 (And.intro tt26 t0_26)))) (And.intro (And.intro (And.intro Tryz.underlying29 tz29) (And.intro tt29 (And.intro t0_29 Tryz.underlying35))) (And.intro (And.intro tz35 (And.intro tt35 t0_35)) (And.intro Tryz.underlying36 (And.intro tz36 tt36)))))) (And.intro (And.intro (And.intro (And.intro (And.intro t0_36 Tryz.underlying40) (And.intro tz40 (And.intro tt40 t0_40))) (And.intro (And.intro Tryz.underlying47 tz47) (And.intro tt47 (And.intro t0_47 Tryz.underlying50)))) (And.intro (And.intro (And.intro tz50 tt50) (And.intro t0_50 (And.intro Tryz.underlying51 tz51))) (And.intro (And.intro tt51 (And.intro t0_51 Tryz.underlying54)) (And.intro tz54 (And.intro tt54 t0_54))))) (And.intro (And.intro (And.intro (And.intro Tryz.underlying57 tz57) (And.intro tt57 (And.intro t0_57 Tryz.underlying58))) (And.intro (And.intro tz58 (And.intro tt58 t0_58)) (And.intro Tryz.underlying72 (And.intro tz72 tt72)))) (And.intro (And.intro (And.intro t0_72 Tryz.underlying91) (And.intro tz91 (And.intro tt91 t0_91))) (And.intro (And.intro Tryz.underlying92 (And.intro tz92 tt92)) (And.intro t0_92 (And.intro Tryz.underlying93 tz93))))))) (And.intro (And.intro (And.intro (And.intro (And.intro (And.intro tt93 t0_93) (And.intro Tryz.underlying94 (And.intro tz94 tt94))) (And.intro (And.intro t0_94 Tryz.underlying97) (And.intro tz97 (And.intro tt97 t0_97)))) (And.intro (And.intro (And.intro Tryz.underlying98 tz98) (And.intro tt98 (And.intro t0_98 Tryz.underlying109))) (And.intro (And.intro tz109 (And.intro tt109 t0_109)) (And.intro Tryz.underlying110 (And.intro tz110 tt110))))) (And.intro (And.intro (And.intro (And.intro t0_110 Tryz.underlying113) (And.intro tz113 (And.intro tt113 t0_113))) (And.intro (And.intro Tryz.underlying124 (And.intro tz124 tt124)) (And.intro t0_124 (And.intro Tryz.underlying125 tz125)))) (And.intro (And.intro (And.intro tt125 t0_125) (And.intro Tryz.underlying127 (And.intro tz127 tt127))) (And.intro (And.intro t0_127 (And.intro Tryz.underlying128 tz128)) (And.intro tt128 (And.intro t0_128 Tryz.underlying134)))))) (And.intro (And.intro (And.intro (And.intro (And.intro tz134 tt134) (And.intro t0_134 (And.intro Tryz.underlying136 tz136))) (And.intro (And.intro tt136 t0_136) (And.intro Tryz.underlying137 (And.intro tz137 tt137)))) (And.intro (And.intro (And.intro t0_137 Tryz.underlying141) (And.intro tz141 (And.intro tt141 t0_141))) (And.intro (And.intro Tryz.underlying142 (And.intro tz142 tt142)) (And.intro t0_142 (And.intro Tryz.underlying148 tz148))))) (And.intro (And.intro (And.intro (And.intro tt148 t0_148) (And.intro Tryz.underlying149 (And.intro tz149 tt149))) (And.intro (And.intro t0_149 (And.intro Tryz.underlying154 tz154)) (And.intro tt154 (And.intro t0_154 Tryz.underlying168)))) (And.intro (And.intro (And.intro tz168 tt168) (And.intro t0_168 (And.intro Tryz.underlying204 tz204))) (And.intro (And.intro tt204 (And.intro t0_204 Tryz.underlying207)) (And.intro tz207 (And.intro tt207 t0_207))))))))
def R119_0 (h : Hs) (a : Int)  : Nat → List Int → Nat → (List Int)
  | 0, sec, k => sec
  | m' + 1, sec, k => (if (k : Int) < ((r106 (⟨h.rooms, [], ((r150 h).ways)⟩ : Hs) a 0).length : Int) then (if (lget sec k) = 1073741824 then R119_0 h a m' (sec.set k (-1)) (k + 1) else R119_0 h a m' sec (k + 1)) else sec)
def r119 (h : Hs) (a : Int) : List Int := R119_0 h a (h.rooms.length + 1) (r106 (⟨h.rooms, [], ((r150 h).ways)⟩ : Hs) a 0) 0
set_option maxHeartbeats 8000000 in
theorem c119 (h : Hs) (a : Int) (hF : Few h) (hV : r59 h = 0) (hf : 0 ≤ a ∧ a < (h.rooms.length : Int)) (S : AS) (v_h_rooms : Value) (hv_h_rooms : LstR S v_h_rooms h.rooms) (v_h_doors : Value) (hv_h_doors : LstR S v_h_doors h.doors) (v_h_ways : Value) (hv_h_ways : Lst S v_h_ways h.ways) :
    ∃ v' S', (evL Tryz.prog E0).call 119 #[.agg #[v_h_rooms, v_h_doors, v_h_ways], .int .i64 a] S = some (v', S') ∧ Agree S S' ∧ Own 3 S.next S' v' (r119 h a) := by
  have qr := hF.r; have qd := hF.d; have qw := hF.w
  generalize hz : (evL Tryz.prog E0).call 119 _ _ = z
  rw [L_call, evCall_said rfl Tryz.func119 rfl (by decide) Tryz.ntmps119 Tryz.results119] at hz
  obtain ⟨S1, e1, n1, b1, a1⟩ := push_open S (.cells [v_h_rooms, v_h_doors, v_h_ways] 26 0 true true)
  have g1 : Agree S S1 := a1
  obtain ⟨u2_0, S2, k2, a2, oo2_0⟩ := c150 h hF S1 (v_h_rooms) (hv_h_rooms.agree g1) (v_h_doors) (hv_h_doors.agree g1) (v_h_ways) (hv_h_ways.agree g1) 
  obtain ⟨pu2_0, nu2_0, cu2_0, rfl⟩ := own_slice oo2_0
  have l2 := a2.1
  have g2 : Agree S S2 := g1.trans a2
  obtain ⟨u3, S3, k3, a3, oo3⟩ := c106 (⟨h.rooms, [], ((r150 h).ways)⟩ : Hs) a 0 (few_150 hF) (v_150 hV) hf (by decide) S2 (v_h_rooms) (hv_h_rooms.agree g2) (.slice none 0 0) (.inl ⟨rfl, .inl rfl⟩) (.slice pu2_0 nu2_0 cu2_0) (oo2_0.rows) 
  have l3 := a3.1
  obtain ⟨pu3, nu3, cu3, rfl⟩ := own_slice oo3
  have ap4 : ∀ b, blkOf (.slice pu2_0 nu2_0 cu2_0) = some b → blkOf (.slice pu3 nu3 cu3) ≠ some b := fun b hb => oo3.ne (Nat.lt_of_lt_of_le (oo2_0.lt hb) (by omega))
  have o2_5 := oo2_0.agree a3
  have g3 : Agree S S3 := g2.trans a3
  have p3 := (show (r106 (⟨h.rooms, [], (r150 h).ways⟩ : Hs) a 0).length = h.rooms.length from r106_len (v_150 hV) (by decide))
  have w6 := (oo3.rows).len (P := Tryz.prog) (t := 54) Tryz.underlying54
  try simp (disch := first | omega | assumption) only [E0_G, SY, setArgs, off, agreeKind, vals, boxed, ldA, rdCells, aggD, Nat.reduceAdd, Nat.reduceSub, Nat.reduceLT, Nat.reduceBEq, TY_EvH39, e1, b1, k2, k3, w6] at hz
  generalize hL7 : Rec.loop _ _ _ _ = L7 at hz
  obtain ⟨x7, t7, S7e, rfl, hQ7⟩ := loop_met hL7 (fun m t S' => ∃ (sec : List Int) (k : Nat), m + k = h.rooms.length + 1 ∧ sec.length = h.rooms.length ∧ k ≤ h.rooms.length ∧ t.get 5 = some (.slice pu3 nu3 cu3) ∧ t.get 12 = some (.slice pu3 nu3 cu3) ∧ t.get 13 = some (.int .i64 ((r106 (⟨h.rooms, [], ((r150 h).ways)⟩ : Hs) a 0).length : Int)) ∧ t.get 14 = some (.int .i64 (k : Int)) ∧ Agree S S' ∧ S3.next ≤ S'.next ∧ Own 3 S2.next S' (.slice pu3 nu3 cu3) sec ∧ R119_0 h a m sec k = R119_0 h a (h.rooms.length + 1) (r106 (⟨h.rooms, [], ((r150 h).ways)⟩ : Hs) a 0) 0)
    (fun x t S' => x = .exit 0 ∧ ∃ (sec : List Int) (k : Nat), t.get 5 = some (.slice pu3 nu3 cu3) ∧ Agree S S' ∧ S3.next ≤ S'.next ∧ Own 3 S2.next S' (.slice pu3 nu3 cu3) sec ∧ sec.length = h.rooms.length ∧ k ≤ h.rooms.length ∧ R119_0 h a (h.rooms.length + 1) (r106 (⟨h.rooms, [], ((r150 h).ways)⟩ : Hs) a 0) 0 = sec) (h.rooms.length + 1) (by refine ⟨(r106 (⟨h.rooms, [], ((r150 h).ways)⟩ : Hs) a 0), 0, ?_, ?_, ?_, ?_, ?_, ?_, ?_, g3, Nat.le_refl _, oo3, rfl⟩ <;> first | (simp only [SY, eq_self, Nat.reduceBEq] <;> rfl) | omega | assumption | (simp; omega) | simp) (by
      rintro m t S7 ⟨sec, k, hi7_0, hi7_1, hi7_2, g7_5, g7_12, g7_13, g7_14, ga7, gn7, ow_sec, hd7⟩
      refine .run fun z he => ?_
      try simp (disch := first | omega | assumption) only [E0_G, SY, off, agreeKind, Nat.reduceLT, Nat.reduceBEq, g7_13, g7_14] at he
      rcases dP ((k : Int) < ((r106 (⟨h.rooms, [], ((r150 h).ways)⟩ : Hs) a 0).length : Int)) with ⟨h8a, h8⟩ | ⟨h8a, h8⟩
      · skip
        have hx9 : sec[k]? = some (lget sec k) := lget_some (by first | omega | simp; omega)
        obtain ⟨id9, of9, cc9, ty9, wr9, ex9, i9, j9, l9, q9, lb9, bk9, oq9⟩ := ow_sec.at4 (P := Tryz.prog) (t := 54) Tryz.underlying54 tz3 hx9
        have m9_0 : cc9[of9]? = some (.int .i64 (lget sec k)) := q9 0 (show 0 < 1 by decide)
        try simp (disch := first | omega | assumption) only [E0_G, SY, off, agreeKind, ldA, aggD, Nat.reduceAdd, Nat.reduceLT, Nat.reduceBEq, TY_EvH39, g7_12, g7_14, h8a, i9, j9, m9_0] at he
        rcases dP ((lget sec k) = 1073741824) with ⟨h10a, h10⟩ | ⟨h10a, h10⟩
        · skip
          obtain ⟨id11, of11, cc11, ty11, wr11, ex11, i11, j11, l11, q11, lb11, bk11, oq11⟩ := ow_sec.at4 (P := Tryz.prog) (t := 54) Tryz.underlying54 tz3 hx9
          obtain rfl : id9 = id11 := Option.some.inj (bk9.symm.trans bk11)
          obtain rfl : of9 = of11 := oq9.trans oq11.symm
          have m11_0 : cc11[of9]? = some (.int .i64 (lget sec k)) := q11 0 (show 0 < 1 by decide)
          obtain ⟨S12, k12, n12, o12, q12⟩ := ow_sec.put1 (P := Tryz.prog) (lget_some (l := sec) (by first | omega | simp; omega)) bk11 oq11 3 (.int .i64 (-1)) 0 (-1) tz3 rfl rfl (by decide) rfl
          replace k12 : stA Tryz.prog 3 ⟨id9, of9, none⟩ (.int .i64 (-1)) S7 = some S12 := k12
          have g12 : Agree S S12 := ⟨by have := (ga7).1; omega, fun id hid => (q12 id (fun e => (show blkOf (.slice pu3 nu3 cu3) ≠ some id from ow_sec.ne (by omega)) (e ▸ bk11))).trans ((ga7).2 id hid)⟩
          have w13 : IntKind.i64.wrap ((k : Int) + 1) = ((k + 1 : Nat) : Int) := by rw [IntWalk.i64_in] <;> omega
          try simp (disch := first | omega | assumption) only [E0_G, SY, off, agreeKind, Nat.reduceAdd, Nat.reduceLT, Nat.reduceBEq, g7_5, g7_14, i9, h10a, k12, w13] at he
          obtain ⟨m', rfl⟩ : ∃ m', m = m' + 1 := ⟨m - 1, by omega⟩
          have hf := (show _ = (R119_0 h a m' (sec.set k (-1)) (k + 1) : (List Int)) from (if_pos h8).trans ((if_pos h10).trans (rfl))).symm.trans hd7
          refine .next he m' (by omega) ⟨sec.set k (-1), (k + 1), ?_, ?_, ?_, ?_, ?_, ?_, ?_, g12, by omega, o12, hf⟩ <;> first | (simp only [SY, eq_self, Nat.reduceBEq, g7_5, g7_12, g7_13, g7_14] <;> rfl) | omega | assumption | (simp; omega) | simp
        · skip
          have w14 : IntKind.i64.wrap ((k : Int) + 1) = ((k + 1 : Nat) : Int) := by rw [IntWalk.i64_in] <;> omega
          try simp (disch := first | omega | assumption) only [E0_G, SY, off, agreeKind, Nat.reduceAdd, Nat.reduceLT, Nat.reduceBEq, g7_14, h10a, w14] at he
          obtain ⟨m', rfl⟩ : ∃ m', m = m' + 1 := ⟨m - 1, by omega⟩
          have hf := (show _ = (R119_0 h a m' sec (k + 1) : (List Int)) from (if_pos h8).trans ((if_neg h10).trans (rfl))).symm.trans hd7
          refine .next he m' (by omega) ⟨sec, (k + 1), ?_, ?_, ?_, ?_, ?_, ?_, ?_, ga7, by omega, ow_sec, hf⟩ <;> first | (simp only [SY, eq_self, Nat.reduceBEq, g7_5, g7_12, g7_13, g7_14] <;> rfl) | omega | assumption | (simp; omega) | simp
      · skip
        try simp (disch := first | omega | assumption) only [SY, h8a] at he
        obtain ⟨m', rfl⟩ : ∃ m', m = m' + 1 := ⟨m - 1, by omega⟩
        have hf := (show _ = (sec : (List Int)) from (if_neg h8).trans (rfl)).symm.trans hd7
        refine .exit he ⟨rfl, ⟨sec, k, ?_, ga7, by omega, ow_sec, ?_, ?_, hf.symm⟩⟩ <;> first | (simp only [SY, eq_self, Nat.reduceBEq, g7_5] <;> rfl) | omega | assumption | (simp; omega) | simp)
  obtain ⟨rfl, sec, k, ge7_5, ge7, gm7, oe_sec7, hj7_0, hj7_1, hR7⟩ := hQ7
  obtain rfl : sec = R119_0 h a (h.rooms.length + 1) (r106 (⟨h.rooms, [], ((r150 h).ways)⟩ : Hs) a 0) 0 := hR7.symm
  try simp (disch := first | omega | assumption) only [E0_G, SY, off, agreeKind, eq_self, if_true, Nat.reduceAdd, Nat.reduceLT, Nat.reduceBEq, ge7_5] at hz
  have hr : r119 h a = R119_0 h a (h.rooms.length + 1) (r106 (⟨h.rooms, [], ((r150 h).ways)⟩ : Hs) a 0) 0 := rfl
  exact ⟨.slice pu3 nu3 cu3, S7e, by first | (rw [hr]; exact hz.symm) | exact hz.symm, ge7, by rw [hr]; exact oe_sec7.low (by omega)⟩

def R60_0 (h : Hs) (a : Int)  : Nat → List Int → Nat → (List Int)
  | 0, sec, k => sec
  | m' + 1, sec, k => (if (k : Int) < (sec.length : Int) then (if (lget sec k) = 1073741824 then R60_0 h a m' (sec.set k (-1)) (k + 1) else R60_0 h a m' sec (k + 1)) else sec)
def r60 (h : Hs) (a : Int) : List Int := R60_0 h a (h.rooms.length + 1) (r50 (⟨h.rooms, [], ((r120 h).ways)⟩ : Hs) a 0) 0
set_option maxHeartbeats 8000000 in
theorem c60 (h : Hs) (a : Int) (hF : Few h) (hV : r59 h = 0) (hf : 0 ≤ a ∧ a < (h.rooms.length : Int)) (S : AS) (v_h_rooms : Value) (hv_h_rooms : LstR S v_h_rooms h.rooms) (v_h_doors : Value) (hv_h_doors : LstR S v_h_doors h.doors) (v_h_ways : Value) (hv_h_ways : Lst S v_h_ways h.ways) :
    ∃ v' S', (evL Tryz.prog E0).call 60 #[.agg #[v_h_rooms, v_h_doors, v_h_ways], .int .i64 a] S = some (v', S') ∧ Agree S S' ∧ Own 3 S.next S' v' (r60 h a) := by
  have qr := hF.r; have qd := hF.d; have qw := hF.w
  generalize hz : (evL Tryz.prog E0).call 60 _ _ = z
  rw [L_call, evCall_said rfl Tryz.func60 rfl (by decide) Tryz.ntmps60 Tryz.results60] at hz
  obtain ⟨S1, e1, n1, b1, a1⟩ := push_open S (.cells [v_h_rooms, v_h_doors, v_h_ways] 26 0 true true)
  have g1 : Agree S S1 := a1
  obtain ⟨u2_0, S2, k2, a2, oo2_0⟩ := c120 h hF S1 (v_h_rooms) (hv_h_rooms.agree g1) (v_h_doors) (hv_h_doors.agree g1) (v_h_ways) (hv_h_ways.agree g1) 
  obtain ⟨pu2_0, nu2_0, cu2_0, rfl⟩ := own_slice oo2_0
  have l2 := a2.1
  have g2 : Agree S S2 := g1.trans a2
  obtain ⟨S3, e3, n3, b3, a3⟩ := push_open S2 (.cells [.slice none 0 0, .slice none 0 0, .slice none 0 0] 26 0 true true)
  have o2_4 := oo2_0.agree a3
  have g3 : Agree S S3 := g2.trans a3
  have ne5 : blkOf (.slice pu2_0 nu2_0 cu2_0) ≠ some S2.next := oo2_0.new (Nat.le_refl _)
  obtain ⟨S6, k6, n6, b6, q6⟩ := st_at (o := 0) (c' := [v_h_rooms, .slice none 0 0, .slice pu2_0 nu2_0 cu2_0]) (v := .agg #[v_h_rooms, .slice none 0 0, .slice pu2_0 nu2_0 cu2_0]) tz26 b3 (by obtain ⟨p0_, n0_, c0_, e0_⟩ := (hv_h_rooms).form; rw [e0_]; rfl) rfl (show 0 + 3 ≤ 3 by decide) rfl
  have o2_7 := o2_4.frame (by omega) (fun id hid hb => q6 id (fun e => (show blkOf (.slice pu2_0 nu2_0 cu2_0) ≠ some S2.next from by first | exact o2_4.ne (by omega) | exact o2_4.new (by omega) | assumption) (e ▸ hb)))
  have g6 : Agree S S6 := ⟨by have := (g3).1; omega, fun id hid => (q6 id (by have := (g3).1; omega)).trans ((g3).2 id hid)⟩
  obtain ⟨u8, S8, k8, a8, oo8⟩ := c50 (⟨h.rooms, [], ((r120 h).ways)⟩ : Hs) a 0 (few_120 hF) (v_120 hV) hf (by decide) S6 (v_h_rooms) (hv_h_rooms.agree g6) (.slice none 0 0) (.inl ⟨rfl, .inl rfl⟩) (.slice pu2_0 nu2_0 cu2_0) (o2_7.rows) 
  have l8 := a8.1
  obtain ⟨pu8, nu8, cu8, rfl⟩ := own_slice oo8
  have ap9 : ∀ b, blkOf (.slice pu2_0 nu2_0 cu2_0) = some b → blkOf (.slice pu8 nu8 cu8) ≠ some b := fun b hb => oo8.ne (Nat.lt_of_lt_of_le (o2_7.lt hb) (by omega))
  have o2_10 := o2_7.agree a8
  have g8 : Agree S S8 := g6.trans a8
  have p8 := (show (r50 (⟨h.rooms, [], (r120 h).ways⟩ : Hs) a 0).length = h.rooms.length from r50_len _ _ _)
  try simp (disch := first | omega | assumption) only [E0_G, SY, setArgs, off, agreeKind, vals, allocV, boxed, ldA, rdCells, aggD, Nat.reduceAdd, Nat.reduceSub, Nat.reduceLT, Nat.reduceBEq, TY_EvH39, e1, b1, k2, e3, k6, b6, k8] at hz
  generalize hL11 : Rec.loop _ _ _ _ = L11 at hz
  obtain ⟨x11, t11, S11e, rfl, hQ11⟩ := loop_met hL11 (fun m t S' => ∃ (sec : List Int) (k : Nat), m + k = h.rooms.length + 1 ∧ sec.length = h.rooms.length ∧ k ≤ h.rooms.length ∧ t.get 6 = some (.slice pu8 nu8 cu8) ∧ t.get 7 = some (.int .i64 (k : Int)) ∧ Agree S S' ∧ S8.next ≤ S'.next ∧ Own 3 S6.next S' (.slice pu8 nu8 cu8) sec ∧ R60_0 h a m sec k = R60_0 h a (h.rooms.length + 1) (r50 (⟨h.rooms, [], ((r120 h).ways)⟩ : Hs) a 0) 0)
    (fun x t S' => x = .exit 0 ∧ ∃ (sec : List Int) (k : Nat), t.get 6 = some (.slice pu8 nu8 cu8) ∧ Agree S S' ∧ S8.next ≤ S'.next ∧ Own 3 S6.next S' (.slice pu8 nu8 cu8) sec ∧ sec.length = h.rooms.length ∧ k ≤ h.rooms.length ∧ R60_0 h a (h.rooms.length + 1) (r50 (⟨h.rooms, [], ((r120 h).ways)⟩ : Hs) a 0) 0 = sec) (h.rooms.length + 1) (by refine ⟨(r50 (⟨h.rooms, [], ((r120 h).ways)⟩ : Hs) a 0), 0, ?_, ?_, ?_, ?_, ?_, g8, Nat.le_refl _, oo8, rfl⟩ <;> first | (simp only [SY, eq_self, Nat.reduceBEq] <;> rfl) | omega | assumption | (simp; omega) | simp) (by
      rintro m t S11 ⟨sec, k, hi11_0, hi11_1, hi11_2, g11_6, g11_7, ga11, gn11, ow_sec, hd11⟩
      refine .run fun z he => ?_
      have w12 := (ow_sec.rows).len (P := Tryz.prog) (t := 54) Tryz.underlying54
      try simp (disch := first | omega | assumption) only [E0_G, SY, off, agreeKind, Nat.reduceAdd, Nat.reduceLT, Nat.reduceBEq, g11_6, g11_7, w12] at he
      rcases dP ((k : Int) < (sec.length : Int)) with ⟨h13a, h13⟩ | ⟨h13a, h13⟩
      · skip
        have hx14 : sec[k]? = some (lget sec k) := lget_some (by first | omega | simp; omega)
        obtain ⟨id14, of14, cc14, ty14, wr14, ex14, i14, j14, l14, q14, lb14, bk14, oq14⟩ := ow_sec.at4 (P := Tryz.prog) (t := 54) Tryz.underlying54 tz3 hx14
        have m14_0 : cc14[of14]? = some (.int .i64 (lget sec k)) := q14 0 (show 0 < 1 by decide)
        try simp (disch := first | omega | assumption) only [E0_G, SY, off, agreeKind, ldA, aggD, Nat.reduceAdd, Nat.reduceLT, Nat.reduceBEq, TY_EvH39, g11_6, g11_7, h13a, i14, j14, m14_0] at he
        rcases dP ((lget sec k) = 1073741824) with ⟨h15a, h15⟩ | ⟨h15a, h15⟩
        · skip
          obtain ⟨id16, of16, cc16, ty16, wr16, ex16, i16, j16, l16, q16, lb16, bk16, oq16⟩ := ow_sec.at4 (P := Tryz.prog) (t := 54) Tryz.underlying54 tz3 hx14
          obtain rfl : id14 = id16 := Option.some.inj (bk14.symm.trans bk16)
          obtain rfl : of14 = of16 := oq14.trans oq16.symm
          have m16_0 : cc16[of14]? = some (.int .i64 (lget sec k)) := q16 0 (show 0 < 1 by decide)
          obtain ⟨S17, k17, n17, o17, q17⟩ := ow_sec.put1 (P := Tryz.prog) (lget_some (l := sec) (by first | omega | simp; omega)) bk16 oq16 3 (.int .i64 (-1)) 0 (-1) tz3 rfl rfl (by decide) rfl
          replace k17 : stA Tryz.prog 3 ⟨id14, of14, none⟩ (.int .i64 (-1)) S11 = some S17 := k17
          have g17 : Agree S S17 := ⟨by have := (ga11).1; omega, fun id hid => (q17 id (fun e => (show blkOf (.slice pu8 nu8 cu8) ≠ some id from ow_sec.ne (by omega)) (e ▸ bk16))).trans ((ga11).2 id hid)⟩
          have w18 : IntKind.i64.wrap ((k : Int) + 1) = ((k + 1 : Nat) : Int) := by rw [IntWalk.i64_in] <;> omega
          try simp (disch := first | omega | assumption) only [E0_G, SY, off, agreeKind, Nat.reduceAdd, Nat.reduceLT, Nat.reduceBEq, g11_6, g11_7, i14, h15a, k17, w18] at he
          obtain ⟨m', rfl⟩ : ∃ m', m = m' + 1 := ⟨m - 1, by omega⟩
          have hf := (show _ = (R60_0 h a m' (sec.set k (-1)) (k + 1) : (List Int)) from (if_pos h13).trans ((if_pos h15).trans (rfl))).symm.trans hd11
          refine .next he m' (by omega) ⟨sec.set k (-1), (k + 1), ?_, ?_, ?_, ?_, ?_, g17, by omega, o17, hf⟩ <;> first | (simp only [SY, eq_self, Nat.reduceBEq, g11_6, g11_7] <;> rfl) | omega | assumption | (simp; omega) | simp
        · skip
          have w19 : IntKind.i64.wrap ((k : Int) + 1) = ((k + 1 : Nat) : Int) := by rw [IntWalk.i64_in] <;> omega
          try simp (disch := first | omega | assumption) only [E0_G, SY, off, agreeKind, Nat.reduceAdd, Nat.reduceLT, Nat.reduceBEq, g11_7, h15a, w19] at he
          obtain ⟨m', rfl⟩ : ∃ m', m = m' + 1 := ⟨m - 1, by omega⟩
          have hf := (show _ = (R60_0 h a m' sec (k + 1) : (List Int)) from (if_pos h13).trans ((if_neg h15).trans (rfl))).symm.trans hd11
          refine .next he m' (by omega) ⟨sec, (k + 1), ?_, ?_, ?_, ?_, ?_, ga11, by omega, ow_sec, hf⟩ <;> first | (simp only [SY, eq_self, Nat.reduceBEq, g11_6, g11_7] <;> rfl) | omega | assumption | (simp; omega) | simp
      · skip
        try simp (disch := first | omega | assumption) only [SY, h13a] at he
        obtain ⟨m', rfl⟩ : ∃ m', m = m' + 1 := ⟨m - 1, by omega⟩
        have hf := (show _ = (sec : (List Int)) from (if_neg h13).trans (rfl)).symm.trans hd11
        refine .exit he ⟨rfl, ⟨sec, k, ?_, ga11, by omega, ow_sec, ?_, ?_, hf.symm⟩⟩ <;> first | (simp only [SY, eq_self, Nat.reduceBEq, g11_6] <;> rfl) | omega | assumption | (simp; omega) | simp)
  obtain ⟨rfl, sec, k, ge11_6, ge11, gm11, oe_sec11, hj11_0, hj11_1, hR11⟩ := hQ11
  obtain rfl : sec = R60_0 h a (h.rooms.length + 1) (r50 (⟨h.rooms, [], ((r120 h).ways)⟩ : Hs) a 0) 0 := hR11.symm
  try simp (disch := first | omega | assumption) only [E0_G, SY, off, agreeKind, eq_self, if_true, Nat.reduceAdd, Nat.reduceLT, Nat.reduceBEq, ge11_6] at hz
  have hr : r60 h a = R60_0 h a (h.rooms.length + 1) (r50 (⟨h.rooms, [], ((r120 h).ways)⟩ : Hs) a 0) 0 := rfl
  exact ⟨.slice pu8 nu8 cu8, S11e, by first | (rw [hr]; exact hz.symm) | exact hz.symm, ge11, by rw [hr]; exact oe_sec11.low (by omega)⟩


theorem R119_len (h : Hs) (a : Int) : ∀ (m : Nat) (sec : List Int) (k : Nat), (R119_0 h a m sec k).length = sec.length := by
  intro m
  induction m with
  | zero => intro sec k; rfl
  | succ m ih =>
    intro sec k
    rw [R119_0]
    repeat' split
    all_goals first | rfl | (rw [ih]; done) | (rw [ih, List.length_set])

theorem R60_len (h : Hs) (a : Int) : ∀ (m : Nat) (sec : List Int) (k : Nat), (R60_0 h a m sec k).length = sec.length := by
  intro m
  induction m with
  | zero => intro sec k; rfl
  | succ m ih =>
    intro sec k
    rw [R60_0]
    repeat' split
    all_goals first | rfl | (rw [ih]; done) | (rw [ih, List.length_set])

theorem r119_len {h : Hs} (hV : r59 h = 0) (a : Int) : (r119 h a).length = h.rooms.length := (R119_len h a _ _ _).trans (r106_len (v_150 hV) (by decide))
theorem r60_len (h : Hs) (a : Int) : (r60 h a).length = h.rooms.length := (R60_len h a _ _ _).trans (r50_len _ _ _)

def r56 (h : Hs) (a : Int) (b : Int) : Int × Int := (if (r102 h a) = true then (if (r84 h (r102 h b)) = 0 then (if (lget (r119 h a) (Int.toNat b)) < 0 then (0, 5) else ((lget (r119 h a) (Int.toNat b)), 0)) else (0, (r84 h (r102 h b)))) else (0, (r84 h false)))
set_option maxHeartbeats 8000000 in
theorem c56 (h : Hs) (a : Int) (b : Int) (hF : Few h) (hs : ∀ x ∈ h.rooms, x.name.size ≤ 9223372036854775807) (S : AS) (v_h_rooms : Value) (hv_h_rooms : LstR S v_h_rooms h.rooms) (v_h_doors : Value) (hv_h_doors : LstR S v_h_doors h.doors) (v_h_ways : Value) (hv_h_ways : Lst S v_h_ways h.ways) :
    ∃ S', (evL Tryz.prog E0).call 56 #[.agg #[v_h_rooms, v_h_doors, v_h_ways], .int .i64 a, .int .i64 b] S = some (.tuple #[.int .i64 (r56 h a b).1, .int .i64 (r56 h a b).2], S') ∧ Agree S S' := by
  have qr := hF.r; have qd := hF.d; have qw := hF.w
  generalize hz : (evL Tryz.prog E0).call 56 _ _ = z
  rw [L_call, evCall_said rfl Tryz.func56 rfl (by decide) Tryz.ntmps56 Tryz.results56] at hz
  obtain ⟨S1, e1, n1, b1, a1⟩ := push_open S (.cells [v_h_rooms, v_h_doors, v_h_ways] 26 0 true true)
  have g1 : Agree S S1 := a1
  have s1 : E0.same S S1 = true := symEnv_same a1
  try simp (disch := first | omega | assumption) only [E0_G, SY, setArgs, off, agreeKind, boxed, Nat.reduceAdd, Nat.reduceSub, Nat.reduceLT, Nat.reduceBEq, e1] at hz
  rw [code_draws _ _ _ (by kernel_rfl)] at hz
  generalize hnd2 : needy _ = nd2 at hz
  obtain ⟨S3, k3, a3⟩ := c102 h a  S1 (v_h_rooms) (hv_h_rooms.agree g1) (v_h_doors) (hv_h_doors.agree g1) (v_h_ways) (hv_h_ways.agree g1) 
  have l3 := a3.1
  have s3 : E0.same S1 S3 = true := symEnv_same a3
  have v1_3 := (a3.2 S.next (by omega)).trans b1
  have g3 : Agree S S3 := g1.trans a3
  try simp (disch := first | omega | assumption) only [E0_G, SY, agreeKind, vals, ldA, rdCells, aggD, Nat.reduceAdd, Nat.reduceLT, Nat.reduceBEq, TY_EvH39, b1, store_agree, store_refl E0_same, k3] at hz
  rcases dB ((r102 h a)) with ⟨h4a, h4⟩ | ⟨h4a, h4⟩
  · skip
    have lq5 := r102_iff.1 h4
    obtain ⟨S6, k6, a6⟩ := c102 h b  S3 (v_h_rooms) (hv_h_rooms.agree g3) (v_h_doors) (hv_h_doors.agree g3) (v_h_ways) (hv_h_ways.agree g3) 
    have l6 := a6.1
    have s6 : E0.same S3 S6 = true := symEnv_same a6
    have v1_6 := (a6.2 S.next (by omega)).trans v1_3
    have g6 : Agree S S6 := g3.trans a6
    obtain ⟨S7, k7, a7⟩ := c84 h (r102 h b) hF hs S6 (v_h_rooms) (hv_h_rooms.agree g6) (v_h_doors) (hv_h_doors.agree g6) (v_h_ways) (hv_h_ways.agree g6) 
    have l7 := a7.1
    have s7 : E0.same S6 S7 = true := symEnv_same a7
    have v1_7 := (a7.2 S.next (by omega)).trans v1_6
    have g7 : Agree S S7 := g6.trans a7
    try simp (disch := first | omega | assumption) only [E0_G, SY, off, agreeKind, vals, ldA, rdCells, aggD, Nat.reduceAdd, Nat.reduceLT, Nat.reduceBEq, TY_EvH39, store_agree, store_refl E0_same, v1_3, h4a, k6, k7] at hz
    rcases dP ((r84 h (r102 h b)) = 0) with ⟨h8a, h8⟩ | ⟨h8a, h8⟩
    · skip
      have hV := (r84_ok h8).1
      have lq9 := r102_iff.1 (r84_ok h8).2
      have lq10 := r102_iff.1 (r84_ok h8).2
      obtain ⟨u11, S11, k11, a11, oo11⟩ := c119 h a hF hV (by omega) S7 (v_h_rooms) (hv_h_rooms.agree g7) (v_h_doors) (hv_h_doors.agree g7) (v_h_ways) (hv_h_ways.agree g7) 
      have l11 := a11.1
      obtain ⟨pu11, nu11, cu11, rfl⟩ := own_slice oo11
      have s11 : E0.same S7 S11 = true := symEnv_same a11
      have g11 : Agree S S11 := g7.trans a11
      have p11 := r119_len hV a
      have qz12 : ((Int.toNat b : Nat) : Int) = b := Int.toNat_of_nonneg (by first | omega | simp; omega)
      have hx13 : (r119 h a)[(Int.toNat b)]? = some (lget (r119 h a) (Int.toNat b)) := lget_some (by first | omega | simp; omega)
      obtain ⟨id13, of13, cc13, ty13, wr13, ex13, i13, j13, l13, q13, lb13, bk13, oq13⟩ := oo11.at4 (P := Tryz.prog) (t := 54) Tryz.underlying54 tz3 hx13
      have m13_0 : cc13[of13]? = some (.int .i64 (lget (r119 h a) (Int.toNat b))) := q13 0 (show 0 < 1 by decide)
      rw [qz12] at i13
      try simp (disch := first | omega | assumption) only [E0_G, SY, off, agreeKind, vals, ldA, rdCells, aggD, Nat.reduceAdd, Nat.reduceLT, Nat.reduceBEq, TY_EvH39, store_agree, store_refl E0_same, v1_7, h8a, k11, i13, j13, m13_0] at hz
      rcases dP ((lget (r119 h a) (Int.toNat b)) < 0) with ⟨h14a, h14⟩ | ⟨h14a, h14⟩
      · skip
        try simp (disch := first | omega | assumption) only [E0_G, SY, off, agreeKind, Nat.reduceAdd, Nat.reduceLT, Nat.reduceBEq, store_refl E0_same, h14a] at hz
        have hr : r56 h a b = (0, 5) := (if_pos h4).trans ((if_pos h8).trans ((if_pos h14).trans (rfl)))
        exact fin hz (by rw [hr]) g11
      · skip
        try simp (disch := first | omega | assumption) only [E0_G, SY, off, agreeKind, Nat.reduceAdd, Nat.reduceLT, Nat.reduceBEq, store_refl E0_same, h14a] at hz
        have hr : r56 h a b = ((lget (r119 h a) (Int.toNat b)), 0) := (if_pos h4).trans ((if_pos h8).trans ((if_neg h14).trans (rfl)))
        exact fin hz (by rw [hr]) g11
    · skip
      try simp (disch := first | omega | assumption) only [E0_G, SY, off, agreeKind, Nat.reduceAdd, Nat.reduceLT, Nat.reduceBEq, store_refl E0_same, h8a] at hz
      have hr : r56 h a b = (0, (r84 h (r102 h b))) := (if_pos h4).trans ((if_neg h8).trans (rfl))
      exact fin hz (by rw [hr]) g7
  · skip
    obtain ⟨S15, k15, a15⟩ := c84 h false hF hs S3 (v_h_rooms) (hv_h_rooms.agree g3) (v_h_doors) (hv_h_doors.agree g3) (v_h_ways) (hv_h_ways.agree g3) 
    have l15 := a15.1
    have s15 : E0.same S3 S15 = true := symEnv_same a15
    have g15 : Agree S S15 := g3.trans a15
    try simp (disch := first | omega | assumption) only [E0_G, SY, off, agreeKind, vals, Nat.reduceAdd, Nat.reduceLT, Nat.reduceBEq, store_agree, store_refl E0_same, h4a, k15] at hz
    have h16 : ¬ ((r84 h false) = 0) := r84_false
    have h16a := decide_eq_false h16
    try simp (disch := first | omega | assumption) only [E0_G, SY, off, agreeKind, Nat.reduceAdd, Nat.reduceLT, Nat.reduceBEq, store_refl E0_same, h16a] at hz
    have hr : r56 h a b = (0, (r84 h false)) := (if_neg h4).trans (rfl)
    exact fin hz (by rw [hr]) g15

def r57 (h : Hs) (a : Int) (b : Int) : Int × Int := (if (r49 h a 0 b 0) = 0 then (if (lget (r60 h a) (Int.toNat b)) < 0 then (0, 5) else ((lget (r60 h a) (Int.toNat b)), 0)) else (0, (r49 h a 0 b 0)))
set_option maxHeartbeats 8000000 in
theorem c57 (h : Hs) (a : Int) (b : Int) (hF : Few h) (S : AS) (v_h_rooms : Value) (hv_h_rooms : LstR S v_h_rooms h.rooms) (v_h_doors : Value) (hv_h_doors : LstR S v_h_doors h.doors) (v_h_ways : Value) (hv_h_ways : Lst S v_h_ways h.ways) :
    ∃ S', (evL Tryz.prog E0).call 57 #[.agg #[v_h_rooms, v_h_doors, v_h_ways], .int .i64 a, .int .i64 b] S = some (.tuple #[.int .i64 (r57 h a b).1, .int .i64 (r57 h a b).2], S') ∧ Agree S S' := by
  have qr := hF.r; have qd := hF.d; have qw := hF.w
  generalize hz : (evL Tryz.prog E0).call 57 _ _ = z
  rw [L_call, evCall_said rfl Tryz.func57 rfl (by decide) Tryz.ntmps57 Tryz.results57] at hz
  obtain ⟨S1, e1, n1, b1, a1⟩ := push_open S (.cells [v_h_rooms, v_h_doors, v_h_ways] 26 0 true true)
  have g1 : Agree S S1 := a1
  obtain ⟨S2, k2, a2⟩ := c49 h a 0 b 0 hF S1 (v_h_rooms) (hv_h_rooms.agree g1) (v_h_doors) (hv_h_doors.agree g1) (v_h_ways) (hv_h_ways.agree g1) 
  have l2 := a2.1
  have v1_2 := (a2.2 S.next (by omega)).trans b1
  have g2 : Agree S S2 := g1.trans a2
  try simp (disch := first | omega | assumption) only [E0_G, SY, setArgs, off, agreeKind, vals, boxed, ldA, rdCells, aggD, Nat.reduceAdd, Nat.reduceSub, Nat.reduceLT, Nat.reduceBEq, TY_EvH39, e1, b1, k2] at hz
  rcases dP ((r49 h a 0 b 0) = 0) with ⟨h3a, h3⟩ | ⟨h3a, h3⟩
  · skip
    have hV := (r49_ok h3).1
    have lq4 := (r49_ok h3).2
    have hV := (r49_ok h3).1
    have lq5 := (r49_ok h3).2
    obtain ⟨u6, S6, k6, a6, oo6⟩ := c60 h a hF hV (by omega) S2 (v_h_rooms) (hv_h_rooms.agree g2) (v_h_doors) (hv_h_doors.agree g2) (v_h_ways) (hv_h_ways.agree g2) 
    have l6 := a6.1
    obtain ⟨pu6, nu6, cu6, rfl⟩ := own_slice oo6
    have g6 : Agree S S6 := g2.trans a6
    have p6 := r60_len h a
    have qz7 : ((Int.toNat b : Nat) : Int) = b := Int.toNat_of_nonneg (by first | omega | simp; omega)
    have hx8 : (r60 h a)[(Int.toNat b)]? = some (lget (r60 h a) (Int.toNat b)) := lget_some (by first | omega | simp; omega)
    obtain ⟨id8, of8, cc8, ty8, wr8, ex8, i8, j8, l8, q8, lb8, bk8, oq8⟩ := oo6.at4 (P := Tryz.prog) (t := 54) Tryz.underlying54 tz3 hx8
    have m8_0 : cc8[of8]? = some (.int .i64 (lget (r60 h a) (Int.toNat b))) := q8 0 (show 0 < 1 by decide)
    rw [qz7] at i8
    try simp (disch := first | omega | assumption) only [E0_G, SY, off, agreeKind, vals, ldA, rdCells, aggD, Nat.reduceAdd, Nat.reduceLT, Nat.reduceBEq, TY_EvH39, v1_2, h3a, k6, i8, j8, m8_0] at hz
    rcases dP ((lget (r60 h a) (Int.toNat b)) < 0) with ⟨h9a, h9⟩ | ⟨h9a, h9⟩
    · skip
      try simp (disch := first | omega | assumption) only [E0_G, SY, off, agreeKind, Nat.reduceAdd, Nat.reduceLT, Nat.reduceBEq, h9a] at hz
      have hr : r57 h a b = (0, 5) := (if_pos h3).trans ((if_pos h9).trans (rfl))
      exact fin hz (by rw [hr]) g6
    · skip
      have qz10 : ((Int.toNat b : Nat) : Int) = b := Int.toNat_of_nonneg (by first | omega | simp; omega)
      obtain ⟨id11, of11, cc11, ty11, wr11, ex11, i11, j11, l11, q11, lb11, bk11, oq11⟩ := oo6.at4 (P := Tryz.prog) (t := 54) Tryz.underlying54 tz3 hx8
      obtain rfl : id8 = id11 := Option.some.inj (bk8.symm.trans bk11)
      obtain rfl : of8 = of11 := oq8.trans oq11.symm
      have m11_0 : cc11[of8]? = some (.int .i64 (lget (r60 h a) (Int.toNat b))) := q11 0 (show 0 < 1 by decide)
      rw [qz10] at i11
      try simp (disch := first | omega | assumption) only [E0_G, SY, off, agreeKind, ldA, aggD, Nat.reduceAdd, Nat.reduceLT, Nat.reduceBEq, TY_EvH39, i8, j8, m8_0, h9a] at hz
      have hr : r57 h a b = ((lget (r60 h a) (Int.toNat b)), 0) := (if_pos h3).trans ((if_neg h9).trans (rfl))
      exact fin hz (by rw [hr]) g6
  · skip
    try simp (disch := first | omega | assumption) only [E0_G, SY, off, agreeKind, Nat.reduceAdd, Nat.reduceLT, Nat.reduceBEq, h3a] at hz
    have hr : r57 h a b = (0, (r49 h a 0 b 0)) := (if_neg h3).trans (rfl)
    exact fin hz (by rw [hr]) g2

def R58_0 (h : Hs)  : Nat → List (List Int) → Nat → (List (List Int))
  | 0, rows, k => rows
  | m' + 1, rows, k => (if (k : Int) < (h.rooms.length : Int) then R58_0 h m' (rows ++ ([(r119 h (k : Int))])) (k + 1) else rows)
def r58 (h : Hs) : List (List Int) × Int := (if (r84 h true) = 0 then (R58_0 h (h.rooms.length + 1) ([]) 0, 0) else ([], (r84 h true)))
set_option maxHeartbeats 8000000 in
theorem c58 (h : Hs) (hF : Few h) (hs : ∀ x ∈ h.rooms, x.name.size ≤ 9223372036854775807) (S : AS) (v_h_rooms : Value) (hv_h_rooms : LstR S v_h_rooms h.rooms) (v_h_doors : Value) (hv_h_doors : LstR S v_h_doors h.doors) (v_h_ways : Value) (hv_h_ways : Lst S v_h_ways h.ways) :
    ∃ v' S', (evL Tryz.prog E0).call 58 #[.agg #[v_h_rooms, v_h_doors, v_h_ways]] S = some (.tuple #[v', .int .i64 (r58 h).2], S') ∧ Agree S S' ∧ OwnL 54 3 S.next S' v' (r58 h).1 := by
  have qr := hF.r; have qd := hF.d; have qw := hF.w
  generalize hz : (evL Tryz.prog E0).call 58 _ _ = z
  rw [L_call, evCall_said rfl Tryz.func58 rfl (by decide) Tryz.ntmps58 Tryz.results58] at hz
  obtain ⟨S1, e1, n1, b1, a1⟩ := push_open S (.cells [v_h_rooms, v_h_doors, v_h_ways] 26 0 true true)
  have g1 : Agree S S1 := a1
  obtain ⟨S2, k2, a2⟩ := c84 h true hF hs S1 (v_h_rooms) (hv_h_rooms.agree g1) (v_h_doors) (hv_h_doors.agree g1) (v_h_ways) (hv_h_ways.agree g1) 
  have l2 := a2.1
  have v1_2 := (a2.2 S.next (by omega)).trans b1
  have g2 : Agree S S2 := g1.trans a2
  try simp (disch := first | omega | assumption) only [E0_G, SY, setArgs, off, agreeKind, vals, boxed, ldA, rdCells, aggD, Nat.reduceAdd, Nat.reduceSub, Nat.reduceLT, Nat.reduceBEq, TY_EvH39, e1, b1, k2] at hz
  rcases dP ((r84 h true) = 0) with ⟨h3a, h3⟩ | ⟨h3a, h3⟩
  · skip
    have hV := (r84_ok h3).1
    have w4 := (hv_h_rooms.agree g2).len (P := Tryz.prog) (t := 22) Tryz.underlying22
    try simp (disch := first | omega | assumption) only [E0_G, SY, off, agreeKind, ldA, aggD, aField, Nat.reduceAdd, Nat.reduceLT, Nat.reduceBEq, TY_EvH39, v1_2, h3a, w4] at hz
    generalize hL5 : Rec.loop _ _ _ _ = L5 at hz
    obtain ⟨x5, t5, S5e, rfl, hQ5⟩ := loop_met hL5 (fun m t S' => ∃ (v_rows : Value) (rows : List (List Int)) (k : Nat), m + k = h.rooms.length + 1 ∧ rows.length = k ∧ k ≤ h.rooms.length ∧ t.get 1 = some (.pointer (some ⟨S.next, 0, none⟩)) ∧ t.get 5 = some (v_rows) ∧ t.get 14 = some (.int .i64 (h.rooms.length : Int)) ∧ t.get 15 = some (.int .i64 (k : Int)) ∧ S'.heap.get S.next = some (.cells [v_h_rooms, v_h_doors, v_h_ways] 26 0 true true) ∧ Agree S S' ∧ S2.next ≤ S'.next ∧ OwnL 54 3 S2.next S' v_rows rows ∧ R58_0 h m rows k = R58_0 h (h.rooms.length + 1) ([]) 0)
      (fun x t S' => x = .exit 0 ∧ ∃ (v_rows : Value) (rows : List (List Int)) (k : Nat), t.get 5 = some (v_rows) ∧ S'.heap.get S.next = some (.cells [v_h_rooms, v_h_doors, v_h_ways] 26 0 true true) ∧ Agree S S' ∧ S2.next ≤ S'.next ∧ OwnL 54 3 S2.next S' v_rows rows ∧ rows.length = k ∧ k ≤ h.rooms.length ∧ R58_0 h (h.rooms.length + 1) ([]) 0 = rows) (h.rooms.length + 1) (by refine ⟨.slice none 0 0, [], 0, ?_, ?_, ?_, ?_, ?_, ?_, ?_, v1_2, g2, Nat.le_refl _, by first | exact Own.nil _ _ _ | exact OwnL.nil _ _ _ _ (by decide), rfl⟩ <;> first | (simp only [SY, eq_self, Nat.reduceBEq] <;> rfl) | omega | assumption | (simp; omega) | simp) (by
        rintro m t S5 ⟨v_rows, rows, k, hi5_0, hi5_1, hi5_2, g5_1, g5_5, g5_14, g5_15, bb5_1, ga5, gn5, ow_rows, hd5⟩
        refine .run fun z he => ?_
        try simp (disch := first | omega | assumption) only [E0_G, SY, off, agreeKind, Nat.reduceLT, Nat.reduceBEq, g5_14, g5_15] at he
        rcases dP ((k : Int) < (h.rooms.length : Int)) with ⟨h6a, h6⟩ | ⟨h6a, h6⟩
        · skip
          obtain ⟨u7, S7, k7, a7, oo7⟩ := c119 h (k : Int) hF hV (by omega) S5 (v_h_rooms) (hv_h_rooms.agree ga5) (v_h_doors) (hv_h_doors.agree ga5) (v_h_ways) (hv_h_ways.agree ga5) 
          have l7 := a7.1
          obtain ⟨pu7, nu7, cu7, rfl⟩ := own_slice oo7
          have ap8 : ∀ b, blkOf (v_rows) = some b → blkOf (.slice pu7 nu7 cu7) ≠ some b := fun b hb => oo7.ne (Nat.lt_of_lt_of_le (ow_rows.lt hb) (by omega))
          have v1_7 := (a7.2 S.next (by omega)).trans bb5_1
          have ow_9 := ow_rows.agree a7
          have g7 : Agree S S7 := ga5.trans a7
          have p7 := r119_len hV (k : Int)
          have y10 : aBuildSlice Tryz.prog 72 1 [(0, .slice pu7 nu7 cu7)] S7 = some (.slice (some ⟨S7.next, 0, none⟩) 1 1, S7.push (.cells [.slice pu7 nu7 cu7] 54 1 true true)) := by kernel_rfl
          obtain ⟨S11, e11, n11, b11, a11⟩ := push_open S7 (.cells [.slice pu7 nu7 cu7] 54 1 true true)
          have v1_11 := (a11.2 S.next (by omega)).trans v1_7
          have ow_12 := ow_9.agree a11
          have o7_13 := oo7.agree a11
          have g11 : Agree S S11 := g7.trans a11
          have ne14 : blkOf (v_rows) ≠ some S7.next := ow_9.new (Nat.le_refl _)
          have ne15 : blkOf (.slice pu7 nu7 cu7) ≠ some S7.next := oo7.new (Nat.le_refl _)
          have o16 : Own 54 S7.next S11 (.slice (some ⟨S7.next, 0, none⟩) 1 1) [(⟨pu7, nu7, cu7⟩ : Sl)] := .inr ⟨_, true, rfl, Nat.le_refl _, by omega, b11⟩
          obtain ⟨u17, S17, k17, o17, n17, f17, d17⟩ := ownl_append (P := Tryz.prog) (t := 72) (tx := 72) (v := v_rows) (s := (⟨pu7, nu7, cu7⟩ : Sl)) (lo := S2.next) ow_12 (o16.rows) (o7_13.low (by omega)) (by omega) (by first | omega | (simp; omega) | simp) Tryz.underlying72 Tryz.underlying72 ti54 tv54 tz54
          obtain ⟨pu17, nu17, cu17, rfl⟩ := o17.slice
          have v1_17 := (f17 S.next (by omega) (by first | (simp [blkOf]; done) | exact ow_12.ne (by omega) | exact ow_12.new (by omega) | assumption)).trans v1_11
          have g17 : Agree S S17 := ⟨Nat.le_trans (g11).1 n17, fun id hid => (f17 id (by have := (g11).1; omega) (by first | (simp [blkOf]; done) | exact ow_12.ne (by omega) | assumption)).trans ((g11).2 id hid)⟩
          have ne18 : blkOf (.slice pu17 nu17 cu17) ≠ some S.next := by first | exact o17.ne (by omega) | exact o17.new (by omega) | exact d17 _ (by omega) (by first | (simp [blkOf]; done) | exact ow_12.ne (by omega) | exact ow_12.new (by omega) | assumption)
          have w19 : IntKind.i64.wrap ((k : Int) + 1) = ((k + 1 : Nat) : Int) := by rw [IntWalk.i64_in] <;> omega
          try simp (disch := first | omega | assumption) only [E0_G, SY, off, agreeKind, partVals, vals, ldA, rdCells, aggD, Nat.reduceAdd, Nat.reduceLT, Nat.reduceBEq, TY_EvH39, g5_1, g5_5, g5_15, bb5_1, h6a, k7, y10, e11, k17, w19] at he
          obtain ⟨m', rfl⟩ : ∃ m', m = m' + 1 := ⟨m - 1, by omega⟩
          have hf := (show _ = (R58_0 h m' (rows ++ ([(r119 h (k : Int))])) (k + 1) : (List (List Int))) from (if_pos h6).trans (rfl)).symm.trans hd5
          refine .next he m' (by omega) ⟨.slice pu17 nu17 cu17, rows ++ ([(r119 h (k : Int))]), (k + 1), ?_, ?_, ?_, ?_, ?_, ?_, ?_, v1_17, g17, by omega, (o17.low (by omega)), hf⟩ <;> first | (simp only [SY, eq_self, Nat.reduceBEq, g5_1, g5_5, g5_14, g5_15] <;> rfl) | omega | assumption | (simp; omega) | simp
        · skip
          try simp (disch := first | omega | assumption) only [SY, h6a] at he
          obtain ⟨m', rfl⟩ : ∃ m', m = m' + 1 := ⟨m - 1, by omega⟩
          have hf := (show _ = (rows : (List (List Int))) from (if_neg h6).trans (rfl)).symm.trans hd5
          refine .exit he ⟨rfl, ⟨v_rows, rows, k, ?_, bb5_1, ga5, by omega, (ow_rows.low (by omega)), ?_, ?_, hf.symm⟩⟩ <;> first | (simp only [SY, eq_self, Nat.reduceBEq, g5_5] <;> rfl) | omega | assumption | (simp; omega) | simp)
    obtain ⟨rfl, v_rows, rows, k, ge5_5, be5_1, ge5, gm5, oe_rows5, hj5_0, hj5_1, hR5⟩ := hQ5
    obtain rfl : rows = R58_0 h (h.rooms.length + 1) ([]) 0 := hR5.symm
    try simp (disch := first | omega | assumption) only [E0_G, SY, off, agreeKind, eq_self, if_true, Nat.reduceAdd, Nat.reduceLT, Nat.reduceBEq, ge5_5] at hz
    have hr : r58 h = (R58_0 h (h.rooms.length + 1) ([]) 0, 0) := (if_pos h3).trans (rfl)
    exact ⟨v_rows, S5e, by first | (rw [hr]; exact hz.symm) | exact hz.symm, ge5, by rw [hr]; exact oe_rows5.low (by omega)⟩
  · skip
    try simp (disch := first | omega | assumption) only [E0_G, SY, off, agreeKind, Nat.reduceAdd, Nat.reduceLT, Nat.reduceBEq, h3a] at hz
    have hr : r58 h = ([], (r84 h true)) := (if_neg h3).trans (rfl)
    exact ⟨.slice none 0 0, S2, by first | (rw [hr]; exact hz.symm) | exact hz.symm, g2, by rw [hr]; exact by first | exact Own.nil _ _ _ | exact OwnL.nil _ _ _ _ (by decide)⟩


theorem lget_app {α : Type} [Inhabited α] {l : List α} {x : α} {i : Nat} : lget (l ++ [x]) i = if i < l.length then lget l i else if i = l.length then x else default := by
  unfold lget
  rw [List.getD_eq_getElem?_getD, List.getD_eq_getElem?_getD, List.getElem?_append]
  split
  · rfl
  · split
    · rename_i e; rw [e, Nat.sub_self]; rfl
    · rename_i e1 e2
      rw [List.getElem?_eq_none (by simp; omega)]; rfl
theorem R58_get (h : Hs) : ∀ (m : Nat) (rows : List (List Int)) (k : Nat), m + k = h.rooms.length + 1 → k ≤ h.rooms.length → rows.length = k → (R58_0 h m rows k).length = h.rooms.length ∧ ∀ i, i < h.rooms.length → lget (R58_0 h m rows k) i = if i < k then lget rows i else r119 h (i : Int) := by
  intro m
  induction m with
  | zero => intro rows k h1 h2 _; omega
  | succ m ih =>
    intro rows k h1 h2 h3
    rw [R58_0]
    split
    · obtain ⟨q1, q2⟩ := ih (rows ++ [r119 h (k : Int)]) (k + 1) (by omega) (by omega) (by simp [h3])
      refine ⟨q1, fun i hi => ?_⟩
      rw [q2 i hi]
      by_cases c : i < k
      · rw [if_pos (by omega), if_pos c, lget_app, if_pos (by omega)]
      · rw [if_neg c]
        by_cases e : i = k
        · subst e; rw [if_pos (by omega), lget_app, if_neg (by omega), if_pos h3.symm]
        · rw [if_neg (by omega)]
    · have hk : k = h.rooms.length := by omega
      exact ⟨by omega, fun i hi => by rw [if_pos (by omega)]⟩
theorem r58_get {h : Hs} (hV : r59 h = 0) : (r58 h).1.length = h.rooms.length ∧ ∀ i, i < h.rooms.length → lget (r58 h).1 i = r119 h (i : Int) := by
  have e : (r58 h).1 = R58_0 h (h.rooms.length + 1) [] 0 := by
    unfold r58; rw [if_pos (by rw [r84_true]; exact hV)]
  rw [e]
  obtain ⟨q1, q2⟩ := R58_get h (h.rooms.length + 1) [] 0 (by omega) (by omega) rfl
  exact ⟨q1, fun i hi => by rw [q2 i hi, if_neg (by omega)]⟩
theorem r58_row {h : Hs} (hV : r59 h = 0) {k : Nat} (hk : k < h.rooms.length) : (lget (r58 h).1 k).length = h.rooms.length := by rw [(r58_get hV).2 k hk]; exact r119_len hV _
theorem r58_ok {h : Hs} (e : (r58 h).2 = 0) : r59 h = 0 := by
  unfold r58 at e
  split at e
  · exact (r84_ok (by assumption)).1
  · exact absurd e (by assumption)

def R11_0 (h : Hs) (a : Int) (b : Int)  : Nat → Nat → Sum (Bool) (Unit)
  | 0, k => .inr ()
  | m' + 1, k => (if (k : Int) < (((r58 h).1).length : Int) then (if (r47 ((lget ((r58 h).1) k) : List Int) ((r60 h (k : Int)) : List Int)) = true then R11_0 h a b m' (k + 1) else .inl false) else .inr ())
def r11 (h : Hs) (a : Int) (b : Int) : Bool := (if (r20 h) = true then (if (¬ (((r56 h a b).1) = ((r57 h a b).1))) ∨ ((¬ (((r56 h a b).2) = ((r57 h a b).2))) ∨ (¬ (((r58 h).2) = (r59 h)))) then false else (if ((r58 h).2) = 0 then (if (((r58 h).1).length : Int) = (h.rooms.length : Int) then (onSum (R11_0 h a b ((r58 h).1.length + 1) 0) (fun (r6 : Bool) => r6) (fun (_ : Unit) => true)) else false) else decide ((((r58 h).1).length : Int) = 0))) else true)
set_option maxHeartbeats 16000000 in
theorem c11 (h : Hs) (a : Int) (b : Int) (hs : ∀ x ∈ h.rooms, x.name.size ≤ 9223372036854775807) (S : AS) (v_h_rooms : Value) (hv_h_rooms : LstR S v_h_rooms h.rooms) (v_h_doors : Value) (hv_h_doors : LstR S v_h_doors h.doors) (v_h_ways : Value) (hv_h_ways : Lst S v_h_ways h.ways) :
    ∃ S', (evL Tryz.prog E0).call 11 #[.agg #[v_h_rooms, v_h_doors, v_h_ways], .int .i64 a, .int .i64 b] S = some (.bool (r11 h a b), S') ∧ Agree S S' := by
  generalize hz : (evL Tryz.prog E0).call 11 _ _ = z
  rw [L_call, evCall_said rfl Tryz.func11 rfl (by decide) Tryz.ntmps11 Tryz.results11] at hz
  obtain ⟨S1, e1, n1, b1, a1⟩ := push_open S (.cells [v_h_rooms, v_h_doors, v_h_ways] 26 0 true true)
  have g1 : Agree S S1 := a1
  have s1 : E0.same S S1 = true := symEnv_same a1
  obtain ⟨S2, k2, a2⟩ := c20 h  S1 (v_h_rooms) (hv_h_rooms.agree g1) (v_h_doors) (hv_h_doors.agree g1) (v_h_ways) (hv_h_ways.agree g1) 
  have l2 := a2.1
  have s2 : E0.same S1 S2 = true := symEnv_same a2
  have v1_2 := (a2.2 S.next (by omega)).trans b1
  have g2 : Agree S S2 := g1.trans a2
  try simp (disch := first | omega | assumption) only [E0_G, SY, setArgs, off, agreeKind, vals, boxed, ldA, rdCells, aggD, Nat.reduceAdd, Nat.reduceSub, Nat.reduceLT, Nat.reduceBEq, TY_EvH39, e1, b1, k2] at hz
  rcases dB ((r20 h)) with ⟨h3a, h3⟩ | ⟨h3a, h3⟩
  · skip
    have lq4 := (few_of h3).r
    obtain ⟨S5, k5, a5⟩ := c56 h a b (few_of (show r20 h = true by assumption)) hs S2 (v_h_rooms) (hv_h_rooms.agree g2) (v_h_doors) (hv_h_doors.agree g2) (v_h_ways) (hv_h_ways.agree g2) 
    have l5 := a5.1
    have s5 : E0.same S2 S5 = true := symEnv_same a5
    have v1_5 := (a5.2 S.next (by omega)).trans v1_2
    have g5 : Agree S S5 := g2.trans a5
    obtain ⟨S6, k6, a6⟩ := c57 h a b (few_of (show r20 h = true by assumption)) S5 (v_h_rooms) (hv_h_rooms.agree g5) (v_h_doors) (hv_h_doors.agree g5) (v_h_ways) (hv_h_ways.agree g5) 
    have l6 := a6.1
    have s6 : E0.same S5 S6 = true := symEnv_same a6
    have v1_6 := (a6.2 S.next (by omega)).trans v1_5
    have g6 : Agree S S6 := g5.trans a6
    obtain ⟨u7, S7, k7, a7, oo7⟩ := c58 h (few_of (show r20 h = true by assumption)) hs S6 (v_h_rooms) (hv_h_rooms.agree g6) (v_h_doors) (hv_h_doors.agree g6) (v_h_ways) (hv_h_ways.agree g6) 
    have l7 := a7.1
    obtain ⟨pu7, nu7, cu7, rfl⟩ := oo7.slice
    have s7 : E0.same S6 S7 = true := symEnv_same a7
    have v1_7 := (a7.2 S.next (by omega)).trans v1_6
    have g7 : Agree S S7 := g6.trans a7
    try simp (disch := first | omega | assumption) only [E0_G, SY, off, agreeKind, vals, ldA, rdCells, aggD, aExtract, Nat.reduceAdd, Nat.reduceLT, Nat.reduceBEq, TY_EvH39, v1_2, h3a, k5, v1_5, k6, v1_6, k7] at hz
    generalize hL8 : behind _ _ = L8 at hz
    refine join_reg hL8 (fun t S' => ∃ (j8_0 : Bool), j8_0 = decide ((¬ (((r56 h a b).1) = ((r57 h a b).1))) ∨ ((¬ (((r56 h a b).2) = ((r57 h a b).2))) ∨ (¬ (((r58 h).2) = (r59 h))))) ∧ t.get 3 = some (.pointer (some ⟨S.next, 0, none⟩)) ∧ t.get 11 = some (.slice pu7 nu7 cu7) ∧ t.get 12 = some (.int .i64 ((r58 h).2)) ∧ t.get 50 = some (.bool j8_0) ∧ S'.heap.get S.next = some (.cells [v_h_rooms, v_h_doors, v_h_ways] 26 0 true true) ∧ Agree S S' ∧ S7.next ≤ S'.next ∧ OwnL 54 3 S6.next S' (.slice pu7 nu7 cu7) ((r58 h).1)) (fun tl8 => ?_) (fun t8 S8 hn8 hq8 => ?_)
    · skip
      try simp (disch := first | omega | assumption) only [E0_G, SY, setArgs, off, agreeKind, partVals, vals, allocV, boxed, ldA, rdCells, oneB, aggD, aField, aFieldV, aExtract, eq_self, ne_eq, if_true, if_false, not_false_eq_true, Nat.reduceAdd, Nat.reduceSub, Nat.reduceMul, Nat.reduceLT, Nat.reduceEqDiff, Nat.reduceBEq, reduceIte, Int.reduceEq, Int.reduceLT, Int.reduceLE, reduceCtorEq, TY_EvH39, s1, e1, b1, k2, s2, v1_2, h3a, k5, s5, v1_5, k6, s6, v1_6, k7, s7, v1_7] at hL8
      rcases dP (((r56 h a b).1) = ((r57 h a b).1)) with ⟨h13a, h13⟩ | ⟨h13a, h13⟩
      · skip
        try simp (disch := first | omega | assumption) only [E0_G, SY, off, agreeKind, Nat.reduceAdd, Nat.reduceLT, Nat.reduceBEq, h13a] at hL8
        rcases dP (((r56 h a b).2) = ((r57 h a b).2)) with ⟨h14a, h14⟩ | ⟨h14a, h14⟩
        · skip
          obtain ⟨S15, k15, a15⟩ := c59 h (few_of (show r20 h = true by assumption)) S7 (v_h_rooms) (hv_h_rooms.agree g7) (v_h_doors) (hv_h_doors.agree g7) (v_h_ways) (hv_h_ways.agree g7) 
          have l15 := a15.1
          have s15 : E0.same S7 S15 = true := symEnv_same a15
          have v1_15 := (a15.2 S.next (by omega)).trans v1_7
          have o7_16 := oo7.agree a15
          have g15 : Agree S S15 := g7.trans a15
          try simp (disch := first | omega | assumption) only [E0_G, SY, off, agreeKind, vals, ldA, rdCells, aggD, Nat.reduceAdd, Nat.reduceLT, Nat.reduceBEq, TY_EvH39, v1_7, h14a, k15] at hL8
          refine tl8 _ _ hL8.symm ⟨!(decide (((r58 h).2) = (r59 h))), by simp only [eq_true h13, eq_true h14, false_or, not_true_eq_false, decide_not], ?_, ?_, ?_, ?_, v1_15, g15, by omega, o7_16⟩ <;> first | (simp only [SY, eq_self, Nat.reduceBEq] <;> rfl) | omega | assumption | (simp; omega) | simp
        · skip
          try simp (disch := first | omega | assumption) only [E0_G, SY, off, agreeKind, Nat.reduceAdd, Nat.reduceLT, Nat.reduceBEq, h14a] at hL8
          refine tl8 _ _ hL8.symm ⟨true, by simp only [eq_true h13, eq_false h14, true_or, or_true, not_true_eq_false, not_false_eq_true, decide_true], ?_, ?_, ?_, ?_, v1_7, g7, by omega, oo7⟩ <;> first | (simp only [SY, eq_self, Nat.reduceBEq] <;> rfl) | omega | assumption | (simp; omega) | simp
      · skip
        try simp (disch := first | omega | assumption) only [E0_G, SY, off, agreeKind, Nat.reduceAdd, Nat.reduceLT, Nat.reduceBEq, h13a] at hL8
        refine tl8 _ _ hL8.symm ⟨true, by simp only [eq_false h13, true_or, not_false_eq_true, decide_true], ?_, ?_, ?_, ?_, v1_7, g7, by omega, oo7⟩ <;> first | (simp only [SY, eq_self, Nat.reduceBEq] <;> rfl) | omega | assumption | (simp; omega) | simp
    · skip
      subst hn8
      obtain ⟨j8_0, rfl, g8_3, g8_11, g8_12, g8_50, bj8_1, gj8, gl8, oj8_0⟩ := hq8
      try simp (disch := first | omega | assumption) only [E0_G, SY, g8_50] at hz
      rcases dP ((¬ (((r56 h a b).1) = ((r57 h a b).1))) ∨ ((¬ (((r56 h a b).2) = ((r57 h a b).2))) ∨ (¬ (((r58 h).2) = (r59 h))))) with ⟨h17a, h17⟩ | ⟨h17a, h17⟩
      · skip
        simp only [h17a] at hz
        try simp (disch := first | omega | assumption) only [E0_G, SY, off, agreeKind, Nat.reduceLT, Nat.reduceBEq] at hz
        have hr : r11 h a b = false := (if_pos h3).trans ((if_pos h17).trans (rfl))
        exact fin hz (by rw [hr]) gj8
      · skip
        simp only [h17a] at hz
        have h18 : ((r56 h a b).1) = ((r57 h a b).1) := (Decidable.not_not.1 (fun q_ => h17 (.inl q_)))
        have h18a := decide_eq_true h18
        have h19 : ((r56 h a b).2) = ((r57 h a b).2) := (Decidable.not_not.1 (fun q_ => (fun q_ => h17 (.inr q_)) (.inl q_)))
        have h19a := decide_eq_true h19
        have h20 : ((r58 h).2) = (r59 h) := (Decidable.not_not.1 (fun q_ => (fun q_ => h17 (.inr q_)) (.inr q_)))
        have h20a := decide_eq_true h20
        try simp (disch := first | omega | assumption) only [E0_G, SY, off, agreeKind, Nat.reduceAdd, Nat.reduceLT, Nat.reduceBEq, g8_12] at hz
        rcases dP (((r58 h).2) = 0) with ⟨h21a, h21⟩ | ⟨h21a, h21⟩
        · skip
          have hV := r58_ok h21
          have w22 := (oj8_0.rows).len (P := Tryz.prog) (t := 72) Tryz.underlying72
          have w23 := (hv_h_rooms.agree gj8).len (P := Tryz.prog) (t := 22) Tryz.underlying22
          try simp (disch := first | omega | assumption) only [E0_G, SY, off, agreeKind, ldA, aggD, aField, Nat.reduceAdd, Nat.reduceLT, Nat.reduceBEq, TY_EvH39, g8_3, g8_11, bj8_1, h21a, w22, w23] at hz
          rcases dP ((((r58 h).1).length : Int) = (h.rooms.length : Int)) with ⟨h24a, h24⟩ | ⟨h24a, h24⟩
          · skip
            try simp (disch := first | omega | assumption) only [E0_G, SY, off, agreeKind, Nat.reduceLT, h24a] at hz
            generalize hL25 : Rec.loop _ _ _ _ = L25 at hz
            obtain ⟨x25, t25, S25e, rfl, hQ25⟩ := loop_met hL25 (fun m t S' => ∃ (k : Nat), m + k = (r58 h).1.length + 1 ∧ k ≤ (r58 h).1.length ∧ t.get 3 = some (.pointer (some ⟨S.next, 0, none⟩)) ∧ t.get 11 = some (.slice pu7 nu7 cu7) ∧ t.get 13 = some (.int .i64 (k : Int)) ∧ S'.heap.get S.next = some (.cells [v_h_rooms, v_h_doors, v_h_ways] 26 0 true true) ∧ Agree S S' ∧ S8.next ≤ S'.next ∧ OwnL 54 3 S6.next S' (.slice pu7 nu7 cu7) ((r58 h).1) ∧ R11_0 h a b m k = R11_0 h a b ((r58 h).1.length + 1) 0)
              (fun x t S' => (x = .exit 0 ∧ ∃ (k : Nat), S'.heap.get S.next = some (.cells [v_h_rooms, v_h_doors, v_h_ways] 26 0 true true) ∧ Agree S S' ∧ S8.next ≤ S'.next ∧ OwnL 54 3 S6.next S' (.slice pu7 nu7 cu7) ((r58 h).1) ∧ k ≤ (r58 h).1.length ∧ R11_0 h a b ((r58 h).1.length + 1) 0 = .inr ()) ∨ (x = .ret ∧ ∃ (r6 : Bool), t.get 6 = some (.bool r6) ∧ Agree S S' ∧ R11_0 h a b ((r58 h).1.length + 1) 0 = .inl (r6))) ((r58 h).1.length + 1) (by refine ⟨0, ?_, ?_, ?_, ?_, ?_, bj8_1, gj8, Nat.le_refl _, oj8_0, rfl⟩ <;> first | (simp only [SY, eq_self, Nat.reduceBEq, g8_3, g8_11] <;> rfl) | omega | assumption | (simp; omega) | simp) (by
                rintro m t S25 ⟨k, hi25_0, hi25_1, g25_3, g25_11, g25_13, bb25_1, ga25, gn25, cw25_0, hd25⟩
                refine .run fun z he => ?_
                have w26 := (cw25_0.rows).len (P := Tryz.prog) (t := 72) Tryz.underlying72
                try simp (disch := first | omega | assumption) only [E0_G, SY, off, agreeKind, Nat.reduceAdd, Nat.reduceLT, Nat.reduceBEq, g25_11, g25_13, w22] at he
                rcases dP ((k : Int) < (((r58 h).1).length : Int)) with ⟨h27a, h27⟩ | ⟨h27a, h27⟩
                · skip
                  try simp (disch := first | omega | assumption) only [SY, h27a] at he
                  rw [code_draws _ _ _ (by kernel_rfl)] at he
                  generalize hnd28 : needy _ = nd28 at he
                  have hx29 : ((r58 h).1)[k]? = some (lget ((r58 h).1) k) := lget_some (by first | omega | simp; omega)
                  have eb30 := r58_row hV (k := k) (by omega)
                  obtain ⟨id29, of29, cc29, ty29, wr29, ex29, pp29, nn29, cp29, i29, j29, l29, m29_0, oi29, bk29⟩ := cw25_0.at (P := Tryz.prog) (t := 72) Tryz.underlying72 tz54 hx29
                  obtain ⟨u31, S31, k31, a31, oo31⟩ := c60 h (k : Int) (few_of (show r20 h = true by assumption)) hV (by omega) S25 (v_h_rooms) (hv_h_rooms.agree ga25) (v_h_doors) (hv_h_doors.agree ga25) (v_h_ways) (hv_h_ways.agree ga25) 
                  have l31 := a31.1
                  obtain ⟨pu31, nu31, cu31, rfl⟩ := own_slice oo31
                  have ap32 : ∀ b, blkOf (.slice pu7 nu7 cu7) = some b → blkOf (.slice pu31 nu31 cu31) ≠ some b := fun b hb => oo31.ne (Nat.lt_of_lt_of_le (cw25_0.lt hb) (by omega))
                  have ap33 : ∀ b, blkOf (.slice pp29 nn29 cp29) = some b → blkOf (.slice pu31 nu31 cu31) ≠ some b := fun b hb => oo31.ne (Nat.lt_of_lt_of_le (oi29.lt hb) (by omega))
                  have s31 : E0.same S25 S31 = true := symEnv_same a31
                  have v1_31 := (a31.2 S.next (by omega)).trans bb25_1
                  have ocw25_34 := cw25_0.agree a31
                  have oi29_35 := oi29.agree a31
                  have g31 : Agree S S31 := ga25.trans a31
                  have p31 := r60_len h (k : Int)
                  obtain ⟨S36, k36, a36⟩ := c47 ((lget ((r58 h).1) k) : List Int) ((r60 h (k : Int)) : List Int) (by omega) S31 (.slice pp29 nn29 cp29) (oi29_35.rows) (.slice pu31 nu31 cu31) (oo31.rows) 
                  have l36 := a36.1
                  have s36 : E0.same S31 S36 = true := symEnv_same a36
                  have v1_36 := (a36.2 S.next (by omega)).trans v1_31
                  have ocw25_37 := ocw25_34.agree a36
                  have oi29_38 := oi29_35.agree a36
                  have o31_39 := oo31.agree a36
                  have g36 : Agree S S36 := g31.trans a36
                  try simp (disch := first | omega | assumption) only [E0_G, SY, agreeKind, vals, ldA, rdCells, aggD, Nat.reduceAdd, Nat.reduceLT, Nat.reduceBEq, TY_EvH39, g25_3, g25_11, g25_13, bb25_1, store_agree, store_refl E0_same, i29, j29, m29_0, k31, k36] at he
                  rcases dB ((r47 ((lget ((r58 h).1) k) : List Int) ((r60 h (k : Int)) : List Int))) with ⟨h40a, h40⟩ | ⟨h40a, h40⟩
                  · skip
                    have w41 : IntKind.i64.wrap ((k : Int) + 1) = ((k + 1 : Nat) : Int) := by rw [IntWalk.i64_in] <;> omega
                    try simp (disch := first | omega | assumption) only [E0_G, SY, off, agreeKind, Nat.reduceAdd, Nat.reduceLT, Nat.reduceBEq, g25_13, store_refl E0_same, h40a, w41] at he
                    obtain ⟨m', rfl⟩ : ∃ m', m = m' + 1 := ⟨m - 1, by omega⟩
                    have hf := (show _ = (R11_0 h a b m' (k + 1) : Sum (Bool) (Unit)) from (if_pos h27).trans ((if_pos h40).trans (rfl))).symm.trans hd25
                    refine .next he m' (by omega) ⟨(k + 1), ?_, ?_, ?_, ?_, ?_, v1_36, g36, by omega, ocw25_37, hf⟩ <;> first | (simp only [SY, eq_self, Nat.reduceBEq, g25_3, g25_11, g25_13] <;> rfl) | omega | assumption | (simp; omega) | simp
                  · skip
                    try simp (disch := first | omega | assumption) only [E0_G, SY, off, agreeKind, Nat.reduceLT, store_refl E0_same, h40a] at he
                    obtain ⟨m', rfl⟩ : ∃ m', m = m' + 1 := ⟨m - 1, by omega⟩
                    have hf := (show _ = (.inl false : Sum (Bool) (Unit)) from (if_pos h27).trans ((if_neg h40).trans (rfl))).symm.trans hd25
                    refine .ret he (.inr ⟨rfl, ⟨false, ?_, g36, hf.symm⟩⟩) <;> first | (simp only [SY, eq_self, Nat.reduceBEq] <;> rfl) | omega | assumption | (simp; omega) | simp
                · skip
                  try simp (disch := first | omega | assumption) only [SY, h27a] at he
                  obtain ⟨m', rfl⟩ : ∃ m', m = m' + 1 := ⟨m - 1, by omega⟩
                  have hf := (show _ = (.inr () : Sum (Bool) (Unit)) from (if_neg h27).trans (rfl)).symm.trans hd25
                  refine .exit he (.inl ⟨rfl, ⟨k, bb25_1, ga25, by omega, cw25_0, ?_, hf.symm⟩⟩) <;> first | (simp only [SY, setArgs, off, agreeKind, partVals, vals, allocV, boxed, ldA, rdCells, oneB, aggD, aField, aFieldV, aExtract, eq_self, ne_eq, if_true, if_false, not_false_eq_true, Nat.reduceAdd, Nat.reduceSub, Nat.reduceMul, Nat.reduceLT, Nat.reduceEqDiff, Nat.reduceBEq, reduceIte, Int.reduceEq, Int.reduceLT, Int.reduceLE, reduceCtorEq, g25_3, g25_11, g25_13, h3a, h17a, h18a, h19a, h20a, h21a, h24a, h27a] <;> rfl) | omega | assumption | (simp; omega) | simp)
            rcases hQ25 with ⟨rfl, hQ25⟩ | ⟨rfl, hQ25⟩
            · skip
              obtain ⟨k, be25_1, ge25, gm25, ce25_0, hj25_0, hR25⟩ := hQ25
              try simp (disch := first | omega | assumption) only [E0_G, SY, off, agreeKind, vals, eq_self, if_true, Nat.reduceAdd, Nat.reduceLT, Nat.reduceBEq, c21s] at hz
              have hr : r11 h a b = true := (if_pos h3).trans ((if_neg h17).trans ((if_pos h21).trans ((if_pos h24).trans ((onSum_inr hR25).trans (rfl)))))
              exact fin hz (by rw [hr]) ge25
            · skip
              obtain ⟨r6, ge25_6, ge25, hR25⟩ := hQ25
              try simp (disch := first | omega | assumption) only [SY, ge25_6] at hz
              have hr : r11 h a b = r6 := (if_pos h3).trans ((if_neg h17).trans ((if_pos h21).trans ((if_pos h24).trans ((onSum_inl hR25).trans (rfl)))))
              exact fin hz (by rw [hr]) ge25
          · skip
            try simp (disch := first | omega | assumption) only [E0_G, SY, off, agreeKind, Nat.reduceLT, Nat.reduceBEq, h24a] at hz
            have hr : r11 h a b = false := (if_pos h3).trans ((if_neg h17).trans ((if_pos h21).trans ((if_neg h24).trans (rfl))))
            exact fin hz (by rw [hr]) gj8
        · skip
          have w43 := (oj8_0.rows).len (P := Tryz.prog) (t := 72) Tryz.underlying72
          try simp (disch := first | omega | assumption) only [E0_G, SY, off, agreeKind, vals, Nat.reduceAdd, Nat.reduceLT, Nat.reduceBEq, g8_11, h21a, c21s, w43] at hz
          have hr : r11 h a b = decide ((((r58 h).1).length : Int) = 0) := (if_pos h3).trans ((if_neg h17).trans ((if_neg h21).trans (rfl)))
          exact fin hz (by rw [hr]) gj8
  · skip
    try simp (disch := first | omega | assumption) only [E0_G, SY, off, agreeKind, vals, Nat.reduceAdd, Nat.reduceLT, Nat.reduceBEq, h3a, c21s] at hz
    have hr : r11 h a b = true := (if_neg h3).trans (rfl)
    exact fin hz (by rw [hr]) g2
end House
end Go.Proofs
end
section
/-
  The house: the law HouseDistances holds (math).
-/
set_option linter.unusedSimpArgs false
set_option linter.unusedVariables false
namespace Go.Proofs
namespace House
open Go Go.RowKit Go.Aev
set_option maxRecDepth 100000
theorem R119_R60 (h : Hs) (a : Int) : ∀ (m : Nat) (sec : List Int) (k : Nat), sec.length = (r106 (⟨h.rooms, [], (r150 h).ways⟩ : Hs) a 0).length → R119_0 h a m sec k = R60_0 h a m sec k := by
  intro m
  induction m with
  | zero => intro sec k _; rfl
  | succ m ih =>
    intro sec k hl
    rw [R119_0, R60_0, hl, ih _ _ hl, ih _ _ (by rw [List.length_set]; exact hl)]
theorem row_eq {h : Hs} (hV : r59 h = 0) (a : Int) : r119 h a = r60 h a := by
  unfold r119 r60
  rw [R119_R60 h a _ _ _ rfl, r150_pl, r120_pl, arrivals_eq (pl_ok hV) (by decide)]
theorem two0 (h : Hs) (a b : Int) : r49 h a 0 b 0 = if r59 h = 0 then (if r102 h a = true ∧ r102 h b = true then 0 else 1) else r59 h := by
  unfold r49
  have z : r88 0 = true := by decide
  rw [r104_cs, r104_cs, z]
  by_cases hV : r59 h = 0 <;> by_cases ca : r102 h a = true <;> by_cases cb : r102 h b = true <;> simp [hV, ca, cb]
theorem least_eq (h : Hs) (a b : Int) : r56 h a b = r57 h a b := by
  unfold r56 r57
  rw [two0]
  by_cases hV : r59 h = 0
  · have e84 : ∀ c, r84 h c = if c = true then 0 else 1 := fun c => by rw [r84_sel, if_pos hV]
    rw [if_pos hV, e84, e84, row_eq hV]
    by_cases ca : r102 h a = true <;> by_cases cb : r102 h b = true <;> simp [ca, cb]
  · have e84 : ∀ c, r84 h c = r59 h := fun c => by rw [r84_sel, if_neg hV]
    rw [if_neg hV, e84, e84, if_neg hV, if_neg hV]
    split <;> rfl
theorem R11_ok {h : Hs} (hV : r59 h = 0) (a b : Int) : ∀ (m k : Nat), m + k = (r58 h).1.length + 1 → R11_0 h a b m k = .inr () := by
  intro m
  induction m with
  | zero => intro k _; rfl
  | succ m ih =>
    intro k hk
    rw [R11_0]
    have g := r58_get hV
    split
    · rename_i c
      rw [g.2 k (by omega), row_eq hV, if_pos (r47_self _)]
      exact ih _ (by omega)
    · rfl
theorem r11_true (h : Hs) (a b : Int) : r11 h a b = true := by
  unfold r11
  by_cases c : r20 h = true
  case neg => rw [if_neg c]
  rw [if_pos c, least_eq]
  have e58 : (r58 h).2 = r59 h := by
    have e := r84_true h
    unfold r58
    by_cases q : r84 h true = 0
    · rw [if_pos q]; show (0 : Int) = _; omega
    · rw [if_neg q]; exact e
  rw [if_neg (by rintro (q | q | q); exact q rfl; exact q rfl; exact q e58)]
  by_cases g : (r58 h).2 = 0
  · have hV : r59 h = 0 := by omega
    rw [if_pos g, if_pos (show ((r58 h).1.length : Int) = (h.rooms.length : Int) by rw [(r58_get hV).1]), R11_ok hV a b _ _ (by omega)]
    rfl
  · rw [if_neg g]
    have : (r58 h).1 = [] := by
      unfold r58 at g ⊢
      by_cases q : r84 h true = 0
      · rw [if_pos q] at g; exact absurd rfl g
      · rw [if_neg q]
    rw [this]; rfl
end House
end Go.Proofs
end
