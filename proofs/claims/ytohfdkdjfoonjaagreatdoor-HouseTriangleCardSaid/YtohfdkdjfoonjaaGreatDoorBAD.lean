/-
  BAD: EvM24, EvH39, EvM25.
-/
import Derived.Test.YtohfdkdjfoonjaaGreatDoorEvH38
import Derived.Test.YtohfdkdjfoonjaaGreatDoorEvM21
section
/-
  The house: both ways in which a house without doors is made give it (math).
-/
set_option linter.unusedSimpArgs false
set_option linter.unusedVariables false
namespace Go.Proofs
namespace House
open Go Go.RowKit Go.Aev
set_option maxRecDepth 100000
theorem map_set {α : Type} [Inhabited α] (f : α → α) {l : List α} {k : Nat} (hk : k < l.length) : (l.set k (f (lget l k))).take (k + 1) ++ ((l.set k (f (lget l k))).drop (k + 1)).map f = l.take k ++ (l.drop k).map f := by
  have hP : (l.take k).length = k := by rw [List.length_take]; omega
  generalize hb : f (lget l k) = b
  rw [List.set_eq_take_append_cons_drop, if_pos hk, drop_cons' (lget_some hk), List.map_cons, hb]
  have e1 : (l.take k ++ b :: l.drop (k + 1)).take (k + 1) = l.take k ++ [b] := by rw [List.take_append, hP, Nat.add_sub_cancel_left, List.take_of_length_le (by omega)]; rfl
  have e2 : (l.take k ++ b :: l.drop (k + 1)).drop (k + 1) = l.drop (k + 1) := by rw [List.drop_append, hP, Nat.add_sub_cancel_left, List.drop_of_length_le (by omega)]; rfl
  rw [e1, e2]; simp
theorem R150_map (h : Hs) : ∀ (m : Nat) (ws : List Wy) (k : Nat), m + k = h.ways.length + 1 → k ≤ h.ways.length → ws.length = h.ways.length → R150_0 h m ws k = ws.take k ++ (ws.drop k).map unw := by
  intro m
  induction m with
  | zero => intro ws k h1 h2 _; omega
  | succ m ih =>
    intro ws k h1 h2 h3
    rw [R150_0]
    split
    · rename_i hk
      have hk' : k < ws.length := by omega
      rw [ih _ _ (by omega) (by omega) (by rw [List.length_set]; exact h3)]
      exact map_set unw hk'
    · have hk : k = ws.length := by omega
      rw [hk, List.take_length, List.drop_length, List.map_nil, List.append_nil]
theorem r150_pl (h : Hs) : (⟨h.rooms, [], (r150 h).ways⟩ : Hs) = pl h := by
  have e : (r150 h).ways = h.ways.map unw := by
    show R150_0 h (h.ways.length + 1) h.ways 0 = _
    rw [R150_map h _ _ _ (by omega) (by omega) rfl]; simp
  rw [e]; rfl
theorem few_pl {h : Hs} (hF : Few h) : Few (pl h) := ⟨hF.r, by show (0 : Nat) ≤ 20; omega, by show (h.ways.map unw).length ≤ 70; rw [List.length_map]; exact hF.w, fun x hx => absurd hx (List.not_mem_nil)⟩
theorem few_150 {h : Hs} (hF : Few h) : Few (⟨h.rooms, [], (r150 h).ways⟩ : Hs) := by rw [r150_pl]; exact few_pl hF
theorem v_150 {h : Hs} (hV : r59 h = 0) : r59 (⟨h.rooms, [], (r150 h).ways⟩ : Hs) = 0 := by rw [r150_pl]; exact pl_ok hV
end House
end Go.Proofs
end
section
/-
  The house's seat: distances.
-/
set_option linter.unusedSimpArgs false
set_option linter.unusedVariables false
namespace Go.Proofs
namespace House
open Go Go.RowKit Go.Aev
set_option maxRecDepth 100000
theorem tz72 : szOf Tryz.prog 72 = some 1 := by kernel_rfl
theorem tt72 : inTab Tryz.prog 72 = true := by kernel_rfl
theorem t0_72 : zeroOf Tryz.prog 72 = some (.slice none 0 0) := by kernel_rfl
/-- What is known of the types. -/
theorem TY_EvH39 : type_of% (And.intro (And.intro (And.intro (And.intro (And.intro (And.intro (And.intro Tryz.underlying3 tz3) (And.intro tt3 (And.intro t0_3 Tryz.underlying4))) (And.intro (And.intro tz4 tt4) (And.intro t0_4 (And.intro Tryz.underlying9 tz9)))) (And.intro (And.intro (And.intro tt9 t0_9) (And.intro Tryz.underlying22 (And.intro tz22 tt22))) (And.intro (And.intro t0_22 (And.intro Tryz.underlying23 tz23)) (And.intro tt23 (And.intro t0_23 Tryz.underlying24))))) (And.intro (And.intro (And.intro (And.intro tz24 tt24) (And.intro t0_24 (And.intro Tryz.underlying25 tz25))) (And.intro (And.intro tt25 (And.intro t0_25 Tryz.underlying26)) (And.intro tz26 (And.intro tt26 t0_26)))) (And.intro (And.intro (And.intro Tryz.underlying29 tz29) (And.intro tt29 (And.intro t0_29 Tryz.underlying35))) (And.intro (And.intro tz35 (And.intro tt35 t0_35)) (And.intro Tryz.underlying36 (And.intro tz36 tt36)))))) (And.intro (And.intro (And.intro (And.intro (And.intro t0_36 Tryz.underlying40) (And.intro tz40 (And.intro tt40 t0_40))) (And.intro (And.intro Tryz.underlying47 tz47) (And.intro tt47 (And.intro t0_47 Tryz.underlying50)))) (And.intro (And.intro (And.intro tz50 tt50) (And.intro t0_50 (And.intro Tryz.underlying51 tz51))) (And.intro (And.intro tt51 (And.intro t0_51 Tryz.underlying54)) (And.intro tz54 (And.intro tt54 t0_54))))) (And.intro (And.intro (And.intro (And.intro Tryz.underlying57 tz57) (And.intro tt57 (And.intro t0_57 Tryz.underlying58))) (And.intro (And.intro tz58 (And.intro tt58 t0_58)) (And.intro Tryz.underlying72 (And.intro tz72 tt72)))) (And.intro (And.intro (And.intro t0_72 Tryz.underlying91) (And.intro tz91 (And.intro tt91 t0_91))) (And.intro (And.intro Tryz.underlying92 (And.intro tz92 tt92)) (And.intro t0_92 (And.intro Tryz.underlying93 tz93))))))) (And.intro (And.intro (And.intro (And.intro (And.intro (And.intro tt93 t0_93) (And.intro Tryz.underlying94 (And.intro tz94 tt94))) (And.intro (And.intro t0_94 Tryz.underlying97) (And.intro tz97 (And.intro tt97 t0_97)))) (And.intro (And.intro (And.intro Tryz.underlying98 tz98) (And.intro tt98 (And.intro t0_98 Tryz.underlying109))) (And.intro (And.intro tz109 (And.intro tt109 t0_109)) (And.intro Tryz.underlying110 (And.intro tz110 tt110))))) (And.intro (And.intro (And.intro (And.intro t0_110 Tryz.underlying113) (And.intro tz113 (And.intro tt113 t0_113))) (And.intro (And.intro Tryz.underlying124 (And.intro tz124 tt124)) (And.intro t0_124 (And.intro Tryz.underlying125 tz125)))) (And.intro (And.intro (And.intro tt125 t0_125) (And.intro Tryz.underlying127 (And.intro tz127 tt127))) (And.intro (And.intro t0_127 (And.intro Tryz.underlying128 tz128)) (And.intro tt128 (And.intro t0_128 Tryz.underlying134)))))) (And.intro (And.intro (And.intro (And.intro (And.intro tz134 tt134) (And.intro t0_134 (And.intro Tryz.underlying136 tz136))) (And.intro (And.intro tt136 t0_136) (And.intro Tryz.underlying137 (And.intro tz137 tt137)))) (And.intro (And.intro (And.intro t0_137 Tryz.underlying141) (And.intro tz141 (And.intro tt141 t0_141))) (And.intro (And.intro Tryz.underlying142 (And.intro tz142 tt142)) (And.intro t0_142 (And.intro Tryz.underlying148 tz148))))) (And.intro (And.intro (And.intro (And.intro tt148 t0_148) (And.intro Tryz.underlying149 (And.intro tz149 tt149))) (And.intro (And.intro t0_149 (And.intro Tryz.underlying154 tz154)) (And.intro tt154 (And.intro t0_154 Tryz.underlying168)))) (And.intro (And.intro (And.intro tz168 tt168) (And.intro t0_168 (And.intro Tryz.underlying204 tz204))) (And.intro (And.intro tt204 (And.intro t0_204 Tryz.underlying207)) (And.intro tz207 (And.intro tt207 t0_207)))))))) := (And.intro (And.intro (And.intro (And.intro (And.intro (And.intro (And.intro Tryz.underlying3 tz3) (And.intro tt3 (And.intro t0_3 Tryz.underlying4))) (And.intro (And.intro tz4 tt4) (And.intro t0_4 (And.intro Tryz.underlying9 tz9)))) (And.intro (And.intro (And.intro tt9 t0_9) (And.intro Tryz.underlying22 (And.intro tz22 tt22))) (And.intro (And.intro t0_22 (And.intro Tryz.underlying23 tz23)) (And.intro tt23 (And.intro t0_23 Tryz.underlying24))))) (And.intro (And.intro (And.intro (And.intro tz24 tt24) (And.intro t0_24 (And.intro Tryz.underlying25 tz25))) (And.intro (And.intro tt25 (And.intro t0_25 Tryz.underlying26)) (And.intro tz26 (And.intro tt26 t0_26)))) (And.intro (And.intro (And.intro Tryz.underlying29 tz29) (And.intro tt29 (And.intro t0_29 Tryz.underlying35))) (And.intro (And.intro tz35 (And.intro tt35 t0_35)) (And.intro Tryz.underlying36 (And.intro tz36 tt36)))))) (And.intro (And.intro (And.intro (And.intro (And.intro t0_36 Tryz.underlying40) (And.intro tz40 (And.intro tt40 t0_40))) (And.intro (And.intro Tryz.underlying47 tz47) (And.intro tt47 (And.intro t0_47 Tryz.underlying50)))) (And.intro (And.intro (And.intro tz50 tt50) (And.intro t0_50 (And.intro Tryz.underlying51 tz51))) (And.intro (And.intro tt51 (And.intro t0_51 Tryz.underlying54)) (And.intro tz54 (And.intro tt54 t0_54))))) (And.intro (And.intro (And.intro (And.intro Tryz.underlying57 tz57) (And.intro tt57 (And.intro t0_57 Tryz.underlying58))) (And.intro (And.intro tz58 (And.intro tt58 t0_58)) (And.intro Tryz.underlying72 (And.intro tz72 tt72)))) (And.intro (And.intro (And.intro t0_72 Tryz.underlying91) (And.intro tz91 (And.intro tt91 t0_91))) (And.intro (And.intro Tryz.underlying92 (And.intro tz92 tt92)) (And.intro t0_92 (And.intro Tryz.underlying93 tz93))))))) (And.intro (And.intro (And.intro (And.intro (And.intro (And.intro tt93 t0_93) (And.intro Tryz.underlying94 (And.intro tz94 tt94))) (And.intro (And.intro t0_94 Tryz.underlying97) (And.intro tz97 (And.intro tt97 t0_97)))) (And.intro (And.intro (And.intro Tryz.underlying98 tz98) (And.intro tt98 (And.intro t0_98 Tryz.underlying109))) (And.intro (And.intro tz109 (And.intro tt109 t0_109)) (And.intro Tryz.underlying110 (And.intro tz110 tt110))))) (And.intro (And.intro (And.intro (And.intro t0_110 Tryz.underlying113) (And.intro tz113 (And.intro tt113 t0_113))) (And.intro (And.intro Tryz.underlying124 (And.intro tz124 tt124)) (And.intro t0_124 (And.intro Tryz.underlying125 tz125)))) (And.intro (And.intro (And.intro tt125 t0_125) (And.intro Tryz.underlying127 (And.intro tz127 tt127))) (And.intro (And.intro t0_127 (And.intro Tryz.underlying128 tz128)) (And.intro tt128 (And.intro t0_128 Tryz.underlying134)))))) (And.intro (And.intro (And.intro (And.intro (And.intro tz134 tt134) (And.intro t0_134 (And.intro Tryz.underlying136 tz136))) (And.intro (And.intro tt136 t0_136) (And.intro Tryz.underlying137 (And.intro tz137 tt137)))) (And.intro (And.intro (And.intro t0_137 Tryz.underlying141) (And.intro tz141 (And.intro tt141 t0_141))) (And.intro (And.intro Tryz.underlying142 (And.intro tz142 tt142)) (And.intro t0_142 (And.intro Tryz.underlying148 tz148))))) (And.intro (And.intro (And.intro (And.intro tt148 t0_148) (And.intro Tryz.underlying149 (And.intro tz149 tt149))) (And.intro (And.intro t0_149 (And.intro Tryz.underlying154 tz154)) (And.intro tt154 (And.intro t0_154 Tryz.underlying168)))) (And.intro (And.intro (And.intro tz168 tt168) (And.intro t0_168 (And.intro Tryz.underlying204 tz204))) (And.intro (And.intro tt204 (And.intro t0_204 Tryz.underlying207)) (And.intro tz207 (And.intro tt207 t0_207))))))))
def R119_0 (h : Hs) (a : Int)  : Nat → List Int → Nat → (List Int)
  | 0, sec, k => sec
  | m' + 1, sec, k => (if (k : Int) < ((r106 (⟨h.rooms, [], ((r150 h).ways)⟩ : Hs) a 0).length : Int) then (if (lget sec k) = 1073741824 then R119_0 h a m' (sec.set k (-1)) (k + 1) else R119_0 h a m' sec (k + 1)) else sec)
def r119 (h : Hs) (a : Int) : List Int := R119_0 h a (h.rooms.length + 1) (r106 (⟨h.rooms, [], ((r150 h).ways)⟩ : Hs) a 0) 0
set_option maxHeartbeats 8000000 in
theorem c119 (h : Hs) (a : Int) (hF : Few h) (hV : r59 h = 0) (hf : 0 ≤ a ∧ a < (h.rooms.length : Int)) (S : AS) (v_h_rooms : Value) (hv_h_rooms : LstR S v_h_rooms h.rooms) (v_h_doors : Value) (hv_h_doors : LstR S v_h_doors h.doors) (v_h_ways : Value) (hv_h_ways : Lst S v_h_ways h.ways) :
    ∃ v' S', (evL Tryz.prog E0).call 119 #[.agg #[v_h_rooms, v_h_doors, v_h_ways], .int .i64 a] S = some (v', S') ∧ Agree S S' ∧ Own 3 S.next S' v' (r119 h a) := by
  have qr := hF.r; have qd := hF.d; have qw := hF.w
  generalize hz : (evL Tryz.prog E0).call 119 _ _ = z
  rw [L_call, evCall_said rfl Tryz.func119 rfl (by decide) Tryz.ntmps119 Tryz.results119] at hz
  obtain ⟨S1, e1, n1, b1, a1⟩ := push_open S (.cells [v_h_rooms, v_h_doors, v_h_ways] 26 0 true true)
  have g1 : Agree S S1 := a1
  obtain ⟨u2_0, S2, k2, a2, oo2_0⟩ := c150 h hF S1 (v_h_rooms) (hv_h_rooms.agree g1) (v_h_doors) (hv_h_doors.agree g1) (v_h_ways) (hv_h_ways.agree g1) 
  obtain ⟨pu2_0, nu2_0, cu2_0, rfl⟩ := own_slice oo2_0
  have l2 := a2.1
  have g2 : Agree S S2 := g1.trans a2
  obtain ⟨u3, S3, k3, a3, oo3⟩ := c106 (⟨h.rooms, [], ((r150 h).ways)⟩ : Hs) a 0 (few_150 hF) (v_150 hV) hf (by decide) S2 (v_h_rooms) (hv_h_rooms.agree g2) (.slice none 0 0) (.inl ⟨rfl, .inl rfl⟩) (.slice pu2_0 nu2_0 cu2_0) (oo2_0.rows) 
  have l3 := a3.1
  obtain ⟨pu3, nu3, cu3, rfl⟩ := own_slice oo3
  have ap4 : ∀ b, blkOf (.slice pu2_0 nu2_0 cu2_0) = some b → blkOf (.slice pu3 nu3 cu3) ≠ some b := fun b hb => oo3.ne (Nat.lt_of_lt_of_le (oo2_0.lt hb) (by omega))
  have o2_5 := oo2_0.agree a3
  have g3 : Agree S S3 := g2.trans a3
  have p3 := (show (r106 (⟨h.rooms, [], (r150 h).ways⟩ : Hs) a 0).length = h.rooms.length from r106_len (v_150 hV) (by decide))
  have w6 := (oo3.rows).len (P := Tryz.prog) (t := 54) Tryz.underlying54
  try simp (disch := first | omega | assumption) only [E0_G, SY, setArgs, off, agreeKind, vals, boxed, ldA, rdCells, aggD, Nat.reduceAdd, Nat.reduceSub, Nat.reduceLT, Nat.reduceBEq, TY_EvH39, e1, b1, k2, k3, w6] at hz
  generalize hL7 : Rec.loop _ _ _ _ = L7 at hz
  obtain ⟨x7, t7, S7e, rfl, hQ7⟩ := loop_met hL7 (fun m t S' => ∃ (sec : List Int) (k : Nat), m + k = h.rooms.length + 1 ∧ sec.length = h.rooms.length ∧ k ≤ h.rooms.length ∧ t.get 5 = some (.slice pu3 nu3 cu3) ∧ t.get 12 = some (.slice pu3 nu3 cu3) ∧ t.get 13 = some (.int .i64 ((r106 (⟨h.rooms, [], ((r150 h).ways)⟩ : Hs) a 0).length : Int)) ∧ t.get 14 = some (.int .i64 (k : Int)) ∧ Agree S S' ∧ S3.next ≤ S'.next ∧ Own 3 S2.next S' (.slice pu3 nu3 cu3) sec ∧ R119_0 h a m sec k = R119_0 h a (h.rooms.length + 1) (r106 (⟨h.rooms, [], ((r150 h).ways)⟩ : Hs) a 0) 0)
    (fun x t S' => x = .exit 0 ∧ ∃ (sec : List Int) (k : Nat), t.get 5 = some (.slice pu3 nu3 cu3) ∧ Agree S S' ∧ S3.next ≤ S'.next ∧ Own 3 S2.next S' (.slice pu3 nu3 cu3) sec ∧ sec.length = h.rooms.length ∧ k ≤ h.rooms.length ∧ R119_0 h a (h.rooms.length + 1) (r106 (⟨h.rooms, [], ((r150 h).ways)⟩ : Hs) a 0) 0 = sec) (h.rooms.length + 1) (by refine ⟨(r106 (⟨h.rooms, [], ((r150 h).ways)⟩ : Hs) a 0), 0, ?_, ?_, ?_, ?_, ?_, ?_, ?_, g3, Nat.le_refl _, oo3, rfl⟩ <;> first | (simp only [SY, eq_self, Nat.reduceBEq] <;> rfl) | omega | assumption | (simp; omega) | simp) (by
      rintro m t S7 ⟨sec, k, hi7_0, hi7_1, hi7_2, g7_5, g7_12, g7_13, g7_14, ga7, gn7, ow_sec, hd7⟩
      refine .run fun z he => ?_
      try simp (disch := first | omega | assumption) only [E0_G, SY, off, agreeKind, Nat.reduceLT, Nat.reduceBEq, g7_13, g7_14] at he
      rcases dP ((k : Int) < ((r106 (⟨h.rooms, [], ((r150 h).ways)⟩ : Hs) a 0).length : Int)) with ⟨h8a, h8⟩ | ⟨h8a, h8⟩
      · skip
        have hx9 : sec[k]? = some (lget sec k) := lget_some (by first | omega | simp; omega)
        obtain ⟨id9, of9, cc9, ty9, wr9, ex9, i9, j9, l9, q9, lb9, bk9, oq9⟩ := ow_sec.at4 (P := Tryz.prog) (t := 54) Tryz.underlying54 tz3 hx9
        have m9_0 : cc9[of9]? = some (.int .i64 (lget sec k)) := q9 0 (show 0 < 1 by decide)
        try simp (disch := first | omega | assumption) only [E0_G, SY, off, agreeKind, ldA, aggD, Nat.reduceAdd, Nat.reduceLT, Nat.reduceBEq, TY_EvH39, g7_12, g7_14, h8a, i9, j9, m9_0] at he
        rcases dP ((lget sec k) = 1073741824) with ⟨h10a, h10⟩ | ⟨h10a, h10⟩
        · skip
          obtain ⟨id11, of11, cc11, ty11, wr11, ex11, i11, j11, l11, q11, lb11, bk11, oq11⟩ := ow_sec.at4 (P := Tryz.prog) (t := 54) Tryz.underlying54 tz3 hx9
          obtain rfl : id9 = id11 := Option.some.inj (bk9.symm.trans bk11)
          obtain rfl : of9 = of11 := oq9.trans oq11.symm
          have m11_0 : cc11[of9]? = some (.int .i64 (lget sec k)) := q11 0 (show 0 < 1 by decide)
          obtain ⟨S12, k12, n12, o12, q12⟩ := ow_sec.put1 (P := Tryz.prog) (lget_some (l := sec) (by first | omega | simp; omega)) bk11 oq11 3 (.int .i64 (-1)) 0 (-1) tz3 rfl rfl (by decide) rfl
          replace k12 : stA Tryz.prog 3 ⟨id9, of9, none⟩ (.int .i64 (-1)) S7 = some S12 := k12
          have g12 : Agree S S12 := ⟨by have := (ga7).1; omega, fun id hid => (q12 id (fun e => (show blkOf (.slice pu3 nu3 cu3) ≠ some id from ow_sec.ne (by omega)) (e ▸ bk11))).trans ((ga7).2 id hid)⟩
          have w13 : IntKind.i64.wrap ((k : Int) + 1) = ((k + 1 : Nat) : Int) := by rw [IntWalk.i64_in] <;> omega
          try simp (disch := first | omega | assumption) only [E0_G, SY, off, agreeKind, Nat.reduceAdd, Nat.reduceLT, Nat.reduceBEq, g7_5, g7_14, i9, h10a, k12, w13] at he
          obtain ⟨m', rfl⟩ : ∃ m', m = m' + 1 := ⟨m - 1, by omega⟩
          have hf := (show _ = (R119_0 h a m' (sec.set k (-1)) (k + 1) : (List Int)) from (if_pos h8).trans ((if_pos h10).trans (rfl))).symm.trans hd7
          refine .next he m' (by omega) ⟨sec.set k (-1), (k + 1), ?_, ?_, ?_, ?_, ?_, ?_, ?_, g12, by omega, o12, hf⟩ <;> first | (simp only [SY, eq_self, Nat.reduceBEq, g7_5, g7_12, g7_13, g7_14] <;> rfl) | omega | assumption | (simp; omega) | simp
        · skip
          have w14 : IntKind.i64.wrap ((k : Int) + 1) = ((k + 1 : Nat) : Int) := by rw [IntWalk.i64_in] <;> omega
          try simp (disch := first | omega | assumption) only [E0_G, SY, off, agreeKind, Nat.reduceAdd, Nat.reduceLT, Nat.reduceBEq, g7_14, h10a, w14] at he
          obtain ⟨m', rfl⟩ : ∃ m', m = m' + 1 := ⟨m - 1, by omega⟩
          have hf := (show _ = (R119_0 h a m' sec (k + 1) : (List Int)) from (if_pos h8).trans ((if_neg h10).trans (rfl))).symm.trans hd7
          refine .next he m' (by omega) ⟨sec, (k + 1), ?_, ?_, ?_, ?_, ?_, ?_, ?_, ga7, by omega, ow_sec, hf⟩ <;> first | (simp only [SY, eq_self, Nat.reduceBEq, g7_5, g7_12, g7_13, g7_14] <;> rfl) | omega | assumption | (simp; omega) | simp
      · skip
        try simp (disch := first | omega | assumption) only [SY, h8a] at he
        obtain ⟨m', rfl⟩ : ∃ m', m = m' + 1 := ⟨m - 1, by omega⟩
        have hf := (show _ = (sec : (List Int)) from (if_neg h8).trans (rfl)).symm.trans hd7
        refine .exit he ⟨rfl, ⟨sec, k, ?_, ga7, by omega, ow_sec, ?_, ?_, hf.symm⟩⟩ <;> first | (simp only [SY, eq_self, Nat.reduceBEq, g7_5] <;> rfl) | omega | assumption | (simp; omega) | simp)
  obtain ⟨rfl, sec, k, ge7_5, ge7, gm7, oe_sec7, hj7_0, hj7_1, hR7⟩ := hQ7
  obtain rfl : sec = R119_0 h a (h.rooms.length + 1) (r106 (⟨h.rooms, [], ((r150 h).ways)⟩ : Hs) a 0) 0 := hR7.symm
  try simp (disch := first | omega | assumption) only [E0_G, SY, off, agreeKind, eq_self, if_true, Nat.reduceAdd, Nat.reduceLT, Nat.reduceBEq, ge7_5] at hz
  have hr : r119 h a = R119_0 h a (h.rooms.length + 1) (r106 (⟨h.rooms, [], ((r150 h).ways)⟩ : Hs) a 0) 0 := rfl
  exact ⟨.slice pu3 nu3 cu3, S7e, by first | (rw [hr]; exact hz.symm) | exact hz.symm, ge7, by rw [hr]; exact oe_sec7.low (by omega)⟩

theorem R119_len (h : Hs) (a : Int) : ∀ (m : Nat) (sec : List Int) (k : Nat), (R119_0 h a m sec k).length = sec.length := by
  intro m
  induction m with
  | zero => intro sec k; rfl
  | succ m ih =>
    intro sec k
    rw [R119_0]
    repeat' split
    all_goals first | rfl | (rw [ih]; done) | (rw [ih, List.length_set])

theorem r119_len {h : Hs} (hV : r59 h = 0) (a : Int) : (r119 h a).length = h.rooms.length := (R119_len h a _ _ _).trans (r106_len (v_150 hV) (by decide))
def r56 (h : Hs) (a : Int) (b : Int) : Int × Int := (if (r102 h a) = true then (if (r84 h (r102 h b)) = 0 then (if (lget (r119 h a) (Int.toNat b)) < 0 then (0, 5) else ((lget (r119 h a) (Int.toNat b)), 0)) else (0, (r84 h (r102 h b)))) else (0, (r84 h false)))
set_option maxHeartbeats 8000000 in
theorem c56 (h : Hs) (a : Int) (b : Int) (hF : Few h) (hs : ∀ x ∈ h.rooms, x.name.size ≤ 9223372036854775807) (S : AS) (v_h_rooms : Value) (hv_h_rooms : LstR S v_h_rooms h.rooms) (v_h_doors : Value) (hv_h_doors : LstR S v_h_doors h.doors) (v_h_ways : Value) (hv_h_ways : Lst S v_h_ways h.ways) :
    ∃ S', (evL Tryz.prog E0).call 56 #[.agg #[v_h_rooms, v_h_doors, v_h_ways], .int .i64 a, .int .i64 b] S = some (.tuple #[.int .i64 (r56 h a b).1, .int .i64 (r56 h a b).2], S') ∧ Agree S S' := by
  have qr := hF.r; have qd := hF.d; have qw := hF.w
  generalize hz : (evL Tryz.prog E0).call 56 _ _ = z
  rw [L_call, evCall_said rfl Tryz.func56 rfl (by decide) Tryz.ntmps56 Tryz.results56] at hz
  obtain ⟨S1, e1, n1, b1, a1⟩ := push_open S (.cells [v_h_rooms, v_h_doors, v_h_ways] 26 0 true true)
  have g1 : Agree S S1 := a1
  have s1 : E0.same S S1 = true := symEnv_same a1
  try simp (disch := first | omega | assumption) only [E0_G, SY, setArgs, off, agreeKind, boxed, Nat.reduceAdd, Nat.reduceSub, Nat.reduceLT, Nat.reduceBEq, e1] at hz
  rw [code_draws _ _ _ (by kernel_rfl)] at hz
  generalize hnd2 : needy _ = nd2 at hz
  obtain ⟨S3, k3, a3⟩ := c102 h a  S1 (v_h_rooms) (hv_h_rooms.agree g1) (v_h_doors) (hv_h_doors.agree g1) (v_h_ways) (hv_h_ways.agree g1) 
  have l3 := a3.1
  have s3 : E0.same S1 S3 = true := symEnv_same a3
  have v1_3 := (a3.2 S.next (by omega)).trans b1
  have g3 : Agree S S3 := g1.trans a3
  try simp (disch := first | omega | assumption) only [E0_G, SY, agreeKind, vals, ldA, rdCells, aggD, Nat.reduceAdd, Nat.reduceLT, Nat.reduceBEq, TY_EvH39, b1, store_agree, store_refl E0_same, k3] at hz
  rcases dB ((r102 h a)) with ⟨h4a, h4⟩ | ⟨h4a, h4⟩
  · skip
    have lq5 := r102_iff.1 h4
    obtain ⟨S6, k6, a6⟩ := c102 h b  S3 (v_h_rooms) (hv_h_rooms.agree g3) (v_h_doors) (hv_h_doors.agree g3) (v_h_ways) (hv_h_ways.agree g3) 
    have l6 := a6.1
    have s6 : E0.same S3 S6 = true := symEnv_same a6
    have v1_6 := (a6.2 S.next (by omega)).trans v1_3
    have g6 : Agree S S6 := g3.trans a6
    obtain ⟨S7, k7, a7⟩ := c84 h (r102 h b) hF hs S6 (v_h_rooms) (hv_h_rooms.agree g6) (v_h_doors) (hv_h_doors.agree g6) (v_h_ways) (hv_h_ways.agree g6) 
    have l7 := a7.1
    have s7 : E0.same S6 S7 = true := symEnv_same a7
    have v1_7 := (a7.2 S.next (by omega)).trans v1_6
    have g7 : Agree S S7 := g6.trans a7
    try simp (disch := first | omega | assumption) only [E0_G, SY, off, agreeKind, vals, ldA, rdCells, aggD, Nat.reduceAdd, Nat.reduceLT, Nat.reduceBEq, TY_EvH39, store_agree, store_refl E0_same, v1_3, h4a, k6, k7] at hz
    rcases dP ((r84 h (r102 h b)) = 0) with ⟨h8a, h8⟩ | ⟨h8a, h8⟩
    · skip
      have hV := (r84_ok h8).1
      have lq9 := r102_iff.1 (r84_ok h8).2
      have lq10 := r102_iff.1 (r84_ok h8).2
      obtain ⟨u11, S11, k11, a11, oo11⟩ := c119 h a hF hV (by omega) S7 (v_h_rooms) (hv_h_rooms.agree g7) (v_h_doors) (hv_h_doors.agree g7) (v_h_ways) (hv_h_ways.agree g7) 
      have l11 := a11.1
      obtain ⟨pu11, nu11, cu11, rfl⟩ := own_slice oo11
      have s11 : E0.same S7 S11 = true := symEnv_same a11
      have g11 : Agree S S11 := g7.trans a11
      have p11 := r119_len hV a
      have qz12 : ((Int.toNat b : Nat) : Int) = b := Int.toNat_of_nonneg (by first | omega | simp; omega)
      have hx13 : (r119 h a)[(Int.toNat b)]? = some (lget (r119 h a) (Int.toNat b)) := lget_some (by first | omega | simp; omega)
      obtain ⟨id13, of13, cc13, ty13, wr13, ex13, i13, j13, l13, q13, lb13, bk13, oq13⟩ := oo11.at4 (P := Tryz.prog) (t := 54) Tryz.underlying54 tz3 hx13
      have m13_0 : cc13[of13]? = some (.int .i64 (lget (r119 h a) (Int.toNat b))) := q13 0 (show 0 < 1 by decide)
      rw [qz12] at i13
      try simp (disch := first | omega | assumption) only [E0_G, SY, off, agreeKind, vals, ldA, rdCells, aggD, Nat.reduceAdd, Nat.reduceLT, Nat.reduceBEq, TY_EvH39, store_agree, store_refl E0_same, v1_7, h8a, k11, i13, j13, m13_0] at hz
      rcases dP ((lget (r119 h a) (Int.toNat b)) < 0) with ⟨h14a, h14⟩ | ⟨h14a, h14⟩
      · skip
        try simp (disch := first | omega | assumption) only [E0_G, SY, off, agreeKind, Nat.reduceAdd, Nat.reduceLT, Nat.reduceBEq, store_refl E0_same, h14a] at hz
        have hr : r56 h a b = (0, 5) := (if_pos h4).trans ((if_pos h8).trans ((if_pos h14).trans (rfl)))
        exact fin hz (by rw [hr]) g11
      · skip
        try simp (disch := first | omega | assumption) only [E0_G, SY, off, agreeKind, Nat.reduceAdd, Nat.reduceLT, Nat.reduceBEq, store_refl E0_same, h14a] at hz
        have hr : r56 h a b = ((lget (r119 h a) (Int.toNat b)), 0) := (if_pos h4).trans ((if_pos h8).trans ((if_neg h14).trans (rfl)))
        exact fin hz (by rw [hr]) g11
    · skip
      try simp (disch := first | omega | assumption) only [E0_G, SY, off, agreeKind, Nat.reduceAdd, Nat.reduceLT, Nat.reduceBEq, store_refl E0_same, h8a] at hz
      have hr : r56 h a b = (0, (r84 h (r102 h b))) := (if_pos h4).trans ((if_neg h8).trans (rfl))
      exact fin hz (by rw [hr]) g7
  · skip
    obtain ⟨S15, k15, a15⟩ := c84 h false hF hs S3 (v_h_rooms) (hv_h_rooms.agree g3) (v_h_doors) (hv_h_doors.agree g3) (v_h_ways) (hv_h_ways.agree g3) 
    have l15 := a15.1
    have s15 : E0.same S3 S15 = true := symEnv_same a15
    have g15 : Agree S S15 := g3.trans a15
    try simp (disch := first | omega | assumption) only [E0_G, SY, off, agreeKind, vals, Nat.reduceAdd, Nat.reduceLT, Nat.reduceBEq, store_agree, store_refl E0_same, h4a, k15] at hz
    have h16 : ¬ ((r84 h false) = 0) := r84_false
    have h16a := decide_eq_false h16
    try simp (disch := first | omega | assumption) only [E0_G, SY, off, agreeKind, Nat.reduceAdd, Nat.reduceLT, Nat.reduceBEq, store_refl E0_same, h16a] at hz
    have hr : r56 h a b = (0, (r84 h false)) := (if_neg h4).trans (rfl)
    exact fin hz (by rw [hr]) g15

end House
end Go.Proofs
end
section
/-
  The house: the law HouseDistances holds (math).
-/
set_option linter.unusedSimpArgs false
set_option linter.unusedVariables false
namespace Go.Proofs
namespace House
open Go Go.RowKit Go.Aev
set_option maxRecDepth 100000
theorem R119_get (h : Hs) (a : Int) (i n : Nat) (hi : i < n) (hn : n = (r106 (⟨h.rooms, [], (r150 h).ways⟩ : Hs) a 0).length) : ∀ (m : Nat) (sec : List Int) (k : Nat), m + k = n + 1 → k ≤ n → sec.length = n → lget (R119_0 h a m sec k) i = if k ≤ i ∧ lget sec i = 1073741824 then -1 else lget sec i := by
  intro m
  induction m with
  | zero => intro sec k h1 h2 _; omega
  | succ m ih =>
    intro sec k h1 h2 h3
    rw [R119_0, ← hn]
    by_cases hk : k < n
    · rw [if_pos (show (k : Int) < (n : Int) by omega)]
      by_cases c : lget sec k = 1073741824
      · rw [if_pos c, ih _ _ (by omega) (by omega) (by rw [List.length_set]; exact h3)]
        by_cases e : i = k
        · subst e
          rw [lget_set_self (by omega), if_neg (by omega), if_pos ⟨Nat.le_refl _, c⟩]
        · rw [lget_set_ne (fun q => e q.symm)]
          by_cases g : k ≤ i ∧ lget sec i = 1073741824
          · rw [if_pos g, if_pos ⟨by omega, g.2⟩]
          · rw [if_neg g, if_neg (fun q => g ⟨by omega, q.2⟩)]
      · rw [if_neg c, ih _ _ (by omega) (by omega) h3]
        by_cases e : i = k
        · subst e
          rw [if_neg (by omega), if_neg (fun q => c q.2)]
        · by_cases g : k ≤ i ∧ lget sec i = 1073741824
          · rw [if_pos g, if_pos ⟨by omega, g.2⟩]
          · rw [if_neg g, if_neg (fun q => g ⟨by omega, q.2⟩)]
    · rw [if_neg (show ¬ (k : Int) < (n : Int) by omega), if_neg (by omega)]
theorem r119_get {h : Hs} (hV : r59 h = 0) (a : Int) {i : Nat} (hi : i < h.rooms.length) : lget (r119 h a) i = if lget (r106 (pl h) a 0) i = 1073741824 then -1 else lget (r106 (pl h) a 0) i := by
  have hn : h.rooms.length = (r106 (⟨h.rooms, [], (r150 h).ways⟩ : Hs) a 0).length := (r106_len (v_150 hV) (by decide)).symm
  have q := R119_get h a i h.rooms.length hi hn (h.rooms.length + 1) (r106 (⟨h.rooms, [], (r150 h).ways⟩ : Hs) a 0) 0 (by omega) (by omega) hn.symm
  show lget (R119_0 h a (h.rooms.length + 1) (r106 (⟨h.rooms, [], (r150 h).ways⟩ : Hs) a 0) 0) i = _
  rw [q, r150_pl]
  by_cases c : lget (r106 (pl h) a 0) i = 1073741824
  · rw [if_pos c, if_pos ⟨Nat.zero_le _, c⟩]
  · rw [if_neg c, if_neg (fun q => c q.2)]
end House
end Go.Proofs
end
