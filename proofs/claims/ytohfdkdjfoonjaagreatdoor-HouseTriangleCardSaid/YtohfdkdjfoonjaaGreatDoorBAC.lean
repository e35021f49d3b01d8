/-
  BAC: EvH36, EvH37.
-/
import Derived.Test.YtohfdkdjfoonjaaGreatDoorBY
import Derived.Test.YtohfdkdjfoonjaaGreatDoorAE6
section
/-
  The house's seat: the law HouseWalked, by the generator.
-/
set_option linter.unusedSimpArgs false
set_option linter.unusedVariables false
namespace Go.Proofs
namespace House
open Go Go.RowKit Go.Aev
set_option maxRecDepth 100000
/-- What is known of the types. -/
theorem TY_EvH36 : type_of% (And.intro (And.intro (And.intro (And.intro (And.intro (And.intro (And.intro Tryz.underlying3 tz3) (And.intro tt3 (And.intro t0_3 Tryz.underlying4))) (And.intro (And.intro tz4 tt4) (And.intro t0_4 (And.intro Tryz.underlying9 tz9)))) (And.intro (And.intro (And.intro tt9 t0_9) (And.intro Tryz.underlying22 (And.intro tz22 tt22))) (And.intro (And.intro t0_22 (And.intro Tryz.underlying23 tz23)) (And.intro tt23 (And.intro t0_23 Tryz.underlying24))))) (And.intro (And.intro (And.intro (And.intro tz24 tt24) (And.intro t0_24 (And.intro Tryz.underlying25 tz25))) (And.intro (And.intro tt25 t0_25) (And.intro Tryz.underlying26 (And.intro tz26 tt26)))) (And.intro (And.intro (And.intro t0_26 Tryz.underlying29) (And.intro tz29 (And.intro tt29 t0_29))) (And.intro (And.intro Tryz.underlying35 (And.intro tz35 tt35)) (And.intro t0_35 (And.intro Tryz.underlying36 tz36)))))) (And.intro (And.intro (And.intro (And.intro (And.intro tt36 t0_36) (And.intro Tryz.underlying40 (And.intro tz40 tt40))) (And.intro (And.intro t0_40 Tryz.underlying47) (And.intro tz47 (And.intro tt47 t0_47)))) (And.intro (And.intro (And.intro Tryz.underlying50 tz50) (And.intro tt50 (And.intro t0_50 Tryz.underlying51))) (And.intro (And.intro tz51 (And.intro tt51 t0_51)) (And.intro Tryz.underlying54 (And.intro tz54 tt54))))) (And.intro (And.intro (And.intro (And.intro t0_54 Tryz.underlying57) (And.intro tz57 (And.intro tt57 t0_57))) (And.intro (And.intro Tryz.underlying58 tz58) (And.intro tt58 (And.intro t0_58 Tryz.underlying91)))) (And.intro (And.intro (And.intro tz91 tt91) (And.intro t0_91 (And.intro Tryz.underlying92 tz92))) (And.intro (And.intro tt92 (And.intro t0_92 Tryz.underlying93)) (And.intro tz93 (And.intro tt93 t0_93))))))) (And.intro (And.intro (And.intro (And.intro (And.intro (And.intro Tryz.underlying94 tz94) (And.intro tt94 (And.intro t0_94 Tryz.underlying97))) (And.intro (And.intro tz97 tt97) (And.intro t0_97 (And.intro Tryz.underlying98 tz98)))) (And.intro (And.intro (And.intro tt98 t0_98) (And.intro Tryz.underlying109 (And.intro tz109 tt109))) (And.intro (And.intro t0_109 (And.intro Tryz.underlying110 tz110)) (And.intro tt110 (And.intro t0_110 Tryz.underlying113))))) (And.intro (And.intro (And.intro (And.intro tz113 tt113) (And.intro t0_113 (And.intro Tryz.underlying124 tz124))) (And.intro (And.intro tt124 t0_124) (And.intro Tryz.underlying125 (And.intro tz125 tt125)))) (And.intro (And.intro (And.intro t0_125 Tryz.underlying127) (And.intro tz127 (And.intro tt127 t0_127))) (And.intro (And.intro Tryz.underlying128 (And.intro tz128 tt128)) (And.intro t0_128 (And.intro Tryz.underlying134 tz134)))))) (And.intro (And.intro (And.intro (And.intro (And.intro tt134 t0_134) (And.intro Tryz.underlying136 (And.intro tz136 tt136))) (And.intro (And.intro t0_136 Tryz.underlying137) (And.intro tz137 (And.intro tt137 t0_137)))) (And.intro (And.intro (And.intro Tryz.underlying141 tz141) (And.intro tt141 (And.intro t0_141 Tryz.underlying142))) (And.intro (And.intro tz142 (And.intro tt142 t0_142)) (And.intro Tryz.underlying148 (And.intro tz148 tt148))))) (And.intro (And.intro (And.intro (And.intro t0_148 Tryz.underlying149) (And.intro tz149 (And.intro tt149 t0_149))) (And.intro (And.intro Tryz.underlying154 tz154) (And.intro tt154 (And.intro t0_154 Tryz.underlying168)))) (And.intro (And.intro (And.intro tz168 tt168) (And.intro t0_168 (And.intro Tryz.underlying204 tz204))) (And.intro (And.intro tt204 (And.intro t0_204 Tryz.underlying207)) (And.intro tz207 (And.intro tt207 t0_207)))))))) := (And.intro (And.intro (And.intro (And.intro (And.intro (And.intro (And.intro Tryz.underlying3 tz3) (And.intro tt3 (And.intro t0_3 Tryz.underlying4))) (And.intro (And.intro tz4 tt4) (And.intro t0_4 (And.intro Tryz.underlying9 tz9)))) (And.intro (And.intro (And.intro tt9 t0_9) (And.intro Tryz.underlying22 (And.intro tz22 tt22))) (And.intro (And.intro t0_22 (And.intro Tryz.underlying23 tz23)) (And.intro tt23 (And.intro t0_23 Tryz.underlying24))))) (And.intro (And.intro (And.intro (And.intro tz24 tt24) (And.intro t0_24 (And.intro Tryz.underlying25 tz25))) (And.intro (And.intro tt25 t0_25) (And.intro Tryz.underlying26 (And.intro tz26 tt26)))) (And.intro (And.intro (And.intro t0_26 Tryz.underlying29) (And.intro tz29 (And.intro tt29 t0_29))) (And.intro (And.intro Tryz.underlying35 (And.intro tz35 tt35)) (And.intro t0_35 (And.intro Tryz.underlying36 tz36)))))) (And.intro (And.intro (And.intro (And.intro (And.intro tt36 t0_36) (And.intro Tryz.underlying40 (And.intro tz40 tt40))) (And.intro (And.intro t0_40 Tryz.underlying47) (And.intro tz47 (And.intro tt47 t0_47)))) (And.intro (And.intro (And.intro Tryz.underlying50 tz50) (And.intro tt50 (And.intro t0_50 Tryz.underlying51))) (And.intro (And.intro tz51 (And.intro tt51 t0_51)) (And.intro Tryz.underlying54 (And.intro tz54 tt54))))) (And.intro (And.intro (And.intro (And.intro t0_54 Tryz.underlying57) (And.intro tz57 (And.intro tt57 t0_57))) (And.intro (And.intro Tryz.underlying58 tz58) (And.intro tt58 (And.intro t0_58 Tryz.underlying91)))) (And.intro (And.intro (And.intro tz91 tt91) (And.intro t0_91 (And.intro Tryz.underlying92 tz92))) (And.intro (And.intro tt92 (And.intro t0_92 Tryz.underlying93)) (And.intro tz93 (And.intro tt93 t0_93))))))) (And.intro (And.intro (And.intro (And.intro (And.intro (And.intro Tryz.underlying94 tz94) (And.intro tt94 (And.intro t0_94 Tryz.underlying97))) (And.intro (And.intro tz97 tt97) (And.intro t0_97 (And.intro Tryz.underlying98 tz98)))) (And.intro (And.intro (And.intro tt98 t0_98) (And.intro Tryz.underlying109 (And.intro tz109 tt109))) (And.intro (And.intro t0_109 (And.intro Tryz.underlying110 tz110)) (And.intro tt110 (And.intro t0_110 Tryz.underlying113))))) (And.intro (And.intro (And.intro (And.intro tz113 tt113) (And.intro t0_113 (And.intro Tryz.underlying124 tz124))) (And.intro (And.intro tt124 t0_124) (And.intro Tryz.underlying125 (And.intro tz125 tt125)))) (And.intro (And.intro (And.intro t0_125 Tryz.underlying127) (And.intro tz127 (And.intro tt127 t0_127))) (And.intro (And.intro Tryz.underlying128 (And.intro tz128 tt128)) (And.intro t0_128 (And.intro Tryz.underlying134 tz134)))))) (And.intro (And.intro (And.intro (And.intro (And.intro tt134 t0_134) (And.intro Tryz.underlying136 (And.intro tz136 tt136))) (And.intro (And.intro t0_136 Tryz.underlying137) (And.intro tz137 (And.intro tt137 t0_137)))) (And.intro (And.intro (And.intro Tryz.underlying141 tz141) (And.intro tt141 (And.intro t0_141 Tryz.underlying142))) (And.intro (And.intro tz142 (And.intro tt142 t0_142)) (And.intro Tryz.underlying148 (And.intro tz148 tt148))))) (And.intro (And.intro (And.intro (And.intro t0_148 Tryz.underlying149) (And.intro tz149 (And.intro tt149 t0_149))) (And.intro (And.intro Tryz.underlying154 tz154) (And.intro tt154 (And.intro t0_154 Tryz.underlying168)))) (And.intro (And.intro (And.intro tz168 tt168) (And.intro t0_168 (And.intro Tryz.underlying204 tz204))) (And.intro (And.intro tt204 (And.intro t0_204 Tryz.underlying207)) (And.intro tz207 (And.intro tt207 t0_207))))))))
set_option maxHeartbeats 2000000 in
theorem c70w (n : Int) (k : Int) (hk : 0 ≤ k ∧ k ≤ 1000000) (S : AS)  :
    ∃ S', (evL Tryz.prog E0).call 70 #[.int .i64 n, .int .i64 k] S = some (.int .i64 (r70 n k), S') ∧ Agree S S' := by
  generalize hz : (evL Tryz.prog E0).call 70 _ _ = z
  rw [L_call, evCall_said rfl Tryz.func70 rfl (by decide) Tryz.ntmps70 Tryz.results70] at hz
  have wd1 : decide (IntKind.u64.wrap (max k 1) = 0) = false := decide_eq_false (by rw [u64w (by omega)]; omega)
  try simp (disch := first | omega | assumption) only [E0_G, SY, setArgs, off, agreeKind, Nat.reduceAdd, Nat.reduceSub, Nat.reduceLT, Nat.reduceBEq, TY_EvH36, wd1] at hz
  have hr : r70 n k = IntKind.i64.wrap (Int.tmod (IntKind.u64.wrap n) (IntKind.u64.wrap (max k 1))) := rfl
  exact fin hz (by rw [hr]) (Agree.refl S)


end House
end Go.Proofs
end
section
/-
  The house's seat: the law HouseNext, by the generator.
-/
set_option linter.unusedSimpArgs false
set_option linter.unusedVariables false
namespace Go.Proofs
namespace House
open Go Go.RowKit Go.Aev
set_option maxRecDepth 100000
end House
end Go.Proofs
end
