import Derived.Test.YtohfdkdjfoonjaaGreatDoorBAI
set_option linter.unusedSimpArgs false
set_option linter.unusedVariables false
namespace Go.Proofs
namespace House
open Go Go.RowKit Go.Aev
set_option maxRecDepth 100000
theorem TY_EvH11:type_of% TY_EvH10:=TY_EvH10
structure Pg where
 way:Int
 back:Bool
 fr:Int
 to:Int
 secs:Int
 door:Int
structure Gt where
 way:Int
 fr:Int
 to:Int
 secs:Int
 door:Int
end House
end Go.Proofs
