/- The document: which instructions are in form. (Written by mk_f.py.) -/
import Derived.Test.YtigfjjolfeenaaaDoorIaa
import Derived.Test.YtigfjjolfeenaaaDoorIab
import Derived.Test.YtigfjjolfeenaaaDoorIac
import Derived.Test.YtigfjjolfeenaaaDoorIad
import Derived.Test.YtigfjjolfeenaaaDoorIae
import Derived.Test.YtigfjjolfeenaaaDoorIaf
namespace Go.Proofs.YtigfjjolfeenaaaDoor.Ck
open Go.RowKit

theorem rinstr_ok {w : World} {vP vC vF vB : Value} {c : Cd} (h : Cv w vP vC vF vB c) (hs : Sml c) (x : In5) (hx : InX x) (ha0 : 0 ≤ x.at_) (ha1 : x.at_ ≤ 8192) :
    Calls Tryd.prog 21 #[codeA vP vC vF vB c, .agg #[.int .i64 x.op, .int .i64 x.a, .int .i64 x.b, .int .u64 x.bits, .int .i64 x.at_]] w (Vb w (.bool (insX c x))) := by
  by_cases ha : x.op = 1 ∨ x.op = 2 ∨ x.op = 3 ∨ x.op = 4 ∨ x.op = 5 ∨ x.op = 6 ∨ x.op = 7
  · exact insX_Iaa h hs x hx ha ha0 ha1
  by_cases hb : x.op = 8
  · exact insX_Iab h hs x hx hb ha0 ha1
  by_cases hc : x.op = 9
  · exact insX_Iac h hs x hx hc ha0 ha1
  by_cases hd : x.op = 10 ∨ x.op = 11 ∨ x.op = 12 ∨ x.op = 13 ∨ x.op = 14 ∨ x.op = 15 ∨ x.op = 16
  · exact insX_Iad h hs x hx hd ha0 ha1
  by_cases he : x.op = 17 ∨ x.op = 18 ∨ x.op = 19 ∨ x.op = 20 ∨ x.op = 21 ∨ x.op = 22 ∨ x.op = 23 ∨ x.op = 24 ∨ x.op = 25 ∨ x.op = 26
  · exact insX_Iae h hs x hx he ha0 ha1
  · exact insX_Iaf h hs x hx (by omega) ha0 ha1
end Go.Proofs.YtigfjjolfeenaaaDoor.Ck
