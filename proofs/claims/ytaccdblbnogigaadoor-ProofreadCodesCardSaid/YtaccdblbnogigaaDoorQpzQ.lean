/- The document's package of layer 16: Step, whichever instruction. -/
import Derived.Test.YtaccdblbnogigaaDoorGq15
import Derived.Test.YtaccdblbnogigaaDoorGq16
import Derived.Test.YtaccdblbnogigaaDoorGq17
import Derived.Test.YtaccdblbnogigaaDoorGq18
import Derived.Test.YtaccdblbnogigaaDoorQpkQ
import Derived.Test.YtaccdblbnogigaaDoorQplQ
import Derived.Test.YtaccdblbnogigaaDoorQpmQ
import Derived.Test.YtaccdblbnogigaaDoorQpnQ
import Derived.Test.YtaccdblbnogigaaDoorQpoQ
import Derived.Test.YtaccdblbnogigaaDoorQppQ
import Derived.Test.YtaccdblbnogigaaDoorQpqQ
namespace Go.Proofs.YtaccdblbnogigaaDoor.Ck
open Go.RowKit

theorem rstep_any {w : World} {vP vC vF vB vLo v : Value} {c : Cd} {f : Fn3} {x : In5} {s : List Int} (h : Cv w vP vC vF vB c) (hlo : Sl w vLo f.lo) (hs : Sl w v s) (hx : insB c x = true) (hl : s.length ≤ 64) (ty : Ty3 s) (T : TyC c) (hT : Ty3 f.lo) : Calls Tryd.prog 17 #[codeA vP vC vF vB c, .agg #[.int .i64 f.st, .int .i64 f.pa, vLo], .agg #[.int .i64 x.op, .int .i64 x.a, .int .i64 x.b, .int .u64 x.bits, .int .i64 x.at_], v] w (StpP w v s (stepD c f.lo x s)) := by
  obtain ⟨_, _, _, q10, q11, _, _, _, _, q1, q2⟩ := insB_at (show insB c ⟨x.op, x.a, x.b, x.bits, x.at_⟩ = true from hx)
  by_cases e10 : x.op = 10
  · have ha := q10 e10
    by_cases a1 : x.a = 1
    · exact rstep_10_1 h hlo hs hx hl ty e10 a1
    by_cases a2 : x.a = 2
    · exact rstep_10_2 h hlo hs hx hl ty e10 a2
    by_cases a3 : x.a = 3
    · exact rstep_10_3 h hlo hs hx hl ty e10 a3
    exact rstep_10_4 h hlo hs hx hl ty e10 (by omega)
  by_cases e11 : x.op = 11
  · have ha := q11 e11
    by_cases a1 : x.a = 1
    · exact rstep_11_1 h hlo hs hx hl ty e11 a1
    by_cases a2 : x.a = 2
    · exact rstep_11_2 h hlo hs hx hl ty e11 a2
    by_cases a3 : x.a = 3
    · exact rstep_11_3 h hlo hs hx hl ty e11 a3
    by_cases a4 : x.a = 4
    · exact rstep_11_4 h hlo hs hx hl ty e11 a4
    by_cases a5 : x.a = 5
    · exact rstep_11_5 h hlo hs hx hl ty e11 a5
    by_cases a6 : x.a = 6
    · exact rstep_11_6 h hlo hs hx hl ty e11 a6
    by_cases a7 : x.a = 7
    · exact rstep_11_7 h hlo hs hx hl ty e11 a7
    by_cases a8 : x.a = 8
    · exact rstep_11_8 h hlo hs hx hl ty e11 a8
    by_cases a9 : x.a = 9
    · exact rstep_11_9 h hlo hs hx hl ty e11 a9
    by_cases a10 : x.a = 10
    · exact rstep_11_10 h hlo hs hx hl ty e11 a10
    exact rstep_11_11 h hlo hs hx hl ty e11 (by omega)
  by_cases e : x.op = 1
  · exact rstep_1 h hlo hs hx hl ty e
  by_cases e : x.op = 2
  · exact rstep_2 h hlo hs hx hl ty e
  by_cases e : x.op = 3
  · exact rstep_3 h hlo hs hx hl ty e
  by_cases e : x.op = 4
  · exact rstep_4 h hlo hs hx hl ty e hT
  by_cases e : x.op = 5
  · exact rstep_5 h hlo hs hx hl ty e hT
  by_cases e : x.op = 6
  · exact rstep_6 h hlo hs hx hl ty e T
  by_cases e : x.op = 7
  · exact rstep_7 h hlo hs hx hl ty e T
  by_cases e : x.op = 8
  · exact rstep_8 h hlo hs hx hl ty e T
  by_cases e : x.op = 9
  · exact rstep_9 h hlo hs hx hl ty e T
  by_cases e : x.op = 12
  · exact rstep_12 h hlo hs hx hl ty e
  by_cases e : x.op = 13
  · exact rstep_13 h hlo hs hx hl ty e
  by_cases e : x.op = 14
  · exact rstep_14 h hlo hs hx hl ty e
  by_cases e : x.op = 15
  · exact rstep_15 h hlo hs hx hl ty e
  by_cases e : x.op = 16
  · exact rstep_16 h hlo hs hx hl ty e
  by_cases e : x.op = 17
  · exact rstep_17 h hlo hs hx hl ty e T
  by_cases e : x.op = 18
  · exact rstep_18 h hlo hs hx hl ty e T
  by_cases e : x.op = 19
  · exact rstep_19 h hlo hs hx hl ty e
  by_cases e : x.op = 20
  · exact rstep_20 h hlo hs hx hl ty e
  by_cases e : x.op = 21
  · exact rstep_21 h hlo hs hx hl ty e
  by_cases e : x.op = 22
  · exact rstep_22 h hlo hs hx hl ty e T
  by_cases e : x.op = 23
  · exact rstep_23 h hlo hs hx hl ty e T
  by_cases e : x.op = 24
  · exact rstep_24 h hlo hs hx hl ty e
  by_cases e : x.op = 25
  · exact rstep_25 h hlo hs hx hl ty e
  exact rstep_26 h hlo hs hx hl ty (by omega)
end Go.Proofs.YtaccdblbnogigaaDoor.Ck
