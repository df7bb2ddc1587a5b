/- Package proofread: change. (Written by mk_j.py.) -/
import Derived.Test.YtlheflkdapckbaaDoorPga
import Derived.Test.YtlheflkdapckbaaDoorPgb
import Derived.Test.YtlheflkdapckbaaDoorPgc
import Derived.Test.YtlheflkdapckbaaDoorPgd
import Derived.Test.YtlheflkdapckbaaDoorPge
import Derived.Test.YtlheflkdapckbaaDoorPgf
import Derived.Test.YtlheflkdapckbaaDoorPgg
import Derived.Test.YtlheflkdapckbaaDoorPgh
import Derived.Test.YtlheflkdapckbaaDoorPgi
namespace Go.Proofs.YtlheflkdapckbaaDoor.Ck
open Go.RowKit

def insA (x : In5) : Value := .agg #[.int .i64 x.op, .int .i64 x.a, .int .i64 x.b, .int .u64 x.bits, .int .i64 x.at_]
theorem change_any {w0 w : World} {p : List Addr} {g b : Nat} {vP vC vF vB vLo vM vS vL v : Value} {c : Cd} {f : Fn3} {hi : Int} {s : List Int} (h : Cg w0 w p g b vP vC vF vB c f vLo hi vM vS vL v s) (fm : Fm c) (x : In5) (hx : insB c x = true) (ho : x.op ≠ 12 ∧ x.op ≠ 13 ∧ x.op ≠ 14 ∧ x.op ≠ 25 ∧ x.op ≠ 26) :
    Calls Tryd.prog 47 #[.pointer (some ⟨g, 0, none⟩), .pointer (some ⟨b, 0, none⟩), insA x] w (GkP p w b w0.heap.size (changeM c f.lo x s)) := by
  obtain ⟨op, a, b', bits, at_⟩ := x
  obtain ⟨q4, q6, q8, q10, q11, _, _, q17, q22, r1, r2⟩ := insB_at hx
  simp only at ho
  unfold insA
  simp only
  have hop : op = 1 ∨ op = 2 ∨ op = 3 ∨ op = 4 ∨ op = 5 ∨ op = 6 ∨ op = 7 ∨ op = 8 ∨ op = 9 ∨ op = 10 ∨ op = 11 ∨ op = 15 ∨ op = 16 ∨ op = 17 ∨ op = 18 ∨ op = 19 ∨ op = 20 ∨ op = 21 ∨ op = 22 ∨ op = 23 ∨ op = 24 := by omega
  rcases hop with rfl | rfl | rfl | rfl | rfl | rfl | rfl | rfl | rfl | rfl | rfl | rfl | rfl | rfl | rfl | rfl | rfl | rfl | rfl | rfl | rfl
  · exact change_1 h a b' bits at_
  · exact change_2 h a b' bits at_
  · exact change_3 h a b' bits at_
  · obtain ⟨n, rfl, _⟩ := inI_of (q4 (by decide))
    exact change_4 h n b' bits at_
  · obtain ⟨n, rfl, _⟩ := inI_of (q4 (by decide))
    exact change_5 h n b' bits at_
  · obtain ⟨n, rfl, hn⟩ := in_of (q6 (by decide))
    exact change_6 h n b' bits at_ hn
  · obtain ⟨n, rfl, hn⟩ := in_of (q6 (by decide))
    exact change_7 h n b' bits at_ hn
  · obtain ⟨n, rfl, hn⟩ := in_of (q8 (by decide))
    exact change_8 h n b' bits at_ hn
  · obtain ⟨n, rfl, hn⟩ := in_of (q8 (by decide))
    exact change_9 h n b' bits at_ hn
  · exact change_10 h a b' bits at_ (q10 rfl).1 (q10 rfl).2
  · exact change_11 h a b' bits at_ (q11 rfl).1 (q11 rfl).2
  · exact change_15 h a b' bits at_
  · exact change_16 h a b' bits at_
  · obtain ⟨n, rfl, hn⟩ := in_of (q17 (by decide))
    exact change_17 h n b' bits at_ hn
  · obtain ⟨n, rfl, hn⟩ := in_of (q17 (by decide))
    exact change_18 h n b' bits at_ hn
  · exact change_19 h a b' bits at_
  · exact change_20 h a b' bits at_
  · exact change_21 h a b' bits at_
  · obtain ⟨n, rfl, hn⟩ := in_of (q22 (by decide))
    exact change_22 h n b' bits at_ hn fm
  · obtain ⟨n, rfl, hn⟩ := in_of (q22 (by decide))
    exact change_23 h n b' bits at_ hn fm
  · exact change_24 h a b' bits at_
end Go.Proofs.YtlheflkdapckbaaDoor.Ck
