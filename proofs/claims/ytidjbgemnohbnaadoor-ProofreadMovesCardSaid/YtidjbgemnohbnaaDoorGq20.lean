/- Texts of this proof, packed. -/
import Derived.Test.YtidjbgemnohbnaaDoorGq13
import Derived.Deep.CutBlock
import Derived.Deep.CutRange
/- The document: which instructions are in form. (Written by mk_f.py.) -/
namespace Go.Proofs.YtidjbgemnohbnaaDoor.Ck
open Go.RowKit

theorem rin_any (n k : Int) (w : World) : Calls Tryd.prog 19 #[.int .i64 n, .int .i64 k] w fun e w' => e = .returned (.bool (inI n k)) ∧ w = w' := by
  unfold inI
  by_cases h : 0 ≤ n
  · have d : decide (0 ≤ n) = true := decide_eq_true h
    rw [d]
    go_enter Tryd.func19, Tryd.ntmps19
    go_wp2_with fail
    go_ret
    exact ⟨by simp, rfl⟩
  · have d : decide (0 ≤ n) = false := decide_eq_false h
    rw [d]
    go_enter Tryd.func19, Tryd.ntmps19
    go_wp2_with fail
    go_ret
    exact ⟨by simp, rfl⟩
theorem inN_I (n : Int) (k : Nat) : inN n k = inI n (k : Int) := rfl
theorem rtyp_any (n : Int) (w : World) : Calls Tryd.prog 20 #[.int .i64 n] w fun e w' => e = .returned (.bool (typB n)) ∧ w = w' := by
  unfold typB
  by_cases h : 1 ≤ n
  · have d : decide (1 ≤ n) = true := decide_eq_true h
    rw [d]
    go_enter Tryd.func20, Tryd.ntmps20
    go_wp2_with fail
    go_ret
    exact ⟨by simp, rfl⟩
  · have d : decide (1 ≤ n) = false := decide_eq_false h
    rw [d]
    go_enter Tryd.func20, Tryd.ntmps20
    go_wp2_with fail
    go_ret
    exact ⟨by simp, rfl⟩
/-- an instruction's form, but for the place -/
def insX (c : Cd) (x : In5) : Bool := if x.op = 1 then decide (0 ≤ x.a) && (x.b == 0 && x.bits == 0)
  else if x.op = 2 then x.a == 0 && x.b == 0
  else if x.op = 3 then inI x.a 2 && (x.b == 0 && x.bits == 0)
  else if x.op = 4 ∨ x.op = 5 then inI x.a 32 && (x.b == 0 && x.bits == 0)
  else if x.op = 6 ∨ x.op = 7 then inN x.a c.P.length && (x.b == 0 && x.bits == 0)
  else if x.op = 8 ∨ x.op = 9 then (decide (1 ≤ x.b) && decide (x.b ≤ 64) && inN x.a c.P.length && decide (x.b ≤ (c.P.length : Int) - x.a) && rowB c.P x.a x.b) && x.bits == 0
  else if x.op = 10 then (decide (1 ≤ x.a) && decide (x.a ≤ 4)) && (x.b == 0 && x.bits == 0)
  else if x.op = 11 then (decide (1 ≤ x.a) && decide (x.a ≤ 11)) && (x.b == 0 && x.bits == 0)
  else if x.op = 12 then inN x.a c.B.length && (x.b == 0 && x.bits == 0)
  else if x.op = 13 ∨ x.op = 14 then inN x.a c.B.length && inI x.b 2 && x.bits == 0
  else if x.op = 15 ∨ x.op = 16 then inI x.a c.M && (x.b == 0 && x.bits == 0)
  else if x.op = 17 ∨ x.op = 18 then inN x.a c.C.length && (x.b == 0 && x.bits == 0)
  else if x.op = 19 ∨ x.op = 20 ∨ x.op = 21 then inI x.a c.A && (x.b == 0 && x.bits == 0)
  else if x.op = 22 ∨ x.op = 23 then inN x.a c.F.length && (x.b == 0 && x.bits == 0)
  else if x.op = 24 ∨ x.op = 25 ∨ x.op = 26 then x.a == 0 && (x.b == 0 && x.bits == 0)
  else false
theorem insX_10 (c : Cd) (a b bits at_ : Int) : insX c ⟨10, a, b, bits, at_⟩ = ((decide (1 ≤ a) && decide (a ≤ 4)) && (b == 0 && bits == 0)) := rfl
theorem insX_11 (c : Cd) (a b bits at_ : Int) : insX c ⟨11, a, b, bits, at_⟩ = ((decide (1 ≤ a) && decide (a ≤ 11)) && (b == 0 && bits == 0)) := rfl
theorem insX_8 (c : Cd) (a b bits at_ : Int) : insX c ⟨8, a, b, bits, at_⟩ = ((decide (1 ≤ b) && decide (b ≤ 64) && inN a c.P.length && decide (b ≤ (c.P.length : Int) - a) && rowB c.P a b) && bits == 0) := rfl
theorem insX_9 (c : Cd) (a b bits at_ : Int) : insX c ⟨9, a, b, bits, at_⟩ = ((decide (1 ≤ b) && decide (b ≤ 64) && inN a c.P.length && decide (b ≤ (c.P.length : Int) - a) && rowB c.P a b) && bits == 0) := rfl
theorem no_of {k y : Bool} {A B T : Bool} (h : k = false) : (k && y) = (false && (A && (B && T))) := by subst h; rfl
theorem wrap_sub {n : Nat} {a : Int} (h0 : 0 ≤ a) (h1 : a < (n : Int)) (h : n ≤ 100000) : wrap64 ((n : Int) - a) = (n : Int) - a := by unfold wrap64; omega
theorem drew_blk {w wr : World} {q g : Nat} {o : Obj} (hq : wr = w.drewN q) (h : w.heap[g]? = some o) : wr.heap[g]? = some o := by rw [hq]; simpa using h
theorem row_spec {P : List Int} {a b : Int} {p m : Nat} (ha : a = p) (hb : b = m) : ((∀ j, j < m → P.getD (p + j) 0 = P.getD p 0) → rowB P a b = true) ∧ (∀ k, k < m → P.getD (p + k) 0 ≠ P.getD p 0 → rowB P a b = false) := by
  subst ha hb
  unfold rowB
  simp only [Int.toNat_natCast]
  refine ⟨fun h => List.all_eq_true.2 (fun i hi => ?_), fun k hk h => List.all_eq_false.2 ⟨k, List.mem_range.2 hk, ?_⟩⟩
  · rw [h i (List.mem_range.1 hi)]
    simp
  · simpa using h
theorem insX_at {c : Cd} {x : In5} {res : Bool} {k : Int} (h : x.op = k) : (res = insX c x) = (res = insX c ⟨k, x.a, x.b, x.bits, x.at_⟩) := by
  subst h
  rfl
theorem insB_X (c : Cd) (x : In5) : insB c x = (decide (0 ≤ x.at_) && (decide (x.at_ ≤ 8192) && insX c x)) := rfl
end Go.Proofs.YtidjbgemnohbnaaDoor.Ck

/- The document: which instructions are in form: some of them. (Written by mk_f.py.) -/
namespace Go.Proofs.YtidjbgemnohbnaaDoor.Ck
open Go.RowKit

set_option maxRecDepth 20000 in
set_option maxHeartbeats 8000000 in
theorem insX_Iaa {w : World} {vP vC vF vB : Value} {c : Cd} (h : Cv w vP vC vF vB c) (hs : Sml c) (x : In5) (hx : InX x) (ho : x.op = 1 ∨ x.op = 2 ∨ x.op = 3 ∨ x.op = 4 ∨ x.op = 5 ∨ x.op = 6 ∨ x.op = 7) (ha0 : 0 ≤ x.at_) (ha1 : x.at_ ≤ 8192) :
    Calls Tryd.prog 21 #[codeA vP vC vF vB c, .agg #[.int .i64 x.op, .int .i64 x.a, .int .i64 x.b, .int .u64 x.bits, .int .i64 x.at_]] w (Vb w (.bool (insX c x))) := by
  obtain ⟨aP, cP, aC, cC, aF, cF, aB, cB, eP, eC, eF, eB⟩ := h.form
  subst eP eC eF eB
  have V0 := hide h
  have HX := hide hx
  have HSm := hide hs
  have b0 := bel_new w (.cells #[.slice aP c.P.length cP, .int .i64 c.M, .int .i64 c.A, .slice aC c.C.length cC, .slice aF c.F.length cF, .int .i64 c.mn, .slice aB c.B.length cB] 27)
  have b1 := bel_new (w.alloc (.cells #[.slice aP c.P.length cP, .int .i64 c.M, .int .i64 c.A, .slice aC c.C.length cC, .slice aF c.F.length cF, .int .i64 c.mn, .slice aB c.B.length cB] 27)) (.cells #[.int .i64 x.op, .int .i64 x.a, .int .i64 x.b, .int .u64 x.bits, .int .i64 x.at_] 44)
  have hz : (w.alloc (.cells #[.slice aP c.P.length cP, .int .i64 c.M, .int .i64 c.A, .slice aC c.C.length cC, .slice aF c.F.length cF, .int .i64 c.mn, .slice aB c.B.length cB] 27)).heap.size = w.heap.size + 1 := by simp
  have X0 := hide (And.intro ((b1.block _ (by rw [hz]; omega)).trans (show (w.alloc (.cells #[.slice aP c.P.length cP, .int .i64 c.M, .int .i64 c.A, .slice aC c.C.length cC, .slice aF c.F.length cF, .int .i64 c.mn, .slice aB c.B.length cB] 27)).heap[w.heap.size]? = some (.cells #[.slice aP c.P.length cP, .int .i64 c.M, .int .i64 c.A, .slice aC c.C.length cC, .slice aF c.F.length cF, .int .i64 c.mn, .slice aB c.B.length cB] 27 (0, 0)) from Go.Deep.blk_alloc_new _ _)) (And.intro (show ((w.alloc (.cells #[.slice aP c.P.length cP, .int .i64 c.M, .int .i64 c.A, .slice aC c.C.length cC, .slice aF c.F.length cF, .int .i64 c.mn, .slice aB c.B.length cB] 27)).alloc (.cells #[.int .i64 x.op, .int .i64 x.a, .int .i64 x.b, .int .u64 x.bits, .int .i64 x.at_] 44)).heap[w.heap.size + 1]? = some (.cells #[.int .i64 x.op, .int .i64 x.a, .int .i64 x.b, .int .u64 x.bits, .int .i64 x.at_] 44 (0, 0)) by rw [← hz]; exact Go.Deep.blk_alloc_new _ _) (bel_trans b0 b1)))
  have dA : decide (x.at_ < 0) = false := decide_eq_false (by omega)
  have dB : decide (8192 < x.at_) = false := decide_eq_false (by omega)
  obtain ⟨res, hres⟩ : ∃ res, res = insX c x := ⟨_, rfl⟩
  rw [← hres]
  have HR := hide hres
  clear h hx hs b0 b1 hz hres ha0 ha1
  unfold codeA
  go_enter Tryd.func21, Tryd.ntmps21
  go_upto_block 0 with fail
  generalize (w.alloc (.cells #[.slice aP c.P.length cP, .int .i64 c.M, .int .i64 c.A, .slice aC c.C.length cC, .slice aF c.F.length cF, .int .i64 c.mn, .slice aB c.B.length cB] 27)).alloc (.cells #[.int .i64 x.op, .int .i64 x.a, .int .i64 x.b, .int .u64 x.bits, .int .i64 x.at_] 44) = w0 at *
  have g0 : w0.cell? ⟨w.heap.size + 1, 0, none⟩ = some (.int .i64 x.op) := blk_cell X0.out.2.1 0 _ rfl
  have g1 : w0.cell? ⟨w.heap.size + 1, 1, none⟩ = some (.int .i64 x.a) := blk_cell X0.out.2.1 1 _ rfl
  have g2 : w0.cell? ⟨w.heap.size + 1, 2, none⟩ = some (.int .i64 x.b) := blk_cell X0.out.2.1 2 _ rfl
  obtain ⟨k0, k1, k2, k3, k4, k5, k6⟩ := cells7 X0.out.1
  clear dA dB
  go_cut [5, 6, 7, 8] from 9 to 186 (fun xa xb xt xk wc => ∃ A B T K : Bool, xa = .bool A ∧ xb = .bool B ∧ xt = .bool T ∧ xk = .bool K ∧ Hid (res = (K && ((A || x.a == 0) && ((B || x.b == 0) && (T || x.bits == 0)))) ∧ wc.heap[w.heap.size]? = some (.cells #[.slice aP c.P.length cP, .int .i64 c.M, .int .i64 c.A, .slice aC c.C.length cC, .slice aF c.F.length cF, .int .i64 c.mn, .slice aB c.B.length cB] 27 (0, 0)) ∧ wc.heap[w.heap.size + 1]? = some (.cells #[.int .i64 x.op, .int .i64 x.a, .int .i64 x.b, .int .u64 x.bits, .int .i64 x.at_] 44 (0, 0)) ∧ Below w.heap.size w wc))
  case first =>
    rcases ho with o1 | o2 | o3 | o4 | o5 | o6 | o7
    · rw [insX_at o1] at HR
      have t1 : (x.op == 1) = true := by rw [o1]; rfl
      clear o1
      go_wp2_with fail
      go_meet
      case rel => exact ⟨_, _, _, _, rfl, rfl, rfl, rfl, hide ⟨by rw [HR.out]; simp [insX], X0.out⟩⟩
    · rw [insX_at o2] at HR
      have n1 : (x.op == 1) = false := by rw [o2]; rfl
      have t2 : (x.op == 2) = true := by rw [o2]; rfl
      clear o2
      go_wp2_with fail
      go_meet
      case rel => exact ⟨_, _, _, _, rfl, rfl, rfl, rfl, hide ⟨by rw [HR.out]; simp [insX], X0.out⟩⟩
    · rw [insX_at o3] at HR
      have n1 : (x.op == 1) = false := by rw [o3]; rfl
      have n2 : (x.op == 2) = false := by rw [o3]; rfl
      have t3 : (x.op == 3) = true := by rw [o3]; rfl
      clear o3
      go_wp2_with fail
      refine (rin_any _ _ _).mono ?_
      rintro e w5 ⟨rfl, rfl⟩
      go_wp2_with fail
      go_meet
      case rel => exact ⟨_, _, _, _, rfl, rfl, rfl, rfl, hide ⟨by rw [HR.out]; simp [insX, inI], X0.out⟩⟩
    · rw [insX_at o4] at HR
      have n1 : (x.op == 1) = false := by rw [o4]; rfl
      have n2 : (x.op == 2) = false := by rw [o4]; rfl
      have n3 : (x.op == 3) = false := by rw [o4]; rfl
      have t4 : (x.op == 4) = true := by rw [o4]; rfl
      clear o4
      go_wp2_with fail
      refine (rin_any _ _ _).mono ?_
      rintro e w5 ⟨rfl, rfl⟩
      go_wp2_with fail
      go_meet
      case rel => exact ⟨_, _, _, _, rfl, rfl, rfl, rfl, hide ⟨by rw [HR.out]; simp [insX, inI], X0.out⟩⟩
    · rw [insX_at o5] at HR
      have n1 : (x.op == 1) = false := by rw [o5]; rfl
      have n2 : (x.op == 2) = false := by rw [o5]; rfl
      have n3 : (x.op == 3) = false := by rw [o5]; rfl
      have n4 : (x.op == 4) = false := by rw [o5]; rfl
      have t5 : (x.op == 5) = true := by rw [o5]; rfl
      clear o5
      go_wp2_with fail
      refine (rin_any _ _ _).mono ?_
      rintro e w5 ⟨rfl, rfl⟩
      go_wp2_with fail
      go_meet
      case rel => exact ⟨_, _, _, _, rfl, rfl, rfl, rfl, hide ⟨by rw [HR.out]; simp [insX, inI], X0.out⟩⟩
    · rw [insX_at o6] at HR
      have n1 : (x.op == 1) = false := by rw [o6]; rfl
      have n2 : (x.op == 2) = false := by rw [o6]; rfl
      have n3 : (x.op == 3) = false := by rw [o6]; rfl
      have n4 : (x.op == 4) = false := by rw [o6]; rfl
      have n5 : (x.op == 5) = false := by rw [o6]; rfl
      have t6 : (x.op == 6) = true := by rw [o6]; rfl
      clear o6
      go_wp2_with fail
      refine (rin_any _ _ _).mono ?_
      rintro e w5 ⟨rfl, rfl⟩
      go_wp2_with fail
      go_meet
      case rel => exact ⟨_, _, _, _, rfl, rfl, rfl, rfl, hide ⟨by rw [HR.out]; simp [insX, inN, inI], X0.out⟩⟩
    · rw [insX_at o7] at HR
      have n1 : (x.op == 1) = false := by rw [o7]; rfl
      have n2 : (x.op == 2) = false := by rw [o7]; rfl
      have n3 : (x.op == 3) = false := by rw [o7]; rfl
      have n4 : (x.op == 4) = false := by rw [o7]; rfl
      have n5 : (x.op == 5) = false := by rw [o7]; rfl
      have n6 : (x.op == 6) = false := by rw [o7]; rfl
      have t7 : (x.op == 7) = true := by rw [o7]; rfl
      clear o7
      go_wp2_with fail
      refine (rin_any _ _ _).mono ?_
      rintro e w5 ⟨rfl, rfl⟩
      go_wp2_with fail
      go_meet
      case rel => exact ⟨_, _, _, _, rfl, rfl, rfl, rfl, hide ⟨by rw [HR.out]; simp [insX, inN, inI], X0.out⟩⟩
  case rest =>
    obtain ⟨A, B, T, K, rfl, rfl, rfl, rfl, X⟩ := hcut
    clear g0 g1 g2 k0 k1 k2 k3 k4 k5 k6 X0 HR
    have g1 : wc.cell? ⟨w.heap.size + 1, 1, none⟩ = some (.int .i64 x.a) := blk_cell X.out.2.2.1 1 _ rfl
    have g2 : wc.cell? ⟨w.heap.size + 1, 2, none⟩ = some (.int .i64 x.b) := blk_cell X.out.2.2.1 2 _ rfl
    have g3 : wc.cell? ⟨w.heap.size + 1, 3, none⟩ = some (.int .u64 x.bits) := blk_cell X.out.2.2.1 3 _ rfl
    have BX := hide X.out.2.2.2
    have hr := X.out.1
    clear X V0
    obtain ⟨y1, hy1⟩ : ∃ y, (x.a == 0) = y := ⟨_, rfl⟩
    obtain ⟨y2, hy2⟩ : ∃ y, (x.b == 0) = y := ⟨_, rfl⟩
    obtain ⟨y3, hy3⟩ : ∃ y, (x.bits == 0) = y := ⟨_, rfl⟩
    rw [hy1, hy2, hy3] at hr
    cases K <;> cases A <;> cases B <;> cases T <;> cases y1 <;> cases y2 <;> (simp at hr; subst hr; go_wp2_with fail; go_ret; exact ⟨rfl, BX.out⟩)
end Go.Proofs.YtidjbgemnohbnaaDoor.Ck

/- The document: which instructions are in form: some of them. (Written by mk_f.py.) -/
namespace Go.Proofs.YtidjbgemnohbnaaDoor.Ck
open Go.RowKit

set_option maxRecDepth 20000 in
set_option maxHeartbeats 8000000 in
theorem insX_Iab {w : World} {vP vC vF vB : Value} {c : Cd} (h : Cv w vP vC vF vB c) (hs : Sml c) (x : In5) (hx : InX x) (ho : x.op = 8) (ha0 : 0 ≤ x.at_) (ha1 : x.at_ ≤ 8192) :
    Calls Tryd.prog 21 #[codeA vP vC vF vB c, .agg #[.int .i64 x.op, .int .i64 x.a, .int .i64 x.b, .int .u64 x.bits, .int .i64 x.at_]] w (Vb w (.bool (insX c x))) := by
  obtain ⟨aP, cP, aC, cC, aF, cF, aB, cB, eP, eC, eF, eB⟩ := h.form
  subst eP eC eF eB
  have V0 := hide h
  have HO := hide ho
  clear ho
  have HX := hide hx
  have HSm := hide hs
  have b0 := bel_new w (.cells #[.slice aP c.P.length cP, .int .i64 c.M, .int .i64 c.A, .slice aC c.C.length cC, .slice aF c.F.length cF, .int .i64 c.mn, .slice aB c.B.length cB] 27)
  have b1 := bel_new (w.alloc (.cells #[.slice aP c.P.length cP, .int .i64 c.M, .int .i64 c.A, .slice aC c.C.length cC, .slice aF c.F.length cF, .int .i64 c.mn, .slice aB c.B.length cB] 27)) (.cells #[.int .i64 x.op, .int .i64 x.a, .int .i64 x.b, .int .u64 x.bits, .int .i64 x.at_] 44)
  have hz : (w.alloc (.cells #[.slice aP c.P.length cP, .int .i64 c.M, .int .i64 c.A, .slice aC c.C.length cC, .slice aF c.F.length cF, .int .i64 c.mn, .slice aB c.B.length cB] 27)).heap.size = w.heap.size + 1 := by simp
  have X0 := hide (And.intro ((b1.block _ (by rw [hz]; omega)).trans (show (w.alloc (.cells #[.slice aP c.P.length cP, .int .i64 c.M, .int .i64 c.A, .slice aC c.C.length cC, .slice aF c.F.length cF, .int .i64 c.mn, .slice aB c.B.length cB] 27)).heap[w.heap.size]? = some (.cells #[.slice aP c.P.length cP, .int .i64 c.M, .int .i64 c.A, .slice aC c.C.length cC, .slice aF c.F.length cF, .int .i64 c.mn, .slice aB c.B.length cB] 27 (0, 0)) from Go.Deep.blk_alloc_new _ _)) (And.intro (show ((w.alloc (.cells #[.slice aP c.P.length cP, .int .i64 c.M, .int .i64 c.A, .slice aC c.C.length cC, .slice aF c.F.length cF, .int .i64 c.mn, .slice aB c.B.length cB] 27)).alloc (.cells #[.int .i64 x.op, .int .i64 x.a, .int .i64 x.b, .int .u64 x.bits, .int .i64 x.at_] 44)).heap[w.heap.size + 1]? = some (.cells #[.int .i64 x.op, .int .i64 x.a, .int .i64 x.b, .int .u64 x.bits, .int .i64 x.at_] 44 (0, 0)) by rw [← hz]; exact Go.Deep.blk_alloc_new _ _) (bel_trans b0 b1)))
  have dA : decide (x.at_ < 0) = false := decide_eq_false (by omega)
  have dB : decide (8192 < x.at_) = false := decide_eq_false (by omega)
  obtain ⟨res, hres⟩ : ∃ res, res = insX c x := ⟨_, rfl⟩
  rw [← hres]
  have HR := hide hres
  clear h hx hs b0 b1 hz hres ha0 ha1
  unfold codeA
  go_enter Tryd.func21, Tryd.ntmps21
  go_upto_block 0 with fail
  generalize (w.alloc (.cells #[.slice aP c.P.length cP, .int .i64 c.M, .int .i64 c.A, .slice aC c.C.length cC, .slice aF c.F.length cF, .int .i64 c.mn, .slice aB c.B.length cB] 27)).alloc (.cells #[.int .i64 x.op, .int .i64 x.a, .int .i64 x.b, .int .u64 x.bits, .int .i64 x.at_] 44) = w0 at *
  have g0 : w0.cell? ⟨w.heap.size + 1, 0, none⟩ = some (.int .i64 x.op) := blk_cell X0.out.2.1 0 _ rfl
  have g1 : w0.cell? ⟨w.heap.size + 1, 1, none⟩ = some (.int .i64 x.a) := blk_cell X0.out.2.1 1 _ rfl
  have g2 : w0.cell? ⟨w.heap.size + 1, 2, none⟩ = some (.int .i64 x.b) := blk_cell X0.out.2.1 2 _ rfl
  obtain ⟨k0, k1, k2, k3, k4, k5, k6⟩ := cells7 X0.out.1
  clear dA dB
  go_cut [5, 6, 7, 8] from 9 to 186 (fun xa xb xt xk wc => ∃ A B T K : Bool, xa = .bool A ∧ xb = .bool B ∧ xt = .bool T ∧ xk = .bool K ∧ Hid (res = (K && ((A || x.a == 0) && ((B || x.b == 0) && (T || x.bits == 0)))) ∧ wc.heap[w.heap.size]? = some (.cells #[.slice aP c.P.length cP, .int .i64 c.M, .int .i64 c.A, .slice aC c.C.length cC, .slice aF c.F.length cF, .int .i64 c.mn, .slice aB c.B.length cB] 27 (0, 0)) ∧ wc.heap[w.heap.size + 1]? = some (.cells #[.int .i64 x.op, .int .i64 x.a, .int .i64 x.b, .int .u64 x.bits, .int .i64 x.at_] 44 (0, 0)) ∧ Below w.heap.size w wc))
  case first =>
    have o8 := HO.out
    clear HO
    rw [insX_at o8] at HR
    have n1 : (x.op == 1) = false := by rw [o8]; rfl
    have n2 : (x.op == 2) = false := by rw [o8]; rfl
    have n3 : (x.op == 3) = false := by rw [o8]; rfl
    have n4 : (x.op == 4) = false := by rw [o8]; rfl
    have n5 : (x.op == 5) = false := by rw [o8]; rfl
    have n6 : (x.op == 6) = false := by rw [o8]; rfl
    have n7 : (x.op == 7) = false := by rw [o8]; rfl
    have t8 : (x.op == 8) = true := by rw [o8]; rfl
    clear o8
    have hs1 := HSm.out.P
    by_cases l1 : 1 ≤ x.b
    case neg =>
      have d1 : decide (1 ≤ x.b) = false := decide_eq_false l1
      clear hs1
      go_wp2_with fail
      go_loopw [8, 9] (fun xk xi wr => xk = .bool false ∧ xi = .int .i64 0 ∧ Hid (w0 = wr)) (fun _ _ _ => 0)
      case atStart => exact ⟨rfl, rfl, rfl⟩
      case round =>
        obtain ⟨rfl, rfl, hw⟩ := hrel
        obtain rfl := hw.out
        clear hw
        go_wp2_with fail
        go_meet
        case rel => exact ⟨_, _, _, _, rfl, rfl, rfl, rfl, hide ⟨by rw [HR.out, insX_8]; exact (no_of (by rw [d1]; rfl)), X0.out⟩⟩
    have d1 : decide (1 ≤ x.b) = true := decide_eq_true l1
    by_cases l2 : x.b ≤ 64
    case neg =>
      have d2 : decide (x.b ≤ 64) = false := decide_eq_false l2
      clear hs1
      go_wp2_with fail
      go_loopw [8, 9] (fun xk xi wr => xk = .bool false ∧ xi = .int .i64 0 ∧ Hid (w0 = wr)) (fun _ _ _ => 0)
      case atStart => exact ⟨rfl, rfl, rfl⟩
      case round =>
        obtain ⟨rfl, rfl, hw⟩ := hrel
        obtain rfl := hw.out
        clear hw
        go_wp2_with fail
        go_meet
        case rel => exact ⟨_, _, _, _, rfl, rfl, rfl, rfl, hide ⟨by rw [HR.out, insX_8]; exact (no_of (by rw [d1, d2]; rfl)), X0.out⟩⟩
    have d2 : decide (x.b ≤ 64) = true := decide_eq_true l2
    by_cases l3 : 0 ≤ x.a
    case neg =>
      have d3 : decide (0 ≤ x.a) = false := decide_eq_false l3
      clear hs1
      go_wp2_with fail
      go_loopw [8, 9] (fun xk xi wr => xk = .bool false ∧ xi = .int .i64 0 ∧ Hid (w0 = wr)) (fun _ _ _ => 0)
      case atStart => exact ⟨rfl, rfl, rfl⟩
      case round =>
        obtain ⟨rfl, rfl, hw⟩ := hrel
        obtain rfl := hw.out
        clear hw
        go_wp2_with fail
        go_meet
        case rel => exact ⟨_, _, _, _, rfl, rfl, rfl, rfl, hide ⟨by rw [HR.out, insX_8]; exact (no_of (by unfold inN; rw [d1, d2, d3]; rfl)), X0.out⟩⟩
    have d3 : decide (0 ≤ x.a) = true := decide_eq_true l3
    by_cases l4 : x.a < (c.P.length : Int)
    case neg =>
      have d4 : decide (x.a < (c.P.length : Int)) = false := decide_eq_false l4
      clear hs1
      go_wp2_with fail
      go_loopw [8, 9] (fun xk xi wr => xk = .bool false ∧ xi = .int .i64 0 ∧ Hid (w0 = wr)) (fun _ _ _ => 0)
      case atStart => exact ⟨rfl, rfl, rfl⟩
      case round =>
        obtain ⟨rfl, rfl, hw⟩ := hrel
        obtain rfl := hw.out
        clear hw
        go_wp2_with fail
        go_meet
        case rel => exact ⟨_, _, _, _, rfl, rfl, rfl, rfl, hide ⟨by rw [HR.out, insX_8]; exact (no_of (by unfold inN; rw [d1, d2, d3, d4]; rfl)), X0.out⟩⟩
    have d4 : decide (x.a < (c.P.length : Int)) = true := decide_eq_true l4
    by_cases l5 : x.b ≤ (c.P.length : Int) - x.a
    case neg =>
      have d5 : decide (x.b ≤ (c.P.length : Int) - x.a) = false := decide_eq_false l5
      have ws := wrap_sub l3 l4 hs1
      have d5' : decide (x.b ≤ wrap64 ((c.P.length : Int) - x.a)) = false := by rw [ws]; exact d5
      clear hs1
      go_wp2_with fail
      go_loopw [8, 9] (fun xk xi wr => xk = .bool false ∧ xi = .int .i64 0 ∧ Hid (w0 = wr)) (fun _ _ _ => 0)
      case atStart => exact ⟨rfl, rfl, rfl⟩
      case round =>
        obtain ⟨rfl, rfl, hw⟩ := hrel
        obtain rfl := hw.out
        clear hw
        go_wp2_with fail
        go_meet
        case rel => exact ⟨_, _, _, _, rfl, rfl, rfl, rfl, hide ⟨by rw [HR.out, insX_8]; exact (no_of (by unfold inN; rw [d1, d2, d3, d4, d5]; rfl)), X0.out⟩⟩
    have d5 : decide (x.b ≤ (c.P.length : Int) - x.a) = true := decide_eq_true l5
    have ws := wrap_sub l3 l4 hs1
    have d5' : decide (x.b ≤ wrap64 ((c.P.length : Int) - x.a)) = true := by rw [ws]; exact d5
    obtain ⟨m, hm⟩ : ∃ m : Nat, x.b = m := ⟨x.b.toNat, by omega⟩
    obtain ⟨p, hp⟩ : ∃ p : Nat, x.a = p := ⟨x.a.toNat, by omega⟩
    obtain ⟨n, hn⟩ : ∃ n, n = c.P.length := ⟨_, rfl⟩
    have d6 : decide ((m : Int) ≤ (n : Int) - (p : Int)) = true := decide_eq_true (by omega)
    have HP := hide V0.out.P
    have HD : Hid (∀ r, rowB c.P x.a x.b = r → insX c ⟨8, x.a, x.b, x.bits, x.at_⟩ = (r && (x.bits == 0))) := hide (fun r hr => by rw [insX_8, d1, d2, d5, hr]; simp [inN, l3, l4])
    have HRB := hide (row_spec (P := c.P) hp hm)
    rw [hm] at g2 d1 d2 d5'
    rw [hp] at g1 d3 d4 d5' ws
    rw [← hn] at k0 d4 d5' ws
    have hpm : p + m ≤ n := by omega
    have hpn : p < n := by omega
    have d7 : decide (p < n) = true := decide_eq_true hpn
    have hm64 : m ≤ 64 := by omega
    have hn1 : n ≤ 100000 := by omega
    have HN := hide hn
    have HPC := hide (fun i (hi : i < n) => (by
      obtain ⟨_, _, _, e, _, _, hh⟩ := HP.out
      cases e
      exact hh i (by rw [← hn]; exact hi) : ∃ b1 o1, aP = some ⟨b1, o1, none⟩ ∧ b1 < w.heap.size ∧ w.cell? ⟨b1, o1 + i, none⟩ = some (.int .i64 (c.P.getD i 0))))
    obtain ⟨b1, o1, eaP, hb1, _⟩ := HPC.out p (by omega)
    have EAP := hide eaP
    clear eaP
    clear l1 l2 l3 l4 l5 hs1 hp hm hn HP
    go_wp2_with fail
    go_loopw [8, 9] (fun xk xi wr => ∃ (k : Nat) (K : Bool), k ≤ m ∧ xk = .bool K ∧ xi = .int .i64 k ∧ Hid (K = true → ∀ j, j < k → c.P.getD (p + j) 0 = c.P.getD p 0) ∧ Hid (K = false → rowB c.P x.a x.b = false) ∧ Hid (∃ q, wr = w0.drewN q)) (fun xk xi _ => m - (intOf xi).toNat)
    case atStart => exact ⟨0, true, Nat.zero_le _, rfl, rfl, hide (fun _ j hj => absurd hj (Nat.not_lt_zero _)), hide (fun h => by cases h), 0, rfl⟩
    case round =>
      obtain ⟨k, K, hk, rfl, rfl, hy, hno, hw⟩ := hrel
      obtain ⟨q, hq⟩ := hw.out
      have HQ := hide hq
      have gg1 := drew_at hq g1
      have gg2 := drew_at hq g2
      have kk0 := drew_at hq k0
      have XW := hide (And.intro (drew_blk hq X0.out.1) (And.intro (drew_blk hq X0.out.2.1) (bel_trans X0.out.2.2 (show Below w0.heap.size w0 wr by rw [hq]; exact drew_bel _ _))))
      clear hw
      cases K with
      | false =>
        have hr := HD.out _ (hno.out rfl)
        clear hq
        go_wp2_with fail
        go_meet
        case rel => exact ⟨_, _, _, _, rfl, rfl, rfl, rfl, hide ⟨by rw [HR.out, hr]; simp, XW.out⟩⟩
      | true =>
      by_cases hlt : k < m
      · have hlt' : (k : Int) < (m : Int) := by omega
        have d9 : decide ((k : Int) < (m : Int)) = true := decide_eq_true hlt'
        have d10 : decide (k < m) = true := decide_eq_true hlt
        obtain ⟨_, _, e1, _, r1⟩ := HPC.out (p + k) (by omega)
        rw [EAP.out] at e1
        cases e1
        obtain ⟨_, _, e2, _, r2⟩ := HPC.out p (by omega)
        rw [EAP.out] at e2
        cases e2
        have hB0 := X0.out.2.2
        have t1 := drew_at hq ((hB0.cell (p := ⟨b1, o1 + (p + k), none⟩) hb1).trans r1)
        have t2 := drew_at hq ((hB0.cell (p := ⟨b1, o1 + p, none⟩) hb1).trans r2)
        have e1 : wrap64 ((p : Int) + (k : Int)) = ((p + k : Nat) : Int) := by unfold wrap64; omega
        have HY : Hid (c.P.getD (p + k) 0 = c.P.getD p 0 → ∀ j, j < k + 1 → c.P.getD (p + j) 0 = c.P.getD p 0) := hide (fun e j hj => by
          by_cases ej : j = k
          · rw [ej]; exact e
          · exact hy.out rfl j (by omega))
        have HNN : Hid (c.P.getD (p + k) 0 ≠ c.P.getD p 0 → rowB c.P x.a x.b = false) := hide (fun e => HRB.out.2 k hlt e)
        have hi1 : p + k < n := by omega
        have hi2 : p < n := by omega
        rw [EAP.out] at kk0
        clear hy hno hq r1 r2 hB0
        generalize c.P.getD (p + k) 0 = y1 at *
        generalize c.P.getD p 0 = y2 at *
        go_wp2_with fail
        go_quiet (fail)
        go_wp2_with fail
        go_roundw
        case rel => exact ⟨k + 1, _, by omega, rfl, by go_num, hide (fun h => HY.out (eq_of_beq h)), hide (fun h => HNN.out (ne_of_beq_false h)), q + _, drew_more HQ.out _⟩
        case measure => simp [intOf]; omega
      · obtain rfl : k = m := by omega
        have d9 : decide ((k : Int) < (k : Int)) = false := decide_eq_false (by omega)
        have d10 : decide (k < k) = false := decide_eq_false (by omega)
        have hr := HD.out _ (HRB.out.1 (hy.out rfl))
        clear hq
        go_wp2_with fail
        go_meet
        case rel => exact ⟨_, _, _, _, rfl, rfl, rfl, rfl, hide ⟨by rw [HR.out, hr]; simp, XW.out⟩⟩
  case rest =>
    obtain ⟨A, B, T, K, rfl, rfl, rfl, rfl, X⟩ := hcut
    clear g0 g1 g2 k0 k1 k2 k3 k4 k5 k6 X0 HR
    have g1 : wc.cell? ⟨w.heap.size + 1, 1, none⟩ = some (.int .i64 x.a) := blk_cell X.out.2.2.1 1 _ rfl
    have g2 : wc.cell? ⟨w.heap.size + 1, 2, none⟩ = some (.int .i64 x.b) := blk_cell X.out.2.2.1 2 _ rfl
    have g3 : wc.cell? ⟨w.heap.size + 1, 3, none⟩ = some (.int .u64 x.bits) := blk_cell X.out.2.2.1 3 _ rfl
    have BX := hide X.out.2.2.2
    have hr := X.out.1
    clear X V0
    obtain ⟨y1, hy1⟩ : ∃ y, (x.a == 0) = y := ⟨_, rfl⟩
    obtain ⟨y2, hy2⟩ : ∃ y, (x.b == 0) = y := ⟨_, rfl⟩
    obtain ⟨y3, hy3⟩ : ∃ y, (x.bits == 0) = y := ⟨_, rfl⟩
    rw [hy1, hy2, hy3] at hr
    cases K <;> cases A <;> cases B <;> cases T <;> cases y1 <;> cases y2 <;> (simp at hr; subst hr; go_wp2_with fail; go_ret; exact ⟨rfl, BX.out⟩)
end Go.Proofs.YtidjbgemnohbnaaDoor.Ck
