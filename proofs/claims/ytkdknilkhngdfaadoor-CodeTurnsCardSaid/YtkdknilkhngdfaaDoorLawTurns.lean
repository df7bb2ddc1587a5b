/- CodeTurns walked. -/
import Derived.Test.YtkdknilkhngdfaaDoorCq
namespace Go.Proofs.YtkdknilkhngdfaaDoor.Ck
open Go.RowKit

theorem wrapU_nonneg (m : Int) : 0 ≤ IntKind.u64.wrap m := by
  first
  | (simp [IntKind.wrap]; omega)
  | (unfold IntKind.wrap; simp [IntKind.signed, IntKind.bits]; omega)
theorem many_of (m : Int) : ∃ n : Nat, 1 ≤ n ∧ n ≤ 50 ∧ wrap64 (1 + wrap64 ((IntKind.u64.wrap m).tmod 50)) = (n : Int) := by
  have h := wrapU_nonneg m
  generalize IntKind.u64.wrap m = x at *
  rw [Int.tmod_eq_emod_of_nonneg h]
  exact ⟨(1 + x % 50).toNat, by omega, by omega, by unfold wrap64; omega⟩
/-- the code that is made, of some instructions: W the world before it -/
structure Tst (W w : World) (p : List Addr) (v : Value) (B : List In5) : Prop where
  F : w.heap[W.heap.size]? = some (.cells #[.int .i64 0, .int .i64 0, .slice none 0 0] 55 (0, 0))
  C : w.heap[W.heap.size + 1]? = some (.cells #[.slice none 0 0, .int .i64 0, .int .i64 0, .slice none 0 0, .slice (some ⟨W.heap.size, 0, none⟩) 1 1, .int .i64 0, v] 27 (0, 0))
  own : OwnB w (W.heap.size + 1 + 1) v B
  bel : Below W.heap.size W w
  er : Ec w p
theorem Tst.size {W w : World} {p : List Addr} {v : Value} {B : List In5} (h : Tst W w p v B) : W.heap.size + 1 + 1 ≤ w.heap.size := by have := lt_of_blk h.C; omega
theorem Tst.bl {W w w' : World} {p : List Addr} {v : Value} {B : List In5} (h : Tst W w p v B) (hb : Below w.heap.size w w') : Tst W w' p v B :=
  ⟨(hb.block _ (lt_of_blk h.F)).trans h.F, (hb.block _ (lt_of_blk h.C)).trans h.C, h.own.below hb, h.bel.trans (hb.mono h.bel.size), h.er.bel hb⟩
theorem Tst.start {W : World} {p : List Addr} (hc : Ec W p) : Tst W ((W.alloc (.cells #[.int .i64 0, .int .i64 0, .slice none 0 0] 55)).alloc (.cells #[.slice none 0 0, .int .i64 0, .int .i64 0, .slice none 0 0, .slice (some ⟨W.heap.size, 0, none⟩) 1 1, .int .i64 0, .slice none 0 0] 27)) p (.slice none 0 0) [] := by
  have b1 := bel_new W (.cells #[.int .i64 0, .int .i64 0, .slice none 0 0] 55)
  have k1 : (W.alloc (.cells #[.int .i64 0, .int .i64 0, .slice none 0 0] 55)).heap[W.heap.size]? = some (.cells #[.int .i64 0, .int .i64 0, .slice none 0 0] 55 (0, 0)) := Go.Deep.blk_alloc_new _ _
  have s1 : (W.alloc (.cells #[.int .i64 0, .int .i64 0, .slice none 0 0] 55)).heap.size = W.heap.size + 1 := by simp
  generalize W.alloc (.cells #[.int .i64 0, .int .i64 0, .slice none 0 0] 55) = w1 at *
  have b2 := bel_new w1 (.cells #[.slice none 0 0, .int .i64 0, .int .i64 0, .slice none 0 0, .slice (some ⟨W.heap.size, 0, none⟩) 1 1, .int .i64 0, .slice none 0 0] 27)
  have k2 : (w1.alloc (.cells #[.slice none 0 0, .int .i64 0, .int .i64 0, .slice none 0 0, .slice (some ⟨W.heap.size, 0, none⟩) 1 1, .int .i64 0, .slice none 0 0] 27)).heap[w1.heap.size]? = some (.cells #[.slice none 0 0, .int .i64 0, .int .i64 0, .slice none 0 0, .slice (some ⟨W.heap.size, 0, none⟩) 1 1, .int .i64 0, .slice none 0 0] 27 (0, 0)) := Go.Deep.blk_alloc_new _ _
  rw [s1] at k2
  exact ⟨(b2.block _ (by omega)).trans k1, k2, OwnB.nil _ _, bel_trans b1 b2, (hc.bel b1).bel b2⟩
/-- an instruction more -/
theorem Tst.push {W w : World} {p : List Addr} {v : Value} {B : List In5} (h : Tst W w p v B) (x : In5) (b : Nat) (hb : w.heap[b]? = some (.cells #[.int .i64 x.op, .int .i64 x.a, .int .i64 x.b, .int .u64 x.bits, .int .i64 x.at_] 58 (0, 0))) (hl : B.length ≤ 1000) (he : 8 < W.heap.size) (ty : TypeId) :
    ∃ v' w', (Builtin.append_ #[25, 25] ty #[v, .slice (some ⟨b, 0, none⟩) 1 1]).run Tryd.prog w = .ok v' w' ∧
      (∃ a c, v' = .slice a (B.length + 1) c ∧ w'.cell? ⟨W.heap.size + 1, 6, none⟩ = some v ∧ w'.frozen? ⟨W.heap.size + 1, 6, none⟩ = false ∧ Hid (Tst W (w'.setCell ⟨W.heap.size + 1, 6, none⟩ v') p v' (B ++ [x]))) := by
  obtain ⟨v', w', hr, ho, hbl⟩ := pushB h.own x b 1 hb (by omega) h.size ty
  have hC := (hbl.block _ (by omega)).trans h.C
  have hF := (hbl.block _ (by omega)).trans h.F
  obtain ⟨a, c, e⟩ := ho.len
  rw [List.length_append, List.length_singleton] at e
  obtain ⟨k1, t1⟩ := set1 hC 6 v'
  have b0 : Below W.heap.size W w' := h.bel.trans (hbl.mono (by omega))
  have he2 : Ec w' p := (hbl.cell (p := ⟨8, 0, none⟩) (by show 8 < _; omega)).trans h.er
  refine ⟨v', w', hr, a, c, e, blk_cell hC 6 _ rfl, blk_frz hC 6, hide ⟨(t1.blk _ (lt_of_blk hF) (by omega)).trans hF, k1, ho.tn t1 (by omega), b0.trans (t1.bel (by omega) b0.size), ?_⟩⟩
  exact ((t1.bel (B := W.heap.size) (by omega) b0.size).cell (p := ⟨8, 0, none⟩) he).trans he2
theorem Tst.check {W w : World} {p : List Addr} {v : Value} {B : List In5} (h : Tst W w p v B) (hI : ∀ x ∈ B, InX x) (hl : B.length ≤ 1000) : Calls Tryd.prog 12 #[.agg #[.slice none 0 0, .int .i64 0, .int .i64 0, .slice none 0 0, .slice (some ⟨W.heap.size, 0, none⟩) 1 1, .int .i64 0, v]] w fun e w' => e = .returned (erK p (formB (oneF B))) ∧ Below w.heap.size w w' :=
  check_any h.er (Cv.one h.F (h.own.sl (by omega)) hI (by omega))
set_option maxRecDepth 20000 in
set_option maxHeartbeats 4000000 in
theorem turns_main {w : World} {p : List Addr} (m at_ : Int) (hc : Ec w p) : Calls Tryd.prog 8 #[.int .i64 m, .int .i64 at_] w (Vb w (.bool true)) := by
  have AL := hide (alive_any hc)
  have HC := hide hc
  obtain ⟨n, hn1, hn2, hn⟩ := many_of m
  have HN := hide hn
  clear hc hn
  go_enter Tryd.func8, Tryd.ntmps8
  go_wp2_with fail
  refine AL.out.mono ?_
  rintro e W ⟨rfl, b1⟩
  have B1 := hide b1
  have S0 := hide (Tst.start (HC.out.bel b1))
  have hg := hide (Nat.lt_of_lt_of_le (World.block_lt_of_cell? w _ HC.out) b1.size)
  clear b1 AL HC
  go_wp2_with fail
  generalize (W.alloc (.cells #[.int .i64 0, .int .i64 0, .slice none 0 0] 55)).alloc (.cells #[.slice none 0 0, .int .i64 0, .int .i64 0, .slice none 0 0, .slice (some ⟨W.heap.size, 0, none⟩) 1 1, .int .i64 0, .slice none 0 0] 27) = w0 at *
  rw [HN.out]
  clear HN
  go_loopw [17] (fun i wr => ∃ (k : Nat) (v : Value), k ≤ n ∧ i = .int .i64 k ∧ Hid (Tst W wr p v (List.replicate k ⟨24, 0, 0, 0, 0⟩))) (fun i _ => n - (intOf i).toNat)
  case atStart => exact ⟨0, _, Nat.zero_le _, rfl, S0.out⟩
  case round =>
    obtain ⟨k, v, hk, rfl, I⟩ := hrel
    clear S0
    obtain ⟨av, cv, ev⟩ := I.out.own.len
    rw [List.length_replicate] at ev
    subst ev
    by_cases hlt : k < n
    · have h1 : (k : Int) < (n : Int) := by omega
      have I2 := I.out.bl (bel_new wr (.cells #[.int .i64 24, .int .i64 0, .int .i64 0, .int .u64 0, .int .i64 0] 58))
      have PU := hide (fun ty => I2.push ⟨24, 0, 0, 0, 0⟩ wr.heap.size (Go.Deep.blk_alloc_new wr (.cells #[.int .i64 24, .int .i64 0, .int .i64 0, .int .u64 0, .int .i64 0] 58)) (by simp; omega) hg.out ty)
      rw [List.length_replicate, ← List.replicate_succ'] at PU
      have c6 := blk_cell I.out.C 6 _ rfl
      clear I I2
      go_wp2_with (first | (at_builtin; refine wpList_appB (.tmp 20) (.tmp 22) _ _ _ PU.out rfl rfl rfl rfl ?_; rintro v7 w7 ⟨a7, c7, rfl, d6, f6, I7⟩))
      generalize w7.setCell ⟨W.heap.size + 1, 6, none⟩ (.slice a7 (k + 1) c7) = w8 at *
      go_roundw
      case rel => exact ⟨k + 1, _, by omega, by go_num, I7.out⟩
      case measure => simp [intOf]; omega
    · obtain rfl : k = n := by omega
      obtain ⟨g0, g1, g2, g3, g4, g5, g6⟩ := cells7 I.out.C
      have hI : ∀ x ∈ List.replicate k (⟨24, 0, 0, 0, 0⟩ : In5), InX x := fun x hx => by
        rw [List.eq_of_mem_replicate hx]
        exact inX_of (by decide) (by decide) (by decide)
      have HI := hide hI
      have CK := hide (I.out.check hI (by simp; omega))
      rw [turns_form hn1 hn2] at CK
      clear hI
      go_wp2_with fail
      refine CK.out.mono ?_
      rintro e w9 ⟨rfl, b9⟩
      have I9 := hide (I.out.bl b9)
      clear b9 CK I g0 g1 g2 g3 g4 g5 g6
      rw [show erK p true = .nilIface from rfl]
      have I2 := I9.out.bl (bel_new w9 (.cells #[.int .i64 25, .int .i64 0, .int .i64 0, .int .u64 0, .int .i64 at_] 58))
      have PU := hide (fun ty => I2.push ⟨25, 0, 0, 0, at_⟩ w9.heap.size (Go.Deep.blk_alloc_new w9 (.cells #[.int .i64 25, .int .i64 0, .int .i64 0, .int .u64 0, .int .i64 at_] 58)) (by simp; omega) hg.out ty)
      rw [List.length_replicate] at PU
      have c6 := blk_cell I9.out.C 6 _ rfl
      clear I9 I2
      go_wp2_with (first | (at_builtin; refine wpList_appB (.tmp 30) (.tmp 33) _ _ _ PU.out rfl rfl rfl rfl ?_; rintro v7 w7 ⟨a7, c7, rfl, d6, f6, I7⟩; obtain ⟨g0, g1, g2, g3, g4, g5, g6⟩ := cells7 I7.out.C))
      generalize w7.setCell ⟨W.heap.size + 1, 6, none⟩ (.slice a7 (k + 1) c7) = w8 at *
      have CK := hide (I7.out.check (fun x hx => by
        rcases List.mem_append.1 hx with h | h
        · exact HI.out x h
        · have : x = ⟨25, 0, 0, 0, at_⟩ := by simpa using h
          subst this
          exact inX_of (by decide) (by decide) (by decide)) (by simp; omega))
      rw [turns_at hn1 hn2] at CK
      clear PU c6 g0 g1 g2 g3 g4 g5 g6 d6 f6
      refine CK.out.mono ?_
      rintro e w10 ⟨rfl, b10⟩
      have B10 := hide (bel_trans B1.out (I7.out.bel.trans (b10.mono I7.out.bel.size)))
      clear b10 CK I7 HI
      by_cases ha : 0 ≤ at_
      · by_cases hb : at_ ≤ 8192
        · rw [show erK p (decide (0 ≤ at_ ∧ at_ ≤ 8192)) = .nilIface by rw [decide_eq_true ⟨ha, hb⟩]; rfl]
          go_wp2_with fail
          go_ret
          exact Vb.mk (by simp) B10.out
        · rw [show erK p (decide (0 ≤ at_ ∧ at_ ≤ 8192)) = .iface 128 (.pointer (some (adr p 8))) by rw [decide_eq_false (fun h => hb h.2)]; rfl]
          have hb' : decide (at_ ≤ 8192) = false := decide_eq_false hb
          clear hb
          go_wp2_with fail
          go_ret
          exact Vb.mk (by simp) B10.out
      · rw [show erK p (decide (0 ≤ at_ ∧ at_ ≤ 8192)) = .iface 128 (.pointer (some (adr p 8))) by rw [decide_eq_false (fun h => ha h.1)]; rfl]
        have ha' : decide (0 ≤ at_) = false := decide_eq_false ha
        clear ha
        go_wp2_with fail
        go_ret
        exact Vb.mk (by simp) B10.out
end Go.Proofs.YtkdknilkhngdfaaDoor.Ck
