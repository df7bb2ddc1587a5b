/- The contract of the document's Alloc. -/
import Derived.Test.YtndhgdjcbegjdaaDoorRc
import Derived.Test.YtndhgdjcbegjdaaDoorMk
import Derived.Deep.RegionHeld3
namespace Go.Proofs.YtndhgdjcbegjdaaDoor.Ck
open Go.RowKit

theorem mixed : Tryd.prog.follows .mixedOrders = true := by kernel_rfl

/-- an append in a drawn region, by what its run gives -/
theorem step_appV {TS : TypeId} {w : World} {ops : Array Oper} {o : Oper} {a : Act} {K : Act → World → Prop} {Q : Exit → Act → World → Prop} {E : Prop} (s x : Operand) (v vx : Value) (R : Value → World → Prop)
    (hrun : ∀ ty, ∃ v' w', (Builtin.append_ #[TS, TS] ty #[v, vx]).run Tryd.prog w = .ok v' w' ∧ R v' w') (hw : Region.wanted o (yielded ops a.tmps) = true)
    (ho : o.op = .call { callee := .builtin .append, args := #[s, x], argTypes := #[TS, TS] }) (hs : a.eval s = v) (hx : a.eval x = vx)
    (h : ∀ v' w', R v' w' → K (a.put o.dst v') w') : if Region.wanted o (yielded ops a.tmps) = true then Oper.wp Tryd.prog o a w K Q else E := by
  rw [if_pos hw]
  obtain ⟨v', w', hr, hR⟩ := hrun o.type
  unfold Oper.wp execOp
  simp only [ho, resolve, invoke, builtin, Sem.run_bind, Sem.run_pure, Result.andThen_ok, List.map_toArray, List.map_cons, List.map_nil, hs, hx, hr]
  exact h v' w' hR

theorem Rm.in_ {w : World} {gm n : Nat} {v : Value} {H : List Rn} {V : Nat → Int} (h : Rm w gm n v H V) (k : Nat) (hk : k ≤ 100000) :
    Calls Tryd.prog 36 #[.pointer (some ⟨gm, 0, none⟩), .int .i64 k] w fun e w' => (∃ t : Bool, e = .returned (.bool t) ∧ (t = true ↔ ∃ x ∈ H, x.has k)) ∧ Below w.heap.size w w' := by
  obtain ⟨a, cap, rfl, _, _, hR⟩ := h.slice
  refine (rin_any gm a H.length cap (rat H) k hk w h.runsC (by have := h.hl; omega) hR).mono fun e w' ⟨⟨t, he, ht⟩, hb⟩ => ⟨⟨t, he, ht.trans ⟨fun ⟨i, hi, hx⟩ => ⟨rat H i, List.mem_of_getElem? (rat_at H i hi), hx⟩, fun ⟨x, hx, hh⟩ => ?_⟩⟩, hb⟩
  obtain ⟨i, hi, rfl⟩ := List.mem_iff_getElem.1 hx
  exact ⟨i, hi, by have := rat_at H i hi; rw [List.getElem?_eq_getElem hi] at this; rw [← Option.some.inj this]; exact hh⟩

theorem FreeH.zero (H : List Rn) (f : Nat) : FreeH H f 0 := fun k h1 h2 => by omega
theorem FreeH.succ {H : List Rn} {f j : Nat} (h : FreeH H f j) (hn : ¬ ∃ x ∈ H, x.has (f + j)) : FreeH H f (j + 1) := fun k h1 h2 x hx hh => by
  by_cases e : k = f + j
  · exact hn ⟨x, hx, e ▸ hh⟩
  · exact h k h1 (by omega) x hx hh
theorem FreeH.prev {H : List Rn} {f j c : Nat} (h : FreeH H f c) (hj : j ≤ c) : FreeH H f j := fun k h1 h2 => h k h1 (by omega)

def RAlloc (H : List Rn) (n c : Nat) (gm : Nat) (v : Value) (V : Nat → Int) (w : World) (e : Ending) (w' : World) : Prop :=
  (∃ (f b : Nat) (v' : Value), e = .returned (.tuple #[.int .i64 (16 * (f : Int)), .int .i64 0]) ∧ f + c ≤ n ∧ FreeH H f c ∧ (∀ f', f' < f → ¬ FreeH H f' c) ∧ Rm w' gm n v' (H ++ [⟨f, c, b⟩]) V ∧ Ef (blks gm v H) w w' ∧
    ∀ b' ∈ blks gm v' (H ++ [⟨f, c, b⟩]), b' ∈ blks gm v H ∨ w.heap.size ≤ b') ∨
  (e = .returned (.tuple #[.int .i64 0, .int .i64 14]) ∧ (∀ f', f' + c ≤ n → ¬ FreeH H f' c) ∧ Below w.heap.size w w')

set_option maxHeartbeats 4000000 in
theorem ralloc_in (gm n : Nat) (v : Value) (H : List Rn) (V : Nat → Int) (z : Int) (c : Nat) (ec : c = need z) (w : World) (h : Rm w gm n v H V) (hz1 : 1 ≤ z) (hz2 : z ≤ 16 * (n : Int))
    (hV : ∀ f, f + c ≤ n → FreeH H f c → H.length + 1 ≤ 256 ∧ ∀ i, i < 16 * c → V (16 * f + i) = 0) :
    Calls Tryd.prog 25 #[.pointer (some ⟨gm, 0, none⟩), .int .i64 z] w (RAlloc H n c gm v V w) := by
  have hn := h.small
  have hs := h.shareC
  have hnd : ((z + 15).tdiv 16) = (c : Int) := by rw [ec]; unfold need; rw [Int.tdiv_eq_ediv_of_nonneg (by omega)]; omega
  have hd1 : decide (z < 1) = false := decide_eq_false (by omega)
  have hd2 : decide (16 * (n : Int) < z) = false := decide_eq_false (by omega)
  have hc1 : 1 ≤ c := by rw [ec]; unfold need; omega
  have hc2 : c ≤ 256 := by rw [ec]; unfold need; omega
  have HM : Hid (∀ wi, Below w.heap.size w wi → Rm wi gm n v H V) := fun wi hb => h.below hb
  have HV := hide hV
  clear h ec hV
  go_enter Tryd.func25, Tryd.ntmps25
  go_wp2_with fail
  clear hs hd1 hd2 hnd
  go_loopw [7] (fun i wr => ∃ f : Nat, f ≤ n ∧ i = .int .i64 f ∧ Hid (Below w.heap.size w wr ∧ ∀ f', f' < f → ¬ FreeH H f' c)) (fun i _ => n - (intOf i).toNat)
  case atStart => exact ⟨0, Nat.zero_le _, rfl, Below.refl _ _, fun _ h => absurd h (Nat.not_lt_zero _)⟩
  case round =>
    obtain ⟨f, hf, rfl, I⟩ := hrel
    have hs := (HM.out _ I.out.1).shareC
    by_cases hfc : f + c ≤ n
    · have hd : decide ((f : Int) + (c : Int) ≤ (n : Int)) = true := decide_eq_true (by omega)
      go_wp2_with fail
      clear hs hd
      go_loopw [8, 9] (fun b k wi => ∃ (j : Nat) (t : Bool), j ≤ c ∧ b = .bool t ∧ k = .int .i64 ((f : Int) + j) ∧ Hid (Below w.heap.size w wi ∧ (t = true ↔ FreeH H f j))) (fun _ k _ => c - (intOf k - f).toNat)
      case atStart => exact ⟨0, true, Nat.zero_le _, rfl, by simp, I.out.1, fun _ => FreeH.zero H f, fun _ => rfl⟩
      case round =>
        obtain ⟨j, t, hj, rfl, rfl, J⟩ := hrel
        by_cases hjc : j < c
        · have hd : decide ((f : Int) + (j : Int) < (f : Int) + (c : Int)) = true := decide_eq_true (by omega)
          cases t with
          | true =>
            have HC : Hid (Calls Tryd.prog 36 #[.pointer (some ⟨gm, 0, none⟩), .int .i64 ((f : Int) + j)] wr fun e w' => (∃ t : Bool, e = .returned (.bool t) ∧ (t = true ↔ ∃ x ∈ H, x.has (f + j))) ∧ Below wr.heap.size wr w') := by
              have := (HM.out _ J.out.1).in_ (f + j) (by omega)
              rw [show ((f + j : Nat) : Int) = (f : Int) + j by omega] at this
              exact this
            clear HM HV I
            go_wp2_with fail
            refine HC.out.mono ?_
            rintro e w1 ⟨⟨t, rfl, ht⟩, hb1⟩
            have J2 : Hid (Below w.heap.size w w1 ∧ ((!t) = true ↔ FreeH H f (j + 1))) := ⟨bel_trans J.out.1 hb1, fun h => (J.out.2.1 trivial).succ (fun hx => by rw [ht.2 hx] at h; exact absurd h (by simp)), fun h => by
              cases ht' : t with
              | false => rfl
              | true =>
                obtain ⟨x, hx, hh⟩ := ht.1 ht'
                exact absurd hh (h (f + j) (by omega) (by omega) x hx)⟩
            clear HC J ht hb1
            cases t with
            | true =>
              go_wp2_with fail
              go_roundw
              case rel => exact ⟨j + 1, false, by omega, rfl, by go_num, J2.out⟩
              case measure => simp [intOf]; omega
            | false =>
              go_wp2_with fail
              go_roundw
              case rel => exact ⟨j + 1, true, by omega, rfl, by go_num, J2.out⟩
              case measure => simp [intOf]; omega
          | false =>
            have J2 : Hid (Below w.heap.size w wr ∧ (false = true ↔ FreeH H f (j + 1))) := ⟨J.out.1, fun h => absurd h (by simp), fun h => J.out.2.2 (h.prev (by omega))⟩
            clear HM HV I J
            go_wp2_with fail
            go_roundw
            case rel => exact ⟨j + 1, false, by omega, rfl, by go_num, J2.out⟩
            case measure => simp [intOf]; omega
        · have e : j = c := by omega
          subst e
          have hd : decide ((f : Int) + (j : Int) < (f : Int) + (j : Int)) = false := decide_eq_false (by omega)
          cases t with
          | true =>
            have hfree := J.out.2.1 rfl
            obtain ⟨hl1, hV1⟩ := HV.out f hfc hfree
            have HB := hide J.out.1.drew
            have hM := HM.out _ HB.out
            have hrc := hM.runsC
            have hgm := hM.lt gm (by simp [blks])
            have hmk := run_makeRuns (16 * j) (by omega)
            rw [show ((16 * j : Nat) : Int) = 16 * (j : Int) by omega] at hmk
            have hwr : IntKind.i64.wrap (16 * (j : Int)) = 16 * (j : Int) := by rw [IntKind.wrap_i64]; omega
            have PU := hide (fun ty => hM.push f j hfc hl1 hV1 ty)
            have HF := hide (And.intro hfree I.out.2)
            unfold newRun at PU
            clear HM HV hfree hM hl1 hV1 J I
            go_wp2_with fail
            refine wp_region_noPanic ?_
            refine wp_region_any mixed ?_
            change wpAny _ _ _ _ _ _ _ (World.drew _)
            generalize wr.drew = wA at *
            refine wpAny_take (i := 0) (v := ?_) rfl (by kernel_rfl) (by kernel_rfl) (by kernel_rfl) (fun _ _ _ h => h) (Or.inl ⟨by rfl, fun w => ?_⟩) ?_
            rotate_left 1
            · (go_simp <;> with_reducible rfl)
            simp only [Act.put, List.getElem_toArray, List.getElem_cons_zero, List.setIfInBounds_toArray, List.set_cons_zero, List.set_cons_succ]
            refine wpAny_take (i := 1) (v := ?_) rfl (by kernel_rfl) (by kernel_rfl) (by kernel_rfl) (fun _ _ _ h => h) (Or.inl ⟨by rfl, fun w => ?_⟩) ?_
            rotate_left 1
            · (go_simp <;> with_reducible rfl)
            simp only [Act.put, List.getElem_toArray, List.getElem_cons_zero, List.getElem_cons_succ, List.setIfInBounds_toArray, List.set_cons_zero, List.set_cons_succ]
            refine wpAny_take (i := 2) (v := ?_) rfl (by kernel_rfl) (by kernel_rfl) (by kernel_rfl) (fun _ _ _ h => h) (Or.inl ⟨by rfl, fun w => ?_⟩) ?_
            rotate_left 1
            · (go_simp <;> with_reducible rfl)
            simp only [Act.put, List.getElem_toArray, List.getElem_cons_zero, List.getElem_cons_succ, List.setIfInBounds_toArray, List.set_cons_zero, List.set_cons_succ]
            refine wpAny_take (i := 3) (v := ?_) rfl (by kernel_rfl) (by kernel_rfl) (by kernel_rfl) (fun _ _ _ h => h) (Or.inl ⟨by rfl, fun w => ?_⟩) ?_
            rotate_left 1
            · (go_simp <;> with_reducible rfl)
            simp only [Act.put, List.getElem_toArray, List.getElem_cons_zero, List.getElem_cons_succ, List.setIfInBounds_toArray, List.set_cons_zero, List.set_cons_succ]
            refine wpAny_take (i := 5) (v := ?_) rfl (by kernel_rfl) (by kernel_rfl) (by kernel_rfl) (fun _ _ _ h => h) (Or.inl ⟨by rfl, fun w => ?_⟩) ?_
            rotate_left 1
            · (go_simp <;> with_reducible rfl)
            simp only [Act.put, List.getElem_toArray, List.getElem_cons_zero, List.getElem_cons_succ, List.setIfInBounds_toArray, List.set_cons_zero, List.set_cons_succ]
            refine wpAny_take (i := 6) (v := ?_) rfl (by kernel_rfl) (by kernel_rfl) (by kernel_rfl) (fun _ _ _ h => h) (Or.inl ⟨by rfl, fun w => ?_⟩) ?_
            rotate_left 1
            · (go_simp <;> with_reducible rfl)
            simp only [Act.put, List.getElem_toArray, List.getElem_cons_zero, List.getElem_cons_succ, List.setIfInBounds_toArray, List.set_cons_zero, List.set_cons_succ]
            refine wpAny_take (i := 7) (v := ?_) rfl (by kernel_rfl) (by kernel_rfl) (by kernel_rfl) (fun _ _ _ h => h) (Or.inl ⟨by rfl, fun w => ?_⟩) ?_
            rotate_left 1
            · (go_simp <;> with_reducible rfl)
            simp only [Act.put, List.getElem_toArray, List.getElem_cons_zero, List.getElem_cons_succ, List.setIfInBounds_toArray, List.set_cons_zero, List.set_cons_succ]
            refine wpAny_take (i := 8) (v := ?_) rfl (by kernel_rfl) (by kernel_rfl) (by kernel_rfl) (fun _ _ _ h => h) (Or.inl ⟨by rfl, fun w => ?_⟩) ?_
            rotate_left 1
            · (go_simp <;> with_reducible rfl)
            simp only [Act.put, List.getElem_toArray, List.getElem_cons_zero, List.getElem_cons_succ, List.setIfInBounds_toArray, List.set_cons_zero, List.set_cons_succ]
            refine wpAny_ready (rs := [4, 9]) (by kernel_rfl) (by decide) ?_
            refine AllReady.cons rfl (fun K1 hK1 => ?_) (AllReady.cons rfl (fun K1 hK1 => ?_) AllReady.nil)
            · have q4 : wA.cell? ⟨gm, 1, none⟩ = some v := hrc
              go_simp
              refine hK1 _ _ ?_
              clear hK1 K1 q4
              refine wpAny_ready (rs := [9]) (by kernel_rfl) (by decide) ?_
              refine AllReady.cons rfl (fun K1 hK1 => ?_) AllReady.nil
              have q9 := hmk wA
              go_simp
              refine hK1 _ _ ?_
              clear hK1 K1 q9
              refine wpAny_take (i := 10) (v := ?_) rfl (by kernel_rfl) (by kernel_rfl) (by kernel_rfl) (fun _ _ _ h => h) (Or.inl ⟨by rfl, fun w => ?_⟩) ?_
              rotate_left 1
              · (go_simp <;> with_reducible rfl)
              simp only [Act.put, List.getElem_toArray, List.getElem_cons_zero, List.getElem_cons_succ, List.setIfInBounds_toArray, List.set_cons_zero, List.set_cons_succ]
              refine wpAny_ready (rs := [11]) (by kernel_rfl) (by decide) ?_
              refine AllReady.cons rfl (fun K1 hK1 => ?_) AllReady.nil
              go_simp
              refine hK1 _ _ ?_
              clear hK1 K1
              refine wpAny_ready (rs := [12]) (by kernel_rfl) (by decide) ?_
              refine AllReady.cons rfl (fun K1 hK1 => ?_) AllReady.nil
              refine step_appV (TS := 41) (.tmp 52) (.tmp 59) _ _ _ (fun ty => PU.out ty) rfl rfl rfl rfl ?_
              rintro v1 w9 ⟨⟨hc9, hf9⟩, hR9⟩
              obtain ⟨a1, l1, c1, rfl⟩ : ∃ a l c, v1 = .slice a l c := by obtain ⟨a, c, e, _⟩ := hR9.1.slice; exact ⟨a, _, c, e⟩
              refine hK1 _ _ ?_
              clear hK1 K1
              refine wpAny_take (i := 13) (v := ?_) rfl (by kernel_rfl) (by kernel_rfl) (by kernel_rfl) (fun _ _ _ h => h) (Or.inl ⟨by rfl, fun w => ?_⟩) ?_
              rotate_left 1
              · (go_simp <;> with_reducible rfl)
              simp only [Act.put, List.getElem_toArray, List.getElem_cons_zero, List.getElem_cons_succ, List.setIfInBounds_toArray, List.set_cons_zero, List.set_cons_succ]
              refine wpAny_take (i := 14) (v := ?_) rfl (by kernel_rfl) (by kernel_rfl) (by kernel_rfl) (fun _ _ _ h => h) (Or.inl ⟨by rfl, fun w => ?_⟩) ?_
              rotate_left 1
              · (go_simp <;> with_reducible rfl)
              simp only [Act.put, List.getElem_toArray, List.getElem_cons_zero, List.getElem_cons_succ, List.setIfInBounds_toArray, List.set_cons_zero, List.set_cons_succ]
              refine wpAny_ready (rs := [15]) (by kernel_rfl) (by decide) ?_
              refine AllReady.cons rfl (fun K1 hK1 => ?_) AllReady.nil
              go_simp
              refine hK1 _ _ ?_
              clear hK1 K1
              refine wpAny_done (by kernel_rfl) ?_ _
              refine NoPanic.normal ?_
              clear hc9 hf9
              go_wp2_with fail
              go_ret2
              exact .inl ⟨f, wA.heap.size, _, rfl, hfc, HF.out.1, HF.out.2, hR9.1, (Ef.of_bel HB.out).trans hR9.2.1, fun b hb => (hR9.2.2 b hb).imp id (fun h => Nat.le_trans HB.out.size h)⟩
            · have q9 := hmk wA
              go_simp
              refine hK1 _ _ ?_
              clear hK1 K1 q9
              refine wpAny_take (i := 10) (v := ?_) rfl (by kernel_rfl) (by kernel_rfl) (by kernel_rfl) (fun _ _ _ h => h) (Or.inl ⟨by rfl, fun w => ?_⟩) ?_
              rotate_left 1
              · (go_simp <;> with_reducible rfl)
              simp only [Act.put, List.getElem_toArray, List.getElem_cons_zero, List.getElem_cons_succ, List.setIfInBounds_toArray, List.set_cons_zero, List.set_cons_succ]
              refine wpAny_ready (rs := [4, 11]) (by kernel_rfl) (by decide) ?_
              refine AllReady.cons rfl (fun K1 hK1 => ?_) (AllReady.cons rfl (fun K1 hK1 => ?_) AllReady.nil)
              · have q4 : (wA.alloc (.cells (madeCells #[.int .i64 0] (16 * j)) 3)).cell? ⟨gm, 1, none⟩ = some v := ((bel_new wA _).cell (p := ⟨gm, 1, none⟩) hgm).trans hrc
                go_simp
                refine hK1 _ _ ?_
                clear hK1 K1 q4
                refine wpAny_ready (rs := [11]) (by kernel_rfl) (by decide) ?_
                refine AllReady.cons rfl (fun K1 hK1 => ?_) AllReady.nil
                go_simp
                refine hK1 _ _ ?_
                clear hK1 K1
                refine wpAny_ready (rs := [12]) (by kernel_rfl) (by decide) ?_
                refine AllReady.cons rfl (fun K1 hK1 => ?_) AllReady.nil
                refine step_appV (TS := 41) (.tmp 52) (.tmp 59) _ _ _ (fun ty => PU.out ty) rfl rfl rfl rfl ?_
                rintro v1 w9 ⟨⟨hc9, hf9⟩, hR9⟩
                obtain ⟨a1, l1, c1, rfl⟩ : ∃ a l c, v1 = .slice a l c := by obtain ⟨a, c, e, _⟩ := hR9.1.slice; exact ⟨a, _, c, e⟩
                refine hK1 _ _ ?_
                clear hK1 K1
                refine wpAny_take (i := 13) (v := ?_) rfl (by kernel_rfl) (by kernel_rfl) (by kernel_rfl) (fun _ _ _ h => h) (Or.inl ⟨by rfl, fun w => ?_⟩) ?_
                rotate_left 1
                · (go_simp <;> with_reducible rfl)
                simp only [Act.put, List.getElem_toArray, List.getElem_cons_zero, List.getElem_cons_succ, List.setIfInBounds_toArray, List.set_cons_zero, List.set_cons_succ]
                refine wpAny_take (i := 14) (v := ?_) rfl (by kernel_rfl) (by kernel_rfl) (by kernel_rfl) (fun _ _ _ h => h) (Or.inl ⟨by rfl, fun w => ?_⟩) ?_
                rotate_left 1
                · (go_simp <;> with_reducible rfl)
                simp only [Act.put, List.getElem_toArray, List.getElem_cons_zero, List.getElem_cons_succ, List.setIfInBounds_toArray, List.set_cons_zero, List.set_cons_succ]
                refine wpAny_ready (rs := [15]) (by kernel_rfl) (by decide) ?_
                refine AllReady.cons rfl (fun K1 hK1 => ?_) AllReady.nil
                go_simp
                refine hK1 _ _ ?_
                clear hK1 K1
                refine wpAny_done (by kernel_rfl) ?_ _
                refine NoPanic.normal ?_
                clear hc9 hf9
                go_wp2_with fail
                go_ret2
                exact .inl ⟨f, wA.heap.size, _, rfl, hfc, HF.out.1, HF.out.2, hR9.1, (Ef.of_bel HB.out).trans hR9.2.1, fun b hb => (hR9.2.2 b hb).imp id (fun h => Nat.le_trans HB.out.size h)⟩
              · go_simp
                refine hK1 _ _ ?_
                clear hK1 K1
                refine wpAny_ready (rs := [4]) (by kernel_rfl) (by decide) ?_
                refine AllReady.cons rfl (fun K1 hK1 => ?_) AllReady.nil
                have q4 : ((wA.alloc (.cells (madeCells #[.int .i64 0] (16 * j)) 3)).alloc (.cells #[.int .i64 f, .int .i64 j, .slice (some ⟨wA.heap.size, 0, none⟩) (16 * j) (16 * j)] 50)).cell? ⟨gm, 1, none⟩ = some v := ((bel_trans (bel_new wA _) (bel_new _ _)).cell (p := ⟨gm, 1, none⟩) hgm).trans hrc
                go_simp
                refine hK1 _ _ ?_
                clear hK1 K1 q4
                refine wpAny_ready (rs := [12]) (by kernel_rfl) (by decide) ?_
                refine AllReady.cons rfl (fun K1 hK1 => ?_) AllReady.nil
                refine step_appV (TS := 41) (.tmp 52) (.tmp 59) _ _ _ (fun ty => PU.out ty) rfl rfl rfl rfl ?_
                rintro v1 w9 ⟨⟨hc9, hf9⟩, hR9⟩
                obtain ⟨a1, l1, c1, rfl⟩ : ∃ a l c, v1 = .slice a l c := by obtain ⟨a, c, e, _⟩ := hR9.1.slice; exact ⟨a, _, c, e⟩
                refine hK1 _ _ ?_
                clear hK1 K1
                refine wpAny_take (i := 13) (v := ?_) rfl (by kernel_rfl) (by kernel_rfl) (by kernel_rfl) (fun _ _ _ h => h) (Or.inl ⟨by rfl, fun w => ?_⟩) ?_
                rotate_left 1
                · (go_simp <;> with_reducible rfl)
                simp only [Act.put, List.getElem_toArray, List.getElem_cons_zero, List.getElem_cons_succ, List.setIfInBounds_toArray, List.set_cons_zero, List.set_cons_succ]
                refine wpAny_take (i := 14) (v := ?_) rfl (by kernel_rfl) (by kernel_rfl) (by kernel_rfl) (fun _ _ _ h => h) (Or.inl ⟨by rfl, fun w => ?_⟩) ?_
                rotate_left 1
                · (go_simp <;> with_reducible rfl)
                simp only [Act.put, List.getElem_toArray, List.getElem_cons_zero, List.getElem_cons_succ, List.setIfInBounds_toArray, List.set_cons_zero, List.set_cons_succ]
                refine wpAny_ready (rs := [15]) (by kernel_rfl) (by decide) ?_
                refine AllReady.cons rfl (fun K1 hK1 => ?_) AllReady.nil
                go_simp
                refine hK1 _ _ ?_
                clear hK1 K1
                refine wpAny_done (by kernel_rfl) ?_ _
                refine NoPanic.normal ?_
                clear hc9 hf9
                go_wp2_with fail
                go_ret2
                exact .inl ⟨f, wA.heap.size, _, rfl, hfc, HF.out.1, HF.out.2, hR9.1, (Ef.of_bel HB.out).trans hR9.2.1, fun b hb => (hR9.2.2 b hb).imp id (fun h => Nat.le_trans HB.out.size h)⟩
          | false =>
            have I2 : Hid (Below w.heap.size w wr ∧ ∀ f', f' < f + 1 → ¬ FreeH H f' j) := ⟨J.out.1, fun f' hf' hh => by
              by_cases e : f' = f
              · rw [e] at hh
                exact absurd (J.out.2.2 hh) (by simp)
              · exact I.out.2 f' (by omega) hh⟩
            clear HM HV I J
            go_wp2_with fail
            go_roundw
            case rel => exact ⟨f + 1, by omega, by go_num, I2.out⟩
            case measure => simp [intOf]; omega
    · have hd : decide ((f : Int) + (c : Int) ≤ (n : Int)) = false := decide_eq_false (by omega)
      have E : Hid (Below w.heap.size w wr ∧ ∀ f', f' + c ≤ n → ¬ FreeH H f' c) := ⟨I.out.1, fun f' hf' => I.out.2 f' (by omega)⟩
      clear HM HV I
      go_wp2_with fail
      go_ret2
      exact .inr ⟨rfl, E.out.2, E.out.1⟩

end Go.Proofs.YtndhgdjcbegjdaaDoor.Ck
