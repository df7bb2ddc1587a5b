/- Package code: functions that are the same. (Written by mk_s.py.) -/
import Derived.Test.YtoboeipmhfnfdaaDoorGb
namespace Go.Proofs.YtoboeipmhfnfdaaDoor.Ck
open Go.RowKit

/-- lists that are not too long -/
structure Sml (c : Cd) : Prop where
  P : c.P.length ≤ 100000
  C : c.C.length ≤ 100000
  F : c.F.length ≤ 100000
  B : c.B.length ≤ 100000
  L : ∀ f ∈ c.F, f.lo.length ≤ 100000
set_option maxRecDepth 20000 in
set_option maxHeartbeats 4000000 in
theorem sameEntry_any {w : World} {f g : Fn3} {vf vg : Value} (h1 : Sl w vf f.lo) (h2 : Sl w vg g.lo) (hn : f.lo.length ≤ 100000 ∧ g.lo.length ≤ 100000) : Calls Tryd.prog 41 #[.agg #[.int .i64 f.st, .int .i64 f.pa, vf], .agg #[.int .i64 g.st, .int .i64 g.pa, vg]] w (Vb w (.bool (eqF f g))) := by
  have b1 := bel_new w (.cells #[.int .i64 f.st, .int .i64 f.pa, vf] 54)
  have b2 := bel_new (w.alloc (.cells #[.int .i64 f.st, .int .i64 f.pa, vf] 54)) (.cells #[.int .i64 g.st, .int .i64 g.pa, vg] 54)
  have hb := bel_trans b1 b2
  have EI := hide (eqInts (h1.bel hb) (h2.bel hb) hn)
  have HB := hide hb
  obtain ⟨a1, c1, e1, _⟩ := h1.form
  obtain ⟨a2, c2, e2, _⟩ := h2.form
  subst e1 e2
  obtain ⟨x, hx⟩ : ∃ x, (f.st == g.st) = x := ⟨_, rfl⟩
  obtain ⟨y, hy⟩ : ∃ y, (f.pa == g.pa) = y := ⟨_, rfl⟩
  have HE : Hid (eqF f g = (x && (y && sameL eqN f.lo g.lo))) := hide (by rw [← hx, ← hy]; rfl)
  clear hb h1 h2 b1 b2 hn
  generalize eqF f g = res at *
  generalize sameL eqN f.lo g.lo = z at *
  cases x with
  | false =>
    have he := HE.out
    rw [Bool.false_and] at he
    subst he
    clear HE EI
    go_enter Tryd.func41, Tryd.ntmps41
    go_wp2_with fail
    go_ret
    exact ⟨rfl, HB.out⟩
  | true =>
  cases y with
  | false =>
    have he := HE.out
    rw [Bool.true_and, Bool.false_and] at he
    subst he
    clear HE EI
    go_enter Tryd.func41, Tryd.ntmps41
    go_wp2_with fail
    go_ret
    exact ⟨rfl, HB.out⟩
  | true =>
    have he := HE.out
    rw [Bool.true_and, Bool.true_and] at he
    subst he
    clear HE
    go_enter Tryd.func41, Tryd.ntmps41
    go_wp2_with fail
    refine EI.out.mono ?_
    intro e w3 h3
    obtain ⟨rfl, b3⟩ := h3.vb
    have B3 := hide (bel_trans HB.out b3)
    clear b3 EI h3
    go_wp2_with fail
    go_ret
    exact ⟨rfl, B3.out⟩
set_option maxRecDepth 20000 in
set_option maxHeartbeats 4000000 in
theorem eqFuns {w : World} {v1 v2 : Value} {F G : List Fn3} (h1 : SlF w v1 F) (h2 : SlF w v2 G) (hn : F.length ≤ 100000 ∧ G.length ≤ 100000) (hL : ∀ f ∈ F, f.lo.length ≤ 100000) (hM : ∀ f ∈ G, f.lo.length ≤ 100000) : Calls Tryd.prog 40 #[v1, v2, .func (.func 41) #[] #[]] w (Vb w (.bool (sameL eqF F G))) := by
  have H1 := hide (fun wz (hb : Below w.heap.size w wz) => h1.bel hb)
  have H2 := hide (fun wz (hb : Below w.heap.size w wz) => h2.bel hb)
  obtain ⟨a1, c1, e1, p1, p2, _⟩ := h1
  obtain ⟨a2, c2, e2, p3, p4, _⟩ := h2
  subst e1 e2
  by_cases hl : F.length = G.length
  · obtain ⟨n, hn1⟩ : ∃ n, n = F.length := ⟨_, rfl⟩
    have hs : Hid ((∀ j, j < n → eqF (F.getD j zF) (G.getD j zF) = true) → sameL eqF F G = true) := fun h => sameL_all zF F G hl (fun j hj => h j (by omega))
    have hs2 : Hid (∀ k : Nat, k < n → eqF (F.getD k zF) (G.getD k zF) = false → sameL eqF F G = false) := fun k hk => sameL_not zF F G k (by omega) (by omega)
    have HL := hide (And.intro hn1 hl)
    have HLo := hide hL
    have HMo := hide hM
    have hnn : n ≤ 100000 := by omega
    rw [← hl, ← hn1]
    clear hl hn1 hn p1 p2 p3 p4 hL hM
    generalize sameL eqF F G = r at *
    go_enter Tryd.func40, Tryd.ntmps40
    go_wp2_with fail
    go_loopw [7, 8, 9, 17] (fun x7 x8 x9 i wr => ∃ k : Nat, k ≤ n ∧ i = .int .i64 k ∧ Hid (∀ j, j < k → eqF (F.getD j zF) (G.getD j zF) = true) ∧ Hid (Below w.heap.size w wr)) (fun x7 x8 x9 i _ => n - (intOf i).toNat)
    case atStart => exact ⟨0, Nat.zero_le _, rfl, fun j hj => absurd hj (Nat.not_lt_zero _), Below.refl _ _⟩
    case round =>
      obtain ⟨k, hk, rfl, hall, hbel⟩ := hrel
      by_cases hlt : k < n
      · have hlt' : (k : Int) < (n : Int) := by omega
        obtain ⟨q1, d1, eq1, _, _, z1⟩ := H1.out wr hbel.out
        cases eq1
        obtain ⟨b1, o1, vl1, e1, hb1, r0, r1, r2, S1⟩ := z1 k (by have := HL.out; omega)
        obtain ⟨q2, d2, eq2, _, _, z2⟩ := H2.out wr hbel.out
        have eq2' : q2 = a2 := by have := HL.out; simp at eq2; exact eq2.1.symm
        subst eq2'
        obtain ⟨b2, o2, vl2, e2, hb2, s0, s1, s2, S2⟩ := z2 k (by have := HL.out; omega)
        subst e1 e2
        have M1 : (F.getD k zF).lo.length ≤ 100000 := HLo.out _ (by rw [List.getD_eq_getElem?_getD, List.getElem?_eq_getElem (by have := HL.out; omega)]; exact List.getElem_mem _)
        have M2 : (G.getD k zF).lo.length ≤ 100000 := HMo.out _ (by rw [List.getD_eq_getElem?_getD, List.getElem?_eq_getElem (by have := HL.out; omega)]; exact List.getElem_mem _)
        have HY : Hid (eqF (F.getD k zF) (G.getD k zF) = true → ∀ j, j < k + 1 → eqF (F.getD j zF) (G.getD j zF) = true) := fun e j hj => by
          by_cases ej : j = k
          · rw [ej]; exact e
          · exact hall.out j (by omega)
        have HNO : Hid (eqF (F.getD k zF) (G.getD k zF) = false → r = false) := fun e => hs2.out k hlt e
        obtain ⟨av, cv, ev, _⟩ := S1.form
        obtain ⟨av2, cv2, ev2, _⟩ := S2.form
        clear hs hs2 hall H1 H2 z1 z2 HLo HMo
        generalize F.getD k zF = x at *
        generalize G.getD k zF = y at *
        subst ev ev2
        have nb := bel_new wr (.cells #[.int .i64 x.st, .int .i64 x.pa, .slice av x.lo.length cv] 54)
        have nb2 := bel_new (wr.alloc (.cells #[.int .i64 x.st, .int .i64 x.pa, .slice av x.lo.length cv] 54)) (.cells #[.int .i64 y.st, .int .i64 y.pa, .slice av2 y.lo.length cv2] 54)
        have SE := hide (sameEntry_any (S1.bel (bel_trans nb nb2)) (S2.bel (bel_trans nb nb2)) ⟨M1, M2⟩)
        have HB := hide (bel_trans hbel.out (bel_trans nb nb2))
        clear nb nb2 S1 S2 M1 M2 hbel
        go_wp2_with fail
        refine SE.out.mono ?_
        rintro e w9 ⟨rfl, hb9⟩
        have HB9 := hide (bel_trans HB.out hb9)
        clear hb9 HB SE
        cases hxy : eqF x y with
        | true =>
          have hy2 := hide (HY.out hxy)
          clear HY HNO hxy
          go_wp2_with fail
          go_roundw
          case rel => exact ⟨k + 1, by omega, by go_num, hy2, HB9⟩
          case measure => simp [intOf]; omega
        | false =>
          have hn2 := HNO.out hxy
          subst hn2
          clear HY HNO hxy
          go_wp2_with fail
          go_ret
          exact ⟨rfl, HB9.out⟩
      · obtain rfl : k = n := by omega
        have hr := hs.out hall.out
        subst hr
        clear hs hs2 hall H1 H2
        go_wp2_with fail
        go_ret
        exact ⟨rfl, hbel.out⟩
  · rw [sameL_len F G hl]
    have ht : ((F.length : Int) != (G.length : Int)) = true := by rw [bne_iff_ne]; omega
    clear H1 H2 hl
    go_enter Tryd.func40, Tryd.ntmps40
    go_wp2_with fail
    go_ret
    exact ⟨rfl, Below.refl _ _⟩
end Go.Proofs.YtoboeipmhfnfdaaDoor.Ck
