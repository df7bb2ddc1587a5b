/- The document's state: Recv. (Written by mk_y.py.) -/
import Derived.Test.YtghfjnnmpmfboaaDoorZi
namespace Go.Proofs.YtghfjnnmpmfboaaDoor.Ck
open Go.RowKit

theorem Rv.var {w : World} {F R : Nat → Prop} {B g : Nat} {s : St} {vP vL vC vS vT vA : Value} {ss : List Value} {tk : List Int} (h : Rv w F R B g s vP vL vC vS vT vA ss tk) {k : Nat} (hk : ¬ F k) (hr : ¬ R k) (x y z : Value) : Rv (((w.setCell ⟨k, 0, none⟩ x).setCell ⟨k, 1, none⟩ y).setCell ⟨k, 2, none⟩ z) F R B g s vP vL vC vS vT vA ss tk :=
  h.keep (fun j hj => by
    have hn : j ≠ k := fun e => hj.elim (fun h => hk (e ▸ h)) (fun h => hr (e ▸ h))
    exact (Below.heap_setCell _ _ _ _ hn).trans ((Below.heap_setCell _ _ _ _ hn).trans (Below.heap_setCell _ _ _ _ hn))) (by rw [size_setCell, size_setCell, size_setCell]; exact Nat.le_refl _)
set_option maxRecDepth 20000 in
set_option maxHeartbeats 1000000 in
theorem rRecv_out {w : World} {F R : Nat → Prop} {B g : Nat} {s : St} (h : Rt w F R B g s) (i : Int) (hi : i < 0 ∨ (s.C.length : Int) ≤ i) : Calls Tryd.prog 53 #[.pointer (some ⟨g, 0, none⟩), .int .i64 i] w (Vb w (.tuple #[.agg #[.int .i64 0, .int .i64 0, .int .u64 0], .bool false, .int .i64 1])) := by
  obtain ⟨vP, vL, vC, vS, vT, vA, ss, tk, h⟩ := h
  obtain ⟨a, c, e, hc, hm⟩ := own_slice h.ch
  subst e
  obtain ⟨n, hn⟩ : ∃ n, n = s.C.length := ⟨_, rfl⟩
  rw [← hn] at hi
  have c1 := h.cells.2.2.1
  rw [← hn] at c1
  have hgl := h.fb g h.fg
  have Iq := hide (fun w' => in_no i n w' hi)
  clear h hc hm hi hn
  have V0 := hide (Val.new w 0 0 0)
  go_enter Tryd.func53, Tryd.ntmps53
  go_wp2_with fail
  refine (Iq.out _).mono ?_
  rintro e w1 ⟨rfl, rfl⟩
  go_wp2_with fail
  exact ret_vbe w.heap.size rfl rfl rfl rfl V0.out rfl (Vb.mk rfl (bel_new _ _))
set_option maxRecDepth 20000 in
set_option maxHeartbeats 1000000 in
theorem rRecv_none {w : World} {F R : Nat → Prop} {B g : Nat} {s : St} (h : Rt w F R B g s) (hB1 : B ≤ 1000000) (i : Nat) (q : Qu) (hx : s.C[i]? = some q) (hl : q.l = []) : Calls Tryd.prog 53 #[.pointer (some ⟨g, 0, none⟩), .int .i64 (i : Nat)] w (Vb w (.tuple #[.agg #[.int .i64 0, .int .i64 0, .int .u64 0], .bool false, .int .i64 0])) := by
  obtain ⟨vP, vL, vC, vS, vT, vA, ss, tk, h⟩ := h
  have hi : i < s.C.length := (List.getElem?_eq_some_iff.1 hx).1
  obtain ⟨b, c, e, hc, hm⟩ := own_some h.ch (by omega)
  have hsm := h.small
  obtain ⟨n, hn⟩ : ∃ n, n = s.C.length := ⟨_, rfl⟩
  rw [← hn] at e hi hc
  have hn128 : n ≤ 128 := by omega
  subst e
  have HN := hide hn
  have c1 := h.cells.2.2.1
  have hgl := h.fb g h.fg
  have hbl : b < w.heap.size := (own_type h.ch (k := b) rfl).2.1
  have HX := hide hx
  have W1 := hide (And.intro (h.bel (bel_new w (.cells #[.int .i64 0, .int .i64 0, .int .u64 0] 41))) (And.intro (bel_new w (.cells #[.int .i64 0, .int .i64 0, .int .u64 0] 41)) (Val.new w 0 0 0)))
  have HFL := hide h.fb
  have HRB := hide h.rb
  clear h hsm hc hm hn hx
  go_enter Tryd.func53, Tryd.ntmps53
  go_wp2_with fail
  refine (in_yes i n _ hi).mono ?_
  rintro e w1 ⟨rfl, rfl⟩
  go_wp2_with fail
  generalize w.alloc (.cells #[.int .i64 0, .int .i64 0, .int .u64 0] 41) = w1 at *
  obtain ⟨h1, hb1, V1⟩ := W1.out
  refine (rHeld_q ⟨_, _, _, _, _, _, _, _, h1⟩ hB1 i q HX.out).mono ?_
  rintro e w2 ⟨rfl, kk, rfl⟩
  rw [hl]
  have V2 := V1.al (below_drewN (Below.refl _ _) kk)
  have B2 := hide (bel_set (below_drewN hb1 kk) (Nat.le_refl w.heap.size) (.int .i64 0) (.int .i64 0) (.int .u64 0))
  obtain ⟨⟨f0, f1, f2⟩, v0, v1, v2⟩ := V2.all
  have V3 := hide (V2.set 0 0 0)
  clear V1 V2 h1 hb1 W1
  generalize w1.drewN kk = w3 at *
  go_wp2_with fail
  exact ret_vbe w.heap.size rfl rfl rfl rfl V3.out rfl (Vb.mk rfl B2.out)
set_option maxRecDepth 20000 in
set_option maxHeartbeats 2000000 in
theorem rRecv_some {w : World} {F R : Nat → Prop} {B g : Nat} {s : St} (h : Rt w F R B g s) (hB1 : B ≤ 1000000) (i : Nat) (q : Qu) (hx : s.C[i]? = some q) (v : V3) (l : List V3) (hl : q.l = v :: l) : Calls Tryd.prog 53 #[.pointer (some ⟨g, 0, none⟩), .int .i64 (i : Nat)] w (Rp w F R B g { s with C := s.C.set i { q with l := l } } (.tuple #[.agg #[.int .i64 v.1, .int .i64 v.2.1, .int .u64 v.2.2], .bool true, .int .i64 0])) := by
  obtain ⟨vP, vL, vC, vS, vT, vA, ss, tk, h⟩ := h
  have hi : i < s.C.length := (List.getElem?_eq_some_iff.1 hx).1
  obtain ⟨b, c, e, hc, hm⟩ := own_some h.ch (by omega)
  have hsm := h.small
  obtain ⟨n, hn⟩ : ∃ n, n = s.C.length := ⟨_, rfl⟩
  rw [← hn] at e hi hc
  have hn128 : n ≤ 128 := by omega
  subst e
  have HN := hide hn
  have c1 := h.cells.2.2.1
  have hgl := h.fb g h.fg
  have hbl : b < w.heap.size := (own_type h.ch (k := b) rfl).2.1
  have hsl := h.sl
  have htl := h.tl
  obtain ⟨vq, hv⟩ : ∃ v, ss[i]? = some v := ⟨_, List.getElem?_eq_getElem (by omega)⟩
  obtain ⟨t0, ht⟩ : ∃ t, tk[i]? = some t := ⟨_, List.getElem?_eq_getElem (by omega)⟩
  obtain ⟨f, tn, e1, hle, hdr, hfB, oq, rq⟩ := h.q i q vq t0 hx hv ht
  subst e1
  obtain ⟨aq, cq, eq, hcq, hmq⟩ := own_slice oq
  subst eq
  obtain ⟨bS, cS, eS, _⟩ := own_some h.se (by omega)
  obtain ⟨bT, cT, eT, _⟩ := own_some h.ta (by omega)
  rw [← hn] at eS eT
  subst eS eT
  have hfl : f.length - tn = q.l.length := by rw [← hdr, List.length_drop]
  have HX := hide hx
  have W1 := hide (And.intro (h.bel (bel_new w (.cells #[.int .i64 0, .int .i64 0, .int .u64 0] 41))) (And.intro (bel_new w (.cells #[.int .i64 0, .int .i64 0, .int .u64 0] 41)) (Val.new w 0 0 0)))
  have HFL := hide h.fb
  have HRB := hide h.rb
  have HV := hide (And.intro hv ht)
  obtain ⟨fl, hfl1⟩ : ∃ fl, fl = f.length := ⟨_, rfl⟩
  have hb2 : tn < fl := by
    rw [hl] at hfl
    simp at hfl
    omega
  have hb1' : fl ≤ 1000000 := by omega
  have hql : q.l.length = l.length + 1 := by rw [hl]; rfl
  have hfat : f[tn]? = some v := by
    have h2 : (f.drop tn)[0]? = some v := by rw [hdr, hl]; rfl
    simpa using h2
  rw [← hfl1] at oq
  obtain ⟨bq, cq', eq', _⟩ := own_some oq (by omega)
  rw [hfl1] at eq'
  cases eq'
  have OQ := hide oq
  have HFA := hide hfat
  clear h hsm hc hm hn hx hv ht oq rq hle hdr hfB hcq hmq hsl htl hfl hfat
  rw [← hfl1] at *
  clear hfl1
  go_enter Tryd.func53, Tryd.ntmps53
  go_wp2_with fail
  refine (in_yes i n _ hi).mono ?_
  rintro e w1 ⟨rfl, rfl⟩
  go_wp2_with fail
  generalize w.alloc (.cells #[.int .i64 0, .int .i64 0, .int .u64 0] 41) = w1 at *
  obtain ⟨h1, hb1, V1⟩ := W1.out
  refine (rHeld_q ⟨_, _, _, _, _, _, _, _, h1⟩ hB1 i q HX.out).mono ?_
  rintro e w2 ⟨rfl, kk, rfl⟩
  rw [hql]
  have h3 := h1.bel (below_drewN (Below.refl _ _) kk)
  have V2 := V1.al (below_drewN (Below.refl _ _) kk)
  have B2 := hide (below_drewN hb1 kk)
  clear V1 h1 hb1 W1
  generalize w1.drewN kk = w3 at *
  have c4 := h3.cells.2.2.2.2.1
  obtain ⟨dT, fT⟩ := own_cell h3.ta i _ (nts_at HV.out.2)
  obtain ⟨R4, C4⟩ := h3.setT HN.out i q v l _ HX.out hl HV.out.2
  have O3 := own_keep OQ.out (fun k hk => B2.out.block k (own_type OQ.out hk).2.1)
  have O4 := own_keep (w' := w3.setCell ⟨bT, i, none⟩ (.int .i64 ((tn : Int) + 1))) O3 (fun k hk => Below.heap_setCell _ _ _ _ (fun e => own_apart O3 h3.ta (by decide) k hk (congrArg some e.symm)))
  have V4 := V2.keep (w' := w3.setCell ⟨bT, i, none⟩ (.int .i64 ((tn : Int) + 1))) (C4.blk w.heap.size V2.lt (fun e => by have := HFL.out _ e; omega))
  have x3 := R4.cells.2.2.2.1
  have x4 := R4.cells.2.2.2.2.1
  have xS := (own_cell R4.se i _ HV.out.1).1
  have xT := (own_cell R4.ta i _ (nts_at (List.getElem?_set_self (List.getElem?_eq_some_iff.1 HV.out.2).1))).1
  obtain ⟨q0, q1, q2⟩ := vcs_at _ _ _ HFA.out
  rw [Nat.mul_comm] at q0 q1 q2
  have z0 := (own_cell O4 _ _ q0).1
  have z1 := (own_cell O4 _ _ q1).1
  have z2 := (own_cell O4 _ _ q2).1
  obtain ⟨⟨g0, g1, g2⟩, v0, v1, v2⟩ := V4.all
  have hl0 : ((l.length : Int) + 1 == 0) = false := by simp; omega
  have RF := hide (And.intro R4 (And.intro C4 V4))
  have hsub : (tn : Int) + 1 - 1 = (tn : Int) := by omega
  clear R4 C4 V4 V2 h3 O3 O4 q0 q1 q2 OQ HFA HV hl hql
  go_wp2_with fail
  generalize w3.setCell ⟨bT, i, none⟩ (.int .i64 ((tn : Int) + 1)) = w4 at *
  go_region
  go_wp2_with fail
  exact ret_vbe w.heap.size rfl rfl rfl rfl (RF.out.2.2.set v.1 v.2.1 v.2.2) rfl (Rp.mk rfl ⟨_, _, _, _, _, _, _, _, (RF.out.1.var (k := w.heap.size) (fun e => by have := HFL.out _ e; omega) (fun e => by have := HRB.out _ e; omega) _ _ _).bel (bel_drawn (Below.refl _ _))⟩ (((Ch.of_bel B2.out).trans RF.out.2.1).below (bel_set (N := w.heap.size) (Below.refl _ _) (Nat.le_refl _) _ _ _)).drew)
end Go.Proofs.YtghfjnnmpmfboaaDoor.Ck
