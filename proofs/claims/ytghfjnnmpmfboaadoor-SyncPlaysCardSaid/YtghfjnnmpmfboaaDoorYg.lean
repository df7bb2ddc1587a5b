/- Package sync: reading a place. (Written by mk_y.py.) -/
import Derived.Test.YtghfjnnmpmfboaaDoorYf
namespace Go.Proofs.YtghfjnnmpmfboaaDoor.Ck
open Go.RowKit

theorem ret_ve {fn : Func} {R : Ending → World → Prop} {a : Act} {w : World} {p q : Tmp} (g : Nat) {t n b : Int} {ev : Value} (hf : fn.results = #[.cell p 41, .tmp q]) (hp : a.tmps.getD p undef = .pointer (some ⟨g, 0, none⟩)) (hq : a.tmps.getD q undef = ev)
    (h : Val w g t n b) (hdf : a.defers = []) (hR : R (.returned (.tuple #[.agg #[.int .i64 t, .int .i64 n, .int .u64 b], ev])) w) : bodyPost Tryd.prog fn R .ret a w :=
  bodyPost_ret (by
    have hp' : a.tmps[p]?.getD undef = .pointer (some ⟨g, 0, none⟩) := by simpa using hp
    have hq' : a.tmps[q]?.getD undef = ev := by simpa using hq
    obtain ⟨_, c0, c1, c2⟩ := h.all
    simp [results, hf, hp', hq', go_sem, c0, c1, c2]) hdf hR
set_option maxRecDepth 20000 in
set_option maxHeartbeats 1000000 in
theorem Read_in {w : World} {F : Nat → Prop} {g : Nat} {s : St} (h : Stt w F g s) (i : Nat) (x : V3) (hx : s.P[i]? = some x) : Calls Tryd.prog 46 #[.pointer (some ⟨g, 0, none⟩), .int .i64 (i : Nat)] w (Vb w (.tuple #[.agg #[.int .i64 x.1, .int .i64 x.2.1, .int .u64 x.2.2], .nilIface])) := by
  obtain ⟨vP, vM, vC, vA, vs, h⟩ := h
  have hi : i < s.P.length := (List.getElem?_eq_some_iff.1 hx).1
  obtain ⟨b, c, e, hc, hm⟩ := own_some h.pl (by omega)
  have hsm := h.small
  obtain ⟨n, hn⟩ : ∃ n, n = s.P.length := ⟨_, rfl⟩
  rw [← hn] at e hi hc
  have hn32 : n ≤ 128 := by omega
  subst e
  have HN := hide hn
  have c1 := h.cells.1
  obtain ⟨x0, x1, x2⟩ := x
  obtain ⟨o, ho⟩ : ∃ o, o = 3 * i := ⟨_, rfl⟩
  obtain ⟨q0, q1, q2⟩ := vcs_at _ _ _ hx
  rw [← ho] at q0 q1 q2
  obtain ⟨d0, f0⟩ := own_cell h.pl _ _ q0
  obtain ⟨d1, f1⟩ := own_cell h.pl _ _ q1
  obtain ⟨d2, f2⟩ := own_cell h.pl _ _ q2
  have HO := hide ho
  have hl := h.fb b (h.fP b rfl)
  have hgl := h.fb g h.fg
  simp only at d0 d1 d2
  clear h hsm hc hm hn q0 q1 q2 ho
  go_enter Tryd.func46, Tryd.ntmps46
  go_wp2_with fail
  refine (in_syncelementapiValue b n c i o _ hi HO).mono ?_
  rintro e w1 ⟨rfl, rfl⟩
  go_wp2_with fail
  exact ret_ve w.heap.size rfl rfl rfl (Val.new w _ _ _) rfl (Vb.mk rfl (bel_new _ _))
set_option maxRecDepth 20000 in
set_option maxHeartbeats 1000000 in
theorem Read_out {w : World} {F : Nat → Prop} {g : Nat} {s : St} (h : Stt w F g s) {p : List Addr} (h17 : E2 w p) (i : Int) (hi : i < 0 ∨ (s.P.length : Int) ≤ i) : Calls Tryd.prog 46 #[.pointer (some ⟨g, 0, none⟩), .int .i64 i] w (Vb w (.tuple #[.agg #[.int .i64 0, .int .i64 0, .int .u64 0], errV p 0])) := by
  obtain ⟨vP, vM, vC, vA, vs, h⟩ := h
  obtain ⟨a, c, e, hc, hm⟩ := own_slice h.pl
  subst e
  obtain ⟨n, hn⟩ : ∃ n, n = s.P.length := ⟨_, rfl⟩
  rw [← hn] at hi
  have c1 := h.cells.1
  rw [← hn] at c1
  have EO := hide (fun w' (h17 : E2 w' p) => out_syncelementapiValue a n c i w' h17 hi)
  have H7 := hide h17
  unfold errV at *
  generalize adr p 0 = ad at *
  have HGL := hide (h.fb g h.fg)
  clear h hc hm hi hn h17
  have H7a := hide (H7.out.below (Nat.le_refl _) (bel_new w (.cells #[.int .i64 0, .int .i64 0, .int .u64 0] 41)))
  have hgl := HGL.out
  have V0 := hide (Val.new w 0 0 0)
  go_enter Tryd.func46, Tryd.ntmps46
  go_wp2_with fail
  refine (EO.out _ H7a.out).mono ?_
  rintro e w1 ⟨rfl, hb⟩
  have V1 := V0.out.al hb
  obtain ⟨⟨f0, f1, f2⟩, v0, v1, v2⟩ := V1.all
  go_wp2_with fail
  exact ret_ve w.heap.size rfl rfl rfl (V1.set 0 0 0) rfl (Vb.mk rfl (bel_set (bel_trans (bel_new _ _) hb) (Nat.le_refl _) _ _ _))
end Go.Proofs.YtghfjnnmpmfboaaDoor.Ck
