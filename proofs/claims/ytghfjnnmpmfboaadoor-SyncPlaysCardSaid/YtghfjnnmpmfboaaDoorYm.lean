/- Package sync: Recv. (Written by mk_y.py.) -/
import Derived.Test.YtghfjnnmpmfboaaDoorYl
namespace Go.Proofs.YtghfjnnmpmfboaaDoor.Ck
open Go.RowKit

theorem ret_vbe {fn : Func} {R : Ending → World → Prop} {a : Act} {w : World} {p q r : Tmp} (g : Nat) {t n b : Int} {bv ev : Value} (hf : fn.results = #[.cell p 41, .tmp q, .tmp r]) (hp : a.tmps.getD p undef = .pointer (some ⟨g, 0, none⟩)) (hq : a.tmps.getD q undef = bv) (hr : a.tmps.getD r undef = ev)
    (h : Val w g t n b) (hdf : a.defers = []) (hR : R (.returned (.tuple #[.agg #[.int .i64 t, .int .i64 n, .int .u64 b], bv, ev])) w) : bodyPost Tryd.prog fn R .ret a w :=
  bodyPost_ret (by
    have hp' : a.tmps[p]?.getD undef = .pointer (some ⟨g, 0, none⟩) := by simpa using hp
    have hq' : a.tmps[q]?.getD undef = bv := by simpa using hq
    have hr' : a.tmps[r]?.getD undef = ev := by simpa using hr
    obtain ⟨_, c0, c1, c2⟩ := h.all
    simp [results, hf, hp', hq', hr', go_sem, c0, c1, c2]) hdf hR
set_option maxRecDepth 20000 in
set_option maxHeartbeats 1000000 in
theorem Recv_none {w : World} {F : Nat → Prop} {g : Nat} {s : St} (h : Stt w F g s) (i : Nat) (q : Qu) (hx : s.C[i]? = some q) (hl : q.l = []) : Calls Tryd.prog 34 #[.pointer (some ⟨g, 0, none⟩), .int .i64 (i : Nat)] w (Vb w (.tuple #[.agg #[.int .i64 0, .int .i64 0, .int .u64 0], .bool false, .nilIface])) := by
  obtain ⟨vP, vM, vC, vA, vs, h⟩ := h
  have hi : i < s.C.length := (List.getElem?_eq_some_iff.1 hx).1
  obtain ⟨b, c, e, hc, hm⟩ := own_some h.ch (by omega)
  have hsm := h.small
  obtain ⟨n, hn⟩ : ∃ n, n = s.C.length := ⟨_, rfl⟩
  rw [← hn] at e hi hc
  have hn32 : n ≤ 32 := by omega
  subst e
  have HN := hide hn
  have c1 := h.cells.2.2.1
  have hrm := h.rooms _ (List.mem_of_getElem? hx)
  have hvi : i < vs.length := by rw [h.len]; omega
  obtain ⟨vq, hv⟩ : ∃ v, vs[i]? = some v := ⟨_, List.getElem?_eq_getElem hvi⟩
  obtain ⟨o, ho⟩ : ∃ o, o = 3 * i := ⟨_, rfl⟩
  have HO := hide ho
  have hgl := h.fb g h.fg
  have hbl := h.fb b (h.fC b rfl)
  have h1 := h.bel (bel_new w (.cells #[.int .i64 0, .int .i64 0, .int .u64 0] 41))
  obtain ⟨q0, q1, q2⟩ := qcs_at _ _ _ _ _ hx hv
  rw [← ho] at q0 q1 q2
  have d2 := (own_cell h1.ch _ _ q2).1
  have oq := (h1.q i _ vq hx hv).1
  obtain ⟨aq, cq, eq, _⟩ := own_slice oq
  rw [eq, hl] at d2
  have TK := hide (take_none b o (h1.fb b (h1.fC b rfl)) aq cq d2)
  clear oq
  have HX := hide (And.intro hx hv)
  have HF := hide h.fb
  have W1 := hide (And.intro h1 (And.intro (bel_new w (.cells #[.int .i64 0, .int .i64 0, .int .u64 0] 41)) (Val.new w 0 0 0)))
  clear h h1 hsm hc hm hn ho hx hv hvi q0 q1 q2 d2 hrm
  go_enter Tryd.func34, Tryd.ntmps34
  go_wp2_with fail
  refine (in_syncelementsyncqueue b n c i o _ hi HO).mono ?_
  rintro e w1 ⟨rfl, rfl⟩
  go_wp2_with fail
  generalize w.alloc (.cells #[.int .i64 0, .int .i64 0, .int .u64 0] 41) = w1 at *
  refine TK.out.mono ?_
  rintro e w2 ⟨rfl, hb⟩
  obtain ⟨h1, hb1, V1⟩ := W1.out
  have V2 := V1.al hb
  obtain ⟨⟨f0, f1, f2⟩, v0, v1, v2⟩ := V2.all
  have hlt := V2.lt
  have V3 := hide ((V2.set 0 0 0).al (bel_new _ (.cells #[.int .i64 0, .int .i64 0, .int .u64 0] 41)))
  have hf1 := vf0
  have B2 := hide (bel_al (bel_set (bel_trans hb1 hb) (Nat.le_refl _) (.int .i64 0) (.int .i64 0) (.int .u64 0)) (.cells #[.int .i64 0, .int .i64 0, .int .u64 0] 41))
  clear h1 hb1 V1 W1 TK V2
  go_wp2_with fail
  exact ret_vbe w.heap.size rfl rfl rfl rfl V3.out rfl (Vb.mk rfl B2.out)
set_option maxRecDepth 20000 in
set_option maxHeartbeats 1000000 in
theorem Recv_some {w : World} {F : Nat → Prop} {g : Nat} {s : St} (h : Stt w F g s) (i : Nat) (q : Qu) (hx : s.C[i]? = some q) (v : V3) (l : List V3) (hl : q.l = v :: l) : Calls Tryd.prog 34 #[.pointer (some ⟨g, 0, none⟩), .int .i64 (i : Nat)] w (Sp w F g { s with C := s.C.set i { q with l := l } } (.tuple #[.agg #[.int .i64 v.1, .int .i64 v.2.1, .int .u64 v.2.2], .bool true, .nilIface])) := by
  obtain ⟨vP, vM, vC, vA, vs, h⟩ := h
  have hi : i < s.C.length := (List.getElem?_eq_some_iff.1 hx).1
  obtain ⟨b, c, e, hc, hm⟩ := own_some h.ch (by omega)
  have hsm := h.small
  obtain ⟨n, hn⟩ : ∃ n, n = s.C.length := ⟨_, rfl⟩
  rw [← hn] at e hi hc
  have hn32 : n ≤ 32 := by omega
  subst e
  have HN := hide hn
  have c1 := h.cells.2.2.1
  have hrm := h.rooms _ (List.mem_of_getElem? hx)
  have hvi : i < vs.length := by rw [h.len]; omega
  obtain ⟨vq, hv⟩ : ∃ v, vs[i]? = some v := ⟨_, List.getElem?_eq_getElem hvi⟩
  obtain ⟨o, ho⟩ : ∃ o, o = 3 * i := ⟨_, rfl⟩
  have HO := hide ho
  have hgl := h.fb g h.fg
  have hbl := h.fb b (h.fC b rfl)
  have h1 := h.bel (bel_new w (.cells #[.int .i64 0, .int .i64 0, .int .u64 0] 41))
  obtain ⟨q0, q1, q2⟩ := qcs_at _ _ _ _ _ hx hv
  rw [← ho] at q0 q1 q2
  have d2 := (own_cell h1.ch _ _ q2).1
  have oq := (h1.q i _ vq hx hv).1
  obtain ⟨qt, qr, ql⟩ := q
  simp only at hl hrm oq
  subst hl
  obtain ⟨k, hk⟩ : ∃ k, k = l.length := ⟨_, rfl⟩
  have hk1 : (v :: l).length = k + 1 := by rw [hk]; rfl
  rw [hk1] at oq hrm
  obtain ⟨bq, cq, eq, _⟩ := own_some oq (by omega)
  subst eq
  obtain ⟨_, _, cur, hcur⟩ := own_type h1.ch (k := b) rfl
  have TK := hide (take_some b o cur hcur bq cq k v l hk (by omega) d2 oq)
  have HK := hide (And.intro hk hrm)
  clear oq hk1 hcur hk
  have HX := hide (And.intro hx hv)
  have HF := hide h.fb
  have W1 := hide (And.intro h1 (And.intro (bel_new w (.cells #[.int .i64 0, .int .i64 0, .int .u64 0] 41)) (Val.new w 0 0 0)))
  clear h h1 hsm hc hm hn ho hx hv hvi q0 q1 q2 d2 hrm
  go_enter Tryd.func34, Tryd.ntmps34
  go_wp2_with fail
  refine (in_syncelementsyncqueue b n c i o _ hi HO).mono ?_
  rintro e w1 ⟨rfl, rfl⟩
  go_wp2_with fail
  generalize w.alloc (.cells #[.int .i64 0, .int .i64 0, .int .u64 0] 41) = w1 at *
  refine TK.out.mono ?_
  rintro e w2 ⟨rfl, w3, o3, g3, hb3⟩
  obtain ⟨h1, hb1, V1⟩ := W1.out
  obtain ⟨S4, C4⟩ := h1.chan HN.out i HX.out.1 HX.out.2 g3 o3 (fun k hk => .inl hk) (by have := HK.out; simp only; omega)
  rw [← HO.out] at S4 C4
  have hF : ∀ k, (F k ∨ (Value.slice (some ⟨bq, 0, none⟩) k cq).ownBlock = some k) → F k := fun k hk => by
    rcases hk with h | h
    · exact h
    · exact ((h1.q i _ _ HX.out.1 HX.out.2).2 k h).1
  have S5 := S4.keep (fun k hk => hb3.block k (h1.fb k (hF k hk))) hb3.size
  have C5 := C4.below hb3
  have V2 := V1.keep (C5.blk w.heap.size V1.lt (fun e => by have := HF.out _ e; omega))
  obtain ⟨⟨f0, f1, f2⟩, v0, v1, v2⟩ := V2.all
  have hlt := V2.lt
  have V3 := hide ((V2.set v.1 v.2.1 v.2.2).al (bel_new _ (.cells #[.int .i64 v.1, .int .i64 v.2.1, .int .u64 v.2.2] 41)))
  have S6 := hide ((S5.var (k := w.heap.size) (fun e => by have := HF.out _ (hF _ e); omega) (.int .i64 v.1) (.int .i64 v.2.1) (.int .u64 v.2.2)).bel (bel_new _ (.cells #[.int .i64 v.1, .int .i64 v.2.1, .int .u64 v.2.2] 41)))
  have C6 := hide ((((Ch.of_bel hb1).trans C5).below (bel_set (N := w.heap.size) (Below.refl _ _) (Nat.le_refl _) (.int .i64 v.1) (.int .i64 v.2.1) (.int .u64 v.2.2))).below ((bel_new _ (.cells #[.int .i64 v.1, .int .i64 v.2.1, .int .u64 v.2.2] 41)).mono (by rw [size_setCell, size_setCell, size_setCell]; exact Nat.le_trans hb1.size C5.size)))
  clear S4 C4 S5 C5 V2 h1 hb1 V1 W1 TK o3 g3 hb3 hF
  go_wp2_with fail
  exact ret_vbe w.heap.size rfl rfl rfl rfl V3.out rfl (Sp.mk rfl ⟨_, _, _, _, _, S6.out⟩ C6.out)
set_option maxRecDepth 20000 in
set_option maxHeartbeats 1000000 in
theorem Recv_out {w : World} {F : Nat → Prop} {g : Nat} {s : St} (h : Stt w F g s) {p : List Addr} (h17 : E2 w p) (i : Int) (hi : i < 0 ∨ (s.C.length : Int) ≤ i) : Calls Tryd.prog 34 #[.pointer (some ⟨g, 0, none⟩), .int .i64 i] w (Vb w (.tuple #[.agg #[.int .i64 0, .int .i64 0, .int .u64 0], .bool false, errV p 0])) := by
  obtain ⟨vP, vM, vC, vA, vs, h⟩ := h
  obtain ⟨a, c, e, hc, hm⟩ := own_slice h.ch
  subst e
  obtain ⟨n, hn⟩ : ∃ n, n = s.C.length := ⟨_, rfl⟩
  rw [← hn] at hi
  have c1 := h.cells.2.2.1
  rw [← hn] at c1
  have EO := hide (fun w' (h17 : E2 w' p) => out_syncelementsyncqueue a n c i w' h17 hi)
  have H7 := hide h17
  unfold errV at *
  generalize adr p 0 = ad at *
  have HGL := hide (h.fb g h.fg)
  clear h hc hm hi hn h17
  have H7a := hide (H7.out.below (Nat.le_refl _) (bel_new w (.cells #[.int .i64 0, .int .i64 0, .int .u64 0] 41)))
  have hgl := HGL.out
  have V0 := hide (Val.new w 0 0 0)
  go_enter Tryd.func34, Tryd.ntmps34
  go_wp2_with fail
  refine (EO.out _ H7a.out).mono ?_
  rintro e w1 ⟨rfl, hb⟩
  have V1 := V0.out.al hb
  obtain ⟨⟨f0, f1, f2⟩, v0, v1, v2⟩ := V1.all
  go_wp2_with fail
  exact ret_vbe w.heap.size rfl rfl rfl rfl (V1.set 0 0 0) rfl (Vb.mk rfl (bel_set (bel_trans (bel_new _ _) hb) (Nat.le_refl _) _ _ _))
end Go.Proofs.YtghfjnnmpmfboaaDoor.Ck
