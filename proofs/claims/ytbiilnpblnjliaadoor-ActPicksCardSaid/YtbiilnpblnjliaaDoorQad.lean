/- Texts of this proof, packed: contracts of the program's functions, and the plain model that they are held against. -/
import Derived.Test.YtbiilnpblnjliaaDoorQac
import Derived.Lib.SmallJoins
/- Package sync: Recv. (Written by mk_y.py.) -/
namespace Go.Proofs.YtbiilnpblnjliaaDoor.Ck
open Go.RowKit

theorem ret_vbe {fn : Func} {R : Ending → World → Prop} {a : Act} {w : World} {p q r : Tmp} (g : Nat) {t n b : Int} {bv ev : Value} (hf : fn.results = #[.cell p 41, .tmp q, .tmp r]) (hp : a.tmps.getD p undef = .pointer (some ⟨g, 0, none⟩)) (hq : a.tmps.getD q undef = bv) (hr : a.tmps.getD r undef = ev)
    (h : Val w g t n b) (hdf : a.defers = []) (hR : R (.returned (.tuple #[.agg #[.int .i64 t, .int .i64 n, .int .u64 b], bv, ev])) w) : bodyPost Tryd.prog fn R .ret a w :=
  bodyPost_ret (by
    have hp' : a.tmps[p]?.getD undef = .pointer (some ⟨g, 0, none⟩) := by simpa using hp
    have hq' : a.tmps[q]?.getD undef = bv := by simpa using hq
    have hr' : a.tmps[r]?.getD undef = ev := by simpa using hr
    obtain ⟨_, c0, c1, c2⟩ := h.all
    simp [results, hf, hp', hq', hr', go_sem, c0, c1, c2]) hdf hR
set_option maxRecDepth 20000 in
set_option maxHeartbeats 1000000 in
theorem Recv_none {w : World} {F : Nat → Prop} {g : Nat} {s : St} (h : Stt w F g s) (i : Nat) (q : Qu) (hx : s.C[i]? = some q) (hl : q.l = []) : Calls Tryd.prog 33 #[.pointer (some ⟨g, 0, none⟩), .int .i64 (i : Nat)] w (Vb w (.tuple #[.agg #[.int .i64 0, .int .i64 0, .int .u64 0], .bool false, .nilIface])) := by
  obtain ⟨vP, vM, vC, vA, vs, h⟩ := h
  have hi : i < s.C.length := (List.getElem?_eq_some_iff.1 hx).1
  obtain ⟨b, c, e, hc, hm⟩ := own_some h.ch (by omega)
  have hsm := h.small
  obtain ⟨n, hn⟩ : ∃ n, n = s.C.length := ⟨_, rfl⟩
  rw [← hn] at e hi hc
  have hn32 : n ≤ 32 := by omega
  subst e
  have HN := hide hn
  have c1 := h.cells.2.2.1
  have hrm := h.rooms _ (List.mem_of_getElem? hx)
  have hvi : i < vs.length := by rw [h.len]; omega
  obtain ⟨vq, hv⟩ : ∃ v, vs[i]? = some v := ⟨_, List.getElem?_eq_getElem hvi⟩
  obtain ⟨o, ho⟩ : ∃ o, o = 3 * i := ⟨_, rfl⟩
  have HO := hide ho
  have hgl := h.fb g h.fg
  have hbl := h.fb b (h.fC b rfl)
  have h1 := h.bel (bel_new w (.cells #[.int .i64 0, .int .i64 0, .int .u64 0] 41))
  obtain ⟨q0, q1, q2⟩ := qcs_at _ _ _ _ _ hx hv
  rw [← ho] at q0 q1 q2
  have d2 := (own_cell h1.ch _ _ q2).1
  have oq := (h1.q i _ vq hx hv).1
  obtain ⟨aq, cq, eq, _⟩ := own_slice oq
  rw [eq, hl] at d2
  have TK := hide (take_none b o (h1.fb b (h1.fC b rfl)) aq cq d2)
  clear oq
  have HX := hide (And.intro hx hv)
  have HF := hide h.fb
  have W1 := hide (And.intro h1 (And.intro (bel_new w (.cells #[.int .i64 0, .int .i64 0, .int .u64 0] 41)) (Val.new w 0 0 0)))
  clear h h1 hsm hc hm hn ho hx hv hvi q0 q1 q2 d2 hrm
  go_enter Tryd.func33, Tryd.ntmps33
  go_wp2_with fail
  refine (in_syncelementsyncqueue b n c i o _ hi HO).mono ?_
  rintro e w1 ⟨rfl, rfl⟩
  go_wp2_with fail
  generalize w.alloc (.cells #[.int .i64 0, .int .i64 0, .int .u64 0] 41) = w1 at *
  refine TK.out.mono ?_
  rintro e w2 ⟨rfl, hb⟩
  obtain ⟨h1, hb1, V1⟩ := W1.out
  have V2 := V1.al hb
  obtain ⟨⟨f0, f1, f2⟩, v0, v1, v2⟩ := V2.all
  have hlt := V2.lt
  have V3 := hide ((V2.set 0 0 0).al (bel_new _ (.cells #[.int .i64 0, .int .i64 0, .int .u64 0] 41)))
  have hf1 := vf0
  have B2 := hide (bel_al (bel_set (bel_trans hb1 hb) (Nat.le_refl _) (.int .i64 0) (.int .i64 0) (.int .u64 0)) (.cells #[.int .i64 0, .int .i64 0, .int .u64 0] 41))
  clear h1 hb1 V1 W1 TK V2
  go_wp2_with fail
  exact ret_vbe w.heap.size rfl rfl rfl rfl V3.out rfl (Vb.mk rfl B2.out)
set_option maxRecDepth 20000 in
set_option maxHeartbeats 1000000 in
theorem Recv_some {w : World} {F : Nat → Prop} {g : Nat} {s : St} (h : Stt w F g s) (i : Nat) (q : Qu) (hx : s.C[i]? = some q) (v : V3) (l : List V3) (hl : q.l = v :: l) : Calls Tryd.prog 33 #[.pointer (some ⟨g, 0, none⟩), .int .i64 (i : Nat)] w (Sp w F g { s with C := s.C.set i { q with l := l } } (.tuple #[.agg #[.int .i64 v.1, .int .i64 v.2.1, .int .u64 v.2.2], .bool true, .nilIface])) := by
  obtain ⟨vP, vM, vC, vA, vs, h⟩ := h
  have hi : i < s.C.length := (List.getElem?_eq_some_iff.1 hx).1
  obtain ⟨b, c, e, hc, hm⟩ := own_some h.ch (by omega)
  have hsm := h.small
  obtain ⟨n, hn⟩ : ∃ n, n = s.C.length := ⟨_, rfl⟩
  rw [← hn] at e hi hc
  have hn32 : n ≤ 32 := by omega
  subst e
  have HN := hide hn
  have c1 := h.cells.2.2.1
  have hrm := h.rooms _ (List.mem_of_getElem? hx)
  have hvi : i < vs.length := by rw [h.len]; omega
  obtain ⟨vq, hv⟩ : ∃ v, vs[i]? = some v := ⟨_, List.getElem?_eq_getElem hvi⟩
  obtain ⟨o, ho⟩ : ∃ o, o = 3 * i := ⟨_, rfl⟩
  have HO := hide ho
  have hgl := h.fb g h.fg
  have hbl := h.fb b (h.fC b rfl)
  have h1 := h.bel (bel_new w (.cells #[.int .i64 0, .int .i64 0, .int .u64 0] 41))
  obtain ⟨q0, q1, q2⟩ := qcs_at _ _ _ _ _ hx hv
  rw [← ho] at q0 q1 q2
  have d2 := (own_cell h1.ch _ _ q2).1
  have oq := (h1.q i _ vq hx hv).1
  obtain ⟨qt, qr, ql⟩ := q
  simp only at hl hrm oq
  subst hl
  obtain ⟨k, hk⟩ : ∃ k, k = l.length := ⟨_, rfl⟩
  have hk1 : (v :: l).length = k + 1 := by rw [hk]; rfl
  rw [hk1] at oq hrm
  obtain ⟨bq, cq, eq, _⟩ := own_some oq (by omega)
  subst eq
  obtain ⟨_, _, cur, hcur⟩ := own_type h1.ch (k := b) rfl
  have TK := hide (take_some b o cur hcur bq cq k v l hk (by omega) d2 oq)
  have HK := hide (And.intro hk hrm)
  clear oq hk1 hcur hk
  have HX := hide (And.intro hx hv)
  have HF := hide h.fb
  have W1 := hide (And.intro h1 (And.intro (bel_new w (.cells #[.int .i64 0, .int .i64 0, .int .u64 0] 41)) (Val.new w 0 0 0)))
  clear h h1 hsm hc hm hn ho hx hv hvi q0 q1 q2 d2 hrm
  go_enter Tryd.func33, Tryd.ntmps33
  go_wp2_with fail
  refine (in_syncelementsyncqueue b n c i o _ hi HO).mono ?_
  rintro e w1 ⟨rfl, rfl⟩
  go_wp2_with fail
  generalize w.alloc (.cells #[.int .i64 0, .int .i64 0, .int .u64 0] 41) = w1 at *
  refine TK.out.mono ?_
  rintro e w2 ⟨rfl, w3, o3, g3, hb3⟩
  obtain ⟨h1, hb1, V1⟩ := W1.out
  obtain ⟨S4, C4⟩ := h1.chan HN.out i HX.out.1 HX.out.2 g3 o3 (fun k hk => .inl hk) (by have := HK.out; simp only; omega)
  rw [← HO.out] at S4 C4
  have hF : ∀ k, (F k ∨ (Value.slice (some ⟨bq, 0, none⟩) k cq).ownBlock = some k) → F k := fun k hk => by
    rcases hk with h | h
    · exact h
    · exact ((h1.q i _ _ HX.out.1 HX.out.2).2 k h).1
  have S5 := S4.keep (fun k hk => hb3.block k (h1.fb k (hF k hk))) hb3.size
  have C5 := C4.below hb3
  have V2 := V1.keep (C5.blk w.heap.size V1.lt (fun e => by have := HF.out _ e; omega))
  obtain ⟨⟨f0, f1, f2⟩, v0, v1, v2⟩ := V2.all
  have hlt := V2.lt
  have V3 := hide ((V2.set v.1 v.2.1 v.2.2).al (bel_new _ (.cells #[.int .i64 v.1, .int .i64 v.2.1, .int .u64 v.2.2] 41)))
  have S6 := hide ((S5.var (k := w.heap.size) (fun e => by have := HF.out _ (hF _ e); omega) (.int .i64 v.1) (.int .i64 v.2.1) (.int .u64 v.2.2)).bel (bel_new _ (.cells #[.int .i64 v.1, .int .i64 v.2.1, .int .u64 v.2.2] 41)))
  have C6 := hide ((((Ch.of_bel hb1).trans C5).below (bel_set (N := w.heap.size) (Below.refl _ _) (Nat.le_refl _) (.int .i64 v.1) (.int .i64 v.2.1) (.int .u64 v.2.2))).below ((bel_new _ (.cells #[.int .i64 v.1, .int .i64 v.2.1, .int .u64 v.2.2] 41)).mono (by rw [size_setCell, size_setCell, size_setCell]; exact Nat.le_trans hb1.size C5.size)))
  clear S4 C4 S5 C5 V2 h1 hb1 V1 W1 TK o3 g3 hb3 hF
  go_wp2_with fail
  exact ret_vbe w.heap.size rfl rfl rfl rfl V3.out rfl (Sp.mk rfl ⟨_, _, _, _, _, S6.out⟩ C6.out)
set_option maxRecDepth 20000 in
set_option maxHeartbeats 1000000 in
theorem Recv_out {w : World} {F : Nat → Prop} {g : Nat} {s : St} (h : Stt w F g s) {p : List Addr} (h17 : E2 w p) (i : Int) (hi : i < 0 ∨ (s.C.length : Int) ≤ i) : Calls Tryd.prog 33 #[.pointer (some ⟨g, 0, none⟩), .int .i64 i] w (Vb w (.tuple #[.agg #[.int .i64 0, .int .i64 0, .int .u64 0], .bool false, errV p 0])) := by
  obtain ⟨vP, vM, vC, vA, vs, h⟩ := h
  obtain ⟨a, c, e, hc, hm⟩ := own_slice h.ch
  subst e
  obtain ⟨n, hn⟩ : ∃ n, n = s.C.length := ⟨_, rfl⟩
  rw [← hn] at hi
  have c1 := h.cells.2.2.1
  rw [← hn] at c1
  have EO := hide (fun w' (h17 : E2 w' p) => out_syncelementsyncqueue a n c i w' h17 hi)
  have H7 := hide h17
  unfold errV at *
  generalize adr p 0 = ad at *
  have HGL := hide (h.fb g h.fg)
  clear h hc hm hi hn h17
  have H7a := hide (H7.out.below (Nat.le_refl _) (bel_new w (.cells #[.int .i64 0, .int .i64 0, .int .u64 0] 41)))
  have hgl := HGL.out
  have V0 := hide (Val.new w 0 0 0)
  go_enter Tryd.func33, Tryd.ntmps33
  go_wp2_with fail
  refine (EO.out _ H7a.out).mono ?_
  rintro e w1 ⟨rfl, hb⟩
  have V1 := V0.out.al hb
  obtain ⟨⟨f0, f1, f2⟩, v0, v1, v2⟩ := V1.all
  go_wp2_with fail
  exact ret_vbe w.heap.size rfl rfl rfl rfl (V1.set 0 0 0) rfl (Vb.mk rfl (bel_set (bel_trans (bel_new _ _) hb) (Nat.le_refl _) _ _ _))
end Go.Proofs.YtbiilnpblnjliaaDoor.Ck

/- Package sync: what is refused. (Written by mk_y.py.) -/
namespace Go.Proofs.YtbiilnpblnjliaaDoor.Ck
open Go.RowKit

def badT (t : Int) : Bool := zeroT t == 0
/-- a slice of channels that holds the list cs -/
def SlC (w : World) (v : Value) (cs : List (Int × Int)) : Prop := ∃ a cap, v = .slice a cs.length cap ∧ cs.length ≤ cap ∧ cap ≤ maxLen ∧
    ∀ i, i < cs.length → ∃ b off, a = some ⟨b, off, none⟩ ∧ b < w.heap.size ∧ w.cell? ⟨b, off + i * 2, none⟩ = some (.int .i64 (cs.getD i (0, 0)).1) ∧ w.cell? ⟨b, off + i * 2 + 1, none⟩ = some (.int .i64 (cs.getD i (0, 0)).2)
theorem SlC.below {w w' : World} {v : Value} {cs : List (Int × Int)} (h : SlC w v cs) (hb : Below w.heap.size w w') : SlC w' v cs := by
  obtain ⟨a, cap, hv, h1, h2, h3⟩ := h
  refine ⟨a, cap, hv, h1, h2, fun i hi => ?_⟩
  obtain ⟨b, off, ha, hlt, hc, hd⟩ := h3 i hi
  exact ⟨b, off, ha, Nat.lt_of_lt_of_le hlt hb.size, (hb.cell (p := ⟨b, off + i * 2, none⟩) hlt).trans hc, (hb.cell (p := ⟨b, off + i * 2 + 1, none⟩) hlt).trans hd⟩
theorem SlC.nilS (w : World) : SlC w (.slice none 0 0) [] := ⟨none, 0, rfl, Nat.le_refl _, Nat.zero_le _, fun _ h => absurd h (Nat.not_lt_zero _)⟩
theorem any_not {α : Type} (l : List α) (f : α → Bool) (d : α) (h : ∀ j, j < l.length → f (l.getD j d) = false) : l.any f = false := by
  rw [List.any_eq_false]
  intro x hx
  obtain ⟨i, hi, rfl⟩ := List.mem_iff_getElem.1 hx
  have := h i hi
  rw [List.getD_eq_getElem?_getD, List.getElem?_eq_getElem hi] at this
  simpa using this
theorem any_yes {α : Type} (l : List α) (f : α → Bool) (d : α) (k : Nat) (hk : k < l.length) (h : f (l.getD k d) = true) : l.any f = true := by
  rw [List.any_eq_true]
  rw [List.getD_eq_getElem?_getD, List.getElem?_eq_getElem hk] at h
  exact ⟨l[k], List.getElem_mem hk, by simpa using h⟩
def IdxP (w : World) (b : Bool) (e : Ending) (w' : World) : Prop := (∃ r : Int, e = .returned (.int .i64 r) ∧ decide (0 ≤ r) = b) ∧ Below w.heap.size w w'
set_option maxRecDepth 20000 in
set_option maxHeartbeats 1000000 in
theorem index_int (v : Value) (zs : List Int) (w : World) (h : Sl w v zs) : Calls Tryd.prog 79 #[v, .func (.func 36) #[] #[]] w (IdxP w (zs.any badT)) := by
  obtain ⟨_, a, c, rfl, hca, hcm, hac⟩ := h
  unfold maxLen at hcm
  obtain ⟨n, hn⟩ : ∃ n, n = zs.length := ⟨_, rfl⟩
  have hs : Hid ((∀ j, j < n → badT (zs.getD j 0) = false) → zs.any badT = false) := fun h => any_not zs _ 0 (fun j hj => h j (by omega))
  have hs2 : Hid (∀ k, k < n → badT (zs.getD k 0) = true → zs.any badT = true) := fun k hk => any_yes zs _ 0 k (by omega)
  have hac' : ∀ i, i < n → _ := fun i hi => hac i (by omega)
  rw [← hn] at hca ⊢
  clear hn hac
  generalize zs.any badT = r at *
  go_enter Tryd.func79, Tryd.ntmps79
  go_wp2_with fail
  go_loopw [5, 8] (fun u i wr => ∃ k : Nat, k ≤ n ∧ i = .int .i64 k ∧ Hid (∀ j, j < k → badT (zs.getD j 0) = false) ∧ Hid (Below w.heap.size w wr)) (fun u i _ => n - (intOf i).toNat)
  case atStart => exact ⟨0, Nat.zero_le _, rfl, fun j hj => absurd hj (Nat.not_lt_zero _), Below.refl _ _⟩
  case round =>
    obtain ⟨k, hk, rfl, hall, hbel⟩ := hrel
    by_cases hlt : k < n
    · obtain ⟨b1, o1, rfl, hb1, hc1⟩ := hac' k hlt
      rw [← hbel.out.cell (p := ⟨b1, o1 + k, none⟩) hb1] at hc1
      have h1 : (k : Int) < (n : Int) := by omega
      have hne := hide (hs2.out k hlt)
      have hstep : Hid (badT (zs.getD k 0) = false → ∀ j, j < k + 1 → badT (zs.getD j 0) = false) := fun e j hj => by
        by_cases ej : j = k
        · rw [ej]; exact e
        · exact hall.out j (by omega)
      have NT := fun w => (show Calls Tryd.prog 36 #[.int .i64 (zs.getD k 0)] w (Vb w (.bool (badT (zs.getD k 0)))) from noType_any _ w)
      clear hac' hs hs2 hall
      generalize badT (zs.getD k 0) = x at *
      generalize zs.getD k 0 = y at *
      go_wp2_with fail
      refine (NT _).mono ?_
      rintro e w1 ⟨rfl, hb⟩
      have hbel2 := hide (bel_trans hbel.out hb)
      cases x with
      | true =>
        have hr := hide (hne.out rfl)
        clear hne hstep
        go_wp2_with fail
        go_ret
        exact ⟨⟨_, rfl, by rw [hr.out]; simp⟩, hbel2.out⟩
      | false =>
        have hr := hide (hstep.out rfl)
        clear hne hstep
        go_wp2_with fail
        go_roundw
        case rel => exact ⟨k + 1, by omega, by go_num, hr, hbel2⟩
        case measure => simp [intOf]; omega
    · have e : k = n := by omega
      subst e
      have hs3 := hide (hs.out hall.out)
      clear hac' hs hs2 hall
      go_wp2_with fail
      go_ret
      exact ⟨⟨_, rfl, by rw [hs3.out]; rfl⟩, hbel.out⟩
set_option maxRecDepth 20000 in
set_option maxHeartbeats 1000000 in
theorem contains_int (v : Value) (zs : List Int) (w : World) (h : Sl w v zs) : Calls Tryd.prog 35 #[v, .func (.func 36) #[] #[]] w (Vb w (.bool (zs.any badT))) := by
  have I := hide (index_int v zs w h)
  have hv : ∃ a n c, v = .slice a n c := by
    obtain ⟨_, a, c, rfl, _⟩ := h
    exact ⟨_, _, _, rfl⟩
  obtain ⟨a, n, c, rfl⟩ := hv
  clear h
  generalize zs.any badT = r at *
  go_enter Tryd.func35, Tryd.ntmps35
  go_wp2_with fail
  refine I.out.mono ?_
  rintro e w1 ⟨⟨x, rfl, hx⟩, hb⟩
  have HX := hide hx
  clear hx
  go_wp2_with fail
  go_ret
  exact Vb.mk (congrArg Value.bool HX.out) hb
def badC (c : Int × Int) : Bool := chanB c.1 c.2
set_option maxRecDepth 20000 in
set_option maxHeartbeats 1000000 in
theorem index_chan (v : Value) (zs : List (Int × Int)) (w : World) (h : SlC w v zs) : Calls Tryd.prog 80 #[v, .func (.func 38) #[] #[]] w (IdxP w (zs.any badC)) := by
  obtain ⟨a, c, rfl, hca, hcm, hac⟩ := h
  unfold maxLen at hcm
  obtain ⟨n, hn⟩ : ∃ n, n = zs.length := ⟨_, rfl⟩
  have hs : Hid ((∀ j, j < n → badC (zs.getD j (0, 0)) = false) → zs.any badC = false) := fun h => any_not zs _ (0, 0) (fun j hj => h j (by omega))
  have hs2 : Hid (∀ k, k < n → badC (zs.getD k (0, 0)) = true → zs.any badC = true) := fun k hk => any_yes zs _ (0, 0) k (by omega)
  have hac' : ∀ i, i < n → _ := fun i hi => hac i (by omega)
  rw [← hn] at hca ⊢
  clear hn hac
  generalize zs.any badC = r at *
  go_enter Tryd.func80, Tryd.ntmps80
  go_wp2_with fail
  go_loopw [5, 8] (fun u i wr => ∃ k : Nat, k ≤ n ∧ i = .int .i64 k ∧ Hid (∀ j, j < k → badC (zs.getD j (0, 0)) = false) ∧ Hid (Below w.heap.size w wr)) (fun u i _ => n - (intOf i).toNat)
  case atStart => exact ⟨0, Nat.zero_le _, rfl, fun j hj => absurd hj (Nat.not_lt_zero _), Below.refl _ _⟩
  case round =>
    obtain ⟨k, hk, rfl, hall, hbel⟩ := hrel
    by_cases hlt : k < n
    · obtain ⟨b1, o1, rfl, hb1, hc1, hd1⟩ := hac' k hlt
      rw [← hbel.out.cell (p := ⟨b1, o1 + k * 2, none⟩) hb1] at hc1
      rw [← hbel.out.cell (p := ⟨b1, o1 + k * 2 + 1, none⟩) hb1] at hd1
      have h1 : (k : Int) < (n : Int) := by omega
      have hne := hide (hs2.out k hlt)
      have hstep : Hid (badC (zs.getD k (0, 0)) = false → ∀ j, j < k + 1 → badC (zs.getD j (0, 0)) = false) := fun e j hj => by
        by_cases ej : j = k
        · rw [ej]; exact e
        · exact hall.out j (by omega)
      have NT := fun w => (show Calls Tryd.prog 38 #[.agg #[.int .i64 (zs.getD k (0, 0)).1, .int .i64 (zs.getD k (0, 0)).2]] w (Vb w (.bool (badC (zs.getD k (0, 0))))) from noChan_any _ _ w)
      clear hac' hs hs2 hall
      generalize badC (zs.getD k (0, 0)) = x at *
      generalize (zs.getD k (0, 0)).1 = y1 at *
      generalize (zs.getD k (0, 0)).2 = y2 at *
      go_wp2_with fail
      refine (NT _).mono ?_
      rintro e w1 ⟨rfl, hb⟩
      have hbel2 := hide (bel_trans hbel.out hb)
      cases x with
      | true =>
        have hr := hide (hne.out rfl)
        clear hne hstep
        go_wp2_with fail
        go_ret
        exact ⟨⟨_, rfl, by rw [hr.out]; simp⟩, hbel2.out⟩
      | false =>
        have hr := hide (hstep.out rfl)
        clear hne hstep
        go_wp2_with fail
        go_roundw
        case rel => exact ⟨k + 1, by omega, by go_num, hr, hbel2⟩
        case measure => simp [intOf]; omega
    · have e : k = n := by omega
      subst e
      have hs3 := hide (hs.out hall.out)
      clear hac' hs hs2 hall
      go_wp2_with fail
      go_ret
      exact ⟨⟨_, rfl, by rw [hs3.out]; rfl⟩, hbel.out⟩
set_option maxRecDepth 20000 in
set_option maxHeartbeats 1000000 in
theorem contains_chan (v : Value) (zs : List (Int × Int)) (w : World) (h : SlC w v zs) : Calls Tryd.prog 37 #[v, .func (.func 38) #[] #[]] w (Vb w (.bool (zs.any badC))) := by
  have I := hide (index_chan v zs w h)
  have hv : ∃ a n c, v = .slice a n c := by
    obtain ⟨a, c, rfl, _⟩ := h
    exact ⟨_, _, _, rfl⟩
  obtain ⟨a, n, c, rfl⟩ := hv
  clear h
  generalize zs.any badC = r at *
  go_enter Tryd.func37, Tryd.ntmps37
  go_wp2_with fail
  refine I.out.mono ?_
  rintro e w1 ⟨⟨x, rfl, hx⟩, hb⟩
  have HX := hide hx
  clear hx
  go_wp2_with fail
  go_ret
  exact Vb.mk (congrArg Value.bool HX.out) hb
end Go.Proofs.YtbiilnpblnjliaaDoor.Ck

/- A place or a channel more in a state; no Go text is walked here. -/
namespace Go.Proofs.YtbiilnpblnjliaaDoor.Ck
open Go.RowKit

section
variable {w w2 : World} {F : Nat → Prop} {g : Nat} {s : St} {vP vM vC vA v' : Value} {vs : List Value}
theorem Sv.placeA (h : Sv w F g s vP vM vC vA vs) (x : V3) (hg : w.grownBy w2 vP.ownBlock) (ho : w2.ownsRow 0 41 3 v' (s.P ++ [x]).length (vcs (s.P ++ [x]))) (hb : ∀ k, v'.ownBlock = some k → vP.ownBlock = some k ∨ w.heap.size ≤ k) (hl : s.P.length < 128) :
    Sv (w2.setCell ⟨g, 0, none⟩ v') (fun k => F k ∨ v'.ownBlock = some k) g { s with P := s.P ++ [x] } v' vM vC vA vs ∧ Ch F (fun k => F k ∨ v'.ownBlock = some k) w (w2.setCell ⟨g, 0, none⟩ v') := by
  have hsz : (w2.setCell ⟨g, 0, none⟩ v').heap.size = w2.heap.size := size_setCell _ _ _
  have ho2 : ∀ k, k ≠ g → (w2.setCell ⟨g, 0, none⟩ v').heap[k]? = w2.heap[k]? := fun k hk => Below.heap_setCell _ _ _ _ hk
  have gP : vP.ownBlock ≠ some g := own_at h.pl h.at_ (by decide)
  have gv : v'.ownBlock ≠ some g := fun e => by
    rcases hb g e with h1 | h1
    · exact gP h1
    · have := lt_of_blk h.at_
      omega
  have hg2 : w2.heap[g]? = some (.cells #[vP, vM, vC, vA] 95 (0, 0)) := (hg.block g (lt_of_blk h.at_) (fun e => gP e.symm)).trans h.at_
  have hk3 : ∀ {T : TypeId} {n : Nat} {v : Value} {len : Nat} {xs : List Value}, w.ownsRow 0 T n v len xs → (∀ k, v.ownBlock = some k → vP.ownBlock ≠ some k) → T ≠ 95 → (w2.setCell ⟨g, 0, none⟩ v').ownsRow 0 T n v len xs := fun hr hne hT =>
    own_keep hr fun k hk => (ho2 k (fun e => own_at hr h.at_ hT (e ▸ hk))).trans (hg.block k (own_type hr hk).2.1 (fun e => hne k hk e.symm))
  refine ⟨?_, ⟨hg.os, hg.tape, hg.output, by rw [hsz]; exact hg.size, fun k hk hF => (ho2 k (fun e => hF (e ▸ h.fg))).trans (hg.block k hk (fun e => hF (h.fP k e.symm))), fun k hk => ?_⟩⟩
  · exact { h with
      at_ := by
        rw [heap_setCell_same w2 g 0 _ _ _ hg2]
        rfl
      pl := own_keep ho fun k hk => ho2 k (fun e => gv (e ▸ hk))
      mu := hk3 h.mu (fun k hk => own_apart h.mu h.pl (by decide) k hk) (by decide)
      ch := hk3 h.ch (fun k hk => own_apart h.ch h.pl (by decide) k hk) (by decide)
      ato := hk3 h.ato (fun k hk => own_apart h.ato h.pl (by decide) k hk) (by decide)
      q := fun i q v hq hv => by
        obtain ⟨o1, o2⟩ := h.q i q v hq hv
        refine ⟨hk3 o1 (fun k hk => (o2 k hk).2) (by decide), fun k hk => ⟨.inl (o2 k hk).1, fun e => ?_⟩⟩
        rcases hb k e with h1 | h1
        · exact (o2 k hk).2 h1
        · have := (own_type o1 hk).2.1
          omega
      fg := .inl h.fg
      fP := fun k hk => .inr hk
      fM := fun k hk => .inl (h.fM k hk)
      fC := fun k hk => .inl (h.fC k hk)
      fA := fun k hk => .inl (h.fA k hk)
      fb := fun k hk => by
        rw [hsz]
        rcases hk with hk | hk
        · exact Nat.lt_of_lt_of_le (h.fb k hk) hg.size
        · exact (own_type ho hk).2.1
      small := by
        have := h.small
        simp
        omega }
  · rcases hk with hk | hk
    · exact .inl hk
    · rcases hb k hk with h1 | h1
      · exact .inl (h.fP k h1)
      · exact .inr h1
theorem Sv.chanA (h : Sv w F g s vP vM vC vA vs) (q : Qu) {vq : Value} (oq : w.ownsRow 0 41 3 vq q.l.length (vcs q.l)) (fq : ∀ k, vq.ownBlock = some k → ¬ F k) (hg : w.grownBy w2 vC.ownBlock)
    (ho : w2.ownsRow 0 97 3 v' (s.C.length + 1) (qcs s.C vs ++ [.int .i64 q.t, .int .i64 q.room, vq])) (hb : ∀ k, v'.ownBlock = some k → vC.ownBlock = some k ∨ w.heap.size ≤ k) (hl : s.C.length < 32) (hr : 0 ≤ q.room ∧ q.room ≤ 8 ∧ (q.l.length : Int) ≤ q.room) :
    Sv (w2.setCell ⟨g, 2, none⟩ v') (fun k => F k ∨ v'.ownBlock = some k ∨ vq.ownBlock = some k) g { s with C := s.C ++ [q] } vP vM v' vA (vs ++ [vq]) ∧ Ch F (fun _ => False) w (w2.setCell ⟨g, 2, none⟩ v') := by
  have hsz : (w2.setCell ⟨g, 2, none⟩ v').heap.size = w2.heap.size := size_setCell _ _ _
  have ho2 : ∀ k, k ≠ g → (w2.setCell ⟨g, 2, none⟩ v').heap[k]? = w2.heap[k]? := fun k hk => Below.heap_setCell _ _ _ _ hk
  have gC : vC.ownBlock ≠ some g := own_at h.ch h.at_ (by decide)
  have gv : v'.ownBlock ≠ some g := fun e => by
    rcases hb g e with h1 | h1
    · exact gC h1
    · have := lt_of_blk h.at_
      omega
  have hg2 : w2.heap[g]? = some (.cells #[vP, vM, vC, vA] 95 (0, 0)) := (hg.block g (lt_of_blk h.at_) (fun e => gC e.symm)).trans h.at_
  have hk3 : ∀ {T : TypeId} {n : Nat} {v : Value} {len : Nat} {xs : List Value}, w.ownsRow 0 T n v len xs → T ≠ 97 → T ≠ 95 → (w2.setCell ⟨g, 2, none⟩ v').ownsRow 0 T n v len xs := fun hr hne hT =>
    own_keep hr fun k hk => (ho2 k (fun e => own_at hr h.at_ hT (e ▸ hk))).trans (hg.block k (own_type hr hk).2.1 (fun e => own_apart hr h.ch hne k hk e.symm))
  refine ⟨?_, ⟨hg.os, hg.tape, hg.output, by rw [hsz]; exact hg.size, fun k hk hF => (ho2 k (fun e => hF (e ▸ h.fg))).trans (hg.block k hk (fun e => hF (h.fC k e.symm))), fun k hk => hk.elim⟩⟩
  exact { h with
      at_ := by
        rw [heap_setCell_same w2 g 2 _ _ _ hg2]
        rfl
      pl := hk3 h.pl (by decide) (by decide)
      mu := hk3 h.mu (by decide) (by decide)
      ch := by
        have h1 := own_keep (w' := w2.setCell ⟨g, 2, none⟩ v') ho fun k hk => ho2 k (fun e => gv (e ▸ hk))
        rw [← qcs_app s.C vs q vq h.len] at h1
        simpa using h1
      ato := hk3 h.ato (by decide) (by decide)
      len := by simp [h.len]
      q := fun i q' v hq hv => by
        by_cases e : i < s.C.length
        · rw [List.getElem?_append_left e] at hq
          rw [List.getElem?_append_left (by rw [h.len]; exact e)] at hv
          obtain ⟨o1, o2⟩ := h.q i q' v hq hv
          exact ⟨hk3 o1 (by decide) (by decide), fun k hk => ⟨.inl (o2 k hk).1, (o2 k hk).2⟩⟩
        · rw [List.getElem?_append_right (by omega)] at hq
          rw [List.getElem?_append_right (by rw [h.len]; omega)] at hv
          have e0 : i - s.C.length = 0 := by
            rcases Nat.eq_zero_or_pos (i - s.C.length) with h0 | h0
            · exact h0
            · rw [List.getElem?_eq_none (by simp; omega)] at hq
              cases hq
          rw [h.len, e0] at hv
          rw [e0] at hq
          simp at hq hv
          subst hq hv
          exact ⟨hk3 oq (by decide) (by decide), fun k hk => ⟨.inr (.inr hk), fun e => fq k hk (h.fP k e)⟩⟩
      ne := fun a c x y k hac hx hy hk => by
        have last : ∀ i u, (vs ++ [vq])[i]? = some u → ¬ i < vs.length → i = vs.length ∧ u = vq := fun i u hu hi => by
          rw [List.getElem?_append_right (by omega)] at hu
          have e0 : i - vs.length = 0 := by
            rcases Nat.eq_zero_or_pos (i - vs.length) with h0 | h0
            · exact h0
            · rw [List.getElem?_eq_none (by simp; omega)] at hu
              cases hu
          rw [e0] at hu
          simp at hu
          exact ⟨by omega, hu.symm⟩
        have old : ∀ (j : Nat) (u : Value), vs[j]? = some u → ∀ k, u.ownBlock = some k → vq.ownBlock ≠ some k := fun j u hu k hk e => by
          have hj : j < s.C.length := by rw [← h.len]; exact (List.getElem?_eq_some_iff.1 hu).1
          exact fq k e ((h.q j s.C[j] u (List.getElem?_eq_getElem hj) hu).2 k hk).1
        by_cases e1 : a < vs.length
        · rw [List.getElem?_append_left e1] at hx
          by_cases e2 : c < vs.length
          · rw [List.getElem?_append_left e2] at hy
            exact h.ne a c x y k hac hx hy hk
          · obtain ⟨_, rfl⟩ := last c y hy e2
            exact old a x hx k hk
        · obtain ⟨ea, rfl⟩ := last a x hx e1
          have e2 : c < vs.length := by
            rcases Nat.lt_or_ge c vs.length with h2 | h2
            · exact h2
            · obtain ⟨ec, _⟩ := last c y hy (by omega)
              omega
          rw [List.getElem?_append_left e2] at hy
          exact fun e3 => old c y hy k e3 hk
      fg := .inl h.fg
      fP := fun k hk => .inl (h.fP k hk)
      fM := fun k hk => .inl (h.fM k hk)
      fC := fun k hk => .inr (.inl hk)
      fA := fun k hk => .inl (h.fA k hk)
      fb := fun k hk => by
        rw [hsz]
        rcases hk with hk | hk | hk
        · exact Nat.lt_of_lt_of_le (h.fb k hk) hg.size
        · exact (own_type ho hk).2.1
        · exact Nat.lt_of_lt_of_le (own_type oq hk).2.1 hg.size
      small := by
        have := h.small
        simp
        omega
      rooms := fun q' hq' => by
        rcases List.mem_append.1 hq' with h1 | h1
        · exact h.rooms q' h1
        · simp at h1
          subst h1
          exact hr }
end
end Go.Proofs.YtbiilnpblnjliaaDoor.Ck

/- Package sync: a state that is refused. (Written by mk_y.py.) -/
namespace Go.Proofs.YtbiilnpblnjliaaDoor.Ck
open Go.RowKit

def fitB (n : Int) : Bool := decide (0 ≤ n) && decide (n ≤ 32)
/-- may there be such a state? -/
def okN (ps : List Int) (m : Int) (cs : List (Int × Int)) (a : Int) : Bool := !decide (128 < ps.length) && (fitB m && (fitB cs.length && (fitB a && (!ps.any badT && !cs.any badC))))
def newS (ps : List Int) (m : Int) (cs : List (Int × Int)) (a : Int) : St := ⟨ps.map fun t => (t, 0, 0), List.replicate m.toNat false, cs.map fun c => ⟨c.1, c.2, []⟩, List.replicate a.toNat 0⟩
/-- what New leaves of a state that there may be -/
def NewP (w : World) (s : St) (e : Ending) (w' : World) : Prop := ∃ g F, e = .returned (.tuple #[.pointer (some ⟨g, 0, none⟩), .nilIface]) ∧ Stt w' F g s ∧ (∀ k, F k → w.heap.size ≤ k) ∧ Below w.heap.size w w'
theorem run_mkB (n : Nat) (hn : n ≤ 32) (w : World) : (Instr.makeSlice 47 (.int .i64 (n : Nat)) (.int .i64 (n : Nat))).run Tryd.prog w = .ok (.slice (some ⟨w.heap.size, 0, none⟩) n n) (w.alloc (.cells (madeCells #[.bool false] n) 4)) := by
  have hinfo : (Tryd.prog.info? 4).map (fun i => (i.zero, i.size, i.bytes)) = some (some (.bool false), 1, 1) := by kernel_rfl
  obtain ⟨i, hi, hz0, hz1, hz2⟩ := info_parts hinfo
  have hr := run_make (P := Tryd.prog) w 47 4 i (.bool false) Tryd.underlying47 hi hz0 .i64 .i64 n n (by omega) (by omega) (by rw [hz2]; omega) (by omega)
  simp only [Int.toNat_natCast, hz1, Nat.mul_one] at hr
  exact hr
theorem run_mkI (n : Nat) (hn : n ≤ 32) (w : World) : (Instr.makeSlice 22 (.int .i64 (n : Nat)) (.int .i64 (n : Nat))).run Tryd.prog w = .ok (.slice (some ⟨w.heap.size, 0, none⟩) n n) (w.alloc (.cells (madeCells #[.int .i64 0] n) 3)) := by
  obtain ⟨i, hi, hz0, hz1, hz2⟩ := info_parts info3
  have hr := run_make (P := Tryd.prog) w 22 3 i (.int .i64 0) Tryd.underlying22 hi hz0 .i64 .i64 n n (by omega) (by omega) (by rw [hz2]; omega) (by omega)
  simp only [Int.toNat_natCast, hz1, Nat.mul_one] at hr
  exact hr
theorem own_made (w : World) (z : Value) (n : Nat) (T : TypeId) (hn : n ≤ 32) : (w.alloc (.cells (madeCells #[z] n) T)).ownsRow 0 T 1 (.slice (some ⟨w.heap.size, 0, none⟩) n n) n (List.replicate n z) :=
  ⟨by simp, .inr ⟨w.heap.size, n, _, rfl, Nat.zero_le _, Go.Deep.blk_alloc_new _ _, Nat.le_refl _, by unfold maxLen; omega, by simp [madeCells], by
    apply List.ext_getElem
    · simp [madeCells]
    · intro i h1 h2
      simp [madeCells, Nat.mod_one]⟩⟩
set_option maxRecDepth 20000 in
set_option maxHeartbeats 1000000 in
theorem new_bad (vP vC : Value) (ps : List Int) (cs : List (Int × Int)) (m a : Int) {w : World} {p : List Addr} (h17 : E2 w p) (hP : Sl w vP ps) (hC : SlC w vC cs) (hok : okN ps m cs a = false) : Calls Tryd.prog 8 #[vP, .int .i64 m, vC, .int .i64 a] w (Vb w (.tuple #[.pointer none, errV p 0])) := by
  obtain ⟨aP, lP, cP, rfl, hlP⟩ := hP.slice
  obtain ⟨aC, cC, eC, _⟩ := id hC
  obtain ⟨lC, hlC⟩ : ∃ n, n = cs.length := ⟨_, rfl⟩
  rw [← hlC] at eC
  subst eC
  have CI := hide (fun w' hb => contains_int (.slice aP lP cP) ps w' (hP.below (Nat.le_refl _) hb))
  have CC := hide (fun w' (hb : Below w.heap.size w w') => contains_chan (.slice aC lC cC) cs w' (hC.below hb))
  have FM : ∀ w, Calls Tryd.prog 34 #[.int .i64 m] w fun e w' => e = .returned (.bool (fitB m)) ∧ w = w' := fun w => fits_any m w
  have FC : ∀ w, Calls Tryd.prog 34 #[.int .i64 (lC : Nat)] w fun e w' => e = .returned (.bool (fitB lC)) ∧ w = w' := fun w => fits_any lC w
  have FA : ∀ w, Calls Tryd.prog 34 #[.int .i64 a] w fun e w' => e = .returned (.bool (fitB a)) ∧ w = w' := fun w => fits_any a w
  unfold okN at hok
  rw [← hlP, ← hlC] at hok
  have H7 := hide h17
  clear hP hC h17 hlP hlC
  generalize fitB m = b1 at *
  generalize fitB lC = b2 at *
  generalize fitB a = b3 at *
  generalize ps.any badT = b4 at *
  generalize cs.any badC = b5 at *
  by_cases h0 : 128 < lP
  · have h0' : (128 : Int) < (lP : Int) := by omega
    go_enter Tryd.func8, Tryd.ntmps8
    go_wp2_with fail
    have x0 : w.cell? ⟨0, 0, none⟩ = some (errV p 0) := (H7.out).c0
    clear hok
    generalize errV p 0 = ev at *
    go_wp2_with fail
    go_quiet (fail)
    go_wp2_with fail
    go_ret2
    exact Vb.mk rfl (below_drewN (Below.refl _ _) _)
  have h0' : (lP : Int) ≤ 128 := by omega
  cases b1 with
  | false =>
    go_enter Tryd.func8, Tryd.ntmps8
    go_wp2_with fail
    refine (FM _).mono ?_
    rintro e wx ⟨rfl, rfl⟩
    have x0 : w.cell? ⟨0, 0, none⟩ = some (errV p 0) := (H7.out).c0
    clear hok
    generalize errV p 0 = ev at *
    go_wp2_with fail
    go_quiet (fail)
    go_wp2_with fail
    go_ret2
    exact Vb.mk rfl (below_drewN (Below.refl _ _) _)
  | true =>
  cases b2 with
  | false =>
    go_enter Tryd.func8, Tryd.ntmps8
    go_wp2_with fail
    refine (FM _).mono ?_
    rintro e wx ⟨rfl, rfl⟩
    go_wp2_with fail
    refine (FC _).mono ?_
    rintro e wx ⟨rfl, rfl⟩
    have x0 : w.cell? ⟨0, 0, none⟩ = some (errV p 0) := (H7.out).c0
    clear hok
    generalize errV p 0 = ev at *
    go_wp2_with fail
    go_quiet (fail)
    go_wp2_with fail
    go_ret2
    exact Vb.mk rfl (below_drewN (Below.refl _ _) _)
  | true =>
  cases b3 with
  | false =>
    go_enter Tryd.func8, Tryd.ntmps8
    go_wp2_with fail
    refine (FM _).mono ?_
    rintro e wx ⟨rfl, rfl⟩
    go_wp2_with fail
    refine (FC _).mono ?_
    rintro e wx ⟨rfl, rfl⟩
    go_wp2_with fail
    refine (FA _).mono ?_
    rintro e wx ⟨rfl, rfl⟩
    have x0 : w.cell? ⟨0, 0, none⟩ = some (errV p 0) := (H7.out).c0
    clear hok
    generalize errV p 0 = ev at *
    go_wp2_with fail
    go_quiet (fail)
    go_wp2_with fail
    go_ret2
    exact Vb.mk rfl (below_drewN (Below.refl _ _) _)
  | true =>
  cases b4 with
  | true =>
    go_enter Tryd.func8, Tryd.ntmps8
    go_wp2_with fail
    refine (FM _).mono ?_
    rintro e wx ⟨rfl, rfl⟩
    go_wp2_with fail
    refine (FC _).mono ?_
    rintro e wx ⟨rfl, rfl⟩
    go_wp2_with fail
    refine (FA _).mono ?_
    rintro e wx ⟨rfl, rfl⟩
    go_wp2_with fail
    refine (CI.out _ (Below.refl _ _)).mono ?_
    rintro e w1 ⟨rfl, hb1⟩
    have x0 : w1.cell? ⟨0, 0, none⟩ = some (errV p 0) := (H7.out.below (Nat.le_refl _) hb1).c0
    clear hok
    generalize errV p 0 = ev at *
    go_wp2_with fail
    go_quiet (fail)
    go_wp2_with fail
    go_ret2
    exact Vb.mk rfl (below_drewN (hb1) _)
  | false =>
  cases b5 with
  | true =>
    go_enter Tryd.func8, Tryd.ntmps8
    go_wp2_with fail
    refine (FM _).mono ?_
    rintro e wx ⟨rfl, rfl⟩
    go_wp2_with fail
    refine (FC _).mono ?_
    rintro e wx ⟨rfl, rfl⟩
    go_wp2_with fail
    refine (FA _).mono ?_
    rintro e wx ⟨rfl, rfl⟩
    go_wp2_with fail
    refine (CI.out _ (Below.refl _ _)).mono ?_
    rintro e w1 ⟨rfl, hb1⟩
    go_wp2_with fail
    refine (CC.out _ hb1).mono ?_
    rintro e w2 ⟨rfl, hb2⟩
    have x0 : w2.cell? ⟨0, 0, none⟩ = some (errV p 0) := (H7.out.below (Nat.le_refl _) (bel_trans hb1 hb2)).c0
    clear hok
    generalize errV p 0 = ev at *
    go_wp2_with fail
    go_quiet (fail)
    go_wp2_with fail
    go_ret2
    exact Vb.mk rfl (below_drewN (bel_trans hb1 hb2) _)
  | false =>
    simp [h0] at hok
end Go.Proofs.YtbiilnpblnjliaaDoor.Ck

/- Package sync: a state that is made. (Written by mk_y.py.) -/
namespace Go.Proofs.YtbiilnpblnjliaaDoor.Ck
open Go.RowKit

/-- a state that is being made -/
def Mk (w wc : World) (g : Nat) (s : St) : Prop := ∃ F, Stt wc F g s ∧ (∀ k, F k → w.heap.size ≤ k) ∧ Below w.heap.size w wc
theorem own_nil (w : World) (T : TypeId) (n : Nat) : w.ownsRow 0 T n (.slice none 0 0) 0 [] := World.ownsRow_nil w 0 T n
theorem sv_new {W : World} {gb gi gs : Nat} {mn an : Nat} (hm : mn ≤ 32) (ha : an ≤ 32) (vb vi : Value) (hvb : vb = .slice (some ⟨gb, 0, none⟩) mn mn) (hvi : vi = .slice (some ⟨gi, 0, none⟩) an an) (ob : W.ownsRow 0 4 1 vb mn (List.replicate mn (.bool false))) (oi : W.ownsRow 0 3 1 vi an (List.replicate an (.int .i64 0)))
    (hg : W.heap[gs]? = some (.cells #[.slice none 0 0, vb, .slice none 0 0, vi] 95 (0, 0))) {B : Nat} (hb : B ≤ gb ∧ B ≤ gi ∧ B ≤ gs) : ∃ F, Stt W F gs ⟨[], List.replicate mn false, [], List.replicate an 0⟩ ∧ ∀ k, F k → B ≤ k := by
  refine ⟨fun k => k = gb ∨ k = gi ∨ k = gs, ⟨_, _, _, _, [], { at_ := hg, pl := own_nil _ _ _, mu := (by simpa [bls] using ob), ch := own_nil _ _ _, ato := (by simpa [nts] using oi), len := rfl, q := fun i q v h _ => (by simp at h), ne := fun i j v v' k _ h _ => (by simp at h), fg := .inr (.inr rfl), fP := fun k h => (by cases h), fM := fun k h => ?_, fC := fun k h => (by cases h), fA := fun k h => ?_, fb := fun k h => ?_, small := (by simp; omega), rooms := fun q h => (by cases h) }⟩, fun k h => by omega⟩
  · subst hvb
    cases h
    exact .inl rfl
  · subst hvi
    cases h
    exact .inr (.inl rfl)
  · rcases h with rfl | rfl | rfl
    · exact (own_type ob (by rw [hvb]; rfl)).2.1
    · exact (own_type oi (by rw [hvi]; rfl)).2.1
    · exact lt_of_blk hg
theorem mk_new {w W0 W : World} {mn an : Nat} (hm : mn ≤ 32) (ha : an ≤ 32) (hb0 : Below w.heap.size w W0) (hW : W = (W0.alloc (.cells (madeCells #[.bool false] mn) 4)).alloc (.cells (madeCells #[.int .i64 0] an) 3)) : Mk w (W.alloc (.cells #[.slice none 0 0, .slice (some ⟨W0.heap.size, 0, none⟩) mn mn, .slice none 0 0, .slice (some ⟨W0.heap.size + 1, 0, none⟩) an an] 95)) (W0.heap.size + 1 + 1) ⟨[], List.replicate mn false, [], List.replicate an 0⟩ := by
  subst hW
  have h1 := own_made W0 (.bool false) mn 4 hm
  have h2 := own_made (W0.alloc (.cells (madeCells #[.bool false] mn) 4)) (.int .i64 0) an 3 ha
  have hs1 : (W0.alloc (.cells (madeCells #[.bool false] mn) 4)).heap.size = W0.heap.size + 1 := by simp
  have hs2 : ((W0.alloc (.cells (madeCells #[.bool false] mn) 4)).alloc (.cells (madeCells #[.int .i64 0] an) 3)).heap.size = W0.heap.size + 1 + 1 := by simp
  rw [hs1] at h2
  have hz := hb0.size
  have hbB := bel_al (bel_al hb0 (.cells (madeCells #[.bool false] mn) 4)) (.cells (madeCells #[.int .i64 0] an) 3)
  have h3 := own_keep h1 (fun k hk => (bel_new _ (.cells (madeCells #[.int .i64 0] an) 3)).block k (own_type h1 hk).2.1)
  obtain ⟨F, hF, hl⟩ := sv_new (B := w.heap.size) hm ha _ _ rfl rfl (own_keep h3 (fun k hk => (bel_new _ _).block k (own_type h3 hk).2.1)) (own_keep h2 (fun k hk => (bel_new _ _).block k (own_type h2 hk).2.1)) (hs2 ▸ Go.Deep.blk_alloc_new _ _) ⟨by omega, by omega, by omega⟩
  exact ⟨F, hF, hl, bel_al hbB _⟩
theorem mk_new2 {w W0 W : World} {mn an : Nat} (hm : mn ≤ 32) (ha : an ≤ 32) (hb0 : Below w.heap.size w W0) (hW : W = (W0.alloc (.cells (madeCells #[.int .i64 0] an) 3)).alloc (.cells (madeCells #[.bool false] mn) 4)) : Mk w (W.alloc (.cells #[.slice none 0 0, .slice (some ⟨W0.heap.size + 1, 0, none⟩) mn mn, .slice none 0 0, .slice (some ⟨W0.heap.size, 0, none⟩) an an] 95)) (W0.heap.size + 1 + 1) ⟨[], List.replicate mn false, [], List.replicate an 0⟩ := by
  subst hW
  have h1 := own_made W0 (.int .i64 0) an 3 ha
  have h2 := own_made (W0.alloc (.cells (madeCells #[.int .i64 0] an) 3)) (.bool false) mn 4 hm
  have hs1 : (W0.alloc (.cells (madeCells #[.int .i64 0] an) 3)).heap.size = W0.heap.size + 1 := by simp
  have hs2 : ((W0.alloc (.cells (madeCells #[.int .i64 0] an) 3)).alloc (.cells (madeCells #[.bool false] mn) 4)).heap.size = W0.heap.size + 1 + 1 := by simp
  rw [hs1] at h2
  have hz := hb0.size
  have hbB := bel_al (bel_al hb0 (.cells (madeCells #[.int .i64 0] an) 3)) (.cells (madeCells #[.bool false] mn) 4)
  have h3 := own_keep h1 (fun k hk => (bel_new _ (.cells (madeCells #[.bool false] mn) 4)).block k (own_type h1 hk).2.1)
  obtain ⟨F, hF, hl⟩ := sv_new (B := w.heap.size) hm ha _ _ rfl rfl (own_keep h2 (fun k hk => (bel_new _ _).block k (own_type h2 hk).2.1)) (own_keep h3 (fun k hk => (bel_new _ _).block k (own_type h3 hk).2.1)) (hs2 ▸ Go.Deep.blk_alloc_new _ _) ⟨by omega, by omega, by omega⟩
  exact ⟨F, hF, hl, bel_al hbB _⟩
end Go.Proofs.YtbiilnpblnjliaaDoor.Ck

/- Package sync: a place or a channel more, by append. (Written by mk_y.py.) -/
namespace Go.Proofs.YtbiilnpblnjliaaDoor.Ck
open Go.RowKit

section
variable {w : World} {F : Nat → Prop} {g : Nat} {s : St} {vP vM vC vA : Value} {vs : List Value}
theorem Sv.pushP (h : Sv w F g s vP vM vC vA vs) (x : V3) (hl : s.P.length < 128) (ty : TypeId) :
    ∃ v' w', (Builtin.append_ #[46, 46] ty #[vP, .slice (some ⟨w.heap.size, 0, none⟩) 1 1]).run Tryd.prog (w.alloc (.cells #[.int .i64 x.1, .int .i64 x.2.1, .int .u64 x.2.2] 41)) = .ok v' w' ∧
      ((∃ a l c, v' = .slice a l c) ∧ w'.frozen? ⟨g, 0, none⟩ = false ∧ w'.cell? ⟨g, 0, none⟩ = some vP ∧ Sv (w'.setCell ⟨g, 0, none⟩ v') (fun k => F k ∨ v'.ownBlock = some k) g { s with P := s.P ++ [x] } v' vM vC vA vs ∧ Ch F (fun k => F k ∨ v'.ownBlock = some k) w (w'.setCell ⟨g, 0, none⟩ v')) := by
  obtain ⟨v', w', hr, ho, hg, hf⟩ := push_v rfl h.pl (by omega) x.1 x.2.1 x.2.2 ty
  have hgb := (hg.block g (lt_of_blk h.at_) (fun e => own_at h.pl h.at_ (by decide) e.symm)).trans h.at_
  obtain ⟨a, c, e, _⟩ := own_slice ho
  have e1 : s.P.length + 1 = (s.P ++ [x]).length := by simp
  rw [e1] at ho
  exact ⟨v', w', hr, ⟨_, _, _, e⟩, blk_frz hgb _, blk_cell hgb 0 _ rfl, h.placeA x hg ho hf hl⟩
theorem info_que : (Tryd.prog.info? 97).map (fun i => (i.zero, i.size, i.bytes)) = some (some (.agg #[.int .i64 0, .int .i64 0, .slice none 0 0]), 3, 40) := by kernel_rfl
theorem Sv.pushC (h : Sv w F g s vP vM vC vA vs) (q : Qu) {a : Option Addr} {l c : Nat} (oq : w.ownsRow 0 41 3 (.slice a l c) q.l.length (vcs q.l)) (fq : ∀ k, (Value.slice a l c).ownBlock = some k → ¬ F k) (hl : s.C.length < 32) (hr : 0 ≤ q.room ∧ q.room ≤ 8 ∧ (q.l.length : Int) ≤ q.room) (ty : TypeId) :
    ∃ v' w', (Builtin.append_ #[93, 93] ty #[vC, .slice (some ⟨w.heap.size, 0, none⟩) 1 1]).run Tryd.prog (w.alloc (.cells #[.int .i64 q.t, .int .i64 q.room, .slice a l c] 97)) = .ok v' w' ∧
      ((∃ a l c, v' = .slice a l c) ∧ w'.frozen? ⟨g, 2, none⟩ = false ∧ w'.cell? ⟨g, 2, none⟩ = some vC ∧ (∀ k, v'.ownBlock = some k → vC.ownBlock = some k ∨ w.heap.size ≤ k) ∧ Sv (w'.setCell ⟨g, 2, none⟩ v') (fun k => F k ∨ v'.ownBlock = some k ∨ (Value.slice a l c).ownBlock = some k) g { s with C := s.C ++ [q] } vP vM v' vA (vs ++ [.slice a l c]) ∧ Ch F (fun _ => False) w (w'.setCell ⟨g, 2, none⟩ v')) := by
  obtain ⟨ie, hi, hz0, hz1, hz2⟩ := info_parts info_que
  have hb := bel_new w (.cells #[.int .i64 q.t, .int .i64 q.room, .slice a l c] 97)
  have o1 := own_keep h.ch (fun k hk => hb.block k (own_type h.ch hk).2.1)
  have hc : ∀ (j : Nat) (u : Value), ([.int .i64 q.t, .int .i64 q.room, .slice a l c] : List Value)[j]? = some u → (w.alloc (.cells #[.int .i64 q.t, .int .i64 q.room, .slice a l c] 97)).cell? ((⟨w.heap.size, 0, none⟩ : Addr).add j) = some u := fun j u hu => by
    rw [show (⟨w.heap.size, 0, none⟩ : Addr).add j = ⟨w.heap.size, j, none⟩ by unfold Addr.add; by_cases h : j = 0 <;> simp [h]]
    exact blk_cell (Go.Deep.blk_alloc_new w _) j u (by simpa using hu)
  obtain ⟨v', w', hrun, ho, hg, _, hat⟩ := run_append_own_at (P := Tryd.prog) (w.alloc (.cells #[.int .i64 q.t, .int .i64 q.room, .slice a l c] 97)) 0 93 ty 97 ie _ 3 40 Tryd.underlying93 hi hz0 hz1 hz2 rfl (by decide) vC s.C.length (qcs s.C vs) o1 ⟨w.heap.size, 0, none⟩ 1 1 [.int .i64 q.t, .int .i64 q.room, .slice a l c] rfl hc (by intro u hu; simp at hu; rcases hu with rfl | rfl | rfl <;> rfl) (by unfold maxLen; omega) (by omega) (Nat.zero_le _)
  have hg' : w.grownBy w' vC.ownBlock := ⟨hg.os, hg.tape, hg.output, Nat.le_trans hb.size hg.size, fun k hk hne => (hg.block k (Nat.lt_of_lt_of_le hk hb.size) hne).trans (hb.block k hk)⟩
  have hf : ∀ k, v'.ownBlock = some k → vC.ownBlock = some k ∨ w.heap.size ≤ k := fun k hk => by
    rcases hat with e | e
    · exact .inl (e.symm.trans hk)
    · rw [e] at hk
      right
      have := Option.some.inj hk
      simp at this
      omega
  have hgb := (hg'.block g (lt_of_blk h.at_) (fun e => own_at h.ch h.at_ (by decide) e.symm)).trans h.at_
  obtain ⟨a', c', e, _⟩ := own_slice ho
  exact ⟨v', w', hrun, ⟨_, _, _, e⟩, blk_frz hgb _, blk_cell hgb 2 _ rfl, hf, h.chanA q oq fq hg' ho hf hl hr⟩
end
theorem zeroT_of {t : Int} (h : badT t = false) : zeroT t = t := by
  unfold badT zeroT at *
  split
  · rfl
  · rename_i h1
    rw [if_neg h1] at h
    simp at h
def zz (ps : List Int) : List V3 := ps.map fun t => (t, 0, 0)
def cz (cs : List (Int × Int)) : List Qu := cs.map fun c => ⟨c.1, c.2, []⟩
theorem take_snoc {α : Type} (l : List α) (k : Nat) (d : α) (h : k < l.length) : l.take (k + 1) = l.take k ++ [l.getD k d] := by
  rw [List.take_add_one, List.getElem?_eq_getElem h, List.getD_eq_getElem?_getD, List.getElem?_eq_getElem h]
  rfl
theorem any_at {α : Type} {l : List α} {f : α → Bool} (h : l.any f = false) (k : Nat) (d : α) (hk : k < l.length) : f (l.getD k d) = false := by
  rw [List.any_eq_false] at h
  rw [List.getD_eq_getElem?_getD, List.getElem?_eq_getElem hk]
  simpa using h l[k] (List.getElem_mem hk)
theorem Mk.of {w wc : World} {g : Nat} {s : St} {F F' : Nat → Prop} {wd : World} (hF : ∀ k, F k → w.heap.size ≤ k) (hb : Below w.heap.size w wc) (h : Stt wd F' g s) (c : Ch F F' wc wd) : Mk w wd g s :=
  ⟨F', h, c.low hF hb.size, hb.trans (c.bel hF hb.size)⟩
end Go.Proofs.YtbiilnpblnjliaaDoor.Ck
