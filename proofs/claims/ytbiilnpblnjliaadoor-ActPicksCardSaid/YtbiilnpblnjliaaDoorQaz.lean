/- Texts of this proof, packed: contracts of the program's functions, and the plain model that they are held against. -/
import Derived.Test.YtbiilnpblnjliaaDoorQay
import Derived.Deep.RegionHeld3
import Derived.Test.YtbiilnpblnjliaaDoorQae
/- Package act: Scripted. (Written by mk_a.py.) -/
namespace Go.Proofs.YtbiilnpblnjliaaDoor.Ck
open Go.RowKit

set_option maxRecDepth 20000 in
set_option maxHeartbeats 1000000 in
theorem wclone_c {w : World} (k o a v0 v1 v2 : Int) (va : Value) (hA : ArgC w va) : Calls Tryd.prog 92 #[.agg #[.int .i64 k, .int .i64 o, .int .i64 a, .int .i64 v0, .int .i64 v1, .int .u64 v2, va]] w (WclP w k o a v0 v1 v2) := by
  obtain ⟨aa, n, ca, xs, rfl, hn, h1, hC⟩ := hA
  have B0 := hide (bel_al (bel_new w (.cells #[.int .i64 k, .int .i64 o, .int .i64 a, .int .i64 v0, .int .i64 v1, .int .u64 v2, .slice aa n ca] 133)) (.cells #[.int .i64 0, .int .i64 0, .int .i64 0, .int .i64 0, .int .i64 0, .int .u64 0, .slice none 0 0] 133))
  have V0 := hide ((Wv.new w k o a v0 v1 v2 (.slice aa n ca)).al (bel_new _ (.cells #[.int .i64 0, .int .i64 0, .int .i64 0, .int .i64 0, .int .i64 0, .int .u64 0, .slice none 0 0] 133)))
  have V1 := hide (Wv.new (w.alloc (.cells #[.int .i64 k, .int .i64 o, .int .i64 a, .int .i64 v0, .int .i64 v1, .int .u64 v2, .slice aa n ca] 133)) 0 0 0 0 0 0 (.slice none 0 0))
  have hsz : (w.alloc (.cells #[.int .i64 k, .int .i64 o, .int .i64 a, .int .i64 v0, .int .i64 v1, .int .u64 v2, .slice aa n ca] 133)).heap.size = w.heap.size + 1 := by simp
  rw [hsz] at V1
  have CL := hide (hC _ B0.out)
  have H1 := hide h1
  clear h1 hC hsz
  go_enter Tryd.func92, Tryd.ntmps92
  go_wp2_with fail
  generalize (w.alloc (.cells #[.int .i64 k, .int .i64 o, .int .i64 a, .int .i64 v0, .int .i64 v1, .int .u64 v2, .slice aa n ca] 133)).alloc (.cells #[.int .i64 0, .int .i64 0, .int .i64 0, .int .i64 0, .int .i64 0, .int .u64 0, .slice none 0 0] 133) = w1 at *
  refine CL.out.mono ?_
  rintro e w2 ⟨a2, c2, rfl, o2, hb⟩
  have X1 := V0.out.al hb
  have X2 := V1.out.al hb
  obtain ⟨q0, q1, q2, q3, q4, q5, q6⟩ := X1.all
  obtain ⟨r0, r1, r2, r3, r4, r5, r6⟩ := X2.all
  have f6 := X1.frz 6
  have g0 := X2.frz 0
  have g1 := X2.frz 1
  have g2 := X2.frz 2
  have g3 := X2.frz 3
  have g4 := X2.frz 4
  have g5 := X2.frz 5
  have g6 := X2.frz 6
  have HX2 := hide X2
  have V1' := hide V1.out
  have B2 := hide (bel_trans B0.out hb)
  have O2 := hide (And.intro o2 B0.out.size)
  clear V0 V1 CL hb X1 X2 o2
  go_wp2_with fail
  have Y := set7_at ((Below.heap_setCell w2 ⟨w.heap.size, 6, none⟩ (.slice a2 n c2) (w.heap.size + 1) (by simp)).trans HX2.out) (.int .i64 k) (.int .i64 o) (.int .i64 a) (.int .i64 v0) (.int .i64 v1) (.int .u64 v2) (.slice a2 n c2)
  refine ret_wt (w.heap.size + 1) (v := (v0, v1, v2)) rfl rfl ⟨_, _, _, rfl⟩ Y rfl ⟨_, rfl, ⟨_, _, _, xs, rfl, hn, ?_, ?_⟩, ?_⟩
  · have hne : ∀ b, b = w.heap.size ∨ b = w.heap.size + 1 → (Value.slice a2 n c2).ownBlock ≠ some b := fun b hb e => by
      have h1 := (own_type O2.out.1 e).1
      have h2 := lt_of_blk HX2.out
      have h3 := lt_of_blk V1'.out
      omega
    exact own_keep (own_low O2.out.1 O2.out.2) fun k hk => (set7_ne (o := 0) (fun e => hne k (.inr e) hk)).trans (Below.heap_setCell _ _ _ _ (fun e => hne k (.inl e) hk))
  · exact H1.out
  · exact bel_set7 (o := 0) (B2.out.setCell (p := ⟨w.heap.size, 6, none⟩) (Nat.le_refl _) _) (Nat.le_succ _)
def ScriptP (w : World) (S : List (List Wt)) (e : Ending) (w' : World) : Prop := ∃ vB R, e = .returned vB ∧ Beg w' R vB S ∧ (∀ k, R k → w.heap.size ≤ k ∧ k < w'.heap.size) ∧ Below w.heap.size w w'
theorem Sc.beg {w wr : World} {vb ob n : Nat} {R : Nat → Prop} {S : List (List Wt)} {vs : List Value} (h : Sc w wr vb ob n R S n 0 vs) (hn : n = S.length) (h2 : S.length ≤ 2000) : ∃ R', Beg wr R' (.func (.func 93) #[] #[.pointer (some ⟨vb, 0, none⟩)]) S ∧ ∀ k, R' k → w.heap.size ≤ k ∧ k < wr.heap.size := by
  refine ⟨fun k => R k ∨ k = vb ∨ k = ob, ⟨vb, _, vs, rfl, .inr (.inl rfl), h.var, by rw [← hn]; exact h.row, fun k hk => by cases hk; exact .inr (.inr rfl), h2, fun i l v hl hv => (h.old i l v (by rw [hn]; exact (List.getElem?_eq_some_iff.1 hl).1) hl hv).keep (fun _ _ => rfl) fun _ h => .inl h⟩, fun k hk => ?_⟩
  rcases hk with h1 | rfl | rfl
  · exact ⟨(h.rr k h1).1, (h.rr k h1).2.1⟩
  · exact ⟨h.lo.2, lt_of_blk h.var⟩
  · exact ⟨h.lo.1, (own_type h.row rfl).2.1⟩
set_option maxRecDepth 20000 in
set_option maxHeartbeats 3000000 in
theorem scripted_any {w : World} {v : Value} {S : List (List Wt)} (h : SSrc w v S) : Calls Tryd.prog 66 #[v] w (ScriptP w S) := by
  have HS := hide h
  obtain ⟨a, c, rfl, h2, h3⟩ := h
  have H2 := hide h2
  obtain ⟨n, hn⟩ : ∃ n, n = S.length := ⟨_, rfl⟩
  rw [← hn] at h2 ⊢
  have HN := hide hn
  have hmk := run_mkS n h2
  have hmf : ∀ (fn : Fn) (first cap : Array Value) (w : World), (Instr.makeFunc fn first cap).run Tryd.prog w = .ok (.func fn first cap) w := fun _ _ _ _ => rfl
  have I0 : Hid (∃ R vs, Sc w ((w.alloc (.cells (madeCells #[.slice none 0 0] n) 134)).alloc (.cells #[.slice (some ⟨w.heap.size, 0, none⟩) n n] 59)) (w.heap.size + 1) w.heap.size n R S 0 0 vs) := hide (by
    have e1 := Go.Deep.blk_alloc_new (w.alloc (.cells (madeCells #[.slice none 0 0] n) 134)) (.cells #[.slice (some ⟨w.heap.size, 0, none⟩) n n] 59)
    have hs : (w.alloc (.cells (madeCells #[.slice none 0 0] n) 134)).heap.size = w.heap.size + 1 := by simp
    rw [hs] at e1
    have o1 := own_madeS w n h2
    refine ⟨fun _ => False, List.replicate n (.slice none 0 0), { var := e1, row := own_keep o1 (fun k hk => (bel_new _ _).block k (own_type o1 hk).2.1), old := fun m l v hm => absurd hm (Nat.not_lt_zero _), cur := fun l v hl hv => ?_, new := fun m v hm hv => ?_, rr := fun k hk => hk.elim, lo := ⟨Nat.le_refl _, Nat.le_succ _⟩, bel := bel_al (bel_new _ _) _ }⟩
    · have := List.eq_of_mem_replicate (List.mem_of_getElem? hv)
      subst this
      exact ⟨[], rfl, fun _ h => (by cases h), (by simp [wrows]; exact World.ownsRow_nil _ _ _ _), fun k hk => (by cases hk)⟩
    · exact List.eq_of_mem_replicate (List.mem_of_getElem? hv))
  clear h3 hn
  go_enter Tryd.func66, Tryd.ntmps66
  go_wp2_with fail
  generalize (w.alloc (.cells (madeCells #[.slice none 0 0] n) 134)).alloc (.cells #[.slice (some ⟨w.heap.size, 0, none⟩) n n] 59) = W0 at *
  have OB : Hid (w.heap.size < w.heap.size + 1) := hide (Nat.lt_succ_self _)
  obtain ⟨ob, hob⟩ : ∃ ob, ob = w.heap.size := ⟨_, rfl⟩
  obtain ⟨vb, hvb⟩ : ∃ vb, vb = w.heap.size + 1 := ⟨_, rfl⟩
  rw [← hvb] at I0 ⊢
  rw [← hob] at I0
  clear OB hmk hob hvb
  go_loopw [4, 5, 7, 13] (fun x4 x5 x7 i wr => ∃ (k : Nat), k ≤ n ∧ i = .int .i64 k ∧ Hid (∃ R vs, Sc w wr vb ob n R S k 0 vs)) (fun x4 x5 x7 i _ => n - (intOf i).toNat)
  case atStart => exact ⟨0, Nat.zero_le _, rfl, I0⟩
  case round =>
    obtain ⟨k, hk, rfl, HI⟩ := hrel
    by_cases hlt : k < n
    · have hlt' : (k : Int) < (n : Int) := by omega
      obtain ⟨l, hl⟩ : ∃ l, S[k]? = some l := ⟨_, List.getElem?_eq_getElem (by rw [← HN.out]; exact hlt)⟩
      have HW : Hid (∃ b o vi, a = some ⟨b, o, none⟩ ∧ b < wr.heap.size ∧ wr.cell? ⟨b, o + k, none⟩ = some vi ∧ WSrc w vi l) := hide (by
        obtain ⟨R, vs, sc⟩ := HI.out
        obtain ⟨a', c', e', _, h3⟩ := HS.out
        cases e'
        obtain ⟨b, o, vi, e1, e2, e3, e4⟩ := h3 k l hl
        exact ⟨b, o, vi, e1, Nat.lt_of_lt_of_le e2 sc.bel.size, (sc.bel.cell (p := ⟨b, o + k, none⟩) e2).trans e3, e4⟩)
      obtain ⟨b, o, vi, rfl, hbl, hc1, hws⟩ := HW.out
      have HWS := hide hws
      obtain ⟨ai, ci, rfl, hm2, hws3⟩ := hws
      obtain ⟨m, hm⟩ : ∃ m, m = l.length := ⟨_, rfl⟩
      rw [← hm] at hc1 hm2 HWS
      have HM := hide hm
      have HL := hide hl
      clear HW hws3 hl hm
      go_wp2_with fail
      go_loopw [7, 20] (fun x7 i2 wr => ∃ (j : Nat), j ≤ m ∧ i2 = .int .i64 j ∧ Hid (∃ R vs, Sc w wr vb ob n R S k j vs)) (fun x7 i2 _ => m - (intOf i2).toNat)
      case atStart => exact ⟨0, Nat.zero_le _, rfl, HI⟩
      case round =>
        obtain ⟨j, hj, rfl, HJ⟩ := hrel
        by_cases hjt : j < m
        · have hjt' : (j : Int) < (m : Int) := by omega
          obtain ⟨R, vs, sc⟩ := HJ.out
          obtain ⟨x, hxj⟩ : ∃ x, l[j]? = some x := ⟨_, List.getElem?_eq_getElem (by rw [← HM.out]; exact hjt)⟩
          have HQ := HWS.out.bel sc.bel
          obtain ⟨ai', ci', ei', hq2, hq3⟩ := HQ
          cases ei'
          obtain ⟨b2, o2, va, rfl, hb2, hcl, hac⟩ := hq3 j x hxj
          obtain ⟨ax, nx, cx, xs, rfl, _⟩ := id hac
          obtain ⟨xk, xo, xa, x0, x1, x2⟩ := x
          have e0 : wr.cell? ⟨b2, o2 + j * 7, none⟩ = some (.int .i64 xk) := hcl 0 _ rfl
          have e1 : wr.cell? ⟨b2, o2 + j * 7 + 1, none⟩ = some (.int .i64 xo) := hcl 1 _ rfl
          have e2 : wr.cell? ⟨b2, o2 + j * 7 + 2, none⟩ = some (.int .i64 xa) := hcl 2 _ rfl
          have e3 : wr.cell? ⟨b2, o2 + j * 7 + 3, none⟩ = some (.int .i64 x0) := hcl 3 _ rfl
          have e4 : wr.cell? ⟨b2, o2 + j * 7 + 4, none⟩ = some (.int .i64 x1) := hcl 4 _ rfl
          have e5 : wr.cell? ⟨b2, o2 + j * 7 + 5, none⟩ = some (.int .u64 x2) := hcl 5 _ rfl
          have e6 : wr.cell? ⟨b2, o2 + j * 7 + 6, none⟩ = some (.slice ax nx cx) := hcl 6 _ rfl
          obtain ⟨v, hv⟩ : ∃ v, vs[k]? = some v := ⟨_, List.getElem?_eq_getElem (by have := sc.row.1; omega)⟩
          obtain ⟨vas0, d1, d2, d3, d4⟩ := sc.cur l v HL.out hv
          obtain ⟨av, cv, ev, _⟩ := own_slice d3
          subst ev
          have HXJ := hide hxj
          have HV := hide hv
          have VL0 := hide (fun (q : Nat) (hq : (Value.slice av j cv).ownBlock = some q) => (own_type d3 hq).2.1)
          have AC := hide (hac.bel (bel_new wr (.cells #[.int .i64 xk, .int .i64 xo, .int .i64 xa, .int .i64 x0, .int .i64 x1, .int .u64 x2, .slice ax nx cx] 133)))
          have SC := hide (sc.al (bel_new wr (.cells #[.int .i64 xk, .int .i64 xo, .int .i64 xa, .int .i64 x0, .int .i64 x1, .int .u64 x2, .slice ax nx cx] 133)))
          have V7 := hide (Wv.new wr xk xo xa x0 x1 x2 (.slice ax nx cx))
          have OB : Hid (ob ≠ vb ∧ ob < wr.heap.size ∧ vb < wr.heap.size) := hide ⟨fun e => own_at sc.row sc.var (by decide) (by rw [e]; rfl), (own_type sc.row (k := ob) rfl).2.1, lt_of_blk sc.var⟩
          have KL0 : Hid (∀ q ∈ [vb, wr.heap.size], q < (wr.alloc (.cells #[.int .i64 xk, .int .i64 xo, .int .i64 xa, .int .i64 x0, .int .i64 x1, .int .u64 x2, .slice ax nx cx] 133)).drew.heap.size) := hide (fun q hq => by
            have h1 := V7.out.lt
            have h2 := OB.out
            show q < (wr.alloc (.cells #[.int .i64 xk, .int .i64 xo, .int .i64 xa, .int .i64 x0, .int .i64 x1, .int .u64 x2, .slice ax nx cx] 133)).heap.size
            simp only [List.mem_cons, List.mem_nil_iff, or_false] at hq
            rcases hq with rfl | rfl <;> omega)
          clear hq3 hcl hac hxj hv d1 d2 d3 d4 sc HJ
          go_upto_region 8 with fail
          obtain ⟨lw, hlw⟩ : ∃ lw, wr.heap.size = lw := ⟨_, rfl⟩
          rw [hlw] at V7 OB KL0 VL0 ⊢
          have VL := VL0
          generalize wr.alloc (.cells #[.int .i64 xk, .int .i64 xo, .int .i64 xa, .int .i64 x0, .int .i64 x1, .int .u64 x2, .slice ax nx cx] 133) = W1 at *
          clear e0 e1 e2 e3 e4 e5 e6 hlw VL0
          refine wp_region_held_drew (S := fun w' => SameB [vb, lw] W1.drew w') mixed (SameB.refl KL0.out) (fun hH => ?_)
          have SC' := hide (SC.out.al (wr' := W1.drew) (below_drewN (Below.refl _ _) 1))
          clear SC
          have SC := SC'
          clear SC'
          have V7' : Hid (Wv W1.drew lw xk xo xa (x0, x1, x2) (.slice ax nx cx)) := V7
          clear V7
          have V7 := V7'
          clear V7'
          have CL := hide (wclone_c (w := W1.drew) xk xo xa x0 x1 x2 (.slice ax nx cx) (AC.out.bel (w' := W1.drew) (below_drewN (Below.refl _ _) 1)))
          obtain ⟨vas, cc1, cc2, cc3, cc4⟩ := SC.out.cur l _ HL.out HV.out
          have HC : Hid (vas.length = j ∧ (∀ va ∈ vas, Args W1.drew R va) ∧ W1.drew.ownsRow w.heap.size 133 7 (.slice av j cv) j (wrows (l.take j) vas) ∧ ∀ k, (Value.slice av j cv).ownBlock = some k → ¬ R k) := hide ⟨cc1, cc2, cc3, cc4⟩
          clear cc1 cc2 cc3 cc4
          have VN : Hid (∀ q ∈ [vb, lw], (Value.slice av j cv).ownBlock ≠ some q) := hide (fun q hq => by
            simp only [List.mem_cons, List.mem_nil_iff, or_false] at hq
            rcases hq with rfl | rfl
            · exact own_at HC.out.2.2.1 SC.out.var (by decide)
            · exact fun e => absurd (VL.out _ e) (by omega))
          have VO : Hid ((Value.slice av j cv).ownBlock ≠ some ob) := hide (fun e => own_apart HC.out.2.2.1 SC.out.row (by decide) ob e rfl)
          have C0 : Hid (W1.drew.cell? ⟨vb, 0, none⟩ = some (.slice (some ⟨ob, 0, none⟩) n n)) := hide (blk_cell SC.out.var 0 _ rfl)
          generalize W1.drew = Y0 at *
          refine wpAnyH_take (i := 0) (v := ?_) rfl (by kernel_rfl) (by kernel_rfl) (by kernel_rfl) (fun _ _ _ h => h) (Or.inl ⟨by rfl, ?_⟩) hH ?_
          rotate_left 1
          · (intro w hSw; have q := hSw.cell (by simp) C0.out; clear hSw; go_simp <;> with_reducible rfl)
          simp only [Act.put, List.getElem_toArray, List.getElem_cons_zero, List.setIfInBounds_toArray, List.set_cons_zero, List.set_cons_succ]
          refine wpAnyH_take (i := 1) (v := ?_) rfl (by kernel_rfl) (by kernel_rfl) (by kernel_rfl) (fun _ _ _ h => h) (Or.inl ⟨by rfl, ?_⟩) hH ?_
          rotate_left 1
          · (intro w hSw; skip; clear hSw; go_simp <;> with_reducible rfl)
          simp only [Act.put, List.getElem_toArray, List.getElem_cons_zero, List.getElem_cons_succ, List.setIfInBounds_toArray, List.set_cons_zero, List.set_cons_succ]
          refine wpAnyH_take (i := 2) (v := ?_) rfl (by kernel_rfl) (by kernel_rfl) (by kernel_rfl) (fun _ _ _ h => h) (Or.inl ⟨by rfl, ?_⟩) hH ?_
          rotate_left 1
          · (intro w hSw; have q := hSw.cell (by simp) C0.out; clear hSw; go_simp <;> with_reducible rfl)
          simp only [Act.put, List.getElem_toArray, List.getElem_cons_zero, List.getElem_cons_succ, List.setIfInBounds_toArray, List.set_cons_zero, List.set_cons_succ]
          refine wpAnyH_take (i := 3) (v := ?_) rfl (by kernel_rfl) (by kernel_rfl) (by kernel_rfl) (fun _ _ _ h => h) (Or.inl ⟨by rfl, ?_⟩) hH ?_
          rotate_left 1
          · (intro w hSw; skip; clear hSw; go_simp <;> with_reducible rfl)
          simp only [Act.put, List.getElem_toArray, List.getElem_cons_zero, List.getElem_cons_succ, List.setIfInBounds_toArray, List.set_cons_zero, List.set_cons_succ]
          refine wpAnyH_take (i := 4) (v := ?_) rfl (by kernel_rfl) (by kernel_rfl) (by kernel_rfl) (fun _ _ _ h => h) (Or.inl ⟨by rfl, ?_⟩) hH ?_
          rotate_left 1
          · (intro w hSw; skip; clear hSw; go_simp <;> with_reducible rfl)
          simp only [Act.put, List.getElem_toArray, List.getElem_cons_zero, List.getElem_cons_succ, List.setIfInBounds_toArray, List.set_cons_zero, List.set_cons_succ]
          refine wpAnyH_take (i := 6) (v := ?_) rfl (by kernel_rfl) (by kernel_rfl) (by kernel_rfl) (fun _ _ _ h => h) (Or.inl ⟨by rfl, ?_⟩) hH ?_
          rotate_left 1
          · (intro w hSw; obtain ⟨z0, z1, z2, z3, z4, z5, z6⟩ := V7.out.all; have q0 := hSw.cell (by simp) z0; have q1 := hSw.cell (by simp) z1; have q2 := hSw.cell (by simp) z2; have q3 := hSw.cell (by simp) z3; have q4 := hSw.cell (by simp) z4; have q5 := hSw.cell (by simp) z5; have q6 := hSw.cell (by simp) z6; clear hSw; go_simp <;> with_reducible rfl)
          simp only [Act.put, List.getElem_toArray, List.getElem_cons_zero, List.getElem_cons_succ, List.setIfInBounds_toArray, List.set_cons_zero, List.set_cons_succ]
          refine wpAnyH_ready (rs := [5, 7]) (by kernel_rfl) (by decide) ?_
          refine AllReadyH.cons rfl (fun K1 hK1 => ?_) (AllReadyH.cons rfl (fun K1 hK1 => ?_) AllReadyH.nil)
          · have q := (show Y0.cell? ⟨ob, k, none⟩ = some (.slice av j cv) from (own_cell SC.out.row k _ HV.out).1)
            go_simp
            refine hK1.out _ _ hH (fun hH => ?_)
            clear hK1 K1 q
            refine wpAnyH_ready (rs := [7]) (by kernel_rfl) (by decide) ?_
            refine AllReadyH.cons rfl (fun K1 hK1 => ?_) AllReadyH.nil
            go_simp
            refine CL.out.mono ?_
            rintro e w3 ⟨v3, rfl, a3, b3⟩
            obtain ⟨a5, n5, c5, x5, rfl, _⟩ := id a3
            refine hK1.out _ _ (hH.al b3) (fun hH => ?_)
            clear hK1 K1
            have SC3 := hide (SC.out.al b3)
            have A3 := hide (And.intro a3 b3)
            clear a3 b3
            have PU := hide (fun ty => push_w (w := w3) (n := j) (l := l.take j) (vas := vas) (by simp; omega) (by simp; have := HC.out.1; omega) (own_keep HC.out.2.2.1 (fun k hk => A3.out.2.block k (own_type HC.out.2.2.1 hk).2.1)) (by simp; omega) (Nat.le_trans SC.out.bel.size A3.out.2.size) ⟨xk, xo, xa, (x0, x1, x2)⟩ (.slice a5 n5 c5) rfl ty)
            refine wpAnyH_ready (rs := [8]) (by kernel_rfl) (by decide) ?_
            refine AllReadyH.cons rfl (fun K1 hK1 => ?_) AllReadyH.nil
            go_simp
            refine hK1.out _ _ (hH.al (bel_new w3 _)) (fun hH => ?_)
            clear hK1 K1
            refine wpAnyH_ready (rs := [9]) (by kernel_rfl) (by decide) ?_
            refine AllReadyH.cons rfl (fun K1 hK1 => ?_) AllReadyH.nil
            refine step_appV (TS := 134) (.tmp 29) (.tmp 32) _ _ _ (fun ty => PU.out ty) rfl rfl rfl rfl ?_
            rintro v9 w9 ⟨⟨a9, c9, rfl⟩, o9, g9, b9⟩
            refine hK1.out _ _ ⟨Nat.le_trans A3.out.2.size g9.size, hH.2.1, fun q hq => (g9.block q (Nat.lt_of_lt_of_le (hH.2.1 q hq) A3.out.2.size) (fun e => VN.out q hq e.symm)).trans (A3.out.2.block q (hH.2.1 q hq))⟩ (fun hH => ?_)
            clear hK1 K1
            have R9 := hide (And.intro o9 (And.intro g9 b9))
            clear o9 g9 b9
            refine wpAnyH_take (i := 10) (v := ?_) rfl (by kernel_rfl) (by kernel_rfl) (by kernel_rfl) (fun _ _ _ h => h) (Or.inl ⟨by rfl, ?_⟩) hH ?_
            rotate_left 1
            · (intro w hSw; skip; clear hSw; go_simp <;> with_reducible rfl)
            simp only [Act.put, List.getElem_toArray, List.getElem_cons_zero, List.getElem_cons_succ, List.setIfInBounds_toArray, List.set_cons_zero, List.set_cons_succ]
            refine wpAnyH_ready (rs := [11]) (by kernel_rfl) (by decide) ?_
            refine AllReadyH.cons rfl (fun K1 hK1 => ?_) AllReadyH.nil
            have OR : w9.ownsRow 0 134 1 (.slice (some ⟨ob, 0, none⟩) n n) n vs := own_keep SC3.out.row (fun q hq => R9.out.2.1.block q (own_type SC3.out.row hq).2.1 (fun e => VO.out (by cases hq; exact e.symm)))
            obtain ⟨z1, z2⟩ := own_cell OR k _ HV.out
            go_simp
            refine hK1.out _ _ (hH.turn (t := ob) (by rw [size_setCell]; exact Nat.le_refl _) (fun q _ hq => Below.heap_setCell _ _ _ _ hq) (fun hm => by have := OB.out; simp at hm; omega)) (fun hH => ?_)
            clear hK1 K1 z1 z2 OR
            refine wpAnyH_done (by kernel_rfl) ?_ _
            clear hH
            go_wp2_with fail
            go_roundw
            case rel =>
              obtain ⟨R', s9⟩ := SC.out.push HL.out HXJ.out (by omega) HV.out HC.out.1 HC.out.2.1 (fun q hq => ⟨HC.out.2.2.2 q hq, (own_type HC.out.2.2.1 hq).2.1⟩) A3.out.2 A3.out.1 (by have := R9.out.1; exact this) R9.out.2.1 R9.out.2.2 (fun q hq => (own_type HC.out.2.2.1 hq).2.2)
              exact ⟨j + 1, by omega, by go_num, hide ⟨R', _, s9⟩⟩
            case measure => simp [intOf]; omega
          · go_simp
            refine CL.out.mono ?_
            rintro e w3 ⟨v3, rfl, a3, b3⟩
            obtain ⟨a5, n5, c5, x5, rfl, _⟩ := id a3
            refine hK1.out _ _ (hH.al b3) (fun hH => ?_)
            clear hK1 K1
            have SC3 := hide (SC.out.al b3)
            have A3 := hide (And.intro a3 b3)
            clear a3 b3
            have PU := hide (fun ty => push_w (w := w3) (n := j) (l := l.take j) (vas := vas) (by simp; omega) (by simp; have := HC.out.1; omega) (own_keep HC.out.2.2.1 (fun k hk => A3.out.2.block k (own_type HC.out.2.2.1 hk).2.1)) (by simp; omega) (Nat.le_trans SC.out.bel.size A3.out.2.size) ⟨xk, xo, xa, (x0, x1, x2)⟩ (.slice a5 n5 c5) rfl ty)
            refine wpAnyH_ready (rs := [5, 8]) (by kernel_rfl) (by decide) ?_
            refine AllReadyH.cons rfl (fun K1 hK1 => ?_) (AllReadyH.cons rfl (fun K1 hK1 => ?_) AllReadyH.nil)
            · have q := (show w3.cell? ⟨ob, k, none⟩ = some (.slice av j cv) from (own_cell SC3.out.row k _ HV.out).1)
              go_simp
              refine hK1.out _ _ hH (fun hH => ?_)
              clear hK1 K1 q
              refine wpAnyH_ready (rs := [8]) (by kernel_rfl) (by decide) ?_
              refine AllReadyH.cons rfl (fun K1 hK1 => ?_) AllReadyH.nil
              go_simp
              refine hK1.out _ _ (hH.al (bel_new w3 _)) (fun hH => ?_)
              clear hK1 K1
              refine wpAnyH_ready (rs := [9]) (by kernel_rfl) (by decide) ?_
              refine AllReadyH.cons rfl (fun K1 hK1 => ?_) AllReadyH.nil
              refine step_appV (TS := 134) (.tmp 29) (.tmp 32) _ _ _ (fun ty => PU.out ty) rfl rfl rfl rfl ?_
              rintro v9 w9 ⟨⟨a9, c9, rfl⟩, o9, g9, b9⟩
              refine hK1.out _ _ ⟨Nat.le_trans A3.out.2.size g9.size, hH.2.1, fun q hq => (g9.block q (Nat.lt_of_lt_of_le (hH.2.1 q hq) A3.out.2.size) (fun e => VN.out q hq e.symm)).trans (A3.out.2.block q (hH.2.1 q hq))⟩ (fun hH => ?_)
              clear hK1 K1
              have R9 := hide (And.intro o9 (And.intro g9 b9))
              clear o9 g9 b9
              refine wpAnyH_take (i := 10) (v := ?_) rfl (by kernel_rfl) (by kernel_rfl) (by kernel_rfl) (fun _ _ _ h => h) (Or.inl ⟨by rfl, ?_⟩) hH ?_
              rotate_left 1
              · (intro w hSw; skip; clear hSw; go_simp <;> with_reducible rfl)
              simp only [Act.put, List.getElem_toArray, List.getElem_cons_zero, List.getElem_cons_succ, List.setIfInBounds_toArray, List.set_cons_zero, List.set_cons_succ]
              refine wpAnyH_ready (rs := [11]) (by kernel_rfl) (by decide) ?_
              refine AllReadyH.cons rfl (fun K1 hK1 => ?_) AllReadyH.nil
              have OR : w9.ownsRow 0 134 1 (.slice (some ⟨ob, 0, none⟩) n n) n vs := own_keep SC3.out.row (fun q hq => R9.out.2.1.block q (own_type SC3.out.row hq).2.1 (fun e => VO.out (by cases hq; exact e.symm)))
              obtain ⟨z1, z2⟩ := own_cell OR k _ HV.out
              go_simp
              refine hK1.out _ _ (hH.turn (t := ob) (by rw [size_setCell]; exact Nat.le_refl _) (fun q _ hq => Below.heap_setCell _ _ _ _ hq) (fun hm => by have := OB.out; simp at hm; omega)) (fun hH => ?_)
              clear hK1 K1 z1 z2 OR
              refine wpAnyH_done (by kernel_rfl) ?_ _
              clear hH
              go_wp2_with fail
              go_roundw
              case rel =>
                obtain ⟨R', s9⟩ := SC.out.push HL.out HXJ.out (by omega) HV.out HC.out.1 HC.out.2.1 (fun q hq => ⟨HC.out.2.2.2 q hq, (own_type HC.out.2.2.1 hq).2.1⟩) A3.out.2 A3.out.1 (by have := R9.out.1; exact this) R9.out.2.1 R9.out.2.2 (fun q hq => (own_type HC.out.2.2.1 hq).2.2)
                exact ⟨j + 1, by omega, by go_num, hide ⟨R', _, s9⟩⟩
              case measure => simp [intOf]; omega
            · go_simp
              refine hK1.out _ _ (hH.al (bel_new w3 _)) (fun hH => ?_)
              clear hK1 K1
              refine wpAnyH_ready (rs := [5]) (by kernel_rfl) (by decide) ?_
              refine AllReadyH.cons rfl (fun K1 hK1 => ?_) AllReadyH.nil
              have q := (show (w3.alloc (.cells #[.int .i64 xk, .int .i64 xo, .int .i64 xa, .int .i64 x0, .int .i64 x1, .int .u64 x2, .slice a5 n5 c5] 133)).cell? ⟨ob, k, none⟩ = some (.slice av j cv) from (own_cell (SC3.out.al (bel_new w3 (.cells #[.int .i64 xk, .int .i64 xo, .int .i64 xa, .int .i64 x0, .int .i64 x1, .int .u64 x2, .slice a5 n5 c5] 133))).row k _ HV.out).1)
              go_simp
              refine hK1.out _ _ hH (fun hH => ?_)
              clear hK1 K1 q
              refine wpAnyH_ready (rs := [9]) (by kernel_rfl) (by decide) ?_
              refine AllReadyH.cons rfl (fun K1 hK1 => ?_) AllReadyH.nil
              refine step_appV (TS := 134) (.tmp 29) (.tmp 32) _ _ _ (fun ty => PU.out ty) rfl rfl rfl rfl ?_
              rintro v9 w9 ⟨⟨a9, c9, rfl⟩, o9, g9, b9⟩
              refine hK1.out _ _ ⟨Nat.le_trans A3.out.2.size g9.size, hH.2.1, fun q hq => (g9.block q (Nat.lt_of_lt_of_le (hH.2.1 q hq) A3.out.2.size) (fun e => VN.out q hq e.symm)).trans (A3.out.2.block q (hH.2.1 q hq))⟩ (fun hH => ?_)
              clear hK1 K1
              have R9 := hide (And.intro o9 (And.intro g9 b9))
              clear o9 g9 b9
              refine wpAnyH_take (i := 10) (v := ?_) rfl (by kernel_rfl) (by kernel_rfl) (by kernel_rfl) (fun _ _ _ h => h) (Or.inl ⟨by rfl, ?_⟩) hH ?_
              rotate_left 1
              · (intro w hSw; skip; clear hSw; go_simp <;> with_reducible rfl)
              simp only [Act.put, List.getElem_toArray, List.getElem_cons_zero, List.getElem_cons_succ, List.setIfInBounds_toArray, List.set_cons_zero, List.set_cons_succ]
              refine wpAnyH_ready (rs := [11]) (by kernel_rfl) (by decide) ?_
              refine AllReadyH.cons rfl (fun K1 hK1 => ?_) AllReadyH.nil
              have OR : w9.ownsRow 0 134 1 (.slice (some ⟨ob, 0, none⟩) n n) n vs := own_keep SC3.out.row (fun q hq => R9.out.2.1.block q (own_type SC3.out.row hq).2.1 (fun e => VO.out (by cases hq; exact e.symm)))
              obtain ⟨z1, z2⟩ := own_cell OR k _ HV.out
              go_simp
              refine hK1.out _ _ (hH.turn (t := ob) (by rw [size_setCell]; exact Nat.le_refl _) (fun q _ hq => Below.heap_setCell _ _ _ _ hq) (fun hm => by have := OB.out; simp at hm; omega)) (fun hH => ?_)
              clear hK1 K1 z1 z2 OR
              refine wpAnyH_done (by kernel_rfl) ?_ _
              clear hH
              go_wp2_with fail
              go_roundw
              case rel =>
                obtain ⟨R', s9⟩ := SC.out.push HL.out HXJ.out (by omega) HV.out HC.out.1 HC.out.2.1 (fun q hq => ⟨HC.out.2.2.2 q hq, (own_type HC.out.2.2.1 hq).2.1⟩) A3.out.2 A3.out.1 (by have := R9.out.1; exact this) R9.out.2.1 R9.out.2.2 (fun q hq => (own_type HC.out.2.2.1 hq).2.2)
                exact ⟨j + 1, by omega, by go_num, hide ⟨R', _, s9⟩⟩
              case measure => simp [intOf]; omega
        · have ej : j = m := by omega
          subst ej
          have HJ2 : Hid (∃ R vs, Sc w wr vb ob n R S (k + 1) 0 vs) := hide (by
            obtain ⟨R, vs, sc⟩ := HJ.out
            obtain ⟨R', sc'⟩ := sc.next HL.out HM.out HN.out
            exact ⟨R', vs, sc'⟩)
          clear HJ
          go_wp2_with fail
          go_roundw
          case rel => exact ⟨k + 1, by omega, by go_num, HJ2⟩
          case measure => simp [intOf]; omega
    · have ek : k = n := by omega
      subst ek
      go_wp2_with fail
      go_ret
      obtain ⟨R, vs, sc⟩ := HI.out
      obtain ⟨R', b1, b2⟩ := sc.beg HN.out H2.out
      exact ⟨_, R', rfl, b1, b2, sc.bel⟩
end Go.Proofs.YtbiilnpblnjliaaDoor.Ck

/- Package act: who can run, as a list; the chapter's example's scripts. (Written by mk_a.py.) -/
namespace Go.Proofs.YtbiilnpblnjliaaDoor.Ck
open Go.RowKit

def runK (r : Rm) (k : Nat) : List Int := ((List.range k).filter fun (i : Nat) => can r i).map fun (i : Nat) => (i : Int)
theorem runK_yes {r : Rm} {k : Nat} (h : can r (k : Int) = true) : runK r (k + 1) = runK r k ++ [(k : Int)] := by
  unfold runK
  rw [List.range_succ, List.filter_append]
  simp [h]
theorem runK_no {r : Rm} {k : Nat} (h : can r (k : Int) = false) : runK r (k + 1) = runK r k := by
  unfold runK
  rw [List.range_succ, List.filter_append]
  simp [h]
theorem runK_len (r : Rm) (k : Nat) : (runK r k).length ≤ k := by
  unfold runK
  rw [List.length_map]
  have := List.length_filter_le (fun (i : Nat) => can r i) (List.range k)
  simpa using this
def RunnP (w : World) (l : List Int) (e : Ending) (w' : World) : Prop := ∃ a c, e = .returned (.slice a l.length c) ∧ w'.ownsRow w.heap.size 3 1 (.slice a l.length c) l.length (nts l) ∧ Below w.heap.size w w'
set_option maxRecDepth 20000 in
set_option maxHeartbeats 1000000 in
theorem Runnable_any {w : World} {G : Nat → Prop} {g : Nat} {S : List (List Wt)} {r : Rm} {p : List Addr} (h : Rn w G g S r) (h17 : E2 w p) : Calls Tryd.prog 68 #[.pointer (some ⟨g, 0, none⟩)] w (RunnP w (runnR r)) := by
  have EN := hide (ended_any h h17)
  have HR := hide h
  have H7 := hide h17
  unfold runnR
  cases hr : runs r with
  | false =>
    rw [hr] at EN
    clear h h17 hr
    go_enter Tryd.func68, Tryd.ntmps68
    go_wp2_with fail
    refine EN.out.mono ?_
    rintro e w1 ⟨rfl, hb⟩
    go_wp2_with fail
    go_ret
    exact ⟨_, _, rfl, World.ownsRow_nil _ _ _ _, hb⟩
  | true =>
    rw [hr] at EN
    have hn8 : r.gs.length ≤ 8 := by
      obtain ⟨_, _, _, _, _, _, _, _, _, _, h', _⟩ := h
      exact h'.n8
    obtain ⟨n, hn⟩ : ∃ n, n = r.gs.length := ⟨_, rfl⟩
    have c3 : Hid (∃ aG cG, ∀ w1, Below w.heap.size w w1 → w1.cell? ⟨g, 3, none⟩ = some (.slice aG n cG) ∧ g < w1.heap.size) := hide (by
      obtain ⟨_, _, _, _, _, _, vG, _, _, _, h', _⟩ := h
      obtain ⟨aG, cG, e, _⟩ := own_slice h'.go
      refine ⟨aG, cG, fun w1 hb => ⟨?_, Nat.lt_of_lt_of_le (h'.fb g h'.fg) hb.size⟩⟩
      have := (h'.bel hb).cells.1.2.2.2.1
      rw [e, ← hn] at this
      exact this)
    rw [if_pos rfl]
    have e0 : ((List.range r.gs.length).filter fun (i : Nat) => can r i).map (fun (i : Nat) => (i : Int)) = runK r n := by rw [hn]; rfl
    rw [e0]
    rw [← hn] at hn8
    clear h h17 hr e0 hn
    obtain ⟨aG, cG, C3⟩ := c3.out
    have C3 := hide C3
    clear c3
    go_enter Tryd.func68, Tryd.ntmps68
    go_wp2_with fail
    refine EN.out.mono ?_
    rintro e w1 ⟨rfl, hb⟩
    obtain ⟨c3, hgl⟩ := C3.out w1 hb
    have HB := hide hb
    clear hb EN
    go_wp2_with fail
    go_loopw [3, 4, 13] (fun x3 x4 i wr => ∃ (k m : Nat) (a : Option Addr) (c : Nat), k ≤ n ∧ i = .int .i64 k ∧ x3 = .slice a m c ∧ m ≤ k ∧ Hid (m = (runK r k).length ∧ wr.ownsRow w.heap.size 3 1 (.slice a m c) m (nts (runK r k)) ∧ Below w.heap.size w wr)) (fun x3 x4 i _ => n - (intOf i).toNat)
    case atStart => exact ⟨0, 0, none, 0, Nat.zero_le _, rfl, rfl, Nat.le_refl _, hide ⟨rfl, World.ownsRow_nil _ _ _ _, HB.out⟩⟩
    case round =>
      obtain ⟨k, m, a, c, hk, rfl, rfl, hmk, HI⟩ := hrel
      by_cases hlt : k < n
      · have hlt' : (k : Int) < (n : Int) := by omega
        have CR := hide (canRun_any (HR.out.bel HI.out.2.2) (H7.out.below (Nat.le_refl _) HI.out.2.2) (k : Int))
        have yes := hide (fun h => runK_yes (r := r) (k := k) h)
        have no := hide (fun h => runK_no (r := r) (k := k) h)
        generalize can r (k : Int) = z at *
        go_wp2_with fail
        refine CR.out.mono ?_
        rintro e w2 ⟨rfl, hb2⟩
        have HI2 : Hid (m = (runK r k).length ∧ w2.ownsRow w.heap.size 3 1 (.slice a m c) m (nts (runK r k)) ∧ Below w.heap.size w w2) := hide ⟨HI.out.1, own_keep HI.out.2.1 (fun q hq => hb2.block q (own_type HI.out.2.1 hq).2.1), bel_trans HI.out.2.2 hb2⟩
        clear HI hb2 CR
        cases z with
        | false =>
          have no2 := hide (no.out rfl)
          clear yes no
          go_wp2_with fail
          go_roundw
          case rel => exact ⟨k + 1, m, a, c, by omega, by go_num, rfl, by omega, hide (by rw [no2.out]; exact HI2.out)⟩
          case measure => simp [intOf]; omega
        | true =>
          have yes2 := hide (yes.out rfl)
          clear yes no
          have PU := hide (fun ty => push_i2 (n := m) (l := runK r k) HI2.out.1 (by have := runK_len r k; omega) HI2.out.2.1 HI2.out.2.2.size (k : Int) ty)
          go_wp2_with (first | (at_builtin; refine wpList_appV (TS := 22) rfl (.tmp 19) (.tmp 21) rfl _ _ rfl rfl _ (PU.out _) ?_; rintro v9 w9 ⟨⟨a9, c9, rfl⟩, r9⟩; have R9 := hide r9; clear r9))
          go_roundw
          case rel =>
            refine ⟨k + 1, m + 1, a9, c9, by omega, by go_num, rfl, by omega, hide ⟨?_, ?_, HI2.out.2.2.grown R9.out.2.1 HI2.out.2.2.size (fun q hq => (own_type HI2.out.2.1 hq).1)⟩⟩
            · rw [yes2.out, HI2.out.1]; simp
            · rw [yes2.out]; exact R9.out.1
          case measure => simp [intOf]; omega
      · have ek : k = n := by omega
        subst ek
        go_wp2_with fail
        go_ret
        refine ⟨a, c, ?_, ?_, HI.out.2.2⟩
        · rw [← HI.out.1]; rfl
        · rw [← HI.out.1]; exact HI.out.2.1
def S0 : List (List Wt) := [[⟨10, 1, 0, (0, 0, 0)⟩, ⟨3, 0, 0, (0, 0, 0)⟩, ⟨4, 0, 0, (0, 0, 0)⟩], [⟨3, 0, 0, (0, 0, 0)⟩]]
def s0 : St := ⟨[], [false], [], []⟩
def r0 : Rm := startR S0 s0 0
def r1 : Rm := doR S0 r0 0
def r2 : Rm := doR S0 r1 1
def r3 : Rm := doR S0 r2 1
theorem src0 (w1 : World) : SSrc (((w1.alloc (.cells #[.int .i64 10, .int .i64 1, .int .i64 0, .int .i64 0, .int .i64 0, .int .u64 0, .slice none 0 0, .int .i64 3, .int .i64 0, .int .i64 0, .int .i64 0, .int .i64 0, .int .u64 0, .slice none 0 0, .int .i64 4, .int .i64 0, .int .i64 0, .int .i64 0, .int .i64 0, .int .u64 0, .slice none 0 0] 133)).alloc (.cells #[.int .i64 3, .int .i64 0, .int .i64 0, .int .i64 0, .int .i64 0, .int .u64 0, .slice none 0 0] 133)).alloc (.cells #[.slice (some ⟨w1.heap.size, 0, none⟩) 3 3, .slice (some ⟨w1.heap.size + 1, 0, none⟩) 1 1] 134)) (.slice (some ⟨w1.heap.size + 1 + 1, 0, none⟩) 2 2) S0 := by
  have hs1 : (w1.alloc (.cells #[.int .i64 10, .int .i64 1, .int .i64 0, .int .i64 0, .int .i64 0, .int .u64 0, .slice none 0 0, .int .i64 3, .int .i64 0, .int .i64 0, .int .i64 0, .int .i64 0, .int .u64 0, .slice none 0 0, .int .i64 4, .int .i64 0, .int .i64 0, .int .i64 0, .int .i64 0, .int .u64 0, .slice none 0 0] 133)).heap.size = w1.heap.size + 1 := by simp
  have hs2 : ((w1.alloc (.cells #[.int .i64 10, .int .i64 1, .int .i64 0, .int .i64 0, .int .i64 0, .int .u64 0, .slice none 0 0, .int .i64 3, .int .i64 0, .int .i64 0, .int .i64 0, .int .i64 0, .int .u64 0, .slice none 0 0, .int .i64 4, .int .i64 0, .int .i64 0, .int .i64 0, .int .i64 0, .int .u64 0, .slice none 0 0] 133)).alloc (.cells #[.int .i64 3, .int .i64 0, .int .i64 0, .int .i64 0, .int .i64 0, .int .u64 0, .slice none 0 0] 133)).heap.size = w1.heap.size + 1 + 1 := by simp
  have e1 := Go.Deep.blk_alloc_new w1 (.cells #[.int .i64 10, .int .i64 1, .int .i64 0, .int .i64 0, .int .i64 0, .int .u64 0, .slice none 0 0, .int .i64 3, .int .i64 0, .int .i64 0, .int .i64 0, .int .i64 0, .int .u64 0, .slice none 0 0, .int .i64 4, .int .i64 0, .int .i64 0, .int .i64 0, .int .i64 0, .int .u64 0, .slice none 0 0] 133)
  have e2 := Go.Deep.blk_alloc_new (w1.alloc (.cells #[.int .i64 10, .int .i64 1, .int .i64 0, .int .i64 0, .int .i64 0, .int .u64 0, .slice none 0 0, .int .i64 3, .int .i64 0, .int .i64 0, .int .i64 0, .int .i64 0, .int .u64 0, .slice none 0 0, .int .i64 4, .int .i64 0, .int .i64 0, .int .i64 0, .int .i64 0, .int .u64 0, .slice none 0 0] 133)) (.cells #[.int .i64 3, .int .i64 0, .int .i64 0, .int .i64 0, .int .i64 0, .int .u64 0, .slice none 0 0] 133)
  have e3 := Go.Deep.blk_alloc_new ((w1.alloc (.cells #[.int .i64 10, .int .i64 1, .int .i64 0, .int .i64 0, .int .i64 0, .int .u64 0, .slice none 0 0, .int .i64 3, .int .i64 0, .int .i64 0, .int .i64 0, .int .i64 0, .int .u64 0, .slice none 0 0, .int .i64 4, .int .i64 0, .int .i64 0, .int .i64 0, .int .i64 0, .int .u64 0, .slice none 0 0] 133)).alloc (.cells #[.int .i64 3, .int .i64 0, .int .i64 0, .int .i64 0, .int .i64 0, .int .u64 0, .slice none 0 0] 133)) (.cells #[.slice (some ⟨w1.heap.size, 0, none⟩) 3 3, .slice (some ⟨w1.heap.size + 1, 0, none⟩) 1 1] 134)
  rw [hs1] at e2
  rw [hs2] at e3
  replace e2 := ((bel_new ((w1.alloc (.cells #[.int .i64 10, .int .i64 1, .int .i64 0, .int .i64 0, .int .i64 0, .int .u64 0, .slice none 0 0, .int .i64 3, .int .i64 0, .int .i64 0, .int .i64 0, .int .i64 0, .int .u64 0, .slice none 0 0, .int .i64 4, .int .i64 0, .int .i64 0, .int .i64 0, .int .i64 0, .int .u64 0, .slice none 0 0] 133)).alloc (.cells #[.int .i64 3, .int .i64 0, .int .i64 0, .int .i64 0, .int .i64 0, .int .u64 0, .slice none 0 0] 133)) (.cells #[.slice (some ⟨w1.heap.size, 0, none⟩) 3 3, .slice (some ⟨w1.heap.size + 1, 0, none⟩) 1 1] 134)).block _ (lt_of_blk e2)).trans e2
  replace e1 := ((bel_al (bel_new (w1.alloc (.cells #[.int .i64 10, .int .i64 1, .int .i64 0, .int .i64 0, .int .i64 0, .int .u64 0, .slice none 0 0, .int .i64 3, .int .i64 0, .int .i64 0, .int .i64 0, .int .i64 0, .int .u64 0, .slice none 0 0, .int .i64 4, .int .i64 0, .int .i64 0, .int .i64 0, .int .i64 0, .int .u64 0, .slice none 0 0] 133)) (.cells #[.int .i64 3, .int .i64 0, .int .i64 0, .int .i64 0, .int .i64 0, .int .u64 0, .slice none 0 0] 133)) (.cells #[.slice (some ⟨w1.heap.size, 0, none⟩) 3 3, .slice (some ⟨w1.heap.size + 1, 0, none⟩) 1 1] 134)).block _ (lt_of_blk e1)).trans e1
  generalize ((w1.alloc (.cells #[.int .i64 10, .int .i64 1, .int .i64 0, .int .i64 0, .int .i64 0, .int .u64 0, .slice none 0 0, .int .i64 3, .int .i64 0, .int .i64 0, .int .i64 0, .int .i64 0, .int .u64 0, .slice none 0 0, .int .i64 4, .int .i64 0, .int .i64 0, .int .i64 0, .int .i64 0, .int .u64 0, .slice none 0 0] 133)).alloc (.cells #[.int .i64 3, .int .i64 0, .int .i64 0, .int .i64 0, .int .i64 0, .int .u64 0, .slice none 0 0] 133)).alloc (.cells #[.slice (some ⟨w1.heap.size, 0, none⟩) 3 3, .slice (some ⟨w1.heap.size + 1, 0, none⟩) 1 1] 134) = W at *
  have w3 : WSrc W (.slice (some ⟨w1.heap.size, 0, none⟩) 3 3) [⟨10, 1, 0, (0, 0, 0)⟩, ⟨3, 0, 0, (0, 0, 0)⟩, ⟨4, 0, 0, (0, 0, 0)⟩] := by
    refine ⟨_, 3, rfl, by simp, fun j x hx => ⟨w1.heap.size, 0, .slice none 0 0, rfl, lt_of_blk e1, fun q u hu => ?_, ArgC.nilS W⟩⟩
    refine blk_cell e1 _ _ ?_
    match j, hx with
    | 0, hx => cases hx; match q, hu with
      | 0, hu | 1, hu | 2, hu | 3, hu | 4, hu | 5, hu | 6, hu => cases hu; rfl
    | 1, hx => cases hx; match q, hu with
      | 0, hu | 1, hu | 2, hu | 3, hu | 4, hu | 5, hu | 6, hu => cases hu; rfl
    | 2, hx => cases hx; match q, hu with
      | 0, hu | 1, hu | 2, hu | 3, hu | 4, hu | 5, hu | 6, hu => cases hu; rfl
  have w1' : WSrc W (.slice (some ⟨w1.heap.size + 1, 0, none⟩) 1 1) [⟨3, 0, 0, (0, 0, 0)⟩] := by
    refine ⟨_, 1, rfl, by simp, fun j x hx => ⟨w1.heap.size + 1, 0, .slice none 0 0, rfl, lt_of_blk e2, fun q u hu => ?_, ArgC.nilS W⟩⟩
    refine blk_cell e2 _ _ ?_
    match j, hx with
    | 0, hx => cases hx; match q, hu with
      | 0, hu | 1, hu | 2, hu | 3, hu | 4, hu | 5, hu | 6, hu => cases hu; rfl
  refine ⟨_, 2, rfl, by simp [S0], fun i l hl => ?_⟩
  match i, hl with
  | 0, hl => cases hl; exact ⟨w1.heap.size + 1 + 1, 0, _, rfl, lt_of_blk e3, blk_cell e3 0 _ rfl, w3⟩
  | 1, hl => cases hl; exact ⟨w1.heap.size + 1 + 1, 0, _, rfl, lt_of_blk e3, blk_cell e3 1 _ rfl, w1'⟩
end Go.Proofs.YtbiilnpblnjliaaDoor.Ck

/- Layer 12: the chapter's example. (Written by mk_a.py.) -/
namespace Go.Proofs.YtbiilnpblnjliaaDoor.Ck
open Go.RowKit

theorem Off.mk {G : Nat → Prop} {N : Nat} (h : ∀ k, G k → N ≤ k) {w : World} {p : List Addr} (h17 : E3 w p) (hN : w.heap.size ≤ N) : Off G :=
  ⟨fun e => absurd (h _ e) (by have := h17.e2.l0; omega), fun e => absurd (h _ e) (by have := h17.e2.l4; omega), fun e => absurd (h _ e) (by have := h17.l9; omega)⟩
set_option maxRecDepth 20000 in
set_option maxHeartbeats 3000000 in
theorem alive12 {w : World} {p : List Addr} (h17 : E3 w p) : Calls Tryd.prog 22 #[] w (Vb w (.bool true)) := by
  have NW := hide (new_ok (.slice none 0 0) (.slice none 0 0) [] [] 1 0 (Sl.nilS w) (SlC.nilS w) rfl)
  have H7 := hide h17
  have hf := enf0
  clear h17
  go_enter Tryd.func22, Tryd.ntmps22
  go_wp2_with fail
  refine NW.out.mono ?_
  rintro e w1 ⟨gs, F, rfl, hs, hl, hb⟩
  have S1 : Hid (Stt w1 F gs s0 ∧ (∀ k, F k → w.heap.size ≤ k) ∧ Below w.heap.size w w1) := hide ⟨hs, hl, hb⟩
  clear hs hl hb NW
  have SC := hide (scripted_any (src0 w1))
  have B3 : Hid (Below w1.heap.size w1 (((w1.alloc (.cells #[.int .i64 10, .int .i64 1, .int .i64 0, .int .i64 0, .int .i64 0, .int .u64 0, .slice none 0 0, .int .i64 3, .int .i64 0, .int .i64 0, .int .i64 0, .int .i64 0, .int .u64 0, .slice none 0 0, .int .i64 4, .int .i64 0, .int .i64 0, .int .i64 0, .int .i64 0, .int .u64 0, .slice none 0 0] 133)).alloc (.cells #[.int .i64 3, .int .i64 0, .int .i64 0, .int .i64 0, .int .i64 0, .int .u64 0, .slice none 0 0] 133)).alloc (.cells #[.slice (some ⟨w1.heap.size, 0, none⟩) 3 3, .slice (some ⟨w1.heap.size + 1, 0, none⟩) 1 1] 134))) := hide (bel_al (bel_al (bel_new w1 _) _) _)
  go_wp2_with fail
  generalize ((w1.alloc (.cells #[.int .i64 10, .int .i64 1, .int .i64 0, .int .i64 0, .int .i64 0, .int .u64 0, .slice none 0 0, .int .i64 3, .int .i64 0, .int .i64 0, .int .i64 0, .int .i64 0, .int .u64 0, .slice none 0 0, .int .i64 4, .int .i64 0, .int .i64 0, .int .i64 0, .int .i64 0, .int .u64 0, .slice none 0 0] 133)).alloc (.cells #[.int .i64 3, .int .i64 0, .int .i64 0, .int .i64 0, .int .i64 0, .int .u64 0, .slice none 0 0] 133)).alloc (.cells #[.slice (some ⟨w1.heap.size, 0, none⟩) 3 3, .slice (some ⟨w1.heap.size + 1, 0, none⟩) 1 1] 134) = W3 at *
  refine SC.out.mono ?_
  rintro e w5 ⟨vB, R, rfl, bg, hR, hb5⟩
  have PR : Hid (Pre w5 F R gs s0 vB S0) := hide ⟨(S1.out.1.bel B3.out).bel hb5, fun q hq => (by cases hq), bg, fun k hk hF => (by
    have h1 := S1.out.1.fb k hF
    have h2 := (hR k hk).1
    have h3 := B3.out.size
    omega), fun k hk => (hR k hk).2⟩
  have B5 := hide (bel_trans (bel_trans S1.out.2.2 B3.out) hb5)
  have LO : Hid (∀ k, (F k ∨ R k) → w.heap.size ≤ k) := hide (fun k hk => hk.elim (S1.out.2.1 k) (fun h => by
    have h1 := (hR k h).1
    have h2 := B3.out.size
    have h3 := S1.out.2.2.size
    omega))
  have E5 := hide (And.intro (H7.out.below (Nat.le_refl _) B5.out) (Off.mk LO.out H7.out (Nat.le_refl _)))
  clear bg hR hb5 SC S1 B3
  have ST := hide (start_any PR.out E5.out.1 E5.out.2 0)
  rw [show startR S0 s0 0 = r0 from rfl] at ST
  go_wp2_with fail
  refine ST.out.mono ?_
  rintro e w6 ⟨g, G6, rfl, rn, ch⟩
  have R6 := hide (And.intro rn (And.intro (E5.out.1.ch E5.out.2 ch) ch))
  clear rn ch ST PR
  have DO := hide (Do_ok R6.out.1 R6.out.2.1.1 R6.out.2.1.2 0 (show runs r0 = true by decide +kernel) (show can r0 ((0 : Nat) : Int) = true by decide +kernel) (show r0.ev.length ≤ 90000 by decide +kernel))
  rw [show doR S0 r0 0 = r1 from rfl] at DO
  simp only [Int.ofNat_zero] at DO
  go_wp2_with fail
  refine DO.out.mono ?_
  rintro e w7 ⟨rfl, G7, rn, ch⟩
  have R7 := hide (And.intro rn (And.intro (R6.out.2.1.1.ch R6.out.2.1.2 ch) (R6.out.2.2.trans ch)))
  clear rn ch DO R6
  have DO := hide (Do_ok R7.out.1 R7.out.2.1.1 R7.out.2.1.2 1 (show runs r1 = true by decide +kernel) (show can r1 ((1 : Nat) : Int) = true by decide +kernel) (show r1.ev.length ≤ 90000 by decide +kernel))
  rw [show doR S0 r1 1 = r2 from rfl] at DO
  go_wp2_with fail
  refine DO.out.mono ?_
  rintro e w8 ⟨rfl, G8, rn, ch⟩
  have R8 := hide (And.intro rn (And.intro (R7.out.2.1.1.ch R7.out.2.1.2 ch) (R7.out.2.2.trans ch)))
  clear rn ch DO R7
  have DO := hide (Do_ok R8.out.1 R8.out.2.1.1 R8.out.2.1.2 1 (show runs r2 = true by decide +kernel) (show can r2 ((1 : Nat) : Int) = true by decide +kernel) (show r2.ev.length ≤ 90000 by decide +kernel))
  rw [show doR S0 r2 1 = r3 from rfl] at DO
  go_wp2_with fail
  refine DO.out.mono ?_
  rintro e w9 ⟨rfl, G9, rn, ch⟩
  have R9 := hide (And.intro rn (And.intro (R8.out.2.1.1.ch R8.out.2.1.2 ch) (R8.out.2.2.trans ch)))
  clear rn ch DO R8
  have EN := hide (End_any R9.out.1 R9.out.2.1.1.e2)
  rw [show endR r3 = ⟨2, 0, 0, 0, 0⟩ from by kernel_rfl] at EN
  unfold EnV at EN
  simp only at EN
  go_wp2_with fail
  refine EN.out.mono ?_
  rintro e w10 ⟨rfl, hb⟩
  have R10 := hide (And.intro (R9.out.1.bel hb) (And.intro (R9.out.2.1.1.below (Nat.le_refl _) hb) (R9.out.2.2.trans (Ch.of_bel hb))))
  clear hb EN R9
  have RU := hide (Runnable_any R10.out.1 R10.out.2.1.e2)
  rw [show runnR r3 = [] by decide +kernel] at RU
  go_wp2_with fail
  refine RU.out.mono ?_
  rintro e w11 ⟨a, c, rfl, _, hb⟩
  have R11 := hide (And.intro (R10.out.1.bel hb) (R10.out.2.2.trans (Ch.of_bel hb)))
  clear hb RU R10
  have CO := hide (Count_any R11.out.1)
  rw [show r3.ev.length = 3 by decide +kernel] at CO
  go_wp2_with fail
  refine CO.out.mono ?_
  rintro e w12 ⟨rfl, rfl⟩
  go_wp2_with fail
  go_ret
  exact Vb.mk rfl (B5.out.trans (R11.out.2.bel LO.out B5.out.size))
end Go.Proofs.YtbiilnpblnjliaaDoor.Ck

/- The contract of the statements' own Ints (a copy with marked room behind). (Written by mk_a.py.) -/
namespace Go.Proofs.YtbiilnpblnjliaaDoor.Ck
open Go.RowKit

def marks : List Int := [-91, -92, -93, -94]

theorem run_make0 (c : Nat) (hc : c ≤ 17592186044500) (w : World) :
    (Instr.makeSlice 22 (.int .i64 0) (.int .i64 (c : Int))).run Tryd.prog w = .ok (.slice (some ⟨w.heap.size, 0, none⟩) 0 c) (w.alloc (.cells (madeCells #[.int .i64 0] c) 3)) := by
  obtain ⟨i, hi, hz0, hz1, hz2⟩ := info_parts info3
  have hr := run_make (P := Tryd.prog) w 22 3 i (.int .i64 0) Tryd.underlying22 hi hz0 .i64 .i64 0 c (by omega) (by omega) (by rw [hz2]; omega) (by omega)
  simp only [Int.toNat_natCast, hz1, Nat.mul_one] at hr
  exact hr

theorem Own.below {w w' : World} {B g cap : Nat} {zs : List Int} (h : Own w B g cap zs) (hb : Below w.heap.size w w') : Own w' B g cap zs := by
  obtain ⟨cur, h1, hg, h3, h4, h5, h6⟩ := h.parts
  exact Own.mk cur h1 ((hb.block g (Array.getElem?_eq_some_iff.1 hg).1).trans hg) h3 h4 h5 h6
theorem Own.alloc {w : World} {B g cap : Nat} {zs : List Int} (h : Own w B g cap zs) (o : Obj) : Own (w.alloc o) B g cap zs := h.below (bel_new w o)
theorem Own.made (w : World) (c : Nat) (hc : c ≤ 17592186044500) : Own (w.alloc (.cells (madeCells #[.int .i64 0] c) 3)) w.heap.size w.heap.size c [] :=
  Own.mk _ (Nat.le_refl _) (Go.Deep.blk_alloc_new _ _) (Nat.zero_le _) (by unfold maxLen; omega) (by simp [madeCells]) (by simp [ints])

theorem marks_built (w : World) : Sl (w.alloc (.cells #[.int .i64 (-91), .int .i64 (-92), .int .i64 (-93), .int .i64 (-94)] 3)) (.slice (some ⟨w.heap.size, 0, none⟩) 4 4) marks := by
  refine Sl.of_row (t := 3) (zs := marks) (n := 4) (f := fun i => .int .i64 (marks.getD i 0)) ⟨_, Go.Deep.blk_alloc_new _ _, by simp, fun i hi => ?_⟩ (by simp [marks]) (by unfold maxLen; omega) (fun z hz => by simp [marks] at hz; omega) (fun i _ => rfl)
  have : i = 0 ∨ i = 1 ∨ i = 2 ∨ i = 3 := by omega
  rcases this with h | h | h | h <;> subst h <;> rfl

theorem ints_second {w w1 : World} {n : Nat} {a : List Int} (En : n = a.length) (ho : Own w1 w.heap.size w.heap.size (n + 4) a) (hb : Below w.heap.size w w1) (ty : TypeId) :
    ∃ v' w', (Builtin.append_ #[22, 22] ty #[.slice (some ⟨w.heap.size, 0, none⟩) n (n + 4), .slice (some ⟨w1.heap.size, 0, none⟩) 4 4]).run Tryd.prog (w1.alloc (.cells #[.int .i64 (-91), .int .i64 (-92), .int .i64 (-93), .int .i64 (-94)] 3)) = .ok v' w' ∧
      (v' = .slice (some ⟨w.heap.size, 0, none⟩) (n + 4) (n + 4) ∧ Own w' w.heap.size w.heap.size (n + 4) (a ++ marks) ∧ Below w.heap.size w w') := by
  have hm : marks.length = 4 := rfl
  obtain ⟨w', hr, h2, hg⟩ := app_fits (ms := marks) ty (ho.alloc _) (marks_built w1) (by rw [hm]; omega)
  rw [← En, hm] at hr
  exact ⟨_, w', hr, rfl, h2, (bel_al hb _).grown hg (by have := hb.size; simp; omega) (fun k hk => by cases hk; exact Nat.le_refl _)⟩

set_option maxRecDepth 10000 in
set_option maxHeartbeats 400000 in
theorem ints_any (va : Value) (a : List Int) (w : World) (ha : Sl w va a) (hla : a.length ≤ 17592186044416) :
    Calls Tryd.prog 30 #[va] w fun e w' => (∃ g, e = .returned (.slice (some ⟨g, 0, none⟩) a.length (a.length + 4)) ∧ Own w' w.heap.size g (a.length + 4) (a ++ marks)) ∧ Below w.heap.size w w' := by
  obtain ⟨n, en⟩ : ∃ n, n = a.length := ⟨_, rfl⟩
  have hn : n ≤ 17592186044416 := by omega
  have hva : ∃ aa ca, va = .slice aa n ca := by obtain ⟨_, aa, ca, rfl, _⟩ := ha; exact ⟨aa, ca, by rw [en]⟩
  obtain ⟨aa, ca, rfl⟩ := hva
  rw [← en]
  have En : Hid (n = a.length) := en
  clear en hla
  have hmk := run_make0 (n + 4) (by omega)
  have ec : ((n + 4 : Nat) : Int) = (n : Int) + 4 := by omega
  rw [ec] at hmk
  have h1 := fun ty => app_fits ty (Own.made w (n + 4) (by omega)) (ha.below (Nat.le_refl _) (bel_new w _)) (by simp; have := En.out; omega)
  have H1 : Hid (∀ ty, ∃ v' w', (Builtin.append_ #[22, 22] ty #[.slice (some ⟨w.heap.size, 0, none⟩) 0 (n + 4), .slice aa n ca]).run Tryd.prog (w.alloc (.cells (madeCells #[.int .i64 0] (n + 4)) 3)) = .ok v' w' ∧
      (v' = .slice (some ⟨w.heap.size, 0, none⟩) n (n + 4) ∧ Own w' w.heap.size w.heap.size (n + 4) a ∧ Below w.heap.size w w')) := fun ty => by
    obtain ⟨w', hr, ho, hg⟩ := h1 ty
    refine ⟨_, w', hr, by simp only [List.length_nil, Nat.zero_add, ← En.out], by simpa using ho, (bel_new w _).grown hg (by simp) (fun k hk => by cases hk; exact Nat.le_refl _)⟩
  clear h1
  go_enter Tryd.func30, Tryd.ntmps30
  go_wp2_with (first | (at_builtin; refine wpList_app rfl (.tmp 7) (.tmp 8) rfl _ _ rfl rfl _ (H1.out _) ?_; rintro v1 w1 ⟨rfl, ho1, hb1⟩) | (at_builtin; refine wpList_app rfl (.tmp 9) (.tmp 10) rfl _ _ rfl rfl _ (ints_second En.out ho1 hb1 _) ?_; rintro v2 w2 ⟨rfl, ho2, hb2⟩))
  go_ret
  exact ⟨⟨_, rfl, ho2⟩, hb2⟩
end Go.Proofs.YtbiilnpblnjliaaDoor.Ck
