/- Texts of this proof, packed: contracts of the program's functions, and the plain model that they are held against. -/
import Derived.Test.YtbiilnpblnjliaaDoorQap
import Derived.Test.YtbiilnpblnjliaaDoorQaq
/- Package act: threads of scripts. (Written by mk_a.py.) -/
namespace Go.Proofs.YtbiilnpblnjliaaDoor.Ck
open Go.RowKit

theorem info_pgo : (Tryd.prog.info? 191).map (fun i => (i.zero, i.size, i.bytes)) = some (some (.pointer none), 1, 8) := by kernel_rfl
theorem push_g {w : World} {vq : Value} {l : List Nat} {n : Nat} (hn : n = l.length) (oq : w.ownsRow 0 191 1 vq n (pts l)) (hl : l.length ≤ 100000) (b : Nat) (ty : TypeId) :
    ∃ v' w', (Builtin.append_ #[148, 148] ty #[vq, .slice (some ⟨w.heap.size, 0, none⟩) 1 1]).run Tryd.prog (w.alloc (.cells #[.pointer (some ⟨b, 0, none⟩)] 191)) = .ok v' w' ∧
      ((∃ a l c, v' = .slice a l c) ∧ w'.ownsRow 0 191 1 v' (n + 1) (pts (l ++ [b])) ∧ w.grownBy w' vq.ownBlock ∧ (∀ k, v'.ownBlock = some k → vq.ownBlock = some k ∨ w.heap.size ≤ k)) := by
  obtain ⟨ie, hi, hz0, hz1, hz2⟩ := info_parts info_pgo
  have hb := bel_new w (.cells #[.pointer (some ⟨b, 0, none⟩)] 191)
  have o1 := own_keep oq (fun k hk => hb.block k (own_type oq hk).2.1)
  have hc : ∀ (j : Nat) (u : Value), (pts [b])[j]? = some u → (w.alloc (.cells #[.pointer (some ⟨b, 0, none⟩)] 191)).cell? ((⟨w.heap.size, 0, none⟩ : Addr).add j) = some u := fun j u hu => by
    rw [show (⟨w.heap.size, 0, none⟩ : Addr).add j = ⟨w.heap.size, j, none⟩ by unfold Addr.add; by_cases h : j = 0 <;> simp [h]]
    exact blk_cell (Go.Deep.blk_alloc_new w _) j u (by simpa [pts] using hu)
  obtain ⟨v', w', hr, ho, hg, _, hat⟩ := run_append_own_at (P := Tryd.prog) (w.alloc (.cells #[.pointer (some ⟨b, 0, none⟩)] 191)) 0 148 ty 191 ie _ 1 8 Tryd.underlying148 hi hz0 hz1 hz2 rfl (by decide) vq n (pts l) o1 ⟨w.heap.size, 0, none⟩ 1 1 (pts [b]) rfl hc (fun u hu => by simp [pts] at hu; subst hu; rfl) (by unfold maxLen; omega) (by omega) (Nat.zero_le _)
  obtain ⟨a9, c9, e9, _⟩ := own_slice ho
  refine ⟨v', w', hr, ⟨_, _, _, e9⟩, by rw [show pts (l ++ [b]) = pts l ++ pts [b] by simp [pts]]; exact ho, ⟨hg.os, hg.tape, hg.output, Nat.le_trans hb.size hg.size, fun k hk hne => (hg.block k (Nat.lt_of_lt_of_le hk hb.size) hne).trans (hb.block k hk)⟩, fun k hk => ?_⟩
  rcases hat with e | e
  · exact .inl (e.symm.trans hk)
  · rw [e] at hk
    right
    have := Option.some.inj hk
    simp at this
    omega
/-- what a thread's beginning answers -/
def BegP (w : World) (R : Nat → Prop) (o : Option (List Wt)) (e : Ending) (w' : World) : Prop := Below w.heap.size w w' ∧ match o with
  | none => e = .returned .nilIface
  | some l => ∃ t vw, e = .returned (.iface 177 (.pointer (some ⟨t, 0, none⟩))) ∧ w.heap.size ≤ t ∧ w'.heap[t]? = some (.cells #[vw] 179 (0, 0)) ∧ WRow w' R vw l
set_option maxRecDepth 20000 in
set_option maxHeartbeats 1000000 in
theorem begin_any {w : World} {R : Nat → Prop} {S : List (List Wt)} {c : Nat} (h : Beg w R (.func (.func 93) #[] #[.pointer (some ⟨c, 0, none⟩)]) S) (hR : ∀ k, R k → k < w.heap.size) (fn : Int) (va : Value) : Calls Tryd.prog 93 #[.int .i64 fn, va, .pointer (some ⟨c, 0, none⟩)] w (BegP w R (lk S fn)) := by
  obtain ⟨c', vS, vs, e, h2, h3, h4, h5, h6, h7⟩ := h
  cases e
  obtain ⟨a, cS, eS, _⟩ := own_slice h4
  subst eS
  have c0 : w.cell? ⟨c, 0, none⟩ = some (.slice a S.length cS) := blk_cell h3 0 _ rfl
  have hcl := hR c h2
  obtain ⟨n, hn⟩ : ∃ n, n = S.length := ⟨_, rfl⟩
  rw [← hn] at c0 h6
  cases hl : lk S fn with
  | none =>
    have ho := lk_none hl
    rw [← hn] at ho
    clear hl h2 h3 h4 h5 h7 hn
    by_cases h0 : fn < 0
    · have hd0 : decide (fn < 0) = true := by simp [h0]
      clear ho
      go_enter Tryd.func93, Tryd.ntmps93
      go_wp2_with fail
      go_ret
      exact ⟨Below.refl _ _, rfl⟩
    · have h1 : (n : Int) ≤ fn := by omega
      have h2 : 0 ≤ fn := by omega
      have hd0 : decide (fn < 0) = false := by simp; omega
      have hd1 : decide ((n : Int) ≤ fn) = true := by simp [h1]
      clear ho h0
      go_enter Tryd.func93, Tryd.ntmps93
      go_wp2_with fail
      go_ret
      exact ⟨Below.refl _ _, rfl⟩
  | some l =>
    obtain ⟨i, rfl, hi⟩ := lk_some hl
    have hin : i < S.length := (List.getElem?_eq_some_iff.1 hi).1
    obtain ⟨bS, cS', e, _⟩ := own_some h4 (by omega)
    cases e
    obtain ⟨v, hv⟩ : ∃ v, vs[i]? = some v := ⟨_, List.getElem?_eq_getElem (by have := h4.1; omega)⟩
    have d1 := (own_cell h4 i v hv).1
    have hbl := (own_type h4 (k := bS) rfl).2.1
    have HW := hide (h7 i l v hi hv)
    obtain ⟨av, cv, ev, _⟩ := h7 i l v hi hv
    rw [ev] at d1 HW
    rw [← hn] at hin
    have hi1 : (i : Int) < (n : Int) := by omega
    have hi0 : (0 : Int) ≤ (i : Int) := by omega
    have hd0 : decide ((i : Int) < 0) = false := by simp
    have hd1 : decide ((n : Int) ≤ (i : Int)) = false := by simp; omega
    have HR := hide hR
    clear hl h2 h3 h4 h5 h7 hn hv ev hi hR
    go_enter Tryd.func93, Tryd.ntmps93
    go_wp2_with fail
    go_ret
    exact ⟨bel_new _ _, w.heap.size, _, rfl, Nat.le_refl _, Go.Deep.blk_alloc_new w _, HW.out.keep (fun k hk => (bel_new _ _).block k (HR.out k hk)) fun _ h => h⟩
end Go.Proofs.YtbiilnpblnjliaaDoor.Ck

/- Package act: a goroutine begins. (Written by mk_a.py.) -/
namespace Go.Proofs.YtbiilnpblnjliaaDoor.Ck
open Go.RowKit

theorem go_keep {w w2 : World} {Fs Fo R : Nat → Prop} {g gs : Nat} {S : List (List Wt)} {r : Rm} {vC vB vG vE : Value} {ps ts : List Nat} (h : Ru w Fs Fo R g gs S r vC vB vG vE ps ts) (hg : w.grownBy w2 vG.ownBlock) : w2.cell? ⟨g, 3, none⟩ = some vG ∧ w2.frozen? ⟨g, 3, none⟩ = false := by
  have e : w2.heap[g]? = w.heap[g]? := hg.block g (lt_of_blk h.at_) (fun e => own_at h.go h.at_ (by decide) e.symm)
  exact ⟨blk_cell (e.trans h.at_) 3 _ rfl, blk_frz (e.trans h.at_) 3⟩
set_option maxRecDepth 20000 in
set_option maxHeartbeats 800000 in
theorem enter_none {w : World} {G : Nat → Prop} {g : Nat} {S : List (List Wt)} {r : Rm} (h : Rn w G g S r) (fn : Int) {va : Value} {R0 : Nat → Prop} (hA : Args w R0 va) (hl : lk S fn = none) : Calls Tryd.prog 88 #[.pointer (some ⟨g, 0, none⟩), .int .i64 fn, va] w (RnP w G g S r (.bool false)) := by
  obtain ⟨Fs, Fo, R, gs, vC, vB, vG, vE, ps, ts, h, hG⟩ := h
  obtain ⟨cB, vS, vs, eB, _⟩ := id h.bg
  subst eB
  obtain ⟨n, xs, hn, hs, h1, hR0⟩ := hA
  obtain ⟨aa, ca, ea, _⟩ := own_slice hs
  subst ea
  have c2 := h.cells.1.2.2.1
  have hgl := h.fb g h.fg
  have hE : ∀ w, (binOp .eql 130 (.func (.func 93) #[] #[.pointer (some ⟨cB, 0, none⟩)]) .nilFunc).run Tryd.prog w = .ok (.bool false) w := fun w => by kernel_rfl
  have HU := hide h
  have HG := hide hG
  have HL := hide hl
  have CL := hide (cloneV2 (w := w.drew) (own_keep hs (fun k hk => rfl)) hn h1)
  clear h hG hl hs h1 hR0
  go_enter Tryd.func88, Tryd.ntmps88
  go_upto_region 3 with fail
  have HD := hide (HU.out.bel (w' := w.drew) (below_drewN (Below.refl _ _) 1))
  have BD : Hid (Below w.heap.size w w.drew) := hide (below_drewN (Below.refl _ _) 1)
  have G0 := hide HD.out.at_
  clear c2
  refine wp_region_any mixed ?_
  change wpAny _ _ _ _ _ _ _ (World.drew _)
  generalize World.drew _ = W0 at *
  refine wpAny_take (i := 0) (v := ?_) rfl (by kernel_rfl) (by kernel_rfl) (by kernel_rfl) (fun _ _ _ h => h) (Or.inl ⟨by rfl, fun w => ?_⟩) ?_
  rotate_left 1
  · (go_simp <;> with_reducible rfl)
  simp only [Act.put, List.getElem_toArray, List.getElem_cons_zero, List.setIfInBounds_toArray, List.set_cons_zero, List.set_cons_succ]
  refine wpAny_take (i := 1) (v := ?_) rfl (by kernel_rfl) (by kernel_rfl) (by kernel_rfl) (fun _ _ _ h => h) (Or.inl ⟨by rfl, fun w => ?_⟩) ?_
  rotate_left 1
  · (go_simp <;> with_reducible rfl)
  simp only [Act.put, List.getElem_toArray, List.getElem_cons_zero, List.getElem_cons_succ, List.setIfInBounds_toArray, List.set_cons_zero, List.set_cons_succ]
  refine wpAny_take (i := 2) (v := ?_) rfl (by kernel_rfl) (by kernel_rfl) (by kernel_rfl) (fun _ _ _ h => h) (Or.inl ⟨by rfl, fun w => ?_⟩) ?_
  rotate_left 1
  · (go_simp <;> with_reducible rfl)
  simp only [Act.put, List.getElem_toArray, List.getElem_cons_zero, List.getElem_cons_succ, List.setIfInBounds_toArray, List.set_cons_zero, List.set_cons_succ]
  refine wpAny_take (i := 4) (v := ?_) rfl (by kernel_rfl) (by kernel_rfl) (by kernel_rfl) (fun _ _ _ h => h) (Or.inl ⟨by rfl, fun w => ?_⟩) ?_
  rotate_left 1
  · (go_simp <;> with_reducible rfl)
  simp only [Act.put, List.getElem_toArray, List.getElem_cons_zero, List.getElem_cons_succ, List.setIfInBounds_toArray, List.set_cons_zero, List.set_cons_succ]
  refine wpAny_take (i := 5) (v := ?_) rfl (by kernel_rfl) (by kernel_rfl) (by kernel_rfl) (fun _ _ _ h => h) (Or.inl ⟨by rfl, fun w => ?_⟩) ?_
  rotate_left 1
  · (go_simp <;> with_reducible rfl)
  simp only [Act.put, List.getElem_toArray, List.getElem_cons_zero, List.getElem_cons_succ, List.setIfInBounds_toArray, List.set_cons_zero, List.set_cons_succ]
  refine wpAny_ready (rs := [3, 6]) (by kernel_rfl) (by decide) ?_
  refine AllReady.cons rfl (fun K1 hK1 => ?_) (AllReady.cons rfl (fun K1 hK1 => ?_) AllReady.nil)
  · have q := (show W0.cell? ⟨g, 2, none⟩ = some (.func (.func 93) #[] #[.pointer (some ⟨cB, 0, none⟩)]) from blk_cell G0.out 2 _ rfl)
    go_simp
    refine hK1 _ _ ?_
    clear hK1 K1 q
    refine wpAny_ready (rs := [6]) (by kernel_rfl) (by decide) ?_
    refine AllReady.cons rfl (fun K1 hK1 => ?_) AllReady.nil
    go_simp
    refine CL.out.mono ?_
    rintro e w3 ⟨a3, c3, rfl, o3, b3⟩
    refine hK1 _ _ ?_
    clear hK1 K1
    have G3 := hide ((b3.block g (lt_of_blk G0.out)).trans G0.out)
    have U3 := hide (HD.out.bel b3)
    have B3 := hide (bel_trans BD.out b3)
    clear o3 b3
    refine wpAny_ready (rs := [7]) (by kernel_rfl) (by decide) ?_
    refine AllReady.cons rfl (fun K1 hK1 => ?_) AllReady.nil
    go_simp
    refine (begin_any U3.out.bg U3.out.rb fn _).mono ?_
    rw [HL.out]
    rintro e w4 ⟨b4, rfl⟩
    refine hK1 _ _ ?_
    clear hK1 K1
    have B4 := hide (bel_trans B3.out b4)
    have U4 := hide (U3.out.bel b4)
    refine wpAny_take (i := 8) (v := ?_) rfl (by kernel_rfl) (by kernel_rfl) (by kernel_rfl) (fun _ _ _ h => h) (Or.inl ⟨by rfl, fun w => ?_⟩) ?_
    rotate_left 1
    · (go_simp <;> with_reducible rfl)
    simp only [Act.put, List.getElem_toArray, List.getElem_cons_zero, List.getElem_cons_succ, List.setIfInBounds_toArray, List.set_cons_zero, List.set_cons_succ]
    refine wpAny_done (by kernel_rfl) ?_ _
    go_wp2_with fail
    go_ret
    exact RnP.mk rfl (U4.out.rn.keep (fun _ _ => rfl) (Nat.le_refl _)) ((Ch.of_bel B4.out).wide (fun k hk => hk) (fun k hk => .inl ((HG.out k).2 hk)))
  · go_simp
    refine CL.out.mono ?_
    rintro e w3 ⟨a3, c3, rfl, o3, b3⟩
    refine hK1 _ _ ?_
    clear hK1 K1
    have G3 := hide ((b3.block g (lt_of_blk G0.out)).trans G0.out)
    have U3 := hide (HD.out.bel b3)
    have B3 := hide (bel_trans BD.out b3)
    clear o3 b3
    refine wpAny_ready (rs := [3]) (by kernel_rfl) (by decide) ?_
    refine AllReady.cons rfl (fun K1 hK1 => ?_) AllReady.nil
    have q := (show w3.cell? ⟨g, 2, none⟩ = some (.func (.func 93) #[] #[.pointer (some ⟨cB, 0, none⟩)]) from blk_cell G3.out 2 _ rfl)
    go_simp
    refine hK1 _ _ ?_
    clear hK1 K1 q
    refine wpAny_ready (rs := [7]) (by kernel_rfl) (by decide) ?_
    refine AllReady.cons rfl (fun K1 hK1 => ?_) AllReady.nil
    go_simp
    refine (begin_any U3.out.bg U3.out.rb fn _).mono ?_
    rw [HL.out]
    rintro e w4 ⟨b4, rfl⟩
    refine hK1 _ _ ?_
    clear hK1 K1
    have B4 := hide (bel_trans B3.out b4)
    have U4 := hide (U3.out.bel b4)
    refine wpAny_take (i := 8) (v := ?_) rfl (by kernel_rfl) (by kernel_rfl) (by kernel_rfl) (fun _ _ _ h => h) (Or.inl ⟨by rfl, fun w => ?_⟩) ?_
    rotate_left 1
    · (go_simp <;> with_reducible rfl)
    simp only [Act.put, List.getElem_toArray, List.getElem_cons_zero, List.getElem_cons_succ, List.setIfInBounds_toArray, List.set_cons_zero, List.set_cons_succ]
    refine wpAny_done (by kernel_rfl) ?_ _
    go_wp2_with fail
    go_ret
    exact RnP.mk rfl (U4.out.rn.keep (fun _ _ => rfl) (Nat.le_refl _)) ((Ch.of_bel B4.out).wide (fun k hk => hk) (fun k hk => .inl ((HG.out k).2 hk)))
set_option maxRecDepth 20000 in
set_option maxHeartbeats 800000 in
theorem enter_some {w : World} {G : Nat → Prop} {g : Nat} {S : List (List Wt)} {r : Rm} (h : Rn w G g S r) (fn : Int) {va : Value} {R0 : Nat → Prop} (hA : Args w R0 va) (l : List Wt) (hl : lk S fn = some l) (h8 : r.gs.length + 1 ≤ 8) : Calls Tryd.prog 88 #[.pointer (some ⟨g, 0, none⟩), .int .i64 fn, va] w (RnP w G g S { r with gs := r.gs ++ [⟨l, zW⟩] } (.bool true)) := by
  obtain ⟨Fs, Fo, R, gs, vC, vB, vG, vE, ps, ts, h, hG⟩ := h
  obtain ⟨cB, vS, vs, eB, _⟩ := id h.bg
  subst eB
  obtain ⟨n, xs, hn, hs, h1, hR0⟩ := hA
  obtain ⟨aa, ca, ea, _⟩ := own_slice hs
  subst ea
  have c2 := h.cells.1.2.2.1
  have hgl := h.fb g h.fg
  have hE : ∀ w, (binOp .eql 130 (.func (.func 93) #[] #[.pointer (some ⟨cB, 0, none⟩)]) .nilFunc).run Tryd.prog w = .ok (.bool false) w := fun w => by kernel_rfl
  have HU := hide h
  have HG := hide hG
  have HL := hide hl
  have CL := hide (cloneV2 (w := w.drew) (own_keep hs (fun k hk => rfl)) hn h1)
  clear h hG hl hs h1 hR0
  go_enter Tryd.func88, Tryd.ntmps88
  go_upto_region 3 with fail
  have HD := hide (HU.out.bel (w' := w.drew) (below_drewN (Below.refl _ _) 1))
  have BD : Hid (Below w.heap.size w w.drew) := hide (below_drewN (Below.refl _ _) 1)
  have G0 := hide HD.out.at_
  clear c2
  refine wp_region_any mixed ?_
  change wpAny _ _ _ _ _ _ _ (World.drew _)
  generalize World.drew _ = W0 at *
  refine wpAny_take (i := 0) (v := ?_) rfl (by kernel_rfl) (by kernel_rfl) (by kernel_rfl) (fun _ _ _ h => h) (Or.inl ⟨by rfl, fun w => ?_⟩) ?_
  rotate_left 1
  · (go_simp <;> with_reducible rfl)
  simp only [Act.put, List.getElem_toArray, List.getElem_cons_zero, List.setIfInBounds_toArray, List.set_cons_zero, List.set_cons_succ]
  refine wpAny_take (i := 1) (v := ?_) rfl (by kernel_rfl) (by kernel_rfl) (by kernel_rfl) (fun _ _ _ h => h) (Or.inl ⟨by rfl, fun w => ?_⟩) ?_
  rotate_left 1
  · (go_simp <;> with_reducible rfl)
  simp only [Act.put, List.getElem_toArray, List.getElem_cons_zero, List.getElem_cons_succ, List.setIfInBounds_toArray, List.set_cons_zero, List.set_cons_succ]
  refine wpAny_take (i := 2) (v := ?_) rfl (by kernel_rfl) (by kernel_rfl) (by kernel_rfl) (fun _ _ _ h => h) (Or.inl ⟨by rfl, fun w => ?_⟩) ?_
  rotate_left 1
  · (go_simp <;> with_reducible rfl)
  simp only [Act.put, List.getElem_toArray, List.getElem_cons_zero, List.getElem_cons_succ, List.setIfInBounds_toArray, List.set_cons_zero, List.set_cons_succ]
  refine wpAny_take (i := 4) (v := ?_) rfl (by kernel_rfl) (by kernel_rfl) (by kernel_rfl) (fun _ _ _ h => h) (Or.inl ⟨by rfl, fun w => ?_⟩) ?_
  rotate_left 1
  · (go_simp <;> with_reducible rfl)
  simp only [Act.put, List.getElem_toArray, List.getElem_cons_zero, List.getElem_cons_succ, List.setIfInBounds_toArray, List.set_cons_zero, List.set_cons_succ]
  refine wpAny_take (i := 5) (v := ?_) rfl (by kernel_rfl) (by kernel_rfl) (by kernel_rfl) (fun _ _ _ h => h) (Or.inl ⟨by rfl, fun w => ?_⟩) ?_
  rotate_left 1
  · (go_simp <;> with_reducible rfl)
  simp only [Act.put, List.getElem_toArray, List.getElem_cons_zero, List.getElem_cons_succ, List.setIfInBounds_toArray, List.set_cons_zero, List.set_cons_succ]
  refine wpAny_ready (rs := [3, 6]) (by kernel_rfl) (by decide) ?_
  refine AllReady.cons rfl (fun K1 hK1 => ?_) (AllReady.cons rfl (fun K1 hK1 => ?_) AllReady.nil)
  · have q := (show W0.cell? ⟨g, 2, none⟩ = some (.func (.func 93) #[] #[.pointer (some ⟨cB, 0, none⟩)]) from blk_cell G0.out 2 _ rfl)
    go_simp
    refine hK1 _ _ ?_
    clear hK1 K1 q
    refine wpAny_ready (rs := [6]) (by kernel_rfl) (by decide) ?_
    refine AllReady.cons rfl (fun K1 hK1 => ?_) AllReady.nil
    go_simp
    refine CL.out.mono ?_
    rintro e w3 ⟨a3, c3, rfl, o3, b3⟩
    refine hK1 _ _ ?_
    clear hK1 K1
    have G3 := hide ((b3.block g (lt_of_blk G0.out)).trans G0.out)
    have U3 := hide (HD.out.bel b3)
    have B3 := hide (bel_trans BD.out b3)
    clear o3 b3
    refine wpAny_ready (rs := [7]) (by kernel_rfl) (by decide) ?_
    refine AllReady.cons rfl (fun K1 hK1 => ?_) AllReady.nil
    go_simp
    refine (begin_any U3.out.bg U3.out.rb fn _).mono ?_
    rw [HL.out]
    rintro e w4 ⟨b4, t, vw, rfl, t4, h4, r4⟩
    refine hK1 _ _ ?_
    clear hK1 K1
    have B4 := hide (bel_trans B3.out b4)
    have U4 := hide (U3.out.bel b4)
    have T4 := hide (And.intro h4 (And.intro r4 (Nat.le_trans B3.out.size t4)))
    clear h4 r4 t4
    refine wpAny_take (i := 8) (v := ?_) rfl (by kernel_rfl) (by kernel_rfl) (by kernel_rfl) (fun _ _ _ h => h) (Or.inl ⟨by rfl, fun w => ?_⟩) ?_
    rotate_left 1
    · (go_simp <;> with_reducible rfl)
    simp only [Act.put, List.getElem_toArray, List.getElem_cons_zero, List.getElem_cons_succ, List.setIfInBounds_toArray, List.set_cons_zero, List.set_cons_succ]
    refine wpAny_done (by kernel_rfl) ?_ _
    have BG := hide (bel_trans B4.out (bel_new w4 (.cells #[.iface 177 (.pointer (some ⟨t, 0, none⟩)), .int .i64 0, .int .i64 0, .int .i64 0, .int .i64 0, .int .i64 0, .int .u64 0, .slice none 0 0] 193)))
    have GO : Hid (Gor (w4.alloc (.cells #[.iface 177 (.pointer (some ⟨t, 0, none⟩)), .int .i64 0, .int .i64 0, .int .i64 0, .int .i64 0, .int .i64 0, .int .u64 0, .slice none 0 0] 193)) R w4.heap.size t ⟨l, zW⟩) := hide ⟨_, _, Go.Deep.blk_alloc_new w4 _, Args.nilS, ((bel_new w4 _).block t (lt_of_blk T4.out.1)).trans T4.out.1, T4.out.2.1.keep (fun k hk => (bel_new w4 _).block k (U4.out.rb k hk)) fun _ h => h⟩
    obtain ⟨aG, cG, eG, _⟩ := own_slice U4.out.go
    obtain ⟨nG, hnG⟩ : ∃ nG, nG = r.gs.length := ⟨_, rfl⟩
    rw [← hnG] at eG
    subst eG
    have PU := hide (fun ty => push_g (w := w4.alloc (.cells #[.iface 177 (.pointer (some ⟨t, 0, none⟩)), .int .i64 0, .int .i64 0, .int .i64 0, .int .i64 0, .int .i64 0, .int .u64 0, .slice none 0 0] 193)) (n := nG) (by rw [hnG]; exact U4.out.pl.symm) (by rw [hnG]; exact own_keep U4.out.go (fun k hk => (bel_new w4 _).block k (own_type U4.out.go hk).2.1)) (by have := U4.out.pl; omega) w4.heap.size ty)
    have hs5 : (w4.alloc (.cells #[.iface 177 (.pointer (some ⟨t, 0, none⟩)), .int .i64 0, .int .i64 0, .int .i64 0, .int .i64 0, .int .i64 0, .int .u64 0, .slice none 0 0] 193)).heap.size = w4.heap.size + 1 := by simp
    rw [hs5] at PU
    have BO := hide (fun v' w2 ho hg hb => HU.out.born (W := w4.alloc (.cells #[.iface 177 (.pointer (some ⟨t, 0, none⟩)), .int .i64 0, .int .i64 0, .int .i64 0, .int .i64 0, .int .i64 0, .int .u64 0, .slice none 0 0] 193)) (w2 := w2) (v' := v') (b := w4.heap.size) (t := t) (x := ⟨l, zW⟩) BG.out h8 GO.out B4.out.size T4.out.2.2 ho hg hb)
    rw [hs5] at BO
    clear hs5
    have g3 : w4.cell? ⟨g, 3, none⟩ = some (.slice aG nG cG) := blk_cell U4.out.at_ 3 _ rfl
    have f3 := blk_frz U4.out.at_ 3
    have hg4 := lt_of_blk U4.out.at_
    have U5 := hide (U4.out.bel (bel_new w4 (.cells #[.iface 177 (.pointer (some ⟨t, 0, none⟩)), .int .i64 0, .int .i64 0, .int .i64 0, .int .i64 0, .int .i64 0, .int .u64 0, .slice none 0 0] 193)))
    have HX := hide (fun (w2 : World) hg => go_keep U5.out (w2 := w2) hg)
    have HN := hide hnG
    have hn8 : nG ≤ 8 := by omega
    clear U4 U5 B4 BG GO T4 HU hnG U3 G3 B3 HD BD G0 CL hE
    go_wp2_with (first | (at_builtin; refine wpList_appW (TS := 148) rfl (.tmp 27) (.tmp 31) rfl _ _ rfl rfl _ (PU.out _) ?_; rintro v9 w9 ⟨⟨a9, l9, c9, rfl⟩, o9, g9, b9⟩; obtain ⟨y3, yf⟩ := HX.out w9 g9; have Z9 := hide (BO.out _ _ (by rw [← HN.out]; exact o9) g9 b9); clear o9 g9 b9))
    go_ret
    have HE := ru_wide HG.out Z9.out.1 Z9.out.2
    exact RnP.mk rfl HE.1 HE.2
  · go_simp
    refine CL.out.mono ?_
    rintro e w3 ⟨a3, c3, rfl, o3, b3⟩
    refine hK1 _ _ ?_
    clear hK1 K1
    have G3 := hide ((b3.block g (lt_of_blk G0.out)).trans G0.out)
    have U3 := hide (HD.out.bel b3)
    have B3 := hide (bel_trans BD.out b3)
    clear o3 b3
    refine wpAny_ready (rs := [3]) (by kernel_rfl) (by decide) ?_
    refine AllReady.cons rfl (fun K1 hK1 => ?_) AllReady.nil
    have q := (show w3.cell? ⟨g, 2, none⟩ = some (.func (.func 93) #[] #[.pointer (some ⟨cB, 0, none⟩)]) from blk_cell G3.out 2 _ rfl)
    go_simp
    refine hK1 _ _ ?_
    clear hK1 K1 q
    refine wpAny_ready (rs := [7]) (by kernel_rfl) (by decide) ?_
    refine AllReady.cons rfl (fun K1 hK1 => ?_) AllReady.nil
    go_simp
    refine (begin_any U3.out.bg U3.out.rb fn _).mono ?_
    rw [HL.out]
    rintro e w4 ⟨b4, t, vw, rfl, t4, h4, r4⟩
    refine hK1 _ _ ?_
    clear hK1 K1
    have B4 := hide (bel_trans B3.out b4)
    have U4 := hide (U3.out.bel b4)
    have T4 := hide (And.intro h4 (And.intro r4 (Nat.le_trans B3.out.size t4)))
    clear h4 r4 t4
    refine wpAny_take (i := 8) (v := ?_) rfl (by kernel_rfl) (by kernel_rfl) (by kernel_rfl) (fun _ _ _ h => h) (Or.inl ⟨by rfl, fun w => ?_⟩) ?_
    rotate_left 1
    · (go_simp <;> with_reducible rfl)
    simp only [Act.put, List.getElem_toArray, List.getElem_cons_zero, List.getElem_cons_succ, List.setIfInBounds_toArray, List.set_cons_zero, List.set_cons_succ]
    refine wpAny_done (by kernel_rfl) ?_ _
    have BG := hide (bel_trans B4.out (bel_new w4 (.cells #[.iface 177 (.pointer (some ⟨t, 0, none⟩)), .int .i64 0, .int .i64 0, .int .i64 0, .int .i64 0, .int .i64 0, .int .u64 0, .slice none 0 0] 193)))
    have GO : Hid (Gor (w4.alloc (.cells #[.iface 177 (.pointer (some ⟨t, 0, none⟩)), .int .i64 0, .int .i64 0, .int .i64 0, .int .i64 0, .int .i64 0, .int .u64 0, .slice none 0 0] 193)) R w4.heap.size t ⟨l, zW⟩) := hide ⟨_, _, Go.Deep.blk_alloc_new w4 _, Args.nilS, ((bel_new w4 _).block t (lt_of_blk T4.out.1)).trans T4.out.1, T4.out.2.1.keep (fun k hk => (bel_new w4 _).block k (U4.out.rb k hk)) fun _ h => h⟩
    obtain ⟨aG, cG, eG, _⟩ := own_slice U4.out.go
    obtain ⟨nG, hnG⟩ : ∃ nG, nG = r.gs.length := ⟨_, rfl⟩
    rw [← hnG] at eG
    subst eG
    have PU := hide (fun ty => push_g (w := w4.alloc (.cells #[.iface 177 (.pointer (some ⟨t, 0, none⟩)), .int .i64 0, .int .i64 0, .int .i64 0, .int .i64 0, .int .i64 0, .int .u64 0, .slice none 0 0] 193)) (n := nG) (by rw [hnG]; exact U4.out.pl.symm) (by rw [hnG]; exact own_keep U4.out.go (fun k hk => (bel_new w4 _).block k (own_type U4.out.go hk).2.1)) (by have := U4.out.pl; omega) w4.heap.size ty)
    have hs5 : (w4.alloc (.cells #[.iface 177 (.pointer (some ⟨t, 0, none⟩)), .int .i64 0, .int .i64 0, .int .i64 0, .int .i64 0, .int .i64 0, .int .u64 0, .slice none 0 0] 193)).heap.size = w4.heap.size + 1 := by simp
    rw [hs5] at PU
    have BO := hide (fun v' w2 ho hg hb => HU.out.born (W := w4.alloc (.cells #[.iface 177 (.pointer (some ⟨t, 0, none⟩)), .int .i64 0, .int .i64 0, .int .i64 0, .int .i64 0, .int .i64 0, .int .u64 0, .slice none 0 0] 193)) (w2 := w2) (v' := v') (b := w4.heap.size) (t := t) (x := ⟨l, zW⟩) BG.out h8 GO.out B4.out.size T4.out.2.2 ho hg hb)
    rw [hs5] at BO
    clear hs5
    have g3 : w4.cell? ⟨g, 3, none⟩ = some (.slice aG nG cG) := blk_cell U4.out.at_ 3 _ rfl
    have f3 := blk_frz U4.out.at_ 3
    have hg4 := lt_of_blk U4.out.at_
    have U5 := hide (U4.out.bel (bel_new w4 (.cells #[.iface 177 (.pointer (some ⟨t, 0, none⟩)), .int .i64 0, .int .i64 0, .int .i64 0, .int .i64 0, .int .i64 0, .int .u64 0, .slice none 0 0] 193)))
    have HX := hide (fun (w2 : World) hg => go_keep U5.out (w2 := w2) hg)
    have HN := hide hnG
    have hn8 : nG ≤ 8 := by omega
    clear U4 U5 B4 BG GO T4 HU hnG U3 G3 B3 HD BD G0 CL hE
    go_wp2_with (first | (at_builtin; refine wpList_appW (TS := 148) rfl (.tmp 27) (.tmp 31) rfl _ _ rfl rfl _ (PU.out _) ?_; rintro v9 w9 ⟨⟨a9, l9, c9, rfl⟩, o9, g9, b9⟩; obtain ⟨y3, yf⟩ := HX.out w9 g9; have Z9 := hide (BO.out _ _ (by rw [← HN.out]; exact o9) g9 b9); clear o9 g9 b9))
    go_ret
    have HE := ru_wide HG.out Z9.out.1 Z9.out.2
    exact RnP.mk rfl HE.1 HE.2
end Go.Proofs.YtbiilnpblnjliaaDoor.Ck

/- Package act: a goroutine is asked (what is kept). (Written by mk_a.py.) -/
namespace Go.Proofs.YtbiilnpblnjliaaDoor.Ck
open Go.RowKit

/-- some blocks are as they were -/
def SameB (ks : List Nat) (W w' : World) : Prop := W.heap.size ≤ w'.heap.size ∧ (∀ k ∈ ks, k < W.heap.size) ∧ ∀ k ∈ ks, w'.heap[k]? = W.heap[k]?
section
variable {ks : List Nat} {W w' w'' : World}
theorem SameB.refl (h : ∀ k ∈ ks, k < W.heap.size) : SameB ks W W := ⟨Nat.le_refl _, h, fun _ _ => rfl⟩
theorem SameB.al (h : SameB ks W w') (hb : Below w'.heap.size w' w'') : SameB ks W w'' := ⟨Nat.le_trans h.1 hb.size, h.2.1, fun k hk => (hb.block k (Nat.lt_of_lt_of_le (h.2.1 k hk) h.1)).trans (h.2.2 k hk)⟩
theorem SameB.turn (h : SameB ks W w') (hs : w'.heap.size ≤ w''.heap.size) {t : Nat} (hb : ∀ k, k < w'.heap.size → k ≠ t → w''.heap[k]? = w'.heap[k]?) (ht : t ∉ ks) : SameB ks W w'' :=
  ⟨Nat.le_trans h.1 hs, h.2.1, fun k hk => (hb k (Nat.lt_of_lt_of_le (h.2.1 k hk) h.1) (fun e => ht (e ▸ hk))).trans (h.2.2 k hk)⟩
theorem SameB.cell (h : SameB ks W w') {k j : Nat} {u : Value} (hk : k ∈ ks) (hc : W.cell? ⟨k, j, none⟩ = some u) : w'.cell? ⟨k, j, none⟩ = some u := cell_keep (h.2.2 k hk) hc
end
theorem ru_same {w w' : World} {Fs Fo R : Nat → Prop} {g gs : Nat} {S : List (List Wt)} {r : Rm} {vC vB vG vE : Value} {ps ts : List Nat} (h : Ru w Fs Fo R g gs S r vC vB vG vE ps ts) {N : Nat} (hN : w.heap.size ≤ N) (hb : Below N w w') : Ru w' Fs Fo R g gs S r vC vB vG vE ps ts := h.keep (fun k hk => hb.block k (Nat.lt_of_lt_of_le (h.lt hk) hN)) hb.size
/-- what stands behind the call of Next -/
structure AskQ (w W : World) (G G' : Nat → Prop) (g : Nat) (S : List (List Wt)) (r' : Rm) (va : Value) : Prop where
  rn : Rn W G' g S r'
  ch : Ch G G' w W
  ar : ArgN 0 W va
section
variable {w W W' : World} {G G' : Nat → Prop} {g : Nat} {S : List (List Wt)} {r' : Rm} {va : Value}
theorem AskQ.al (h : AskQ w W G G' g S r' va) (hb : Below W.heap.size W W') : AskQ w W' G G' g S r' va := ⟨h.rn.bel hb, h.ch.trans (Ch.of_bel hb), h.ar.al hb⟩
theorem AskQ.set (h : AskQ w W G G' g S r' va) {b : Nat} {c : Array Value} {T : TypeId} (hbk : W.heap[b]? = some (.cells c T (0, 0))) (hT : 41 ≠ T) (hn : ¬ G' b) (hs : W.heap.size = W'.heap.size) (hb : Below w.heap.size W W') (ho : ∀ k, k ≠ b → W'.heap[k]? = W.heap[k]?) : AskQ w W' G G' g S r' va :=
  ⟨h.rn.keep (fun k hk => ho k (fun e => hn (e ▸ hk))) (Nat.le_of_eq hs), h.ch.below hb, h.ar.keep fun k _ _ hk => ho k (fun e => by
    obtain ⟨a, n, c', xs, e', h1, h2, h3⟩ := h.ar
    exact own_at h2 hbk hT (by rw [hk, e]))⟩
end
def AskP (w : World) (G : Nat → Prop) (g : Nat) (S : List (List Wt)) (r' : Rm) (y : Wt) (f n c : Int) (x7 x8 : Value) (wc : World) : Prop := ∃ bw bh aa na ca G', x7 = .pointer (some ⟨bw, 0, none⟩) ∧ x8 = .pointer (some ⟨bh, 0, none⟩) ∧ Hid (AskQ w wc G G' g S r' (.slice aa na ca) ∧ Wv wc bw y.k y.o y.a y.v (.slice aa na ca) ∧ wc.heap[bh]? = some (.cells #[.int .i64 f, .int .i64 n, .int .i64 c] 173 (0, 0)) ∧ ¬ G' bw)
end Go.Proofs.YtbiilnpblnjliaaDoor.Ck
