/- Package sync: Copy. (Written by mk_y.py.) -/
import Derived.Test.YtghfjnnmpmfboaaDoorXa
namespace Go.Proofs.YtghfjnnmpmfboaaDoor.Ck
open Go.RowKit

theorem own_len {w : World} {B : Nat} {T : TypeId} {n : Nat} {v : Value} {len len' : Nat} {xs : List Value} (h : w.ownsRow B T n v len xs) (e : len = len') : w.ownsRow B T n v len' xs := by
  subst e
  exact h
theorem bls_one (l : List Bool) : ∀ u ∈ bls l, u.oneCell' = true := fun u hu => by unfold bls at hu; obtain ⟨x, _, rfl⟩ := List.mem_map.1 hu; rfl
theorem nts_one (l : List Int) : ∀ u ∈ nts l, u.oneCell' = true := fun u hu => by unfold nts at hu; obtain ⟨x, _, rfl⟩ := List.mem_map.1 hu; rfl
theorem sv_begin {W w : World} {gs : Nat} {s : St} {vP vM vA : Value} (hsm : s.P.length ≤ 128 ∧ s.M.length ≤ 32 ∧ s.A.length ≤ 32) (oP : W.ownsRow w.heap.size 41 3 vP s.P.length (vcs s.P)) (oM : W.ownsRow w.heap.size 4 1 vM s.M.length (bls s.M)) (oA : W.ownsRow w.heap.size 3 1 vA s.A.length (nts s.A))
    (hg : W.heap[gs]? = some (.cells #[vP, vM, .slice none 0 0, vA] 96 (0, 0))) (hgs : w.heap.size ≤ gs) (hB : Below w.heap.size w W) : Mk w W gs { s with C := [] } := by
  refine ⟨fun k => k = gs ∨ vP.ownBlock = some k ∨ vM.ownBlock = some k ∨ vA.ownBlock = some k, ⟨_, _, _, _, [], { at_ := hg, pl := own_zero oP, mu := own_zero oM, ch := own_nil _ _ _, ato := own_zero oA, len := rfl, q := fun i q v h _ => (by simp at h), ne := fun i j v v' k _ h _ => (by simp at h), fg := .inl rfl, fP := fun k h => .inr (.inl h), fM := fun k h => .inr (.inr (.inl h)), fC := fun k h => (by cases h), fA := fun k h => .inr (.inr (.inr h)), fb := fun k h => ?_, small := (by simp; omega), rooms := fun q h => (by cases h) }⟩, fun k h => ?_, hB⟩
  · rcases h with rfl | h | h | h
    · exact lt_of_blk hg
    · exact (own_type oP h).2.1
    · exact (own_type oM h).2.1
    · exact (own_type oA h).2.1
  · rcases h with rfl | h | h | h
    · exact hgs
    · exact (own_type oP h).1
    · exact (own_type oM h).1
    · exact (own_type oA h).1
def Sy (w : World) (g : Nat) (vP vM vA : Value) : Prop := (w.cell? ⟨g, 0, none⟩ = some vP ∧ w.cell? ⟨g, 1, none⟩ = some vM ∧ w.cell? ⟨g, 3, none⟩ = some vA) ∧ g < w.heap.size
theorem Sy.al {w w' : World} {g : Nat} {vP vM vA : Value} (h : Sy w g vP vM vA) (hb : Below w.heap.size w w') : Sy w' g vP vM vA := ⟨⟨(hb.cell (p := ⟨g, 0, none⟩) h.2).trans h.1.1, (hb.cell (p := ⟨g, 1, none⟩) h.2).trans h.1.2.1, (hb.cell (p := ⟨g, 3, none⟩) h.2).trans h.1.2.2⟩, Nat.lt_of_lt_of_le h.2 hb.size⟩
set_option maxRecDepth 20000 in
set_option maxHeartbeats 2000000 in
theorem Copy_any {w : World} {F : Nat → Prop} {g : Nat} {s : St} (h : Stt w F g s) : Calls Tryd.prog 11 #[.pointer (some ⟨g, 0, none⟩)] w fun e w' => ∃ gc, e = .returned (.pointer (some ⟨gc, 0, none⟩)) ∧ Mk w w' gc s := by
  obtain ⟨vP, vM, vC, vA, vs, h⟩ := h
  have hsm := h.small
  obtain ⟨aP, cP, eP, _⟩ := own_slice h.pl
  obtain ⟨aM, cM, eM, _⟩ := own_slice h.mu
  obtain ⟨aC, cC, eC, hcC, _⟩ := own_slice h.ch
  obtain ⟨aA, cA, eA, _⟩ := own_slice h.ato
  obtain ⟨nP, hnP⟩ : ∃ n, n = s.P.length := ⟨_, rfl⟩
  obtain ⟨nM, hnM⟩ : ∃ n, n = s.M.length := ⟨_, rfl⟩
  obtain ⟨nC, hnC⟩ : ∃ n, n = s.C.length := ⟨_, rfl⟩
  obtain ⟨nA, hnA⟩ : ∃ n, n = s.A.length := ⟨_, rfl⟩
  have OP := hide h.pl
  have OM := hide h.mu
  have OA := hide h.ato
  rw [← hnP] at eP OP
  rw [← hnM] at eM OM
  rw [← hnC] at eC hcC
  rw [← hnA] at eA OA
  subst eP eM eC eA
  have hgl := h.fb g h.fg
  have h0 := hide (show Sy w g (.slice aP nP cP) (.slice aM nM cM) (.slice aA nA cA) from ⟨⟨h.cells.1, h.cells.2.1, h.cells.2.2.2⟩, hgl⟩)
  have HC2 := hide h.cells.2.2.1
  have H := hide h
  have HSM : Hid (s.P.length ≤ 128 ∧ s.M.length ≤ 32 ∧ s.A.length ≤ 32) := hide (by omega)
  have HNS := hide (And.intro hnP (And.intro hnM hnA))
  have hnP1 : nP ≤ 128 := by omega
  have hnM1 : nM ≤ 32 := by omega
  have hnA1 : nA ≤ 32 := by omega
  have hnC1 : nC ≤ 32 := by omega
  have HNC := hide hnC
  clear h hsm hnP hnM hnC hnA
  go_enter Tryd.func11, Tryd.ntmps11
  go_wp2_with fail
  go_cut [3] from 6 to 22 (fun x wc => ∃ gc, x = .pointer (some ⟨gc, 0, none⟩) ∧ Hid (Mk w wc gc { s with C := [] }))
  case first =>
    refine wp_region_held_drew (S := fun w' => Sy w' g (.slice aP nP cP) (.slice aM nM cM) (.slice aA nA cA)) mixed (h0.out.al (bel_drawn (Below.refl _ _))) (fun hH => ?_)
    have BW := hide (bel_drawn (Below.refl w.heap.size w))
    generalize w.drew = w1 at *
    refine wpAnyH_take (i := 0) (v := ?_) rfl (by kernel_rfl) (by kernel_rfl) (by kernel_rfl) (fun _ _ _ h => h) (Or.inl ⟨by rfl, ?_⟩) hH ?_
    rotate_left 1
    · (intro w hSw; skip; clear hSw; go_simp <;> with_reducible rfl)
    simp only [Act.put, List.getElem_toArray, List.getElem_cons_zero, List.setIfInBounds_toArray, List.set_cons_zero, List.set_cons_succ]
    refine wpAnyH_take (i := 1) (v := ?_) rfl (by kernel_rfl) (by kernel_rfl) (by kernel_rfl) (fun _ _ _ h => h) (Or.inl ⟨by rfl, ?_⟩) hH ?_
    rotate_left 1
    · (intro w hSw; skip; clear hSw; go_simp <;> with_reducible rfl)
    simp only [Act.put, List.getElem_toArray, List.getElem_cons_zero, List.getElem_cons_succ, List.setIfInBounds_toArray, List.set_cons_zero, List.set_cons_succ]
    refine wpAnyH_take (i := 2) (v := ?_) rfl (by kernel_rfl) (by kernel_rfl) (by kernel_rfl) (fun _ _ _ h => h) (Or.inl ⟨by rfl, ?_⟩) hH ?_
    rotate_left 1
    · (intro w hSw; skip; clear hSw; go_simp <;> with_reducible rfl)
    simp only [Act.put, List.getElem_toArray, List.getElem_cons_zero, List.getElem_cons_succ, List.setIfInBounds_toArray, List.set_cons_zero, List.set_cons_succ]
    refine wpAnyH_take (i := 3) (v := ?_) rfl (by kernel_rfl) (by kernel_rfl) (by kernel_rfl) (fun _ _ _ h => h) (Or.inl ⟨by rfl, ?_⟩) hH ?_
    rotate_left 1
    · (intro w hSw; have q := hSw.1; clear hSw; go_simp <;> with_reducible rfl)
    simp only [Act.put, List.getElem_toArray, List.getElem_cons_zero, List.getElem_cons_succ, List.setIfInBounds_toArray, List.set_cons_zero, List.set_cons_succ]
    refine wpAnyH_take (i := 5) (v := ?_) rfl (by kernel_rfl) (by kernel_rfl) (by kernel_rfl) (fun _ _ _ h => h) (Or.inl ⟨by rfl, ?_⟩) hH ?_
    rotate_left 1
    · (intro w hSw; skip; clear hSw; go_simp <;> with_reducible rfl)
    simp only [Act.put, List.getElem_toArray, List.getElem_cons_zero, List.getElem_cons_succ, List.setIfInBounds_toArray, List.set_cons_zero, List.set_cons_succ]
    refine wpAnyH_take (i := 6) (v := ?_) rfl (by kernel_rfl) (by kernel_rfl) (by kernel_rfl) (fun _ _ _ h => h) (Or.inl ⟨by rfl, ?_⟩) hH ?_
    rotate_left 1
    · (intro w hSw; skip; clear hSw; go_simp <;> with_reducible rfl)
    simp only [Act.put, List.getElem_toArray, List.getElem_cons_zero, List.getElem_cons_succ, List.setIfInBounds_toArray, List.set_cons_zero, List.set_cons_succ]
    refine wpAnyH_take (i := 7) (v := ?_) rfl (by kernel_rfl) (by kernel_rfl) (by kernel_rfl) (fun _ _ _ h => h) (Or.inl ⟨by rfl, ?_⟩) hH ?_
    rotate_left 1
    · (intro w hSw; skip; clear hSw; go_simp <;> with_reducible rfl)
    simp only [Act.put, List.getElem_toArray, List.getElem_cons_zero, List.getElem_cons_succ, List.setIfInBounds_toArray, List.set_cons_zero, List.set_cons_succ]
    refine wpAnyH_take (i := 8) (v := ?_) rfl (by kernel_rfl) (by kernel_rfl) (by kernel_rfl) (fun _ _ _ h => h) (Or.inl ⟨by rfl, ?_⟩) hH ?_
    rotate_left 1
    · (intro w hSw; have q := hSw.1; clear hSw; go_simp <;> with_reducible rfl)
    simp only [Act.put, List.getElem_toArray, List.getElem_cons_zero, List.getElem_cons_succ, List.setIfInBounds_toArray, List.set_cons_zero, List.set_cons_succ]
    refine wpAnyH_take (i := 10) (v := ?_) rfl (by kernel_rfl) (by kernel_rfl) (by kernel_rfl) (fun _ _ _ h => h) (Or.inl ⟨by rfl, ?_⟩) hH ?_
    rotate_left 1
    · (intro w hSw; skip; clear hSw; go_simp <;> with_reducible rfl)
    simp only [Act.put, List.getElem_toArray, List.getElem_cons_zero, List.getElem_cons_succ, List.setIfInBounds_toArray, List.set_cons_zero, List.set_cons_succ]
    refine wpAnyH_take (i := 11) (v := ?_) rfl (by kernel_rfl) (by kernel_rfl) (by kernel_rfl) (fun _ _ _ h => h) (Or.inl ⟨by rfl, ?_⟩) hH ?_
    rotate_left 1
    · (intro w hSw; skip; clear hSw; go_simp <;> with_reducible rfl)
    simp only [Act.put, List.getElem_toArray, List.getElem_cons_zero, List.getElem_cons_succ, List.setIfInBounds_toArray, List.set_cons_zero, List.set_cons_succ]
    refine wpAnyH_take (i := 12) (v := ?_) rfl (by kernel_rfl) (by kernel_rfl) (by kernel_rfl) (fun _ _ _ h => h) (Or.inl ⟨by rfl, ?_⟩) hH ?_
    rotate_left 1
    · (intro w hSw; skip; clear hSw; go_simp <;> with_reducible rfl)
    simp only [Act.put, List.getElem_toArray, List.getElem_cons_zero, List.getElem_cons_succ, List.setIfInBounds_toArray, List.set_cons_zero, List.set_cons_succ]
    refine wpAnyH_take (i := 13) (v := ?_) rfl (by kernel_rfl) (by kernel_rfl) (by kernel_rfl) (fun _ _ _ h => h) (Or.inl ⟨by rfl, ?_⟩) hH ?_
    rotate_left 1
    · (intro w hSw; have q := hSw.1; clear hSw; go_simp <;> with_reducible rfl)
    simp only [Act.put, List.getElem_toArray, List.getElem_cons_zero, List.getElem_cons_succ, List.setIfInBounds_toArray, List.set_cons_zero, List.set_cons_succ]
    refine wpAnyH_ready (rs := [4]) (by kernel_rfl) (by decide) ?_
    refine AllReadyH.cons rfl (fun K1 hK1 => ?_) AllReadyH.nil
    go_simp
    refine (cloneV (own_keep OP.out (fun k hk => BW.out.block k (own_type OP.out hk).2.1)) (by omega) (vcs_one _)).mono ?_
    rintro e d4 ⟨a4, c4, rfl, o4, b4⟩
    have N4 := hide (own_low o4 BW.out.size)
    replace BW := hide (bel_trans BW.out b4)
    refine hK1.out _ _ (hH.al b4) (fun hH => ?_)
    clear hK1 K1 o4 b4
    refine wpAnyH_ready (rs := [9]) (by kernel_rfl) (by decide) ?_
    refine AllReadyH.cons rfl (fun K1 hK1 => ?_) AllReadyH.nil
    go_simp
    refine (cloneB (own_keep OM.out (fun k hk => BW.out.block k (own_type OM.out hk).2.1)) (by omega) (bls_one _)).mono ?_
    rintro e d9 ⟨a9, c9, rfl, o9, b9⟩
    have N9 := hide (own_low o9 BW.out.size)
    replace BW := hide (bel_trans BW.out b9)
    replace N4 := hide (own_keep N4.out (fun k hk => b9.block k (own_type N4.out hk).2.1))
    refine hK1.out _ _ (hH.al b9) (fun hH => ?_)
    clear hK1 K1 o9 b9
    refine wpAnyH_ready (rs := [14]) (by kernel_rfl) (by decide) ?_
    refine AllReadyH.cons rfl (fun K1 hK1 => ?_) AllReadyH.nil
    go_simp
    refine (cloneI (own_keep OA.out (fun k hk => BW.out.block k (own_type OA.out hk).2.1)) (by omega) (nts_one _)).mono ?_
    rintro e d14 ⟨a14, c14, rfl, o14, b14⟩
    have N14 := hide (own_low o14 BW.out.size)
    replace BW := hide (bel_trans BW.out b14)
    replace N4 := hide (own_keep N4.out (fun k hk => b14.block k (own_type N4.out hk).2.1))
    replace N9 := hide (own_keep N9.out (fun k hk => b14.block k (own_type N9.out hk).2.1))
    refine hK1.out _ _ (hH.al b14) (fun hH => ?_)
    clear hK1 K1 o14 b14
    refine wpAnyH_take (i := 15) (v := ?_) rfl (by kernel_rfl) (by kernel_rfl) (by kernel_rfl) (fun _ _ _ h => h) (Or.inl ⟨by rfl, ?_⟩) hH ?_
    rotate_left 1
    · (intro w hSw; skip; clear hSw; go_simp <;> with_reducible rfl)
    simp only [Act.put, List.getElem_toArray, List.getElem_cons_zero, List.getElem_cons_succ, List.setIfInBounds_toArray, List.set_cons_zero, List.set_cons_succ]
    refine wpAnyH_ready (rs := [16]) (by kernel_rfl) (by decide) ?_
    refine AllReadyH.cons rfl (fun K1 hK1 => ?_) AllReadyH.nil
    go_simp
    have M9 := hide (sv_begin (s := s) (gs := d14.heap.size) HSM.out (own_keep (own_len N4.out HNS.out.1) (fun k hk => (bel_new d14 (.cells #[.slice a4 nP c4, .slice a9 nM c9, .slice none 0 0, .slice a14 nA c14] 96)).block k (own_type (own_len N4.out HNS.out.1) hk).2.1)) (own_keep (own_len N9.out HNS.out.2.1) (fun k hk => (bel_new d14 (.cells #[.slice a4 nP c4, .slice a9 nM c9, .slice none 0 0, .slice a14 nA c14] 96)).block k (own_type (own_len N9.out HNS.out.2.1) hk).2.1)) (own_keep (own_len N14.out HNS.out.2.2) (fun k hk => (bel_new d14 (.cells #[.slice a4 nP c4, .slice a9 nM c9, .slice none 0 0, .slice a14 nA c14] 96)).block k (own_type (own_len N14.out HNS.out.2.2) hk).2.1)) (Go.Deep.blk_alloc_new d14 (.cells #[.slice a4 nP c4, .slice a9 nM c9, .slice none 0 0, .slice a14 nA c14] 96)) BW.out.size (bel_al BW.out _))
    refine hK1.out _ _ (hH.al (bel_new _ _)) (fun hH => ?_)
    clear hK1 K1
    refine wpAnyH_take (i := 17) (v := ?_) rfl (by kernel_rfl) (by kernel_rfl) (by kernel_rfl) (fun _ _ _ h => h) (Or.inl ⟨by rfl, ?_⟩) hH ?_
    rotate_left 1
    · (intro w hSw; skip; clear hSw; go_simp <;> with_reducible rfl)
    simp only [Act.put, List.getElem_toArray, List.getElem_cons_zero, List.getElem_cons_succ, List.setIfInBounds_toArray, List.set_cons_zero, List.set_cons_succ]
    refine wpAnyH_done (by kernel_rfl) ?_ _
    clear hH
    go_wp2_with fail
    go_meet
    case rel => exact ⟨_, rfl, M9⟩
  case rest =>
    obtain ⟨gc, rfl, M0⟩ := hcut
    have q2 := (M0.out.below.cell (p := ⟨g, 2, none⟩) hgl).trans HC2.out
    have M1 : Hid (Mk w wc gc { s with C := s.C.take 0 }) := M0
    clear h0 M0 OP OM OA HC2
    go_wp2_with fail
    go_loopw [5, 28] (fun x i wr => ∃ k : Nat, k ≤ nC ∧ i = .int .i64 k ∧ Hid (Mk w wr gc { s with C := s.C.take k })) (fun x i _ => nC - (intOf i).toNat)
    case atStart => exact ⟨0, Nat.zero_le _, rfl, M1⟩
    case round =>
     obtain ⟨k, hk, rfl, M2⟩ := hrel
     clear M1
     by_cases hlt : k < nC
     · have hlt' : (k : Int) < (nC : Int) := by omega
       have hkC : k < s.C.length := by rw [← HNC.out]; exact hlt
       obtain ⟨q, hq⟩ : ∃ q, s.C[k]? = some q := ⟨_, List.getElem?_eq_getElem hkC⟩
       obtain ⟨vq, hv⟩ : ∃ v, vs[k]? = some v := ⟨_, List.getElem?_eq_getElem (by rw [H.out.len]; exact hkC)⟩
       obtain ⟨oq, _⟩ := H.out.q k q vq hq hv
       have hrm := H.out.rooms q (List.mem_of_getElem? hq)
       have HSN : Hid (s.C.take (k + 1) = s.C.take k ++ [q]) := hide (by rw [List.take_add_one, hq]; rfl)
       obtain ⟨qt, qr, ql⟩ := q
       obtain ⟨nl, hnl0⟩ : ∃ n, n = ql.length := ⟨_, rfl⟩
       simp only at oq hrm
       rw [← hnl0] at oq
       obtain ⟨aq, cq, eq, _⟩ := own_slice oq
       subst eq
       obtain ⟨bC, cC', eC, _⟩ := own_some H.out.ch (by omega)
       cases eC
       obtain ⟨q0, q1, q2⟩ := qcs_at _ _ _ _ _ hq hv
       rw [Nat.mul_comm] at q0 q1 q2
       have hbC := (own_type H.out.ch (k := bC) rfl).2.1
       have r0 := (M2.out.below.cell (p := ⟨bC, k * 3, none⟩) hbC).trans (own_cell H.out.ch _ _ q0).1
       have r1 := (M2.out.below.cell (p := ⟨bC, k * 3 + 1, none⟩) hbC).trans (own_cell H.out.ch _ _ q1).1
       have r2 := (M2.out.below.cell (p := ⟨bC, k * 3 + 2, none⟩) hbC).trans (own_cell H.out.ch _ _ q2).1
       obtain ⟨Fc, ⟨wP, wM, wC, wA, ws, S⟩, hF, hB⟩ := M2.out
       obtain ⟨aQ, cQ, eQ, _⟩ := own_slice S.ch
       obtain ⟨nQ, hnQ⟩ : ∃ n, n = (s.C.take k).length := ⟨_, rfl⟩
       rw [show ({ s with C := s.C.take k } : St).C.length = nQ from hnQ.symm] at eQ
       subst eQ
       have hnl : nl ≤ 1000 := by omega
       have HNL := hide hnl0
       have HLS : Hid ((s.C.take k).length < 32) := hide (by simp; omega)
       have HRM : Hid (0 ≤ qr ∧ qr ≤ 8 ∧ ((ql.length : Nat) : Int) ≤ qr) := hide hrm
       have hbX := bel_new wr (.cells #[.int .i64 qt, .int .i64 qr, .slice aq nl cq] 98)
       have oqr := own_keep oq (fun k hk => hB.block k (own_type oq hk).2.1)
       have X0 : Hid ((wr.alloc (.cells #[.int .i64 qt, .int .i64 qr, .slice aq nl cq] 98)).drew.heap[wr.heap.size]? = some (.cells #[.int .i64 qt, .int .i64 qr, .slice aq nl cq] 98 (0, 0)) ∧ (wr.alloc (.cells #[.int .i64 qt, .int .i64 qr, .slice aq nl cq] 98)).drew.ownsRow 0 41 3 (.slice aq nl cq) nl (vcs ql)) := hide ⟨Go.Deep.blk_alloc_new wr _, own_keep oqr (fun k hk => hbX.block k (own_type oqr hk).2.1)⟩
       have S0 := hide (S.bel (bel_drawn hbX))
       have B0 := hide (bel_drawn (bel_trans hB hbX))
       have HF := hide hF
       clear S hB hF M2 hnQ hbX oqr oq hq hv q0 q1 q2 hrm hnl0 hkC H
       go_wp2_with fail
       refine wp_region_any mixed ?_
       change wpAny _ _ _ _ _ _ _ (World.drew _)
       generalize World.drew _ = W0 at *
       refine wpAny_take (i := 0) (v := ?_) rfl (by kernel_rfl) (by kernel_rfl) (by kernel_rfl) (fun _ _ _ h => h) (Or.inl ⟨by rfl, fun w => ?_⟩) ?_
       rotate_left 1
       · (go_simp <;> with_reducible rfl)
       simp only [Act.put, List.getElem_toArray, List.getElem_cons_zero, List.setIfInBounds_toArray, List.set_cons_zero, List.set_cons_succ]
       refine wpAny_take (i := 1) (v := ?_) rfl (by kernel_rfl) (by kernel_rfl) (by kernel_rfl) (fun _ _ _ h => h) (Or.inl ⟨by rfl, fun w => ?_⟩) ?_
       rotate_left 1
       · (go_simp <;> with_reducible rfl)
       simp only [Act.put, List.getElem_toArray, List.getElem_cons_zero, List.getElem_cons_succ, List.setIfInBounds_toArray, List.set_cons_zero, List.set_cons_succ]
       refine wpAny_take (i := 2) (v := ?_) rfl (by kernel_rfl) (by kernel_rfl) (by kernel_rfl) (fun _ _ _ h => h) (Or.inl ⟨by rfl, fun w => ?_⟩) ?_
       rotate_left 1
       · (go_simp <;> with_reducible rfl)
       simp only [Act.put, List.getElem_toArray, List.getElem_cons_zero, List.getElem_cons_succ, List.setIfInBounds_toArray, List.set_cons_zero, List.set_cons_succ]
       refine wpAny_take (i := 3) (v := ?_) rfl (by kernel_rfl) (by kernel_rfl) (by kernel_rfl) (fun _ _ _ h => h) (Or.inl ⟨by rfl, fun w => ?_⟩) ?_
       rotate_left 1
       · (go_simp <;> with_reducible rfl)
       simp only [Act.put, List.getElem_toArray, List.getElem_cons_zero, List.getElem_cons_succ, List.setIfInBounds_toArray, List.set_cons_zero, List.set_cons_succ]
       refine wpAny_ready (rs := [4, 5]) (by kernel_rfl) (by decide) ?_
       refine AllReady.cons rfl (fun K1 hK1 => ?_) (AllReady.cons rfl (fun K1 hK1 => ?_) AllReady.nil)
       · have q := (show W0.cell? ⟨gc, 2, none⟩ = some (.slice aQ nQ cQ) from S0.out.cells.2.2.1)
         go_simp
         refine hK1 _ _ ?_
         clear hK1 K1 q
         refine wpAny_ready (rs := [5]) (by kernel_rfl) (by decide) ?_
         refine AllReady.cons rfl (fun K1 hK1 => ?_) AllReady.nil
         go_simp
         refine (qclone X0.out.1 X0.out.2 hnl).mono ?_
         rintro e W1 ⟨a3, c3, rfl, o3, hb1⟩
         have S1 := hide (S0.out.bel hb1)
         have B1 := hide (bel_trans B0.out hb1)
         have PU := hide (fun ty => S1.out.pushC ⟨qt, qr, ql⟩ (own_len (own_zero o3) HNL.out) (fun k hk hF => by have h1 := (own_type o3 hk).1; have h2 := S0.out.fb k hF; omega) HLS.out HRM.out ty)
         have O3 := hide (fun k hk => Nat.le_trans B0.out.size (own_type o3 (k := k) hk).1)
         clear hb1 o3
         refine hK1 _ _ ?_
         clear hK1 K1
         refine wpAny_ready (rs := [6]) (by kernel_rfl) (by decide) ?_
         refine AllReady.cons rfl (fun K1 hK1 => ?_) AllReady.nil
         go_simp
         refine hK1 _ _ ?_
         clear hK1 K1
         refine wpAny_ready (rs := [7]) (by kernel_rfl) (by decide) ?_
         refine AllReady.cons rfl (fun K1 hK1 => ?_) AllReady.nil
         refine step_appV (TS := 94) (.tmp 36) (.tmp 38) _ _ _ (fun ty => PU.out ty) rfl rfl rfl rfl ?_
         rintro v9 w9 ⟨⟨a9, l9, c9, rfl⟩, z1, z2, r9⟩
         have R9 := hide r9
         clear r9
         refine hK1 _ _ ?_
         clear hK1 K1
         refine wpAny_take (i := 8) (v := ?_) rfl (by kernel_rfl) (by kernel_rfl) (by kernel_rfl) (fun _ _ _ h => h) (Or.inl ⟨by rfl, fun w => ?_⟩) ?_
         rotate_left 1
         · (go_simp <;> with_reducible rfl)
         simp only [Act.put, List.getElem_toArray, List.getElem_cons_zero, List.getElem_cons_succ, List.setIfInBounds_toArray, List.set_cons_zero, List.set_cons_succ]
         refine wpAny_take (i := 9) (v := ?_) rfl (by kernel_rfl) (by kernel_rfl) (by kernel_rfl) (fun _ _ _ h => h) (Or.inl ⟨by rfl, fun w => ?_⟩) ?_
         rotate_left 1
         · (go_simp <;> with_reducible rfl)
         simp only [Act.put, List.getElem_toArray, List.getElem_cons_zero, List.getElem_cons_succ, List.setIfInBounds_toArray, List.set_cons_zero, List.set_cons_succ]
         refine wpAny_ready (rs := [10]) (by kernel_rfl) (by decide) ?_
         refine AllReady.cons rfl (fun K1 hK1 => ?_) AllReady.nil
         go_simp
         refine hK1 _ _ ?_
         clear hK1 K1 z1 z2
         refine wpAny_done (by kernel_rfl) ?_ _
         go_wp2_with fail
         go_roundw
         case rel =>
           refine ⟨k + 1, by omega, by go_num, ?_⟩
           rw [HSN.out]
           refine ⟨_, ⟨_, _, _, _, _, R9.out.2.1⟩, fun k hk => ?_, B1.out.trans (R9.out.2.2.bel HF.out B1.out.size)⟩
           rcases hk with hk | hk | hk
           · exact HF.out k hk
           · rcases R9.out.1 k hk with h1 | h1
             · exact HF.out k (S0.out.fC k h1)
             · exact Nat.le_trans B1.out.size h1
           · exact O3.out k hk
         case measure => simp [intOf]; omega
       · go_simp
         refine (qclone X0.out.1 X0.out.2 hnl).mono ?_
         rintro e W1 ⟨a3, c3, rfl, o3, hb1⟩
         have S1 := hide (S0.out.bel hb1)
         have B1 := hide (bel_trans B0.out hb1)
         have PU := hide (fun ty => S1.out.pushC ⟨qt, qr, ql⟩ (own_len (own_zero o3) HNL.out) (fun k hk hF => by have h1 := (own_type o3 hk).1; have h2 := S0.out.fb k hF; omega) HLS.out HRM.out ty)
         have O3 := hide (fun k hk => Nat.le_trans B0.out.size (own_type o3 (k := k) hk).1)
         clear hb1 o3
         refine hK1 _ _ ?_
         clear hK1 K1
         refine wpAny_ready (rs := [4, 6]) (by kernel_rfl) (by decide) ?_
         refine AllReady.cons rfl (fun K1 hK1 => ?_) (AllReady.cons rfl (fun K1 hK1 => ?_) AllReady.nil)
         · have q := (show W1.cell? ⟨gc, 2, none⟩ = some (.slice aQ nQ cQ) from S1.out.cells.2.2.1)
           go_simp
           refine hK1 _ _ ?_
           clear hK1 K1 q
           refine wpAny_ready (rs := [6]) (by kernel_rfl) (by decide) ?_
           refine AllReady.cons rfl (fun K1 hK1 => ?_) AllReady.nil
           go_simp
           refine hK1 _ _ ?_
           clear hK1 K1
           refine wpAny_ready (rs := [7]) (by kernel_rfl) (by decide) ?_
           refine AllReady.cons rfl (fun K1 hK1 => ?_) AllReady.nil
           refine step_appV (TS := 94) (.tmp 36) (.tmp 38) _ _ _ (fun ty => PU.out ty) rfl rfl rfl rfl ?_
           rintro v9 w9 ⟨⟨a9, l9, c9, rfl⟩, z1, z2, r9⟩
           have R9 := hide r9
           clear r9
           refine hK1 _ _ ?_
           clear hK1 K1
           refine wpAny_take (i := 8) (v := ?_) rfl (by kernel_rfl) (by kernel_rfl) (by kernel_rfl) (fun _ _ _ h => h) (Or.inl ⟨by rfl, fun w => ?_⟩) ?_
           rotate_left 1
           · (go_simp <;> with_reducible rfl)
           simp only [Act.put, List.getElem_toArray, List.getElem_cons_zero, List.getElem_cons_succ, List.setIfInBounds_toArray, List.set_cons_zero, List.set_cons_succ]
           refine wpAny_take (i := 9) (v := ?_) rfl (by kernel_rfl) (by kernel_rfl) (by kernel_rfl) (fun _ _ _ h => h) (Or.inl ⟨by rfl, fun w => ?_⟩) ?_
           rotate_left 1
           · (go_simp <;> with_reducible rfl)
           simp only [Act.put, List.getElem_toArray, List.getElem_cons_zero, List.getElem_cons_succ, List.setIfInBounds_toArray, List.set_cons_zero, List.set_cons_succ]
           refine wpAny_ready (rs := [10]) (by kernel_rfl) (by decide) ?_
           refine AllReady.cons rfl (fun K1 hK1 => ?_) AllReady.nil
           go_simp
           refine hK1 _ _ ?_
           clear hK1 K1 z1 z2
           refine wpAny_done (by kernel_rfl) ?_ _
           go_wp2_with fail
           go_roundw
           case rel =>
             refine ⟨k + 1, by omega, by go_num, ?_⟩
             rw [HSN.out]
             refine ⟨_, ⟨_, _, _, _, _, R9.out.2.1⟩, fun k hk => ?_, B1.out.trans (R9.out.2.2.bel HF.out B1.out.size)⟩
             rcases hk with hk | hk | hk
             · exact HF.out k hk
             · rcases R9.out.1 k hk with h1 | h1
               · exact HF.out k (S0.out.fC k h1)
               · exact Nat.le_trans B1.out.size h1
             · exact O3.out k hk
           case measure => simp [intOf]; omega
         · go_simp
           refine hK1 _ _ ?_
           clear hK1 K1
           refine wpAny_ready (rs := [4]) (by kernel_rfl) (by decide) ?_
           refine AllReady.cons rfl (fun K1 hK1 => ?_) AllReady.nil
           have q := (show (W1.alloc (.cells #[.int .i64 qt, .int .i64 qr, .slice a3 nl c3] 98)).cell? ⟨gc, 2, none⟩ = some (.slice aQ nQ cQ) from ((bel_new W1 _).cell (p := ⟨gc, 2, none⟩) (S1.out.fb gc S1.out.fg)).trans S1.out.cells.2.2.1)
           go_simp
           refine hK1 _ _ ?_
           clear hK1 K1 q
           refine wpAny_ready (rs := [7]) (by kernel_rfl) (by decide) ?_
           refine AllReady.cons rfl (fun K1 hK1 => ?_) AllReady.nil
           refine step_appV (TS := 94) (.tmp 36) (.tmp 38) _ _ _ (fun ty => PU.out ty) rfl rfl rfl rfl ?_
           rintro v9 w9 ⟨⟨a9, l9, c9, rfl⟩, z1, z2, r9⟩
           have R9 := hide r9
           clear r9
           refine hK1 _ _ ?_
           clear hK1 K1
           refine wpAny_take (i := 8) (v := ?_) rfl (by kernel_rfl) (by kernel_rfl) (by kernel_rfl) (fun _ _ _ h => h) (Or.inl ⟨by rfl, fun w => ?_⟩) ?_
           rotate_left 1
           · (go_simp <;> with_reducible rfl)
           simp only [Act.put, List.getElem_toArray, List.getElem_cons_zero, List.getElem_cons_succ, List.setIfInBounds_toArray, List.set_cons_zero, List.set_cons_succ]
           refine wpAny_take (i := 9) (v := ?_) rfl (by kernel_rfl) (by kernel_rfl) (by kernel_rfl) (fun _ _ _ h => h) (Or.inl ⟨by rfl, fun w => ?_⟩) ?_
           rotate_left 1
           · (go_simp <;> with_reducible rfl)
           simp only [Act.put, List.getElem_toArray, List.getElem_cons_zero, List.getElem_cons_succ, List.setIfInBounds_toArray, List.set_cons_zero, List.set_cons_succ]
           refine wpAny_ready (rs := [10]) (by kernel_rfl) (by decide) ?_
           refine AllReady.cons rfl (fun K1 hK1 => ?_) AllReady.nil
           go_simp
           refine hK1 _ _ ?_
           clear hK1 K1 z1 z2
           refine wpAny_done (by kernel_rfl) ?_ _
           go_wp2_with fail
           go_roundw
           case rel =>
             refine ⟨k + 1, by omega, by go_num, ?_⟩
             rw [HSN.out]
             refine ⟨_, ⟨_, _, _, _, _, R9.out.2.1⟩, fun k hk => ?_, B1.out.trans (R9.out.2.2.bel HF.out B1.out.size)⟩
             rcases hk with hk | hk | hk
             · exact HF.out k hk
             · rcases R9.out.1 k hk with h1 | h1
               · exact HF.out k (S0.out.fC k h1)
               · exact Nat.le_trans B1.out.size h1
             · exact O3.out k hk
           case measure => simp [intOf]; omega
     · obtain rfl : k = nC := by omega
       have M3 : Hid (Mk w wr gc s) := hide (by
         have := M2.out
         rw [List.take_of_length_le (by rw [← HNC.out]; exact Nat.le_refl _)] at this
         exact this)
       clear M2
       go_wp2_with fail
       go_ret
       exact ⟨gc, rfl, M3.out⟩
end Go.Proofs.YtghfjnnmpmfboaaDoor.Ck
