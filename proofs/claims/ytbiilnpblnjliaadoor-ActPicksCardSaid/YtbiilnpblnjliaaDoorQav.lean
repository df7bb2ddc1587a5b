/- Texts of this proof, packed: contracts of the program's functions, and the plain model that they are held against. -/
import Derived.Test.YtbiilnpblnjliaaDoorQam
import Derived.Test.YtbiilnpblnjliaaDoorQap
import Derived.Test.YtbiilnpblnjliaaDoorQau
/- Package sync: Copy. (Written by mk_y.py.) -/
namespace Go.Proofs.YtbiilnpblnjliaaDoor.Ck
open Go.RowKit

theorem own_len {w : World} {B : Nat} {T : TypeId} {n : Nat} {v : Value} {len len' : Nat} {xs : List Value} (h : w.ownsRow B T n v len xs) (e : len = len') : w.ownsRow B T n v len' xs := by
  subst e
  exact h
theorem bls_one (l : List Bool) : ∀ u ∈ bls l, u.oneCell' = true := fun u hu => by unfold bls at hu; obtain ⟨x, _, rfl⟩ := List.mem_map.1 hu; rfl
theorem nts_one (l : List Int) : ∀ u ∈ nts l, u.oneCell' = true := fun u hu => by unfold nts at hu; obtain ⟨x, _, rfl⟩ := List.mem_map.1 hu; rfl
theorem sv_begin {W w : World} {gs : Nat} {s : St} {vP vM vA : Value} (hsm : s.P.length ≤ 128 ∧ s.M.length ≤ 32 ∧ s.A.length ≤ 32) (oP : W.ownsRow w.heap.size 41 3 vP s.P.length (vcs s.P)) (oM : W.ownsRow w.heap.size 4 1 vM s.M.length (bls s.M)) (oA : W.ownsRow w.heap.size 3 1 vA s.A.length (nts s.A))
    (hg : W.heap[gs]? = some (.cells #[vP, vM, .slice none 0 0, vA] 95 (0, 0))) (hgs : w.heap.size ≤ gs) (hB : Below w.heap.size w W) : Mk w W gs { s with C := [] } := by
  refine ⟨fun k => k = gs ∨ vP.ownBlock = some k ∨ vM.ownBlock = some k ∨ vA.ownBlock = some k, ⟨_, _, _, _, [], { at_ := hg, pl := own_zero oP, mu := own_zero oM, ch := own_nil _ _ _, ato := own_zero oA, len := rfl, q := fun i q v h _ => (by simp at h), ne := fun i j v v' k _ h _ => (by simp at h), fg := .inl rfl, fP := fun k h => .inr (.inl h), fM := fun k h => .inr (.inr (.inl h)), fC := fun k h => (by cases h), fA := fun k h => .inr (.inr (.inr h)), fb := fun k h => ?_, small := (by simp; omega), rooms := fun q h => (by cases h) }⟩, fun k h => ?_, hB⟩
  · rcases h with rfl | h | h | h
    · exact lt_of_blk hg
    · exact (own_type oP h).2.1
    · exact (own_type oM h).2.1
    · exact (own_type oA h).2.1
  · rcases h with rfl | h | h | h
    · exact hgs
    · exact (own_type oP h).1
    · exact (own_type oM h).1
    · exact (own_type oA h).1
def Sy (w : World) (g : Nat) (vP vM vA : Value) : Prop := (w.cell? ⟨g, 0, none⟩ = some vP ∧ w.cell? ⟨g, 1, none⟩ = some vM ∧ w.cell? ⟨g, 3, none⟩ = some vA) ∧ g < w.heap.size
theorem Sy.al {w w' : World} {g : Nat} {vP vM vA : Value} (h : Sy w g vP vM vA) (hb : Below w.heap.size w w') : Sy w' g vP vM vA := ⟨⟨(hb.cell (p := ⟨g, 0, none⟩) h.2).trans h.1.1, (hb.cell (p := ⟨g, 1, none⟩) h.2).trans h.1.2.1, (hb.cell (p := ⟨g, 3, none⟩) h.2).trans h.1.2.2⟩, Nat.lt_of_lt_of_le h.2 hb.size⟩
set_option maxRecDepth 20000 in
set_option maxHeartbeats 2000000 in
theorem Copy_any {w : World} {F : Nat → Prop} {g : Nat} {s : St} (h : Stt w F g s) : Calls Tryd.prog 11 #[.pointer (some ⟨g, 0, none⟩)] w fun e w' => ∃ gc, e = .returned (.pointer (some ⟨gc, 0, none⟩)) ∧ Mk w w' gc s := by
  obtain ⟨vP, vM, vC, vA, vs, h⟩ := h
  have hsm := h.small
  obtain ⟨aP, cP, eP, _⟩ := own_slice h.pl
  obtain ⟨aM, cM, eM, _⟩ := own_slice h.mu
  obtain ⟨aC, cC, eC, hcC, _⟩ := own_slice h.ch
  obtain ⟨aA, cA, eA, _⟩ := own_slice h.ato
  obtain ⟨nP, hnP⟩ : ∃ n, n = s.P.length := ⟨_, rfl⟩
  obtain ⟨nM, hnM⟩ : ∃ n, n = s.M.length := ⟨_, rfl⟩
  obtain ⟨nC, hnC⟩ : ∃ n, n = s.C.length := ⟨_, rfl⟩
  obtain ⟨nA, hnA⟩ : ∃ n, n = s.A.length := ⟨_, rfl⟩
  have OP := hide h.pl
  have OM := hide h.mu
  have OA := hide h.ato
  rw [← hnP] at eP OP
  rw [← hnM] at eM OM
  rw [← hnC] at eC hcC
  rw [← hnA] at eA OA
  subst eP eM eC eA
  have hgl := h.fb g h.fg
  have h0 := hide (show Sy w g (.slice aP nP cP) (.slice aM nM cM) (.slice aA nA cA) from ⟨⟨h.cells.1, h.cells.2.1, h.cells.2.2.2⟩, hgl⟩)
  have HC2 := hide h.cells.2.2.1
  have H := hide h
  have HSM : Hid (s.P.length ≤ 128 ∧ s.M.length ≤ 32 ∧ s.A.length ≤ 32) := hide (by omega)
  have HNS := hide (And.intro hnP (And.intro hnM hnA))
  have hnP1 : nP ≤ 128 := by omega
  have hnM1 : nM ≤ 32 := by omega
  have hnA1 : nA ≤ 32 := by omega
  have hnC1 : nC ≤ 32 := by omega
  have HNC := hide hnC
  clear h hsm hnP hnM hnC hnA
  go_enter Tryd.func11, Tryd.ntmps11
  go_wp2_with fail
  go_cut [3] from 6 to 22 (fun x wc => ∃ gc, x = .pointer (some ⟨gc, 0, none⟩) ∧ Hid (Mk w wc gc { s with C := [] }))
  case first =>
    refine wp_region_held_drew (S := fun w' => Sy w' g (.slice aP nP cP) (.slice aM nM cM) (.slice aA nA cA)) mixed (h0.out.al (bel_drawn (Below.refl _ _))) (fun hH => ?_)
    have BW := hide (bel_drawn (Below.refl w.heap.size w))
    generalize w.drew = w1 at *
    refine wpAnyH_take (i := 0) (v := ?_) rfl (by kernel_rfl) (by kernel_rfl) (by kernel_rfl) (fun _ _ _ h => h) (Or.inl ⟨by rfl, ?_⟩) hH ?_
    rotate_left 1
    · (intro w hSw; skip; clear hSw; go_simp <;> with_reducible rfl)
    simp only [Act.put, List.getElem_toArray, List.getElem_cons_zero, List.setIfInBounds_toArray, List.set_cons_zero, List.set_cons_succ]
    refine wpAnyH_take (i := 1) (v := ?_) rfl (by kernel_rfl) (by kernel_rfl) (by kernel_rfl) (fun _ _ _ h => h) (Or.inl ⟨by rfl, ?_⟩) hH ?_
    rotate_left 1
    · (intro w hSw; skip; clear hSw; go_simp <;> with_reducible rfl)
    simp only [Act.put, List.getElem_toArray, List.getElem_cons_zero, List.getElem_cons_succ, List.setIfInBounds_toArray, List.set_cons_zero, List.set_cons_succ]
    refine wpAnyH_take (i := 2) (v := ?_) rfl (by kernel_rfl) (by kernel_rfl) (by kernel_rfl) (fun _ _ _ h => h) (Or.inl ⟨by rfl, ?_⟩) hH ?_
    rotate_left 1
    · (intro w hSw; skip; clear hSw; go_simp <;> with_reducible rfl)
    simp only [Act.put, List.getElem_toArray, List.getElem_cons_zero, List.getElem_cons_succ, List.setIfInBounds_toArray, List.set_cons_zero, List.set_cons_succ]
    refine wpAnyH_take (i := 3) (v := ?_) rfl (by kernel_rfl) (by kernel_rfl) (by kernel_rfl) (fun _ _ _ h => h) (Or.inl ⟨by rfl, ?_⟩) hH ?_
    rotate_left 1
    · (intro w hSw; have q := hSw.1; clear hSw; go_simp <;> with_reducible rfl)
    simp only [Act.put, List.getElem_toArray, List.getElem_cons_zero, List.getElem_cons_succ, List.setIfInBounds_toArray, List.set_cons_zero, List.set_cons_succ]
    refine wpAnyH_take (i := 5) (v := ?_) rfl (by kernel_rfl) (by kernel_rfl) (by kernel_rfl) (fun _ _ _ h => h) (Or.inl ⟨by rfl, ?_⟩) hH ?_
    rotate_left 1
    · (intro w hSw; skip; clear hSw; go_simp <;> with_reducible rfl)
    simp only [Act.put, List.getElem_toArray, List.getElem_cons_zero, List.getElem_cons_succ, List.setIfInBounds_toArray, List.set_cons_zero, List.set_cons_succ]
    refine wpAnyH_take (i := 6) (v := ?_) rfl (by kernel_rfl) (by kernel_rfl) (by kernel_rfl) (fun _ _ _ h => h) (Or.inl ⟨by rfl, ?_⟩) hH ?_
    rotate_left 1
    · (intro w hSw; skip; clear hSw; go_simp <;> with_reducible rfl)
    simp only [Act.put, List.getElem_toArray, List.getElem_cons_zero, List.getElem_cons_succ, List.setIfInBounds_toArray, List.set_cons_zero, List.set_cons_succ]
    refine wpAnyH_take (i := 7) (v := ?_) rfl (by kernel_rfl) (by kernel_rfl) (by kernel_rfl) (fun _ _ _ h => h) (Or.inl ⟨by rfl, ?_⟩) hH ?_
    rotate_left 1
    · (intro w hSw; skip; clear hSw; go_simp <;> with_reducible rfl)
    simp only [Act.put, List.getElem_toArray, List.getElem_cons_zero, List.getElem_cons_succ, List.setIfInBounds_toArray, List.set_cons_zero, List.set_cons_succ]
    refine wpAnyH_take (i := 8) (v := ?_) rfl (by kernel_rfl) (by kernel_rfl) (by kernel_rfl) (fun _ _ _ h => h) (Or.inl ⟨by rfl, ?_⟩) hH ?_
    rotate_left 1
    · (intro w hSw; have q := hSw.1; clear hSw; go_simp <;> with_reducible rfl)
    simp only [Act.put, List.getElem_toArray, List.getElem_cons_zero, List.getElem_cons_succ, List.setIfInBounds_toArray, List.set_cons_zero, List.set_cons_succ]
    refine wpAnyH_take (i := 10) (v := ?_) rfl (by kernel_rfl) (by kernel_rfl) (by kernel_rfl) (fun _ _ _ h => h) (Or.inl ⟨by rfl, ?_⟩) hH ?_
    rotate_left 1
    · (intro w hSw; skip; clear hSw; go_simp <;> with_reducible rfl)
    simp only [Act.put, List.getElem_toArray, List.getElem_cons_zero, List.getElem_cons_succ, List.setIfInBounds_toArray, List.set_cons_zero, List.set_cons_succ]
    refine wpAnyH_take (i := 11) (v := ?_) rfl (by kernel_rfl) (by kernel_rfl) (by kernel_rfl) (fun _ _ _ h => h) (Or.inl ⟨by rfl, ?_⟩) hH ?_
    rotate_left 1
    · (intro w hSw; skip; clear hSw; go_simp <;> with_reducible rfl)
    simp only [Act.put, List.getElem_toArray, List.getElem_cons_zero, List.getElem_cons_succ, List.setIfInBounds_toArray, List.set_cons_zero, List.set_cons_succ]
    refine wpAnyH_take (i := 12) (v := ?_) rfl (by kernel_rfl) (by kernel_rfl) (by kernel_rfl) (fun _ _ _ h => h) (Or.inl ⟨by rfl, ?_⟩) hH ?_
    rotate_left 1
    · (intro w hSw; skip; clear hSw; go_simp <;> with_reducible rfl)
    simp only [Act.put, List.getElem_toArray, List.getElem_cons_zero, List.getElem_cons_succ, List.setIfInBounds_toArray, List.set_cons_zero, List.set_cons_succ]
    refine wpAnyH_take (i := 13) (v := ?_) rfl (by kernel_rfl) (by kernel_rfl) (by kernel_rfl) (fun _ _ _ h => h) (Or.inl ⟨by rfl, ?_⟩) hH ?_
    rotate_left 1
    · (intro w hSw; have q := hSw.1; clear hSw; go_simp <;> with_reducible rfl)
    simp only [Act.put, List.getElem_toArray, List.getElem_cons_zero, List.getElem_cons_succ, List.setIfInBounds_toArray, List.set_cons_zero, List.set_cons_succ]
    refine wpAnyH_ready (rs := [4]) (by kernel_rfl) (by decide) ?_
    refine AllReadyH.cons rfl (fun K1 hK1 => ?_) AllReadyH.nil
    go_simp
    refine (cloneV (own_keep OP.out (fun k hk => BW.out.block k (own_type OP.out hk).2.1)) (by omega) (vcs_one _)).mono ?_
    rintro e d4 ⟨a4, c4, rfl, o4, b4⟩
    have N4 := hide (own_low o4 BW.out.size)
    replace BW := hide (bel_trans BW.out b4)
    refine hK1.out _ _ (hH.al b4) (fun hH => ?_)
    clear hK1 K1 o4 b4
    refine wpAnyH_ready (rs := [9]) (by kernel_rfl) (by decide) ?_
    refine AllReadyH.cons rfl (fun K1 hK1 => ?_) AllReadyH.nil
    go_simp
    refine (cloneB (own_keep OM.out (fun k hk => BW.out.block k (own_type OM.out hk).2.1)) (by omega) (bls_one _)).mono ?_
    rintro e d9 ⟨a9, c9, rfl, o9, b9⟩
    have N9 := hide (own_low o9 BW.out.size)
    replace BW := hide (bel_trans BW.out b9)
    replace N4 := hide (own_keep N4.out (fun k hk => b9.block k (own_type N4.out hk).2.1))
    refine hK1.out _ _ (hH.al b9) (fun hH => ?_)
    clear hK1 K1 o9 b9
    refine wpAnyH_ready (rs := [14]) (by kernel_rfl) (by decide) ?_
    refine AllReadyH.cons rfl (fun K1 hK1 => ?_) AllReadyH.nil
    go_simp
    refine (cloneI (own_keep OA.out (fun k hk => BW.out.block k (own_type OA.out hk).2.1)) (by omega) (nts_one _)).mono ?_
    rintro e d14 ⟨a14, c14, rfl, o14, b14⟩
    have N14 := hide (own_low o14 BW.out.size)
    replace BW := hide (bel_trans BW.out b14)
    replace N4 := hide (own_keep N4.out (fun k hk => b14.block k (own_type N4.out hk).2.1))
    replace N9 := hide (own_keep N9.out (fun k hk => b14.block k (own_type N9.out hk).2.1))
    refine hK1.out _ _ (hH.al b14) (fun hH => ?_)
    clear hK1 K1 o14 b14
    refine wpAnyH_take (i := 15) (v := ?_) rfl (by kernel_rfl) (by kernel_rfl) (by kernel_rfl) (fun _ _ _ h => h) (Or.inl ⟨by rfl, ?_⟩) hH ?_
    rotate_left 1
    · (intro w hSw; skip; clear hSw; go_simp <;> with_reducible rfl)
    simp only [Act.put, List.getElem_toArray, List.getElem_cons_zero, List.getElem_cons_succ, List.setIfInBounds_toArray, List.set_cons_zero, List.set_cons_succ]
    refine wpAnyH_ready (rs := [16]) (by kernel_rfl) (by decide) ?_
    refine AllReadyH.cons rfl (fun K1 hK1 => ?_) AllReadyH.nil
    go_simp
    have M9 := hide (sv_begin (s := s) (gs := d14.heap.size) HSM.out (own_keep (own_len N4.out HNS.out.1) (fun k hk => (bel_new d14 (.cells #[.slice a4 nP c4, .slice a9 nM c9, .slice none 0 0, .slice a14 nA c14] 95)).block k (own_type (own_len N4.out HNS.out.1) hk).2.1)) (own_keep (own_len N9.out HNS.out.2.1) (fun k hk => (bel_new d14 (.cells #[.slice a4 nP c4, .slice a9 nM c9, .slice none 0 0, .slice a14 nA c14] 95)).block k (own_type (own_len N9.out HNS.out.2.1) hk).2.1)) (own_keep (own_len N14.out HNS.out.2.2) (fun k hk => (bel_new d14 (.cells #[.slice a4 nP c4, .slice a9 nM c9, .slice none 0 0, .slice a14 nA c14] 95)).block k (own_type (own_len N14.out HNS.out.2.2) hk).2.1)) (Go.Deep.blk_alloc_new d14 (.cells #[.slice a4 nP c4, .slice a9 nM c9, .slice none 0 0, .slice a14 nA c14] 95)) BW.out.size (bel_al BW.out _))
    refine hK1.out _ _ (hH.al (bel_new _ _)) (fun hH => ?_)
    clear hK1 K1
    refine wpAnyH_take (i := 17) (v := ?_) rfl (by kernel_rfl) (by kernel_rfl) (by kernel_rfl) (fun _ _ _ h => h) (Or.inl ⟨by rfl, ?_⟩) hH ?_
    rotate_left 1
    · (intro w hSw; skip; clear hSw; go_simp <;> with_reducible rfl)
    simp only [Act.put, List.getElem_toArray, List.getElem_cons_zero, List.getElem_cons_succ, List.setIfInBounds_toArray, List.set_cons_zero, List.set_cons_succ]
    refine wpAnyH_done (by kernel_rfl) ?_ _
    clear hH
    go_wp2_with fail
    go_meet
    case rel => exact ⟨_, rfl, M9⟩
  case rest =>
    obtain ⟨gc, rfl, M0⟩ := hcut
    have q2 := (M0.out.below.cell (p := ⟨g, 2, none⟩) hgl).trans HC2.out
    have M1 : Hid (Mk w wc gc { s with C := s.C.take 0 }) := M0
    clear h0 M0 OP OM OA HC2
    go_wp2_with fail
    go_loopw [5, 28] (fun x i wr => ∃ k : Nat, k ≤ nC ∧ i = .int .i64 k ∧ Hid (Mk w wr gc { s with C := s.C.take k })) (fun x i _ => nC - (intOf i).toNat)
    case atStart => exact ⟨0, Nat.zero_le _, rfl, M1⟩
    case round =>
     obtain ⟨k, hk, rfl, M2⟩ := hrel
     clear M1
     by_cases hlt : k < nC
     · have hlt' : (k : Int) < (nC : Int) := by omega
       have hkC : k < s.C.length := by rw [← HNC.out]; exact hlt
       obtain ⟨q, hq⟩ : ∃ q, s.C[k]? = some q := ⟨_, List.getElem?_eq_getElem hkC⟩
       obtain ⟨vq, hv⟩ : ∃ v, vs[k]? = some v := ⟨_, List.getElem?_eq_getElem (by rw [H.out.len]; exact hkC)⟩
       obtain ⟨oq, _⟩ := H.out.q k q vq hq hv
       have hrm := H.out.rooms q (List.mem_of_getElem? hq)
       have HSN : Hid (s.C.take (k + 1) = s.C.take k ++ [q]) := hide (by rw [List.take_add_one, hq]; rfl)
       obtain ⟨qt, qr, ql⟩ := q
       obtain ⟨nl, hnl0⟩ : ∃ n, n = ql.length := ⟨_, rfl⟩
       simp only at oq hrm
       rw [← hnl0] at oq
       obtain ⟨aq, cq, eq, _⟩ := own_slice oq
       subst eq
       obtain ⟨bC, cC', eC, _⟩ := own_some H.out.ch (by omega)
       cases eC
       obtain ⟨q0, q1, q2⟩ := qcs_at _ _ _ _ _ hq hv
       rw [Nat.mul_comm] at q0 q1 q2
       have hbC := (own_type H.out.ch (k := bC) rfl).2.1
       have r0 := (M2.out.below.cell (p := ⟨bC, k * 3, none⟩) hbC).trans (own_cell H.out.ch _ _ q0).1
       have r1 := (M2.out.below.cell (p := ⟨bC, k * 3 + 1, none⟩) hbC).trans (own_cell H.out.ch _ _ q1).1
       have r2 := (M2.out.below.cell (p := ⟨bC, k * 3 + 2, none⟩) hbC).trans (own_cell H.out.ch _ _ q2).1
       obtain ⟨Fc, ⟨wP, wM, wC, wA, ws, S⟩, hF, hB⟩ := M2.out
       obtain ⟨aQ, cQ, eQ, _⟩ := own_slice S.ch
       obtain ⟨nQ, hnQ⟩ : ∃ n, n = (s.C.take k).length := ⟨_, rfl⟩
       rw [show ({ s with C := s.C.take k } : St).C.length = nQ from hnQ.symm] at eQ
       subst eQ
       have hnl : nl ≤ 1000 := by omega
       have HNL := hide hnl0
       have HLS : Hid ((s.C.take k).length < 32) := hide (by simp; omega)
       have HRM : Hid (0 ≤ qr ∧ qr ≤ 8 ∧ ((ql.length : Nat) : Int) ≤ qr) := hide hrm
       have hbX := bel_new wr (.cells #[.int .i64 qt, .int .i64 qr, .slice aq nl cq] 97)
       have oqr := own_keep oq (fun k hk => hB.block k (own_type oq hk).2.1)
       have X0 : Hid ((wr.alloc (.cells #[.int .i64 qt, .int .i64 qr, .slice aq nl cq] 97)).drew.heap[wr.heap.size]? = some (.cells #[.int .i64 qt, .int .i64 qr, .slice aq nl cq] 97 (0, 0)) ∧ (wr.alloc (.cells #[.int .i64 qt, .int .i64 qr, .slice aq nl cq] 97)).drew.ownsRow 0 41 3 (.slice aq nl cq) nl (vcs ql)) := hide ⟨Go.Deep.blk_alloc_new wr _, own_keep oqr (fun k hk => hbX.block k (own_type oqr hk).2.1)⟩
       have S0 := hide (S.bel (bel_drawn hbX))
       have B0 := hide (bel_drawn (bel_trans hB hbX))
       have HF := hide hF
       clear S hB hF M2 hnQ hbX oqr oq hq hv q0 q1 q2 hrm hnl0 hkC H
       go_wp2_with fail
       refine wp_region_any mixed ?_
       change wpAny _ _ _ _ _ _ _ (World.drew _)
       generalize World.drew _ = W0 at *
       refine wpAny_take (i := 0) (v := ?_) rfl (by kernel_rfl) (by kernel_rfl) (by kernel_rfl) (fun _ _ _ h => h) (Or.inl ⟨by rfl, fun w => ?_⟩) ?_
       rotate_left 1
       · (go_simp <;> with_reducible rfl)
       simp only [Act.put, List.getElem_toArray, List.getElem_cons_zero, List.setIfInBounds_toArray, List.set_cons_zero, List.set_cons_succ]
       refine wpAny_take (i := 1) (v := ?_) rfl (by kernel_rfl) (by kernel_rfl) (by kernel_rfl) (fun _ _ _ h => h) (Or.inl ⟨by rfl, fun w => ?_⟩) ?_
       rotate_left 1
       · (go_simp <;> with_reducible rfl)
       simp only [Act.put, List.getElem_toArray, List.getElem_cons_zero, List.getElem_cons_succ, List.setIfInBounds_toArray, List.set_cons_zero, List.set_cons_succ]
       refine wpAny_take (i := 2) (v := ?_) rfl (by kernel_rfl) (by kernel_rfl) (by kernel_rfl) (fun _ _ _ h => h) (Or.inl ⟨by rfl, fun w => ?_⟩) ?_
       rotate_left 1
       · (go_simp <;> with_reducible rfl)
       simp only [Act.put, List.getElem_toArray, List.getElem_cons_zero, List.getElem_cons_succ, List.setIfInBounds_toArray, List.set_cons_zero, List.set_cons_succ]
       refine wpAny_take (i := 3) (v := ?_) rfl (by kernel_rfl) (by kernel_rfl) (by kernel_rfl) (fun _ _ _ h => h) (Or.inl ⟨by rfl, fun w => ?_⟩) ?_
       rotate_left 1
       · (go_simp <;> with_reducible rfl)
       simp only [Act.put, List.getElem_toArray, List.getElem_cons_zero, List.getElem_cons_succ, List.setIfInBounds_toArray, List.set_cons_zero, List.set_cons_succ]
       refine wpAny_ready (rs := [4, 5]) (by kernel_rfl) (by decide) ?_
       refine AllReady.cons rfl (fun K1 hK1 => ?_) (AllReady.cons rfl (fun K1 hK1 => ?_) AllReady.nil)
       · have q := (show W0.cell? ⟨gc, 2, none⟩ = some (.slice aQ nQ cQ) from S0.out.cells.2.2.1)
         go_simp
         refine hK1 _ _ ?_
         clear hK1 K1 q
         refine wpAny_ready (rs := [5]) (by kernel_rfl) (by decide) ?_
         refine AllReady.cons rfl (fun K1 hK1 => ?_) AllReady.nil
         go_simp
         refine (qclone X0.out.1 X0.out.2 hnl).mono ?_
         rintro e W1 ⟨a3, c3, rfl, o3, hb1⟩
         have S1 := hide (S0.out.bel hb1)
         have B1 := hide (bel_trans B0.out hb1)
         have PU := hide (fun ty => S1.out.pushC ⟨qt, qr, ql⟩ (own_len (own_zero o3) HNL.out) (fun k hk hF => by have h1 := (own_type o3 hk).1; have h2 := S0.out.fb k hF; omega) HLS.out HRM.out ty)
         have O3 := hide (fun k hk => Nat.le_trans B0.out.size (own_type o3 (k := k) hk).1)
         clear hb1 o3
         refine hK1 _ _ ?_
         clear hK1 K1
         refine wpAny_ready (rs := [6]) (by kernel_rfl) (by decide) ?_
         refine AllReady.cons rfl (fun K1 hK1 => ?_) AllReady.nil
         go_simp
         refine hK1 _ _ ?_
         clear hK1 K1
         refine wpAny_ready (rs := [7]) (by kernel_rfl) (by decide) ?_
         refine AllReady.cons rfl (fun K1 hK1 => ?_) AllReady.nil
         refine step_appV (TS := 93) (.tmp 36) (.tmp 38) _ _ _ (fun ty => PU.out ty) rfl rfl rfl rfl ?_
         rintro v9 w9 ⟨⟨a9, l9, c9, rfl⟩, z1, z2, r9⟩
         have R9 := hide r9
         clear r9
         refine hK1 _ _ ?_
         clear hK1 K1
         refine wpAny_take (i := 8) (v := ?_) rfl (by kernel_rfl) (by kernel_rfl) (by kernel_rfl) (fun _ _ _ h => h) (Or.inl ⟨by rfl, fun w => ?_⟩) ?_
         rotate_left 1
         · (go_simp <;> with_reducible rfl)
         simp only [Act.put, List.getElem_toArray, List.getElem_cons_zero, List.getElem_cons_succ, List.setIfInBounds_toArray, List.set_cons_zero, List.set_cons_succ]
         refine wpAny_take (i := 9) (v := ?_) rfl (by kernel_rfl) (by kernel_rfl) (by kernel_rfl) (fun _ _ _ h => h) (Or.inl ⟨by rfl, fun w => ?_⟩) ?_
         rotate_left 1
         · (go_simp <;> with_reducible rfl)
         simp only [Act.put, List.getElem_toArray, List.getElem_cons_zero, List.getElem_cons_succ, List.setIfInBounds_toArray, List.set_cons_zero, List.set_cons_succ]
         refine wpAny_ready (rs := [10]) (by kernel_rfl) (by decide) ?_
         refine AllReady.cons rfl (fun K1 hK1 => ?_) AllReady.nil
         go_simp
         refine hK1 _ _ ?_
         clear hK1 K1 z1 z2
         refine wpAny_done (by kernel_rfl) ?_ _
         go_wp2_with fail
         go_roundw
         case rel =>
           refine ⟨k + 1, by omega, by go_num, ?_⟩
           rw [HSN.out]
           refine ⟨_, ⟨_, _, _, _, _, R9.out.2.1⟩, fun k hk => ?_, B1.out.trans (R9.out.2.2.bel HF.out B1.out.size)⟩
           rcases hk with hk | hk | hk
           · exact HF.out k hk
           · rcases R9.out.1 k hk with h1 | h1
             · exact HF.out k (S0.out.fC k h1)
             · exact Nat.le_trans B1.out.size h1
           · exact O3.out k hk
         case measure => simp [intOf]; omega
       · go_simp
         refine (qclone X0.out.1 X0.out.2 hnl).mono ?_
         rintro e W1 ⟨a3, c3, rfl, o3, hb1⟩
         have S1 := hide (S0.out.bel hb1)
         have B1 := hide (bel_trans B0.out hb1)
         have PU := hide (fun ty => S1.out.pushC ⟨qt, qr, ql⟩ (own_len (own_zero o3) HNL.out) (fun k hk hF => by have h1 := (own_type o3 hk).1; have h2 := S0.out.fb k hF; omega) HLS.out HRM.out ty)
         have O3 := hide (fun k hk => Nat.le_trans B0.out.size (own_type o3 (k := k) hk).1)
         clear hb1 o3
         refine hK1 _ _ ?_
         clear hK1 K1
         refine wpAny_ready (rs := [4, 6]) (by kernel_rfl) (by decide) ?_
         refine AllReady.cons rfl (fun K1 hK1 => ?_) (AllReady.cons rfl (fun K1 hK1 => ?_) AllReady.nil)
         · have q := (show W1.cell? ⟨gc, 2, none⟩ = some (.slice aQ nQ cQ) from S1.out.cells.2.2.1)
           go_simp
           refine hK1 _ _ ?_
           clear hK1 K1 q
           refine wpAny_ready (rs := [6]) (by kernel_rfl) (by decide) ?_
           refine AllReady.cons rfl (fun K1 hK1 => ?_) AllReady.nil
           go_simp
           refine hK1 _ _ ?_
           clear hK1 K1
           refine wpAny_ready (rs := [7]) (by kernel_rfl) (by decide) ?_
           refine AllReady.cons rfl (fun K1 hK1 => ?_) AllReady.nil
           refine step_appV (TS := 93) (.tmp 36) (.tmp 38) _ _ _ (fun ty => PU.out ty) rfl rfl rfl rfl ?_
           rintro v9 w9 ⟨⟨a9, l9, c9, rfl⟩, z1, z2, r9⟩
           have R9 := hide r9
           clear r9
           refine hK1 _ _ ?_
           clear hK1 K1
           refine wpAny_take (i := 8) (v := ?_) rfl (by kernel_rfl) (by kernel_rfl) (by kernel_rfl) (fun _ _ _ h => h) (Or.inl ⟨by rfl, fun w => ?_⟩) ?_
           rotate_left 1
           · (go_simp <;> with_reducible rfl)
           simp only [Act.put, List.getElem_toArray, List.getElem_cons_zero, List.getElem_cons_succ, List.setIfInBounds_toArray, List.set_cons_zero, List.set_cons_succ]
           refine wpAny_take (i := 9) (v := ?_) rfl (by kernel_rfl) (by kernel_rfl) (by kernel_rfl) (fun _ _ _ h => h) (Or.inl ⟨by rfl, fun w => ?_⟩) ?_
           rotate_left 1
           · (go_simp <;> with_reducible rfl)
           simp only [Act.put, List.getElem_toArray, List.getElem_cons_zero, List.getElem_cons_succ, List.setIfInBounds_toArray, List.set_cons_zero, List.set_cons_succ]
           refine wpAny_ready (rs := [10]) (by kernel_rfl) (by decide) ?_
           refine AllReady.cons rfl (fun K1 hK1 => ?_) AllReady.nil
           go_simp
           refine hK1 _ _ ?_
           clear hK1 K1 z1 z2
           refine wpAny_done (by kernel_rfl) ?_ _
           go_wp2_with fail
           go_roundw
           case rel =>
             refine ⟨k + 1, by omega, by go_num, ?_⟩
             rw [HSN.out]
             refine ⟨_, ⟨_, _, _, _, _, R9.out.2.1⟩, fun k hk => ?_, B1.out.trans (R9.out.2.2.bel HF.out B1.out.size)⟩
             rcases hk with hk | hk | hk
             · exact HF.out k hk
             · rcases R9.out.1 k hk with h1 | h1
               · exact HF.out k (S0.out.fC k h1)
               · exact Nat.le_trans B1.out.size h1
             · exact O3.out k hk
           case measure => simp [intOf]; omega
         · go_simp
           refine hK1 _ _ ?_
           clear hK1 K1
           refine wpAny_ready (rs := [4]) (by kernel_rfl) (by decide) ?_
           refine AllReady.cons rfl (fun K1 hK1 => ?_) AllReady.nil
           have q := (show (W1.alloc (.cells #[.int .i64 qt, .int .i64 qr, .slice a3 nl c3] 97)).cell? ⟨gc, 2, none⟩ = some (.slice aQ nQ cQ) from ((bel_new W1 _).cell (p := ⟨gc, 2, none⟩) (S1.out.fb gc S1.out.fg)).trans S1.out.cells.2.2.1)
           go_simp
           refine hK1 _ _ ?_
           clear hK1 K1 q
           refine wpAny_ready (rs := [7]) (by kernel_rfl) (by decide) ?_
           refine AllReady.cons rfl (fun K1 hK1 => ?_) AllReady.nil
           refine step_appV (TS := 93) (.tmp 36) (.tmp 38) _ _ _ (fun ty => PU.out ty) rfl rfl rfl rfl ?_
           rintro v9 w9 ⟨⟨a9, l9, c9, rfl⟩, z1, z2, r9⟩
           have R9 := hide r9
           clear r9
           refine hK1 _ _ ?_
           clear hK1 K1
           refine wpAny_take (i := 8) (v := ?_) rfl (by kernel_rfl) (by kernel_rfl) (by kernel_rfl) (fun _ _ _ h => h) (Or.inl ⟨by rfl, fun w => ?_⟩) ?_
           rotate_left 1
           · (go_simp <;> with_reducible rfl)
           simp only [Act.put, List.getElem_toArray, List.getElem_cons_zero, List.getElem_cons_succ, List.setIfInBounds_toArray, List.set_cons_zero, List.set_cons_succ]
           refine wpAny_take (i := 9) (v := ?_) rfl (by kernel_rfl) (by kernel_rfl) (by kernel_rfl) (fun _ _ _ h => h) (Or.inl ⟨by rfl, fun w => ?_⟩) ?_
           rotate_left 1
           · (go_simp <;> with_reducible rfl)
           simp only [Act.put, List.getElem_toArray, List.getElem_cons_zero, List.getElem_cons_succ, List.setIfInBounds_toArray, List.set_cons_zero, List.set_cons_succ]
           refine wpAny_ready (rs := [10]) (by kernel_rfl) (by decide) ?_
           refine AllReady.cons rfl (fun K1 hK1 => ?_) AllReady.nil
           go_simp
           refine hK1 _ _ ?_
           clear hK1 K1 z1 z2
           refine wpAny_done (by kernel_rfl) ?_ _
           go_wp2_with fail
           go_roundw
           case rel =>
             refine ⟨k + 1, by omega, by go_num, ?_⟩
             rw [HSN.out]
             refine ⟨_, ⟨_, _, _, _, _, R9.out.2.1⟩, fun k hk => ?_, B1.out.trans (R9.out.2.2.bel HF.out B1.out.size)⟩
             rcases hk with hk | hk | hk
             · exact HF.out k hk
             · rcases R9.out.1 k hk with h1 | h1
               · exact HF.out k (S0.out.fC k h1)
               · exact Nat.le_trans B1.out.size h1
             · exact O3.out k hk
           case measure => simp [intOf]; omega
     · obtain rfl : k = nC := by omega
       have M3 : Hid (Mk w wr gc s) := hide (by
         have := M2.out
         rw [List.take_of_length_le (by rw [← HNC.out]; exact Nat.le_refl _)] at this
         exact this)
       clear M2
       go_wp2_with fail
       go_ret
       exact ⟨gc, rfl, M3.out⟩
end Go.Proofs.YtbiilnpblnjliaaDoor.Ck

/- Package act: channels' types. (Written by mk_b.py.) -/
namespace Go.Proofs.YtbiilnpblnjliaaDoor.Ck
open Go.RowKit

theorem wpList_appV {TS : TypeId} {w : World} {ops : Array Oper} {rest : List Oper} {o : Oper} {a : Act} {Q : Exit → Act → World → Prop} (hgd : o.guard = none) (s x : Operand)
    (ho : o.op = .call { callee := .builtin .append, args := #[s, x], argTypes := #[TS, TS] }) (v vx : Value) (hs : a.eval s = v) (hx : a.eval x = vx) (R : Value → World → Prop)
    (hrun : ∃ v' w', (Builtin.append_ #[TS, TS] o.type #[v, vx]).run Tryd.prog w = .ok v' w' ∧ R v' w')
    (h : ∀ v' w', R v' w' → wpList Tryd.prog ops Q rest (a.put o.dst v') w') : wpList Tryd.prog ops Q (o :: rest) a w :=
  wpList_plain hgd fun _ hK => by
    obtain ⟨v', w', hr, hR⟩ := hrun
    unfold Oper.wp execOp
    simp only [ho, resolve, invoke, builtin, Sem.run_bind, Sem.run_pure, Result.andThen_ok, List.map_toArray, List.map_cons, List.map_nil, hs, hx, hr]
    exact hK _ _ (h v' w' hR)
theorem push_i2 {w : World} {B : Nat} {v : Value} {l : List Int} {n : Nat} (hn : n = l.length) (hl : l.length ≤ 100000) (ho : w.ownsRow B 3 1 v n (nts l)) (hB : B ≤ w.heap.size) (x : Int) (ty : TypeId) :
    ∃ v' w', (Builtin.append_ #[22, 22] ty #[v, .slice (some ⟨w.heap.size, 0, none⟩) 1 1]).run Tryd.prog (w.alloc (.cells #[.int .i64 x] 3)) = .ok v' w' ∧ ((∃ a c, v' = .slice a (n + 1) c) ∧ w'.ownsRow B 3 1 v' (n + 1) (nts (l ++ [x])) ∧ w.grownBy w' v.ownBlock ∧ (∀ k, v'.ownBlock = some k → v.ownBlock = some k ∨ w.heap.size ≤ k)) := by
  obtain ⟨ie, hi, hz0, hz1, hz2⟩ := info_parts info3
  have hb := bel_new w (.cells #[.int .i64 x] 3)
  have o1 := own_keep ho (fun k hk => hb.block k (own_type ho hk).2.1)
  have hc : ∀ (j : Nat) (u : Value), (nts [x])[j]? = some u → (w.alloc (.cells #[.int .i64 x] 3)).cell? ((⟨w.heap.size, 0, none⟩ : Addr).add j) = some u := fun j u hu => by
    rw [show (⟨w.heap.size, 0, none⟩ : Addr).add j = ⟨w.heap.size, j, none⟩ by unfold Addr.add; by_cases h : j = 0 <;> simp [h]]
    exact blk_cell (Go.Deep.blk_alloc_new w _) j u (by simpa [nts] using hu)
  obtain ⟨v', w', hr, ho', hg, _, hat⟩ := run_append_own_at (P := Tryd.prog) (w.alloc (.cells #[.int .i64 x] 3)) B 22 ty 3 ie _ 1 8 Tryd.underlying22 hi hz0 hz1 hz2 rfl (by decide) v n (nts l) o1 ⟨w.heap.size, 0, none⟩ 1 1 (nts [x]) rfl hc (fun u hu => by simp [nts] at hu; subst hu; rfl) (by unfold maxLen; omega) (by omega) (Nat.le_trans hB hb.size)
  obtain ⟨a9, c9, e9, _⟩ := own_slice ho'
  refine ⟨v', w', hr, ⟨_, _, e9⟩, by rw [show nts (l ++ [x]) = nts l ++ nts [x] by simp [nts]]; exact ho', ⟨hg.os, hg.tape, hg.output, Nat.le_trans hb.size hg.size, fun k hk hne => (hg.block k (Nat.lt_of_lt_of_le hk hb.size) hne).trans (hb.block k hk)⟩, fun k hk => ?_⟩
  rcases hat with e | e
  · exact .inl (e.symm.trans hk)
  · rw [e] at hk
    right
    have := Option.some.inj hk
    simp at this
    omega
theorem isB_zero (k t : Int) (hk : 1 ≤ k ∧ k ≤ 3) : isB (zeroT k) 0 0 t = (k == t) := by
  have h : k = 1 ∨ k = 2 ∨ k = 3 := by omega
  rcases h with rfl | rfl | rfl <;> simp [isB, goodB, zeroT]
theorem map_set_t {C : List Qu} {i : Nat} {q q' : Qu} (hq : C[i]? = some q) (h : q'.t = q.t) : (C.set i q').map Qu.t = C.map Qu.t := by
  rw [List.map_set]
  exact set_same _ _ _ (by rw [List.getElem?_map, hq, h]; rfl)
/-- a state of its own, some calls later -/
def Sq (wc : World) (F : Nat → Prop) (wr : World) (g : Nat) (s : St) : Prop := ∃ F', Stt wr F' g s ∧ Ch F F' wc wr
/-- it has come up since w -/
def Sb (w wc : World) (F : Nat → Prop) (p : List Addr) : Prop := (∀ k, F k → w.heap.size ≤ k) ∧ Below w.heap.size w wc ∧ E2 w p
section
variable {w wc wr w' : World} {F : Nat → Prop} {g : Nat} {s s' : St} {p : List Addr} {v : Value} {f : FuncId} {args : Array Value}
theorem Sq.errs (h : Sq wc F wr g s) (hb : Sb w wc F p) : E2 wr p := by
  obtain ⟨F', h1, h2⟩ := h
  exact (Mk.of hb.1 hb.2.1 h1 h2).errs hb.2.2
theorem Sq.bel (h : Sq wc F wr g s) (hb : Below wr.heap.size wr w') : Sq wc F w' g s := by
  obtain ⟨F', h1, h2⟩ := h
  exact ⟨F', h1.bel hb, h2.trans (Ch.of_bel hb)⟩
theorem Sq.vb (h : Sq wc F wr g s) (hc : Calls Tryd.prog f args wr (Vb wr v)) : Calls Tryd.prog f args wr fun e w' => e = .returned v ∧ Sq wc F w' g s := hc.mono fun _ _ ⟨he, hb⟩ => ⟨he, h.bel hb⟩
theorem Sq.sp (h : Sq wc F wr g s) (hc : ∀ F', Stt wr F' g s → Calls Tryd.prog f args wr (Sp wr F' g s' v)) : Calls Tryd.prog f args wr fun e w' => e = .returned v ∧ Sq wc F w' g s' := by
  obtain ⟨F', h1, h2⟩ := h
  exact (hc F' h1).mono fun _ _ ⟨he, F'', h3, h4⟩ => ⟨he, F'', h3, h2.trans h4⟩
theorem Sq.st (h : Sq wc F wr g s) : ∃ F', Stt wr F' g s := by
  obtain ⟨F', h1, h2⟩ := h
  exact ⟨F', h1⟩
end
set_option maxRecDepth 20000 in
set_option maxHeartbeats 1000000 in
theorem chanType_in {w wc : World} {F : Nat → Prop} {g : Nat} {s : St} {p : List Addr} (h : Stt wc F g s) (hb : Sb w wc F p) (i : Nat) (q : Qu) (hq : s.C[i]? = some q) (ht : 1 ≤ q.t ∧ q.t ≤ 3) :
    Calls Tryd.prog 101 #[.pointer (some ⟨g, 0, none⟩), .int .i64 (i : Nat)] wc fun e w' => e = .returned (.int .i64 q.t) ∧ ∃ s', Sq wc F w' g s' ∧ s'.C.map Qu.t = s.C.map Qu.t := by
  have H : Hid (Sq wc F wc g s) := hide ⟨F, h, Ch.refl _ _⟩
  have H7 := hide hb
  have HQ := hide hq
  obtain ⟨t, htt⟩ : ∃ t, q.t = t := ⟨_, rfl⟩
  rw [htt] at ht ⊢
  have HT := hide htt
  clear h hb hq htt
  go_enter Tryd.func101, Tryd.ntmps101
  go_wp2_with fail
  go_loopw [5, 6, 7] (fun x5 x6 x7 wr => ∃ (k : Int), 1 ≤ k ∧ k ≤ t ∧ x5 = .int .i64 k ∧ Hid (Sq wc F wr g s)) (fun x5 x6 x7 _ => (4 - intOf x5).toNat)
  case atStart => exact ⟨1, by omega, ht.1, rfl, H⟩
  case round =>
    obtain ⟨k, hk1, hkt, rfl, HM⟩ := hrel
    have hk3 : k ≤ 3 := by omega
    have ZA := fun w => zero_any k w
    go_wp2_with fail
    refine (ZA _).mono ?_
    rintro e w1 ⟨rfl, hb⟩
    have M1 := hide (HM.out.bel hb)
    clear HM hb
    by_cases he : k = t
    · subst he
      have hB : Hid (isB (zeroT k) 0 0 q.t = true) := hide (by rw [isB_zero k _ ⟨hk1, hk3⟩, HT.out]; simp)
      by_cases hr : (q.l.length : Int) < q.room
      · have RM := hide (M1.out.sp fun F' hs => Send_room hs (M1.out.errs H7.out) i q HQ.out (zeroT k) 0 0 hB.out hr)
        generalize zeroT k = zk at *
        clear hr
        go_wp2_with fail
        refine RM.out.mono ?_
        rintro e w2 ⟨rfl, h2⟩
        have M2 := hide h2
        clear h2
        go_wp2_with fail
        go_ret
        exact ⟨rfl, _, M2.out, map_set_t HQ.out rfl⟩
      · obtain ⟨F', hs⟩ := M1.out.st
        have RM := hide (M1.out.vb (Send_full hs (M1.out.errs H7.out) i q HQ.out (zeroT k) 0 0 hB.out (by omega)))
        generalize zeroT k = zk at *
        clear hr hs
        go_wp2_with fail
        refine RM.out.mono ?_
        rintro e w2 ⟨rfl, h2⟩
        have M2 := hide h2
        clear h2
        go_wp2_with fail
        go_ret
        exact ⟨rfl, _, M2.out, rfl⟩
    · have hB : Hid (isB (zeroT k) 0 0 q.t = false) := hide (by rw [isB_zero k _ ⟨hk1, hk3⟩, HT.out]; simp [he])
      obtain ⟨F', hs⟩ := M1.out.st
      have RM := hide (M1.out.vb (Send_bad hs (M1.out.errs H7.out) i q HQ.out (zeroT k) 0 0 hB.out))
      have hlt : k < t := by omega
      clear hs
      unfold errV at *
      generalize adr p 4 = ad at *
      generalize zeroT k = zk at *
      go_wp2_with fail
      refine RM.out.mono ?_
      rintro e w2 ⟨rfl, h2⟩
      have M2 := hide h2
      clear h2 RM M1
      go_wp2_with fail
      go_roundw
      case rel => exact ⟨k + 1, by omega, by omega, by go_num, M2⟩
      case measure => simp [intOf]; omega
set_option maxRecDepth 20000 in
set_option maxHeartbeats 1000000 in
theorem chanType_out {w wc : World} {F : Nat → Prop} {g : Nat} {s : St} {p : List Addr} (h : Stt wc F g s) (hb : Sb w wc F p) (i : Int) (hi : i < 0 ∨ (s.C.length : Int) ≤ i) :
    Calls Tryd.prog 101 #[.pointer (some ⟨g, 0, none⟩), .int .i64 i] wc fun e w' => e = .returned (.int .i64 0) ∧ Sq wc F w' g s := by
  have H : Hid (Sq wc F wc g s) := hide ⟨F, h, Ch.refl _ _⟩
  have H7 := hide hb
  have HI := hide hi
  clear h hb hi
  go_enter Tryd.func101, Tryd.ntmps101
  go_wp2_with fail
  go_loopw [5, 6, 7] (fun x5 x6 x7 wr => ∃ (k : Int), 1 ≤ k ∧ k ≤ 4 ∧ x5 = .int .i64 k ∧ Hid (Sq wc F wr g s)) (fun x5 x6 x7 _ => (4 - intOf x5).toNat)
  case atStart => exact ⟨1, by omega, by omega, rfl, H⟩
  case round =>
    obtain ⟨k, hk1, hkt, rfl, HM⟩ := hrel
    by_cases hk3 : k ≤ 3
    · have ZA := fun w => zero_any k w
      go_wp2_with fail
      refine (ZA _).mono ?_
      rintro e w1 ⟨rfl, hb⟩
      have M1 := hide (HM.out.bel hb)
      clear HM hb
      obtain ⟨F', hs⟩ := M1.out.st
      have RM := hide (M1.out.vb (Send_out hs (M1.out.errs H7.out) i (zeroT k) 0 0 HI.out))
      clear hs
      unfold errV at *
      generalize adr p 0 = ad at *
      generalize zeroT k = zk at *
      go_wp2_with fail
      refine RM.out.mono ?_
      rintro e w2 ⟨rfl, h2⟩
      have M2 := hide h2
      clear h2 RM M1
      go_wp2_with fail
      go_roundw
      case rel => exact ⟨k + 1, by omega, by omega, by go_num, M2⟩
      case measure => simp [intOf]; omega
    · have e : k = 4 := by omega
      subst e
      go_wp2_with fail
      go_ret
      exact ⟨rfl, HM.out⟩
set_option maxRecDepth 20000 in
set_option maxHeartbeats 1000000 in
theorem chanTypes_any {w : World} {F : Nat → Prop} {g : Nat} {s : St} {p : List Addr} (h : Stt w F g s) (h17 : E2 w p) (ht : ∀ q ∈ s.C, 1 ≤ q.t ∧ q.t ≤ 3) :
    Calls Tryd.prog 87 #[.pointer (some ⟨g, 0, none⟩)] w fun e w' => ∃ a c, e = .returned (.slice a s.C.length c) ∧ w'.ownsRow w.heap.size 3 1 (.slice a s.C.length c) s.C.length (nts (s.C.map Qu.t)) ∧ Below w.heap.size w w' := by
  have CP := hide (Copy_any h)
  have H7 := hide h17
  have HT := hide ht
  have hn32 : s.C.length ≤ 32 := by
    obtain ⟨_, _, _, _, _, hS⟩ := h
    have := hS.small
    omega
  obtain ⟨n, hn⟩ : ∃ n, n = s.C.length := ⟨_, rfl⟩
  rw [← hn] at hn32 ⊢
  have HN := hide hn
  have CI : Hid (∀ (k : Nat) (wr : World) (F : Nat → Prop) (gc : Nat) (s' : St), Stt wr F gc s' → Sb w wr F p → s'.C.map Qu.t = s.C.map Qu.t → Calls Tryd.prog 101 #[.pointer (some ⟨gc, 0, none⟩), .int .i64 (k : Nat)] wr fun e w' => e = .returned (.int .i64 (((s.C.map Qu.t)[k]?).getD 0)) ∧ ∃ s'', Sq wr F w' gc s'' ∧ s''.C.map Qu.t = s.C.map Qu.t) := hide (fun k wr F gc s' hm hsb he => by
    by_cases hk : k < s'.C.length
    · have hq : s'.C[k]? = some s'.C[k] := List.getElem?_eq_getElem hk
      have e1 : (s.C.map Qu.t)[k]? = some s'.C[k].t := by rw [← he, List.getElem?_map, hq]; rfl
      rw [e1]
      have htq : 1 ≤ s'.C[k].t ∧ s'.C[k].t ≤ 3 := by
        rw [List.getElem?_map] at e1
        obtain ⟨q', hq', e2⟩ := Option.map_eq_some_iff.1 e1
        have := ht q' (List.mem_of_getElem? hq')
        rw [e2] at this
        exact this
      exact (chanType_in hm hsb k _ hq htq).mono fun e w' ⟨h1, s'', h2, h3⟩ => ⟨h1, s'', h2, h3.trans he⟩
    · have e1 : (s.C.map Qu.t)[k]? = none := by
        rw [← he]
        apply List.getElem?_eq_none
        simp
        omega
      rw [e1]
      exact (chanType_out hm hsb (k : Int) (by omega)).mono fun e w' ⟨h1, h2⟩ => ⟨h1, s', h2, he⟩)
  have TV : Hid (∀ k, k < n → (((s.C.map Qu.t)[k]?).getD 0) ≠ 0) := hide (fun k hk => by
    have hk' : k < s.C.length := by omega
    have e1 : (s.C.map Qu.t)[k]? = some (s.C[k]).t := by simp [hk']
    rw [e1]
    have := ht s.C[k] (List.getElem_mem hk')
    show s.C[k].t ≠ 0
    omega)
  have TE : Hid ((((s.C.map Qu.t)[n]?).getD 0) = 0) := hide (by
    have : (s.C.map Qu.t)[n]? = none := List.getElem?_eq_none (by simp; omega)
    rw [this]
    rfl)
  clear h h17 ht hn
  go_enter Tryd.func87, Tryd.ntmps87
  go_wp2_with fail
  refine CP.out.mono ?_
  rintro e w1 ⟨gc, rfl, F1, hs1, hF1, hb1⟩
  have C0 := hide (CI.out 0 w1 F1 gc s hs1 ⟨hF1, hb1, H7.out⟩ rfl)
  have M1 := hide (And.intro hF1 hb1)
  clear hs1 hF1 hb1 CP
  go_wp2_with fail
  refine C0.out.mono ?_
  rintro e w2 ⟨rfl, s2, ⟨F2, m2, c2⟩, e2⟩
  have M2 : Hid (Stt w2 F2 gc s2 ∧ Sb w w2 F2 p ∧ s2.C.map Qu.t = s.C.map Qu.t) := hide ⟨m2, ⟨c2.low M1.out.1 M1.out.2.size, M1.out.2.trans (c2.bel M1.out.1 M1.out.2.size), H7.out⟩, e2⟩
  clear m2 c2 e2 C0 M1
  obtain ⟨x0, hx0⟩ : ∃ x0, (((s.C.map Qu.t)[0]?).getD 0) = x0 := ⟨_, rfl⟩
  rw [hx0]
  have HX0 := hide hx0
  clear hx0
  go_wp2_with fail
  go_loopw [4, 5] (fun x4 x5 wr => ∃ (k : Nat) (a : Option Addr) (c : Nat) (y : Int), k ≤ n ∧ x4 = .slice a k c ∧ x5 = .int .i64 y ∧ Hid (y = (((s.C.map Qu.t)[k]?).getD 0)) ∧ Hid (wr.ownsRow w.heap.size 3 1 (.slice a k c) k (nts ((s.C.map Qu.t).take k)) ∧ ∃ F' s', Stt wr F' gc s' ∧ Sb w wr F' p ∧ s'.C.map Qu.t = s.C.map Qu.t ∧ ∀ j, (Value.slice a k c).ownBlock = some j → ¬ F' j)) (fun x4 x5 _ => n - (match x4 with | .slice _ k _ => k | _ => 0))
  case atStart => exact ⟨0, none, 0, x0, Nat.zero_le _, rfl, rfl, hide HX0.out.symm, hide ⟨World.ownsRow_nil _ _ _ _, F2, s2, M2.out.1, M2.out.2.1, M2.out.2.2, fun j hj => by cases hj⟩⟩
  case round =>
    obtain ⟨k, a, c, y, hk, rfl, rfl, hy, HO⟩ := hrel
    by_cases hlt : k < n
    · have hy0 : y ≠ 0 := by rw [hy.out]; exact TV.out k hlt
      have hyb : (y == 0) = false := by simp [hy0]
      have PU := hide (fun ty => push_i2 (n := k) (l := (s.C.map Qu.t).take k) (by simp; have := HN.out; omega) (by simp; omega) HO.out.1 (by obtain ⟨_, _, _, _, hb, _⟩ := HO.out; exact hb.2.1.size) y ty)
      have TS : Hid ((s.C.map Qu.t).take (k + 1) = (s.C.map Qu.t).take k ++ [y]) := hide (by
        rw [take_snoc _ k 0 (by simp; have := HN.out; omega), hy.out, List.getD_eq_getElem?_getD])
      go_wp2_with (first | (at_builtin; refine wpList_appV (TS := 22) rfl (.tmp 16) (.tmp 18) rfl _ _ rfl rfl _ (PU.out _) ?_; rintro v9 w9 ⟨⟨a9, c9, rfl⟩, r9⟩; have R9 := hide r9; clear r9))
      obtain ⟨o1, F', s', hs, hsb, hm, hd⟩ := HO.out
      obtain ⟨o9, g9, b9⟩ := R9.out
      have hs9 : Stt w9 F' gc s' := hs.keep (fun j hj => g9.block j (hs.fb j hj) (fun e => hd j e.symm hj)) g9.size
      have hsb9 : Sb w w9 F' p := ⟨hsb.1, hsb.2.1.grown g9 hsb.2.1.size (fun j hj => (own_type o1 hj).1), hsb.2.2⟩
      have hd9 : ∀ j, (Value.slice a9 (k + 1) c9).ownBlock = some j → ¬ F' j := fun j hj hF => by
        rcases b9 j hj with h1 | h1
        · exact hd j h1 hF
        · have := hs.fb j hF
          omega
      have C9 := hide (CI.out (k + 1) w9 F' gc s' hs9 hsb9 hm)
      have K9 : Hid (Sb w w9 F' p ∧ (∀ j, (Value.slice a9 (k + 1) c9).ownBlock = some j → ¬ F' j) ∧ w9.ownsRow w.heap.size 3 1 (.slice a9 (k + 1) c9) (k + 1) (nts ((s.C.map Qu.t).take (k + 1)))) := hide ⟨hsb9, hd9, by rw [TS.out]; exact o9⟩
      clear o1 hs hsb hm hd o9 g9 b9 hs9 hsb9 hd9 R9 PU HO
      refine C9.out.mono ?_
      rintro e w10 ⟨rfl, s3, ⟨F3, m3, c3⟩, e3⟩
      have K10 : Hid (Stt w10 F3 gc s3 ∧ Ch F' F3 w9 w10 ∧ s3.C.map Qu.t = s.C.map Qu.t) := hide ⟨m3, c3, e3⟩
      clear m3 c3 e3 C9
      obtain ⟨y9, hy9⟩ : ∃ y9, (((s.C.map Qu.t)[k + 1]?).getD 0) = y9 := ⟨_, rfl⟩
      rw [hy9]
      have HY9 := hide hy9
      clear hy9
      go_wp2_with fail
      go_roundw
      case rel =>
        obtain ⟨k1, k2, k3⟩ := K9.out
        obtain ⟨m3, c3, e3⟩ := K10.out
        refine ⟨k + 1, a9, c9, y9, by omega, rfl, rfl, hide HY9.out.symm, hide ⟨own_keep k3 (fun j hj => c3.blk j (own_type k3 hj).2.1 (k2 j hj)), F3, s3, m3, ⟨c3.low k1.1 k1.2.1.size, k1.2.1.trans (c3.bel k1.1 k1.2.1.size), k1.2.2⟩, e3, fun j hj hF => ?_⟩⟩
        rcases c3.grow j hF with h1 | h1
        · exact k2 j hj h1
        · have := (own_type k3 hj).2.1
          omega
      case measure => simp; omega
    · obtain rfl : k = n := by omega
      have e0 : y = 0 := by rw [hy.out]; exact TE.out
      subst e0
      have TK : Hid ((s.C.map Qu.t).take k = s.C.map Qu.t) := hide (List.take_of_length_le (by simp; have := HN.out; omega))
      go_wp2_with fail
      go_ret
      refine ⟨a, c, rfl, ?_, ?_⟩
      · have := HO.out.1
        rw [TK.out] at this
        exact this
      · obtain ⟨_, _, _, _, hb, _⟩ := HO.out
        exact hb.2.1
end Go.Proofs.YtbiilnpblnjliaaDoor.Ck

/- Package act: what an event does; an EvSend from hand to hand. (Written by mk_a.py.) -/
namespace Go.Proofs.YtbiilnpblnjliaaDoor.Ck
open Go.RowKit

theorem lk_range {α : Type} {l : List α} {i : Int} {x : α} (h : lk l i = some x) : 0 ≤ i ∧ l[i.toNat]? = some x := by
  unfold lk at h
  split at h
  · rename_i h0
    exact ⟨h0, h⟩
  · cases h
theorem share_t (s : St) (w : Wt) : (shareR s w).1.C.map Qu.t = s.C.map Qu.t := by
  unfold shareR
  split
  · rfl
  split
  · rfl
  split
  · rfl
  split
  · rfl
  split
  · split
    · rename_i q hq
      exact map_set_t (lk_range hq).2 rfl
    · rfl
  split
  · split
    · rename_i q hq
      exact map_set_t (lk_range hq).2 rfl
    · rfl
  split
  · rfl
  split
  · rfl
  split
  · rfl
  rfl
theorem share_any {w : World} {F : Nat → Prop} {g : Nat} {r : Rm} {p : List Addr} (h : Stt w F g r.s) (h17 : E2 w p) (k o a v0 v1 v2 : Int) (aa : Option Addr) (na ca : Nat) (hc : canW r ⟨k, o, a, (v0, v1, v2)⟩ = true) (h10 : k ≠ 10) (h12 : k ≠ 12) (h5 : k = 5 → roomZ r.s o = false) :
    Calls Tryd.prog 109 #[.pointer (some ⟨g, 0, none⟩), .agg #[.int .i64 k, .int .i64 o, .int .i64 a, .int .i64 v0, .int .i64 v1, .int .u64 v2, .slice aa na ca]] w (Sp w F g (shareR r.s ⟨k, o, a, (v0, v1, v2)⟩).1 (.agg #[.int .i64 (shareR r.s ⟨k, o, a, (v0, v1, v2)⟩).2.1, .int .i64 (shareR r.s ⟨k, o, a, (v0, v1, v2)⟩).2.2.1, .int .u64 (shareR r.s ⟨k, o, a, (v0, v1, v2)⟩).2.2.2])) := by
  have hk : k = 1 ∨ k = 2 ∨ k = 3 ∨ k = 4 ∨ k = 5 ∨ k = 6 ∨ k = 7 ∨ k = 8 ∨ k = 9 ∨ k = 11 := by
    by_cases hh : k = 1 ∨ k = 2 ∨ k = 3 ∨ k = 4 ∨ k = 5 ∨ k = 6 ∨ k = 7 ∨ k = 8 ∨ k = 9 ∨ k = 11
    · exact hh
    · have : canW r ⟨k, o, a, (v0, v1, v2)⟩ = false := by
        unfold canW
        simp only
        rw [if_neg (by omega), if_neg (by omega), if_neg (by omega), if_neg (by omega), if_neg (by omega), if_neg (by omega)]
        simp
        omega
      rw [this] at hc
      cases hc
  rcases hk with rfl | rfl | rfl | rfl | rfl | rfl | rfl | rfl | rfl | rfl
  · have hc' : canA r.s ⟨1, o, a, (v0, v1, v2)⟩ = true := hc
    unfold canA at hc'
    cases hl : lk r.s.P o with
    | none => simp [hl] at hc'
    | some x =>
      obtain ⟨i, rfl, hi⟩ := lk_some hl
      have e : shareR r.s ⟨1, (i : Int), a, (v0, v1, v2)⟩ = (r.s, x) := by unfold shareR; simp only [if_true]; rw [hl]; rfl
      rw [e]
      exact share_1 h h17 a v0 v1 v2 aa na ca i x hi
  · have hc' : canA r.s ⟨2, o, a, (v0, v1, v2)⟩ = true := hc
    unfold canA at hc'
    cases hl : lk r.s.P o with
    | none => simp [hl] at hc'
    | some x =>
      rw [hl] at hc'
      obtain ⟨i, rfl, hi⟩ := lk_some hl
      exact share_2 h h17 a v0 v1 v2 aa na ca i x hi (by simpa [isV] using hc')
  · have hc' : canL r.s ⟨3, o, a, (v0, v1, v2)⟩ = true := hc
    unfold canL at hc'
    cases hl : lk r.s.M o with
    | none => simp [hl] at hc'
    | some x =>
      obtain ⟨i, rfl, hi⟩ := lk_some hl
      exact share_3 h h17 a v0 v1 v2 aa na ca i x hi
  · have hc' : (lk r.s.M o).isSome = true := hc
    cases hl : lk r.s.M o with
    | none => simp [hl] at hc'
    | some x =>
      obtain ⟨i, rfl, hi⟩ := lk_some hl
      exact share_4 h h17 a v0 v1 v2 aa na ca i x hi
  · have hc' : canS r ⟨5, o, a, (v0, v1, v2)⟩ = true := hc
    have hz := h5 rfl
    unfold canS at hc'
    unfold roomZ at hz
    cases hl : lk r.s.C o with
    | none => simp [hl] at hc'
    | some q =>
      rw [hl] at hc' hz
      simp only [Bool.and_eq_true, isV] at hc'
      have hz' : ¬ q.room = 0 := by simpa using hz
      rw [if_neg hz'] at hc'
      obtain ⟨i, rfl, hi⟩ := lk_some hl
      have e : shareR r.s ⟨5, (i : Int), a, (v0, v1, v2)⟩ = ({ r.s with C := r.s.C.set i { q with l := q.l ++ [(v0, v1, v2)] } }, z3) := by
        have e0 : shareR r.s ⟨5, (i : Int), a, (v0, v1, v2)⟩ = (match lk r.s.C (i : Int) with | some q => ({ r.s with C := r.s.C.set (i : Int).toNat { q with l := q.l ++ [(v0, v1, v2)] } }, z3) | none => (r.s, z3)) := rfl
        rw [e0, hl]
        rfl
      rw [e]
      exact share_5 h h17 a v0 v1 v2 aa na ca i q hi hc'.1 (by simpa using hc'.2)
  · have hc' : canR r.s ⟨6, o, a, (v0, v1, v2)⟩ = true := hc
    unfold canR at hc'
    cases hl : lk r.s.C o with
    | none => simp [hl] at hc'
    | some q =>
      rw [hl] at hc'
      simp only [decide_eq_true_eq] at hc'
      obtain ⟨i, rfl, hi⟩ := lk_some hl
      cases hq : q.l with
      | nil => rw [hq] at hc'; simp at hc'
      | cons y l =>
        have e : shareR r.s ⟨6, (i : Int), a, (v0, v1, v2)⟩ = ({ r.s with C := r.s.C.set i { q with l := l } }, y) := by
          have e0 : shareR r.s ⟨6, (i : Int), a, (v0, v1, v2)⟩ = (match lk r.s.C (i : Int) with | some q => ({ r.s with C := r.s.C.set (i : Int).toNat { q with l := q.l.tail } }, q.l.headD z3) | none => (r.s, z3)) := rfl
          rw [e0, hl]
          simp only [hq]
          rfl
        rw [e]
        exact share_6 h h17 a v0 v1 v2 aa na ca i q hi y l hq
  · have hc' : canC r.s ⟨7, o, a, (v0, v1, v2)⟩ = true := hc
    unfold canC at hc'
    cases hl : lk r.s.A o with
    | none => simp [hl] at hc'
    | some x =>
      obtain ⟨i, rfl, hi⟩ := lk_some hl
      have e : shareR r.s ⟨7, (i : Int), a, (v0, v1, v2)⟩ = (r.s, (1, x, 0)) := by
        have e0 : shareR r.s ⟨7, (i : Int), a, (v0, v1, v2)⟩ = (r.s, (1, (lk r.s.A (i : Int)).getD 0, 0)) := rfl
        rw [e0, hl]
        rfl
      rw [e]
      exact share_7 h h17 a v0 v1 v2 aa na ca i x hi
  · have hc' : canC r.s ⟨8, o, a, (v0, v1, v2)⟩ = true := hc
    unfold canC at hc'
    cases hl : lk r.s.A o with
    | none => simp [hl] at hc'
    | some x =>
      obtain ⟨i, rfl, hi⟩ := lk_some hl
      exact share_8 h h17 a v0 v1 v2 aa na ca i x hi
  · have hc' : canC r.s ⟨9, o, a, (v0, v1, v2)⟩ = true := hc
    unfold canC at hc'
    cases hl : lk r.s.A o with
    | none => simp [hl] at hc'
    | some x =>
      obtain ⟨i, rfl, hi⟩ := lk_some hl
      have e : shareR r.s ⟨9, (i : Int), a, (v0, v1, v2)⟩ = ({ r.s with A := r.s.A.set i (wrap64 (x + v1)) }, z3) := by
        have e0 : shareR r.s ⟨9, (i : Int), a, (v0, v1, v2)⟩ = ({ r.s with A := r.s.A.set (i : Int).toNat (wrap64 ((lk r.s.A (i : Int)).getD 0 + v1)) }, z3) := rfl
        rw [e0, hl]
        rfl
      rw [e]
      exact share_9 h h17 a v0 v1 v2 aa na ca i x hi
  · exact share_11 h h17 a v0 v1 v2 aa na ca o
set_option maxRecDepth 20000 in
set_option maxHeartbeats 1000000 in
theorem meet_any {w : World} {G : Nat → Prop} {g : Nat} {S : List (List Wt)} {r : Rm} (h : Rn w G g S r) (i t : Nat) (x y : Gr) (hx : r.gs[i]? = some x) (hl : r.ev.length ≤ 90000) (k o a v0 v1 v2 : Int) (aa : Option Addr) (na ca : Nat) (ht : recvR r.gs o = some t) (hy : r.gs[t]? = some y) :
    Calls Tryd.prog 107 #[.pointer (some ⟨g, 0, none⟩), .int .i64 (i : Nat), .agg #[.int .i64 k, .int .i64 o, .int .i64 a, .int .i64 v0, .int .i64 v1, .int .u64 v2, .slice aa na ca]] w (RnP w G g S (meetR r i ⟨k, o, a, (v0, v1, v2)⟩) (.tuple #[])) := by
  have B0 := hide (bel_new w (.cells #[.int .i64 k, .int .i64 o, .int .i64 a, .int .i64 v0, .int .i64 v1, .int .u64 v2, .slice aa na ca] 133))
  have V0 := hide (Wv.new w k o a v0 v1 v2 (.slice aa na ca))
  have NG : Hid (¬ G w.heap.size) := hide (fun hG => absurd (h.fb _ hG) (by omega))
  have RC := hide (receiver_any (h.bel B0.out) o)
  have hri : recvI r.gs o = t := by unfold recvI; rw [ht]
  rw [hri] at RC
  have HR := hide (h.bel B0.out)
  obtain ⟨r1, hr1⟩ : ∃ r1, r1 = noteR r i o := ⟨_, rfl⟩
  obtain ⟨r2, hr2⟩ : ∃ r2, r2 = noteR r1 t o := ⟨_, rfl⟩
  have hg1 : Hid (r1.gs = r.gs) := hide (by rw [hr1]; exact note_gs _ _ _)
  have hg2 : Hid (r2.gs = r1.gs) := hide (by rw [hr2]; exact note_gs _ _ _)
  have hl1 : Hid (r1.ev.length ≤ 90001) := hide (by rw [hr1]; have := note_len r i o; omega)
  have em : meetR r i ⟨k, o, a, (v0, v1, v2)⟩ = (match askR r2 i with | (r2, true) => (askR r2 t).1 | (r2, false) => r2) := by
    unfold meetR
    simp only [ht]
    rw [← hr1, ← hr2]
    generalize askR r2 i = q
    obtain ⟨qa, qb⟩ := q
    cases qb <;> rfl
  rw [em]
  obtain ⟨q, hq⟩ : ∃ q, askR r2 i = q := ⟨_, rfl⟩
  rw [hq]
  have hq3 : Hid (∃ z, q.1.gs[t]? = some z) := hide ⟨_, List.getElem?_eq_getElem (by rw [← hq, ask_gs, hg2.out, hg1.out]; exact (List.getElem?_eq_some_iff.1 hy).1)⟩
  have HX := hide (And.intro hx hy)
  have HL := hide hl
  have H1 := hide hr1
  have H2 := hide hr2
  have HQ := hide hq
  clear h hri em hx hy hl hr1 hr2 hq ht
  obtain ⟨r3, bq⟩ := q
  go_enter Tryd.func107, Tryd.ntmps107
  go_upto_region 1 with fail
  generalize w.alloc (.cells #[.int .i64 k, .int .i64 o, .int .i64 a, .int .i64 v0, .int .i64 v1, .int .u64 v2, .slice aa na ca] 133) = w1 at *
  obtain ⟨q0, q1, q2, q3, q4, q5, q6⟩ := V0.out.all
  go_wp2_with fail
  refine RC.out.mono ?_
  rintro e w2 ⟨rfl, b2⟩
  have V2 := hide (V0.out.al b2)
  have NO := hide (note_any (HR.out.bel b2) i x HX.out.1 o (by have := HL.out; omega))
  rw [← H1.out] at NO
  have C2 := hide (bel_trans B0.out b2)
  have L2 := hide (V0.out.al b2).lt
  clear b2 RC q0 q1 q2 q3 q4 q5 q6 V0 HR
  obtain ⟨q0, q1, q2, q3, q4, q5, q6⟩ := V2.out.all
  go_wp2_with fail
  refine NO.out.mono ?_
  rintro e w3 ⟨rfl, G3, rn3, c3⟩
  obtain ⟨k3, n3, l3⟩ := c3.keepB NG.out L2.out
  have V3 : Hid (Wv w3 w.heap.size k o a (v0, v1, v2) (.slice aa na ca)) := hide (k3.trans V2.out)
  have N3 := hide (And.intro n3 l3)
  have NO2 := hide (note_any rn3 t y (by rw [hg1.out]; exact HX.out.2) o (by have := hl1.out; omega))
  rw [← H2.out] at NO2
  have C3 := hide ((Ch.of_bel C2.out).trans c3)
  clear rn3 c3 NO k3 n3 l3 q0 q1 q2 q3 q4 q5 q6 V2 C2
  obtain ⟨q0, q1, q2, q3, q4, q5, q6⟩ := V3.out.all
  go_wp2_with fail
  refine NO2.out.mono ?_
  rintro e w4 ⟨rfl, G4, rn4, c4⟩
  obtain ⟨k4, n4, l4⟩ := c4.keepB N3.out.1 N3.out.2
  have V4 : Hid (Wv w4 w.heap.size k o a (v0, v1, v2) (.slice aa na ca)) := hide (k4.trans V3.out)
  have N4 := hide (And.intro n4 l4)
  have AK := hide (ask_any rn4 i x (by rw [hg2.out, hg1.out]; exact HX.out.1) 0 0 0)
  rw [HQ.out] at AK
  have C4 := hide (C3.out.trans c4)
  clear rn4 c4 NO2 k4 n4 l4 q0 q1 q2 q3 q4 q5 q6 V3 C3 N3
  go_wp2_with fail
  refine AK.out.mono ?_
  rintro e w5 ⟨rfl, G5, rn5, c5⟩
  obtain ⟨k5, n5, l5⟩ := c5.keepB N4.out.1 N4.out.2
  have V5 : Hid (Wv w5 w.heap.size k o a (v0, v1, v2) (.slice aa na ca)) := hide (k5.trans V4.out)
  have C5 := hide (And.intro rn5 (C4.out.trans c5))
  clear rn5 c5 AK C4 k5 n5 l5 V4 N4
  cases bq with
  | true =>
    obtain ⟨z, hz⟩ := hq3.out
    have AK := hide (ask_any C5.out.1 t z hz v0 v1 v2)
    clear hz
    obtain ⟨q0, q1, q2, q3, q4, q5, q6⟩ := V5.out.all
    go_wp2_with fail
    refine AK.out.mono ?_
    rintro e w6 ⟨rfl, G6, rn6, c6⟩
    have C6 := hide (And.intro rn6 (C5.out.2.trans c6))
    clear rn6 c6 AK C5
    go_wp2_with fail
    go_end0
    exact RnP.mk rfl C6.out.1 C6.out.2
  | false =>
    go_wp2_with fail
    go_end0
    exact RnP.mk rfl C5.out.1 C5.out.2
end Go.Proofs.YtbiilnpblnjliaaDoor.Ck
