/- The contract of a state's Take. -/
import Derived.Test.YtejhhkhaoekkiaaDoorSt
namespace Go.Proofs.YtejhhkhaoekkiaaDoor.Ck
open Go.RowKit

def lenOf : Value → Nat
  | .slice _ n _ => n
  | _ => 0

theorem cut_by {w : World} {b off n c : Nat} {R : List Int} (h : SB w (.slice (some ⟨b, off, none⟩) n c) R) (hn : n = R.length) (k : Nat) (hk : k ≤ n) : SB w (.slice (some ⟨b, if c = k then off else off + k, none⟩) (n - k) (c - k)) (R.drop k) := by
  have hc := h.cap
  refine ⟨fit8_drop h.fits k, some ⟨b, if c = k then off else off + k, none⟩, c - k, by rw [List.length_drop, hn], by rw [List.length_drop, ← hn]; omega, by omega, fun i hi => ?_⟩
  rw [List.length_drop, ← hn] at hi
  obtain ⟨b', off', e, h1, h2⟩ := h.at (k + i) (by omega)
  cases e
  rw [if_neg (by omega)]
  refine ⟨b, off + k, rfl, h1, ?_⟩
  rw [Nat.add_assoc, h2]
  simp [List.getD]
theorem off_cut {g b off n c : Nat} (h : OffB g (.slice (some ⟨b, off, none⟩) n c)) (hn : 0 < n) (x n' c' : Nat) : OffB g (.slice (some ⟨b, x, none⟩) n' c') := fun a n c e _ => by
  cases e
  exact h ⟨b, off, none⟩ _ _ rfl hn

set_option maxRecDepth 20000 in
set_option maxHeartbeats 2000000 in
theorem take_any (g : Nat) (m bs : List Int) (v : Value) (w : World) (hs : St w g m) (hv : SB w v bs) (ho : OffB g v) (htab : Tab w) (hg0 : g ≠ 0) (hlen : m.length + bs.length ≤ 1000000000) :
    Calls Tryd.prog 10 #[.pointer (some ⟨g, 0, none⟩), v] w fun e w' => e = .returned (.pointer (some ⟨g, 0, none⟩)) ∧ St w' g (m ++ bs) ∧ Tn g w w' := by
  have HL := hide hlen
  clear hlen
  go_enter Tryd.func10, Tryd.ntmps10
  go_wp2_with fail
  go_loopw [1] (fun b wr => ∃ M R, Hid (M ++ R = m ++ bs) ∧ SB wr b R ∧ OffB g b ∧ St wr g M ∧ Tn g w wr) (fun b _ => lenOf b)
  case atStart => exact ⟨m, bs, rfl, hv, ho, hs, Tn.refl _ _⟩
  case round =>
    obtain ⟨M, R, EM, hR, hoR, ⟨Bf, hT, hB⟩, tn⟩ := hrel
    have hMl : Hid (M.length + R.length ≤ 1000000000) := by
      show _ ≤ _
      have := congrArg List.length EM.out
      have h2 := HL.out
      simp only [List.length_append] at this
      omega
    obtain ⟨a, c, rfl, hc1, hc2⟩ := hR.form
    unfold maxLen at hc2
    obtain ⟨n, en⟩ : ∃ n, n = R.length := ⟨_, rfl⟩
    have En := hide en
    rw [← en] at hR hoR hc1 ⊢
    by_cases hn : n = 0
    · subst hn
      go_wp2_with fail
      go_ret
      have hR0 : R = [] := List.eq_nil_of_length_eq_zero En.out.symm
      have := EM.out
      rw [hR0, List.append_nil] at this
      exact ⟨rfl, by rw [← this]; exact ⟨Bf, hT, hB⟩, tn⟩
    · have hn1 : 0 < n := by omega
      have hnl : n ≤ 1000000000 := by have := hMl.out; omega
      obtain ⟨L, eL⟩ : ∃ L, L = M.length := ⟨_, rfl⟩
      have EL := hide eL
      have hLl : L ≤ 1000000000 := by have := hMl.out; omega
      have q0 := hB.cell 72
      rw [stc_taken _ _ _ (hashB_len _ _) hT.1, ← eL] at q0
      obtain ⟨r, er⟩ : ∃ r, r = L % 64 := ⟨_, rfl⟩
      have Er := hide er
      have hr : (L : Int) % 64 = (r : Int) := by omega
      have hr1 : (0 : Int) ≤ (r : Int) ∧ (r : Int) < 64 := by omega
      have hr2 : (r : Int) ≤ 64 := by omega
      have hr3 : ¬ 64 = r := by omega
      clear eL en hn er
      obtain ⟨b0, off0, rfl, hb0, _⟩ := hR.at 0 hn1
      go_wp2_with fail
      refine wp_quiet_tail 10 mixed (by kernel_rfl) ?_
      simp only [List.take_succ_cons, List.take_zero, List.drop_succ_cons, List.drop_zero]
      repeat (first | go_big_quiet_skip | (go_big_quiet_want; go_big_quiet_op; go_big_quiet_on))
      refine wpQuiet_nil ?_
      obtain ⟨k, ek⟩ : ∃ k, k = min n (64 - r) := ⟨_, rfl⟩
      have Ek := hide ek
      have hk1 : 0 < k := by omega
      have hk2 : k ≤ n := by omega
      have hk3 : r + k ≤ 64 := by omega
      clear ek
      have HC : Hid (∃ ad, some (Addr.mk b0 off0 none) = some ad ∧ ∀ j v, (bv (R.take k))[j]? = some v → wr.drew.cell? (ad.add j) = some v) := by
        rcases app_srcB hR with ⟨ad, c', e1, e2⟩ | ⟨c', e1, _⟩
        · cases e1
          refine ⟨_, rfl, fun j v hj => e2 j v ?_⟩
          obtain ⟨h1, h2⟩ := bv_get _ _ _ hj
          rw [List.length_take] at h1
          rw [bv_at _ _ (by omega), h2]
          simp only [List.getD, List.getElem?_take_of_lt (show j < k by omega)]
        · have := congrArg lenOf e1
          simp [lenOf] at this
          omega
      have HCl : Hid ((bv (R.take k)).length = k) := by show _ = _; rw [bv_len, List.length_take, ← En.out]; omega
      have HCn : Hid ((bv (R.take k)).length = Nat.min n (64 - r)) := HCl.out.trans Ek.out
      have HCf : Hid (8 + r + (bv (R.take k)).length ≤ (stc (hashB M (M.length / 64)) Bf M.length).length) := by show _ ≤ _; rw [stc_len _ _ _ (hashB_len _ _) hT.1, HCl.out]; omega
      have HCB := hide hB.drew
      obtain ⟨cs, ecs⟩ : ∃ cs, cs = bv (R.take k) := ⟨_, rfl⟩
      have Ecs := hide ecs
      rw [← ecs] at HC HCl HCn HCf
      have h1 : Hid (∀ v ∈ cs, v.oneCell' = true) := by show ∀ v ∈ cs, _; rw [ecs]; exact bv_one _
      clear ecs
      have HX : Hid (∀ w2, Blk w2 g 57 (splice (stc (hashB M (M.length / 64)) Bf M.length) (8 + r) cs) → Blk w2 g 57 (stc (hashB M (M.length / 64)) (splice Bf r (R.take k)) M.length) ∧ w2.cell? ⟨g, 72, none⟩ = some (.int .u64 L) ∧ w2.frozen? ⟨g, 72, none⟩ = false) := fun w2 h => by
        have hl8 : (wv (hashB M (M.length / 64))).length = 8 := by rw [wv_len, hashB_len]
        have hk64 : r + (R.take k).length ≤ Bf.length := by rw [hT.1, List.length_take, ← En.out]; omega
        have e : splice (stc (hashB M (M.length / 64)) Bf M.length) (8 + r) cs = stc (hashB M (M.length / 64)) (splice Bf r (R.take k)) M.length := by
          unfold stc
          rw [Ecs.out, ← hl8, splice_in _ _ _ _ _ (by rw [bv_len, bv_len]; exact hk64)]
          unfold bv
          rw [splice_map]
        rw [e] at h
        refine ⟨h, ?_, h.frozen _⟩
        rw [h.cell, stc_taken _ _ _ (hashB_len _ _) (by rw [length_splice _ _ _ hk64]; exact hT.1), EL.out]
      have kk1 : (0 : Int) ≤ (k : Int) ∧ (k : Int) ≤ (n : Int) := by omega
      have kk2 : (k : Int) ≤ (c : Int) := by omega
      have hLk : (L : Int) + (k : Int) ≤ 2000000000 := by omega
      have hfit : Fit8 (R.take k) := fit8_take hR.fits k
      have EMk : Hid ((M ++ R.take k) ++ R.drop k = m ++ bs) := by show _ = _; rw [List.append_assoc, List.take_append_drop]; exact EM.out
      have HRk := hide (cut_by hR En.out k hk2)
      have HOk := hide (off_cut hoR hn1 (if c = k then off0 else off0 + k) (n - k) (c - k))
      have Etk : Hid ((R.take k).length = k) := by show _ = _; rw [List.length_take, ← En.out]; omega
      have HTl : Hid (M.length % 64 = r) := by show _ = _; rw [← EL.out]; exact Er.out.symm
      by_cases hfull : r + k = 64
      · have HF := tail_full hT hfit (by rw [HTl.out, Etk.out]; exact hfull)
        rw [HTl.out] at HF
        have HF := hide HF
        have hmod : ((L : Int) + (k : Int)) % 64 = 0 := by omega
        have hl64 : Hid ((splice Bf r (R.take k)).length = 64) := HF.out.1.1
        clear hfit hT
        go_wp2_with (first | (refine wpList_copyB (.tmp 17) (.tmp 18) g (8 + r) (64 - r) (64 - r) _ n c _ 57 HCB.out cs HCn.out (fun _ => HC.out) HCf.out h1.out rfl rfl rfl rfl ?_; intro w2 b2 t2 s2; obtain ⟨b3, q2, q3⟩ := HX.out w2 b2; clear b2; rw [HCl.out]))
        all_goals
          have T4 := b3.set 72 (.int .u64 ((L + k : Nat) : Int))
          rw [stc_set _ _ _ _ (hashB_len _ _) hl64.out, Int.natCast_add] at T4
          have b4 := T4.1
          have tr := (Tn.trans (Tn.refl g wr).drew t2).trans T4.2
          have t4 := tn.trans tr
          clear T4 q2 q3 b3 t2 s2 HX HCB HC HCl HCn HCf h1 Ecs q0
          generalize w2.setCell ⟨g, 72, none⟩ (.int .u64 ((L : Int) + (k : Int))) = w4 at *
          first | (rw [if_pos (by assumption)] at HRk HOk; rw [show c - k = 0 by omega] at HRk HOk) | rw [if_neg (by assumption)] at HRk HOk
          have ELk : Hid (L + k = (M ++ R.take k).length) := by show _ = _; rw [List.length_append, Etk.out, ← EL.out]
          have hld : w4.drew.rangeAt g 8 (bv (splice Bf r (R.take k))) := b4.drew.range 8 _ (fun j hj => by
            rw [bv_len, hl64.out] at hj
            unfold stc
            rw [List.getElem?_append_right (by rw [wv_len, hashB_len]; omega), wv_len, hashB_len, Nat.add_sub_cancel_left, List.getElem?_append_left (by rw [bv_len, hl64.out]; exact hj)])
          have hsz : Hid ((Tryd.prog.info? 55).map (·.size) = some (bv (splice Bf r (R.take k))).length) := by show _ = _; rw [bv_len, hl64.out]; exact info57
          refine wp_quiet_tail 7 mixed (by kernel_rfl) ?_
          simp only [List.take_succ_cons, List.take_zero, List.drop_succ_cons, List.drop_zero]
          repeat (first | go_big_quiet_skip | (go_big_quiet_want; first | (refine quiet_load 55 (.tmp 43) g 8 _ _ hld Tryd.underlying55 rfl hsz.out rfl rfl ?_; go_big_quiet_on) | (go_big_quiet_op; go_big_quiet_on)))
          refine wpQuiet_nil ?_
          clear hld
          go_wp2_with fail
          refine (mix_any g 57 (hashB M (M.length / 64)) (splice Bf r (R.take k)) (bv (splice Bf r (R.take k)) ++ [.int .u64 ((L + k : Nat) : Int)]) (hashB_len _ _) hl64.out HF.out.1.2.1 w4.drew b4.drew (htab.tn t4.drew hg0)).mono ?_
          rintro e w5 ⟨rfl, b5, t5⟩
          go_wp2_with fail
          go_roundw
          case rel =>
            refine ⟨M ++ R.take k, R.drop k, EMk, HRk.out.tn HOk.out ?_, HOk.out, ⟨splice Bf r (R.take k), HF.out.1, ?_⟩, t4.trans (Tn.trans (Tn.refl g w4).drew t5)⟩
            · exact tr.trans (Tn.trans (Tn.refl g w4).drew t5)
            · rw [HF.out.2, ← ELk.out]; exact b5
          case measure => simp [lenOf]; omega
      · have HF := tail_go hT hfit (by rw [HTl.out, Etk.out]; omega)
        rw [HTl.out] at HF
        have HF := hide HF
        obtain ⟨z, ez⟩ : ∃ z : Int, z = (r : Int) + (k : Int) := ⟨_, rfl⟩
        have hmod : ((L : Int) + (k : Int)) % 64 = z := by omega
        have hz0 : (z == 0) = false := by rw [beq_eq_false_iff_ne]; omega
        have hl64 : Hid ((splice Bf r (R.take k)).length = 64) := HF.out.1.1
        clear hfit hT ez
        by_cases hck : c = k
        all_goals go_wp2_with (first | (refine wpList_copyB (.tmp 17) (.tmp 18) g (8 + r) (64 - r) (64 - r) _ n c _ 57 HCB.out cs HCn.out (fun _ => HC.out) HCf.out h1.out rfl rfl rfl rfl ?_; intro w2 b2 t2 s2; obtain ⟨b3, q2, q3⟩ := HX.out w2 b2; clear b2; rw [HCl.out]))
        all_goals
          have T4 := b3.set 72 (.int .u64 ((L + k : Nat) : Int))
          rw [stc_set _ _ _ _ (hashB_len _ _) hl64.out, Int.natCast_add] at T4
          have b4 := T4.1
          have tr := (Tn.trans (Tn.refl g wr).drew t2).trans T4.2
          have t4 := tn.trans tr
          clear T4 q2 q3 b3 t2 s2 HX HCB HC HCl HCn HCf h1 Ecs q0
          generalize w2.setCell ⟨g, 72, none⟩ (.int .u64 ((L : Int) + (k : Int))) = w4 at *
          first | (rw [if_pos (by assumption)] at HRk HOk; rw [show c - k = 0 by omega] at HRk HOk) | rw [if_neg (by assumption)] at HRk HOk
          have ELk : Hid (L + k = (M ++ R.take k).length) := by show _ = _; rw [List.length_append, Etk.out, ← EL.out]
          go_roundw
          case rel =>
            refine ⟨M ++ R.take k, R.drop k, EMk, HRk.out.tn HOk.out tr, HOk.out, ⟨splice Bf r (R.take k), HF.out.1, ?_⟩, t4⟩
            rw [HF.out.2, ← ELk.out]; exact b4
          case measure => simp [lenOf]; omega

end Go.Proofs.YtejhhkhaoekkiaaDoor.Ck
