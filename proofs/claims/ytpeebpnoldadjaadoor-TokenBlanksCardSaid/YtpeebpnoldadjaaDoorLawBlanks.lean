/- TokenBlanks: blanks ahead of a text move all places, and nothing else. -/
import Derived.Test.YtpeebpnoldadjaaDoorBz
import Derived.Test.YtpeebpnoldadjaaDoorLawInts
namespace Go.Proofs.YtpeebpnoldadjaaDoor.Ck
open Go.RowKit

def bk (q : Nat) : UInt8 := [32, 10, 9, 13].getD q 32
theorem bk_blank (q : Nat) : isBlank ((bk q).toNat : Int) = true := by
  by_cases h : q < 4
  · have : q = 0 ∨ q = 1 ∨ q = 2 ∨ q = 3 := by omega
    rcases this with h | h | h | h <;> subst h <;> decide
  · unfold bk
    rw [List.getD_eq_getElem?_getD, List.getElem?_eq_none (by simp; omega)]
    decide
theorem slice_bk (q : Int) (h0 : 0 ≤ q) (h1 : q ≤ 3) (w : World) : (Instr.slice 9 (.string ⟨#[32, 10, 9, 13]⟩) (some (.int .i64 q)) (some (.int .i64 (q + 1))) none).run Tryd.prog w = .ok (.string ⟨#[bk q.toNat]⟩) w := by
  have : q = 0 ∨ q = 1 ∨ q = 2 ∨ q = 3 := by omega
  rcases this with h | h | h | h <;> subst h <;> clear h0 h1 <;> exact (show _ = _ by kernel_rfl)
def AllBl (b : ByteArray) : Prop := ∀ c ∈ b.data.toList, isBlank (c.toNat : Int) = true
theorem AllBl.app {b : ByteArray} (h : AllBl b) (q : Nat) : AllBl (b ++ ⟨#[bk q]⟩) := fun c hc => by
  rw [app_list] at hc
  rcases List.mem_append.1 hc with hc | hc
  · exact h c hc
  · simp at hc
    rw [hc]
    exact bk_blank q

set_option maxHeartbeats 2000000 in
theorem blanks2_any (s : ByteArray) (x : Int) (p : List Addr) (w : World) (he : Ev w p) (hs47 : s.size ≤ 140737488355328) :
    Calls Tryd.prog 8 #[.string s, .int .i64 x] w fun e w' => e = .returned (.bool true) ∧ Below w.heap.size w w' := by
  obtain ⟨N, hN⟩ : ∃ N, wrap64 ((IntKind.u64.wrap x).tmod 20) = N := ⟨_, rfl⟩
  have hNb : 0 ≤ N ∧ N ≤ 19 := by
    rw [← hN]
    have h1 : 0 ≤ IntKind.u64.wrap x := by rw [IntKind.wrap_u64]; omega
    rw [Int.tmod_eq_emod_of_nonneg h1]
    unfold wrap64
    omega
  obtain ⟨hN0, hN1⟩ := hNb
  go_enter Tryd.func8, Tryd.ntmps8
  go_wp2_with fail
  refine (alive_any p w he).mono ?_
  rintro e w1 ⟨rfl, hb1⟩
  have e1 := hide (he.bel hb1)
  go_wp2_with fail
  rw [hN]
  clear hN
  go_loop [5, 18] (fun vb vi => ∃ (k : Nat) (b : ByteArray), (k : Int) ≤ N ∧ vi = .int .i64 k ∧ vb = .string b ∧ b.size ≤ 20 ∧ Hid (b.size = k ∧ AllBl b)) (fun _ vi => (N - intOf vi).toNat)
  case atStart => exact ⟨0, _, by omega, rfl, rfl, by decide, rfl, fun c hc => by cases hc⟩
  case round =>
    obtain ⟨k, b, hk, rfl, rfl, hsz, I⟩ := hrel
    by_cases hkN : (k : Int) < N
    · have hsl := fun w => slice_bk ((k : Int) % 4) (by omega) (by omega) w
      go_wp2_with fail
      refine ⟨⟨k + 1, _, by omega, by go_num, rfl, ?_, ?_, I.out.2.app _⟩, by simp [intOf]; omega⟩
      · rw [ByteArray.size_append]
        have := I.out.1
        show b.size + 1 ≤ 20
        omega
      · rw [ByteArray.size_append]
        have := I.out.1
        show b.size + 1 = _
        omega
    · clear hk
      by_cases hlen : b.size + s.size ≤ 8192
      · have hl2 : ¬ (8192 : Int) < (b.size : Int) + (s.size : Int) := by omega
        have hSh : Hid (Sh s (b ++ s) b.size) := Sh.mk' (app_list b s)
        have hBl : Hid (∀ k, k < b.size → isBlank (byte (b ++ s) k) = true) := fun k hk => by
          have e1 : b.data.toList.length = b.size := rfl
          rw [byte_list (b ++ s) k (by rw [app_list, List.length_append]; omega)]
          simp only [app_list]
          rw [List.getElem_append_left (by omega)]
          exact I.out.2 _ (List.getElem_mem _)
        have HR := hide (hSh.out.readF hBl.out)
        have hz2 : (b ++ s).size = b.size + s.size := ByteArray.size_append
        clear I hBl hSh
        go_wp2_with fail
        refine (tokens_any s p w1 e1.out.er e1.out.big (by omega)).mono ?_
        intro e w2 hp
        cases hq : readF s with
        | bad kk i =>
          obtain ⟨hkk, hi⟩ := readF_at hq
          rw [hq] at hp HR
          obtain ⟨rfl, hb2⟩ := hp
          have e2 := e1.out.bel hb2
          have hb3 := bel_new w2 (.cells #[errV p kk, .int .i64 i] 27)
          have k3 : (w2.alloc (.cells #[errV p kk, .int .i64 i] 27)).heap[w2.heap.size]? = some (.cells #[errV p kk, .int .i64 i] 27 (0, 0)) := Go.Deep.blk_alloc_new _ _
          have e3 := hide (e2.bel hb3)
          have B3 := hide (bel_trans (bel_trans hb1 hb2) hb3)
          have K3 := hide k3
          clear hb2 hb3 e2 k3 hq e1
          go_wp2_with fail
          generalize w2.alloc (.cells #[errV p kk, .int .i64 i] 27) = w3 at *
          generalize w2.heap.size = n8 at *
          refine (tokens_any _ p w3 e3.out.er e3.out.big (by omega)).mono ?_
          intro e w4 hp
          rw [HR.out] at hp
          obtain ⟨rfl, hb4⟩ := hp
          have hb5 := bel_new w4 (.cells #[errV p kk, .int .i64 ((i + b.size : Nat) : Int)] 27)
          have k5 : (w4.alloc (.cells #[errV p kk, .int .i64 ((i + b.size : Nat) : Int)] 27)).heap[w4.heap.size]? = some (.cells #[errV p kk, .int .i64 ((i + b.size : Nat) : Int)] 27 (0, 0)) := Go.Deep.blk_alloc_new _ _
          have B45 := bel_trans hb4 hb5
          have B5 := hide (bel_trans B3.out B45)
          have k3 := (B45.block _ (lt_of_blk K3.out)).trans K3.out
          have e5 := hide (e3.out.bel B45).errs
          have hib : ((i + b.size : Nat) : Int) = (i : Int) + (b.size : Int) := by omega
          rw [hib] at k5 e5 B5 k3 ⊢
          go_wp2_with fail
          clear hb4 hb5 B45
          generalize w4.alloc (.cells #[errV p kk, .int .i64 ((i : Int) + (b.size : Int))] 27) = w5 at *
          generalize w4.heap.size = n10 at *
          have HC : Hid (∀ w', Below w5.heap.size w5 w' → w'.cell? ⟨n8, 0, none⟩ = some (errV p kk) ∧ w'.cell? ⟨n8, 1, none⟩ = some (.int .i64 i) ∧ w'.cell? ⟨n10, 0, none⟩ = some (errV p kk) ∧ w'.cell? ⟨n10, 1, none⟩ = some (.int .i64 ((i : Int) + (b.size : Int)))) := fun w' hb =>
            ⟨(hb.cell (p := ⟨n8, 0, none⟩) (lt_of_blk k3)).trans (blk_cell k3 0 _ rfl), (hb.cell (p := ⟨n8, 1, none⟩) (lt_of_blk k3)).trans (blk_cell k3 1 _ rfl), (hb.cell (p := ⟨n10, 0, none⟩) (lt_of_blk k5)).trans (blk_cell k5 0 _ rfl), (hb.cell (p := ⟨n10, 1, none⟩) (lt_of_blk k5)).trans (blk_cell k5 1 _ rfl)⟩
          obtain ⟨q0, q1, q2, q3⟩ := HC.out w5 (Below.refl _ _)
          have hne1 : (((kk : Int) + 1) != ((kk : Int) + 1)) = false := by simp
          have hne2 : (((i : Int) + (b.size : Int)) != ((i : Int) + (b.size : Int))) = false := by simp
          have HE : Hid (∀ w', Below w5.heap.size w5 w' → Errs17 w' p) := fun w' hb => e5.out.below (Nat.le_refl _) hb
          clear k3 k5 e5
          go_region_held3 (fun w' => w'.cell? ⟨n8, 0, none⟩ = some (errV p kk) ∧ w'.cell? ⟨n8, 1, none⟩ = some (.int .i64 i) ∧ w'.cell? ⟨n10, 0, none⟩ = some (errV p kk) ∧ w'.cell? ⟨n10, 1, none⟩ = some (.int .i64 ((i : Int) + (b.size : Int)))) (first | assumption | exact ⟨by assumption, by assumption, by assumption, by assumption⟩)
            (first
              | (go_at_call 11; refine (num_err p kk _ (HE.out _ hb6) hkk).mono ?_; rintro e w7 ⟨rfl, hb7⟩; have hb7 := bel_trans hb6 hb7; obtain ⟨s0, s1, s2, s3⟩ := HC.out _ hb7)
              | (go_at_call 11; refine (num_err p kk _ (HE.out _ (Below.refl _ _).drew) hkk).mono ?_; rintro e w6 ⟨rfl, hb6⟩; have hb6 : Below w5.heap.size w5 w6 := ⟨hb6.os, hb6.tape, hb6.output, hb6.size, hb6.block⟩; obtain ⟨r0, r1, r2, r3⟩ := HC.out _ hb6))
          all_goals
            go_wp2_with fail
            · exfalso
              rename_i h
              rw [show IntKind.i64.wrap ((i : Int) + (b.size : Int)) = (i : Int) + (b.size : Int) by rw [IntKind.wrap_i64]; omega] at h
              simp at h
            · go_loopw [79] (fun vi wr => vi = .int .i64 0 ∧ wr = w7) (fun _ _ => 0)
              case atStart => exact ⟨rfl, rfl⟩
              case round =>
                obtain ⟨rfl, rfl⟩ := hrel
                go_wp2_with fail
                go_ret
                exact ⟨rfl, bel_trans B5.out hb7⟩
        | ok ts =>
          rw [hq] at hp HR
          obtain ⟨v, rfl, ho, hb2⟩ := hp
          have e2 := e1.out.bel hb2
          have hb3 := bel_new w2 (.cells #[.nilIface, .int .i64 0] 27)
          have k3 : (w2.alloc (.cells #[.nilIface, .int .i64 0] 27)).heap[w2.heap.size]? = some (.cells #[.nilIface, .int .i64 0] 27 (0, 0)) := Go.Deep.blk_alloc_new _ _
          have e3 := hide (e2.bel hb3)
          have B3 := hide (bel_trans (bel_trans hb1 hb2) hb3)
          have K3 := hide k3
          have O3 := hide (ho.below hb3)
          have hb1s := hide hb1.size
          obtain ⟨av, cv, ev⟩ := ho.len
          obtain ⟨n, en⟩ : ∃ n, n = ts.length := ⟨_, rfl⟩
          rw [← en] at ev
          subst ev
          have EN := hide en
          have HPos : Hid (∀ i, i < ts.length → (ts.getD i noTk).pos ≤ 8192) := fun i hi => by
            have := readF_pos hq _ (List.getElem_mem hi)
            rw [show ts.getD i noTk = ts[i] by simp [List.getD, hi]]
            omega
          clear hb2 hb3 e2 k3 hq e1 ho en
          go_wp2_with fail
          generalize w2.alloc (.cells #[.nilIface, .int .i64 0] 27) = w3 at *
          generalize w2.heap.size = n8 at *
          refine (tokens_any _ p w3 e3.out.er e3.out.big (by omega)).mono ?_
          intro e w4 hp
          rw [HR.out] at hp
          obtain ⟨v2, rfl, ho2, hb4⟩ := hp
          have hb5 := bel_new w4 (.cells #[.nilIface, .int .i64 0] 27)
          have k5 : (w4.alloc (.cells #[.nilIface, .int .i64 0] 27)).heap[w4.heap.size]? = some (.cells #[.nilIface, .int .i64 0] 27 (0, 0)) := Go.Deep.blk_alloc_new _ _
          have B45 := bel_trans hb4 hb5
          have B5 := hide (bel_trans B3.out B45)
          have k3 := (B45.block _ (lt_of_blk K3.out)).trans K3.out
          have O5 := hide (O3.out.below B45)
          have P5 := hide (ho2.below hb5)
          obtain ⟨av2, cv2, ev2⟩ := ho2.len
          rw [List.length_map, ← EN.out] at ev2
          subst ev2
          have HA : Hid (∀ g, av = some ⟨g, 0, none⟩ → g < w3.heap.size) := fun g hg => by
            rcases O3.out.2 with ⟨h0, _⟩ | ⟨g', cap, cur, h0, _, hg', _⟩
            · cases h0; cases hg
            · cases h0; cases hg; exact lt_of_blk hg'
          clear hb4 hb5 ho2 O3
          go_wp2_with fail
          generalize w4.alloc (.cells #[.nilIface, .int .i64 0] 27) = w5 at *
          generalize w4.heap.size = n10 at *
          have c80 := blk_cell k3 0 _ rfl
          have c100 := blk_cell k5 0 _ rfl
          have hnn : ((n : Int) != (n : Int)) = false := by simp
          go_quiet (first | (go_at_call 11; exact Calls.quiet_of_same ((num_nil _).mono fun _ _ h => ⟨h.1, h.2.symm⟩)))
          go_wp2_with fail
          have k35 := hide (bel_trans B5.out (below_drewN (Below.refl _ _) nq))
          have O6 := hide (O5.out.below (below_drewN (Below.refl _ _) nq))
          have P6 := hide (P5.out.below (below_drewN (Below.refl _ _) nq))
          clear O5 P5 B5 k3 k5 c80 c100 K3 e3 hb1 B45
          generalize w5.drewN nq = w6 at *
          by_cases hts : ts = []
          · have hn0 : n = 0 := by rw [EN.out, hts]; rfl
            subst hn0
            go_loopw [79] (fun vi wr => vi = .int .i64 0 ∧ wr = w6) (fun _ _ => 0)
            case atStart => exact ⟨rfl, rfl⟩
            case round =>
              obtain ⟨rfl, rfl⟩ := hrel
              go_wp2_with fail
              go_ret
              exact ⟨rfl, k35.out⟩
          · obtain ⟨ga, ca, hva, hga0, hga, hc1, hc2, RA⟩ := O6.out.row hts
            have HGa := hide (Nat.le_trans hb1s.out hga0)
            obtain ⟨gb, cb, hvb, hgb, hgb2, hd1, hd2, RB⟩ := P6.out.row (by simpa using hts)
            obtain ⟨rfl, _, rfl⟩ : av = some ⟨ga, 0, none⟩ ∧ n = ts.length ∧ cv = ca := by simpa only [Value.slice.injEq] using hva
            obtain ⟨rfl, _, rfl⟩ : av2 = some ⟨gb, 0, none⟩ ∧ n = (ts.map (Tk.move b.size)).length ∧ cv2 = cb := by simpa only [Value.slice.injEq] using hvb
            clear hva hvb
            rw [List.length_map] at hd1
            rw [← EN.out] at hc1 hd1
            have hab : ga ≠ gb := Nat.ne_of_lt (Nat.lt_of_lt_of_le (HA.out ga rfl) hgb)
            have RA := hide RA
            have RB := hide RB
            unfold maxLen at hc2 hd2
            clear O6 P6 HA
            go_loopw [79] (fun vi wr => ∃ i : Nat, i ≤ n ∧ vi = .int .i64 i ∧ Hid (Rowt wr ga (moved b.size i ts) ∧ Rowt wr gb (ts.map (Tk.move b.size)) ∧ Below w.heap.size w wr)) (fun vi _ => n - (intOf vi).toNat)
            case atStart => exact ⟨0, Nat.zero_le _, rfl, by rw [moved_zero]; exact RA.out, RB.out, k35.out⟩
            case round =>
              obtain ⟨i, hi, rfl, J⟩ := hrel
              by_cases hin : i < n
              · have h1 : (i : Int) < (n : Int) := by omega
                have hi' : i < ts.length := by rw [← EN.out]; exact hin
                have TA := J.out.1.tok i (by rw [moved_len]; exact hi')
                rw [moved_at b.size i ts i hi', if_neg (Nat.lt_irrefl _)] at TA
                have TB := J.out.2.1.tok i (by rw [List.length_map]; exact hi')
                rw [show (ts.map (Tk.move b.size)).getD i noTk = (ts.getD i noTk).move b.size by simp [List.getD, hi']] at TB
                have hpos : (ts.getD i noTk).pos ≤ 8192 := HPos.out i hi'
                have HSt : Hid (∀ z : Int, z = ((ts.getD i noTk).pos + b.size : Nat) → Rowt (wr.setCell ⟨ga, i * 5 + 4, none⟩ (.int .i64 z)) ga (moved b.size (i + 1) ts) ∧ Tn ga wr (wr.setCell ⟨ga, i * 5 + 4, none⟩ (.int .i64 z)) ∧ TkAt (wr.setCell ⟨ga, i * 5 + 4, none⟩ (.int .i64 z)) ga (i * 5) ((ts.getD i noTk).move b.size) ((ts.getD i noTk).move b.size).pos ∧ TkAt (wr.setCell ⟨ga, i * 5 + 4, none⟩ (.int .i64 z)) gb (i * 5) ((ts.getD i noTk).move b.size) ((ts.getD i noTk).move b.size).pos) := fun z hz => by
                  obtain ⟨r1, r2⟩ := J.out.1.step hi' z hz
                  have r3 := r1.tok i (by rw [moved_len]; exact hi')
                  rw [moved_at b.size (i + 1) ts i hi', if_pos (Nat.lt_succ_self _)] at r3
                  exact ⟨r1, r2, r3, TB.tn r2 (Ne.symm hab)⟩
                obtain ⟨cur, hcur, _⟩ := J.out.1.blk
                have fz := blk_frz hcur (i * 5 + 4)
                clear hcur
                generalize ts.getD i noTk = tk at *
                obtain ⟨kind, text, nn, bits_, pos⟩ := tk
                have hpos : pos ≤ 8192 := hpos
                obtain ⟨a0, a1, a2, a3, a4⟩ := TA
                clear TB
                go_wp2_with fail
                obtain ⟨RA2, tA, X, Y⟩ := HSt.out ((pos : Int) + (b.size : Int)) (by show _ = ((pos + b.size : Nat) : Int); omega)
                have RA2 := hide RA2
                have TA2 := hide tA
                simp only [Tk.move] at X Y
                obtain ⟨x0, x1, x2, x3, x4⟩ := X
                obtain ⟨y0, y1, y2, y3, y4⟩ := Y
                clear HSt a0 a1 a2 a3 a4 fz tA
                generalize wr.setCell ⟨ga, i * 5 + 4, none⟩ (.int .i64 ((pos : Int) + (b.size : Int))) = wz at *
                go_quiet (fail)
                go_wp2_with fail
                go_roundw
                case rel => (repeat apply Exists.intro); exact ⟨⟨i + 1, by omega, by go_num, RA2.out.bel (below_drewN (Below.refl _ _) _), (J.out.2.1.tn TA2.out (Ne.symm hab)).bel (below_drewN (Below.refl _ _) _), bel_trans (J.out.2.2.trans (TA2.out.bel HGa.out J.out.2.2.size)) (below_drewN (Below.refl _ _) _)⟩, rfl, rfl, rfl⟩
                case measure => simp [intOf]; omega
              · have h1 : ¬ (i : Int) < (n : Int) := by omega
                go_wp2_with fail
                go_ret
                exact ⟨rfl, J.out.2.2⟩
      · have hl2 : (8192 : Int) < (b.size : Int) + (s.size : Int) := by omega
        go_wp2_with fail
        go_ret
        exact ⟨rfl, hb1⟩

end Go.Proofs.YtpeebpnoldadjaaDoor.Ck
