/- The walk of the statement SyncOrder. (Written by mk_y.py.) -/
import Derived.Test.YtbjcfmajbcbnbaaDoorYv
namespace Go.Proofs.YtbjcfmajbcbnbaaDoor.Ck
open Go.RowKit

/-- the ints from G on, n of them -/
def qs : Nat → Nat → List V3
  | _, 0 => []
  | G, n + 1 => (1, (G : Int), 0) :: qs (G + 1) n
theorem qs_len : ∀ (n G : Nat), (qs G n).length = n
  | 0, _ => rfl
  | n + 1, G => by simp [qs, qs_len n (G + 1)]
theorem qs_snoc : ∀ (n G : Nat), qs G n ++ [(1, ((G + n : Nat) : Int), 0)] = qs G (n + 1)
  | 0, G => rfl
  | n + 1, G => by
    have h := qs_snoc n (G + 1)
    rw [show G + 1 + n = G + (n + 1) by omega] at h
    show (1, (G : Int), 0) :: (qs (G + 1) n ++ [(1, ((G + (n + 1) : Nat) : Int), 0)]) = (1, (G : Int), 0) :: qs (G + 1) (n + 1)
    rw [h]
theorem isB_int (n : Int) : isB 1 n 0 1 = true := by simp [isB, goodB]
def oS (rm : Nat) (l : List V3) : St := ⟨[], [], [⟨1, rm, l⟩], []⟩
theorem Mk.len {w wc : World} {g : Nat} {s : St} (h : Mk w wc g s) (i : Nat) (q : Qu) (hx : s.C[i]? = some q) : Calls Tryd.prog 17 #[.pointer (some ⟨g, 0, none⟩), .int .i64 (i : Nat)] wc fun e w' => e = .returned (.int .i64 (q.l.length : Nat)) ∧ wc = w' := by
  obtain ⟨F, h1, h2, h3⟩ := h
  exact Len_in h1 i q hx
theorem len_any {w wc : World} {g : Nat} {rm G n : Nat} (h : Mk w wc g (oS rm (qs G n))) : Calls Tryd.prog 17 #[.pointer (some ⟨g, 0, none⟩), .int .i64 0] wc fun e w' => e = .returned (.int .i64 (n : Nat)) ∧ wc = w' := by
  have h1 := h.len 0 ⟨1, rm, qs G n⟩ rfl
  rw [show (⟨1, rm, qs G n⟩ : Qu).l.length = n from qs_len n G] at h1
  exact h1
set_option maxRecDepth 20000 in
set_option maxHeartbeats 2000000 in
theorem order_main (rm0 : Int) (vS : Value) (zs : List Int) {w : World} {p : List Addr} (h17 : E2 w p) (hS : Sl w vS zs) : Calls Tryd.prog 4 #[.int .i64 rm0, vS] w (Vb w (.bool true)) := by
  obtain ⟨aS, n, cS, rfl, hn⟩ := hS.slice
  have HS := hide (fun i hi => hS.at i hi)
  have AL := hide (alive_any h17)
  have H7 := hide h17
  obtain ⟨rm, hrm, hmd⟩ := mod_small rm0 9 (by omega) (by omega)
  have hmd' : wrap64 ((IntKind.u64.wrap rm0).tmod 9) = (rm : Int) := hmd
  have NV := neq_vv
  clear hS h17 hn hmd
  go_enter Tryd.func4, Tryd.ntmps4
  go_wp2_with fail
  refine AL.out.mono ?_
  rintro e w1 ⟨rfl, hb1⟩
  have hokN : okN [] 0 [(1, (rm : Int))] 0 = true := by
    have h1 : chanB 1 (rm : Int) = false := by simp [chanB, zeroT]; omega
    simp [okN, fitB, badC, h1]
  have NW := hide (new_ok (.slice none 0 0) (.slice (some ⟨w1.heap.size, 0, none⟩) 1 1) [] [(1, (rm : Int))] 0 0 (Sl.nilS _) (SlC.one w1 1 (rm : Int)) hokN)
  have B1 := hide hb1
  clear hb1 AL hokN
  go_wp2_with fail
  refine NW.out.mono ?_
  rintro e w2 ⟨g, F, rfl, h2, hl, hb⟩
  have M2 : Hid (Mk w w2 g (oS rm (qs 0 0))) := hide (Mk.of_new (bel_al B1.out _) h2 hl hb)
  clear h2 hl hb NW B1
  go_wp2_with fail
  go_loopw [7, 8, 9, 10, 11, 12, 13, 14, 15, 37] (fun x7 x8 x9 x10 x11 x12 x13 x14 x15 i wr => ∃ (k G N : Nat), k ≤ n ∧ k ≤ 301 ∧ i = .int .i64 k ∧ x7 = .int .i64 ((G + N : Nat) : Int) ∧ x8 = .int .i64 (G : Nat) ∧ G + N ≤ k ∧ N ≤ rm ∧ Hid (Mk w wr g (oS rm (qs G N)))) (fun x7 x8 x9 x10 x11 x12 x13 x14 x15 i _ => n - (intOf i).toNat)
  case atStart => exact ⟨0, 0, 0, Nat.zero_le _, by omega, rfl, rfl, rfl, by omega, by omega, M2⟩
  case round =>
    obtain ⟨k, G, N, hk, hk3, rfl, rfl, rfl, hGN, hNr, M4⟩ := hrel
    clear M2
    have MB := hide M4.out.below
    obtain ⟨S, hS⟩ : ∃ S, S = G + N := ⟨_, rfl⟩
    rw [← hS] at hGN ⊢
    by_cases hlt : k < n
    · have hlt' : (k : Int) < (n : Int) := by omega
      obtain ⟨b1, o1, rfl, hb1, hc1⟩ := HS.out k hlt
      have hcr := (MB.out.cell (p := ⟨b1, o1 + k, none⟩) hb1).trans hc1
      clear hc1
      generalize zs.getD k 0 = y at *
      by_cases h300 : 300 < k
      · have h300' : (300 : Int) < (k : Int) := by omega
        have HSx := hide hS
        clear hS
        go_wp2_with fail
        go_ret
        exact Vb.mk rfl MB.out
      · have h300' : (k : Int) ≤ 300 := by omega
        have hk2 : k ≤ 300 := by omega
        have hS3 : S ≤ 300 := by omega
        have hsn : (S : Int) - (G : Int) = (N : Int) := by omega
        have HSx := hide hS
        have HGN := hide hGN
        clear hS hGN
        obtain ⟨b4, hb4⟩ : ∃ b, (bits .and .i64 y 1 == 0) = b := ⟨_, rfl⟩
        cases b4 with
        | true =>
          go_wp2_with fail
          refine (int_any _ _).mono ?_
          rintro e w5 ⟨rfl, hb5⟩
          have M5 := hide (M4.out.bel hb5)
          clear hb5 M4 MB
          by_cases hN : N < rm
          · have hN' : (N : Int) < (rm : Int) := by omega
            go_wp2_with fail
            refine (M5.out.room H7.out 0 ⟨1, rm, qs G N⟩ rfl 1 S 0 (isB_int _) (by rw [qs_len]; exact hN')).mono ?_
            rintro e w6 ⟨rfl, h6⟩
            have M6 : Hid (Mk w w6 g (oS rm (qs G (N + 1)))) := hide (by
              have e1 : qs G N ++ [(1, (S : Int), 0)] = qs G (N + 1) := by rw [HSx.out]; exact qs_snoc N G
              have h7 : Mk w w6 g (oS rm (qs G N ++ [(1, (S : Int), 0)])) := h6
              rw [e1] at h7
              exact h7)
            clear h6 M5
            go_wp2_with fail
            go_roundw
            case rel => exact ⟨k + 1, G, N + 1, by omega, by omega, by go_num, by have := HSx.out; congr 1; omega, rfl, by have := HGN.out; have := HSx.out; omega, by omega, M6⟩
            case measure => simp [intOf]; omega
          · have hN' : (rm : Int) ≤ (N : Int) := by omega
            go_wp2_with fail
            refine (M5.out.full H7.out 0 ⟨1, rm, qs G N⟩ rfl 1 S 0 (isB_int _) (by rw [qs_len]; exact hN')).mono ?_
            rintro e w6 ⟨rfl, h6⟩
            have M6 := hide h6
            clear h6 M5
            go_wp2_with fail
            go_roundw
            case rel => exact ⟨k + 1, G, N, by omega, by omega, by go_num, by have := HSx.out; congr 1; omega, rfl, by have := HGN.out; have := HSx.out; omega, by omega, M6⟩
            case measure => simp [intOf]; omega
        | false =>
          cases N with
          | zero =>
            have hGS : (S : Int) ≤ (G : Int) := by omega
            have hd : decide (G < S) = false := decide_eq_false (by omega)
            have hd2 : (G < S) = False := eq_false (by omega)
            go_wp2_with fail
            refine (M4.out.empty 0 ⟨1, rm, qs G 0⟩ rfl rfl).mono ?_
            rintro e w6 ⟨rfl, h6⟩
            have M6 := hide (h6.bel (bel_new w6 (.cells #[.int .i64 0, .int .i64 0, .int .u64 0] 41)))
            clear h6 M4 MB
            go_wp2_with fail
            generalize w6.alloc (.cells #[.int .i64 0, .int .i64 0, .int .u64 0] 41) = w7 at *
            go_quiet (fail)
            go_wp2_with fail
            refine (len_any (M6.out.bel (below_drewN (Below.refl _ _) _))).mono ?_
            rintro e w8 ⟨rfl, rfl⟩
            go_wp2_with fail
            go_roundw
            case rel => exact ⟨k + 1, G, 0, by omega, by omega, by go_num, by have := HSx.out; congr 1; omega, rfl, by have := HGN.out; have := HSx.out; omega, by omega, M6.out.bel (below_drewN (Below.refl _ _) _)⟩
            case measure => simp [intOf]; omega
          | succ N =>
            have hGS : (G : Int) < (S : Int) := by omega
            go_wp2_with fail
            refine (M4.out.recv 0 ⟨1, rm, qs G (N + 1)⟩ rfl (1, (G : Int), 0) (qs (G + 1) N) rfl).mono ?_
            rintro e w6 ⟨rfl, h6⟩
            have M6 : Hid (Mk w (w6.alloc (.cells #[.int .i64 1, .int .i64 (G : Int), .int .u64 0] 41)) g (oS rm (qs (G + 1) N))) := hide (h6.bel (bel_new w6 _))
            have V6 := hide (Val.new w6 1 (G : Int) 0)
            clear h6 M4 MB
            go_wp2_with fail
            generalize w6.alloc (.cells #[.int .i64 1, .int .i64 (G : Int), .int .u64 0] 41) = w7 at *
            obtain ⟨_, f0, f1, f2⟩ := V6.out.all
            go_region_held3 (fun w' => (w'.cell? ⟨w6.heap.size, 0, none⟩ = some (.int .i64 1) ∧ w'.cell? ⟨w6.heap.size, 1, none⟩ = some (.int .i64 (G : Int)) ∧ w'.cell? ⟨w6.heap.size, 2, none⟩ = some (.int .u64 0))) (first | (exact ⟨by assumption, by assumption, by assumption⟩)) (first | (go_at_call 24; refine (int_any _ _).mono ?_; rintro e w8 ⟨rfl, hb⟩; replace hb : Below w7.heap.size w7 w8 := ⟨hb.os, hb.tape, hb.output, hb.size, hb.block⟩; have V8 := hide (V6.out.al hb); have M8 := hide (M6.out.bel hb); obtain ⟨_, f0', f1', f2'⟩ := V8.out.all))
            go_wp2_with fail
            refine (len_any M8.out).mono ?_
            rintro e w9 ⟨rfl, rfl⟩
            have hsn2 : (S : Int) - ((G : Int) + 1) = (N : Int) := by omega
            go_wp2_with fail
            go_roundw
            case rel => exact ⟨k + 1, G + 1, N, by omega, by omega, by go_num, by have := HSx.out; congr 1; omega, by go_num, by have := HGN.out; have := HSx.out; omega, by omega, M8⟩
            case measure => simp [intOf]; omega
    · obtain rfl : k = n := by omega
      have HSx := hide hS
      clear hS
      go_wp2_with fail
      go_ret
      exact Vb.mk rfl MB.out
end Go.Proofs.YtbjcfmajbcbnbaaDoor.Ck
