/- The walk of the statement SyncAdds. (Written by mk_y.py.) -/
import Derived.Test.YtbjcfmajbcbnbaaDoorYu
namespace Go.Proofs.YtbjcfmajbcbnbaaDoor.Ck
open Go.RowKit

section
variable {w wc : World} {g : Nat} {s : St}
theorem Mk.put (h : Mk w wc g s) (i : Nat) (x y : Int) (hx : s.A[i]? = some x) : Calls Tryd.prog 28 #[.pointer (some ⟨g, 0, none⟩), .int .i64 (i : Nat), .int .i64 y] wc fun e w' => e = .returned .nilIface ∧ Mk w w' g { s with A := s.A.set i y } := by
  obtain ⟨F, h1, h2, h3⟩ := h
  exact (Put_in h1 i x y hx).mono fun e w' ⟨he, F', hs, hc⟩ => ⟨he, Mk.of h2 h3 hs hc⟩
theorem Mk.add (h : Mk w wc g s) (i : Nat) (x y : Int) (hx : s.A[i]? = some x) : Calls Tryd.prog 29 #[.pointer (some ⟨g, 0, none⟩), .int .i64 (i : Nat), .int .i64 y] wc fun e w' => e = .returned .nilIface ∧ Mk w w' g { s with A := s.A.set i (wrap64 (x + y)) } := by
  obtain ⟨F, h1, h2, h3⟩ := h
  exact (Add_in h1 i x y hx).mono fun e w' ⟨he, F', hs, hc⟩ => ⟨he, Mk.of h2 h3 hs hc⟩
theorem Mk.get (h : Mk w wc g s) (i : Nat) (x : Int) (hx : s.A[i]? = some x) : Calls Tryd.prog 30 #[.pointer (some ⟨g, 0, none⟩), .int .i64 (i : Nat)] wc fun e w' => e = .returned (.tuple #[.int .i64 x, .nilIface]) ∧ wc = w' := by
  obtain ⟨F, h1, h2, h3⟩ := h
  exact Get_in h1 i x hx
end
set_option maxRecDepth 20000 in
set_option maxHeartbeats 2000000 in
theorem adds_main (put : Int) (vS : Value) (zs : List Int) {w : World} {p : List Addr} (h17 : E2 w p) (hS : Sl w vS zs) : Calls Tryd.prog 6 #[.int .i64 put, vS] w (Vb w (.bool true)) := by
  obtain ⟨aS, n, cS, rfl, hn⟩ := hS.slice
  have HS := hide (fun i hi => hS.at i hi)
  have AL := hide (alive_any h17)
  clear hS h17 hn
  go_enter Tryd.func6, Tryd.ntmps6
  go_wp2_with fail
  refine AL.out.mono ?_
  rintro e w1 ⟨rfl, hb1⟩
  have NW := hide (new_ok (.slice none 0 0) (.slice none 0 0) [] [] 0 2 (Sl.nilS w1) (SlC.nilS w1) rfl)
  have B1 := hide hb1
  clear hb1 AL
  go_wp2_with fail
  refine NW.out.mono ?_
  rintro e w2 ⟨g, F, rfl, h2, hl, hb⟩
  have M2 : Hid (Mk w w2 g ⟨[], [], [], [0, 0]⟩) := hide (Mk.of_new B1.out h2 hl hb)
  clear h2 hl hb NW B1
  go_wp2_with fail
  refine (M2.out.put 1 0 put rfl).mono ?_
  rintro e w3 ⟨rfl, h3⟩
  have M3 : Hid (Mk w w3 g ⟨[], [], [], [0, put]⟩) := hide h3
  clear h3 M2
  go_wp2_with fail
  go_loopw [7, 8, 9, 10, 11, 34] (fun x7 x8 x9 x10 x11 i wr => ∃ (k : Nat) (sum : Int), k ≤ n ∧ i = .int .i64 k ∧ x7 = .int .i64 sum ∧ Hid (Mk w wr g ⟨[], [], [], [0, sum]⟩)) (fun x7 x8 x9 x10 x11 i _ => n - (intOf i).toNat)
  case atStart => exact ⟨0, put, Nat.zero_le _, rfl, rfl, M3⟩
  case round =>
    obtain ⟨k, sum, hk, rfl, rfl, M4⟩ := hrel
    clear M3
    have MB := hide M4.out.below
    by_cases hlt : k < n
    · have hlt' : (k : Int) < (n : Int) := by omega
      obtain ⟨b1, o1, rfl, hb1, hc1⟩ := HS.out k hlt
      have hcr := (MB.out.cell (p := ⟨b1, o1 + k, none⟩) hb1).trans hc1
      clear hc1
      generalize zs.getD k 0 = y at *
      by_cases h200 : 200 < k
      · have h200' : (200 : Int) < (k : Int) := by omega
        go_wp2_with fail
        refine (M4.out.get 0 0 rfl).mono ?_
        rintro e w5 ⟨rfl, rfl⟩
        go_wp2_with fail
        go_ret
        exact Vb.mk rfl MB.out
      · have h200' : (k : Int) ≤ 200 := by omega
        go_wp2_with fail
        refine (M4.out.add 1 sum y rfl).mono ?_
        rintro e w5 ⟨rfl, h5⟩
        have M5 : Hid (Mk w w5 g ⟨[], [], [], [0, wrap64 (sum + y)]⟩) := hide h5
        clear h5
        go_wp2_with fail
        generalize wrap64 (sum + y) = sum' at *
        refine (M5.out.get 1 sum' rfl).mono ?_
        rintro e w6 ⟨rfl, rfl⟩
        go_wp2_with fail
        go_roundw
        case rel => exact ⟨k + 1, sum', by omega, by go_num, rfl, M5⟩
        case measure => simp [intOf]; omega
    · obtain rfl : k = n := by omega
      go_wp2_with fail
      refine (M4.out.get 0 0 rfl).mono ?_
      rintro e w5 ⟨rfl, rfl⟩
      go_wp2_with fail
      go_ret
      exact Vb.mk rfl MB.out
end Go.Proofs.YtbjcfmajbcbnbaaDoor.Ck
