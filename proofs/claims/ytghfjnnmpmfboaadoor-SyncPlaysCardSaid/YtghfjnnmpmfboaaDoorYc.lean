/- Package sync: an element of a list. (Written by mk_y.py.) -/
import Derived.Test.YtghfjnnmpmfboaaDoorYb
namespace Go.Proofs.YtghfjnnmpmfboaaDoor.Ck
open Go.RowKit

set_option maxRecDepth 20000 in
theorem in_syncelementbool (b n c i : Nat) (w : World) (hi : i < n) : Calls Tryd.prog 57 #[.slice (some ⟨b, 0, none⟩) n c, .int .i64 (i : Nat)] w fun e w' => e = .returned (.tuple #[.pointer (some ⟨b, i, none⟩), .nilIface]) ∧ w = w' := by
  go_enter Tryd.func57, Tryd.ntmps57
  go_wp2_with fail
  go_ret2
  exact ⟨rfl, rfl⟩
set_option maxRecDepth 20000 in
theorem in_syncelementint (b n c i : Nat) (w : World) (hi : i < n) : Calls Tryd.prog 87 #[.slice (some ⟨b, 0, none⟩) n c, .int .i64 (i : Nat)] w fun e w' => e = .returned (.tuple #[.pointer (some ⟨b, i, none⟩), .nilIface]) ∧ w = w' := by
  go_enter Tryd.func87, Tryd.ntmps87
  go_wp2_with fail
  go_ret2
  exact ⟨rfl, rfl⟩
set_option maxRecDepth 20000 in
theorem in_syncelementapiValue (b n c i o : Nat) (w : World) (hi : i < n) (ho : Hid (o = 3 * i)) : Calls Tryd.prog 84 #[.slice (some ⟨b, 0, none⟩) n c, .int .i64 (i : Nat)] w fun e w' => e = .returned (.tuple #[.pointer (some ⟨b, o, none⟩), .nilIface]) ∧ w = w' := by
  go_enter Tryd.func84, Tryd.ntmps84
  go_wp2_with fail
  go_ret2
  exact ⟨by rw [ho.out, Nat.mul_comm 3 i]; rfl, rfl⟩
set_option maxRecDepth 20000 in
theorem in_syncelementsyncqueue (b n c i o : Nat) (w : World) (hi : i < n) (ho : Hid (o = 3 * i)) : Calls Tryd.prog 58 #[.slice (some ⟨b, 0, none⟩) n c, .int .i64 (i : Nat)] w fun e w' => e = .returned (.tuple #[.pointer (some ⟨b, o, none⟩), .nilIface]) ∧ w = w' := by
  go_enter Tryd.func58, Tryd.ntmps58
  go_wp2_with fail
  go_ret2
  exact ⟨by rw [ho.out, Nat.mul_comm 3 i]; rfl, rfl⟩
set_option maxRecDepth 20000 in
theorem out_syncelementbool (a : Option Addr) (n c : Nat) (i : Int) (w : World) {p : List Addr} (h17 : E2 w p) (hi : i < 0 ∨ (n : Int) ≤ i) : Calls Tryd.prog 57 #[.slice a n c, .int .i64 i] w (Vb w (.tuple #[.pointer none, errV p 0])) := by
  have x0 : w.cell? ⟨0, 0, none⟩ = some (errV p 0) := h17.c0
  clear h17
  generalize errV p 0 = ev at *
  by_cases h0 : i < 0
  · clear hi
    go_enter Tryd.func57, Tryd.ntmps57
    go_wp2_with fail
    go_quiet (fail)
    go_wp2_with fail
    go_ret2
    exact Vb.mk rfl (below_drewN (Below.refl _ _) _)
  · have h1 : (n : Int) ≤ i := by omega
    have h2 : 0 ≤ i := by omega
    clear hi h0
    go_enter Tryd.func57, Tryd.ntmps57
    go_wp2_with fail
    go_quiet (fail)
    go_wp2_with fail
    go_ret2
    exact Vb.mk rfl (below_drewN (Below.refl _ _) _)
set_option maxRecDepth 20000 in
theorem out_syncelementint (a : Option Addr) (n c : Nat) (i : Int) (w : World) {p : List Addr} (h17 : E2 w p) (hi : i < 0 ∨ (n : Int) ≤ i) : Calls Tryd.prog 87 #[.slice a n c, .int .i64 i] w (Vb w (.tuple #[.pointer none, errV p 0])) := by
  have x0 : w.cell? ⟨0, 0, none⟩ = some (errV p 0) := h17.c0
  clear h17
  generalize errV p 0 = ev at *
  by_cases h0 : i < 0
  · clear hi
    go_enter Tryd.func87, Tryd.ntmps87
    go_wp2_with fail
    go_quiet (fail)
    go_wp2_with fail
    go_ret2
    exact Vb.mk rfl (below_drewN (Below.refl _ _) _)
  · have h1 : (n : Int) ≤ i := by omega
    have h2 : 0 ≤ i := by omega
    clear hi h0
    go_enter Tryd.func87, Tryd.ntmps87
    go_wp2_with fail
    go_quiet (fail)
    go_wp2_with fail
    go_ret2
    exact Vb.mk rfl (below_drewN (Below.refl _ _) _)
set_option maxRecDepth 20000 in
theorem out_syncelementapiValue (a : Option Addr) (n c : Nat) (i : Int) (w : World) {p : List Addr} (h17 : E2 w p) (hi : i < 0 ∨ (n : Int) ≤ i) : Calls Tryd.prog 84 #[.slice a n c, .int .i64 i] w (Vb w (.tuple #[.pointer none, errV p 0])) := by
  have x0 : w.cell? ⟨0, 0, none⟩ = some (errV p 0) := h17.c0
  clear h17
  generalize errV p 0 = ev at *
  by_cases h0 : i < 0
  · clear hi
    go_enter Tryd.func84, Tryd.ntmps84
    go_wp2_with fail
    go_quiet (fail)
    go_wp2_with fail
    go_ret2
    exact Vb.mk rfl (below_drewN (Below.refl _ _) _)
  · have h1 : (n : Int) ≤ i := by omega
    have h2 : 0 ≤ i := by omega
    clear hi h0
    go_enter Tryd.func84, Tryd.ntmps84
    go_wp2_with fail
    go_quiet (fail)
    go_wp2_with fail
    go_ret2
    exact Vb.mk rfl (below_drewN (Below.refl _ _) _)
set_option maxRecDepth 20000 in
theorem out_syncelementsyncqueue (a : Option Addr) (n c : Nat) (i : Int) (w : World) {p : List Addr} (h17 : E2 w p) (hi : i < 0 ∨ (n : Int) ≤ i) : Calls Tryd.prog 58 #[.slice a n c, .int .i64 i] w (Vb w (.tuple #[.pointer none, errV p 0])) := by
  have x0 : w.cell? ⟨0, 0, none⟩ = some (errV p 0) := h17.c0
  clear h17
  generalize errV p 0 = ev at *
  by_cases h0 : i < 0
  · clear hi
    go_enter Tryd.func58, Tryd.ntmps58
    go_wp2_with fail
    go_quiet (fail)
    go_wp2_with fail
    go_ret2
    exact Vb.mk rfl (below_drewN (Below.refl _ _) _)
  · have h1 : (n : Int) ≤ i := by omega
    have h2 : 0 ≤ i := by omega
    clear hi h0
    go_enter Tryd.func58, Tryd.ntmps58
    go_wp2_with fail
    go_quiet (fail)
    go_wp2_with fail
    go_ret2
    exact Vb.mk rfl (below_drewN (Below.refl _ _) _)
end Go.Proofs.YtghfjnnmpmfboaaDoor.Ck
