/- Package order: is a trace in form (Check). -/
import Derived.Test.YticgmebbnnmikaaDoorOr
namespace Go.Proofs.YticgmebbnnmikaaDoor.Ck
open Go.RowKit

/-- is a trace in form? -/
def formT (T : List Ev) : Bool := T.all evB
theorem formT_at {T : List Ev} (h : formT T = true) (k : Nat) (hk : k < T.length) : evB (T.getD k zE) = true := by
  unfold formT at h
  rw [List.all_eq_true] at h
  refine h _ ?_
  rw [List.getD_eq_getElem?_getD, List.getElem?_eq_getElem hk]
  exact List.getElem_mem _
theorem formT_all {T : List Ev} (h : ∀ j, j < T.length → evB (T.getD j zE) = true) : formT T = true := by
  unfold formT
  rw [List.all_eq_true]
  intro x hx
  obtain ⟨i, hi, rfl⟩ := List.getElem_of_mem hx
  have := h i hi
  rw [List.getD_eq_getElem?_getD, List.getElem?_eq_getElem hi] at this
  exact this
theorem formT_not {T : List Ev} {k : Nat} (hk : k < T.length) (h : evB (T.getD k zE) = false) : formT T = false := by
  cases e : formT T with
  | false => rfl
  | true => rw [formT_at e k hk] at h; cases h
/-- the error that is listed -/
def Er (w : World) (ev : Value) : Prop := w.cell? ⟨0, 0, none⟩ = some ev
theorem Er.bel {w w' : World} {ev : Value} (h : Er w ev) (hb : Below w.heap.size w w') : Er w' ev := (hb.cell (p := ⟨0, 0, none⟩) (World.block_lt_of_cell? w _ h)).trans h
def erF (ev : Value) (b : Bool) : Value := if b = true then .nilIface else ev
set_option maxRecDepth 20000 in
set_option maxHeartbeats 2000000 in
theorem check_any {w : World} {vT ev : Value} {T : List Ev} (hT : SlE w vT T) (hE : Er w ev) (hn : T.length ≤ 100000) : Calls Tryd.prog 9 #[vT] w (Vb w (erF ev (formT T))) := by
  obtain ⟨aT, cT, rfl, hcT, _⟩ := hT.form
  have HT := hide hT
  have HE := hide hE
  have HN := hide hn
  clear hT hE hn
  go_enter Tryd.func9, Tryd.ntmps9
  go_wp2_with fail
  go_loopw [7] (fun x7 wr => ∃ k : Nat, k ≤ T.length ∧ x7 = .int .i64 (k : Nat) ∧ Hid (Below w.heap.size w wr ∧ ∀ j, j < k → evB (T.getD j zE) = true)) (fun x7 _ => T.length - (intOf x7).toNat)
  case atStart => exact ⟨0, Nat.zero_le _, rfl, hide ⟨Below.refl _ _, fun j hj => absurd hj (Nat.not_lt_zero _)⟩⟩
  case round =>
    obtain ⟨k, hk, rfl, hI⟩ := hrel
    by_cases hlt : k < T.length
    · have hlt' : (k : Int) < (T.length : Int) := by omega
      have BW := hide hI.out.1
      have PV := hide hI.out.2
      obtain ⟨bT, off, rfl, hbT, t0, t1, t2, t3⟩ := (HT.out.bel BW.out).at k hlt
      obtain ⟨e, he⟩ : ∃ q, q = T.getD k zE := ⟨_, rfl⟩
      have IF := hide (fun w => inForm_any e w)
      have FN : Hid (evB e = false → formT T = false) := hide (fun h => formT_not hlt (by rw [← he]; exact h))
      have FY : Hid (evB e = true → ∀ j, j < k + 1 → evB (T.getD j zE) = true) := hide (fun h j hj => by
        by_cases q : j = k
        · subst q
          rw [← he]
          exact h
        · exact PV.out j (by omega))
      have MS : Hid (T.length - (k + 1) < T.length - k) := hide (by omega)
      have EE := hide (HE.out.bel BW.out)
      rw [← he] at t0 t1 t2 t3
      have hk8 : k ≤ 100000 := by have := HN.out; omega
      unfold evV at IF
      obtain ⟨eg, ek, eo, ea⟩ := e
      simp only at t0 t1 t2 t3 IF
      clear hI he HT PV hk
      go_wp2_with fail
      refine (IF.out _).mono ?_
      rintro e w3 ⟨rfl, b3⟩
      have B3 := hide (bel_trans (bel_al BW.out _) b3)
      have E3 := HE.out.bel B3.out
      unfold Er at E3
      cases hb : evB ⟨eg, ek, eo, ea⟩ with
      | true =>
        have Y := hide (FY.out hb)
        clear b3 IF FN FY EE E3 t0 t1 t2 t3
        go_wp2_with fail
        go_roundw
        case rel => exact ⟨k + 1, by omega, by first | rfl | go_num, hide ⟨B3.out, Y.out⟩⟩
        case measure => simp [intOf]; omega
      | false =>
        have Y := hide (FN.out hb)
        clear b3 IF FN FY EE t0 t1 t2 t3
        go_wp2_with fail
        go_ret
        rw [Y.out]
        exact ⟨rfl, B3.out⟩
    · obtain rfl : k = T.length := by omega
      have BW := hide hI.out.1
      have Y := hide (formT_all hI.out.2)
      clear hI HT
      go_wp2_with fail
      go_ret
      rw [Y.out]
      exact ⟨rfl, BW.out⟩
end Go.Proofs.YticgmebbnnmikaaDoor.Ck
