/- Texts of this proof, packed: contracts of the program's functions, and the plain model that they are held against. -/
import Derived.Test.YtfojninaginnoaaGreatDoorVao
set_option maxRecDepth 20000
set_option maxHeartbeats 4000000
namespace Go.Proofs.YtfojninaginnoaaGreatDoor.Ck
open Go.RowKit
def runK (r : Rm) (k : Nat) : List Int := ((List.range k).filter fun (i : Nat) => can r i).map fun (i : Nat) => (i : Int)
theorem runK_yes {r : Rm} {k : Nat} (h : can r (k : Int) = true) : runK r (k + 1) = runK r k ++ [(k : Int)] := by
 unfold runK
 rw [List.range_succ, List.filter_append]
 simp [h]
theorem runK_no {r : Rm} {k : Nat} (h : can r (k : Int) = false) : runK r (k + 1) = runK r k := by
 unfold runK
 rw [List.range_succ, List.filter_append]
 simp [h]
theorem runK_len (r : Rm) (k : Nat) : (runK r k).length <= k := by
 unfold runK
 rw [List.length_map]
 have := List.length_filter_le (fun (i : Nat) => can r i) (List.range k)
 simpa using this
def RunnP (w : World) (l : List Int) (e : Ending) (w' : World) : Prop := ∃ a c, e = .returned (.slice a l.length c) /\ w'.ownsRow w.heap.size 3 1 (.slice a l.length c) l.length (nts l) /\ Below w.heap.size w w'
theorem Runnable_any {w : World} {G : Nat -> Prop} {g : Nat} {S : List (List Wt)} {r : Rm} {p : List Addr} (h : Rn w G g S r) (h17 : E2 w p) : Calls Tryz.prog 20 #[P_ g] w (RunnP w (runnR r)) := by
  have EN := Za (ended_any h h17)
  have HR := Za h
  have H7 := Za h17
  unfold runnR
  cases hr : runs r with
  | false =>
    rw [hr] at EN
    clear h h17 hr
    go_enter Tryz.func20, Tryz.ntmps20
    go_wp2_with fail
    refine EN.out.mono ?_
    rintro e w1 ⟨rfl, hb⟩
    go_wp2_with fail
    go_ret
    exact ⟨_, _, rfl, World.ownsRow_nil _ _ _ _, hb⟩
  | true =>
    rw [hr] at EN
    have hn8 : r.gs.length <= 8 := by
      obtain ⟨_, _, _, _, _, _, _, _, _, _, h', _⟩ := h
      exact h'.n8
    obtain ⟨n, hn⟩ : ∃ n, n = r.gs.length := ⟨_, rfl⟩
    have c3 : Hid (∃ aG cG, ∀ w1, Below w.heap.size w w1 -> w1.cell? ⟨g, 3, none⟩ = some (.slice aG n cG) /\ g < w1.heap.size) := Za (by
      obtain ⟨_, _, _, _, _, _, vG, _, _, _, h', _⟩ := h
      obtain ⟨aG, cG, e, _⟩ := Zl h'.go
      refine ⟨aG, cG, fun w1 hb => ⟨?_, Nat.lt_of_lt_of_le (h'.fb g h'.fg) hb.size⟩⟩
      have := (h'.bel hb).cells.1.2.2.2.1
      rw [e, ← hn] at this
      exact this)
    rw [if_pos rfl]
    have e0 : ((List.range r.gs.length).filter fun (i : Nat) => can r i).map (fun (i : Nat) => (i : Int)) = runK r n := by rw [hn]; rfl
    rw [e0]
    rw [← hn] at hn8
    clear h h17 hr e0 hn
    obtain ⟨aG, cG, C3⟩ := c3.out
    have C3 := Za C3
    clear c3
    go_enter Tryz.func20, Tryz.ntmps20
    go_wp2_with fail
    refine EN.out.mono ?_
    rintro e w1 ⟨rfl, hb⟩
    obtain ⟨c3, hgl⟩ := C3.out w1 hb
    have HB := Za hb
    clear hb EN
    go_wp2_with fail
    go_loopw [3, 4, 13] (fun x3 x4 i wr => ∃ (k m : Nat) (a : Option Addr) (c : Nat), k <= n /\ i = I_ k /\ x3 = .slice a m c /\ m <= k /\ Hid (m = (runK r k).length /\ wr.ownsRow w.heap.size 3 1 (.slice a m c) m (nts (runK r k)) /\ Below w.heap.size w wr)) (fun x3 x4 i _ => n - (intOf i).toNat)
    case atStart => exact ⟨0, 0, none, 0, Nat.zero_le _, rfl, rfl, Nat.le_refl _, Za ⟨rfl, World.ownsRow_nil _ _ _ _, HB.out⟩⟩
    case round =>
      obtain ⟨k, m, a, c, hk, rfl, rfl, hmk, HI⟩ := hrel
      by_cases hlt : k < n
      · have hlt' : (k : Int) < (n : Int) := by omega
        have CR := Za (canRun_any (HR.out.bel HI.out.2.2) (H7.out.below (Nat.le_refl _) HI.out.2.2) (k : Int))
        have yes := Za (fun h => runK_yes (r := r) (k := k) h)
        have no := Za (fun h => runK_no (r := r) (k := k) h)
        generalize can r (k : Int) = z at *
        go_wp2_with fail
        refine CR.out.mono ?_
        rintro e w2 ⟨rfl, hb2⟩
        have HI2 : Hid (m = (runK r k).length /\ w2.ownsRow w.heap.size 3 1 (.slice a m c) m (nts (runK r k)) /\ Below w.heap.size w w2) := Za ⟨HI.out.1, Zj HI.out.2.1 (fun q hq => hb2.block q (Zf HI.out.2.1 hq).2.1), Zg HI.out.2.2 hb2⟩
        clear HI hb2 CR
        cases z with
        | false =>
          have no2 := Za (no.out rfl)
          clear yes no
          go_wp2_with fail
          go_roundw
          case rel => exact ⟨k + 1, m, a, c, by omega, by go_num, rfl, by omega, Za (by rw [no2.out]; exact HI2.out)⟩
          case measure => simp [intOf]; omega
        | true =>
          have yes2 := Za (yes.out rfl)
          clear yes no
          have PU := Za (fun ty => push_i2 (n := m) (l := runK r k) HI2.out.1 (by have := runK_len r k; omega) HI2.out.2.1 HI2.out.2.2.size (k : Int) ty)
          go_wp2_with (first | (at_builtin; refine wpList_appV (TS := 22) rfl (.tmp 19) (.tmp 21) rfl _ _ rfl rfl _ (PU.out _) ?_; rintro v9 w9 ⟨⟨a9, c9, rfl⟩, r9⟩; have R9 := Za r9; clear r9))
          go_roundw
          case rel =>
            refine ⟨k + 1, m + 1, a9, c9, by omega, by go_num, rfl, by omega, Za ⟨?_, ?_, HI2.out.2.2.grown R9.out.2.1 HI2.out.2.2.size (fun q hq => (Zf HI2.out.2.1 hq).1)⟩⟩
            · rw [yes2.out, HI2.out.1]; simp
            · rw [yes2.out]; exact R9.out.1
          case measure => simp [intOf]; omega
      · have ek : k = n := by omega
        subst ek
        go_wp2_with fail
        go_ret
        refine ⟨a, c, ?_, ?_, HI.out.2.2⟩
        · rw [← HI.out.1]; rfl
        · rw [← HI.out.1]; exact HI.out.2.1
def S0 : List (List Wt) := [[⟨10, 1, 0, (0, 0, 0)⟩, ⟨3, 0, 0, (0, 0, 0)⟩, ⟨4, 0, 0, (0, 0, 0)⟩], [⟨3, 0, 0, (0, 0, 0)⟩]]
def s0 : St := ⟨[], [false], [], []⟩
def r0 : Rm := startR S0 s0 0
def r1 : Rm := doR S0 r0 0
def r2 : Rm := doR S0 r1 1
def r3 : Rm := doR S0 r2 1
theorem src0 (w1 : World) : SSrc (((w1.alloc (.cells #[I_ 10, I_ 1, I_ 0, I_ 0, I_ 0, .int .u64 0, .slice none 0 0, I_ 3, I_ 0, I_ 0, I_ 0, I_ 0, .int .u64 0, .slice none 0 0, I_ 4, I_ 0, I_ 0, I_ 0, I_ 0, .int .u64 0, .slice none 0 0] 67)).alloc (.cells #[I_ 3, I_ 0, I_ 0, I_ 0, I_ 0, .int .u64 0, .slice none 0 0] 67)).alloc (.cells #[.slice (some ⟨w1.heap.size, 0, none⟩) 3 3, .slice (some ⟨w1.heap.size + 1, 0, none⟩) 1 1] 68)) (.slice (some ⟨w1.heap.size + 1 + 1, 0, none⟩) 2 2) S0 := by
 have hs1 : (w1.alloc (.cells #[I_ 10, I_ 1, I_ 0, I_ 0, I_ 0, .int .u64 0, .slice none 0 0, I_ 3, I_ 0, I_ 0, I_ 0, I_ 0, .int .u64 0, .slice none 0 0, I_ 4, I_ 0, I_ 0, I_ 0, I_ 0, .int .u64 0, .slice none 0 0] 67)).heap.size = w1.heap.size + 1 := by simp
 have hs2 : ((w1.alloc (.cells #[I_ 10, I_ 1, I_ 0, I_ 0, I_ 0, .int .u64 0, .slice none 0 0, I_ 3, I_ 0, I_ 0, I_ 0, I_ 0, .int .u64 0, .slice none 0 0, I_ 4, I_ 0, I_ 0, I_ 0, I_ 0, .int .u64 0, .slice none 0 0] 67)).alloc (.cells #[I_ 3, I_ 0, I_ 0, I_ 0, I_ 0, .int .u64 0, .slice none 0 0] 67)).heap.size = w1.heap.size + 1 + 1 := by simp
 have e1 := B_ w1 (.cells #[I_ 10, I_ 1, I_ 0, I_ 0, I_ 0, .int .u64 0, .slice none 0 0, I_ 3, I_ 0, I_ 0, I_ 0, I_ 0, .int .u64 0, .slice none 0 0, I_ 4, I_ 0, I_ 0, I_ 0, I_ 0, .int .u64 0, .slice none 0 0] 67)
 have e2 := B_ (w1.alloc (.cells #[I_ 10, I_ 1, I_ 0, I_ 0, I_ 0, .int .u64 0, .slice none 0 0, I_ 3, I_ 0, I_ 0, I_ 0, I_ 0, .int .u64 0, .slice none 0 0, I_ 4, I_ 0, I_ 0, I_ 0, I_ 0, .int .u64 0, .slice none 0 0] 67)) (.cells #[I_ 3, I_ 0, I_ 0, I_ 0, I_ 0, .int .u64 0, .slice none 0 0] 67)
 have e3 := B_ ((w1.alloc (.cells #[I_ 10, I_ 1, I_ 0, I_ 0, I_ 0, .int .u64 0, .slice none 0 0, I_ 3, I_ 0, I_ 0, I_ 0, I_ 0, .int .u64 0, .slice none 0 0, I_ 4, I_ 0, I_ 0, I_ 0, I_ 0, .int .u64 0, .slice none 0 0] 67)).alloc (.cells #[I_ 3, I_ 0, I_ 0, I_ 0, I_ 0, .int .u64 0, .slice none 0 0] 67)) (.cells #[.slice (some ⟨w1.heap.size, 0, none⟩) 3 3, .slice (some ⟨w1.heap.size + 1, 0, none⟩) 1 1] 68)
 rw [hs1] at e2
 rw [hs2] at e3
 replace e2 := ((Zd ((w1.alloc (.cells #[I_ 10, I_ 1, I_ 0, I_ 0, I_ 0, .int .u64 0, .slice none 0 0, I_ 3, I_ 0, I_ 0, I_ 0, I_ 0, .int .u64 0, .slice none 0 0, I_ 4, I_ 0, I_ 0, I_ 0, I_ 0, .int .u64 0, .slice none 0 0] 67)).alloc (.cells #[I_ 3, I_ 0, I_ 0, I_ 0, I_ 0, .int .u64 0, .slice none 0 0] 67)) (.cells #[.slice (some ⟨w1.heap.size, 0, none⟩) 3 3, .slice (some ⟨w1.heap.size + 1, 0, none⟩) 1 1] 68)).block _ (Ze e2)).trans e2
 replace e1 := ((Zv (Zd (w1.alloc (.cells #[I_ 10, I_ 1, I_ 0, I_ 0, I_ 0, .int .u64 0, .slice none 0 0, I_ 3, I_ 0, I_ 0, I_ 0, I_ 0, .int .u64 0, .slice none 0 0, I_ 4, I_ 0, I_ 0, I_ 0, I_ 0, .int .u64 0, .slice none 0 0] 67)) (.cells #[I_ 3, I_ 0, I_ 0, I_ 0, I_ 0, .int .u64 0, .slice none 0 0] 67)) (.cells #[.slice (some ⟨w1.heap.size, 0, none⟩) 3 3, .slice (some ⟨w1.heap.size + 1, 0, none⟩) 1 1] 68)).block _ (Ze e1)).trans e1
 generalize ((w1.alloc _).alloc _).alloc _ = W at *
 have w3 : WSrc W (.slice (some ⟨w1.heap.size, 0, none⟩) 3 3) [⟨10, 1, 0, (0, 0, 0)⟩, ⟨3, 0, 0, (0, 0, 0)⟩, ⟨4, 0, 0, (0, 0, 0)⟩] := by
  refine ⟨_, 3, rfl, by simp, fun j x hx => ⟨w1.heap.size, 0, .slice none 0 0, rfl, Ze e1, fun q u hu => ?_, ArgC.nilS W⟩⟩
  refine Zb e1 _ _ ?_
  match j, hx with
  | 0, hx => cases hx; match q, hu with
   | 0, hu | 1, hu | 2, hu | 3, hu | 4, hu | 5, hu | 6, hu => cases hu; rfl
  | 1, hx => cases hx; match q, hu with
   | 0, hu | 1, hu | 2, hu | 3, hu | 4, hu | 5, hu | 6, hu => cases hu; rfl
  | 2, hx => cases hx; match q, hu with
   | 0, hu | 1, hu | 2, hu | 3, hu | 4, hu | 5, hu | 6, hu => cases hu; rfl
 have w1' : WSrc W (.slice (some ⟨w1.heap.size + 1, 0, none⟩) 1 1) [⟨3, 0, 0, (0, 0, 0)⟩] := by
  refine ⟨_, 1, rfl, by simp, fun j x hx => ⟨w1.heap.size + 1, 0, .slice none 0 0, rfl, Ze e2, fun q u hu => ?_, ArgC.nilS W⟩⟩
  refine Zb e2 _ _ ?_
  match j, hx with
  | 0, hx => cases hx; match q, hu with
   | 0, hu | 1, hu | 2, hu | 3, hu | 4, hu | 5, hu | 6, hu => cases hu; rfl
 refine ⟨_, 2, rfl, by simp [S0], fun i l hl => ?_⟩
 match i, hl with
 | 0, hl => cases hl; exact ⟨w1.heap.size + 1 + 1, 0, _, rfl, Ze e3, Zb e3 0 _ rfl, w3⟩
 | 1, hl => cases hl; exact ⟨w1.heap.size + 1 + 1, 0, _, rfl, Ze e3, Zb e3 1 _ rfl, w1'⟩
def canAt (r : Rz) (i : Nat) : Bool := match r.ws[i]? with
 | some x => decide (r.e.o = 0) && Yl r.s r.ws x
 | none => false
def runZ (r : Rz) (k : Nat) : List Int := ((List.range k).filter fun (i : Nat) => canAt r i).map fun (i : Nat) => (i : Int)
theorem runZ_yes {r : Rz} {k : Nat} (h : canAt r k = true) : runZ r (k + 1) = runZ r k ++ [(k : Int)] := by
 unfold runZ
 rw [List.range_succ, List.filter_append, List.map_append]
 simp [h]
theorem runZ_no {r : Rz} {k : Nat} (h : canAt r k = false) : runZ r (k + 1) = runZ r k := by
 unfold runZ
 rw [List.range_succ, List.filter_append, List.map_append]
 simp [h]
theorem runZ_len (r : Rz) (k : Nat) : (runZ r k).length <= k := by
 unfold runZ
 rw [List.length_map]
 have := List.length_filter_le (fun (i : Nat) => canAt r i) (List.range k)
 simpa using this
theorem own_none0 {w : World} {B k : Nat} {T : TypeId} {sz : Nat} (hk : w.heap[k]? = some (.cells #[] T (0, 0))) (hBk : B <= k) : w.ownsRow B T sz (.slice (some ⟨k, 0, none⟩) 0 0) 0 [] :=
 ⟨by simp, .inr ⟨k, 0, #[], rfl, hBk, hk, Nat.le_refl _, by unfold maxLen; omega, by simp, by simp⟩⟩
theorem rRunnable_any {w : World} {G : Nat -> Prop} {B g : Nat} {S : List (List Wt)} {r : Rz} (h : Rr w G B g S r) (hB : B <= 1000000) : Calls Tryz.prog 27 #[P_ g] w (RunnP w (runZ r r.ws.length)) := by
 have HR := Za h
 obtain ⟨Fs, Rs, Fo, R, gs, gt, vW, vE, vL, vO, vA, vs, os, as_, h, hG⟩ := h
 obtain ⟨n, hn⟩ : ∃ n, n = r.ws.length := ⟨_, rfl⟩
 obtain ⟨aW, cW, eW, _⟩ := Zl h.wa
 rw [← hn] at eW ⊢
 subst eW
 have hn8 : n <= 8 := by have := h.n8.1; omega
 have nb := Zd w (.cells #[] 3)
 have c1 := (h.bel nb).cells.1.2.1
 have C3 := Za (fun w1 (hb : Below w.heap.size w w1) => (h.bel hb).cells.2.1.1)
 have O0 := Za (own_none0 (B := w.heap.size) (sz := 1) (B_ w (.cells #[] 3)) (Nat.le_refl _))
 have B0 := Za nb
 have HN := Za hn
 clear h hG nb hn
 go_enter Tryz.func27, Tryz.ntmps27
 go_wp2_with fail
 generalize w.alloc _ = w1 at *
 go_loopw [3, 4, 11] (fun x3 x4 i wr => ∃ (k m : Nat) (a : Option Addr) (c : Nat), k <= n /\ i = I_ k /\ x3 = .slice a m c /\ m <= k /\ Hid (m = (runZ r k).length /\ wr.ownsRow w.heap.size 3 1 (.slice a m c) m (nts (runZ r k)) /\ Below w.heap.size w wr)) (fun x3 x4 i _ => n - (intOf i).toNat)
 case atStart => exact ⟨0, 0, _, 0, Nat.zero_le _, rfl, rfl, Nat.le_refl _, Za ⟨rfl, O0.out, B0.out⟩⟩
 case round =>
  obtain ⟨k, m, a, c, hk, rfl, rfl, hmk, HI⟩ := hrel
  clear c1 O0 B0
  by_cases hlt : k < n
  · have hlt' : (k : Int) < (n : Int) := by omega
    obtain ⟨x, hx⟩ : ∃ x, r.ws[k]? = some x := ⟨_, List.getElem?_eq_getElem (by rw [← HN.out]; exact hlt)⟩
    have CR := Za (rCan_any (HR.out.bel HI.out.2.2) hB k x hx)
    have c3 := C3.out wr HI.out.2.2
    have yes := Za (fun h => runZ_yes (r := r) (k := k) h)
    have no := Za (fun h => runZ_no (r := r) (k := k) h)
    have HC : Hid (canAt r k = (decide (r.e.o = 0) && Yl r.s r.ws x)) := Za (by unfold canAt; rw [hx])
    clear hx
    by_cases he : r.e.o = 0
    · rw [he] at c3
      obtain ⟨z, hz⟩ : ∃ z, Yl r.s r.ws x = z := ⟨_, rfl⟩
      rw [hz] at CR HC
      have HC2 : Hid (canAt r k = z) := Za (by rw [HC.out]; simp [he])
      clear HC hz he
      go_wp2_with fail
      refine CR.out.mono ?_
      rintro e w2 ⟨rfl, hb2⟩
      have HI2 : Hid (m = (runZ r k).length /\ w2.ownsRow w.heap.size 3 1 (.slice a m c) m (nts (runZ r k)) /\ Below w.heap.size w w2) := Za ⟨HI.out.1, Zj HI.out.2.1 (fun q hq => hb2.block q (Zf HI.out.2.1 hq).2.1), Zg HI.out.2.2 hb2⟩
      clear HI hb2 CR c3
      cases z with
      | false =>
       have no2 := Za (no.out HC2.out)
       clear yes no
       go_wp2_with fail
       go_roundw
       case rel => exact ⟨k + 1, m, a, c, by omega, by go_num, rfl, by omega, Za (by rw [no2.out]; exact HI2.out)⟩
       case measure => simp [intOf]; omega
      | true =>
       have yes2 := Za (yes.out HC2.out)
       clear yes no
       have PU := Za (fun ty => push_i2 (n := m) (l := runZ r k) HI2.out.1 (by have := runZ_len r k; omega) HI2.out.2.1 HI2.out.2.2.size (k : Int) ty)
       go_wp2_with (first | (at_builtin; refine wpList_appV (TS := 22) rfl (.tmp 25) (.tmp 27) rfl _ _ rfl rfl _ (PU.out _) ?_; rintro v9 w9 ⟨⟨a9, c9, rfl⟩, r9⟩; have R9 := Za r9; clear r9))
       go_roundw
       case rel =>
        refine ⟨k + 1, m + 1, a9, c9, by omega, by go_num, rfl, by omega, Za ⟨?_, ?_, HI2.out.2.2.grown R9.out.2.1 HI2.out.2.2.size (fun q hq => (Zf HI2.out.2.1 hq).1)⟩⟩
        · rw [yes2.out, List.length_append, ← HI2.out.1]; rfl
        · rw [yes2.out]; exact R9.out.1
       case measure => simp [intOf]; omega
    · have he' : (r.e.o == 0) = false := by simp [he]
      have no2 := Za (no.out (by rw [HC.out]; simp [he]))
      generalize r.e.o = eo at *
      clear yes no HC CR he
      go_wp2_with fail
      go_roundw
      case rel => exact ⟨k + 1, m, a, c, by omega, by go_num, rfl, by omega, Za (by rw [no2.out]; exact HI.out)⟩
      case measure => simp [intOf]; omega
  · obtain rfl : k = n := by omega
    go_wp2_with fail
    go_ret
    have h1 := HI.out
    refine ⟨a, c, by rw [h1.1]; rfl, ?_, h1.2.2⟩
    have h2 := h1.2.1
    rw [h1.1] at h2
    exact h2
def YB (w : World) (G : Nat -> Prop) (B g : Nat) (S : List (List Wt)) (r' : Rz) (l : List (Nat × V3)) (e : Ending) (w' : World) : Prop := ∃ v G', e = .returned v /\ Rr w' G' B g S r' /\ Ch G G' w w' /\ AskS w' G' v l
theorem AskS.nil (W : World) (G : Nat -> Prop) : AskS W G (.slice none 0 0) [] := ⟨none, 0, rfl, Nat.zero_le _, fun k x hx => by simp at hx⟩
theorem AskS.one {W : World} {G : Nat -> Prop} {B g : Nat} {S : List (List Wt)} {r : Rz} (h : Rr W G B g S r) (x : Nat × V3) : AskS (W.alloc (.cells #[I_ (x.1 : Nat), I_ x.2.1, I_ x.2.2.1, .int .u64 x.2.2.2] 130)) G (.slice (some ⟨W.heap.size, 0, none⟩) 1 1) [x] := by
 have KN := Kb.new h #[I_ (x.1 : Nat), I_ x.2.1, I_ x.2.2.1, .int .u64 x.2.2.2] 130
 refine ⟨some ⟨W.heap.size, 0, none⟩, 1, rfl, by simp, fun j y hy => ?_⟩
 cases j with
 | zero =>
  simp at hy
  subst hy
  exact ⟨_, _, rfl, KN, Zb KN.1 0 _ rfl, Zb KN.1 1 _ rfl, Zb KN.1 2 _ rfl, Zb KN.1 3 _ rfl⟩
 | succ j => simp at hy
theorem AskS.two {W : World} {G : Nat -> Prop} {B g : Nat} {S : List (List Wt)} {r : Rz} (h : Rr W G B g S r) (x y : Nat × V3) : AskS (W.alloc (.cells #[I_ (x.1 : Nat), I_ x.2.1, I_ x.2.2.1, .int .u64 x.2.2.2, I_ (y.1 : Nat), I_ y.2.1, I_ y.2.2.1, .int .u64 y.2.2.2] 130)) G (.slice (some ⟨W.heap.size, 0, none⟩) 2 2) [x, y] := by
 have KN := Kb.new h #[I_ (x.1 : Nat), I_ x.2.1, I_ x.2.2.1, .int .u64 x.2.2.2, I_ (y.1 : Nat), I_ y.2.1, I_ y.2.2.1, .int .u64 y.2.2.2] 130
 refine ⟨some ⟨W.heap.size, 0, none⟩, 2, rfl, by simp, fun j z hz => ?_⟩
 match j, hz with
 | 0, hz =>
  simp at hz
  subst hz
  exact ⟨_, _, rfl, KN, Zb KN.1 0 _ rfl, Zb KN.1 1 _ rfl, Zb KN.1 2 _ rfl, Zb KN.1 3 _ rfl⟩
 | 1, hz =>
  simp at hz
  subst hz
  exact ⟨_, _, rfl, KN, Zb KN.1 4 _ rfl, Zb KN.1 5 _ rfl, Zb KN.1 6 _ rfl, Zb KN.1 7 _ rfl⟩
 | j + 2, hz => simp at hz
theorem Rq.waitAt {w : World} {Fs Rs Fo R : Nat -> Prop} {B g gs gt : Nat} {S : List (List Wt)} {r : Rz} {vW vE vL vO vA : Value} {vs : List Value} {os as_ : List Nat} (h : Rq w Fs Rs Fo R B g gs gt S r vW vE vL vO vA vs os as_) (i : Nat) (x : Wt) (hx : r.ws[i]? = some x) : ∃ b c, vW = .slice (some ⟨b, 0, none⟩) r.ws.length c /\ b < w.heap.size /\ w.cell? ⟨b, i * 6, none⟩ = some (I_ x.k) /\ w.cell? ⟨b, i * 6 + 1, none⟩ = some (I_ x.o) /\ w.cell? ⟨b, i * 6 + 2, none⟩ = some (I_ x.a) /\ w.cell? ⟨b, i * 6 + 3, none⟩ = some (I_ x.v.1) /\ w.cell? ⟨b, i * 6 + 4, none⟩ = some (I_ x.v.2.1) /\ w.cell? ⟨b, i * 6 + 5, none⟩ = some (.int .u64 x.v.2.2) := by
 have hi := (G_ hx)
 obtain ⟨aW, cW, eW, _⟩ := Zl h.wa
 subst eW
 obtain ⟨b, eA⟩ := own_adr h.wa (by omega)
 subst eA
 obtain ⟨p0, p1, p2, p3, p4, p5⟩ := w6s_at _ _ _ hx
 exact ⟨b, cW, rfl, h.fb b (h.fW b rfl), (Zk h.wa _ _ p0).1, (Zk h.wa _ _ p1).1, (Zk h.wa _ _ p2).1, (Zk h.wa _ _ p3).1, (Zk h.wa _ _ p4).1, (Zk h.wa _ _ p5).1⟩
theorem rSpawn_any {w : World} {G : Nat -> Prop} {B g : Nat} {S : List (List Wt)} {r : Rz} (h : Rr w G B g S r) (i : Nat) (x : Wt) (hx : r.ws[i]? = some x) (hl : r.ev.length <= 100000) (h8 : r.ws.length + 1 <= 8) :
 Calls Tryz.prog 42 #[P_ g, I_ (i : Nat)] w (YB w G B g S { r with ev := r.ev ++ [⟨i, x.k, r.ws.length, x.a⟩], ws := r.ws ++ [zW] } [(i, 0, 0, 0), (r.ws.length, 0, 0, 0)]) := by
 have NT := Za (ZZ h i x (r.ws.length : Int) hl)
 obtain ⟨Fs, Rs, Fo, R, gs, gt, vW, vE, vL, vO, vA, vs, os, as_, h, hG⟩ := h
 have hi := (G_ hx)
 obtain ⟨b, cW, eW, hb, p0, p1, p2, p3, p4, p5⟩ := h.waitAt i x hx
 subst eW
 have c1 := h.cells.1.2.1
 obtain ⟨n, hn⟩ : ∃ n, n = r.ws.length := ⟨_, rfl⟩
 rw [← hn] at c1 NT h8 ⊢
 have hi1 : (i : Int) < (n : Int) := by omega
 have hi0 : (0 : Int) <= (i : Int) := by omega
 have HN := Za hn
 have H8 := Za h8
 unfold w6V at NT
 clear h hG hx hi hn hl h8 hb
 go_enter Tryz.func42, Tryz.ntmps42
 go_wp2_with fail
 refine NT.out.mono ?_
 rintro e w2 ⟨rfl, G2, rn, ch⟩
 obtain ⟨Fs2, Rs2, Fo2, R2, gs2, gt2, vW, vE, vL, vO, vA, vs, os, as_, q2, hG2⟩ := rn
 have PU := Za (fun ty => q2.pushW (by have := HN.out; have := H8.out; show r.ws.length + 1 <= 8; omega) ty)
 have d1 := q2.cells.1.2.1
 obtain ⟨aV, cV, eV, _⟩ := Zl q2.wa
 subst eV
 have HG2 := Za hG2
 have CH := Za ch
 clear q2 hG2 ch NT c1 p0 p1 p2 p3 p4 p5
 go_upto_region 4 with (first | (at_builtin; refine wpList_appV (TS := 39) rfl (.tmp 26) (.tmp 28) rfl _ _ rfl rfl _ (PU.out _) ?_; rintro v9 w9 ⟨⟨a9, l9, c9, rfl⟩, z9, y9, Fo9, q9, ch9⟩; have RW := Za (rr_new (Below.refl _ _) HG2.out q9 ch9); clear q9 ch9 PU d1))
 generalize w9.setCell ⟨g, 1, none⟩ (.slice a9 l9 c9) = w3 at *
 obtain ⟨r3, c3⟩ := RW.out
 have R3 := Za r3
 have C3 := Za (CH.out.trans (c3.trans (Ch.of_bel (Zd w3 (.cells #[I_ (i : Nat), I_ 0, I_ 0, .int .u64 0, I_ (n : Nat), I_ 0, I_ 0, .int .u64 0] 130)))))
 clear r3 c3 RW z9 y9 CH
 go_wp2_with fail
 go_ret
 exact ⟨_, _, rfl, by have := R3.out.bel (Zd w3 (.cells #[I_ (i : Nat), I_ 0, I_ 0, .int .u64 0, I_ (n : Nat), I_ 0, I_ 0, .int .u64 0] 130)); exact this, C3.out, AskS.two R3.out (i, 0, 0, 0) (n, 0, 0, 0)⟩
theorem rr_st {w w' : World} {G Fs Fs' Rs Rs' Fo R : Nat -> Prop} {B' g gs gt : Nat} {S : List (List Wt)} {r' : Rz} {vW vE vL vO vA : Value} {vs : List Value} {os as_ : List Nat} (hG : ∀ k, G k ↔ Fs k ∨ Rs k ∨ Fo k ∨ R k) (h : Rq w' Fs' Rs' Fo R B' g gs gt S r' vW vE vL vO vA vs os as_) (c : Ch Fs Fs' w w') (hr : ∀ k, Rs' k -> Rs k ∨ w.heap.size <= k) : Rr w' (fun k => Fs' k ∨ Rs' k ∨ Fo k ∨ R k) B' g S r' /\ Ch G (fun k => Fs' k ∨ Rs' k ∨ Fo k ∨ R k) w w' := by
 refine ⟨h.rr, ⟨c.os, c.tape, c.output, c.size, fun k hk hn => c.blk k hk (fun e => hn ((hG k).2 (.inl e))), fun k hk => ?_⟩⟩
 rcases hk with q | q | q | q
 · exact (c.grow k q).imp (fun e => (hG k).2 (.inl e)) id
 · exact (hr k q).imp (fun e => (hG k).2 (.inr (.inl e))) id
 · exact .inl ((hG k).2 (.inr (.inr (.inl q))))
 · exact .inl ((hG k).2 (.inr (.inr (.inr q))))
theorem set3t {w : World} {b : Nat} {z0 z1 z2 : Value} {T : TypeId} (h : w.heap[b]? = some (.cells #[z0, z1, z2] T (0, 0))) (x y z : Value) :
 (((w.setCell ⟨b, 0, none⟩ x).setCell ⟨b, 1, none⟩ y).setCell ⟨b, 2, none⟩ z).heap[b]? = some (.cells #[x, y, z] T (0, 0)) /\ (∀ k, k ≠ b -> (((w.setCell ⟨b, 0, none⟩ x).setCell ⟨b, 1, none⟩ y).setCell ⟨b, 2, none⟩ z).heap[k]? = w.heap[k]?) /\ (((w.setCell ⟨b, 0, none⟩ x).setCell ⟨b, 1, none⟩ y).setCell ⟨b, 2, none⟩ z).heap.size = w.heap.size := by
 have h0 : (w.setCell ⟨b, 0, none⟩ x).heap[b]? = some (.cells #[x, z1, z2] T (0, 0)) := heap_setCell_same _ _ _ _ _ _ h
 have h1 : ((w.setCell ⟨b, 0, none⟩ x).setCell ⟨b, 1, none⟩ y).heap[b]? = some (.cells #[x, y, z2] T (0, 0)) := heap_setCell_same _ _ _ _ _ _ h0
 exact ⟨heap_setCell_same _ _ _ _ _ _ h1, fun k hk => (Below.heap_setCell _ _ _ _ hk).trans ((Below.heap_setCell _ _ _ _ hk).trans (Below.heap_setCell _ _ _ _ hk)), by rw [Zi, Zi, Zi]⟩
theorem ch_box {w w5 w8 : World} {G G5 : Nat -> Prop} {b : Nat} (c : Ch G G5 w w5) (ho : ∀ k, k ≠ b -> w8.heap[k]? = w5.heap[k]?) (hs : w8.heap.size = w5.heap.size) (h1 : w8.os = w5.os) (h2 : w8.tape = w5.tape) (h3 : w8.output = w5.output) (hb : w.heap.size <= b) : Ch G G5 w w8 :=
 ⟨h1.trans c.os, h2.trans c.tape, h3.trans c.output, by rw [hs]; exact c.size, fun k hk hn => (ho k (by omega)).trans (c.blk k hk hn), c.grow⟩
theorem rr_box {w w1 w' : World} {G : Nat -> Prop} {B g b : Nat} {S : List (List Wt)} {r : Rz} (hb : Below w.heap.size w w1) (h : Rr w1 G B g S r) (hn : w.heap.size <= b) (hg : ¬ G b) (ho : ∀ k, k ≠ b -> w'.heap[k]? = w1.heap[k]?) (hs : w'.heap.size = w1.heap.size) (h1 : w'.os = w1.os) (h2 : w'.tape = w1.tape) (h3 : w'.output = w1.output) : Rr w' G B g S r /\ Ch G G w w' :=
 ⟨h.keep (fun k hk => ho k (fun e => hg (by rw [← e]; exact hk))) (Nat.le_of_eq hs.symm), ⟨h1.trans hb.os, h2.trans hb.tape, h3.trans hb.output, by rw [hs]; exact hb.size, fun k hk _ => (ho k (by omega)).trans (hb.block k hk), fun k hk => .inl hk⟩⟩
section
variable {w : World} {Fs Rs Fo R : Nat → Prop} {B g gs gt b n c : Nat} {S : List (List Wt)} {r : Rz} {vE vL vO vA : Value} {vs : List Value} {os as_ : List Nat}
theorem Rq.wsetZ (h : Rq w Fs Rs Fo R B g gs gt S r (.slice (some ⟨b, 0, none⟩) n c) vE vL vO vA vs os as_) (i : Nat) (x : Wt) : Rq (setW w b i x) Fs Rs Fo R B g gs gt S { r with ws := r.ws.set i x } (.slice (some ⟨b, 0, none⟩) n c) vE vL vO vA vs os as_ /\ Ch Fo Fo w (setW w b i x) :=
 ⟨h.waitW i x (fun _ hk => setW_ne hk) setW_size (setW_own x h.wa), ch_setW (h.fW b rfl)⟩
theorem Rq.waitFz (h : Rq w Fs Rs Fo R B g gs gt S r (.slice (some ⟨b, 0, none⟩) n c) vE vL vO vA vs os as_) (i : Nat) (x : Wt) (hx : r.ws[i]? = some x) : w.frozen? ⟨b, i * 6, none⟩ = false /\ w.frozen? ⟨b, i * 6 + 1, none⟩ = false /\ w.frozen? ⟨b, i * 6 + 2, none⟩ = false /\ w.frozen? ⟨b, i * 6 + 3, none⟩ = false /\ w.frozen? ⟨b, i * 6 + 4, none⟩ = false /\ w.frozen? ⟨b, i * 6 + 5, none⟩ = false := by
 obtain ⟨p0, p1, p2, p3, p4, p5⟩ := w6s_at _ _ _ hx
 exact ⟨(Zk h.wa _ _ p0).2, (Zk h.wa _ _ p1).2, (Zk h.wa _ _ p2).2, (Zk h.wa _ _ p3).2, (Zk h.wa _ _ p4).2, (Zk h.wa _ _ p5).2⟩
end
theorem Rr.wideG {w : World} {G G' : Nat -> Prop} {B g : Nat} {S : List (List Wt)} {r : Rz} (h : Rr w G' B g S r) (hG : ∀ k, G k ↔ G' k) : Rr w G B g S r := by
 obtain ⟨Fs, Rs, Fo, R, gs, gt, vW, vE, vL, vO, vA, vs, os, as_, h, hG'⟩ := h
 exact ⟨Fs, Rs, Fo, R, gs, gt, vW, vE, vL, vO, vA, vs, os, as_, h, fun k => (hG k).trans (hG' k)⟩
theorem ract_1 {w : World} {G : Nat -> Prop} {B g : Nat} {S : List (List Wt)} {r : Rz} (h : Rr w G B g S r) (i j : Nat) (a v0 v1 v2 : Int) (hx : r.ws[i]? = some ⟨1, j, a, (v0, v1, v2)⟩) (hl : r.ev.length <= 90000) (x : V3) (hp : r.s.P[j]? = some x) :
 Calls Tryz.prog 39 #[P_ g, I_ (i : Nat)] w (YB w G (B + 1) g S { r with s := r.s, ev := r.ev ++ [⟨i, 1, j, a⟩] } [(i, x)]) := by
 have hfb := h.fb
 obtain ⟨Fs, Rs, Fo, R, gs, gt, vW, vE, vL, vO, vA, vs, os, as_, h, hG⟩ := h
 have hi := (G_ hx)
 obtain ⟨b, cW, eW, hb, p0, p1, p2, p3, p4, p5⟩ := h.waitAt i _ hx
 subst eW
 simp only at p0 p1 p2 p3 p4 p5
 obtain ⟨vP, vL_, vC, vS, vT, vA_, ss, tk, v⟩ := h.st
 have c1 := h.cells.1.2.1
 have b1 := Zd w (.cells #[I_ 1, I_ (j : Nat), I_ a, I_ v0, I_ v1, .int .u64 v2] 76)
 have b2 := Zd (w.alloc (.cells #[I_ 1, I_ (j : Nat), I_ a, I_ v0, I_ v1, .int .u64 v2] 76)) (.cells #[I_ 0, I_ 0, .int .u64 0] 64)
 have hs1 : (w.alloc (.cells #[I_ 1, I_ (j : Nat), I_ a, I_ v0, I_ v1, .int .u64 v2] 76)).heap.size = w.heap.size + 1 := by simp
 have BB := Za (Zg b1 b2)
 have KW := Za ((b2.block _ (by rw [hs1]; omega)).trans (show (w.alloc (.cells #[I_ 1, I_ (j : Nat), I_ a, I_ v0, I_ v1, .int .u64 v2] 76)).heap[w.heap.size]? = some (.cells #[I_ 1, I_ (j : Nat), I_ a, I_ v0, I_ v1, .int .u64 v2] 76 (0, 0)) from B_ _ _))
 have KI : Hid (((w.alloc (.cells #[I_ 1, I_ (j : Nat), I_ a, I_ v0, I_ v1, .int .u64 v2] 76)).alloc (.cells #[I_ 0, I_ 0, .int .u64 0] 64)).heap[w.heap.size + 1]? = some (.cells #[I_ 0, I_ 0, .int .u64 0] 64 (0, 0))) := Za (by rw [← hs1]; exact B_ _ _)
 have NW : Hid (¬ G w.heap.size) := Za (fun e => by have := hfb _ e; omega)
 have NI : Hid (¬ G (w.heap.size + 1)) := Za (fun e => by have := hfb _ e; omega)
 have Q1 := Za (h.bel BB.out)
 have V1 := Za (v.bel BB.out)
 have HG := Za hG
 have HL2 := Za hl
 have HL := Za (show r.ev.length <= 100000 by omega)
 obtain ⟨n, hn⟩ : ∃ n, n = r.ws.length := ⟨_, rfl⟩
 rw [← hn] at c1 hi
 have hi1 : (i : Int) < (n : Int) := by omega
 have hi0 : (0 : Int) <= (i : Int) := by omega
 have hj := (G_ hp)
 obtain ⟨bR, cR, eR, _⟩ := Zq v.pl (show 0 < r.s.P.length by omega)
 obtain ⟨m, hm⟩ : ∃ m, m = r.s.P.length := ⟨_, rfl⟩
 rw [← hm] at eR hj
 subst eR
 have HM := Za hm
 have HJ := Za hj
 have hj1 : (j : Int) < (m : Int) := by omega
 have hj0 : (0 : Int) <= (j : Int) := by omega
 have D0 := Za (Zk V1.out.pl _ _ (by have := (vcs_at _ _ _ hp).1; rw [Nat.mul_comm] at this; exact this)).1
 have D1 := Za (Zk V1.out.pl _ _ (by have := (vcs_at _ _ _ hp).2.1; rw [Nat.mul_comm] at this; exact this)).1
 have D2 := Za (Zk V1.out.pl _ _ (by have := (vcs_at _ _ _ hp).2.2; rw [Nat.mul_comm] at this; exact this)).1
 obtain ⟨y0, y1, y2⟩ := x
 simp only at D0 D1 D2
 clear hp hj hm
 clear h hG v hx hi hl b1 b2 hs1 hfb hb hn
 go_enter Tryz.func39, Tryz.ntmps39
 go_upto_region 6 with fail
 generalize (w.alloc _).alloc _ = w1 at *
 clear c1 p0 p1 p2 p3 p4 p5 hi1 hi0
 have Q2 := Za (Q1.out.bel (w' := w1.drew) (below_drewN (Below.refl _ _) 1))
 have V2 := Za (V1.out.bel (w' := w1.drew) (below_drewN (Below.refl _ _) 1))
 have B2 := Za (Zp BB.out)
 have KW2 : Hid (w1.drew.heap[w.heap.size]? = _) := Za KW.out
 have KI2 : Hid (w1.drew.heap[w.heap.size + 1]? = _) := Za KI.out
 refine ZD (S := fun wz => wz.cell? ⟨g, 0, none⟩ = some (P_ gs) /\ wz.cell? ⟨gs, 0, none⟩ = some (.slice (some ⟨bR, 0, none⟩) m cR) /\ wz.cell? ⟨w.heap.size, 1, none⟩ = some (I_ (j : Nat)) /\ wz.cell? ⟨bR, j * 3, none⟩ = some (I_ y0) /\ wz.cell? ⟨bR, j * 3 + 1, none⟩ = some (I_ y1) /\ wz.cell? ⟨bR, j * 3 + 2, none⟩ = some (.int .u64 y2)) (fun j => decide (j < 11)) ZJ ⟨Q2.out.cells.1.1, V2.out.cells.1, Zb KW2.out 1 _ rfl, D0.out, D1.out, D2.out⟩ (fun hH => ?_)
 generalize World.drew _ = wd at *
 refine M_ 0 ?_
 simp only [Act.put, S_]
 refine M_ 1 ?_
 simp only [Act.put, S_]
 refine M_ 2 ?_
 simp only [Act.put, S_]
 refine L_ 3 (v := ?_) ?_ hH ?_
 rotate_left 1
 · (intro w hSw; have q := hSw.1; clear hSw; go_simp <;> with_reducible rfl)
 simp only [Act.put, S_]
 refine M_ 4 ?_
 simp only [Act.put, S_]
 refine M_ 5 ?_
 simp only [Act.put, S_]
 refine L_ 6 (v := ?_) ?_ hH ?_
 rotate_left 1
 · (intro w hSw; have q := hSw.2.1; clear hSw; go_simp <;> with_reducible rfl)
 simp only [Act.put, S_]
 refine M_ 7 ?_
 simp only [Act.put, S_]
 refine L_ 8 (v := ?_) ?_ hH ?_
 rotate_left 1
 · (intro w hSw; have q := hSw.2.2.1; clear hSw; go_simp <;> with_reducible rfl)
 simp only [Act.put, S_]
 refine M_ 9 ?_
 simp only [Act.put, S_]
 refine L_ 10 (v := ?_) ?_ hH ?_
 rotate_left 1
 · (intro w hSw; have q0 := hSw.2.2.2.1; have q1 := hSw.2.2.2.2.1; have q2 := hSw.2.2.2.2.2; clear hSw; go_simp <;> with_reducible rfl)
 simp only [Act.put, S_]
 clear hH
 refine RT_ 11 (fun K1 hK1 => ?_)
 have n0 := Zb KI2.out 0 _ rfl
 have n1 := Zb KI2.out 1 _ rfl
 have n2 := Zb KI2.out 2 _ rfl
 have m0 := Zc KI2.out 0
 have m1 := Zc KI2.out 1
 have m2 := Zc KI2.out 2
 go_simp
 refine hK1.out _ _ (fun h => absurd h (by decide)) (fun _ => ?_)
 clear hK1 K1 n0 n1 n2 m0 m1 m2
 refine ZW (by kernel_rfl) ?_ _
 obtain ⟨y, yo, ys⟩ := set3t KI2.out (I_ y0) (I_ y1) (.int .u64 y2)
 have RB := rr_box B2.out (Q2.out.rr.wideG HG.out) (Nat.le_succ _) NI.out yo ys rfl rfl rfl
 have R5 := Za (RB.1.up (Nat.le_succ B))
 have C5 := Za RB.2
 have KI5 : Hid (Kb _ G (w.heap.size + 1) _) := Za ⟨y, NI.out⟩
 have KW5 : Hid (Kb _ G w.heap.size _) := Za ⟨(yo _ (by omega)).trans KW2.out, NW.out⟩
 clear y yo ys RB Q1 Q2 V1 V2 KI KI2 KW KW2 BB B2
 generalize (((wd.setCell ⟨w.heap.size + 1, 0, none⟩ (I_ y0)).setCell ⟨w.heap.size + 1, 1, none⟩ (I_ y1)).setCell ⟨w.heap.size + 1, 2, none⟩ (.int .u64 y2)) = w5 at *
 have NT := Za (ZZ R5.out i ⟨1, j, a, (v0, v1, v2)⟩ (j : Nat) HL.out)
 unfold w6V at NT
 have x0 := Zb KW5.out.1 0 _ rfl
 have x1 := Zb KW5.out.1 1 _ rfl
 have x2 := Zb KW5.out.1 2 _ rfl
 have x3 := Zb KW5.out.1 3 _ rfl
 have x4 := Zb KW5.out.1 4 _ rfl
 have x5 := Zb KW5.out.1 5 _ rfl
 go_wp2_with fail
 refine NT.out.mono ?_
 rintro e w6 ⟨rfl, G6, r6, c6⟩
 have KI6 := Za (KI5.out.ch c6)
 have R6 := Za r6
 have C6 := Za (C5.out.trans c6)
 have i0 := Zb KI6.out.1 0 _ rfl
 have i1 := Zb KI6.out.1 1 _ rfl
 have i2 := Zb KI6.out.1 2 _ rfl
 clear x0 x1 x2 x3 x4 x5 NT r6 c6 KI5 KW5 R5 C5
 go_wp2_with fail
 go_ret
 exact ⟨_, G6, rfl, R6.out.bel (Zd w6 _), C6.out.trans (Ch.of_bel (Zd w6 _)), AskS.one R6.out (i, y0, y1, y2)⟩
theorem ract_7 {w : World} {G : Nat -> Prop} {B g : Nat} {S : List (List Wt)} {r : Rz} (h : Rr w G B g S r) (i j : Nat) (a v0 v1 v2 : Int) (hx : r.ws[i]? = some ⟨7, j, a, (v0, v1, v2)⟩) (hl : r.ev.length <= 90000) (x : Int) (hp : r.s.A[j]? = some x) :
 Calls Tryz.prog 39 #[P_ g, I_ (i : Nat)] w (YB w G (B + 1) g S { r with s := r.s, ev := r.ev ++ [⟨i, 7, j, a⟩] } [(i, (1, x, 0))]) := by
 have hfb := h.fb
 obtain ⟨Fs, Rs, Fo, R, gs, gt, vW, vE, vL, vO, vA, vs, os, as_, h, hG⟩ := h
 have hi := (G_ hx)
 obtain ⟨b, cW, eW, hb, p0, p1, p2, p3, p4, p5⟩ := h.waitAt i _ hx
 subst eW
 simp only at p0 p1 p2 p3 p4 p5
 obtain ⟨vP, vL_, vC, vS, vT, vA_, ss, tk, v⟩ := h.st
 have c1 := h.cells.1.2.1
 have b1 := Zd w (.cells #[I_ 7, I_ (j : Nat), I_ a, I_ v0, I_ v1, .int .u64 v2] 76)
 have b2 := Zd (w.alloc (.cells #[I_ 7, I_ (j : Nat), I_ a, I_ v0, I_ v1, .int .u64 v2] 76)) (.cells #[I_ 0, I_ 0, .int .u64 0] 64)
 have hs1 : (w.alloc (.cells #[I_ 7, I_ (j : Nat), I_ a, I_ v0, I_ v1, .int .u64 v2] 76)).heap.size = w.heap.size + 1 := by simp
 have BB := Za (Zg b1 b2)
 have KW := Za ((b2.block _ (by rw [hs1]; omega)).trans (show (w.alloc (.cells #[I_ 7, I_ (j : Nat), I_ a, I_ v0, I_ v1, .int .u64 v2] 76)).heap[w.heap.size]? = some (.cells #[I_ 7, I_ (j : Nat), I_ a, I_ v0, I_ v1, .int .u64 v2] 76 (0, 0)) from B_ _ _))
 have KI : Hid (((w.alloc (.cells #[I_ 7, I_ (j : Nat), I_ a, I_ v0, I_ v1, .int .u64 v2] 76)).alloc (.cells #[I_ 0, I_ 0, .int .u64 0] 64)).heap[w.heap.size + 1]? = some (.cells #[I_ 0, I_ 0, .int .u64 0] 64 (0, 0))) := Za (by rw [← hs1]; exact B_ _ _)
 have NW : Hid (¬ G w.heap.size) := Za (fun e => by have := hfb _ e; omega)
 have NI : Hid (¬ G (w.heap.size + 1)) := Za (fun e => by have := hfb _ e; omega)
 have Q1 := Za (h.bel BB.out)
 have V1 := Za (v.bel BB.out)
 have HG := Za hG
 have HL2 := Za hl
 have HL := Za (show r.ev.length <= 100000 by omega)
 obtain ⟨n, hn⟩ : ∃ n, n = r.ws.length := ⟨_, rfl⟩
 rw [← hn] at c1 hi
 have hi1 : (i : Int) < (n : Int) := by omega
 have hi0 : (0 : Int) <= (i : Int) := by omega
 have hj := (G_ hp)
 obtain ⟨bR, cR, eR, _⟩ := Zq v.ato (show 0 < r.s.A.length by omega)
 obtain ⟨m, hm⟩ : ∃ m, m = r.s.A.length := ⟨_, rfl⟩
 rw [← hm] at eR hj
 subst eR
 have HM := Za hm
 have HJ := Za hj
 have hj1 : (j : Int) < (m : Int) := by omega
 have hj0 : (0 : Int) <= (j : Int) := by omega
 have D0 := Za (Zk V1.out.ato _ _ (nts_at hp)).1
 clear hp hj hm
 clear h hG v hx hi hl b1 b2 hs1 hfb hb hn
 go_enter Tryz.func39, Tryz.ntmps39
 go_upto_region 23 with fail
 generalize (w.alloc _).alloc _ = w1 at *
 clear c1 p0 p1 p2 p3 p4 p5 hi1 hi0
 have Q2 := Za (Q1.out.bel (w' := w1.drew) (below_drewN (Below.refl _ _) 1))
 have V2 := Za (V1.out.bel (w' := w1.drew) (below_drewN (Below.refl _ _) 1))
 have B2 := Za (Zp BB.out)
 have KW2 : Hid (w1.drew.heap[w.heap.size]? = _) := Za KW.out
 have KI2 : Hid (w1.drew.heap[w.heap.size + 1]? = _) := Za KI.out
 refine ZD (S := fun wz => wz.cell? ⟨g, 0, none⟩ = some (P_ gs) /\ wz.cell? ⟨gs, 5, none⟩ = some (.slice (some ⟨bR, 0, none⟩) m cR) /\ wz.cell? ⟨w.heap.size, 1, none⟩ = some (I_ (j : Nat)) /\ wz.cell? ⟨bR, j, none⟩ = some (I_ x)) (fun j => decide (j < 12)) ZJ ⟨Q2.out.cells.1.1, V2.out.cells.2.2.2.2.2, Zb KW2.out 1 _ rfl, D0.out⟩ (fun hH => ?_)
 generalize World.drew _ = wd at *
 refine M_ 0 ?_
 simp only [Act.put, S_]
 refine M_ 1 ?_
 simp only [Act.put, S_]
 refine M_ 2 ?_
 simp only [Act.put, S_]
 refine L_ 3 (v := ?_) ?_ hH ?_
 rotate_left 1
 · (intro w hSw; have q := hSw.1; clear hSw; go_simp <;> with_reducible rfl)
 simp only [Act.put, S_]
 refine M_ 4 ?_
 simp only [Act.put, S_]
 refine M_ 5 ?_
 simp only [Act.put, S_]
 refine L_ 6 (v := ?_) ?_ hH ?_
 rotate_left 1
 · (intro w hSw; have q := hSw.2.1; clear hSw; go_simp <;> with_reducible rfl)
 simp only [Act.put, S_]
 refine M_ 7 ?_
 simp only [Act.put, S_]
 refine L_ 8 (v := ?_) ?_ hH ?_
 rotate_left 1
 · (intro w hSw; have q := hSw.2.2.1; clear hSw; go_simp <;> with_reducible rfl)
 simp only [Act.put, S_]
 refine M_ 9 ?_
 simp only [Act.put, S_]
 refine L_ 10 (v := ?_) ?_ hH ?_
 rotate_left 1
 · (intro w hSw; have q0 := hSw.2.2.2; clear hSw; go_simp <;> with_reducible rfl)
 simp only [Act.put, S_]
 refine M_ 11 ?_
 simp only [Act.put, S_]
 clear hH
 refine RT_ 12 (fun K1 hK1 => ?_)
 have n0 := Zb KI2.out 0 _ rfl
 have n1 := Zb KI2.out 1 _ rfl
 have n2 := Zb KI2.out 2 _ rfl
 have m0 := Zc KI2.out 0
 have m1 := Zc KI2.out 1
 have m2 := Zc KI2.out 2
 go_simp
 refine hK1.out _ _ (fun h => absurd h (by decide)) (fun _ => ?_)
 clear hK1 K1 n0 n1 n2 m0 m1 m2
 refine ZW (by kernel_rfl) ?_ _
 obtain ⟨y, yo, ys⟩ := set3t KI2.out (I_ 1) (I_ x) (.int .u64 0)
 have RB := rr_box B2.out (Q2.out.rr.wideG HG.out) (Nat.le_succ _) NI.out yo ys rfl rfl rfl
 have R5 := Za (RB.1.up (Nat.le_succ B))
 have C5 := Za RB.2
 have KI5 : Hid (Kb _ G (w.heap.size + 1) _) := Za ⟨y, NI.out⟩
 have KW5 : Hid (Kb _ G w.heap.size _) := Za ⟨(yo _ (by omega)).trans KW2.out, NW.out⟩
 clear y yo ys RB Q1 Q2 V1 V2 KI KI2 KW KW2 BB B2
 generalize (((wd.setCell ⟨w.heap.size + 1, 0, none⟩ (I_ 1)).setCell ⟨w.heap.size + 1, 1, none⟩ (I_ x)).setCell ⟨w.heap.size + 1, 2, none⟩ (.int .u64 0)) = w5 at *
 have NT := Za (ZZ R5.out i ⟨7, j, a, (v0, v1, v2)⟩ (j : Nat) HL.out)
 unfold w6V at NT
 have x0 := Zb KW5.out.1 0 _ rfl
 have x1 := Zb KW5.out.1 1 _ rfl
 have x2 := Zb KW5.out.1 2 _ rfl
 have x3 := Zb KW5.out.1 3 _ rfl
 have x4 := Zb KW5.out.1 4 _ rfl
 have x5 := Zb KW5.out.1 5 _ rfl
 go_wp2_with fail
 refine NT.out.mono ?_
 rintro e w6 ⟨rfl, G6, r6, c6⟩
 have KI6 := Za (KI5.out.ch c6)
 have R6 := Za r6
 have C6 := Za (C5.out.trans c6)
 have i0 := Zb KI6.out.1 0 _ rfl
 have i1 := Zb KI6.out.1 1 _ rfl
 have i2 := Zb KI6.out.1 2 _ rfl
 clear x0 x1 x2 x3 x4 x5 NT r6 c6 KI5 KW5 R5 C5
 go_wp2_with fail
 go_ret
 exact ⟨_, G6, rfl, R6.out.bel (Zd w6 _), C6.out.trans (Ch.of_bel (Zd w6 _)), AskS.one R6.out (i, 1, x, 0)⟩
theorem ract_11 {w : World} {G : Nat -> Prop} {B g : Nat} {S : List (List Wt)} {r : Rz} (h : Rr w G B g S r) (i : Nat) (j a v0 v1 v2 : Int) (hx : r.ws[i]? = some ⟨11, j, a, (v0, v1, v2)⟩) (hl : r.ev.length <= 90000) :
 Calls Tryz.prog 39 #[P_ g, I_ (i : Nat)] w (YB w G (B + 1) g S { r with s := r.s, ev := r.ev ++ [⟨i, 11, j, a⟩] } [(i, (0, 0, 0))]) := by
 have hfb := h.fb
 obtain ⟨Fs, Rs, Fo, R, gs, gt, vW, vE, vL, vO, vA, vs, os, as_, h, hG⟩ := h
 have hi := (G_ hx)
 obtain ⟨b, cW, eW, hb, p0, p1, p2, p3, p4, p5⟩ := h.waitAt i _ hx
 subst eW
 simp only at p0 p1 p2 p3 p4 p5
 obtain ⟨vP, vL_, vC, vS, vT, vA_, ss, tk, v⟩ := h.st
 have c1 := h.cells.1.2.1
 have b1 := Zd w (.cells #[I_ 11, I_ j, I_ a, I_ v0, I_ v1, .int .u64 v2] 76)
 have b2 := Zd (w.alloc (.cells #[I_ 11, I_ j, I_ a, I_ v0, I_ v1, .int .u64 v2] 76)) (.cells #[I_ 0, I_ 0, .int .u64 0] 64)
 have hs1 : (w.alloc (.cells #[I_ 11, I_ j, I_ a, I_ v0, I_ v1, .int .u64 v2] 76)).heap.size = w.heap.size + 1 := by simp
 have BB := Za (Zg b1 b2)
 have KW := Za ((b2.block _ (by rw [hs1]; omega)).trans (show (w.alloc (.cells #[I_ 11, I_ j, I_ a, I_ v0, I_ v1, .int .u64 v2] 76)).heap[w.heap.size]? = some (.cells #[I_ 11, I_ j, I_ a, I_ v0, I_ v1, .int .u64 v2] 76 (0, 0)) from B_ _ _))
 have KI : Hid (((w.alloc (.cells #[I_ 11, I_ j, I_ a, I_ v0, I_ v1, .int .u64 v2] 76)).alloc (.cells #[I_ 0, I_ 0, .int .u64 0] 64)).heap[w.heap.size + 1]? = some (.cells #[I_ 0, I_ 0, .int .u64 0] 64 (0, 0))) := Za (by rw [← hs1]; exact B_ _ _)
 have NW : Hid (¬ G w.heap.size) := Za (fun e => by have := hfb _ e; omega)
 have NI : Hid (¬ G (w.heap.size + 1)) := Za (fun e => by have := hfb _ e; omega)
 have Q1 := Za (h.bel BB.out)
 have V1 := Za (v.bel BB.out)
 have HG := Za hG
 have HL2 := Za hl
 have HL := Za (show r.ev.length <= 100000 by omega)
 obtain ⟨n, hn⟩ : ∃ n, n = r.ws.length := ⟨_, rfl⟩
 rw [← hn] at c1 hi
 have hi1 : (i : Int) < (n : Int) := by omega
 have hi0 : (0 : Int) <= (i : Int) := by omega
 clear h hG v hx hi hl b1 b2 hs1 hfb hb hn
 go_enter Tryz.func39, Tryz.ntmps39
 go_upto_region 32 with fail
 generalize (w.alloc _).alloc _ = w1 at *
 clear c1 p0 p1 p2 p3 p4 p5 hi1 hi0
 have R5 := Za ((Q1.out.rr.wideG HG.out).up (Nat.le_succ B))
 have C5 := Za (Ch.of_bel (F := G) BB.out)
 have KI5 : Hid (Kb w1 G (w.heap.size + 1) _) := Za ⟨KI.out, NI.out⟩
 have KW5 : Hid (Kb w1 G w.heap.size _) := Za ⟨KW.out, NW.out⟩
 clear Q1 V1 KI KW BB
 have NT := Za (ZZ R5.out i ⟨11, j, a, (v0, v1, v2)⟩ j HL.out)
 unfold w6V at NT
 have x0 := Zb KW5.out.1 0 _ rfl
 have x1 := Zb KW5.out.1 1 _ rfl
 have x2 := Zb KW5.out.1 2 _ rfl
 have x3 := Zb KW5.out.1 3 _ rfl
 have x4 := Zb KW5.out.1 4 _ rfl
 have x5 := Zb KW5.out.1 5 _ rfl
 go_wp2_with fail
 refine NT.out.mono ?_
 rintro e w6 ⟨rfl, G6, r6, c6⟩
 have KI6 := Za (KI5.out.ch c6)
 have R6 := Za r6
 have C6 := Za (C5.out.trans c6)
 have i0 := Zb KI6.out.1 0 _ rfl
 have i1 := Zb KI6.out.1 1 _ rfl
 have i2 := Zb KI6.out.1 2 _ rfl
 clear x0 x1 x2 x3 x4 x5 NT r6 c6 KI5 KW5 R5 C5
 go_wp2_with fail
 go_ret
 exact ⟨_, G6, rfl, R6.out.bel (Zd w6 _), C6.out.trans (Ch.of_bel (Zd w6 _)), AskS.one R6.out (i, 0, 0, 0)⟩
theorem ract_3 {w : World} {G : Nat -> Prop} {B g : Nat} {S : List (List Wt)} {r : Rz} (h : Rr w G B g S r) (i j : Nat) (a v0 v1 v2 : Int) (hx : r.ws[i]? = some ⟨3, j, a, (v0, v1, v2)⟩) (hl : r.ev.length <= 90000) (x : Bool) (hp : r.s.M[j]? = some x) :
 Calls Tryz.prog 39 #[P_ g, I_ (i : Nat)] w (YB w G (B + 1) g S { r with s := { r.s with M := r.s.M.set j true }, ev := r.ev ++ [⟨i, 3, j, a⟩] } [(i, (0, 0, 0))]) := by
 have hfb := h.fb
 obtain ⟨Fs, Rs, Fo, R, gs, gt, vW, vE, vL, vO, vA, vs, os, as_, h, hG⟩ := h
 have hi := (G_ hx)
 obtain ⟨b, cW, eW, hb, p0, p1, p2, p3, p4, p5⟩ := h.waitAt i _ hx
 subst eW
 simp only at p0 p1 p2 p3 p4 p5
 obtain ⟨vP, vL_, vC, vS, vT, vA_, ss, tk, v⟩ := h.st
 have c1 := h.cells.1.2.1
 have b1 := Zd w (.cells #[I_ 3, I_ (j : Nat), I_ a, I_ v0, I_ v1, .int .u64 v2] 76)
 have b2 := Zd (w.alloc (.cells #[I_ 3, I_ (j : Nat), I_ a, I_ v0, I_ v1, .int .u64 v2] 76)) (.cells #[I_ 0, I_ 0, .int .u64 0] 64)
 have hs1 : (w.alloc (.cells #[I_ 3, I_ (j : Nat), I_ a, I_ v0, I_ v1, .int .u64 v2] 76)).heap.size = w.heap.size + 1 := by simp
 have BB := Za (Zg b1 b2)
 have KW := Za ((b2.block _ (by rw [hs1]; omega)).trans (show (w.alloc (.cells #[I_ 3, I_ (j : Nat), I_ a, I_ v0, I_ v1, .int .u64 v2] 76)).heap[w.heap.size]? = some (.cells #[I_ 3, I_ (j : Nat), I_ a, I_ v0, I_ v1, .int .u64 v2] 76 (0, 0)) from B_ _ _))
 have KI : Hid (((w.alloc (.cells #[I_ 3, I_ (j : Nat), I_ a, I_ v0, I_ v1, .int .u64 v2] 76)).alloc (.cells #[I_ 0, I_ 0, .int .u64 0] 64)).heap[w.heap.size + 1]? = some (.cells #[I_ 0, I_ 0, .int .u64 0] 64 (0, 0))) := Za (by rw [← hs1]; exact B_ _ _)
 have NW : Hid (¬ G w.heap.size) := Za (fun e => by have := hfb _ e; omega)
 have NI : Hid (¬ G (w.heap.size + 1)) := Za (fun e => by have := hfb _ e; omega)
 have Q1 := Za (h.bel BB.out)
 have V1 := Za (v.bel BB.out)
 have HG := Za hG
 have HL2 := Za hl
 have HL := Za (show r.ev.length <= 100000 by omega)
 obtain ⟨n, hn⟩ : ∃ n, n = r.ws.length := ⟨_, rfl⟩
 rw [← hn] at c1 hi
 have hi1 : (i : Int) < (n : Int) := by omega
 have hi0 : (0 : Int) <= (i : Int) := by omega
 have hj := (G_ hp)
 obtain ⟨bR, cR, eR, _⟩ := Zq v.lo (show 0 < r.s.M.length by omega)
 obtain ⟨m, hm⟩ : ∃ m, m = r.s.M.length := ⟨_, rfl⟩
 rw [← hm] at eR hj
 subst eR
 have HM := Za hm
 have HJ := Za hj
 have hj1 : (j : Int) < (m : Int) := by omega
 have hj0 : (0 : Int) <= (j : Int) := by omega
 have D0 := Za (Zk V1.out.lo _ _ (bls_at hp))
 clear hp hj hm
 clear h hG v hx hi hl b1 b2 hs1 hfb hb hn
 go_enter Tryz.func39, Tryz.ntmps39
 go_upto_region 10 with fail
 generalize (w.alloc _).alloc _ = w1 at *
 clear c1 p0 p1 p2 p3 p4 p5 hi1 hi0
 have Q2 := Za (Q1.out.bel (w' := w1.drew) (below_drewN (Below.refl _ _) 1))
 have V2 := Za (V1.out.bel (w' := w1.drew) (below_drewN (Below.refl _ _) 1))
 have B2 := Za (Zp BB.out)
 have KW2 : Hid (w1.drew.heap[w.heap.size]? = _) := Za KW.out
 have KI2 : Hid (w1.drew.heap[w.heap.size + 1]? = _) := Za KI.out
 have DD0 : Hid (w1.drew.cell? ⟨bR, j, none⟩ = some (.bool x) /\ w1.drew.frozen? ⟨bR, j, none⟩ = false) := Za D0.out
 clear D0
 have T5 := Za (V2.out.setL HM.out j true)
 refine ZD (S := fun wz => wz.cell? ⟨g, 0, none⟩ = some (P_ gs) /\ wz.cell? ⟨gs, 1, none⟩ = some (.slice (some ⟨bR, 0, none⟩) m cR) /\ wz.cell? ⟨w.heap.size, 1, none⟩ = some (I_ (j : Nat))) (fun j => decide (j < 10)) ZJ ⟨Q2.out.cells.1.1, V2.out.cells.2.1, Zb KW2.out 1 _ rfl⟩ (fun hH => ?_)
 generalize World.drew _ = wd at *
 refine M_ 0 ?_
 simp only [Act.put, S_]
 refine M_ 1 ?_
 simp only [Act.put, S_]
 refine M_ 2 ?_
 simp only [Act.put, S_]
 refine L_ 3 (v := ?_) ?_ hH ?_
 rotate_left 1
 · (intro w hSw; have q := hSw.1; clear hSw; go_simp <;> with_reducible rfl)
 simp only [Act.put, S_]
 refine M_ 4 ?_
 simp only [Act.put, S_]
 refine M_ 5 ?_
 simp only [Act.put, S_]
 refine L_ 6 (v := ?_) ?_ hH ?_
 rotate_left 1
 · (intro w hSw; have q := hSw.2.1; clear hSw; go_simp <;> with_reducible rfl)
 simp only [Act.put, S_]
 refine M_ 7 ?_
 simp only [Act.put, S_]
 refine L_ 8 (v := ?_) ?_ hH ?_
 rotate_left 1
 · (intro w hSw; have q := hSw.2.2; clear hSw; go_simp <;> with_reducible rfl)
 simp only [Act.put, S_]
 refine M_ 9 ?_
 simp only [Act.put, S_]
 clear hH
 refine RT_ 10 (fun K1 hK1 => ?_)
 have n0 := DD0.out.1
 have m0 := DD0.out.2
 go_simp
 refine hK1.out _ _ (fun h => absurd h (by decide)) (fun _ => ?_)
 clear hK1 K1 n0 m0
 refine ZW (by kernel_rfl) ?_ _
 have RB := rr_st (w := wd) HG.out (Q2.out.stW ⟨_, _, _, _, _, _, _, _, T5.out.1⟩ T5.out.2 (fun k hk => .inl hk)) T5.out.2 (fun k hk => .inl hk)
 have R5 := Za (RB.1.up (Nat.le_succ B))
 have C5 := Za ((Ch.of_bel (F := G) B2.out).trans RB.2)
 have KI5 := Za (Kb.ch (G := G) (W := wd) ⟨KI2.out, NI.out⟩ RB.2)
 have KW5 := Za (Kb.ch (G := G) (W := wd) ⟨KW2.out, NW.out⟩ RB.2)
 clear RB Q1 Q2 V1 V2 KI KI2 KW KW2 BB B2 T5
 generalize wd.setCell ⟨bR, j, none⟩ (.bool true) = w5 at *
 generalize (fun k => Fs k ∨ Rs k ∨ Fo k ∨ R k) = G5 at *
 have NT := Za (ZZ R5.out i ⟨3, j, a, (v0, v1, v2)⟩ (j : Nat) HL.out)
 unfold w6V at NT
 have x0 := Zb KW5.out.1 0 _ rfl
 have x1 := Zb KW5.out.1 1 _ rfl
 have x2 := Zb KW5.out.1 2 _ rfl
 have x3 := Zb KW5.out.1 3 _ rfl
 have x4 := Zb KW5.out.1 4 _ rfl
 have x5 := Zb KW5.out.1 5 _ rfl
 go_wp2_with fail
 refine NT.out.mono ?_
 rintro e w6 ⟨rfl, G6, r6, c6⟩
 have KI6 := Za (KI5.out.ch c6)
 have R6 := Za r6
 have C6 := Za (C5.out.trans c6)
 have i0 := Zb KI6.out.1 0 _ rfl
 have i1 := Zb KI6.out.1 1 _ rfl
 have i2 := Zb KI6.out.1 2 _ rfl
 clear x0 x1 x2 x3 x4 x5 NT r6 c6 KI5 KW5 R5 C5
 go_wp2_with fail
 go_ret
 exact ⟨_, G6, rfl, R6.out.bel (Zd w6 _), C6.out.trans (Ch.of_bel (Zd w6 _)), AskS.one R6.out (i, 0, 0, 0)⟩
theorem ract_4 {w : World} {G : Nat -> Prop} {B g : Nat} {S : List (List Wt)} {r : Rz} (h : Rr w G B g S r) (i j : Nat) (a v0 v1 v2 : Int) (hx : r.ws[i]? = some ⟨4, j, a, (v0, v1, v2)⟩) (hl : r.ev.length <= 90000) (x : Bool) (hp : r.s.M[j]? = some x) (hv : x = true) :
 Calls Tryz.prog 39 #[P_ g, I_ (i : Nat)] w (YB w G (B + 1) g S { r with s := { r.s with M := r.s.M.set j false }, ev := r.ev ++ [⟨i, 4, j, a⟩] } [(i, (0, 0, 0))]) := by
 have hfb := h.fb
 obtain ⟨Fs, Rs, Fo, R, gs, gt, vW, vE, vL, vO, vA, vs, os, as_, h, hG⟩ := h
 have hi := (G_ hx)
 obtain ⟨b, cW, eW, hb, p0, p1, p2, p3, p4, p5⟩ := h.waitAt i _ hx
 subst eW
 simp only at p0 p1 p2 p3 p4 p5
 obtain ⟨vP, vL_, vC, vS, vT, vA_, ss, tk, v⟩ := h.st
 have c1 := h.cells.1.2.1
 have b1 := Zd w (.cells #[I_ 4, I_ (j : Nat), I_ a, I_ v0, I_ v1, .int .u64 v2] 76)
 have b2 := Zd (w.alloc (.cells #[I_ 4, I_ (j : Nat), I_ a, I_ v0, I_ v1, .int .u64 v2] 76)) (.cells #[I_ 0, I_ 0, .int .u64 0] 64)
 have hs1 : (w.alloc (.cells #[I_ 4, I_ (j : Nat), I_ a, I_ v0, I_ v1, .int .u64 v2] 76)).heap.size = w.heap.size + 1 := by simp
 have BB := Za (Zg b1 b2)
 have KW := Za ((b2.block _ (by rw [hs1]; omega)).trans (show (w.alloc (.cells #[I_ 4, I_ (j : Nat), I_ a, I_ v0, I_ v1, .int .u64 v2] 76)).heap[w.heap.size]? = some (.cells #[I_ 4, I_ (j : Nat), I_ a, I_ v0, I_ v1, .int .u64 v2] 76 (0, 0)) from B_ _ _))
 have KI : Hid (((w.alloc (.cells #[I_ 4, I_ (j : Nat), I_ a, I_ v0, I_ v1, .int .u64 v2] 76)).alloc (.cells #[I_ 0, I_ 0, .int .u64 0] 64)).heap[w.heap.size + 1]? = some (.cells #[I_ 0, I_ 0, .int .u64 0] 64 (0, 0))) := Za (by rw [← hs1]; exact B_ _ _)
 have NW : Hid (¬ G w.heap.size) := Za (fun e => by have := hfb _ e; omega)
 have NI : Hid (¬ G (w.heap.size + 1)) := Za (fun e => by have := hfb _ e; omega)
 have Q1 := Za (h.bel BB.out)
 have V1 := Za (v.bel BB.out)
 have HG := Za hG
 have HL2 := Za hl
 have HL := Za (show r.ev.length <= 100000 by omega)
 obtain ⟨n, hn⟩ : ∃ n, n = r.ws.length := ⟨_, rfl⟩
 rw [← hn] at c1 hi
 have hi1 : (i : Int) < (n : Int) := by omega
 have hi0 : (0 : Int) <= (i : Int) := by omega
 have hj := (G_ hp)
 obtain ⟨bR, cR, eR, _⟩ := Zq v.lo (show 0 < r.s.M.length by omega)
 obtain ⟨m, hm⟩ : ∃ m, m = r.s.M.length := ⟨_, rfl⟩
 rw [← hm] at eR hj
 subst eR
 have HM := Za hm
 have HJ := Za hj
 have hj1 : (j : Int) < (m : Int) := by omega
 have hj0 : (0 : Int) <= (j : Int) := by omega
 have D0 := Za (Zk V1.out.lo _ _ (bls_at hp))
 clear hp hj hm
 clear h hG v hx hi hl b1 b2 hs1 hfb hb hn
 go_enter Tryz.func39, Tryz.ntmps39
 go_upto_region 12 with fail
 generalize (w.alloc _).alloc _ = w1 at *
 clear c1 p0 p1 p2 p3 p4 p5 hi1 hi0
 have x0 := Q1.out.cells.1.1
 have x1 := V1.out.cells.2.1
 have x2 := Zb KW.out 1 _ rfl
 have x3 := D0.out.1
 subst hv
 go_quiet (fail)
 have DQ := below_drewN (Below.refl w1.heap.size w1) nq
 replace Q1 := Za (Q1.out.bel DQ)
 replace V1 := Za (V1.out.bel DQ)
 replace BB := Za (Zg BB.out DQ)
 have KW' : Hid ((w1.drewN nq).heap[w.heap.size]? = _) := Za ((DQ.block _ (Ze KW.out)).trans KW.out)
 have KI' : Hid ((w1.drewN nq).heap[w.heap.size + 1]? = _) := Za ((DQ.block _ (Ze KI.out)).trans KI.out)
 have D0' : Hid ((w1.drewN nq).cell? ⟨bR, j, none⟩ = some (.bool true) /\ (w1.drewN nq).frozen? ⟨bR, j, none⟩ = false) := Za (by simpa using D0.out)
 clear x0 x1 x2 x3 DQ KW KI D0
 have KW := KW'
 have KI := KI'
 have D0 := D0'
 clear KW' KI' D0'
 generalize w1.drewN nq = w1 at *
 go_upto_region 15 with fail
 have Q2 := Za (Q1.out.bel (w' := w1.drew) (below_drewN (Below.refl _ _) 1))
 have V2 := Za (V1.out.bel (w' := w1.drew) (below_drewN (Below.refl _ _) 1))
 have B2 := Za (Zp BB.out)
 have KW2 : Hid (w1.drew.heap[w.heap.size]? = _) := Za KW.out
 have KI2 : Hid (w1.drew.heap[w.heap.size + 1]? = _) := Za KI.out
 have DD0 : Hid (w1.drew.cell? ⟨bR, j, none⟩ = some (.bool true) /\ w1.drew.frozen? ⟨bR, j, none⟩ = false) := Za D0.out
 clear D0
 have T5 := Za (V2.out.setL HM.out j false)
 refine ZD (S := fun wz => wz.cell? ⟨g, 0, none⟩ = some (P_ gs) /\ wz.cell? ⟨gs, 1, none⟩ = some (.slice (some ⟨bR, 0, none⟩) m cR) /\ wz.cell? ⟨w.heap.size, 1, none⟩ = some (I_ (j : Nat))) (fun j => decide (j < 10)) ZJ ⟨Q2.out.cells.1.1, V2.out.cells.2.1, Zb KW2.out 1 _ rfl⟩ (fun hH => ?_)
 generalize World.drew _ = wd at *
 refine M_ 0 ?_
 simp only [Act.put, S_]
 refine M_ 1 ?_
 simp only [Act.put, S_]
 refine M_ 2 ?_
 simp only [Act.put, S_]
 refine L_ 3 (v := ?_) ?_ hH ?_
 rotate_left 1
 · (intro w hSw; have q := hSw.1; clear hSw; go_simp <;> with_reducible rfl)
 simp only [Act.put, S_]
 refine M_ 4 ?_
 simp only [Act.put, S_]
 refine M_ 5 ?_
 simp only [Act.put, S_]
 refine L_ 6 (v := ?_) ?_ hH ?_
 rotate_left 1
 · (intro w hSw; have q := hSw.2.1; clear hSw; go_simp <;> with_reducible rfl)
 simp only [Act.put, S_]
 refine M_ 7 ?_
 simp only [Act.put, S_]
 refine L_ 8 (v := ?_) ?_ hH ?_
 rotate_left 1
 · (intro w hSw; have q := hSw.2.2; clear hSw; go_simp <;> with_reducible rfl)
 simp only [Act.put, S_]
 refine M_ 9 ?_
 simp only [Act.put, S_]
 clear hH
 refine RT_ 10 (fun K1 hK1 => ?_)
 have n0 := DD0.out.1
 have m0 := DD0.out.2
 go_simp
 refine hK1.out _ _ (fun h => absurd h (by decide)) (fun _ => ?_)
 clear hK1 K1 n0 m0
 refine ZW (by kernel_rfl) ?_ _
 have RB := rr_st (w := wd) HG.out (Q2.out.stW ⟨_, _, _, _, _, _, _, _, T5.out.1⟩ T5.out.2 (fun k hk => .inl hk)) T5.out.2 (fun k hk => .inl hk)
 have R5 := Za (RB.1.up (Nat.le_succ B))
 have C5 := Za ((Ch.of_bel (F := G) B2.out).trans RB.2)
 have KI5 := Za (Kb.ch (G := G) (W := wd) ⟨KI2.out, NI.out⟩ RB.2)
 have KW5 := Za (Kb.ch (G := G) (W := wd) ⟨KW2.out, NW.out⟩ RB.2)
 clear RB Q1 Q2 V1 V2 KI KI2 KW KW2 BB B2 T5
 generalize wd.setCell ⟨bR, j, none⟩ (.bool false) = w5 at *
 generalize (fun k => Fs k ∨ Rs k ∨ Fo k ∨ R k) = G5 at *
 have NT := Za (ZZ R5.out i ⟨4, j, a, (v0, v1, v2)⟩ (j : Nat) HL.out)
 unfold w6V at NT
 have x0 := Zb KW5.out.1 0 _ rfl
 have x1 := Zb KW5.out.1 1 _ rfl
 have x2 := Zb KW5.out.1 2 _ rfl
 have x3 := Zb KW5.out.1 3 _ rfl
 have x4 := Zb KW5.out.1 4 _ rfl
 have x5 := Zb KW5.out.1 5 _ rfl
 go_wp2_with fail
 refine NT.out.mono ?_
 rintro e w6 ⟨rfl, G6, r6, c6⟩
 have KI6 := Za (KI5.out.ch c6)
 have R6 := Za r6
 have C6 := Za (C5.out.trans c6)
 have i0 := Zb KI6.out.1 0 _ rfl
 have i1 := Zb KI6.out.1 1 _ rfl
 have i2 := Zb KI6.out.1 2 _ rfl
 clear x0 x1 x2 x3 x4 x5 NT r6 c6 KI5 KW5 R5 C5
 go_wp2_with fail
 go_ret
 exact ⟨_, G6, rfl, R6.out.bel (Zd w6 _), C6.out.trans (Ch.of_bel (Zd w6 _)), AskS.one R6.out (i, 0, 0, 0)⟩
theorem ract_8 {w : World} {G : Nat -> Prop} {B g : Nat} {S : List (List Wt)} {r : Rz} (h : Rr w G B g S r) (i j : Nat) (a v0 v1 v2 : Int) (hx : r.ws[i]? = some ⟨8, j, a, (v0, v1, v2)⟩) (hl : r.ev.length <= 90000) (x : Int) (hp : r.s.A[j]? = some x) :
 Calls Tryz.prog 39 #[P_ g, I_ (i : Nat)] w (YB w G (B + 1) g S { r with s := { r.s with A := r.s.A.set j v1 }, ev := r.ev ++ [⟨i, 8, j, a⟩] } [(i, (0, 0, 0))]) := by
 have hfb := h.fb
 obtain ⟨Fs, Rs, Fo, R, gs, gt, vW, vE, vL, vO, vA, vs, os, as_, h, hG⟩ := h
 have hi := (G_ hx)
 obtain ⟨b, cW, eW, hb, p0, p1, p2, p3, p4, p5⟩ := h.waitAt i _ hx
 subst eW
 simp only at p0 p1 p2 p3 p4 p5
 obtain ⟨vP, vL_, vC, vS, vT, vA_, ss, tk, v⟩ := h.st
 have c1 := h.cells.1.2.1
 have b1 := Zd w (.cells #[I_ 8, I_ (j : Nat), I_ a, I_ v0, I_ v1, .int .u64 v2] 76)
 have b2 := Zd (w.alloc (.cells #[I_ 8, I_ (j : Nat), I_ a, I_ v0, I_ v1, .int .u64 v2] 76)) (.cells #[I_ 0, I_ 0, .int .u64 0] 64)
 have hs1 : (w.alloc (.cells #[I_ 8, I_ (j : Nat), I_ a, I_ v0, I_ v1, .int .u64 v2] 76)).heap.size = w.heap.size + 1 := by simp
 have BB := Za (Zg b1 b2)
 have KW := Za ((b2.block _ (by rw [hs1]; omega)).trans (show (w.alloc (.cells #[I_ 8, I_ (j : Nat), I_ a, I_ v0, I_ v1, .int .u64 v2] 76)).heap[w.heap.size]? = some (.cells #[I_ 8, I_ (j : Nat), I_ a, I_ v0, I_ v1, .int .u64 v2] 76 (0, 0)) from B_ _ _))
 have KI : Hid (((w.alloc (.cells #[I_ 8, I_ (j : Nat), I_ a, I_ v0, I_ v1, .int .u64 v2] 76)).alloc (.cells #[I_ 0, I_ 0, .int .u64 0] 64)).heap[w.heap.size + 1]? = some (.cells #[I_ 0, I_ 0, .int .u64 0] 64 (0, 0))) := Za (by rw [← hs1]; exact B_ _ _)
 have NW : Hid (¬ G w.heap.size) := Za (fun e => by have := hfb _ e; omega)
 have NI : Hid (¬ G (w.heap.size + 1)) := Za (fun e => by have := hfb _ e; omega)
 have Q1 := Za (h.bel BB.out)
 have V1 := Za (v.bel BB.out)
 have HG := Za hG
 have HL2 := Za hl
 have HL := Za (show r.ev.length <= 100000 by omega)
 obtain ⟨n, hn⟩ : ∃ n, n = r.ws.length := ⟨_, rfl⟩
 rw [← hn] at c1 hi
 have hi1 : (i : Int) < (n : Int) := by omega
 have hi0 : (0 : Int) <= (i : Int) := by omega
 have hj := (G_ hp)
 obtain ⟨bR, cR, eR, _⟩ := Zq v.ato (show 0 < r.s.A.length by omega)
 obtain ⟨m, hm⟩ : ∃ m, m = r.s.A.length := ⟨_, rfl⟩
 rw [← hm] at eR hj
 subst eR
 have HM := Za hm
 have HJ := Za hj
 have hj1 : (j : Int) < (m : Int) := by omega
 have hj0 : (0 : Int) <= (j : Int) := by omega
 have D0 := Za (Zk V1.out.ato _ _ (nts_at hp))
 clear hp hj hm
 clear h hG v hx hi hl b1 b2 hs1 hfb hb hn
 go_enter Tryz.func39, Tryz.ntmps39
 go_upto_region 25 with fail
 generalize (w.alloc _).alloc _ = w1 at *
 clear c1 p0 p1 p2 p3 p4 p5 hi1 hi0
 have Q2 := Za (Q1.out.bel (w' := w1.drew) (below_drewN (Below.refl _ _) 1))
 have V2 := Za (V1.out.bel (w' := w1.drew) (below_drewN (Below.refl _ _) 1))
 have B2 := Za (Zp BB.out)
 have KW2 : Hid (w1.drew.heap[w.heap.size]? = _) := Za KW.out
 have KI2 : Hid (w1.drew.heap[w.heap.size + 1]? = _) := Za KI.out
 have DD0 : Hid (w1.drew.cell? ⟨bR, j, none⟩ = some (I_ x) /\ w1.drew.frozen? ⟨bR, j, none⟩ = false) := Za D0.out
 clear D0
 have T5 := Za (V2.out.setA HM.out j HJ.out v1)
 refine ZD (S := fun wz => wz.cell? ⟨g, 0, none⟩ = some (P_ gs) /\ wz.cell? ⟨gs, 5, none⟩ = some (.slice (some ⟨bR, 0, none⟩) m cR) /\ wz.cell? ⟨w.heap.size, 1, none⟩ = some (I_ (j : Nat)) /\ wz.cell? ⟨w.heap.size, 4, none⟩ = some (I_ v1) /\ wz.cell? ⟨bR, j, none⟩ = some (I_ x)) (fun j => decide (j < 13)) ZJ ⟨Q2.out.cells.1.1, V2.out.cells.2.2.2.2.2, Zb KW2.out 1 _ rfl, Zb KW2.out 4 _ rfl, DD0.out.1⟩ (fun hH => ?_)
 generalize World.drew _ = wd at *
 refine M_ 0 ?_
 simp only [Act.put, S_]
 refine M_ 1 ?_
 simp only [Act.put, S_]
 refine M_ 2 ?_
 simp only [Act.put, S_]
 refine L_ 3 (v := ?_) ?_ hH ?_
 rotate_left 1
 · (intro w hSw; have q := hSw.1; clear hSw; go_simp <;> with_reducible rfl)
 simp only [Act.put, S_]
 refine M_ 4 ?_
 simp only [Act.put, S_]
 refine M_ 5 ?_
 simp only [Act.put, S_]
 refine L_ 6 (v := ?_) ?_ hH ?_
 rotate_left 1
 · (intro w hSw; have q := hSw.2.1; clear hSw; go_simp <;> with_reducible rfl)
 simp only [Act.put, S_]
 refine M_ 7 ?_
 simp only [Act.put, S_]
 refine L_ 8 (v := ?_) ?_ hH ?_
 rotate_left 1
 · (intro w hSw; have q := hSw.2.2.1; clear hSw; go_simp <;> with_reducible rfl)
 simp only [Act.put, S_]
 refine M_ 9 ?_
 simp only [Act.put, S_]
 refine M_ 10 ?_
 simp only [Act.put, S_]
 refine L_ 11 (v := ?_) ?_ hH ?_
 rotate_left 1
 · (intro w hSw; have q := hSw.2.2.2.1; clear hSw; go_simp <;> with_reducible rfl)
 simp only [Act.put, S_]
 refine M_ 12 ?_
 simp only [Act.put, S_]
 clear hH
 refine RT_ 13 (fun K1 hK1 => ?_)
 have n0 := DD0.out.1
 have m0 := DD0.out.2
 go_simp
 refine hK1.out _ _ (fun h => absurd h (by decide)) (fun _ => ?_)
 clear hK1 K1 n0 m0
 refine ZW (by kernel_rfl) ?_ _
 have RB := rr_st (w := wd) HG.out (Q2.out.stW ⟨_, _, _, _, _, _, _, _, T5.out.1⟩ T5.out.2 (fun k hk => .inl hk)) T5.out.2 (fun k hk => .inl hk)
 have R5 := Za (RB.1.up (Nat.le_succ B))
 have C5 := Za ((Ch.of_bel (F := G) B2.out).trans RB.2)
 have KI5 := Za (Kb.ch (G := G) (W := wd) ⟨KI2.out, NI.out⟩ RB.2)
 have KW5 := Za (Kb.ch (G := G) (W := wd) ⟨KW2.out, NW.out⟩ RB.2)
 clear RB Q1 Q2 V1 V2 KI KI2 KW KW2 BB B2 T5
 generalize wd.setCell ⟨bR, j, none⟩ (I_ v1) = w5 at *
 generalize (fun k => Fs k ∨ Rs k ∨ Fo k ∨ R k) = G5 at *
 have NT := Za (ZZ R5.out i ⟨8, j, a, (v0, v1, v2)⟩ (j : Nat) HL.out)
 unfold w6V at NT
 have x0 := Zb KW5.out.1 0 _ rfl
 have x1 := Zb KW5.out.1 1 _ rfl
 have x2 := Zb KW5.out.1 2 _ rfl
 have x3 := Zb KW5.out.1 3 _ rfl
 have x4 := Zb KW5.out.1 4 _ rfl
 have x5 := Zb KW5.out.1 5 _ rfl
 go_wp2_with fail
 refine NT.out.mono ?_
 rintro e w6 ⟨rfl, G6, r6, c6⟩
 have KI6 := Za (KI5.out.ch c6)
 have R6 := Za r6
 have C6 := Za (C5.out.trans c6)
 have i0 := Zb KI6.out.1 0 _ rfl
 have i1 := Zb KI6.out.1 1 _ rfl
 have i2 := Zb KI6.out.1 2 _ rfl
 clear x0 x1 x2 x3 x4 x5 NT r6 c6 KI5 KW5 R5 C5
 go_wp2_with fail
 go_ret
 exact ⟨_, G6, rfl, R6.out.bel (Zd w6 _), C6.out.trans (Ch.of_bel (Zd w6 _)), AskS.one R6.out (i, 0, 0, 0)⟩
theorem ract_9 {w : World} {G : Nat -> Prop} {B g : Nat} {S : List (List Wt)} {r : Rz} (h : Rr w G B g S r) (i j : Nat) (a v0 v1 v2 : Int) (hx : r.ws[i]? = some ⟨9, j, a, (v0, v1, v2)⟩) (hl : r.ev.length <= 90000) (x : Int) (hp : r.s.A[j]? = some x) :
 Calls Tryz.prog 39 #[P_ g, I_ (i : Nat)] w (YB w G (B + 1) g S { r with s := { r.s with A := r.s.A.set j (wrap64 (x + v1)) }, ev := r.ev ++ [⟨i, 9, j, a⟩] } [(i, (0, 0, 0))]) := by
 have hfb := h.fb
 obtain ⟨Fs, Rs, Fo, R, gs, gt, vW, vE, vL, vO, vA, vs, os, as_, h, hG⟩ := h
 have hi := (G_ hx)
 obtain ⟨b, cW, eW, hb, p0, p1, p2, p3, p4, p5⟩ := h.waitAt i _ hx
 subst eW
 simp only at p0 p1 p2 p3 p4 p5
 obtain ⟨vP, vL_, vC, vS, vT, vA_, ss, tk, v⟩ := h.st
 have c1 := h.cells.1.2.1
 have b1 := Zd w (.cells #[I_ 9, I_ (j : Nat), I_ a, I_ v0, I_ v1, .int .u64 v2] 76)
 have b2 := Zd (w.alloc (.cells #[I_ 9, I_ (j : Nat), I_ a, I_ v0, I_ v1, .int .u64 v2] 76)) (.cells #[I_ 0, I_ 0, .int .u64 0] 64)
 have hs1 : (w.alloc (.cells #[I_ 9, I_ (j : Nat), I_ a, I_ v0, I_ v1, .int .u64 v2] 76)).heap.size = w.heap.size + 1 := by simp
 have BB := Za (Zg b1 b2)
 have KW := Za ((b2.block _ (by rw [hs1]; omega)).trans (show (w.alloc (.cells #[I_ 9, I_ (j : Nat), I_ a, I_ v0, I_ v1, .int .u64 v2] 76)).heap[w.heap.size]? = some (.cells #[I_ 9, I_ (j : Nat), I_ a, I_ v0, I_ v1, .int .u64 v2] 76 (0, 0)) from B_ _ _))
 have KI : Hid (((w.alloc (.cells #[I_ 9, I_ (j : Nat), I_ a, I_ v0, I_ v1, .int .u64 v2] 76)).alloc (.cells #[I_ 0, I_ 0, .int .u64 0] 64)).heap[w.heap.size + 1]? = some (.cells #[I_ 0, I_ 0, .int .u64 0] 64 (0, 0))) := Za (by rw [← hs1]; exact B_ _ _)
 have NW : Hid (¬ G w.heap.size) := Za (fun e => by have := hfb _ e; omega)
 have NI : Hid (¬ G (w.heap.size + 1)) := Za (fun e => by have := hfb _ e; omega)
 have Q1 := Za (h.bel BB.out)
 have V1 := Za (v.bel BB.out)
 have HG := Za hG
 have HL2 := Za hl
 have HL := Za (show r.ev.length <= 100000 by omega)
 obtain ⟨n, hn⟩ : ∃ n, n = r.ws.length := ⟨_, rfl⟩
 rw [← hn] at c1 hi
 have hi1 : (i : Int) < (n : Int) := by omega
 have hi0 : (0 : Int) <= (i : Int) := by omega
 have hj := (G_ hp)
 obtain ⟨bR, cR, eR, _⟩ := Zq v.ato (show 0 < r.s.A.length by omega)
 obtain ⟨m, hm⟩ : ∃ m, m = r.s.A.length := ⟨_, rfl⟩
 rw [← hm] at eR hj
 subst eR
 have HM := Za hm
 have HJ := Za hj
 have hj1 : (j : Int) < (m : Int) := by omega
 have hj0 : (0 : Int) <= (j : Int) := by omega
 have D0 := Za (Zk V1.out.ato _ _ (nts_at hp))
 clear hp hj hm
 clear h hG v hx hi hl b1 b2 hs1 hfb hb hn
 go_enter Tryz.func39, Tryz.ntmps39
 go_upto_region 27 with fail
 generalize (w.alloc _).alloc _ = w1 at *
 clear c1 p0 p1 p2 p3 p4 p5 hi1 hi0
 have Q2 := Za (Q1.out.bel (w' := w1.drew) (below_drewN (Below.refl _ _) 1))
 have V2 := Za (V1.out.bel (w' := w1.drew) (below_drewN (Below.refl _ _) 1))
 have B2 := Za (Zp BB.out)
 have KW2 : Hid (w1.drew.heap[w.heap.size]? = _) := Za KW.out
 have KI2 : Hid (w1.drew.heap[w.heap.size + 1]? = _) := Za KI.out
 have DD0 : Hid (w1.drew.cell? ⟨bR, j, none⟩ = some (I_ x) /\ w1.drew.frozen? ⟨bR, j, none⟩ = false) := Za D0.out
 clear D0
 have T5 := Za (V2.out.setA HM.out j HJ.out (wrap64 (x + v1)))
 refine ZD (S := fun wz => wz.cell? ⟨g, 0, none⟩ = some (P_ gs) /\ wz.cell? ⟨gs, 5, none⟩ = some (.slice (some ⟨bR, 0, none⟩) m cR) /\ wz.cell? ⟨w.heap.size, 1, none⟩ = some (I_ (j : Nat)) /\ wz.cell? ⟨w.heap.size, 4, none⟩ = some (I_ v1) /\ wz.cell? ⟨bR, j, none⟩ = some (I_ x)) (fun j => decide (j < 16)) ZJ ⟨Q2.out.cells.1.1, V2.out.cells.2.2.2.2.2, Zb KW2.out 1 _ rfl, Zb KW2.out 4 _ rfl, DD0.out.1⟩ (fun hH => ?_)
 generalize World.drew _ = wd at *
 refine M_ 0 ?_
 simp only [Act.put, S_]
 refine M_ 1 ?_
 simp only [Act.put, S_]
 refine M_ 2 ?_
 simp only [Act.put, S_]
 refine L_ 3 (v := ?_) ?_ hH ?_
 rotate_left 1
 · (intro w hSw; have q := hSw.1; clear hSw; go_simp <;> with_reducible rfl)
 simp only [Act.put, S_]
 refine M_ 4 ?_
 simp only [Act.put, S_]
 refine M_ 5 ?_
 simp only [Act.put, S_]
 refine L_ 6 (v := ?_) ?_ hH ?_
 rotate_left 1
 · (intro w hSw; have q := hSw.2.1; clear hSw; go_simp <;> with_reducible rfl)
 simp only [Act.put, S_]
 refine M_ 7 ?_
 simp only [Act.put, S_]
 refine L_ 8 (v := ?_) ?_ hH ?_
 rotate_left 1
 · (intro w hSw; have q := hSw.2.2.1; clear hSw; go_simp <;> with_reducible rfl)
 simp only [Act.put, S_]
 refine M_ 9 ?_
 simp only [Act.put, S_]
 refine L_ 10 (v := ?_) ?_ hH ?_
 rotate_left 1
 · (intro w hSw; have q := hSw.2.2.2.2; clear hSw; go_simp <;> with_reducible rfl)
 simp only [Act.put, S_]
 refine M_ 11 ?_
 simp only [Act.put, S_]
 refine M_ 12 ?_
 simp only [Act.put, S_]
 refine L_ 13 (v := ?_) ?_ hH ?_
 rotate_left 1
 · (intro w hSw; have q := hSw.2.2.2.1; clear hSw; go_simp <;> with_reducible rfl)
 simp only [Act.put, S_]
 refine M_ 14 ?_
 simp only [Act.put, S_]
 refine M_ 15 ?_
 simp only [Act.put, S_]
 clear hH
 refine RT_ 16 (fun K1 hK1 => ?_)
 have n0 := DD0.out.1
 have m0 := DD0.out.2
 go_simp
 refine hK1.out _ _ (fun h => absurd h (by decide)) (fun _ => ?_)
 clear hK1 K1 n0 m0
 refine ZW (by kernel_rfl) ?_ _
 rw [show IntKind.i64.wrap (x + v1) = wrap64 (x + v1) from (by unfold wrap64; exact IntKind.wrap_i64 _)]
 have RB := rr_st (w := wd) HG.out (Q2.out.stW ⟨_, _, _, _, _, _, _, _, T5.out.1⟩ T5.out.2 (fun k hk => .inl hk)) T5.out.2 (fun k hk => .inl hk)
 have R5 := Za (RB.1.up (Nat.le_succ B))
 have C5 := Za ((Ch.of_bel (F := G) B2.out).trans RB.2)
 have KI5 := Za (Kb.ch (G := G) (W := wd) ⟨KI2.out, NI.out⟩ RB.2)
 have KW5 := Za (Kb.ch (G := G) (W := wd) ⟨KW2.out, NW.out⟩ RB.2)
 clear RB Q1 Q2 V1 V2 KI KI2 KW KW2 BB B2 T5
 generalize wd.setCell ⟨bR, j, none⟩ (I_ (wrap64 (x + v1))) = w5 at *
 generalize (fun k => Fs k ∨ Rs k ∨ Fo k ∨ R k) = G5 at *
 have NT := Za (ZZ R5.out i ⟨9, j, a, (v0, v1, v2)⟩ (j : Nat) HL.out)
 unfold w6V at NT
 have x0 := Zb KW5.out.1 0 _ rfl
 have x1 := Zb KW5.out.1 1 _ rfl
 have x2 := Zb KW5.out.1 2 _ rfl
 have x3 := Zb KW5.out.1 3 _ rfl
 have x4 := Zb KW5.out.1 4 _ rfl
 have x5 := Zb KW5.out.1 5 _ rfl
 go_wp2_with fail
 refine NT.out.mono ?_
 rintro e w6 ⟨rfl, G6, r6, c6⟩
 have KI6 := Za (KI5.out.ch c6)
 have R6 := Za r6
 have C6 := Za (C5.out.trans c6)
 have i0 := Zb KI6.out.1 0 _ rfl
 have i1 := Zb KI6.out.1 1 _ rfl
 have i2 := Zb KI6.out.1 2 _ rfl
 clear x0 x1 x2 x3 x4 x5 NT r6 c6 KI5 KW5 R5 C5
 go_wp2_with fail
 go_ret
 exact ⟨_, G6, rfl, R6.out.bel (Zd w6 _), C6.out.trans (Ch.of_bel (Zd w6 _)), AskS.one R6.out (i, 0, 0, 0)⟩
theorem ract_2 {w : World} {G : Nat -> Prop} {B g : Nat} {S : List (List Wt)} {r : Rz} (h : Rr w G B g S r) (i j : Nat) (a v0 v1 v2 : Int) (hx : r.ws[i]? = some ⟨2, j, a, (v0, v1, v2)⟩) (hl : r.ev.length <= 90000) (x : V3) (hp : r.s.P[j]? = some x) :
 Calls Tryz.prog 39 #[P_ g, I_ (i : Nat)] w (YB w G (B + 1) g S { r with s := { r.s with P := r.s.P.set j (v0, v1, v2) }, ev := r.ev ++ [⟨i, 2, j, a⟩] } [(i, (0, 0, 0))]) := by
 have hfb := h.fb
 obtain ⟨Fs, Rs, Fo, R, gs, gt, vW, vE, vL, vO, vA, vs, os, as_, h, hG⟩ := h
 have hi := (G_ hx)
 obtain ⟨b, cW, eW, hb, p0, p1, p2, p3, p4, p5⟩ := h.waitAt i _ hx
 subst eW
 simp only at p0 p1 p2 p3 p4 p5
 obtain ⟨vP, vL_, vC, vS, vT, vA_, ss, tk, v⟩ := h.st
 have c1 := h.cells.1.2.1
 have b1 := Zd w (.cells #[I_ 2, I_ (j : Nat), I_ a, I_ v0, I_ v1, .int .u64 v2] 76)
 have b2 := Zd (w.alloc (.cells #[I_ 2, I_ (j : Nat), I_ a, I_ v0, I_ v1, .int .u64 v2] 76)) (.cells #[I_ 0, I_ 0, .int .u64 0] 64)
 have hs1 : (w.alloc (.cells #[I_ 2, I_ (j : Nat), I_ a, I_ v0, I_ v1, .int .u64 v2] 76)).heap.size = w.heap.size + 1 := by simp
 have BB := Za (Zg b1 b2)
 have KW := Za ((b2.block _ (by rw [hs1]; omega)).trans (show (w.alloc (.cells #[I_ 2, I_ (j : Nat), I_ a, I_ v0, I_ v1, .int .u64 v2] 76)).heap[w.heap.size]? = some (.cells #[I_ 2, I_ (j : Nat), I_ a, I_ v0, I_ v1, .int .u64 v2] 76 (0, 0)) from B_ _ _))
 have KI : Hid (((w.alloc (.cells #[I_ 2, I_ (j : Nat), I_ a, I_ v0, I_ v1, .int .u64 v2] 76)).alloc (.cells #[I_ 0, I_ 0, .int .u64 0] 64)).heap[w.heap.size + 1]? = some (.cells #[I_ 0, I_ 0, .int .u64 0] 64 (0, 0))) := Za (by rw [← hs1]; exact B_ _ _)
 have NW : Hid (¬ G w.heap.size) := Za (fun e => by have := hfb _ e; omega)
 have NI : Hid (¬ G (w.heap.size + 1)) := Za (fun e => by have := hfb _ e; omega)
 have Q1 := Za (h.bel BB.out)
 have V1 := Za (v.bel BB.out)
 have HG := Za hG
 have HL2 := Za hl
 have HL := Za (show r.ev.length <= 100000 by omega)
 obtain ⟨n, hn⟩ : ∃ n, n = r.ws.length := ⟨_, rfl⟩
 rw [← hn] at c1 hi
 have hi1 : (i : Int) < (n : Int) := by omega
 have hi0 : (0 : Int) <= (i : Int) := by omega
 have hj := (G_ hp)
 obtain ⟨bR, cR, eR, _⟩ := Zq v.pl (show 0 < r.s.P.length by omega)
 obtain ⟨m, hm⟩ : ∃ m, m = r.s.P.length := ⟨_, rfl⟩
 rw [← hm] at eR hj
 subst eR
 have HM := Za hm
 have HJ := Za hj
 have hj1 : (j : Int) < (m : Int) := by omega
 have hj0 : (0 : Int) <= (j : Int) := by omega
 have D0 := Za (Zk V1.out.pl _ _ (by have := (vcs_at _ _ _ hp).1; rw [Nat.mul_comm] at this; exact this))
 have D1 := Za (Zk V1.out.pl _ _ (by have := (vcs_at _ _ _ hp).2.1; rw [Nat.mul_comm] at this; exact this))
 have D2 := Za (Zk V1.out.pl _ _ (by have := (vcs_at _ _ _ hp).2.2; rw [Nat.mul_comm] at this; exact this))
 clear hp hj hm
 clear h hG v hx hi hl b1 b2 hs1 hfb hb hn
 go_enter Tryz.func39, Tryz.ntmps39
 go_upto_region 8 with fail
 generalize (w.alloc _).alloc _ = w1 at *
 clear c1 p0 p1 p2 p3 p4 p5 hi1 hi0
 have Q2 := Za (Q1.out.bel (w' := w1.drew) (below_drewN (Below.refl _ _) 1))
 have V2 := Za (V1.out.bel (w' := w1.drew) (below_drewN (Below.refl _ _) 1))
 have B2 := Za (Zp BB.out)
 have KW2 : Hid (w1.drew.heap[w.heap.size]? = _) := Za KW.out
 have KI2 : Hid (w1.drew.heap[w.heap.size + 1]? = _) := Za KI.out
 have DD0 : Hid (w1.drew.cell? ⟨bR, j * 3, none⟩ = some (I_ x.1) /\ w1.drew.frozen? ⟨bR, j * 3, none⟩ = false) := Za D0.out
 have DD1 : Hid (w1.drew.cell? ⟨bR, j * 3 + 1, none⟩ = some (I_ x.2.1) /\ w1.drew.frozen? ⟨bR, j * 3 + 1, none⟩ = false) := Za D1.out
 have DD2 : Hid (w1.drew.cell? ⟨bR, j * 3 + 2, none⟩ = some (.int .u64 x.2.2) /\ w1.drew.frozen? ⟨bR, j * 3 + 2, none⟩ = false) := Za D2.out
 clear D0 D1 D2
 have T5 := Za (by have := V2.out.setP HM.out j (v0, v1, v2); rw [Nat.mul_comm 3 j] at this; exact this)
 refine ZD (S := fun wz => wz.cell? ⟨g, 0, none⟩ = some (P_ gs) /\ wz.cell? ⟨gs, 0, none⟩ = some (.slice (some ⟨bR, 0, none⟩) m cR) /\ wz.cell? ⟨w.heap.size, 1, none⟩ = some (I_ (j : Nat)) /\ wz.cell? ⟨w.heap.size, 3, none⟩ = some (I_ v0) /\ wz.cell? ⟨w.heap.size, 4, none⟩ = some (I_ v1) /\ wz.cell? ⟨w.heap.size, 5, none⟩ = some (.int .u64 v2)) (fun j => decide (j < 12)) ZJ ⟨Q2.out.cells.1.1, V2.out.cells.1, Zb KW2.out 1 _ rfl, Zb KW2.out 3 _ rfl, Zb KW2.out 4 _ rfl, Zb KW2.out 5 _ rfl⟩ (fun hH => ?_)
 generalize World.drew _ = wd at *
 refine M_ 0 ?_
 simp only [Act.put, S_]
 refine M_ 1 ?_
 simp only [Act.put, S_]
 refine M_ 2 ?_
 simp only [Act.put, S_]
 refine L_ 3 (v := ?_) ?_ hH ?_
 rotate_left 1
 · (intro w hSw; have q := hSw.1; clear hSw; go_simp <;> with_reducible rfl)
 simp only [Act.put, S_]
 refine M_ 4 ?_
 simp only [Act.put, S_]
 refine M_ 5 ?_
 simp only [Act.put, S_]
 refine L_ 6 (v := ?_) ?_ hH ?_
 rotate_left 1
 · (intro w hSw; have q := hSw.2.1; clear hSw; go_simp <;> with_reducible rfl)
 simp only [Act.put, S_]
 refine M_ 7 ?_
 simp only [Act.put, S_]
 refine L_ 8 (v := ?_) ?_ hH ?_
 rotate_left 1
 · (intro w hSw; have q := hSw.2.2.1; clear hSw; go_simp <;> with_reducible rfl)
 simp only [Act.put, S_]
 refine M_ 9 ?_
 simp only [Act.put, S_]
 refine L_ 10 (v := ?_) ?_ hH ?_
 rotate_left 1
 · (intro w hSw; have q0 := hSw.2.2.2.1; have q1 := hSw.2.2.2.2.1; have q2 := hSw.2.2.2.2.2; clear hSw; go_simp <;> with_reducible rfl)
 simp only [Act.put, S_]
 refine M_ 11 ?_
 simp only [Act.put, S_]
 clear hH
 refine RT_ 12 (fun K1 hK1 => ?_)
 have n0 := DD0.out.1
 have m0 := DD0.out.2
 have n1 := DD1.out.1
 have m1 := DD1.out.2
 have n2 := DD2.out.1
 have m2 := DD2.out.2
 go_simp
 refine hK1.out _ _ (fun h => absurd h (by decide)) (fun _ => ?_)
 clear hK1 K1 n0 m0 n1 m1 n2 m2
 refine ZW (by kernel_rfl) ?_ _
 have RB := rr_st (w := wd) HG.out (Q2.out.stW ⟨_, _, _, _, _, _, _, _, T5.out.1⟩ T5.out.2 (fun k hk => .inl hk)) T5.out.2 (fun k hk => .inl hk)
 have R5 := Za (RB.1.up (Nat.le_succ B))
 have C5 := Za ((Ch.of_bel (F := G) B2.out).trans RB.2)
 have KI5 := Za (Kb.ch (G := G) (W := wd) ⟨KI2.out, NI.out⟩ RB.2)
 have KW5 := Za (Kb.ch (G := G) (W := wd) ⟨KW2.out, NW.out⟩ RB.2)
 clear RB Q1 Q2 V1 V2 KI KI2 KW KW2 BB B2 T5
 generalize ((wd.setCell ⟨bR, j * 3, none⟩ (I_ v0)).setCell ⟨bR, j * 3 + 1, none⟩ (I_ v1)).setCell ⟨bR, j * 3 + 2, none⟩ (.int .u64 v2) = w5 at *
 generalize (fun k => Fs k ∨ Rs k ∨ Fo k ∨ R k) = G5 at *
 have NT := Za (ZZ R5.out i ⟨2, j, a, (v0, v1, v2)⟩ (j : Nat) HL.out)
 unfold w6V at NT
 have x0 := Zb KW5.out.1 0 _ rfl
 have x1 := Zb KW5.out.1 1 _ rfl
 have x2 := Zb KW5.out.1 2 _ rfl
 have x3 := Zb KW5.out.1 3 _ rfl
 have x4 := Zb KW5.out.1 4 _ rfl
 have x5 := Zb KW5.out.1 5 _ rfl
 go_wp2_with fail
 refine NT.out.mono ?_
 rintro e w6 ⟨rfl, G6, r6, c6⟩
 have KI6 := Za (KI5.out.ch c6)
 have R6 := Za r6
 have C6 := Za (C5.out.trans c6)
 have i0 := Zb KI6.out.1 0 _ rfl
 have i1 := Zb KI6.out.1 1 _ rfl
 have i2 := Zb KI6.out.1 2 _ rfl
 clear x0 x1 x2 x3 x4 x5 NT r6 c6 KI5 KW5 R5 C5
 go_wp2_with fail
 go_ret
 exact ⟨_, G6, rfl, R6.out.bel (Zd w6 _), C6.out.trans (Ch.of_bel (Zd w6 _)), AskS.one R6.out (i, 0, 0, 0)⟩
theorem ract_5 {w : World} {G : Nat -> Prop} {B g : Nat} {S : List (List Wt)} {r : Rz} (h : Rr w G B g S r) (i j : Nat) (a v0 v1 v2 : Int) (hx : r.ws[i]? = some ⟨5, j, a, (v0, v1, v2)⟩) (hl : r.ev.length <= 90000) (q : Qu) (hp : r.s.C[j]? = some q) (hB : B <= 900000) (hb : isB v0 v1 v2 q.t = true) (hr : (q.l.length : Int) < q.room) :
 Calls Tryz.prog 39 #[P_ g, I_ (i : Nat)] w (YB w G (B + 1) g S { r with s := { r.s with C := r.s.C.set j { q with l := q.l ++ [(v0, v1, v2)] } }, ev := r.ev ++ [⟨i, 5, j, a⟩] } [(i, (0, 0, 0))]) := by
 have hfb := h.fb
 obtain ⟨Fs, Rs, Fo, R, gs, gt, vW, vE, vL, vO, vA, vs, os, as_, h, hG⟩ := h
 have hi := (G_ hx)
 have HBB := Za hb
 clear hb
 obtain ⟨b, cW, eW, hbw, p0, p1, p2, p3, p4, p5⟩ := h.waitAt i _ hx
 subst eW
 simp only at p0 p1 p2 p3 p4 p5
 obtain ⟨vP, vL_, vC, vS, vT, vA_, ss, tk, v⟩ := h.st
 have c1 := h.cells.1.2.1
 have b1 := Zd w (.cells #[I_ 5, I_ (j : Nat), I_ a, I_ v0, I_ v1, .int .u64 v2] 76)
 have b2 := Zd (w.alloc (.cells #[I_ 5, I_ (j : Nat), I_ a, I_ v0, I_ v1, .int .u64 v2] 76)) (.cells #[I_ 0, I_ 0, .int .u64 0] 64)
 have hs1 : (w.alloc (.cells #[I_ 5, I_ (j : Nat), I_ a, I_ v0, I_ v1, .int .u64 v2] 76)).heap.size = w.heap.size + 1 := by simp
 have BB := Za (Zg b1 b2)
 have KW := Za ((b2.block _ (by rw [hs1]; omega)).trans (show (w.alloc (.cells #[I_ 5, I_ (j : Nat), I_ a, I_ v0, I_ v1, .int .u64 v2] 76)).heap[w.heap.size]? = some (.cells #[I_ 5, I_ (j : Nat), I_ a, I_ v0, I_ v1, .int .u64 v2] 76 (0, 0)) from B_ _ _))
 have KI : Hid (((w.alloc (.cells #[I_ 5, I_ (j : Nat), I_ a, I_ v0, I_ v1, .int .u64 v2] 76)).alloc (.cells #[I_ 0, I_ 0, .int .u64 0] 64)).heap[w.heap.size + 1]? = some (.cells #[I_ 0, I_ 0, .int .u64 0] 64 (0, 0))) := Za (by rw [← hs1]; exact B_ _ _)
 have NW : Hid (¬ G w.heap.size) := Za (fun e => by have := hfb _ e; omega)
 have NI : Hid (¬ G (w.heap.size + 1)) := Za (fun e => by have := hfb _ e; omega)
 have Q1 := Za (h.bel BB.out)
 have V1 := Za (v.bel BB.out)
 have HG := Za hG
 have HL2 := Za hl
 have HL := Za (show r.ev.length <= 100000 by omega)
 obtain ⟨n, hn⟩ : ∃ n, n = r.ws.length := ⟨_, rfl⟩
 rw [← hn] at c1 hi
 have hi1 : (i : Int) < (n : Int) := by omega
 have hi0 : (0 : Int) <= (i : Int) := by omega
 have hj := (G_ hp)
 have HP := Za hp
 have HRR := Za hr
 have hr0 : (q.room == 0) = false := by rw [beq_eq_false_iff_ne]; omega
 clear hr hbw
 obtain ⟨bR, cR, eR, _⟩ := Zq v.ch (show 0 < r.s.C.length by omega)
 obtain ⟨m, hm⟩ : ∃ m, m = r.s.C.length := ⟨_, rfl⟩
 rw [← hm] at eR hj
 subst eR
 have hj1 : (j : Int) < (m : Int) := by omega
 have hj0 : (0 : Int) <= (j : Int) := by omega
 have D0 := Za (Zk V1.out.ch _ _ (by have := (ccs_at _ _ _ hp).2; rw [Nat.mul_comm] at this; exact this)).1
 clear hp hj hm
 clear h hG v hx hi hl b1 b2 hs1 hfb hn
 go_enter Tryz.func39, Tryz.ntmps39
 go_upto_region 17 with fail
 generalize (w.alloc _).alloc _ = w1 at *
 clear c1 p0 p1 p2 p3 p4 p5 hi1 hi0
 have x0 := Q1.out.cells.1.1
 have x1 := V1.out.cells.2.2.1
 have x2 := Zb KW.out 1 _ rfl
 have x3 := D0.out
 go_quiet (fail)
 have DQ := below_drewN (Below.refl w1.heap.size w1) nq
 replace Q1 := Za (Q1.out.bel DQ)
 replace V1 := Za (V1.out.bel DQ)
 replace BB := Za (Zg BB.out DQ)
 have KW' : Hid ((w1.drewN nq).heap[w.heap.size]? = _) := Za ((DQ.block _ (Ze KW.out)).trans KW.out)
 have KI' : Hid ((w1.drewN nq).heap[w.heap.size + 1]? = _) := Za ((DQ.block _ (Ze KI.out)).trans KI.out)
 clear x0 x1 x2 x3 DQ KW KI
 have KW := KW'
 have KI := KI'
 clear KW' KI'
 generalize w1.drewN nq = w1 at *
 go_upto_region 19 with fail
 have Q2 := Za (Q1.out.bel (w' := w1.drew) (below_drewN (Below.refl _ _) 1))
 have V2 := Za (V1.out.bel (w' := w1.drew) (below_drewN (Below.refl _ _) 1))
 have B2 := Za (Zp BB.out)
 have KW2 : Hid (w1.drew.heap[w.heap.size]? = _) := Za KW.out
 have KI2 : Hid (w1.drew.heap[w.heap.size + 1]? = _) := Za KI.out
 refine ZD (S := fun wz => wz.cell? ⟨g, 0, none⟩ = some (P_ gs) /\ wz.cell? ⟨w.heap.size, 1, none⟩ = some (I_ (j : Nat)) /\ wz.cell? ⟨w.heap.size, 3, none⟩ = some (I_ v0) /\ wz.cell? ⟨w.heap.size, 4, none⟩ = some (I_ v1) /\ wz.cell? ⟨w.heap.size, 5, none⟩ = some (.int .u64 v2)) (fun j => decide (j < 8)) ZJ ⟨Q2.out.cells.1.1, Zb KW2.out 1 _ rfl, Zb KW2.out 3 _ rfl, Zb KW2.out 4 _ rfl, Zb KW2.out 5 _ rfl⟩ (fun hH => ?_)
 generalize World.drew _ = wd at *
 refine M_ 0 ?_
 simp only [Act.put, S_]
 refine M_ 1 ?_
 simp only [Act.put, S_]
 refine M_ 2 ?_
 simp only [Act.put, S_]
 refine L_ 3 (v := ?_) ?_ hH ?_
 rotate_left 1
 · (intro w hSw; have q := hSw.1; clear hSw; go_simp <;> with_reducible rfl)
 simp only [Act.put, S_]
 refine M_ 4 ?_
 simp only [Act.put, S_]
 refine L_ 5 (v := ?_) ?_ hH ?_
 rotate_left 1
 · (intro w hSw; have q := hSw.2.1; clear hSw; go_simp <;> with_reducible rfl)
 simp only [Act.put, S_]
 refine M_ 6 ?_
 simp only [Act.put, S_]
 refine L_ 7 (v := ?_) ?_ hH ?_
 rotate_left 1
 · (intro w hSw; have q0 := hSw.2.2.1; have q1 := hSw.2.2.2.1; have q2 := hSw.2.2.2.2; clear hSw; go_simp <;> with_reducible rfl)
 simp only [Act.put, S_]
 clear hH
 refine RT_ 8 (fun K1 hK1 => ?_)
 have CT := Za (rSend_room ⟨_, _, _, _, _, _, _, _, V2.out⟩ j q HP.out v0 v1 v2 HBB.out (by omega) HRR.out)
 go_simp
 refine CT.out.mono ?_
 rintro e w5 ⟨rfl, F5, R5', rt, ch5, _, hr5⟩
 refine hK1.out _ _ (fun h => absurd h (by decide)) (fun _ => ?_)
 clear hK1 K1 CT
 refine ZW (by kernel_rfl) ?_ _
 have RB := rr_st (w := wd) HG.out (Q2.out.stW rt ch5 hr5) ch5 hr5
 have R5 := Za RB.1
 have C5 := Za ((Ch.of_bel (F := G) B2.out).trans RB.2)
 have KI5 := Za (Kb.ch (G := G) (W := wd) ⟨KI2.out, NI.out⟩ RB.2)
 have KW5 := Za (Kb.ch (G := G) (W := wd) ⟨KW2.out, NW.out⟩ RB.2)
 clear RB Q1 Q2 V1 V2 KI KI2 KW KW2 BB B2 rt ch5 hr5
 generalize (fun k => F5 k ∨ R5' k ∨ Fo k ∨ R k) = G5 at *
 have NT := Za (ZZ R5.out i ⟨5, j, a, (v0, v1, v2)⟩ (j : Nat) HL.out)
 unfold w6V at NT
 have x0 := Zb KW5.out.1 0 _ rfl
 have x1 := Zb KW5.out.1 1 _ rfl
 have x2 := Zb KW5.out.1 2 _ rfl
 have x3 := Zb KW5.out.1 3 _ rfl
 have x4 := Zb KW5.out.1 4 _ rfl
 have x5 := Zb KW5.out.1 5 _ rfl
 go_wp2_with fail
 refine NT.out.mono ?_
 rintro e w6 ⟨rfl, G6, r6, c6⟩
 have KI6 := Za (KI5.out.ch c6)
 have R6 := Za r6
 have C6 := Za (C5.out.trans c6)
 have i0 := Zb KI6.out.1 0 _ rfl
 have i1 := Zb KI6.out.1 1 _ rfl
 have i2 := Zb KI6.out.1 2 _ rfl
 clear x0 x1 x2 x3 x4 x5 NT r6 c6 KI5 KW5 R5 C5
 go_wp2_with fail
 go_ret
 exact ⟨_, G6, rfl, R6.out.bel (Zd w6 _), C6.out.trans (Ch.of_bel (Zd w6 _)), AskS.one R6.out (i, 0, 0, 0)⟩
theorem ract_6 {w : World} {G : Nat -> Prop} {B g : Nat} {S : List (List Wt)} {r : Rz} (h : Rr w G B g S r) (i j : Nat) (a v0 v1 v2 : Int) (hx : r.ws[i]? = some ⟨6, j, a, (v0, v1, v2)⟩) (hl : r.ev.length <= 90000) (q : Qu) (hp : r.s.C[j]? = some q) (hB : B <= 900000) (y : V3) (q' : List V3) (hql : q.l = y :: q') :
 Calls Tryz.prog 39 #[P_ g, I_ (i : Nat)] w (YB w G (B + 1) g S { r with s := { r.s with C := r.s.C.set j { q with l := q' } }, ev := r.ev ++ [⟨i, 6, j, a⟩] } [(i, y)]) := by
 have hfb := h.fb
 obtain ⟨Fs, Rs, Fo, R, gs, gt, vW, vE, vL, vO, vA, vs, os, as_, h, hG⟩ := h
 have hi := (G_ hx)
 obtain ⟨b, cW, eW, hb, p0, p1, p2, p3, p4, p5⟩ := h.waitAt i _ hx
 subst eW
 simp only at p0 p1 p2 p3 p4 p5
 obtain ⟨vP, vL_, vC, vS, vT, vA_, ss, tk, v⟩ := h.st
 have c1 := h.cells.1.2.1
 have b1 := Zd w (.cells #[I_ 6, I_ (j : Nat), I_ a, I_ v0, I_ v1, .int .u64 v2] 76)
 have b2 := Zd (w.alloc (.cells #[I_ 6, I_ (j : Nat), I_ a, I_ v0, I_ v1, .int .u64 v2] 76)) (.cells #[I_ 0, I_ 0, .int .u64 0] 64)
 have hs1 : (w.alloc (.cells #[I_ 6, I_ (j : Nat), I_ a, I_ v0, I_ v1, .int .u64 v2] 76)).heap.size = w.heap.size + 1 := by simp
 have BB := Za (Zg b1 b2)
 have KW := Za ((b2.block _ (by rw [hs1]; omega)).trans (show (w.alloc (.cells #[I_ 6, I_ (j : Nat), I_ a, I_ v0, I_ v1, .int .u64 v2] 76)).heap[w.heap.size]? = some (.cells #[I_ 6, I_ (j : Nat), I_ a, I_ v0, I_ v1, .int .u64 v2] 76 (0, 0)) from B_ _ _))
 have KI : Hid (((w.alloc (.cells #[I_ 6, I_ (j : Nat), I_ a, I_ v0, I_ v1, .int .u64 v2] 76)).alloc (.cells #[I_ 0, I_ 0, .int .u64 0] 64)).heap[w.heap.size + 1]? = some (.cells #[I_ 0, I_ 0, .int .u64 0] 64 (0, 0))) := Za (by rw [← hs1]; exact B_ _ _)
 have NW : Hid (¬ G w.heap.size) := Za (fun e => by have := hfb _ e; omega)
 have NI : Hid (¬ G (w.heap.size + 1)) := Za (fun e => by have := hfb _ e; omega)
 have Q1 := Za (h.bel BB.out)
 have V1 := Za (v.bel BB.out)
 have HG := Za hG
 have HL2 := Za hl
 have HL := Za (show r.ev.length <= 100000 by omega)
 obtain ⟨n, hn⟩ : ∃ n, n = r.ws.length := ⟨_, rfl⟩
 rw [← hn] at c1 hi
 have hi1 : (i : Int) < (n : Int) := by omega
 have hi0 : (0 : Int) <= (i : Int) := by omega
 have hj := (G_ hp)
 have HP := Za hp
 have HQL := Za hql
 clear hql
 obtain ⟨bR, cR, eR, _⟩ := Zq v.ch (show 0 < r.s.C.length by omega)
 obtain ⟨m, hm⟩ : ∃ m, m = r.s.C.length := ⟨_, rfl⟩
 rw [← hm] at eR hj
 subst eR
 have hj1 : (j : Int) < (m : Int) := by omega
 have hj0 : (0 : Int) <= (j : Int) := by omega
 have D0 := Za (Zk V1.out.ch _ _ (by have := (ccs_at _ _ _ hp).2; rw [Nat.mul_comm] at this; exact this)).1
 clear hp hj hm
 clear h hG v hx hi hl b1 b2 hs1 hfb hb hn
 go_enter Tryz.func39, Tryz.ntmps39
 obtain ⟨y0, y1, y2⟩ := y
 go_upto_region 21 with fail
 generalize (w.alloc _).alloc _ = w1 at *
 clear c1 p0 p1 p2 p3 p4 p5 hi1 hi0
 have Q2 := Za (Q1.out.bel (w' := w1.drew) (below_drewN (Below.refl _ _) 1))
 have V2 := Za (V1.out.bel (w' := w1.drew) (below_drewN (Below.refl _ _) 1))
 have B2 := Za (Zp BB.out)
 have KW2 : Hid (w1.drew.heap[w.heap.size]? = _) := Za KW.out
 have KI2 : Hid (w1.drew.heap[w.heap.size + 1]? = _) := Za KI.out
 refine ZD (S := fun wz => wz.cell? ⟨g, 0, none⟩ = some (P_ gs) /\ wz.cell? ⟨w.heap.size, 1, none⟩ = some (I_ (j : Nat))) (fun j => decide (j ≠ 6) && decide (j ≠ 11)) ZJ ⟨Q2.out.cells.1.1, Zb KW2.out 1 _ rfl⟩ (fun hH => ?_)
 generalize World.drew _ = wd at *
 refine M_ 0 ?_
 simp only [Act.put, S_]
 refine M_ 1 ?_
 simp only [Act.put, S_]
 refine M_ 2 ?_
 simp only [Act.put, S_]
 refine L_ 3 (v := ?_) ?_ hH ?_
 rotate_left 1
 · (intro w hSw; have q := hSw.1; clear hSw; go_simp <;> with_reducible rfl)
 simp only [Act.put, S_]
 refine M_ 4 ?_
 simp only [Act.put, S_]
 refine L_ 5 (v := ?_) ?_ hH ?_
 rotate_left 1
 · (intro w hSw; have q := hSw.2; clear hSw; go_simp <;> with_reducible rfl)
 simp only [Act.put, S_]
 clear hH
 refine RT_ 6 (fun K1 hK1 => ?_)
 have CT := Za (rRecv_some ⟨_, _, _, _, _, _, _, _, V2.out⟩ (by omega) j q HP.out (y0, y1, y2) q' HQL.out)
 simp only at CT
 go_simp
 refine CT.out.mono ?_
 rintro e w5 ⟨rfl, F5, R5', rt, ch5, _, hr5⟩
 refine hK1.out _ _ (fun h => absurd h (by decide)) (fun _ => ?_)
 clear hK1 K1 CT
 have RB := rr_st (w := wd) HG.out (Q2.out.stW rt ch5 hr5) ch5 hr5
 have R5 := Za (RB.1.up (Nat.le_succ B))
 have C5 := Za ((Ch.of_bel (F := G) B2.out).trans RB.2)
 have KI5 := Za (Kb.ch (G := G) (W := wd) ⟨KI2.out, NI.out⟩ RB.2)
 have KW5 := Za (Kb.ch (G := G) (W := wd) ⟨KW2.out, NW.out⟩ RB.2)
 clear RB Q1 Q2 V1 V2 KI KI2 KW KW2 BB B2 rt ch5 hr5
 generalize (fun k => F5 k ∨ R5' k ∨ Fo k ∨ R k) = G5 at *
 refine M_ 7 ?_
 simp only [Act.put, S_]
 refine M_ 8 ?_
 simp only [Act.put, S_]
 refine M_ 9 ?_
 simp only [Act.put, S_]
 refine M_ 10 ?_
 simp only [Act.put, S_]
 refine RT_ 11 (fun K1 hK1 => ?_)
 have n0 := Zb KI5.out.1 0 _ rfl
 have n1 := Zb KI5.out.1 1 _ rfl
 have n2 := Zb KI5.out.1 2 _ rfl
 have m0 := Zc KI5.out.1 0
 have m1 := Zc KI5.out.1 1
 have m2 := Zc KI5.out.1 2
 go_simp
 refine hK1.out _ _ (fun h => absurd h (by decide)) (fun _ => ?_)
 clear hK1 K1 n0 n1 n2 m0 m1 m2
 refine ZW (by kernel_rfl) ?_ _
 obtain ⟨z, zo, zs⟩ := set3t KI5.out.1 (I_ y0) (I_ y1) (.int .u64 y2)
 have R8 := Za (R5.out.keep (fun k hk => zo k (fun e => KI5.out.2 (by rw [← e]; exact hk))) (Nat.le_of_eq zs.symm))
 have C8 := Za (ch_box C5.out zo zs rfl rfl rfl (Nat.le_succ _))
 have KI8 : Hid (Kb _ G5 (w.heap.size + 1) _) := Za ⟨z, KI5.out.2⟩
 have KW8 := Za (KW5.out.set (by omega) zo)
 clear z zo zs R5 C5 KI5 KW5
 generalize (((w5.setCell ⟨w.heap.size + 1, 0, none⟩ (I_ y0)).setCell ⟨w.heap.size + 1, 1, none⟩ (I_ y1)).setCell ⟨w.heap.size + 1, 2, none⟩ (.int .u64 y2)) = w8 at *
 have R5 := R8
 have C5 := C8
 have KI5 := KI8
 have KW5 := KW8
 clear R8 C8 KI8 KW8
 have NT := Za (ZZ R5.out i ⟨6, j, a, (v0, v1, v2)⟩ (j : Nat) HL.out)
 unfold w6V at NT
 have x0 := Zb KW5.out.1 0 _ rfl
 have x1 := Zb KW5.out.1 1 _ rfl
 have x2 := Zb KW5.out.1 2 _ rfl
 have x3 := Zb KW5.out.1 3 _ rfl
 have x4 := Zb KW5.out.1 4 _ rfl
 have x5 := Zb KW5.out.1 5 _ rfl
 go_wp2_with fail
 refine NT.out.mono ?_
 rintro e w6 ⟨rfl, G6, r6, c6⟩
 have KI6 := Za (KI5.out.ch c6)
 have R6 := Za r6
 have C6 := Za (C5.out.trans c6)
 have i0 := Zb KI6.out.1 0 _ rfl
 have i1 := Zb KI6.out.1 1 _ rfl
 have i2 := Zb KI6.out.1 2 _ rfl
 clear x0 x1 x2 x3 x4 x5 NT r6 c6 KI5 KW5 R5 C5
 go_wp2_with fail
 go_ret
 exact ⟨_, G6, rfl, R6.out.bel (Zd w6 _), C6.out.trans (Ch.of_bel (Zd w6 _)), AskS.one R6.out (i, y0, y1, y2)⟩
end Go.Proofs.YtfojninaginnoaaGreatDoor.Ck
