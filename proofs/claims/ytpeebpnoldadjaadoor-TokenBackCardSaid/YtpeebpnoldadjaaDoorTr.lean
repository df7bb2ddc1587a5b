/- The reader in memory; the contracts of its questions and of its going over bytes. -/
import Derived.Test.YtpeebpnoldadjaaDoorTb
import Derived.Test.YtpeebpnoldadjaaDoorNum
import Derived.Deep.RegionHeld3
namespace Go.Proofs.YtpeebpnoldadjaaDoor.Ck
open Go.RowKit

theorem hide {p : Prop} (h : p) : Hid p := h
theorem lt_of_blk {w : World} {g : Nat} {o : Obj} (h : w.heap[g]? = some o) : g < w.heap.size := (Array.getElem?_eq_some_iff.1 h).1

/-- nothing but the block g turned -/
structure Tn (g : Nat) (w w' : World) : Prop where
  os : w'.os = w.os
  tape : w'.tape = w.tape
  output : w'.output = w.output
  size : w.heap.size ≤ w'.heap.size
  blk : ∀ k, k < w.heap.size → k ≠ g → w'.heap[k]? = w.heap[k]?
theorem Tn.refl (g : Nat) (w : World) : Tn g w w := ⟨rfl, rfl, rfl, Nat.le_refl _, fun _ _ _ => rfl⟩
theorem Tn.trans {g : Nat} {a b c : World} (h : Tn g a b) (k : Tn g b c) : Tn g a c :=
  ⟨k.os.trans h.os, k.tape.trans h.tape, k.output.trans h.output, Nat.le_trans h.size k.size, fun x hx hs => (k.blk x (Nat.lt_of_lt_of_le hx h.size) hs).trans (h.blk x hx hs)⟩
theorem Tn.of_bel {g : Nat} {w w' : World} (h : Below w.heap.size w w') : Tn g w w' := ⟨h.os, h.tape, h.output, h.size, fun k hk _ => h.block k hk⟩
theorem Tn.bel {g : Nat} {w w' : World} (h : Tn g w w') {B : Nat} (hB : B ≤ g) (hw : B ≤ w.heap.size) : Below B w w' :=
  ⟨h.os, h.tape, h.output, h.size, fun k hk => h.blk k (by omega) (by omega)⟩

/-- the reader of block g: the text s, at byte i -/
def Rdr (w : World) (g : Nat) (s : ByteArray) (i : Nat) : Prop := w.heap[g]? = some (.cells #[.string s, .int .i64 i] 56 (0, 0))
theorem Rdr.src {w : World} {g : Nat} {s : ByteArray} {i : Nat} (h : Rdr w g s i) : w.cell? ⟨g, 0, none⟩ = some (.string s) := by unfold Rdr at h; simp [World.cell?, h]
theorem Rdr.pos {w : World} {g : Nat} {s : ByteArray} {i : Nat} (h : Rdr w g s i) : w.cell? ⟨g, 1, none⟩ = some (.int .i64 i) := by unfold Rdr at h; simp [World.cell?, h]
theorem Rdr.frz {w : World} {g : Nat} {s : ByteArray} {i : Nat} (h : Rdr w g s i) (k : Nat) : w.frozen? ⟨g, k, none⟩ = false := by unfold Rdr at h; simp [World.frozen?, h]
theorem Rdr.drewN {w : World} {g : Nat} {s : ByteArray} {i : Nat} (h : Rdr w g s i) (k : Nat) : Rdr (w.drewN k) g s i := h
theorem Rdr.below {w w' : World} {g : Nat} {s : ByteArray} {i : Nat} (h : Rdr w g s i) (hb : Below w.heap.size w w') : Rdr w' g s i := (hb.block g (lt_of_blk h)).trans h
theorem Rdr.set {w : World} {g : Nat} {s : ByteArray} {i : Nat} (h : Rdr w g s i) (j : Nat) (z : Int) (hz : z = j) : Rdr (w.setCell ⟨g, 1, none⟩ (.int .i64 z)) g s j ∧ Tn g w (w.setCell ⟨g, 1, none⟩ (.int .i64 z)) := by
  subst hz
  refine ⟨?_, rfl, rfl, rfl, Nat.le_of_eq (by simp [World.setCell]), fun k _ hk => Below.heap_setCell _ _ _ _ hk⟩
  unfold Rdr
  rw [heap_setCell_same _ _ _ _ _ _ h]
  rfl

def byte (s : ByteArray) (i : Nat) : Int := ((s.data.getD i 0).toNat : Int)
/-- how far bytes of a kind go -/
def overF (p : Int → Bool) (s : ByteArray) (i : Nat) : Nat := if i < s.size then if p (byte s i) then overF p s (i + 1) else i else i
termination_by s.size - i
theorem overF_ge (p : Int → Bool) (s : ByteArray) (i : Nat) : i ≤ overF p s i := by
  rw [overF]
  split
  · split
    · exact Nat.le_trans (Nat.le_succ i) (overF_ge p s (i + 1))
    · exact Nat.le_refl _
  · exact Nat.le_refl _
termination_by s.size - i
theorem overF_le (p : Int → Bool) (s : ByteArray) (i : Nat) (h : i ≤ s.size) : overF p s i ≤ s.size := by
  rw [overF]
  split
  · split
    · exact overF_le p s (i + 1) (by omega)
    · exact h
  · exact h
termination_by s.size - i
def posAt (w : World) (g : Nat) : Nat := match w.cell? ⟨g, 1, none⟩ with | some (.int _ z) => z.toNat | _ => 0
theorem Rdr.posAt {w : World} {g : Nat} {s : ByteArray} {i : Nat} (h : Rdr w g s i) : posAt w g = i := by unfold Ck.posAt; rw [h.pos]; rfl

theorem byte_eq (s : ByteArray) (j : Nat) (h : j < s.size) : byte s j = ((s[j]'h).toNat : Int) := by
  have h2 : j < s.data.size := h
  show ((s.data.getD j 0).toNat : Int) = _
  rw [Array.getD_eq_getD_getElem?, Array.getElem?_eq_getElem h2]
  rfl
theorem Tn.drewN {g : Nat} {a b : World} (h : Tn g a b) (k : Nat) : Tn g a (b.drewN k) := h.trans (Tn.of_bel (below_drewN (Below.refl _ _) k))

theorem more_any (g : Nat) (s : ByteArray) (i : Nat) (w : World) (h : Rdr w g s i) :
    Calls Tryd.prog 27 #[.pointer (some ⟨g, 0, none⟩)] w fun e w' => e = .returned (.bool (decide (i < s.size))) ∧ ∃ k, w' = w.drewN k := by
  have h1 := h.src
  have h2 := h.pos
  clear h
  go_enter Tryd.func27, Tryd.ntmps27
  go_wp2_with fail
  go_quiet (fail)
  go_wp2_with fail
  go_ret
  exact ⟨by simp, _, rfl⟩
theorem more_yes {g : Nat} {s : ByteArray} {i : Nat} {w : World} (h : Rdr w g s i) (hi : i < s.size) :
    Calls Tryd.prog 27 #[.pointer (some ⟨g, 0, none⟩)] w fun e w' => e = .returned (.bool true) ∧ ∃ k, w' = w.drewN k := by
  have := more_any g s i w h
  rwa [decide_eq_true hi] at this
theorem more_no {g : Nat} {s : ByteArray} {i : Nat} {w : World} (h : Rdr w g s i) (hi : ¬ i < s.size) :
    Calls Tryd.prog 27 #[.pointer (some ⟨g, 0, none⟩)] w fun e w' => e = .returned (.bool false) ∧ ∃ k, w' = w.drewN k := by
  have := more_any g s i w h
  rwa [decide_eq_false hi] at this

set_option maxHeartbeats 1000000 in
theorem over_blank (g : Nat) (s : ByteArray) (i : Nat) (w : World) (h : Rdr w g s i) (hi : s.size ≤ 9000) (hi2 : i ≤ s.size) :
    Calls Tryd.prog 38 #[.pointer (some ⟨g, 0, none⟩), .func (.func 39) #[] #[]] w fun e w' => e = .returned (.tuple #[]) ∧ Rdr w' g s (overF isBlank s i) ∧ Tn g w w' := by
  have H := hide h
  clear h
  go_enter Tryd.func38, Tryd.ntmps38
  go_wp2_with fail
  go_loopw [4] (fun _ wr => ∃ j : Nat, j ≤ s.size ∧ Hid (Rdr wr g s j ∧ overF isBlank s i = overF isBlank s j ∧ Tn g w wr)) (fun _ wr => s.size - posAt wr g)
  case atStart => exact ⟨i, hi2, H.out, rfl, Tn.refl _ _⟩
  case round =>
    obtain ⟨j, hj, I⟩ := hrel
    have h1 := I.out.1.src
    have h2 := I.out.1.pos
    have h3 := I.out.1.frz 1
    by_cases hjs : j < s.size
    · have hof : overF isBlank s j = if isBlank (byte s j) = true then overF isBlank s (j + 1) else j := by rw [overF, if_pos hjs]
      by_cases hp : isBlank (byte s j) = true
      · have hp2 : isBlank ((s[j]'hjs).toNat : Int) = true := by rw [← byte_eq]; exact hp
        rw [if_pos hp] at hof
        have Hof := hide hof
        have HS := hide (fun n z hz => (I.out.1.drewN n).set (j + 1) z hz)
        clear hp hof
        go_wp2_with fail
        go_quiet (first | (go_at_call 27; exact Calls.quiet_of (more_yes (I.out.1.drewN _) hjs)) | (go_at_call 39; exact Calls.quiet_of_same ((blank_any _ _).mono fun _ _ h => ⟨h.1, h.2.symm⟩)))
        go_wp2_with fail
        go_roundw
        case rel => exact ⟨j + 1, by omega, (HS.out _ _ (by omega)).1, I.out.2.1.trans Hof.out, (I.out.2.2.drewN _).trans (HS.out _ _ (by omega)).2⟩
        case measure =>
          rw [(HS.out _ _ (by omega)).1.posAt, I.out.1.posAt]
          omega
      · have hp2 : isBlank ((s[j]'hjs).toNat : Int) = false := by rw [← byte_eq]; simpa using hp
        rw [if_neg hp] at hof
        have Hof := hide hof
        clear hp hof
        go_wp2_with fail
        go_quiet (first | (go_at_call 27; exact Calls.quiet_of (more_yes (I.out.1.drewN _) hjs)) | (go_at_call 39; exact Calls.quiet_of_same ((blank_any _ _).mono fun _ _ h => ⟨h.1, h.2.symm⟩)))
        go_wp2_with fail
        go_end0
        exact ⟨rfl, by rw [I.out.2.1, Hof.out]; exact I.out.1.drewN _, I.out.2.2.drewN _⟩
    · have Hof : Hid (overF isBlank s j = j) := by show _ = _; rw [overF, if_neg hjs]
      go_wp2_with fail
      go_quiet (first | (go_at_call 27; exact Calls.quiet_of (more_no (I.out.1.drewN _) hjs)))
      go_wp2_with fail
      go_end0
      exact ⟨rfl, by rw [I.out.2.1, Hof.out]; exact I.out.1.drewN _, I.out.2.2.drewN _⟩

set_option maxHeartbeats 1000000 in
theorem over_word (g : Nat) (s : ByteArray) (i : Nat) (w : World) (h : Rdr w g s i) (hi : s.size ≤ 9000) (hi2 : i ≤ s.size) :
    Calls Tryd.prog 38 #[.pointer (some ⟨g, 0, none⟩), .func (.func 50) #[] #[]] w fun e w' => e = .returned (.tuple #[]) ∧ Rdr w' g s (overF isWord s i) ∧ Tn g w w' := by
  have H := hide h
  clear h
  go_enter Tryd.func38, Tryd.ntmps38
  go_wp2_with fail
  go_loopw [4] (fun _ wr => ∃ j : Nat, j ≤ s.size ∧ Hid (Rdr wr g s j ∧ overF isWord s i = overF isWord s j ∧ Tn g w wr)) (fun _ wr => s.size - posAt wr g)
  case atStart => exact ⟨i, hi2, H.out, rfl, Tn.refl _ _⟩
  case round =>
    obtain ⟨j, hj, I⟩ := hrel
    have h1 := I.out.1.src
    have h2 := I.out.1.pos
    have h3 := I.out.1.frz 1
    by_cases hjs : j < s.size
    · have hof : overF isWord s j = if isWord (byte s j) = true then overF isWord s (j + 1) else j := by rw [overF, if_pos hjs]
      by_cases hp : isWord (byte s j) = true
      · have hp2 : isWord ((s[j]'hjs).toNat : Int) = true := by rw [← byte_eq]; exact hp
        rw [if_pos hp] at hof
        have Hof := hide hof
        have HS := hide (fun n z hz => (I.out.1.drewN n).set (j + 1) z hz)
        clear hp hof
        go_wp2_with fail
        go_quiet (first | (go_at_call 27; exact Calls.quiet_of (more_yes (I.out.1.drewN _) hjs)) | (go_at_call 50; exact Calls.quiet_of_same ((wordByte_any _ _).mono fun _ _ h => ⟨h.1, h.2.symm⟩)))
        go_wp2_with fail
        go_roundw
        case rel => exact ⟨j + 1, by omega, (HS.out _ _ (by omega)).1, I.out.2.1.trans Hof.out, (I.out.2.2.drewN _).trans (HS.out _ _ (by omega)).2⟩
        case measure =>
          rw [(HS.out _ _ (by omega)).1.posAt, I.out.1.posAt]
          omega
      · have hp2 : isWord ((s[j]'hjs).toNat : Int) = false := by rw [← byte_eq]; simpa using hp
        rw [if_neg hp] at hof
        have Hof := hide hof
        clear hp hof
        go_wp2_with fail
        go_quiet (first | (go_at_call 27; exact Calls.quiet_of (more_yes (I.out.1.drewN _) hjs)) | (go_at_call 50; exact Calls.quiet_of_same ((wordByte_any _ _).mono fun _ _ h => ⟨h.1, h.2.symm⟩)))
        go_wp2_with fail
        go_end0
        exact ⟨rfl, by rw [I.out.2.1, Hof.out]; exact I.out.1.drewN _, I.out.2.2.drewN _⟩
    · have Hof : Hid (overF isWord s j = j) := by show _ = _; rw [overF, if_neg hjs]
      go_wp2_with fail
      go_quiet (first | (go_at_call 27; exact Calls.quiet_of (more_no (I.out.1.drewN _) hjs)))
      go_wp2_with fail
      go_end0
      exact ⟨rfl, by rw [I.out.2.1, Hof.out]; exact I.out.1.drewN _, I.out.2.2.drewN _⟩

set_option maxHeartbeats 1000000 in
theorem over_digit (g : Nat) (s : ByteArray) (i : Nat) (w : World) (h : Rdr w g s i) (hi : s.size ≤ 9000) (hi2 : i ≤ s.size) :
    Calls Tryd.prog 38 #[.pointer (some ⟨g, 0, none⟩), .func (.func 44) #[] #[]] w fun e w' => e = .returned (.tuple #[]) ∧ Rdr w' g s (overF isDigit s i) ∧ Tn g w w' := by
  have H := hide h
  clear h
  go_enter Tryd.func38, Tryd.ntmps38
  go_wp2_with fail
  go_loopw [4] (fun _ wr => ∃ j : Nat, j ≤ s.size ∧ Hid (Rdr wr g s j ∧ overF isDigit s i = overF isDigit s j ∧ Tn g w wr)) (fun _ wr => s.size - posAt wr g)
  case atStart => exact ⟨i, hi2, H.out, rfl, Tn.refl _ _⟩
  case round =>
    obtain ⟨j, hj, I⟩ := hrel
    have h1 := I.out.1.src
    have h2 := I.out.1.pos
    have h3 := I.out.1.frz 1
    by_cases hjs : j < s.size
    · have hof : overF isDigit s j = if isDigit (byte s j) = true then overF isDigit s (j + 1) else j := by rw [overF, if_pos hjs]
      by_cases hp : isDigit (byte s j) = true
      · have hp2 : isDigit ((s[j]'hjs).toNat : Int) = true := by rw [← byte_eq]; exact hp
        rw [if_pos hp] at hof
        have Hof := hide hof
        have HS := hide (fun n z hz => (I.out.1.drewN n).set (j + 1) z hz)
        clear hp hof
        go_wp2_with fail
        go_quiet (first | (go_at_call 27; exact Calls.quiet_of (more_yes (I.out.1.drewN _) hjs)) | (go_at_call 44; exact Calls.quiet_of_same ((digit_any _ _).mono fun _ _ h => ⟨h.1, h.2.symm⟩)))
        go_wp2_with fail
        go_roundw
        case rel => exact ⟨j + 1, by omega, (HS.out _ _ (by omega)).1, I.out.2.1.trans Hof.out, (I.out.2.2.drewN _).trans (HS.out _ _ (by omega)).2⟩
        case measure =>
          rw [(HS.out _ _ (by omega)).1.posAt, I.out.1.posAt]
          omega
      · have hp2 : isDigit ((s[j]'hjs).toNat : Int) = false := by rw [← byte_eq]; simpa using hp
        rw [if_neg hp] at hof
        have Hof := hide hof
        clear hp hof
        go_wp2_with fail
        go_quiet (first | (go_at_call 27; exact Calls.quiet_of (more_yes (I.out.1.drewN _) hjs)) | (go_at_call 44; exact Calls.quiet_of_same ((digit_any _ _).mono fun _ _ h => ⟨h.1, h.2.symm⟩)))
        go_wp2_with fail
        go_end0
        exact ⟨rfl, by rw [I.out.2.1, Hof.out]; exact I.out.1.drewN _, I.out.2.2.drewN _⟩
    · have Hof : Hid (overF isDigit s j = j) := by show _ = _; rw [overF, if_neg hjs]
      go_wp2_with fail
      go_quiet (first | (go_at_call 27; exact Calls.quiet_of (more_no (I.out.1.drewN _) hjs)))
      go_wp2_with fail
      go_end0
      exact ⟨rfl, by rw [I.out.2.1, Hof.out]; exact I.out.1.drewN _, I.out.2.2.drewN _⟩

set_option maxHeartbeats 1000000 in
theorem over_nl (g : Nat) (s : ByteArray) (i : Nat) (w : World) (h : Rdr w g s i) (hi : s.size ≤ 9000) (hi2 : i ≤ s.size) :
    Calls Tryd.prog 38 #[.pointer (some ⟨g, 0, none⟩), .func (.func 41) #[] #[]] w fun e w' => e = .returned (.tuple #[]) ∧ Rdr w' g s (overF notNl s i) ∧ Tn g w w' := by
  have H := hide h
  clear h
  go_enter Tryd.func38, Tryd.ntmps38
  go_wp2_with fail
  go_loopw [4] (fun _ wr => ∃ j : Nat, j ≤ s.size ∧ Hid (Rdr wr g s j ∧ overF notNl s i = overF notNl s j ∧ Tn g w wr)) (fun _ wr => s.size - posAt wr g)
  case atStart => exact ⟨i, hi2, H.out, rfl, Tn.refl _ _⟩
  case round =>
    obtain ⟨j, hj, I⟩ := hrel
    have h1 := I.out.1.src
    have h2 := I.out.1.pos
    have h3 := I.out.1.frz 1
    by_cases hjs : j < s.size
    · have hof : overF notNl s j = if notNl (byte s j) = true then overF notNl s (j + 1) else j := by rw [overF, if_pos hjs]
      by_cases hp : notNl (byte s j) = true
      · have hp2 : notNl ((s[j]'hjs).toNat : Int) = true := by rw [← byte_eq]; exact hp
        rw [if_pos hp] at hof
        have Hof := hide hof
        have HS := hide (fun n z hz => (I.out.1.drewN n).set (j + 1) z hz)
        clear hp hof
        go_wp2_with fail
        go_quiet (first | (go_at_call 27; exact Calls.quiet_of (more_yes (I.out.1.drewN _) hjs)) | (go_at_call 41; exact Calls.quiet_of_same ((notNl_any _ _).mono fun _ _ h => ⟨h.1, h.2.symm⟩)))
        go_wp2_with fail
        go_roundw
        case rel => exact ⟨j + 1, by omega, (HS.out _ _ (by omega)).1, I.out.2.1.trans Hof.out, (I.out.2.2.drewN _).trans (HS.out _ _ (by omega)).2⟩
        case measure =>
          rw [(HS.out _ _ (by omega)).1.posAt, I.out.1.posAt]
          omega
      · have hp2 : notNl ((s[j]'hjs).toNat : Int) = false := by rw [← byte_eq]; simpa using hp
        rw [if_neg hp] at hof
        have Hof := hide hof
        clear hp hof
        go_wp2_with fail
        go_quiet (first | (go_at_call 27; exact Calls.quiet_of (more_yes (I.out.1.drewN _) hjs)) | (go_at_call 41; exact Calls.quiet_of_same ((notNl_any _ _).mono fun _ _ h => ⟨h.1, h.2.symm⟩)))
        go_wp2_with fail
        go_end0
        exact ⟨rfl, by rw [I.out.2.1, Hof.out]; exact I.out.1.drewN _, I.out.2.2.drewN _⟩
    · have Hof : Hid (overF notNl s j = j) := by show _ = _; rw [overF, if_neg hjs]
      go_wp2_with fail
      go_quiet (first | (go_at_call 27; exact Calls.quiet_of (more_no (I.out.1.drewN _) hjs)))
      go_wp2_with fail
      go_end0
      exact ⟨rfl, by rw [I.out.2.1, Hof.out]; exact I.out.1.drewN _, I.out.2.2.drewN _⟩

end Go.Proofs.YtpeebpnoldadjaaDoor.Ck
