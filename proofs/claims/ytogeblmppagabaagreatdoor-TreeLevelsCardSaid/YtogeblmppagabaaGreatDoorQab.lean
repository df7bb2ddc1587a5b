/- Texts of this proof, packed: contracts of the program's functions, and the plain model that they are held against. -/
import Derived.Test.YtogeblmppagabaaGreatDoorQaa
import Derived.Deep.RegionHeld3
import Derived.Lib.AtoiAll
/- The reader in memory; the contracts of its questions and of its going over bytes. -/
namespace Go.Proofs.YtogeblmppagabaaGreatDoor.Ck
open Go.RowKit

theorem hide {p : Prop} (h : p) : Hid p := h
theorem lt_of_blk {w : World} {g : Nat} {o : Obj} (h : w.heap[g]? = some o) : g < w.heap.size := (Array.getElem?_eq_some_iff.1 h).1

/-- nothing but the block g turned -/
structure Tn (g : Nat) (w w' : World) : Prop where
  os : w'.os = w.os
  tape : w'.tape = w.tape
  output : w'.output = w.output
  size : w.heap.size ≤ w'.heap.size
  blk : ∀ k, k < w.heap.size → k ≠ g → w'.heap[k]? = w.heap[k]?
theorem Tn.refl (g : Nat) (w : World) : Tn g w w := ⟨rfl, rfl, rfl, Nat.le_refl _, fun _ _ _ => rfl⟩
theorem Tn.trans {g : Nat} {a b c : World} (h : Tn g a b) (k : Tn g b c) : Tn g a c :=
  ⟨k.os.trans h.os, k.tape.trans h.tape, k.output.trans h.output, Nat.le_trans h.size k.size, fun x hx hs => (k.blk x (Nat.lt_of_lt_of_le hx h.size) hs).trans (h.blk x hx hs)⟩
theorem Tn.of_bel {g : Nat} {w w' : World} (h : Below w.heap.size w w') : Tn g w w' := ⟨h.os, h.tape, h.output, h.size, fun k hk _ => h.block k hk⟩
theorem Tn.bel {g : Nat} {w w' : World} (h : Tn g w w') {B : Nat} (hB : B ≤ g) (hw : B ≤ w.heap.size) : Below B w w' :=
  ⟨h.os, h.tape, h.output, h.size, fun k hk => h.blk k (by omega) (by omega)⟩

/-- the reader of block g: the text s, at byte i -/
def Rdr (w : World) (g : Nat) (s : ByteArray) (i : Nat) : Prop := w.heap[g]? = some (.cells #[.string s, .int .i64 i] 96 (0, 0))
theorem Rdr.src {w : World} {g : Nat} {s : ByteArray} {i : Nat} (h : Rdr w g s i) : w.cell? ⟨g, 0, none⟩ = some (.string s) := by unfold Rdr at h; simp [World.cell?, h]
theorem Rdr.pos {w : World} {g : Nat} {s : ByteArray} {i : Nat} (h : Rdr w g s i) : w.cell? ⟨g, 1, none⟩ = some (.int .i64 i) := by unfold Rdr at h; simp [World.cell?, h]
theorem Rdr.frz {w : World} {g : Nat} {s : ByteArray} {i : Nat} (h : Rdr w g s i) (k : Nat) : w.frozen? ⟨g, k, none⟩ = false := by unfold Rdr at h; simp [World.frozen?, h]
theorem Rdr.drewN {w : World} {g : Nat} {s : ByteArray} {i : Nat} (h : Rdr w g s i) (k : Nat) : Rdr (w.drewN k) g s i := h
theorem Rdr.below {w w' : World} {g : Nat} {s : ByteArray} {i : Nat} (h : Rdr w g s i) (hb : Below w.heap.size w w') : Rdr w' g s i := (hb.block g (lt_of_blk h)).trans h
theorem Rdr.set {w : World} {g : Nat} {s : ByteArray} {i : Nat} (h : Rdr w g s i) (j : Nat) (z : Int) (hz : z = j) : Rdr (w.setCell ⟨g, 1, none⟩ (.int .i64 z)) g s j ∧ Tn g w (w.setCell ⟨g, 1, none⟩ (.int .i64 z)) := by
  subst hz
  refine ⟨?_, rfl, rfl, rfl, Nat.le_of_eq (by simp [World.setCell]), fun k _ hk => Below.heap_setCell _ _ _ _ hk⟩
  unfold Rdr
  rw [heap_setCell_same _ _ _ _ _ _ h]
  rfl

def byte (s : ByteArray) (i : Nat) : Int := ((s.data.getD i 0).toNat : Int)
/-- how far bytes of a kind go -/
def overF (p : Int → Bool) (s : ByteArray) (i : Nat) : Nat := if i < s.size then if p (byte s i) then overF p s (i + 1) else i else i
termination_by s.size - i
theorem overF_ge (p : Int → Bool) (s : ByteArray) (i : Nat) : i ≤ overF p s i := by
  rw [overF]
  split
  · split
    · exact Nat.le_trans (Nat.le_succ i) (overF_ge p s (i + 1))
    · exact Nat.le_refl _
  · exact Nat.le_refl _
termination_by s.size - i
theorem overF_le (p : Int → Bool) (s : ByteArray) (i : Nat) (h : i ≤ s.size) : overF p s i ≤ s.size := by
  rw [overF]
  split
  · split
    · exact overF_le p s (i + 1) (by omega)
    · exact h
  · exact h
termination_by s.size - i
def posAt (w : World) (g : Nat) : Nat := match w.cell? ⟨g, 1, none⟩ with | some (.int _ z) => z.toNat | _ => 0
theorem Rdr.posAt {w : World} {g : Nat} {s : ByteArray} {i : Nat} (h : Rdr w g s i) : posAt w g = i := by unfold Ck.posAt; rw [h.pos]; rfl

theorem byte_eq (s : ByteArray) (j : Nat) (h : j < s.size) : byte s j = ((s[j]'h).toNat : Int) := by
  have h2 : j < s.data.size := h
  show ((s.data.getD j 0).toNat : Int) = _
  rw [Array.getD_eq_getD_getElem?, Array.getElem?_eq_getElem h2]
  rfl
theorem Tn.drewN {g : Nat} {a b : World} (h : Tn g a b) (k : Nat) : Tn g a (b.drewN k) := h.trans (Tn.of_bel (below_drewN (Below.refl _ _) k))

theorem more_any (g : Nat) (s : ByteArray) (i : Nat) (w : World) (h : Rdr w g s i) :
    Calls Tryz.prog 78 #[.pointer (some ⟨g, 0, none⟩)] w fun e w' => e = .returned (.bool (decide (i < s.size))) ∧ ∃ k, w' = w.drewN k := by
  have h1 := h.src
  have h2 := h.pos
  clear h
  go_enter Tryz.func78, Tryz.ntmps78
  go_wp2_with fail
  go_quiet (fail)
  go_wp2_with fail
  go_ret
  exact ⟨by simp, _, rfl⟩
theorem more_yes {g : Nat} {s : ByteArray} {i : Nat} {w : World} (h : Rdr w g s i) (hi : i < s.size) :
    Calls Tryz.prog 78 #[.pointer (some ⟨g, 0, none⟩)] w fun e w' => e = .returned (.bool true) ∧ ∃ k, w' = w.drewN k := by
  have := more_any g s i w h
  rwa [decide_eq_true hi] at this
theorem more_no {g : Nat} {s : ByteArray} {i : Nat} {w : World} (h : Rdr w g s i) (hi : ¬ i < s.size) :
    Calls Tryz.prog 78 #[.pointer (some ⟨g, 0, none⟩)] w fun e w' => e = .returned (.bool false) ∧ ∃ k, w' = w.drewN k := by
  have := more_any g s i w h
  rwa [decide_eq_false hi] at this

set_option maxHeartbeats 1000000 in
theorem over_blank (g : Nat) (s : ByteArray) (i : Nat) (w : World) (h : Rdr w g s i) (hi : s.size ≤ 9000) (hi2 : i ≤ s.size) :
    Calls Tryz.prog 106 #[.pointer (some ⟨g, 0, none⟩), .func (.func 107) #[] #[]] w fun e w' => e = .returned (.tuple #[]) ∧ Rdr w' g s (overF isBlank s i) ∧ Tn g w w' := by
  have H := hide h
  clear h
  go_enter Tryz.func106, Tryz.ntmps106
  go_wp2_with fail
  go_loopw [4] (fun _ wr => ∃ j : Nat, j ≤ s.size ∧ Hid (Rdr wr g s j ∧ overF isBlank s i = overF isBlank s j ∧ Tn g w wr)) (fun _ wr => s.size - posAt wr g)
  case atStart => exact ⟨i, hi2, H.out, rfl, Tn.refl _ _⟩
  case round =>
    obtain ⟨j, hj, I⟩ := hrel
    have h1 := I.out.1.src
    have h2 := I.out.1.pos
    have h3 := I.out.1.frz 1
    by_cases hjs : j < s.size
    · have hof : overF isBlank s j = if isBlank (byte s j) = true then overF isBlank s (j + 1) else j := by rw [overF, if_pos hjs]
      by_cases hp : isBlank (byte s j) = true
      · have hp2 : isBlank ((s[j]'hjs).toNat : Int) = true := by rw [← byte_eq]; exact hp
        rw [if_pos hp] at hof
        have Hof := hide hof
        have HS := hide (fun n z hz => (I.out.1.drewN n).set (j + 1) z hz)
        clear hp hof
        go_wp2_with fail
        go_quiet (first | (go_at_call 78; exact Calls.quiet_of (more_yes (I.out.1.drewN _) hjs)) | (go_at_call 107; exact Calls.quiet_of_same ((blank_any _ _).mono fun _ _ h => ⟨h.1, h.2.symm⟩)))
        go_wp2_with fail
        go_roundw
        case rel => exact ⟨j + 1, by omega, (HS.out _ _ (by omega)).1, I.out.2.1.trans Hof.out, (I.out.2.2.drewN _).trans (HS.out _ _ (by omega)).2⟩
        case measure =>
          rw [(HS.out _ _ (by omega)).1.posAt, I.out.1.posAt]
          omega
      · have hp2 : isBlank ((s[j]'hjs).toNat : Int) = false := by rw [← byte_eq]; simpa using hp
        rw [if_neg hp] at hof
        have Hof := hide hof
        clear hp hof
        go_wp2_with fail
        go_quiet (first | (go_at_call 78; exact Calls.quiet_of (more_yes (I.out.1.drewN _) hjs)) | (go_at_call 107; exact Calls.quiet_of_same ((blank_any _ _).mono fun _ _ h => ⟨h.1, h.2.symm⟩)))
        go_wp2_with fail
        go_end0
        exact ⟨rfl, by rw [I.out.2.1, Hof.out]; exact I.out.1.drewN _, I.out.2.2.drewN _⟩
    · have Hof : Hid (overF isBlank s j = j) := by show _ = _; rw [overF, if_neg hjs]
      go_wp2_with fail
      go_quiet (first | (go_at_call 78; exact Calls.quiet_of (more_no (I.out.1.drewN _) hjs)))
      go_wp2_with fail
      go_end0
      exact ⟨rfl, by rw [I.out.2.1, Hof.out]; exact I.out.1.drewN _, I.out.2.2.drewN _⟩

set_option maxHeartbeats 1000000 in
theorem over_word (g : Nat) (s : ByteArray) (i : Nat) (w : World) (h : Rdr w g s i) (hi : s.size ≤ 9000) (hi2 : i ≤ s.size) :
    Calls Tryz.prog 106 #[.pointer (some ⟨g, 0, none⟩), .func (.func 140) #[] #[]] w fun e w' => e = .returned (.tuple #[]) ∧ Rdr w' g s (overF isWord s i) ∧ Tn g w w' := by
  have H := hide h
  clear h
  go_enter Tryz.func106, Tryz.ntmps106
  go_wp2_with fail
  go_loopw [4] (fun _ wr => ∃ j : Nat, j ≤ s.size ∧ Hid (Rdr wr g s j ∧ overF isWord s i = overF isWord s j ∧ Tn g w wr)) (fun _ wr => s.size - posAt wr g)
  case atStart => exact ⟨i, hi2, H.out, rfl, Tn.refl _ _⟩
  case round =>
    obtain ⟨j, hj, I⟩ := hrel
    have h1 := I.out.1.src
    have h2 := I.out.1.pos
    have h3 := I.out.1.frz 1
    by_cases hjs : j < s.size
    · have hof : overF isWord s j = if isWord (byte s j) = true then overF isWord s (j + 1) else j := by rw [overF, if_pos hjs]
      by_cases hp : isWord (byte s j) = true
      · have hp2 : isWord ((s[j]'hjs).toNat : Int) = true := by rw [← byte_eq]; exact hp
        rw [if_pos hp] at hof
        have Hof := hide hof
        have HS := hide (fun n z hz => (I.out.1.drewN n).set (j + 1) z hz)
        clear hp hof
        go_wp2_with fail
        go_quiet (first | (go_at_call 78; exact Calls.quiet_of (more_yes (I.out.1.drewN _) hjs)) | (go_at_call 140; exact Calls.quiet_of_same ((wordByte_any _ _).mono fun _ _ h => ⟨h.1, h.2.symm⟩)))
        go_wp2_with fail
        go_roundw
        case rel => exact ⟨j + 1, by omega, (HS.out _ _ (by omega)).1, I.out.2.1.trans Hof.out, (I.out.2.2.drewN _).trans (HS.out _ _ (by omega)).2⟩
        case measure =>
          rw [(HS.out _ _ (by omega)).1.posAt, I.out.1.posAt]
          omega
      · have hp2 : isWord ((s[j]'hjs).toNat : Int) = false := by rw [← byte_eq]; simpa using hp
        rw [if_neg hp] at hof
        have Hof := hide hof
        clear hp hof
        go_wp2_with fail
        go_quiet (first | (go_at_call 78; exact Calls.quiet_of (more_yes (I.out.1.drewN _) hjs)) | (go_at_call 140; exact Calls.quiet_of_same ((wordByte_any _ _).mono fun _ _ h => ⟨h.1, h.2.symm⟩)))
        go_wp2_with fail
        go_end0
        exact ⟨rfl, by rw [I.out.2.1, Hof.out]; exact I.out.1.drewN _, I.out.2.2.drewN _⟩
    · have Hof : Hid (overF isWord s j = j) := by show _ = _; rw [overF, if_neg hjs]
      go_wp2_with fail
      go_quiet (first | (go_at_call 78; exact Calls.quiet_of (more_no (I.out.1.drewN _) hjs)))
      go_wp2_with fail
      go_end0
      exact ⟨rfl, by rw [I.out.2.1, Hof.out]; exact I.out.1.drewN _, I.out.2.2.drewN _⟩

set_option maxHeartbeats 1000000 in
theorem over_digit (g : Nat) (s : ByteArray) (i : Nat) (w : World) (h : Rdr w g s i) (hi : s.size ≤ 9000) (hi2 : i ≤ s.size) :
    Calls Tryz.prog 106 #[.pointer (some ⟨g, 0, none⟩), .func (.func 112) #[] #[]] w fun e w' => e = .returned (.tuple #[]) ∧ Rdr w' g s (overF isDigit s i) ∧ Tn g w w' := by
  have H := hide h
  clear h
  go_enter Tryz.func106, Tryz.ntmps106
  go_wp2_with fail
  go_loopw [4] (fun _ wr => ∃ j : Nat, j ≤ s.size ∧ Hid (Rdr wr g s j ∧ overF isDigit s i = overF isDigit s j ∧ Tn g w wr)) (fun _ wr => s.size - posAt wr g)
  case atStart => exact ⟨i, hi2, H.out, rfl, Tn.refl _ _⟩
  case round =>
    obtain ⟨j, hj, I⟩ := hrel
    have h1 := I.out.1.src
    have h2 := I.out.1.pos
    have h3 := I.out.1.frz 1
    by_cases hjs : j < s.size
    · have hof : overF isDigit s j = if isDigit (byte s j) = true then overF isDigit s (j + 1) else j := by rw [overF, if_pos hjs]
      by_cases hp : isDigit (byte s j) = true
      · have hp2 : isDigit ((s[j]'hjs).toNat : Int) = true := by rw [← byte_eq]; exact hp
        rw [if_pos hp] at hof
        have Hof := hide hof
        have HS := hide (fun n z hz => (I.out.1.drewN n).set (j + 1) z hz)
        clear hp hof
        go_wp2_with fail
        go_quiet (first | (go_at_call 78; exact Calls.quiet_of (more_yes (I.out.1.drewN _) hjs)) | (go_at_call 112; exact Calls.quiet_of_same ((digit_any _ _).mono fun _ _ h => ⟨h.1, h.2.symm⟩)))
        go_wp2_with fail
        go_roundw
        case rel => exact ⟨j + 1, by omega, (HS.out _ _ (by omega)).1, I.out.2.1.trans Hof.out, (I.out.2.2.drewN _).trans (HS.out _ _ (by omega)).2⟩
        case measure =>
          rw [(HS.out _ _ (by omega)).1.posAt, I.out.1.posAt]
          omega
      · have hp2 : isDigit ((s[j]'hjs).toNat : Int) = false := by rw [← byte_eq]; simpa using hp
        rw [if_neg hp] at hof
        have Hof := hide hof
        clear hp hof
        go_wp2_with fail
        go_quiet (first | (go_at_call 78; exact Calls.quiet_of (more_yes (I.out.1.drewN _) hjs)) | (go_at_call 112; exact Calls.quiet_of_same ((digit_any _ _).mono fun _ _ h => ⟨h.1, h.2.symm⟩)))
        go_wp2_with fail
        go_end0
        exact ⟨rfl, by rw [I.out.2.1, Hof.out]; exact I.out.1.drewN _, I.out.2.2.drewN _⟩
    · have Hof : Hid (overF isDigit s j = j) := by show _ = _; rw [overF, if_neg hjs]
      go_wp2_with fail
      go_quiet (first | (go_at_call 78; exact Calls.quiet_of (more_no (I.out.1.drewN _) hjs)))
      go_wp2_with fail
      go_end0
      exact ⟨rfl, by rw [I.out.2.1, Hof.out]; exact I.out.1.drewN _, I.out.2.2.drewN _⟩

set_option maxHeartbeats 1000000 in
theorem over_nl (g : Nat) (s : ByteArray) (i : Nat) (w : World) (h : Rdr w g s i) (hi : s.size ≤ 9000) (hi2 : i ≤ s.size) :
    Calls Tryz.prog 106 #[.pointer (some ⟨g, 0, none⟩), .func (.func 109) #[] #[]] w fun e w' => e = .returned (.tuple #[]) ∧ Rdr w' g s (overF notNl s i) ∧ Tn g w w' := by
  have H := hide h
  clear h
  go_enter Tryz.func106, Tryz.ntmps106
  go_wp2_with fail
  go_loopw [4] (fun _ wr => ∃ j : Nat, j ≤ s.size ∧ Hid (Rdr wr g s j ∧ overF notNl s i = overF notNl s j ∧ Tn g w wr)) (fun _ wr => s.size - posAt wr g)
  case atStart => exact ⟨i, hi2, H.out, rfl, Tn.refl _ _⟩
  case round =>
    obtain ⟨j, hj, I⟩ := hrel
    have h1 := I.out.1.src
    have h2 := I.out.1.pos
    have h3 := I.out.1.frz 1
    by_cases hjs : j < s.size
    · have hof : overF notNl s j = if notNl (byte s j) = true then overF notNl s (j + 1) else j := by rw [overF, if_pos hjs]
      by_cases hp : notNl (byte s j) = true
      · have hp2 : notNl ((s[j]'hjs).toNat : Int) = true := by rw [← byte_eq]; exact hp
        rw [if_pos hp] at hof
        have Hof := hide hof
        have HS := hide (fun n z hz => (I.out.1.drewN n).set (j + 1) z hz)
        clear hp hof
        go_wp2_with fail
        go_quiet (first | (go_at_call 78; exact Calls.quiet_of (more_yes (I.out.1.drewN _) hjs)) | (go_at_call 109; exact Calls.quiet_of_same ((notNl_any _ _).mono fun _ _ h => ⟨h.1, h.2.symm⟩)))
        go_wp2_with fail
        go_roundw
        case rel => exact ⟨j + 1, by omega, (HS.out _ _ (by omega)).1, I.out.2.1.trans Hof.out, (I.out.2.2.drewN _).trans (HS.out _ _ (by omega)).2⟩
        case measure =>
          rw [(HS.out _ _ (by omega)).1.posAt, I.out.1.posAt]
          omega
      · have hp2 : notNl ((s[j]'hjs).toNat : Int) = false := by rw [← byte_eq]; simpa using hp
        rw [if_neg hp] at hof
        have Hof := hide hof
        clear hp hof
        go_wp2_with fail
        go_quiet (first | (go_at_call 78; exact Calls.quiet_of (more_yes (I.out.1.drewN _) hjs)) | (go_at_call 109; exact Calls.quiet_of_same ((notNl_any _ _).mono fun _ _ h => ⟨h.1, h.2.symm⟩)))
        go_wp2_with fail
        go_end0
        exact ⟨rfl, by rw [I.out.2.1, Hof.out]; exact I.out.1.drewN _, I.out.2.2.drewN _⟩
    · have Hof : Hid (overF notNl s j = j) := by show _ = _; rw [overF, if_neg hjs]
      go_wp2_with fail
      go_quiet (first | (go_at_call 78; exact Calls.quiet_of (more_no (I.out.1.drewN _) hjs)))
      go_wp2_with fail
      go_end0
      exact ⟨rfl, by rw [I.out.2.1, Hof.out]; exact I.out.1.drewN _, I.out.2.2.drewN _⟩

end Go.Proofs.YtogeblmppagabaaGreatDoor.Ck

/- The contract of the reader's giving up. -/
namespace Go.Proofs.YtogeblmppagabaaGreatDoor.Ck
open Go.RowKit

def badV (ev : Value) (i : Nat) : Value := .iface 31 (.agg #[ev, .int .i64 i])

theorem refuse_any (te : TypeId) (pe : Value) (i : Nat) (w : World) :
    Calls Tryz.prog 79 #[.iface te pe, .int .i64 i] w fun e w' => e = .panicked [{ v := badV (.iface te pe) i, recovered := false }] ∧ w = w' := by
  go_enter Tryz.func79, Tryz.ntmps79
  go_wp2_with fail
  exact ⟨rfl, rfl, rfl⟩

end Go.Proofs.YtogeblmppagabaaGreatDoor.Ck

/- What a text's tokens are: no Go text is walked here. -/
namespace Go.Proofs.YtogeblmppagabaaGreatDoor.Ck
open Go.RowKit

theorem overF_pos (p : Int → Bool) (s : ByteArray) (i : Nat) (hi : i < s.size) (hp : p (byte s i) = true) : overF p s i = overF p s (i + 1) := by
  rw [overF, if_pos hi, if_pos hp]
theorem overF_stop (p : Int → Bool) (s : ByteArray) (i : Nat) (hp : p (byte s i) = false) : overF p s i = i := by
  rw [overF]
  split
  · rw [if_neg (by simp [hp])]
  · rfl
theorem overF_end (p : Int → Bool) (s : ByteArray) (i : Nat) (hi : ¬ i < s.size) : overF p s i = i := by rw [overF, if_neg hi]
theorem overF_lt (p : Int → Bool) (s : ByteArray) (i : Nat) (hi : i < s.size) (hp : p (byte s i) = true) : i < overF p s i := by
  rw [overF_pos p s i hi hp]
  exact overF_ge p s (i + 1)

/-- a remark begins at byte j -/
def comm (s : ByteArray) (j : Nat) : Bool := decide (j + 1 < s.size) && (byte s j == 47 && byte s (j + 1) == 47)
/-- behind a remark and the blanks behind it -/
def pastC (s : ByteArray) (j : Nat) : Nat := overF isBlank s (overF notNl s j)
theorem comm_lt {s : ByteArray} {j : Nat} (h : comm s j = true) : j + 1 < s.size := by
  unfold comm at h
  simp only [Bool.and_eq_true, decide_eq_true_eq] at h
  exact h.1
theorem pastC_gt {s : ByteArray} {j : Nat} (h : comm s j = true) : j < pastC s j := by
  have h1 := comm_lt h
  unfold comm at h
  simp only [Bool.and_eq_true, beq_iff_eq] at h
  have : j < overF notNl s j := overF_lt _ _ _ (by omega) (by rw [h.2.1]; decide)
  exact Nat.lt_of_lt_of_le this (overF_ge _ _ _)
theorem pastC_le {s : ByteArray} {j : Nat} (h : j ≤ s.size) : pastC s j ≤ s.size := overF_le _ _ _ (overF_le _ _ _ h)
def skipC (s : ByteArray) (j : Nat) : Nat := if _h : comm s j = true then skipC s (pastC s j) else j
termination_by s.size - j
decreasing_by
  have := pastC_gt _h
  have := comm_lt _h
  omega
theorem skipC_yes {s : ByteArray} {j : Nat} (h : comm s j = true) : skipC s j = skipC s (pastC s j) := by rw [skipC, dif_pos h]
theorem skipC_no {s : ByteArray} {j : Nat} (h : comm s j = false) : skipC s j = j := by rw [skipC, dif_neg (by simp [h])]
theorem skipC_ge (s : ByteArray) (j : Nat) : j ≤ skipC s j := by
  by_cases h : comm s j = true
  · rw [skipC_yes h]
    have h1 := pastC_gt h
    have h2 := comm_lt h
    exact Nat.le_trans (Nat.le_of_lt h1) (skipC_ge s (pastC s j))
  · rw [skipC_no (by simpa using h)]
    exact Nat.le_refl _
termination_by s.size - j
theorem skipC_le (s : ByteArray) (j : Nat) (hj : j ≤ s.size) : skipC s j ≤ s.size := by
  by_cases h : comm s j = true
  · rw [skipC_yes h]
    have h1 := pastC_gt h
    have h2 := comm_lt h
    exact skipC_le s (pastC s j) (pastC_le hj)
  · rw [skipC_no (by simpa using h)]
    exact hj
termination_by s.size - j
/-- how far blanks go -/
def blF (s : ByteArray) (i : Nat) : Nat := skipC s (overF isBlank s i)
theorem blF_ge (s : ByteArray) (i : Nat) : i ≤ blF s i := Nat.le_trans (overF_ge _ _ _) (skipC_ge _ _)
theorem blF_le (s : ByteArray) (i : Nat) (h : i ≤ s.size) : blF s i ≤ s.size := skipC_le _ _ (overF_le _ _ _ h)

structure Tk where
  kind : Nat
  text : ByteArray
  n : Int
  bits : Nat
  pos : Nat
def Tk.cells (t : Tk) : List Value := [.int .i64 t.kind, .string t.text, .int .i64 t.n, .int .u64 t.bits, .int .i64 t.pos]
def Tk.val (t : Tk) : Value := .agg #[.int .i64 t.kind, .string t.text, .int .i64 t.n, .int .u64 t.bits, .int .i64 t.pos]

def keyTab : List (List UInt8) := [[97, 100, 100], [97, 116, 111, 109, 105, 99], [98, 111, 111, 108], [99, 104, 97, 110], [101, 108, 115, 101], [102, 97, 105, 108], [102, 97, 108, 115, 101], [102, 108, 111, 97, 116], [102, 117, 110, 99], [103, 101, 116], [103, 111], [105, 102], [105, 110, 116], [108, 111, 99, 107], [109, 117, 116, 101, 120], [112, 117, 116], [114, 101, 99, 118], [114, 101, 116, 117, 114, 110], [115, 101, 110, 100], [116, 114, 117, 101], [117, 110, 108, 111, 99, 107], [118, 97, 114], [119, 104, 105, 108, 101]]
def isKey (t : ByteArray) : Bool := keyTab.any (fun k => t.toList == k)

def two (a b : Int) : Bool := (a == 58 && b == 61) || (a == 61 && b == 61) || (a == 33 && b == 61) || (a == 60 && b == 61) || (a == 62 && b == 61) || (a == 38 && b == 38) || (a == 124 && b == 124)
def oneTab : List Int := [43, 45, 42, 47, 37, 60, 62, 61, 33, 40, 41, 123, 125, 91, 93, 44, 59]
/-- how long the mark at byte i is -/
def markF (s : ByteArray) (i : Nat) : Nat :=
  if i + 1 < s.size ∧ two (byte s i) (byte s (i + 1)) = true then 2
  else if i < s.size ∧ byte s i ∈ oneTab then 1 else 0
theorem markF_le (s : ByteArray) (i : Nat) (h : i ≤ s.size) : i + markF s i ≤ s.size := by
  unfold markF
  split
  · omega
  · split <;> omega
theorem markF_le2 (s : ByteArray) (i : Nat) : markF s i ≤ 2 := by
  unfold markF
  split
  · omega
  · split <;> omega

/-- digits of a float from byte j on, of one that begins at byte i -/
def overH (s : ByteArray) (i j : Nat) : Nat := if j < s.size then if isHex (byte s j) && decide (j - i ≤ 16) then overH s i (j + 1) else j else j
termination_by s.size - j
theorem overH_ge (s : ByteArray) (i j : Nat) : j ≤ overH s i j := by
  rw [overH]
  split
  · split
    · exact Nat.le_trans (Nat.le_succ j) (overH_ge s i (j + 1))
    · exact Nat.le_refl _
  · exact Nat.le_refl _
termination_by s.size - j
theorem overH_le (s : ByteArray) (i j : Nat) (h : j ≤ s.size) : overH s i j ≤ s.size := by
  rw [overH]
  split
  · split
    · exact overH_le s i (j + 1) (by omega)
    · exact h
  · exact h
termination_by s.size - j
def hexV (c : Nat) : Nat := if c ≤ 57 then c - 48 else c - 87
def hexF (l : List UInt8) : Nat := l.foldl (fun a c => 16 * a + hexV c.toNat) 0

def cut (s : ByteArray) (i j : Nat) : ByteArray := s.extract i j

/-- a token, and where it ends; or the error's number and place -/
inductive Got where
  | ok (t : Tk) (e : Nat)
  | bad (k : Nat) (i : Nat)
def wordF (s : ByteArray) (i : Nat) : Got :=
  if 24 < overF isWord s i - i then .bad 5 i
  else .ok ⟨if isKey (cut s i (overF isWord s i)) = true then 2 else 1, cut s i (overF isWord s i), 0, 0, i⟩ (overF isWord s i)
def endI (s : ByteArray) (i : Nat) : Nat := if byte s i = 48 then i + 1 else overF isDigit s i
def tight (s : ByteArray) (e : Nat) : Bool := decide (e < s.size) && isWord (byte s e)
def intF (s : ByteArray) (i : Nat) : Got :=
  match Lib.atoiAll (cut s i (endI s i)).data.toList with
  | .ok v => if tight s (endI s i) = true then .bad 1 (endI s i) else .ok ⟨3, cut s i (endI s i), v, 0, i⟩ (endI s i)
  | _ => .bad 0 i
def floatF (s : ByteArray) (i : Nat) : Got :=
  if overH s i (i + 1) - i = 17 then
    if tight s (overH s i (i + 1)) = true then .bad 1 (overH s i (i + 1))
    else .ok ⟨4, cut s i (overH s i (i + 1)), 0, hexF (cut s (i + 1) (overH s i (i + 1))).data.toList, i⟩ (overH s i (i + 1))
  else .bad 1 i
def signF (s : ByteArray) (i : Nat) : Got := if markF s i = 0 then .bad 1 i else .ok ⟨5, cut s i (i + markF s i), 0, 0, i⟩ (i + markF s i)
def tokF (s : ByteArray) (i : Nat) : Got :=
  if isLetter (byte s i) = true then wordF s i
  else if isDigit (byte s i) = true then intF s i
  else if byte s i = 35 then floatF s i
  else signF s i

theorem endI_gt (s : ByteArray) (i : Nat) (h : i < s.size) (hd : isDigit (byte s i) = true) : i < endI s i ∧ endI s i ≤ s.size := by
  unfold endI
  split
  · omega
  · exact ⟨overF_lt _ _ _ h hd, overF_le _ _ _ (by omega)⟩
theorem tokF_ok {s : ByteArray} {i : Nat} (h : i < s.size) {t : Tk} {e : Nat} (ht : tokF s i = .ok t e) : i < e ∧ e ≤ s.size := by
  unfold tokF at ht
  split at ht
  · rename_i hl
    unfold wordF at ht
    split at ht
    · cases ht
    · cases ht
      exact ⟨overF_lt _ _ _ h (by unfold isWord; rw [hl]; rfl), overF_le _ _ _ (by omega)⟩
  · split at ht
    · rename_i hd
      unfold intF at ht
      split at ht
      · split at ht
        · cases ht
        · cases ht
          exact endI_gt s i h hd
      · cases ht
    · split at ht
      · unfold floatF at ht
        split at ht
        · split at ht
          · cases ht
          · cases ht
            have := overH_le s i (i + 1) (by omega)
            omega
        · cases ht
      · unfold signF at ht
        split at ht
        · cases ht
        · cases ht
          have := markF_le s i (by omega)
          omega

/-- how a reading ends -/
inductive Ended where
  | ok (l : List Tk)
  | bad (k : Nat) (i : Nat)
def rdF (s : ByteArray) (i : Nat) (acc : List Tk) : Ended :=
  if _h : i < s.size then
    if acc.length = 2000 then .bad 5 i
    else match _ht : tokF s i with
      | .bad k j => .bad k j
      | .ok t e => rdF s (blF s e) (acc ++ [t])
  else .ok acc
termination_by s.size - i
decreasing_by
  have h1 := tokF_ok _h _ht
  have h2 := blF_ge s e
  omega
def readF (s : ByteArray) : Ended := rdF s (blF s 0) []
theorem rdF_end {s : ByteArray} {i : Nat} {acc : List Tk} (h : ¬ i < s.size) : rdF s i acc = .ok acc := by rw [rdF, dif_neg h]
theorem rdF_full {s : ByteArray} {i : Nat} {acc : List Tk} (h : i < s.size) (hl : acc.length = 2000) : rdF s i acc = .bad 5 i := by rw [rdF, dif_pos h, if_pos hl]
theorem rdF_bad {s : ByteArray} {i : Nat} {acc : List Tk} (h : i < s.size) (hl : ¬ acc.length = 2000) {k j : Nat} (ht : tokF s i = .bad k j) : rdF s i acc = .bad k j := by
  rw [rdF, dif_pos h, if_neg hl]
  split
  · rename_i h2
    rw [ht] at h2
    cases h2
    rfl
  · rename_i h2
    rw [ht] at h2
    cases h2
theorem rdF_step {s : ByteArray} {i : Nat} {acc : List Tk} (h : i < s.size) (hl : ¬ acc.length = 2000) {t : Tk} {e : Nat} (ht : tokF s i = .ok t e) : rdF s i acc = rdF s (blF s e) (acc ++ [t]) := by
  rw [rdF, dif_pos h, if_neg hl]
  split
  · rename_i h2
    rw [ht] at h2
    cases h2
  · rename_i h2
    rw [ht] at h2
    cases h2
    rfl

end Go.Proofs.YtogeblmppagabaaGreatDoor.Ck
