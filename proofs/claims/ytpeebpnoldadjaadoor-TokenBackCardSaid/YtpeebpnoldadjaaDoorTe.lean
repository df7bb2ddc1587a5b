/- The contracts of the reader's mark, word and of what must stand apart. -/
import Derived.Test.YtpeebpnoldadjaaDoorTd
import Derived.StillTailTactics
namespace Go.Proofs.YtpeebpnoldadjaaDoor.Ck
open Go.RowKit

/-- the errors that a reader can give up with -/
structure Er (w : World) (p : List Addr) : Prop where
  c0 : w.cell? ⟨0, 0, none⟩ = some (errV p 0)
  c1 : w.cell? ⟨1, 0, none⟩ = some (errV p 1)
  c5 : w.cell? ⟨5, 0, none⟩ = some (errV p 5)
  cs : ∃ te pe, w.cell? ⟨19, 0, none⟩ = some (.iface te pe)
theorem Tn.cell {g : Nat} {w w' : World} (h : Tn g w w') {k i : Nat} {v : Value} (hk : k ≠ g) (hc : w.cell? ⟨k, i, none⟩ = some v) : w'.cell? ⟨k, i, none⟩ = some v := by
  have hlt : k < w.heap.size := World.block_lt_of_cell? w ⟨k, i, none⟩ hc
  simp only [World.cell?, h.blk k hlt hk] at hc ⊢
  exact hc
theorem Er.tn {w w' : World} {p : List Addr} {g : Nat} (h : Er w p) (t : Tn g w w') (hg : 23 ≤ g) : Er w' p := by
  obtain ⟨te, pe, hs⟩ := h.cs
  exact ⟨t.cell (by omega) h.c0, t.cell (by omega) h.c1, t.cell (by omega) h.c5, te, pe, t.cell (by omega) hs⟩
theorem Er.drewN {w : World} {p : List Addr} (h : Er w p) (k : Nat) : Er (w.drewN k) p := ⟨h.c0, h.c1, h.c5, h.cs⟩
theorem Er.bel {w w' : World} {p : List Addr} (h : Er w p) (hb : Below w.heap.size w w') : Er w' p := by
  have ht : Tn w.heap.size w w' := Tn.of_bel hb
  have h1 : ∀ {k i : Nat} {v : Value}, w.cell? ⟨k, i, none⟩ = some v → w'.cell? ⟨k, i, none⟩ = some v := fun hc => ht.cell (Nat.ne_of_lt (World.block_lt_of_cell? w _ hc)) hc
  obtain ⟨te, pe, hs⟩ := h.cs
  exact ⟨h1 h.c0, h1 h.c1, h1 h.c5, te, pe, h1 hs⟩

theorem mixed : Tryd.prog.follows .mixedOrders = true := by kernel_rfl
theorem still_of_quiet {P : Program} {ops : Array Oper} {w : World} {Q : Act → Prop} : ∀ (l : List Oper) (a : Act), wpQuiet P ops (fun w' => w' = w) Q l a → wpStill P ops w Q l a
  | [], _, h => h
  | o :: rest, a, h => by
    unfold wpQuiet at h
    unfold wpStill
    split
    · rename_i hw
      rw [if_pos hw] at h
      obtain ⟨v, hv, hn⟩ := h
      have hv := hv w rfl
      have hn := still_of_quiet rest _ hn
      unfold Oper.quietAt at hv
      unfold Oper.still
      generalize (execOp a.eval o).run P w = r at *
      cases r with
      | ok n w' =>
        cases n <;> simp only [Oper.quietUpon, Oper.stillUpon] at hv ⊢
        case enter f args => exact ⟨hv.1, v, hv.2, hn⟩
        case value u => exact ⟨hv.1, by rw [hv.2]; exact hn⟩
        case skip => exact ⟨hv.1, by rw [← hv.2]; exact hn⟩
      | halt x w' => simp only [Oper.quietUpon] at hv
    · rename_i hw
      rw [if_neg hw] at h
      exact still_of_quiet rest _ h

/-- a region that draws its order, all but the end of which only reads, and whose end is forced -/
theorem wp_quiet_tail {P : Program} {id : Nat} {Q : Exit → Act → World → Prop} {a : Act} {w : World} {l : List Oper} (n : Nat) (hm : P.follows .mixedOrders = true) (hB : Region.lexTailB .any l.toArray n = true)
    (h : wpQuiet P l.toArray (fun w' => w' = w.drew) (fun a' => wpList P l.toArray Q (l.drop n) a' w.drew) (l.take n) a) : (Code.region id l.toArray true).wp P Q a w :=
  wp_region_still_tail n hm hB (still_of_quiet _ _ h)

def stop (ev : Value) (i : Nat) : Ending := .panicked [{ v := badV ev i, recovered := false }]

set_option maxHeartbeats 1000000 in
theorem apart_no (g : Nat) (s : ByteArray) (i : Nat) (w : World) (h : Rdr w g s i) (ht : tight s i = false) :
    Calls Tryd.prog 53 #[.pointer (some ⟨g, 0, none⟩)] w fun e w' => e = .returned (.tuple #[]) ∧ ∃ k, w' = w.drewN k := by
  have h1 := h.src
  have h2 := h.pos
  have H := hide h
  clear h
  unfold tight at ht
  by_cases hi : i < s.size
  · rw [decide_eq_true hi, Bool.true_and, byte_eq s i hi] at ht
    go_enter Tryd.func53, Tryd.ntmps53
    go_wp2_with fail
    go_quiet (first | (go_at_call 27; exact Calls.quiet_of (more_yes (H.out.drewN _) hi)) | (go_at_call 50; exact Calls.quiet_of_same ((wordByte_any _ _).mono fun _ _ h => ⟨h.1, h.2.symm⟩)))
    go_wp2_with fail
    go_end0
    exact ⟨rfl, _, rfl⟩
  · go_enter Tryd.func53, Tryd.ntmps53
    go_wp2_with fail
    go_quiet (first | (go_at_call 27; exact Calls.quiet_of (more_no (H.out.drewN _) hi)))
    go_wp2_with fail
    go_end0
    exact ⟨rfl, _, rfl⟩

set_option maxHeartbeats 1000000 in
theorem apart_yes (g : Nat) (s : ByteArray) (i : Nat) (p : List Addr) (w : World) (h : Rdr w g s i) (he : Er w p) (ht : tight s i = true) :
    Calls Tryd.prog 53 #[.pointer (some ⟨g, 0, none⟩)] w fun e w' => e = stop (errV p 1) i ∧ ∃ k, w' = w.drewN k := by
  have h1 := h.src
  have h2 := h.pos
  have h3 := he.c1
  have H := hide h
  clear h he
  unfold tight at ht
  rw [Bool.and_eq_true] at ht
  have hi : i < s.size := of_decide_eq_true ht.1
  have ht := ht.2
  rw [byte_eq s i hi] at ht
  go_enter Tryd.func53, Tryd.ntmps53
  go_wp2_with fail
  go_quiet (first | (go_at_call 27; exact Calls.quiet_of (more_yes (H.out.drewN _) hi)) | (go_at_call 50; exact Calls.quiet_of_same ((wordByte_any _ _).mono fun _ _ h => ⟨h.1, h.2.symm⟩)))
  go_wp2_with fail
  refine wp_quiet_tail 5 mixed (by kernel_rfl) ?_
  simp only [List.take_succ_cons, List.take_zero, List.drop_succ_cons, List.drop_zero]
  repeat (first | go_big_quiet_skip | (go_big_quiet_want; go_big_quiet_op; go_big_quiet_on))
  refine wpQuiet_nil ?_
  go_wp2_with fail
  refine (refuse_any _ _ i _).mono ?_
  rintro e w1 ⟨rfl, rfl⟩
  exact ⟨rfl, rfl, _, rfl⟩

end Go.Proofs.YtpeebpnoldadjaaDoor.Ck
