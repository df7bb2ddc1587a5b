/- A state and the document's, side by side: what the calls of both leave; no Go text is walked here. -/
import Derived.Test.YtghfjnnmpmfboaaDoorMb
import Derived.Test.YtghfjnnmpmfboaaDoorZj
namespace Go.Proofs.YtghfjnnmpmfboaaDoor.Ck
open Go.RowKit

/-- an error by its number; 0: none -/
def erO (p : List Addr) : Nat → Value
  | 0 => .nilIface
  | n + 1 => errV p n
theorem num_o (p : List Addr) (n : Nat) (w : World) (he : Errs17 w p) (hn : n ≤ 17) : Calls Tryd.prog 10 #[erO p n] w (Vb w (.int .i64 (n : Nat))) := by
  cases n with
  | zero => exact (num_nil w).mono fun e w' ⟨h1, h2⟩ => ⟨h1, h2 ▸ Below.refl _ _⟩
  | succ n => exact num_err p n w he (by omega)
theorem erO_ne (p : List Addr) (n : Nat) (h : n ≠ 0) : ∃ a, erO p n = .iface 221 (.pointer (some a)) := by
  cases n with
  | zero => exact absurd rfl h
  | succ n => exact ⟨_, rfl⟩

/-- what a call is: its answer and the state behind it -/
def wrM (s : St) (i : Int) (v : V3) : Nat × St := match lk s.P i with
  | none => (1, s)
  | some x => if isB v.1 v.2.1 v.2.2 x.1 = true then (0, { s with P := s.P.set i.toNat v }) else (5, s)
def tnM (s : St) (i : Int) (y : Bool) : (Bool × Nat) × St := match lk s.M i with
  | none => ((false, 1), s)
  | some x => ((x != y, 0), { s with M := s.M.set i.toNat y })
def sdM (s : St) (i : Int) (v : V3) : (Bool × Nat) × St := match lk s.C i with
  | none => ((false, 1), s)
  | some q => if isB v.1 v.2.1 v.2.2 q.t = true then (if (q.l.length : Int) < q.room then ((true, 0), { s with C := s.C.set i.toNat { q with l := q.l ++ [v] } }) else ((false, 0), s)) else ((false, 5), s)
def rcM (s : St) (i : Int) : (V3 × Bool × Nat) × St := match lk s.C i with
  | none => (((0, 0, 0), false, 1), s)
  | some q => match q.l with
    | [] => (((0, 0, 0), false, 0), s)
    | v :: l => ((v, true, 0), { s with C := s.C.set i.toNat { q with l := l } })
def gtM (s : St) (i : Int) : Int × Nat := match lk s.A i with
  | none => (0, 1)
  | some x => (x, 0)
def ptM (s : St) (i y : Int) : Nat × St := match lk s.A i with
  | none => (1, s)
  | some _ => (0, { s with A := s.A.set i.toNat y })
def adM (s : St) (i y : Int) : Nat × St := match lk s.A i with
  | none => (1, s)
  | some x => (0, { s with A := s.A.set i.toNat (wrap64 (x + y)) })
def rdM (s : St) (i : Int) : V3 × Nat := match lk s.P i with
  | none => ((0, 0, 0), 1)
  | some x => (x, 0)

section
variable {w : World} {F R : Nat → Prop} {B g : Nat} {s : St} {p : List Addr}
theorem Vb.sp {v : Value} {e : Ending} {w' : World} (h : Stt w F g s) (hb : Vb w v e w') : Sp w F g s v e w' := ⟨hb.1, F, h.bel hb.2, Ch.of_bel hb.2⟩
theorem sWrite (h : Stt w F g s) (h17 : E2 w p) (i : Int) (v : V3) : Calls Tryd.prog 47 #[.pointer (some ⟨g, 0, none⟩), .int .i64 i, .agg #[.int .i64 v.1, .int .i64 v.2.1, .int .u64 v.2.2]] w (Sp w F g (wrM s i v).2 (erO p (wrM s i v).1)) := by
  unfold wrM
  cases hl : lk s.P i with
  | none => exact (Write_out h h17 i _ _ _ (lk_none hl)).mono fun e w' hb => Vb.sp h hb
  | some x =>
    obtain ⟨k, rfl, hk⟩ := lk_some hl
    simp only
    split
    · rename_i hB
      exact Write_in h h17 k x hk _ _ _ hB
    · rename_i hB
      exact (Write_bad h h17 k x hk _ _ _ (by simpa using hB)).mono fun e w' hb => Vb.sp h hb
theorem sLock (h : Stt w F g s) (h17 : E2 w p) (i : Int) : Calls Tryd.prog 50 #[.pointer (some ⟨g, 0, none⟩), .int .i64 i] w (Sp w F g (tnM s i true).2 (.tuple #[.bool (tnM s i true).1.1, erO p (tnM s i true).1.2])) := by
  unfold tnM
  cases hl : lk s.M i with
  | none => exact (Lock_out h h17 i (lk_none hl)).mono fun e w' hb => Vb.sp h hb
  | some x =>
    obtain ⟨k, rfl, hk⟩ := lk_some hl
    have := Lock_in h k x hk
    simpa [erO] using this
theorem sUnlock (h : Stt w F g s) (h17 : E2 w p) (i : Int) : Calls Tryd.prog 51 #[.pointer (some ⟨g, 0, none⟩), .int .i64 i] w (Sp w F g (tnM s i false).2 (.tuple #[.bool (tnM s i false).1.1, erO p (tnM s i false).1.2])) := by
  unfold tnM
  cases hl : lk s.M i with
  | none => exact (Unlock_out h h17 i (lk_none hl)).mono fun e w' hb => Vb.sp h hb
  | some x =>
    obtain ⟨k, rfl, hk⟩ := lk_some hl
    have := Unlock_in h k x hk
    simpa [erO] using this
theorem sSend (h : Stt w F g s) (h17 : E2 w p) (i : Int) (v : V3) : Calls Tryd.prog 32 #[.pointer (some ⟨g, 0, none⟩), .int .i64 i, .agg #[.int .i64 v.1, .int .i64 v.2.1, .int .u64 v.2.2]] w (Sp w F g (sdM s i v).2 (.tuple #[.bool (sdM s i v).1.1, erO p (sdM s i v).1.2])) := by
  unfold sdM
  cases hl : lk s.C i with
  | none => exact (Send_out h h17 i _ _ _ (lk_none hl)).mono fun e w' hb => Vb.sp h hb
  | some q =>
    obtain ⟨k, rfl, hk⟩ := lk_some hl
    simp only
    split
    · rename_i hB
      split
      · rename_i hr
        exact Send_room h h17 k q hk _ _ _ hB hr
      · rename_i hr
        exact (Send_full h h17 k q hk _ _ _ hB (by omega)).mono fun e w' hb => Vb.sp h hb
    · rename_i hB
      exact (Send_bad h h17 k q hk _ _ _ (by simpa using hB)).mono fun e w' hb => Vb.sp h hb
def recvV (p : List Addr) (x : V3 × Bool × Nat) : Value := .tuple #[.agg #[.int .i64 x.1.1, .int .i64 x.1.2.1, .int .u64 x.1.2.2], .bool x.2.1, erO p x.2.2]
theorem sRecv (h : Stt w F g s) (h17 : E2 w p) (i : Int) : Calls Tryd.prog 34 #[.pointer (some ⟨g, 0, none⟩), .int .i64 i] w (Sp w F g (rcM s i).2 (recvV p (rcM s i).1)) := by
  unfold rcM recvV
  cases hl : lk s.C i with
  | none => exact (Recv_out h h17 i (lk_none hl)).mono fun e w' hb => Vb.sp h hb
  | some q =>
    obtain ⟨k, rfl, hk⟩ := lk_some hl
    simp only
    cases hq : q.l with
    | nil => exact (Recv_none h k q hk hq).mono fun e w' hb => Vb.sp h hb
    | cons v l => exact Recv_some h k q hk v l hq
theorem sRead (h : Stt w F g s) (h17 : E2 w p) (i : Int) : Calls Tryd.prog 46 #[.pointer (some ⟨g, 0, none⟩), .int .i64 i] w (Vb w (.tuple #[.agg #[.int .i64 (rdM s i).1.1, .int .i64 (rdM s i).1.2.1, .int .u64 (rdM s i).1.2.2], erO p (rdM s i).2])) := by
  unfold rdM
  cases hl : lk s.P i with
  | none => exact Read_out h h17 i (lk_none hl)
  | some x =>
    obtain ⟨k, rfl, hk⟩ := lk_some hl
    exact Read_in h k x hk
theorem sGet (h : Stt w F g s) (h17 : E2 w p) (i : Int) : Calls Tryd.prog 54 #[.pointer (some ⟨g, 0, none⟩), .int .i64 i] w (Vb w (.tuple #[.int .i64 (gtM s i).1, erO p (gtM s i).2])) := by
  unfold gtM
  cases hl : lk s.A i with
  | none => exact Get_out h h17 i (lk_none hl)
  | some x =>
    obtain ⟨k, rfl, hk⟩ := lk_some hl
    exact (Get_in h k x hk).mono fun e w' ⟨h1, h2⟩ => ⟨h1, h2 ▸ Below.refl _ _⟩
theorem sPut (h : Stt w F g s) (h17 : E2 w p) (i y : Int) : Calls Tryd.prog 55 #[.pointer (some ⟨g, 0, none⟩), .int .i64 i, .int .i64 y] w (Sp w F g (ptM s i y).2 (erO p (ptM s i y).1)) := by
  unfold ptM
  cases hl : lk s.A i with
  | none => exact (Put_out h h17 i y (lk_none hl)).mono fun e w' hb => Vb.sp h hb
  | some x =>
    obtain ⟨k, rfl, hk⟩ := lk_some hl
    exact Put_in h k x y hk
theorem sAdd (h : Stt w F g s) (h17 : E2 w p) (i y : Int) : Calls Tryd.prog 56 #[.pointer (some ⟨g, 0, none⟩), .int .i64 i, .int .i64 y] w (Sp w F g (adM s i y).2 (erO p (adM s i y).1)) := by
  unfold adM
  cases hl : lk s.A i with
  | none => exact (Add_out h h17 i y (lk_none hl)).mono fun e w' hb => Vb.sp h hb
  | some x =>
    obtain ⟨k, rfl, hk⟩ := lk_some hl
    exact Add_in h k x y hk
/-- the document's -/
theorem Rt.up (h : Rt w F R B g s) : Rt w F R (B + 1) g s := h.more (Nat.le_succ _) (fun _ h => h) h.rb h.fr
theorem Rp.up {s' : St} {v : Value} {e : Ending} {w' : World} (h : Rp w F R B g s' v e w') : Rp w F R (B + 1) g s' v e w' := by
  obtain ⟨he, F', R', h1, h2, h3, h4⟩ := h
  exact ⟨he, F', R', h1.up, h2, h3, h4⟩
theorem Vb.rp {v : Value} {e : Ending} {w' : World} (h : Rt w F R B g s) (hb : Vb w v e w') : Rp w F R (B + 1) g s v e w' := ⟨hb.1, F, R, (h.bel hb.2).up, Ch.of_bel hb.2, fun _ h => h, fun _ h => .inl h⟩
theorem mWrite (h : Rt w F R B g s) (i : Int) (v : V3) : Calls Tryd.prog 48 #[.pointer (some ⟨g, 0, none⟩), .int .i64 i, .agg #[.int .i64 v.1, .int .i64 v.2.1, .int .u64 v.2.2]] w (Rp w F R (B + 1) g (wrM s i v).2 (.int .i64 ((wrM s i v).1 : Nat))) := by
  unfold wrM
  cases hl : lk s.P i with
  | none => exact (rWrite_out h i _ _ _ (lk_none hl)).mono fun e w' hb => Vb.rp h hb
  | some x =>
    obtain ⟨k, rfl, hk⟩ := lk_some hl
    simp only
    split
    · rename_i hB
      exact (rWrite_in h k x hk _ _ _ hB).mono fun e w' hb => hb.up
    · rename_i hB
      exact (rWrite_bad h k x hk _ _ _ (by simpa using hB)).mono fun e w' hb => Vb.rp h hb
theorem mTurn (h : Rt w F R B g s) (i : Int) (y : Bool) : Calls Tryd.prog 49 #[.pointer (some ⟨g, 0, none⟩), .int .i64 i, .bool y] w (Rp w F R (B + 1) g (tnM s i y).2 (.tuple #[.bool (tnM s i y).1.1, .int .i64 ((tnM s i y).1.2 : Nat)])) := by
  unfold tnM
  cases hl : lk s.M i with
  | none => exact (rTurn_out h i y (lk_none hl)).mono fun e w' ⟨h1, h2⟩ => Vb.rp h ⟨h1, h2 ▸ Below.refl _ _⟩
  | some x =>
    obtain ⟨k, rfl, hk⟩ := lk_some hl
    exact (rTurn_in h k x y hk).mono fun e w' hb => hb.up
theorem mSend (h : Rt w F R B g s) (hB1 : B ≤ 1000000) (i : Int) (v : V3) : Calls Tryd.prog 52 #[.pointer (some ⟨g, 0, none⟩), .int .i64 i, .agg #[.int .i64 v.1, .int .i64 v.2.1, .int .u64 v.2.2]] w (Rp w F R (B + 1) g (sdM s i v).2 (.tuple #[.bool (sdM s i v).1.1, .int .i64 ((sdM s i v).1.2 : Nat)])) := by
  unfold sdM
  cases hl : lk s.C i with
  | none => exact (rSend_out h i _ _ _ (lk_none hl)).mono fun e w' hb => Vb.rp h hb
  | some q =>
    obtain ⟨k, rfl, hk⟩ := lk_some hl
    simp only
    split
    · rename_i hB
      split
      · rename_i hr
        exact rSend_room h k q hk _ _ _ hB hB1 hr
      · rename_i hr
        exact (rSend_full h k q hk _ _ _ hB hB1 (by omega)).mono fun e w' hb => Vb.rp h hb
    · rename_i hB
      exact (rSend_bad h k q hk _ _ _ (by simpa using hB)).mono fun e w' hb => Vb.rp h hb
def recvM (x : V3 × Bool × Nat) : Value := .tuple #[.agg #[.int .i64 x.1.1, .int .i64 x.1.2.1, .int .u64 x.1.2.2], .bool x.2.1, .int .i64 (x.2.2 : Nat)]
theorem mRecv (h : Rt w F R B g s) (hB1 : B ≤ 1000000) (i : Int) : Calls Tryd.prog 53 #[.pointer (some ⟨g, 0, none⟩), .int .i64 i] w (Rp w F R (B + 1) g (rcM s i).2 (recvM (rcM s i).1)) := by
  unfold rcM recvM
  cases hl : lk s.C i with
  | none => exact (rRecv_out h i (lk_none hl)).mono fun e w' hb => Vb.rp h hb
  | some q =>
    obtain ⟨k, rfl, hk⟩ := lk_some hl
    simp only
    cases hq : q.l with
    | nil => exact (rRecv_none h hB1 k q hk hq).mono fun e w' hb => Vb.rp h hb
    | cons v l => exact (rRecv_some h hB1 k q hk v l hq).mono fun e w' hb => hb.up
theorem mHeld (h : Rt w F R B g s) (hB1 : B ≤ 1000000) (i : Int) : Calls Tryd.prog 17 #[.pointer (some ⟨g, 0, none⟩), .int .i64 i] w fun e w' => e = .returned (.int .i64 (lenC s i)) ∧ ∃ k, w' = w.drewN k := by
  unfold lenC
  cases hl : lk s.C i with
  | none => exact (rHeld_out h i (lk_none hl)).mono fun e w' ⟨h1, h2⟩ => ⟨h1, 0, by rw [← h2]; rfl⟩
  | some q =>
    obtain ⟨k, rfl, hk⟩ := lk_some hl
    exact rHeld_q h hB1 k q hk
end

/-- both: G what they may write together, R what nobody writes; both are newer than w0 -/
def Pr (w0 w : World) (G R : Nat → Prop) (B g gm : Nat) (s : St) : Prop := ∃ F F2, Stt w F g s ∧ Rt w F2 R B gm s ∧ (∀ k, F k → ¬ F2 k) ∧ (∀ k, F k → ¬ R k) ∧ (∀ k, G k ↔ F k ∨ F2 k) ∧ (∀ k, G k → w0.heap.size ≤ k) ∧ Below w0.heap.size w0 w
/-- what a call of both leaves -/
def DoP (w0 w : World) (G R : Nat → Prop) (B g gm : Nat) (s' : St) (w' : World) : Prop := ∃ G' R', Pr w0 w' G' R' B g gm s' ∧ Ch G G' w w' ∧ (∀ k, R k → R' k) ∧ ∀ k, R' k → R k ∨ w.heap.size ≤ k
section
variable {w0 w w1 w2 : World} {G G' R R' F F' F2 F2' : Nat → Prop} {B B' g gm : Nat} {s s' : St}
theorem Ch.two (hG : ∀ k, G k ↔ F k ∨ F2 k) (c1 : Ch F F' w w1) (c2 : Ch F2 F2' w1 w2) : Ch G (fun k => F' k ∨ F2' k) w w2 :=
  ⟨c2.os.trans c1.os, c2.tape.trans c1.tape, c2.output.trans c1.output, Nat.le_trans c1.size c2.size,
    fun k hk hn => (c2.blk k (Nat.lt_of_lt_of_le hk c1.size) fun h => hn ((hG k).2 (.inr h))).trans (c1.blk k hk fun h => hn ((hG k).2 (.inl h))),
    fun k hk => by
      rcases hk with hk | hk
      · exact (c1.grow k hk).imp (fun h => (hG k).2 (.inl h)) id
      · rcases c2.grow k hk with h | h
        · exact .inl ((hG k).2 (.inr h))
        · exact .inr (Nat.le_trans c1.size h)⟩
theorem Ch.two' (hG : ∀ k, G k ↔ F k ∨ F2 k) (c1 : Ch F2 F2' w w1) (c2 : Ch F F' w1 w2) : Ch G (fun k => F' k ∨ F2' k) w w2 := by
  have h := Ch.two (fun k => (hG k).trans Or.comm) c1 c2
  exact ⟨h.os, h.tape, h.output, h.size, h.blk, fun k hk => h.grow k hk.symm⟩
theorem Pr.end (hlo : ∀ k, G k → w0.heap.size ≤ k) (hb : Below w0.heap.size w0 w) (c : Ch G (fun k => F' k ∨ F2' k) w w2) (h1 : Stt w2 F' g s') (h2 : Rt w2 F2' R' B' gm s') (d1 : ∀ k, F' k → ¬ F2' k) (d2 : ∀ k, F' k → ¬ R' k) : Pr w0 w2 (fun k => F' k ∨ F2' k) R' B' g gm s' :=
  ⟨F', F2', h1, h2, d1, d2, fun _ => Iff.rfl, c.low hlo hb.size, hb.trans (c.bel hlo hb.size)⟩
/-- the state's call first, then the document's -/
theorem Pr.done1 (_hs : Stt w F g s) (hm : Rt w F2 R B gm s) (d1 : ∀ k, F k → ¬ F2 k) (d2 : ∀ k, F k → ¬ R k) (hG : ∀ k, G k ↔ F k ∨ F2 k) (hlo : ∀ k, G k → w0.heap.size ≤ k) (hb : Below w0.heap.size w0 w)
    (h1 : Stt w1 F' g s') (c1 : Ch F F' w w1) (h2 : Rt w2 F2' R' B' gm s') (c2 : Ch F2 F2' w1 w2) (r1 : ∀ k, R k → R' k) (r2 : ∀ k, R' k → R k ∨ w1.heap.size ≤ k) : DoP w0 w G R B' g gm s' w2 := by
  have c := Ch.two hG c1 c2
  have e1 : ∀ k, F' k → ¬ F2 k := fun k h h' => by
    rcases c1.grow k h with q | q
    · exact d1 k q h'
    · have := hm.fb k h'
      omega
  refine ⟨_, R', Pr.end hlo hb c (h1.ch c2 e1).1 h2 (h1.ch c2 e1).2 (fun k h h' => ?_), c, r1, fun k h => (r2 k h).imp id fun h => Nat.le_trans c1.size h⟩
  rcases r2 k h' with q | q
  · rcases c1.grow k h with z | z
    · exact d2 k z q
    · have := hm.rb k q
      omega
  · have := h1.fb k h
    omega
/-- the document's call first -/
theorem Pr.done2 (hs : Stt w F g s) (_hm : Rt w F2 R B gm s) (d1 : ∀ k, F k → ¬ F2 k) (d2 : ∀ k, F k → ¬ R k) (hG : ∀ k, G k ↔ F k ∨ F2 k) (hlo : ∀ k, G k → w0.heap.size ≤ k) (hb : Below w0.heap.size w0 w)
    (h1 : Rt w1 F2' R' B' gm s') (c1 : Ch F2 F2' w w1) (r1 : ∀ k, R k → R' k) (r2 : ∀ k, R' k → R k ∨ w.heap.size ≤ k) (h2 : Stt w2 F' g s') (c2 : Ch F F' w1 w2) : DoP w0 w G R B' g gm s' w2 := by
  have c := Ch.two' hG c1 c2
  have e1 : ∀ k, F2' k → ¬ F k := fun k h h' => by
    rcases c1.grow k h with q | q
    · exact d1 k h' q
    · have := hs.fb k h'
      omega
  have e2 : ∀ k, R' k → ¬ F k := fun k h h' => by
    rcases r2 k h with q | q
    · exact d2 k h' q
    · have := hs.fb k h'
      omega
  refine ⟨_, R', Pr.end hlo hb c h2 (h1.ch c2 e1 e2) (fun k h h' => ?_) (fun k h h' => ?_), c, r1, r2⟩
  · rcases c2.grow k h with q | q
    · exact e1 k h' q
    · have := h1.fb k h'
      omega
  · rcases c2.grow k h with q | q
    · exact e2 k h' q
    · have := h1.rb k h'
      omega
theorem Pr.bel (h : Pr w0 w G R B g gm s) (hb : Below w.heap.size w w1) : Pr w0 w1 G R B g gm s := by
  obtain ⟨F, F2, h1, h2, d1, d2, hG, hlo, hw⟩ := h
  exact ⟨F, F2, h1.bel hb, h2.bel hb, d1, d2, hG, hlo, bel_trans hw hb⟩
theorem Pr.fb (h : Pr w0 w G R B g gm s) : ∀ k, G k → k < w.heap.size := by
  obtain ⟨F, F2, h1, h2, d1, d2, hG, hlo, hw⟩ := h
  exact fun k hk => ((hG k).1 hk).elim (h1.fb k) (h2.fb k)
theorem Pr.rb (h : Pr w0 w G R B g gm s) : ∀ k, R k → k < w.heap.size := by
  obtain ⟨F, F2, h1, h2, d1, d2, hG, hlo, hw⟩ := h
  exact h2.rb
theorem Pr.gr (h : Pr w0 w G R B g gm s) : ∀ k, R k → ¬ G k := by
  obtain ⟨F, F2, h1, h2, d1, d2, hG, hlo, hw⟩ := h
  exact fun k hk hg => ((hG k).1 hg).elim (fun h => d2 k h hk) (h2.fr k hk)
theorem Pr.low (h : Pr w0 w G R B g gm s) : Below w0.heap.size w0 w := by
  obtain ⟨F, F2, h1, h2, d1, d2, hG, hlo, hw⟩ := h
  exact hw
/-- what else turns, turns elsewhere -/
theorem Pr.ch (h : Pr w0 w G R B g gm s) (c : Ch F F' w w1) (hlo : ∀ k, F k → w0.heap.size ≤ k) (hd : ∀ k, G k → ¬ F k) (hr : ∀ k, R k → ¬ F k) : Pr w0 w1 G R B g gm s ∧ (∀ k, G k → ¬ F' k) ∧ ∀ k, R k → ¬ F' k := by
  have hfb := h.fb
  have hrb := h.rb
  obtain ⟨F1, F2, h1, h2, d1, d2, hG, hl, hw⟩ := h
  refine ⟨⟨F1, F2, (h1.ch c fun k hk => hd k ((hG k).2 (.inl hk))).1, h2.ch c (fun k hk => hd k ((hG k).2 (.inr hk))) hr, d1, d2, hG, hl, hw.trans (c.bel hlo hw.size)⟩, fun k hk hF => ?_, fun k hk hF => ?_⟩
  · rcases c.grow k hF with h1 | h1
    · exact hd k hk h1
    · have := hfb k hk
      omega
  · rcases c.grow k hF with h1 | h1
    · exact hr k hk h1
    · have := hrb k hk
      omega
end
end Go.Proofs.YtghfjnnmpmfboaaDoor.Ck
