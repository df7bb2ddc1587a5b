/- The contracts of a draw's calls: New, Word, Taken, Now, Tick. -/
import Derived.Test.YtflokfbdogofmaaDoorBlk
namespace Go.Proofs.YtflokfbdogofmaaDoor.Ck
open Go.RowKit

theorem list32 (S : List Int) (h : S.length = 32) : S = (List.range 32).map fun i => S.getD i 0 := by
  apply List.ext_getElem
  · simp [h]
  · intro i h1 h2
    simp [List.getD, h1]
theorem build_streamF (f : Nat → Int) (t : Int) (w : World) : (Instr.build 61 #[(0, .agg (bv ((List.range 32).map f)).toArray), (1, .int .i64 t)]).run Tryd.prog w = .ok (.agg (bv ((List.range 32).map f) ++ [Value.int .i64 t]).toArray) w := by kernel_rfl
theorem build_stream (S : List Int) (h : S.length = 32) (t : Int) (w : World) : (Instr.build 61 #[(0, .agg (bv S).toArray), (1, .int .i64 t)]).run Tryd.prog w = .ok (.agg (bv S ++ [Value.int .i64 t]).toArray) w := by
  rw [list32 S h]
  exact build_streamF _ t w
theorem build_drawF (f : Nat → Int) (t : Int) (w : World) : (Instr.build 64 #[(0, .agg (bv ((List.range 32).map f) ++ [Value.int .i64 t]).toArray)]).run Tryd.prog w = .ok (.agg (bv ((List.range 32).map f) ++ [Value.int .i64 t, .int .i64 0]).toArray) w := by kernel_rfl
theorem build_draw (S : List Int) (h : S.length = 32) (t : Int) (w : World) : (Instr.build 64 #[(0, .agg (bv S ++ [Value.int .i64 t]).toArray)]).run Tryd.prog w = .ok (.agg (bv S ++ [Value.int .i64 t, .int .i64 0]).toArray) w := by
  rw [list32 S h]
  exact build_drawF _ t w
theorem info33 : (Tryd.prog.info? 61).map (·.size) = some 33 := by kernel_rfl
def zero33 : List Value := List.replicate 32 (.int .u8 0) ++ [Value.int .i64 0]
theorem zero61 (w : World) : (Instr.alloc 61 true (.tuple #[])).run Tryd.prog w = .ok (.pointer (some ⟨w.heap.size, 0, none⟩)) (w.alloc (.cells zero33.toArray 61)) := by kernel_rfl

theorem wpList_build1 {w : World} {ops : Array Oper} {rest : List Oper} {o : Oper} {a : Act} {Q : Exit → Act → World → Prop} (T : TypeId) (x : Operand) (vx : Value) (cs : List Value) (hgd : o.guard = none) (ho : o.op = .build T #[(0, x)])
    (hx : a.eval x = vx) (hr : (Instr.build T #[(0, vx)]).run Tryd.prog w = .ok (.agg cs.toArray) w) (h : wpList Tryd.prog ops Q rest (a.put o.dst (.agg cs.toArray)) w) : wpList Tryd.prog ops Q (o :: rest) a w :=
  wpList_val hgd _ w (by
    unfold execOp
    simp only [ho, List.map_toArray, List.map_cons, List.map_nil, hx, hr, Sem.run_bind, Sem.run_pure, Result.andThen_ok]) h
theorem wpList_build2 {w : World} {ops : Array Oper} {rest : List Oper} {o : Oper} {a : Act} {Q : Exit → Act → World → Prop} (T : TypeId) (x y : Operand) (vx vy : Value) (cs : List Value) (hgd : o.guard = none) (ho : o.op = .build T #[(0, x), (1, y)])
    (hx : a.eval x = vx) (hy : a.eval y = vy) (hr : (Instr.build T #[(0, vx), (1, vy)]).run Tryd.prog w = .ok (.agg cs.toArray) w) (h : wpList Tryd.prog ops Q rest (a.put o.dst (.agg cs.toArray)) w) : wpList Tryd.prog ops Q (o :: rest) a w :=
  wpList_val hgd _ w (by
    unfold execOp
    simp only [ho, List.map_toArray, List.map_cons, List.map_nil, hx, hy, hr, Sem.run_bind, Sem.run_pure, Result.andThen_ok]) h

theorem one33 (S : List Int) (t : Int) : ∀ v ∈ bv S ++ [Value.int .i64 t], v.oneCell' = true := fun v hv => by
  rcases List.mem_append.1 hv with h | h
  · exact bv_one _ _ h
  · simp at h; subst h; rfl

set_option maxRecDepth 20000 in
set_option maxHeartbeats 1000000 in
theorem streamOf_any (m : List Int) (v : Value) (t : Nat) (w : World) (hv : SB w v m) (hl : m.length ≤ 900000000) (htab : Tab w) :
    Calls Tryd.prog 26 #[v, .int .i64 t] w fun e w' => e = .returned (.agg (bv (sha m) ++ [Value.int .i64 t]).toArray) ∧ Below w.heap.size w w' := by
  have HL := hide hl
  clear hl
  go_enter Tryd.func26, Tryd.ntmps26
  go_wp2_with (first | (refine wpList_new 61 _ zero61 4 rfl rfl rfl ?_; intro w1 g1 e1 b1 hb1 s1))
  refine (of_any m v w1 (hv.bel hb1) HL.out (htab.bel hb1)).mono ?_
  rintro e w2 ⟨rfl, hb2⟩
  have b2 := b1.bel hb2
  have hsl : Hid ((sha m).length = 32) := sha_len m
  generalize eS : sha m = S at *
  have ES := hide eS
  clear eS
  have hsz : Hid ((Tryd.prog.info? 61).map (·.size) = some (bv S ++ [Value.int .i64 t]).length) := by show _ = _; rw [List.length_append, bv_len, hsl.out]; exact info33
  have hl0 : Hid (zero33.length = (bv S ++ [Value.int .i64 t]).length) := by show _ = _; rw [List.length_append, bv_len, hsl.out]; rfl
  go_wp2_with (first | (refine wpList_build2 61 (.tmp 6) (.tmp 7) (.agg (bv S).toArray) (.int .i64 t) (bv S ++ [Value.int .i64 t]) rfl rfl rfl rfl (build_stream S hsl.out t _) ?_) | (refine wpList_lay 61 (.tmp 4) (.tmp 8) g1 61 _ (bv S ++ [Value.int .i64 t]) b2 hl0.out hsz.out (one33 S t) rfl rfl rfl rfl ?_; intro w3 b3 t3 s3))
  refine ret_row g1 61 (bv S ++ [Value.int .i64 t]) rfl rfl b3 Tryd.underlying61 rfl hsz.out rfl ⟨by rw [ES.out], bel_tn (bel_trans hb1 hb2) t3 (by rw [e1.out]; exact Nat.le_refl _)⟩

/-- the draw in block g: its seed's digest is S, t words were taken, the clock is at n -/
def Dw (w : World) (g : Nat) (S : List Int) (t n : Nat) : Prop := Blk w g 64 (bv S ++ [Value.int .i64 t, .int .i64 n]) ∧ S.length = 32 ∧ Fit8 S
theorem Dw.lt {w : World} {g t n : Nat} {S : List Int} (h : Dw w g S t n) : g < w.heap.size := h.1.lt
theorem Dw.bel {w w' : World} {g t n : Nat} {S : List Int} (h : Dw w g S t n) (hb : Below w.heap.size w w') : Dw w' g S t n := ⟨h.1.bel hb, h.2⟩
theorem Dw.tn {w w' : World} {g x t n : Nat} {S : List Int} (h : Dw w g S t n) (ht : Tn x w w') (hx : g ≠ x) : Dw w' g S t n := ⟨h.1.tn ht hx, h.2⟩
theorem Dw.drew {w : World} {g t n : Nat} {S : List Int} (h : Dw w g S t n) : Dw w.drew g S t n := h
theorem Dw.taken {w : World} {g t n : Nat} {S : List Int} (h : Dw w g S t n) : w.cell? ⟨g, 32, none⟩ = some (.int .i64 t) := by
  rw [h.1.cell, List.getElem?_append_right (by rw [bv_len, h.2.1]; decide), bv_len, h.2.1]; rfl
theorem Dw.now {w : World} {g t n : Nat} {S : List Int} (h : Dw w g S t n) : w.cell? ⟨g, 33, none⟩ = some (.int .i64 n) := by
  rw [h.1.cell, List.getElem?_append_right (by rw [bv_len, h.2.1]; decide), bv_len, h.2.1]; rfl
theorem Dw.setNow {w : World} {g t n : Nat} {S : List Int} (h : Dw w g S t n) (n' : Nat) : Dw (w.setCell ⟨g, 33, none⟩ (.int .i64 n')) g S t n' ∧ Tn g w (w.setCell ⟨g, 33, none⟩ (.int .i64 n')) := by
  have T := h.1.set 33 (.int .i64 n')
  rw [List.set_append_right _ _ (by rw [bv_len, h.2.1]; decide), bv_len, h.2.1] at T
  exact ⟨⟨T.1, h.2⟩, T.2⟩

set_option maxRecDepth 20000 in
set_option maxHeartbeats 1000000 in
theorem dnew_any (m : List Int) (v : Value) (w : World) (hv : SB w v m) (hl : m.length ≤ 900000000) (htab : Tab w) :
    Calls Tryd.prog 11 #[v] w fun e w' => ∃ g, e = .returned (.pointer (some ⟨g, 0, none⟩)) ∧ Dw w' g (sha m) 0 0 ∧ w.heap.size ≤ g ∧ Below w.heap.size w w' := by
  go_enter Tryd.func11, Tryd.ntmps11
  go_wp2_with fail
  refine (streamOf_any m v 0 w hv hl htab).mono ?_
  rintro e w1 ⟨rfl, hb1⟩
  have hsl : Hid ((sha m).length = 32) := sha_len m
  have hsf : Hid (Fit8 (sha m)) := sha_fit' m
  generalize eS : sha m = S at *
  have ES := hide eS
  clear eS
  go_wp2_with (first | (refine wpList_build1 64 (.tmp 4) (.agg (bv S ++ [Value.int .i64 ((0 : Nat) : Int)]).toArray) (bv S ++ [Value.int .i64 ((0 : Nat) : Int), .int .i64 0]) rfl rfl rfl (build_draw S hsl.out _ _) ?_) | (refine wpList_box 64 (.tmp 5) (bv S ++ [Value.int .i64 ((0 : Nat) : Int), .int .i64 0]) rfl rfl rfl ?_; intro w2 g2 e2 b2 hb2 s2))
  go_ret
  exact ⟨g2, rfl, by rw [ES.out]; exact ⟨b2, hsl.out, hsf.out⟩, by rw [e2.out]; exact hb1.size, bel_trans hb1 hb2⟩

set_option maxHeartbeats 400000 in
theorem dword_any (g : Nat) (S : List Int) (t n : Nat) (w : World) (hs : Dw w g S t n) (ht : t ≤ 4611686018427387904) (htab : Tab w) :
    Calls Tryd.prog 14 #[.pointer (some ⟨g, 0, none⟩)] w fun e w' => e = .returned (.int .u64 (wordN S t)) ∧ Dw w' g S (t + 1) n ∧ Tn g w w' := by
  go_enter Tryd.func14, Tryd.ntmps14
  go_wp2_with fail
  refine (next_any g 64 S [.int .i64 n] t w hs.1 hs.2.1 hs.2.2 ht htab).mono ?_
  rintro e w1 ⟨rfl, b1, t1⟩
  go_wp2_with fail
  go_ret
  exact ⟨rfl, ⟨b1, hs.2⟩, t1⟩

theorem dtaken_any (g : Nat) (S : List Int) (t n : Nat) (w : World) (hs : Dw w g S t n) :
    Calls Tryd.prog 21 #[.pointer (some ⟨g, 0, none⟩)] w fun e w' => e = .returned (.int .i64 t) ∧ w = w' := by
  have q0 := hs.taken
  clear hs
  go_enter Tryd.func21, Tryd.ntmps21
  go_wp2
  go_ret
  exact ⟨rfl, rfl⟩

theorem dnow_any (g : Nat) (S : List Int) (t n : Nat) (w : World) (hs : Dw w g S t n) :
    Calls Tryd.prog 22 #[.pointer (some ⟨g, 0, none⟩)] w fun e w' => e = .returned (.int .i64 n) ∧ w = w' := by
  have q0 := hs.now
  clear hs
  go_enter Tryd.func22, Tryd.ntmps22
  go_wp2
  go_ret
  exact ⟨rfl, rfl⟩

set_option maxHeartbeats 400000 in
theorem dtick_ok (g : Nat) (S : List Int) (t n : Nat) (k : Int) (w : World) (hs : Dw w g S t n) (hk : 0 ≤ k) (hn : k ≤ 1099511627776 - (n : Int)) :
    Calls Tryd.prog 19 #[.pointer (some ⟨g, 0, none⟩), .int .i64 k] w fun e w' => e = .returned .nilIface ∧ Dw w' g S t (n + k.toNat) ∧ Tn g w w' := by
  obtain ⟨j, rfl⟩ : ∃ j : Nat, k = (j : Int) := ⟨k.toNat, by omega⟩
  have q0 := hs.now
  have q1 := hs.1.frozen 33
  have T := hide (hs.setNow (n + j))
  have e : ((n + j : Nat) : Int) = (n : Int) + (j : Int) := by omega
  rw [e] at T
  have hj : (j : Int) ≤ 1099511627776 := by omega
  clear hs e
  go_enter Tryd.func19, Tryd.ntmps19
  go_wp2_with fail
  go_ret
  exact ⟨rfl, by rw [Int.toNat_natCast]; exact T.out.1, T.out.2⟩

set_option maxHeartbeats 400000 in
theorem dtick_bad (g : Nat) (S : List Int) (t n : Nat) (k : Int) (ev : Value) (w : World) (hs : Dw w g S t n) (hn1 : n ≤ 1099511627776) (hb : k < 0 ∨ 1099511627776 - (n : Int) < k) (hE : w.cell? ⟨0, 0, none⟩ = some ev) :
    Calls Tryd.prog 19 #[.pointer (some ⟨g, 0, none⟩), .int .i64 k] w fun e w' => e = .returned ev ∧ w = w' := by
  have q0 := hs.now
  clear hs
  go_enter Tryd.func19, Tryd.ntmps19
  by_cases h0 : k < 0
  · go_wp2_with fail
    go_ret
    exact ⟨rfl, rfl⟩
  · have h1 : 1099511627776 - (n : Int) < k := by omega
    have h2 : (0 : Int) ≤ k := by omega
    clear hb h0
    go_wp2_with fail
    go_ret
    exact ⟨rfl, rfl⟩

end Go.Proofs.YtflokfbdogofmaaDoor.Ck
