/- Layer 11's statements: the chapter's example. (Written by mk_y.py.) -/
import Derived.Test.YtghfjnnmpmfboaaDoorYs
namespace Go.Proofs.YtghfjnnmpmfboaaDoor.Ck
open Go.RowKit

theorem SlC.one (w : World) (t r : Int) : SlC (w.alloc (.cells #[.int .i64 t, .int .i64 r] 52)) (.slice (some ⟨w.heap.size, 0, none⟩) 1 1) [(t, r)] :=
  ⟨_, _, rfl, Nat.le_refl _, by unfold maxLen; omega, fun i hi => by
    have e : i = 0 := by simpa using hi
    subst e
    exact ⟨_, _, rfl, by simp, blk_cell (Go.Deep.blk_alloc_new w _) 0 _ rfl, blk_cell (Go.Deep.blk_alloc_new w _) 1 _ rfl⟩⟩
theorem Mk.bel {w wc wd : World} {g : Nat} {s : St} (h : Mk w wc g s) (hb : Below wc.heap.size wc wd) : Mk w wd g s := by
  obtain ⟨F, h1, h2, h3⟩ := h
  exact ⟨F, h1.bel hb, h2, bel_trans h3 hb⟩
theorem Mk.sp {w wc wd : World} {g : Nat} {s : St} {F F' : Nat → Prop} (hF : ∀ k, F k → w.heap.size ≤ k) (hb : Below w.heap.size w wc) (h : Stt wd F' g s) (c : Ch F F' wc wd) : Mk w wd g s := Mk.of hF hb h c
theorem Mk.errs {w wc : World} {g : Nat} {s : St} (h : Mk w wc g s) {p : List Addr} (h17 : E2 w p) : E2 wc p := by
  obtain ⟨F, h1, h2, h3⟩ := h
  exact h17.below (Nat.le_refl _) h3
theorem Mk.below {w wc : World} {g : Nat} {s : St} (h : Mk w wc g s) : Below w.heap.size w wc := by
  obtain ⟨F, h1, h2, h3⟩ := h
  exact h3
theorem Mk.of_new {w wa wc : World} {g : Nat} {s : St} {F : Nat → Prop} (ha : Below w.heap.size w wa) (h : Stt wc F g s) (hl : ∀ k, F k → wa.heap.size ≤ k) (hb : Below wa.heap.size wa wc) : Mk w wc g s :=
  ⟨F, h, fun k hk => Nat.le_trans ha.size (hl k hk), bel_trans ha hb⟩
/-- calls on a state that is the law's own -/
theorem Mk.room {w wc : World} {g : Nat} {s : St} (h : Mk w wc g s) {p : List Addr} (h17 : E2 w p) (i : Nat) (q : Qu) (hx : s.C[i]? = some q) (t m z : Int) (hB : isB t m z q.t = true) (hr : (q.l.length : Int) < q.room) :
    Calls Tryd.prog 32 #[.pointer (some ⟨g, 0, none⟩), .int .i64 (i : Nat), .agg #[.int .i64 t, .int .i64 m, .int .u64 z]] wc fun e w' => e = .returned (.tuple #[.bool true, .nilIface]) ∧ Mk w w' g { s with C := s.C.set i { q with l := q.l ++ [(t, m, z)] } } := by
  have h7 := h.errs h17
  obtain ⟨F, h1, h2, h3⟩ := h
  exact (Send_room h1 h7 i q hx t m z hB hr).mono fun e w' ⟨he, F', hs, hc⟩ => ⟨he, Mk.of h2 h3 hs hc⟩
theorem Mk.full {w wc : World} {g : Nat} {s : St} (h : Mk w wc g s) {p : List Addr} (h17 : E2 w p) (i : Nat) (q : Qu) (hx : s.C[i]? = some q) (t m z : Int) (hB : isB t m z q.t = true) (hr : q.room ≤ (q.l.length : Int)) :
    Calls Tryd.prog 32 #[.pointer (some ⟨g, 0, none⟩), .int .i64 (i : Nat), .agg #[.int .i64 t, .int .i64 m, .int .u64 z]] wc fun e w' => e = .returned (.tuple #[.bool false, .nilIface]) ∧ Mk w w' g s := by
  have h7 := h.errs h17
  obtain ⟨F, h1, h2, h3⟩ := id h
  exact (Send_full h1 h7 i q hx t m z hB hr).mono fun e w' ⟨he, hb⟩ => ⟨he, h.bel hb⟩
theorem Mk.recv {w wc : World} {g : Nat} {s : St} (h : Mk w wc g s) (i : Nat) (q : Qu) (hx : s.C[i]? = some q) (v : V3) (l : List V3) (hl : q.l = v :: l) :
    Calls Tryd.prog 34 #[.pointer (some ⟨g, 0, none⟩), .int .i64 (i : Nat)] wc fun e w' => e = .returned (.tuple #[.agg #[.int .i64 v.1, .int .i64 v.2.1, .int .u64 v.2.2], .bool true, .nilIface]) ∧ Mk w w' g { s with C := s.C.set i { q with l := l } } := by
  obtain ⟨F, h1, h2, h3⟩ := h
  exact (Recv_some h1 i q hx v l hl).mono fun e w' ⟨he, F', hs, hc⟩ => ⟨he, Mk.of h2 h3 hs hc⟩
theorem Mk.empty {w wc : World} {g : Nat} {s : St} (h : Mk w wc g s) (i : Nat) (q : Qu) (hx : s.C[i]? = some q) (hl : q.l = []) :
    Calls Tryd.prog 34 #[.pointer (some ⟨g, 0, none⟩), .int .i64 (i : Nat)] wc fun e w' => e = .returned (.tuple #[.agg #[.int .i64 0, .int .i64 0, .int .u64 0], .bool false, .nilIface]) ∧ Mk w w' g s := by
  obtain ⟨F, h1, h2, h3⟩ := id h
  exact (Recv_none h1 i q hx hl).mono fun e w' ⟨he, hb⟩ => ⟨he, h.bel hb⟩
set_option maxRecDepth 20000 in
set_option maxHeartbeats 2000000 in
theorem alive_any {w : World} {p : List Addr} (h17 : E2 w p) : Calls Tryd.prog 7 #[] w (Vb w (.bool true)) := by
  have NW := hide (new_ok (.slice none 0 0) (.slice (some ⟨w.heap.size, 0, none⟩) 1 1) [] [(1, 1)] 0 0 (Sl.nilS _) (SlC.one w 1 1) rfl)
  have H7 := hide h17
  have EV := eq_vv
  clear h17
  go_enter Tryd.func7, Tryd.ntmps7
  go_wp2_with fail
  refine NW.out.mono ?_
  rintro e w1 ⟨g, F, rfl, h1, hl, hb⟩
  have M1 : Hid (Mk w w1 g ⟨[], [], [⟨1, 1, []⟩], []⟩) := hide (Mk.of_new (bel_new w _) h1 hl hb)
  clear h1 hl hb NW
  go_wp2_with fail
  refine (int_any _ _).mono ?_
  rintro e w2 ⟨rfl, hb⟩
  have M2 := hide (M1.out.bel hb)
  clear hb M1
  go_wp2_with fail
  refine (M2.out.room H7.out 0 ⟨1, 1, []⟩ rfl 1 7 0 rfl (by decide)).mono ?_
  rintro e w3 ⟨rfl, h3⟩
  have M3 : Hid (Mk w w3 g ⟨[], [], [⟨1, 1, [(1, 7, 0)]⟩], []⟩) := hide h3
  clear h3 M2
  go_wp2_with fail
  refine (int_any _ _).mono ?_
  rintro e w4 ⟨rfl, hb⟩
  have M4 := hide (M3.out.bel hb)
  clear hb M3
  go_wp2_with fail
  refine (M4.out.full H7.out 0 ⟨1, 1, [(1, 7, 0)]⟩ rfl 1 8 0 rfl (by decide)).mono ?_
  rintro e w5 ⟨rfl, h5⟩
  have M5 := hide h5
  clear h5 M4
  go_wp2_with fail
  refine (M5.out.recv 0 ⟨1, 1, [(1, 7, 0)]⟩ rfl (1, 7, 0) [] rfl).mono ?_
  rintro e w6 ⟨rfl, h6⟩
  have B6 := hide (bel_al h6.below (.cells #[.int .i64 1, .int .i64 7, .int .u64 0] 41))
  have V6 := hide (Val.new w6 1 7 0)
  clear h6 M5
  go_wp2_with fail
  generalize w6.alloc (.cells #[.int .i64 1, .int .i64 7, .int .u64 0] 41) = w7 at *
  obtain ⟨_, f0, f1, f2⟩ := V6.out.all
  go_region_held3 (fun w' => (w'.cell? ⟨w6.heap.size, 0, none⟩ = some (.int .i64 1) ∧ w'.cell? ⟨w6.heap.size, 1, none⟩ = some (.int .i64 7) ∧ w'.cell? ⟨w6.heap.size, 2, none⟩ = some (.int .u64 0))) (first | (exact ⟨by assumption, by assumption, by assumption⟩)) (first | (go_at_call 33; refine (int_any _ _).mono ?_; rintro e w8 ⟨rfl, hb⟩; replace hb : Below w7.heap.size w7 w8 := ⟨hb.os, hb.tape, hb.output, hb.size, hb.block⟩; have V8 := hide (V6.out.al hb); have B8 := hide (bel_trans B6.out hb); obtain ⟨_, f0', f1', f2'⟩ := V8.out.all))
  go_wp2_with fail
  go_ret
  exact Vb.mk rfl B8.out
end Go.Proofs.YtghfjnnmpmfboaaDoor.Ck
