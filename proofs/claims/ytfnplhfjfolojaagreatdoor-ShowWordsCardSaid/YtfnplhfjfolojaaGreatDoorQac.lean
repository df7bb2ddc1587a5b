/- Texts of this proof, packed: contracts of the program's functions, and the plain model that they are held against. -/
import Derived.Test.YtfnplhfjfolojaaGreatDoorQab
set_option maxRecDepth 20000
set_option maxHeartbeats 4000000
namespace Go.Proofs.YtfnplhfjfolojaaGreatDoor.Ck
open Go.RowKit
structure Ps (w : World) (p : List Addr) (g gT : Nat) (L : List Tk) (i l : Nat) : Prop where
 blk : ∃ cap, w.heap[g]? = some (.cells #[.slice (some ⟨gT, 0, none⟩) L.length cap, .int .i64 i, .int .i64 l] 82 (0, 0)) /\ L.length <= cap /\ cap <= maxLen
 row : Rowt w gT L
 ne : g ≠ gT
 er : Er w p
 ed : w.cell? ⟨3, 0, none⟩ = some (errV p 2)
 big : 23 <= g
 lt : i < L.length
 len : L.length <= 2001
def Zk (L : List Tk) (i : Nat) : Tk := L.getD i noTk
theorem Ps.drewN {w : World} {p : List Addr} {g gT : Nat} {L : List Tk} {i l : Nat} (h : Ps w p g gT L i l) (k : Nat) : Ps (w.drewN k) p g gT L i l :=
 ⟨h.blk, h.row.bel (below_drewN (Below.refl _ _) k), h.ne, h.er.drewN k, h.ed, h.big, h.lt, h.len⟩
theorem Ps.lt_g {w : World} {p : List Addr} {g gT : Nat} {L : List Tk} {i l : Nat} (h : Ps w p g gT L i l) : g < w.heap.size := by
 obtain ⟨cap, h1, _⟩ := h.blk
 exact Ze h1
theorem Ps.below {w w' : World} {p : List Addr} {g gT : Nat} {L : List Tk} {i l : Nat} (h : Ps w p g gT L i l) (hb : Below w.heap.size w w') : Ps w' p g gT L i l := by
 obtain ⟨cap, h1, h2⟩ := h.blk
 exact ⟨⟨cap, (hb.block g (Ze h1)).trans h1, h2⟩, h.row.bel hb, h.ne, h.er.bel hb, (hb.cell (p := ⟨3, 0, none⟩) (World.block_lt_of_cell? w _ h.ed)).trans h.ed, h.big, h.lt, h.len⟩
theorem Ps.tn {w w' : World} {p : List Addr} {g gT n : Nat} {L : List Tk} {i l : Nat} (h : Ps w p g gT L i l) (t : Tn n w w') (hn : 23 <= n) (h1 : g ≠ n) (h2 : gT ≠ n) : Ps w' p g gT L i l := by
 obtain ⟨cap, h3, h4⟩ := h.blk
 exact ⟨⟨cap, (t.blk g (Ze h3) h1).trans h3, h4⟩, h.row.tn t h2, h.ne, h.er.tn t hn, t.cell (by omega) h.ed, h.big, h.lt, h.len⟩
theorem Ps.set {w : World} {p : List Addr} {g gT : Nat} {L : List Tk} {i l : Nat} (h : Ps w p g gT L i l) (j : Nat) (hj : j < L.length) (z : Int) (hz : z = j) :
 Ps (w.setCell ⟨g, 1, none⟩ (.int .i64 z)) p g gT L j l /\ Tn g w (w.setCell ⟨g, 1, none⟩ (.int .i64 z)) := by
 obtain ⟨cap, h1, h2⟩ := h.blk
 obtain ⟨k, t⟩ := Zs h1 1 (.int .i64 z)
 subst hz
 exact ⟨⟨⟨cap, k, h2⟩, h.row.tn t (Ne.symm h.ne), h.ne, h.er.tn t h.big, t.cell (by have := h.big; omega) h.ed, h.big, hj, h.len⟩, t⟩
theorem Ps.setL {w : World} {p : List Addr} {g gT : Nat} {L : List Tk} {i l : Nat} (h : Ps w p g gT L i l) (m : Nat) (z : Int) (hz : z = m) :
 Ps (w.setCell ⟨g, 2, none⟩ (.int .i64 z)) p g gT L i m /\ Tn g w (w.setCell ⟨g, 2, none⟩ (.int .i64 z)) := by
 obtain ⟨cap, h1, h2⟩ := h.blk
 obtain ⟨k, t⟩ := Zs h1 2 (.int .i64 z)
 subst hz
 exact ⟨⟨⟨cap, k, h2⟩, h.row.tn t (Ne.symm h.ne), h.ne, h.er.tn t h.big, t.cell (by have := h.big; omega) h.ed, h.big, h.lt, h.len⟩, t⟩
theorem Ps.cells {w : World} {p : List Addr} {g gT : Nat} {L : List Tk} {i l : Nat} (h : Ps w p g gT L i l) :
 ∃ cap, w.cell? ⟨g, 0, none⟩ = some (.slice (some ⟨gT, 0, none⟩) L.length cap) /\ w.cell? ⟨g, 1, none⟩ = some (.int .i64 i) /\ w.cell? ⟨g, 2, none⟩ = some (.int .i64 l) /\ (∀ k, w.frozen? ⟨g, k, none⟩ = false) /\ L.length <= cap /\ cap <= 9223372036854775807 := by
 obtain ⟨cap, h1, h2, h3⟩ := h.blk
 unfold maxLen at h3
 exact ⟨cap, Zf h1 0 _ rfl, Zf h1 1 _ rfl, Zf h1 2 _ rfl, fun k => Zi h1 k, h2, by omega⟩
theorem Zm {n : Nat} {w w' : World} (h : Below n w w') : Below n w w'.drew := ⟨h.os, h.tape, h.output, h.size, h.block⟩
theorem Zp {w : World} {p : List Addr} {g gT : Nat} {L : List Tk} {i l : Nat} (h : Ps w p g gT L i l) :
 Calls Tryz.prog 46 #[.pointer (some ⟨g, 0, none⟩)] w fun e w' => e = .returned (Zk L i).val /\ Below w.heap.size w w' := by
 have hb0 := Zb (Zd w tokZ)
 have hz0 : Hid (Tok (w.alloc tokZ) w.heap.size (.int .i64 0) (.string ⟨#[]⟩) (.int .i64 0) (.int .u64 0) (.int .i64 0)) := B_ _ _
 have H0 := Zb (h.below hb0.out)
 obtain ⟨cap, c0, c1, _, _, hc1, hc2⟩ := H0.out.cells
 obtain ⟨t0, t1, t2, t3, t4⟩ := H0.out.row.tok i h.lt
 have hl := h.lt
 have hl2 := h.len
 have hli : (i : Int) < (L.length : Int) := by omega
 clear h
 unfold Zk
 unfold tokZ at *
 generalize L.getD i noTk = tk at *
 obtain ⟨kind, text, nn, bits_, pos⟩ := tk
 generalize L.length = n at *
 simp only at *
 unfold Tk.val
 go_enter Tryz.func46, Tryz.ntmps46
 go_wp2_with fail
 generalize w.alloc _ = w0 at *
 refine wp_quiet_tail 10 ZI (by kernel_rfl) ?_
 simp only [List.take_succ_cons, List.take_zero, List.drop_succ_cons, List.drop_zero]
 repeat (first | go_big_quiet_skip | (go_big_quiet_want; go_big_quiet_op; go_big_quiet_on))
 refine wpQuiet_nil ?_
 obtain ⟨⟨f0, f1, f2, f3, f4⟩, b0, b1, b2, b3, b4⟩ := hz0.out.all
 obtain ⟨z3, s3⟩ := set5 hz0.out (.int .i64 kind) (.string text) (.int .i64 nn) (.int .u64 bits_) (.int .i64 pos)
 have Z3 := Zb z3
 have B3 := Zb (((Tn.of_bel (g := w.heap.size) hb0.out).trans s3).bel (Nat.le_refl _) (Nat.le_refl _))
 clear z3 s3 H0 hz0
 go_wp2_with fail
 refine Yy w.heap.size rfl rfl Z3.out rfl ?_
 exact ⟨rfl, Zm B3.out⟩
theorem tf0 (a b c d e : Value) (w : World) : (Instr.field 80 (.agg #[a, b, c, d, e]) 0).run Tryz.prog w = .ok a w := by kernel_rfl
theorem tf1 (a b c d e : Value) (w : World) : (Instr.field 80 (.agg #[a, b, c, d, e]) 1).run Tryz.prog w = .ok b w := by kernel_rfl
theorem tf2 (a b c d e : Value) (w : World) : (Instr.field 80 (.agg #[a, b, c, d, e]) 2).run Tryz.prog w = .ok c w := by kernel_rfl
theorem tf4 (a b c d e : Value) (w : World) : (Instr.field 80 (.agg #[a, b, c, d, e]) 4).run Tryz.prog w = .ok e w := by kernel_rfl
theorem more_any2 {w : World} {p : List Addr} {g gT : Nat} {L : List Tk} {i l : Nat} (h : Ps w p g gT L i l) :
 Calls Tryz.prog 44 #[.pointer (some ⟨g, 0, none⟩)] w fun e w' => e = .returned (.bool (decide ((Zk L i).kind ≠ 0))) /\ Below w.heap.size w w' := by
 have H := Zb h
 clear h
 generalize ht : Zk L i = tk at *
 obtain ⟨kind, text, nn, bits_, pos⟩ := tk
 have HH := Zp H.out
 rw [ht] at HH
 dsimp only [Tk.val] at HH ⊢
 have hf0 := tf0 (.int .i64 kind) (.string text) (.int .i64 nn) (.int .u64 bits_) (.int .i64 pos)
 go_enter Tryz.func44, Tryz.ntmps44
 go_wp2_with fail
 refine HH.mono ?_
 rintro e w1 ⟨rfl, hb⟩
 have HB := Zb hb
 clear hb HH ht
 go_wp2_with fail
 go_ret
 refine ⟨congrArg Ending.returned (congrArg Value.bool ?_), HB.out⟩
 rw [Bool.eq_iff_iff]
 simp
theorem sees_any {w : World} {p : List Addr} {g gT : Nat} {L : List Tk} {i l : Nat} (h : Ps w p g gT L i l) (b n c : Nat) (zs : List ByteArray) (hz : zs.length = n) (hn : n <= 100) (hc : ∀ j, j < zs.length -> w.cell? ⟨b, j, none⟩ = some (.string (zs.getD j ByteArray.empty))) :
 Calls Tryz.prog 92 #[.pointer (some ⟨g, 0, none⟩), .slice (some ⟨b, 0, none⟩) n c] w fun e w' => e = .returned (.bool (Lib.containsS zs (Zk L i).text)) /\ Below w.heap.size w w' := by
 have H := Zb h
 clear h
 have HC := Zb hc
 clear hc
 generalize ht : Zk L i = tk at *
 obtain ⟨kind, text, nn, bits_, pos⟩ := tk
 have HH := Zp H.out
 rw [ht] at HH
 dsimp only [Tk.val] at HH ⊢
 have hf1 := tf1 (.int .i64 kind) (.string text) (.int .i64 nn) (.int .u64 bits_) (.int .i64 pos)
 go_enter Tryz.func92, Tryz.ntmps92
 go_wp2_with fail
 refine HH.mono ?_
 rintro e w1 ⟨rfl, hb⟩
 have HB := Zb hb
 have HC : Hid (∀ j, j < zs.length -> w1.cell? ⟨b, j, none⟩ = some (.string (zs.getD j ByteArray.empty))) := fun j hj => (HB.out.cell (p := ⟨b, j, none⟩) (World.block_lt_of_cell? w _ (HC.out j hj))).trans (HC.out j hj)
 clear hb HH ht
 go_wp2_with (first | (go_at_call 134; refine (Tryz.slices_Contains_string b 0 n c zs text _ (by omega) (by omega) (fun j hj => (by rw [Nat.zero_add]; exact HC.out j hj))).mono ?_; rintro e w2 ⟨rfl, rfl⟩))
 go_ret
 refine ⟨?_, HB.out⟩
 rw [List.take_of_length_le (by omega)]
 rfl
theorem refuse_at {w : World} {p : List Addr} {g gT : Nat} {L : List Tk} {i l : Nat} (h : Ps w p g gT L i l) (te : TypeId) (pe : Value) :
 Calls Tryz.prog 45 #[.pointer (some ⟨g, 0, none⟩), .iface te pe] w fun e w' => e = stop (.iface te pe) (Zk L i).pos /\ Below w.heap.size w w' := by
 have H := Zb h
 clear h
 generalize ht : Zk L i = tk at *
 obtain ⟨kind, text, nn, bits_, pos⟩ := tk
 have HH := Zp H.out
 rw [ht] at HH
 dsimp only [Tk.val] at HH ⊢
 have hf4 := tf4 (.int .i64 kind) (.string text) (.int .i64 nn) (.int .u64 bits_) (.int .i64 pos)
 go_enter Tryz.func45, Tryz.ntmps45
 go_wp2_with fail
 refine HH.mono ?_
 rintro e w1 ⟨rfl, hb⟩
 have HB := Zb hb
 clear hb HH ht
 go_wp2_with fail
 exact ⟨rfl, rfl, HB.out⟩
def tx (L : List Tk) (i : Nat) : ByteArray := (Zk L i).text
def has (L : List Tk) (i : Nat) (ts : List ByteArray) : Bool := Lib.containsS ts (tx L i)
theorem Ys {w : World} {p : List Addr} {g gT : Nat} {L : List Tk} {i l : Nat} (h : Ps w p g gT L i l) (zs : List ByteArray) (n : Nat) (cs : Array Value) (hcs : cs = (zs.map Value.string).toArray) (hz : zs.length = n) (hn : n <= 100) :
 Calls Tryz.prog 92 #[.pointer (some ⟨g, 0, none⟩), .slice (some ⟨w.heap.size, 0, none⟩) n n] (w.alloc (.cells cs 9)) fun e w' => e = .returned (.bool (has L i zs)) /\ Below w.heap.size w w' := by
 refine (sees_any (h.below (Zd w _)) w.heap.size n n zs hz hn (fun j hj => ?_)).mono ?_
 · refine Zf (B_ w _) j _ ?_
   subst hcs
   simp [hj]
 · rintro e w' ⟨h1, h2⟩
   exact ⟨h1, Zc (Zd w _) h2⟩
theorem taken_yes {w : World} {p : List Addr} {g gT : Nat} {L : List Tk} {i l : Nat} (h : Ps w p g gT L i l) (text : ByteArray) (ht : has L i [text] = true) (hi : i + 1 < L.length) :
 Calls Tryz.prog 161 #[.pointer (some ⟨g, 0, none⟩), .string text] w fun e w' => e = .returned (.bool true) /\ Ps w' p g gT L (i + 1) l /\ Tn g w w' := by
 have H := Zb h
 clear h
 go_enter Tryz.func161, Tryz.ntmps161
 go_wp2_with fail
 refine (Ys H.out [text] 1 _ rfl rfl (by omega)).mono ?_
 rintro e w1 ⟨rfl, hb⟩
 rw [ht]
 have H1 := Zb (H.out.below hb)
 have T1 := Zb (Tn.of_bel (g := g) hb)
 clear hb ht
 obtain ⟨cap, _, c1, c2, cf, _, _⟩ := H1.out.cells
 have f1 := cf 1
 have hL := H1.out.len
 clear cf
 go_wp2_with fail
 go_ret
 obtain ⟨r1, r2⟩ := H1.out.set (i + 1) hi ((i : Int) + 1) (by omega)
 exact ⟨rfl, r1, T1.out.trans r2⟩
theorem taken_no {w : World} {p : List Addr} {g gT : Nat} {L : List Tk} {i l : Nat} (h : Ps w p g gT L i l) (text : ByteArray) (ht : has L i [text] = false) :
 Calls Tryz.prog 161 #[.pointer (some ⟨g, 0, none⟩), .string text] w fun e w' => e = .returned (.bool false) /\ Below w.heap.size w w' := by
 have H := Zb h
 clear h
 go_enter Tryz.func161, Tryz.ntmps161
 go_wp2_with fail
 refine (Ys H.out [text] 1 _ rfl rfl (by omega)).mono ?_
 rintro e w1 ⟨rfl, hb⟩
 rw [ht]
 have HB := Zb hb
 clear hb ht
 go_wp2_with fail
 go_ret
 exact ⟨rfl, HB.out⟩
theorem take_yes {w : World} {p : List Addr} {g gT : Nat} {L : List Tk} {i l : Nat} (h : Ps w p g gT L i l) (b c : Nat) (text : ByteArray) (hc : w.cell? ⟨b, 0, none⟩ = some (.string text)) (ht : has L i [text] = true) (hi : i + 1 < L.length) :
 Calls Tryz.prog 123 #[.pointer (some ⟨g, 0, none⟩), .slice (some ⟨b, 0, none⟩) 1 c] w fun e w' => e = .returned (.tuple #[]) /\ Ps w' p g gT L (i + 1) l /\ Tn g w w' := by
 have H := Zb h
 clear h
 go_enter Tryz.func123, Tryz.ntmps123
 go_wp2_with fail
 refine wp_loop_rounds 2 ?_
 rw [rounds_succ]
 go_wp2_with fail
 refine (Ys H.out [text] 1 _ rfl rfl (by omega)).mono ?_
 rintro e w1 ⟨rfl, hb⟩
 rw [ht]
 have H1 := Zb (H.out.below hb)
 have T1 := Zb (Tn.of_bel (g := g) hb)
 clear hb ht hc
 obtain ⟨cap, _, c1, c2, cf, _, _⟩ := H1.out.cells
 have f1 := cf 1
 have hL := H1.out.len
 clear cf
 go_wp2_with fail
 rw [rounds_succ]
 go_wp2_with fail
 go_end0
 obtain ⟨r1, r2⟩ := H1.out.set (i + 1) hi ((i : Int) + 1) (by omega)
 exact ⟨rfl, r1, T1.out.trans r2⟩
theorem take_no {w : World} {p : List Addr} {g gT : Nat} {L : List Tk} {i l : Nat} (h : Ps w p g gT L i l) (b c : Nat) (text : ByteArray) (hc : w.cell? ⟨b, 0, none⟩ = some (.string text)) (ht : has L i [text] = false) :
 Calls Tryz.prog 123 #[.pointer (some ⟨g, 0, none⟩), .slice (some ⟨b, 0, none⟩) 1 c] w fun e w' => e = stop (errV p 1) (Zk L i).pos /\ Tn g w w' := by
 have H := Zb h
 clear h
 go_enter Tryz.func123, Tryz.ntmps123
 go_wp2_with fail
 refine wp_loop_rounds 2 ?_
 rw [rounds_succ]
 go_wp2_with fail
 refine (Ys H.out [text] 1 _ rfl rfl (by omega)).mono ?_
 rintro e w1 ⟨rfl, hb⟩
 rw [ht]
 have H1 := Zb (H.out.below hb)
 have T1 := Zb (Tn.of_bel (g := g) hb)
 have x1 := H1.out.er.c1
 clear hb ht hc
 go_wp2_with fail
 refine (refuse_at H1.out _ _).mono ?_
 rintro e w2 ⟨rfl, hb2⟩
 exact ⟨rfl, rfl, T1.out.trans (Tn.of_bel hb2)⟩
theorem end_any {w : World} {p : List Addr} {g gT : Nat} {L : List Tk} {i l : Nat} (h : Ps w p g gT L i l) (hl : 0 < l) (hl2 : l <= 16) :
 Calls Tryz.prog 200 #[.pointer (some ⟨g, 0, none⟩)] w fun e w' => e = .returned (.tuple #[]) /\ Ps w' p g gT L i (l - 1) /\ Tn g w w' := by
 have H1 := Zb h
 clear h
 obtain ⟨cap, _, c1, c2, cf, _, _⟩ := H1.out.cells
 have f1 := cf 2
 have hL := H1.out.len
 clear cf
 go_enter Tryz.func200, Tryz.ntmps200
 go_wp2_with fail
 go_end0
 obtain ⟨r1, r2⟩ := H1.out.setL (l - 1) ((l : Int) - 1) (by omega)
 exact ⟨rfl, r1, r2⟩
theorem Rowt.lt {w : World} {g : Nat} {ts : List Tk} (h : Rowt w g ts) : g < w.heap.size := by
 obtain ⟨cur, hc, _⟩ := h.blk
 exact Ze hc
theorem takeKind_no {w : World} {p : List Addr} {g gT : Nat} {L : List Tk} {i l : Nat} (h : Ps w p g gT L i l) (k : Nat) (ht : ¬ (Zk L i).kind = k) :
 Calls Tryz.prog 160 #[.pointer (some ⟨g, 0, none⟩), .int .i64 k] w fun e w' => e = stop (errV p 1) (Zk L i).pos /\ Tn g w w' := by
 have hb0 := Zb (Zd w tokZ)
 have hz0 : Hid (Tok (w.alloc tokZ) w.heap.size (.int .i64 0) (.string ⟨#[]⟩) (.int .i64 0) (.int .u64 0) (.int .i64 0)) := B_ _ _
 have H0 := Zb (h.below hb0.out)
 have hgl := h.lt_g
 have hT := h.row.lt
 have HH := Zb (Zp H0.out)
 have RF := Zb (fun w (h : Ps w p g gT L i l) => refuse_at h)
 clear h
 unfold tokZ at *
 generalize Zk L i = tk at *
 obtain ⟨kind, text, nn, bits_, pos⟩ := tk
 dsimp only [Tk.val] at *
 have ht : ((kind : Int) != (k : Int)) = true := by simpa using (fun h : (kind : Int) = (k : Int) => ht (by omega))
 go_enter Tryz.func160, Tryz.ntmps160
 go_wp2_with fail
 generalize w.alloc _ = w0 at *
 refine HH.out.mono ?_
 rintro e w1 ⟨rfl, hb1⟩
 clear HH
 have hb2 := Zd w1 (.cells #[.int .i64 kind, .string text, .int .i64 nn, .int .u64 bits_, .int .i64 pos] 80)
 have H1 := Zb (H0.out.below (Zc hb1 hb2))
 have T1 := Zb (Zc hb0.out (Zc hb1 hb2))
 have x1 := H1.out.er.c1
 clear hb1 hb2 hb0 hz0 H0
 go_wp2_with fail
 refine (RF.out _ H1.out _ _).mono ?_
 rintro e w2 ⟨rfl, hb2⟩
 exact ⟨rfl, rfl, Tn.of_bel (Zc T1.out hb2)⟩
theorem takeKind_yes {w : World} {p : List Addr} {g gT : Nat} {L : List Tk} {i l : Nat} (h : Ps w p g gT L i l) (k : Nat) (ht : (Zk L i).kind = k) (hi : i + 1 < L.length) :
 Calls Tryz.prog 160 #[.pointer (some ⟨g, 0, none⟩), .int .i64 k] w fun e w' => e = .returned (Zk L i).val /\ Ps w' p g gT L (i + 1) l /\ Tn g w w' := by
 have hb0 := Zb (Zd w tokZ)
 have hz0 : Hid (Tok (w.alloc tokZ) w.heap.size (.int .i64 0) (.string ⟨#[]⟩) (.int .i64 0) (.int .u64 0) (.int .i64 0)) := B_ _ _
 have H0 := Zb (h.below hb0.out)
 have hgl := h.lt_g
 have hT := h.row.lt
 have HH := Zb (Zp H0.out)
 clear h
 unfold tokZ at *
 generalize Zk L i = tk at *
 obtain ⟨kind, text, nn, bits_, pos⟩ := tk
 dsimp only [Tk.val] at *
 subst ht
 go_enter Tryz.func160, Tryz.ntmps160
 go_wp2_with fail
 generalize w.alloc _ = w0 at *
 refine HH.out.mono ?_
 rintro e w1 ⟨rfl, hb1⟩
 clear HH
 have hb2 := Zd w1 (.cells #[.int .i64 kind, .string text, .int .i64 nn, .int .u64 bits_, .int .i64 pos] 80)
 have H1 := Zb (H0.out.below (Zc hb1 hb2))
 have T1 := Zb (Zc hb0.out (Zc hb1 hb2))
 have zt : Tok (w1.alloc (.cells #[.int .i64 kind, .string text, .int .i64 nn, .int .u64 bits_, .int .i64 pos] 80)) w1.heap.size (.int .i64 kind) (.string text) (.int .i64 nn) (.int .u64 bits_) (.int .i64 pos) := B_ _ _
 have hw1 : w.heap.size < w1.heap.size := Nat.lt_of_lt_of_le (Ze hz0.out) hb1.size
 obtain ⟨r1, r2⟩ := H1.out.set (i + 1) hi ((i : Int) + 1) (by omega)
 have Z1 := Zb (((hz0.out.bel hb1).bel hb2).tn r2 (by omega))
 have Y1 := Zb (zt.tn r2 (by omega))
 have T2 := Zb ((Tn.of_bel (g := g) T1.out).trans r2)
 have H2 := Zb r1
 obtain ⟨cap, _, c1, c2, cf, _, _⟩ := H1.out.cells
 have f1 := cf 1
 have hL := H1.out.len
 obtain ⟨⟨f0, f1', f2, f3, f4⟩, b0, b1, b2, b3, b4⟩ := Z1.out.all
 obtain ⟨⟨_, _, _, _, _⟩, d0, d1, d2, d3, d4⟩ := Y1.out.all
 obtain ⟨z3, s3⟩ := set5 Z1.out (.int .i64 kind) (.string text) (.int .i64 nn) (.int .u64 bits_) (.int .i64 pos)
 have Z3 := Zb z3
 have S3 := Zb s3
 clear cf hb1 hb2 H0 hb0 hz0 r1 r2 T1 Z1 z3 s3 zt Y1
 go_wp2_with fail
 refine Yy w.heap.size rfl rfl Z3.out rfl ?_
 exact ⟨rfl, H2.out.tn S3.out (by have := H2.out.big; omega) (by omega) (by omega), T2.out.own S3.out (Nat.le_refl _)⟩
theorem take_new {w : World} {p : List Addr} {g gT : Nat} {L : List Tk} {i l : Nat} (h : Ps w p g gT L i l) (text : ByteArray) (ht : has L i [text] = true) (hi : i + 1 < L.length) :
 Calls Tryz.prog 123 #[.pointer (some ⟨g, 0, none⟩), .slice (some ⟨w.heap.size, 0, none⟩) 1 1] (w.alloc (.cells #[.string text] 9)) fun e w' => e = .returned (.tuple #[]) /\ Ps w' p g gT L (i + 1) l /\ Tn g w w' := by
 refine (take_yes (h.below (Zd w _)) w.heap.size 1 text (Zf (B_ w _) 0 _ rfl) ht hi).mono ?_
 rintro e w' ⟨h1, h2, h3⟩
 exact ⟨h1, h2, (Tn.of_bel (Zd w _)).trans h3⟩
theorem take_not {w : World} {p : List Addr} {g gT : Nat} {L : List Tk} {i l : Nat} (h : Ps w p g gT L i l) (text : ByteArray) (ht : has L i [text] = false) :
 Calls Tryz.prog 123 #[.pointer (some ⟨g, 0, none⟩), .slice (some ⟨w.heap.size, 0, none⟩) 1 1] (w.alloc (.cells #[.string text] 9)) fun e w' => e = stop (errV p 1) (Zk L i).pos /\ Tn g w w' := by
 refine (take_no (h.below (Zd w _)) w.heap.size 1 text (Zf (B_ w _) 0 _ rfl) ht).mono ?_
 rintro e w' ⟨h1, h3⟩
 exact ⟨h1, (Tn.of_bel (Zd w _)).trans h3⟩
theorem word_yes {w : World} {p : List Addr} {g gT : Nat} {L : List Tk} {i l : Nat} (h : Ps w p g gT L i l) (ht : (Zk L i).kind = 1) (hi : i + 1 < L.length) :
 Calls Tryz.prog 120 #[.pointer (some ⟨g, 0, none⟩)] w fun e w' => e = .returned (.string (tx L i)) /\ Ps w' p g gT L (i + 1) l /\ Tn g w w' := by
 have HH := Zb (takeKind_yes h 1 ht hi)
 clear h ht
 unfold tx
 generalize Zk L i = tk at *
 obtain ⟨kind, text, nn, bits_, pos⟩ := tk
 dsimp only [Tk.val] at *
 have hf1 := tf1 (.int .i64 kind) (.string text) (.int .i64 nn) (.int .u64 bits_) (.int .i64 pos)
 go_enter Tryz.func120, Tryz.ntmps120
 go_wp2_with fail
 refine HH.out.mono ?_
 rintro e w1 ⟨rfl, r1, r2⟩
 have R := Zb (And.intro r1 r2)
 clear r1 r2 HH
 go_wp2_with fail
 go_ret
 exact ⟨rfl, R.out⟩
theorem word_no {w : World} {p : List Addr} {g gT : Nat} {L : List Tk} {i l : Nat} (h : Ps w p g gT L i l) (ht : ¬ (Zk L i).kind = 1) :
 Calls Tryz.prog 120 #[.pointer (some ⟨g, 0, none⟩)] w fun e w' => e = stop (errV p 1) (Zk L i).pos /\ Tn g w w' := by
 have HH := Zb (takeKind_no h 1 ht)
 clear h ht
 go_enter Tryz.func120, Tryz.ntmps120
 go_wp2_with fail
 refine HH.out.mono ?_
 rintro e w1 ⟨rfl, r2⟩
 exact ⟨rfl, rfl, r2⟩
theorem begin_no {w : World} {p : List Addr} {g gT : Nat} {L : List Tk} {i l : Nat} (h : Ps w p g gT L i l) (text : ByteArray) (ht : has L i [text] = false) :
 Calls Tryz.prog 199 #[.pointer (some ⟨g, 0, none⟩), .string text] w fun e w' => e = stop (errV p 1) (Zk L i).pos /\ Tn g w w' := by
 have H := Zb h
 clear h
 have HT := Zb ht
 go_enter Tryz.func199, Tryz.ntmps199
 go_wp2_with fail
 refine (Ys H.out [text] 1 _ rfl rfl (by omega)).mono ?_
 rintro e w1 ⟨rfl, hb⟩
 rw [ht]
 have H1 := Zb (H.out.below hb)
 have T1 := Zb (Tn.of_bel (g := g) hb)
 clear hb ht
 go_wp2_with fail
 refine (take_not H1.out text HT.out).mono ?_
 rintro e w2 ⟨rfl, r2⟩
 exact ⟨rfl, rfl, T1.out.trans r2⟩
theorem begin_deep {w : World} {p : List Addr} {g gT : Nat} {L : List Tk} {i l : Nat} (h : Ps w p g gT L i l) (text : ByteArray) (ht : has L i [text] = true) (hl : l = 16) :
 Calls Tryz.prog 199 #[.pointer (some ⟨g, 0, none⟩), .string text] w fun e w' => e = stop (errV p 2) (Zk L i).pos /\ Tn g w w' := by
 have H := Zb h
 clear h
 have HT := Zb ht
 subst hl
 go_enter Tryz.func199, Tryz.ntmps199
 go_wp2_with fail
 refine (Ys H.out [text] 1 _ rfl rfl (by omega)).mono ?_
 rintro e w1 ⟨rfl, hb⟩
 rw [ht]
 have H1 := Zb (H.out.below hb)
 have T1 := Zb (Tn.of_bel (g := g) hb)
 clear hb ht
 obtain ⟨cap, _, _, c2, _, _, _⟩ := H1.out.cells
 have x1 := H1.out.ed
 go_wp2_with fail
 refine (refuse_at H1.out _ _).mono ?_
 rintro e w2 ⟨rfl, hb2⟩
 exact ⟨rfl, rfl, T1.out.trans (Tn.of_bel hb2)⟩
theorem begin_yes {w : World} {p : List Addr} {g gT : Nat} {L : List Tk} {i l : Nat} (h : Ps w p g gT L i l) (text : ByteArray) (ht : has L i [text] = true) (hi : i + 1 < L.length) (hl : l < 16) :
 Calls Tryz.prog 199 #[.pointer (some ⟨g, 0, none⟩), .string text] w fun e w' => e = .returned (.tuple #[]) /\ Ps w' p g gT L (i + 1) (l + 1) /\ Tn g w w' := by
 have H := Zb h
 clear h
 have HT := Zb ht
 go_enter Tryz.func199, Tryz.ntmps199
 go_wp2_with fail
 refine (Ys H.out [text] 1 _ rfl rfl (by omega)).mono ?_
 rintro e w1 ⟨rfl, hb⟩
 rw [ht]
 have H1 := Zb (H.out.below hb)
 have T1 := Zb (Tn.of_bel (g := g) hb)
 clear hb ht
 obtain ⟨cap, _, _, c2, _, _, _⟩ := H1.out.cells
 have hl2 : ((l : Int) == 16) = false := by simp; omega
 go_wp2_with fail
 refine (take_new H1.out text HT.out hi).mono ?_
 rintro e w2 ⟨rfl, r1, r2⟩
 have H2 := Zb r1
 have T2 := Zb (T1.out.trans r2)
 clear r1 r2 T1 H1 c2
 obtain ⟨cap, _, _, c2, cf, _, _⟩ := H2.out.cells
 have f2 := cf 2
 clear cf hl2
 go_wp2_with fail
 go_end0
 obtain ⟨r1, r2⟩ := H2.out.setL (l + 1) ((l : Int) + 1) (by omega)
 exact ⟨rfl, r1, T2.out.trans r2⟩
inductive Nd where
 | mk (kind pos : Int) (name : ByteArray) (type n size obj bits : Int) (kids : List Nd)
def Nd.kind : Nd -> Int | .mk k _ _ _ _ _ _ _ _ => k
def Nd.pos : Nd -> Int | .mk _ p _ _ _ _ _ _ _ => p
def Nd.name : Nd -> ByteArray | .mk _ _ s _ _ _ _ _ _ => s
def Nd.kids : Nd -> List Nd | .mk _ _ _ _ _ _ _ _ ks => ks
def cD (w : World) (g i : Nat) : Value := (w.cell? ⟨g, i, none⟩).getD undef
def Yq (w : World) (g o : Nat) : Value := .agg #[cD w g o, cD w g (o + 1), cD w g (o + 2), cD w g (o + 3), cD w g (o + 4), cD w g (o + 5), cD w g (o + 6), cD w g (o + 7), cD w g (o + 8)]
mutual
/-- a value is a tree, whose rows of kids lie in blocks of S -/
def Zj (w : World) (S : Nat -> Prop) : Nd -> Value -> Prop
 | .mk k p nm t n z o b ks, v => ∃ s, v = .agg #[.int .i64 k, .int .i64 p, .string nm, .int .i64 t, .int .i64 n, .int .i64 z, .int .i64 o, .int .u64 b, s] /\ Zt w S ks s
def Zt (w : World) (S : Nat -> Prop) : List Nd -> Value -> Prop
 | [], s => s = .slice none 0 0
 | n :: ks, s => ∃ g cap cur, s = .slice (some ⟨g, 0, none⟩) (ks.length + 1) cap /\ S g /\ w.heap[g]? = some (.cells cur 29 (0, 0)) /\ ks.length + 1 <= cap /\ cap <= maxLen /\ cur.size = cap * 9 /\ Zj w S n (Yq w g 0) /\ ZW w S g 9 ks
def ZW (w : World) (S : Nat -> Prop) (g o : Nat) : List Nd -> Prop
 | [] => True
 | n :: ks => Zj w S n (Yq w g o) /\ ZW w S g (o + 9) ks
end
theorem cD_eq {w w' : World} {g : Nat} (h : w'.heap[g]? = w.heap[g]?) (i : Nat) : cD w' g i = cD w g i := by
 unfold cD
 simp only [World.cell?, h]
theorem nodeAt_eq {w w' : World} {g : Nat} (h : w'.heap[g]? = w.heap[g]?) (o : Nat) : Yq w' g o = Yq w g o := by
 unfold Yq
 simp only [cD_eq h]
mutual
theorem Zj.keep {w w' : World} {S S' : Nat -> Prop} (hB : ∀ k, S k -> S' k) (h : ∀ k, S k -> k < w.heap.size -> w'.heap[k]? = w.heap[k]?) : ∀ (n : Nd) (v : Value), Zj w S n v -> Zj w' S' n v
 | .mk _ _ _ _ _ _ _ _ ks, v, hn => by
  unfold Zj at hn ⊢
  obtain ⟨s, h1, h2⟩ := hn
  exact ⟨s, h1, Zt.keep hB h ks s h2⟩
theorem Zt.keep {w w' : World} {S S' : Nat -> Prop} (hB : ∀ k, S k -> S' k) (h : ∀ k, S k -> k < w.heap.size -> w'.heap[k]? = w.heap[k]?) : ∀ (ks : List Nd) (s : Value), Zt w S ks s -> Zt w' S' ks s
 | [], _, hn => by
  unfold Zt at hn ⊢
  exact hn
 | n :: ks, s, hn => by
  unfold Zt at hn ⊢
  obtain ⟨g, cap, cur, h1, h2, h3, h4, h5, h6, h7, h8⟩ := hn
  have hk := h g h2 (Ze h3)
  refine ⟨g, cap, cur, h1, hB _ h2, hk.trans h3, h4, h5, h6, ?_, ZW.keep hB h g 9 hk ks h8⟩
  rw [nodeAt_eq hk]
  exact Zj.keep hB h n _ h7
theorem ZW.keep {w w' : World} {S S' : Nat -> Prop} (hB : ∀ k, S k -> S' k) (h : ∀ k, S k -> k < w.heap.size -> w'.heap[k]? = w.heap[k]?) (g o : Nat) (hk : w'.heap[g]? = w.heap[g]?) : ∀ (ks : List Nd), ZW w S g o ks -> ZW w' S' g o ks
 | [], _ => by
  unfold ZW
  trivial
 | n :: ks, hn => by
  unfold ZW at hn ⊢
  refine ⟨?_, ZW.keep hB h g (o + 9) hk ks hn.2⟩
  rw [nodeAt_eq hk]
  exact Zj.keep hB h n _ hn.1
end
def Fr (B k : Nat) : Prop := B <= k
theorem Zj.lowS {w : World} {S S' : Nat -> Prop} {n : Nd} {v : Value} (h : Zj w S n v) (hB : ∀ k, S k -> S' k) : Zj w S' n v :=
 Zj.keep hB (fun _ _ _ => rfl) n v h
theorem Zj.low {w : World} {B B' : Nat} {n : Nd} {v : Value} (h : Zj w (Fr B) n v) (hB : B' <= B) : Zj w (Fr B') n v :=
 h.lowS (fun _ h => Nat.le_trans hB h)
theorem Zt.tnS {w w' : World} {S : Nat -> Prop} {g : Nat} {n : List Nd} {v : Value} (h : Zt w S n v) (t : Tn g w w') (hg : ¬ S g) : Zt w' S n v :=
 Zt.keep (fun _ h => h) (fun k h1 h2 => t.blk k h2 (fun e => hg (e ▸ h1))) n v h
theorem Zt.tn {w w' : World} {B g : Nat} {n : List Nd} {v : Value} (h : Zt w (Fr B) n v) (t : Tn g w w') (hg : g < B) : Zt w' (Fr B) n v :=
 h.tnS t (fun e => Nat.not_lt.2 e hg)
theorem Zt.bel {w w' : World} {S : Nat -> Prop} {n : List Nd} {v : Value} (h : Zt w S n v) (t : Below w.heap.size w w') : Zt w' S n v :=
 Zt.keep (fun _ h => h) (fun k _ h2 => t.block k h2) n v h
theorem Zt.lowS {w : World} {S S' : Nat -> Prop} {n : List Nd} {v : Value} (h : Zt w S n v) (hB : ∀ k, S k -> S' k) : Zt w S' n v :=
 Zt.keep hB (fun _ _ _ => rfl) n v h
theorem Zt.low {w : World} {B B' : Nat} {n : List Nd} {v : Value} (h : Zt w (Fr B) n v) (hB : B' <= B) : Zt w (Fr B') n v :=
 h.lowS (fun _ h => Nat.le_trans hB h)
def Nod (w : World) (g : Nat) (v0 v1 v2 v3 v4 v5 v6 v7 v8 : Value) : Prop := w.heap[g]? = some (.cells #[v0, v1, v2, v3, v4, v5, v6, v7, v8] 29 (0, 0))
theorem Zy {w : World} {g : Nat} {x0 x1 x2 x3 x4 x5 x6 x7 x8 : Value} (h : Nod w g x0 x1 x2 x3 x4 x5 x6 x7 x8) (v0 v1 v2 v3 v4 v5 v6 v7 v8 : Value) :
 Nod (((((((((w.setCell ⟨g, 0, none⟩ v0).setCell ⟨g, 1, none⟩ v1).setCell ⟨g, 2, none⟩ v2).setCell ⟨g, 3, none⟩ v3).setCell ⟨g, 4, none⟩ v4).setCell ⟨g, 5, none⟩ v5).setCell ⟨g, 6, none⟩ v6).setCell ⟨g, 7, none⟩ v7).setCell ⟨g, 8, none⟩ v8) g v0 v1 v2 v3 v4 v5 v6 v7 v8 ∧
 Tn g w (((((((((w.setCell ⟨g, 0, none⟩ v0).setCell ⟨g, 1, none⟩ v1).setCell ⟨g, 2, none⟩ v2).setCell ⟨g, 3, none⟩ v3).setCell ⟨g, 4, none⟩ v4).setCell ⟨g, 5, none⟩ v5).setCell ⟨g, 6, none⟩ v6).setCell ⟨g, 7, none⟩ v7).setCell ⟨g, 8, none⟩ v8) := by
 obtain ⟨h0, t0⟩ := Zs h 0 v0
 have h0 : Nod _ g v0 x1 x2 x3 x4 x5 x6 x7 x8 := h0
 obtain ⟨h1, t1⟩ := Zs h0 1 v1
 have h1 : Nod _ g v0 v1 x2 x3 x4 x5 x6 x7 x8 := h1
 obtain ⟨h2, t2⟩ := Zs h1 2 v2
 have h2 : Nod _ g v0 v1 v2 x3 x4 x5 x6 x7 x8 := h2
 obtain ⟨h3, t3⟩ := Zs h2 3 v3
 have h3 : Nod _ g v0 v1 v2 v3 x4 x5 x6 x7 x8 := h3
 obtain ⟨h4, t4⟩ := Zs h3 4 v4
 have h4 : Nod _ g v0 v1 v2 v3 v4 x5 x6 x7 x8 := h4
 obtain ⟨h5, t5⟩ := Zs h4 5 v5
 have h5 : Nod _ g v0 v1 v2 v3 v4 v5 x6 x7 x8 := h5
 obtain ⟨h6, t6⟩ := Zs h5 6 v6
 have h6 : Nod _ g v0 v1 v2 v3 v4 v5 v6 x7 x8 := h6
 obtain ⟨h7, t7⟩ := Zs h6 7 v7
 have h7 : Nod _ g v0 v1 v2 v3 v4 v5 v6 v7 x8 := h7
 obtain ⟨h8, t8⟩ := Zs h7 8 v8
 have h8 : Nod _ g v0 v1 v2 v3 v4 v5 v6 v7 v8 := h8
 exact ⟨h8, (((((((t0.trans t1).trans t2).trans t3).trans t4).trans t5).trans t6).trans t7).trans t8⟩
theorem Zg {fn : Func} {R : Ending -> World -> Prop} {a : Act} {w : World} {p : Tmp} (g : Nat) {v0 v1 v2 v3 v4 v5 v6 v7 v8 : Value} (hf : fn.results = #[.cell p 29]) (hp : a.tmps.getD p undef = .pointer (some ⟨g, 0, none⟩))
    (h : Nod w g v0 v1 v2 v3 v4 v5 v6 v7 v8) (hdf : a.defers = []) (hR : R (.returned (.agg #[v0, v1, v2, v3, v4, v5, v6, v7, v8])) w) : bodyPost Tryz.prog fn R .ret a w :=
  bodyPost_ret (by
    have hp' : a.tmps[p]?.getD undef = .pointer (some ⟨g, 0, none⟩) := by simpa using hp
    have cz0 := Zf h 0 _ rfl
    have cz1 := Zf h 1 _ rfl
    have cz2 := Zf h 2 _ rfl
    have cz3 := Zf h 3 _ rfl
    have cz4 := Zf h 4 _ rfl
    have cz5 := Zf h 5 _ rfl
    have cz6 := Zf h 6 _ rfl
    have cz7 := Zf h 7 _ rfl
    have cz8 := Zf h 8 _ rfl
    simp [results, hf, hp', go_sem, cz0, cz1, cz2, cz3, cz4, cz5, cz6, cz7, cz8]) hdf hR
theorem Nod.all {w : World} {g : Nat} {v0 v1 v2 v3 v4 v5 v6 v7 v8 : Value} (h : Nod w g v0 v1 v2 v3 v4 v5 v6 v7 v8) :
 (w.frozen? ⟨g, 0, none⟩ = false /\ w.frozen? ⟨g, 1, none⟩ = false /\ w.frozen? ⟨g, 2, none⟩ = false /\ w.frozen? ⟨g, 3, none⟩ = false /\ w.frozen? ⟨g, 4, none⟩ = false /\ w.frozen? ⟨g, 5, none⟩ = false /\ w.frozen? ⟨g, 6, none⟩ = false /\ w.frozen? ⟨g, 7, none⟩ = false /\ w.frozen? ⟨g, 8, none⟩ = false) ∧
 w.cell? ⟨g, 0, none⟩ = some v0 /\ w.cell? ⟨g, 1, none⟩ = some v1 /\ w.cell? ⟨g, 2, none⟩ = some v2 /\ w.cell? ⟨g, 3, none⟩ = some v3 /\ w.cell? ⟨g, 4, none⟩ = some v4 /\ w.cell? ⟨g, 5, none⟩ = some v5 /\ w.cell? ⟨g, 6, none⟩ = some v6 /\ w.cell? ⟨g, 7, none⟩ = some v7 /\ w.cell? ⟨g, 8, none⟩ = some v8 :=
 ⟨⟨Zi h 0, Zi h 1, Zi h 2, Zi h 3, Zi h 4, Zi h 5, Zi h 6, Zi h 7, Zi h 8⟩, Zf h 0 _ rfl, Zf h 1 _ rfl, Zf h 2 _ rfl, Zf h 3 _ rfl, Zf h 4 _ rfl, Zf h 5 _ rfl, Zf h 6 _ rfl, Zf h 7 _ rfl, Zf h 8 _ rfl⟩
theorem Nod.tn {w w' : World} {g n : Nat} {v0 v1 v2 v3 v4 v5 v6 v7 v8 : Value} (h : Nod w g v0 v1 v2 v3 v4 v5 v6 v7 v8) (t : Tn n w w') (hn : g ≠ n) : Nod w' g v0 v1 v2 v3 v4 v5 v6 v7 v8 := (t.blk g (Ze h) hn).trans h
theorem Nod.bel {w w' : World} {g : Nat} {v0 v1 v2 v3 v4 v5 v6 v7 v8 : Value} (h : Nod w g v0 v1 v2 v3 v4 v5 v6 v7 v8) (hb : Below w.heap.size w w') : Nod w' g v0 v1 v2 v3 v4 v5 v6 v7 v8 := (hb.block g (Ze h)).trans h
theorem Nod.drew {w : World} {g : Nat} {v0 v1 v2 v3 v4 v5 v6 v7 v8 : Value} (h : Nod w g v0 v1 v2 v3 v4 v5 v6 v7 v8) : Nod w.drew g v0 v1 v2 v3 v4 v5 v6 v7 v8 := h
theorem Ps.drew {w : World} {p : List Addr} {g gT : Nat} {L : List Tk} {i l : Nat} (h : Ps w p g gT L i l) : Ps w.drew p g gT L i l := h.drewN 1
theorem Tn.drew {g : Nat} {a b : World} (h : Tn g a b) : Tn g a b.drew := h.drewN 1
def Zh : Obj := .cells #[.int .i64 0, .int .i64 0, .string ⟨#[]⟩, .int .i64 0, .int .i64 0, .int .i64 0, .int .i64 0, .int .u64 0, .slice none 0 0] 29
inductive Out where
 | ok (n : Nd) (j : Nat)
 | bad (k j : Nat)
def Zo (p : List Addr) (g gT : Nat) (L : List Tk) (l : Nat) (w : World) (e : Ending) (w' : World) : Out -> Prop
 | .ok n j => ∃ v, e = .returned v /\ Zj w' (Fr w.heap.size) n v /\ Ps w' p g gT L j l /\ Tn g w w'
 | .bad k j => e = stop (errV p k) (Zk L j).pos /\ Tn g w w'
end Go.Proofs.YtfnplhfjfolojaaGreatDoor.Ck
namespace Go.Proofs.YtfnplhfjfolojaaGreatDoor.Ck.Sho
open Go.RowKit
def codeStop (p : List Addr) : Ending := .panicked [{ v := errV p 8, recovered := false }]
def Gt (p : List Addr) (w : World) (ok : Bool) (r : Value) (e : Ending) (w' : World) : Prop := e = (if ok = true then .returned r else codeStop p) /\ Below w.heap.size w w'
theorem Gt.both {p : List Addr} {w : World} {ok : Bool} {r : Value} {e : Ending} {w' : World} (h : Gt p w ok r e w') : (ok = true /\ e = .returned r /\ Below w.heap.size w w') ∨ (ok = false /\ e = codeStop p /\ Below w.heap.size w w') := by
 cases ok with
 | true => exact .inl ⟨rfl, h.1, h.2⟩
 | false => exact .inr ⟨rfl, h.1, h.2⟩
theorem Gt.yes {p : List Addr} {w : World} {ok : Bool} {r : Value} {w' : World} (h : ok = true) (hb : Below w.heap.size w w') : Gt p w ok r (.returned r) w' := ⟨by rw [if_pos h], hb⟩
theorem Gt.no {p : List Addr} {w : World} {ok : Bool} {r : Value} {w' : World} (h : ok = false) (hb : Below w.heap.size w w') : Gt p w ok r (codeStop p) w' := ⟨by rw [if_neg (by simp [h])], hb⟩
def Cd (w : World) (p : List Addr) : Prop := w.cell? ⟨0, 0, none⟩ = some (errV p 8)
theorem Cd.bel {w w' : World} {p : List Addr} (h : Cd w p) (hb : Below w.heap.size w w') : Cd w' p := (hb.cell (p := ⟨0, 0, none⟩) (World.block_lt_of_cell? w _ h)).trans h
theorem ZP (w : World) : Calls Tryz.prog 37 #[.bool true] w fun e w' => e = .returned (.tuple #[]) /\ w' = w := by
 go_enter Tryz.func37, Tryz.ntmps37
 go_wp2_with fail
 go_end0
 exact ⟨rfl, rfl⟩
theorem Yb {w : World} {p : List Addr} (h : Cd w p) : Calls Tryz.prog 37 #[.bool false] w fun e w' => e = codeStop p /\ w' = w := by
 unfold Cd errV at h
 go_enter Tryz.func37, Tryz.ntmps37
 go_wp2_with fail
 exact ⟨rfl, rfl, rfl⟩
theorem need_any {w : World} {p : List Addr} (h : Cd w p) (b : Bool) : Calls Tryz.prog 37 #[.bool b] w fun e w' => Gt p w b (.tuple #[]) e w' := by
 cases b with
 | true => exact (ZP w).mono (fun e w' hh => by rw [hh.1, hh.2]; exact Gt.yes rfl (Below.refl _ _))
 | false => exact (Yb h).mono (fun e w' hh => by rw [hh.1, hh.2]; exact Gt.no rfl (Below.refl _ _))
def ZH (nm : ByteArray) (t nz z ob bi : Int) (len : Nat) : Bool := nm.toList == [] && (t == 0 && (nz == 0 && (z == 0 && (ob == 0 && (bi == 0 && len == 0)))))
theorem Zl {w : World} {p : List Addr} (hc : Cd w p) (kd ps : Int) (nm : ByteArray) (t nz z ob bi : Int) (oa : Option Addr) (len cap : Nat) :
    Calls Tryz.prog 38 #[.agg #[.int .i64 kd, .int .i64 ps, .string nm, .int .i64 t, .int .i64 nz, .int .i64 z, .int .i64 ob, .int .u64 bi, .slice oa len cap]] w fun e w' => Gt p w (ZH nm t nz z ob bi len) (.tuple #[]) e w' := by
  have C0 := Zb (fun o => hc.bel (Zd w o))
  have B0 := Zb (fun o => Zd w o)
  clear hc
  obtain ⟨out, ho⟩ : ∃ out, ZH nm t nz z ob bi len = out := ⟨_, rfl⟩
  rw [ho]
  have HO := Zb ho
  clear ho
  unfold ZH at HO
  go_enter Tryz.func38, Tryz.ntmps38
  go_wp2_with fail
  all_goals
    refine (need_any (C0.out _) _).mono ?_
    intro e w2 hp
    rcases hp.both with ⟨h1, rfl, hb⟩ | ⟨h1, rfl, hb⟩
    · first
      | (cases h1; done)
      | (go_wp2_with fail
         go_end0
         exact Gt.yes (by rw [← HO.out]; simp_all) (Zc (B0.out _) hb))
    · first
      | (cases h1; done)
      | exact ⟨rfl, Gt.no (by rw [← HO.out]; simp_all) (Zc (B0.out _) hb)⟩
end Go.Proofs.YtfnplhfjfolojaaGreatDoor.Ck.Sho
namespace Go.Proofs.YtfnplhfjfolojaaGreatDoor.Ck
open Go.RowKit
theorem Yt {w : World} {p : List Addr} {g gT : Nat} {L : List Tk} {i l : Nat} (h : Ps w p g gT L i l) (k : Int) (hi : i + 1 < L.length) :
 Calls Tryz.prog 119 #[.pointer (some ⟨g, 0, none⟩), .int .i64 k] w fun e w' => e = .returned (.agg #[.int .i64 k, .int .i64 (Zk L i).pos, .string ⟨#[]⟩, .int .i64 0, .int .i64 0, .int .i64 0, .int .i64 0, .int .u64 0, .slice none 0 0]) /\ Ps w' p g gT L (i + 1) l /\ Tn g w w' := by
 have hb0 := Zb (Zd w Zh)
 have hz0 : Hid (Nod (w.alloc Zh) w.heap.size (.int .i64 0) (.int .i64 0) (.string ⟨#[]⟩) (.int .i64 0) (.int .i64 0) (.int .i64 0) (.int .i64 0) (.int .u64 0) (.slice none 0 0)) := B_ _ _
 have H0 := Zb (h.below hb0.out)
 have hgl := h.lt_g
 have hT := h.row.lt
 have HH := Zb (Zp H0.out)
 clear h
 unfold Zh at *
 generalize Zk L i = tk at *
 obtain ⟨kind, text, nn, bits_, pos⟩ := tk
 dsimp only [Tk.val] at *
 have hf4 := tf4 (.int .i64 kind) (.string text) (.int .i64 nn) (.int .u64 bits_) (.int .i64 pos)
 go_enter Tryz.func119, Tryz.ntmps119
 go_wp2_with fail
 generalize w.alloc _ = w0 at *
 refine HH.out.mono ?_
 rintro e w1 ⟨rfl, hb1⟩
 clear HH
 have hb2 := Zd w1 (.cells #[.int .i64 k, .int .i64 pos, .string ⟨#[]⟩, .int .i64 0, .int .i64 0, .int .i64 0, .int .i64 0, .int .u64 0, .slice none 0 0] 29)
 have H1 := Zb (H0.out.below (Zc hb1 hb2))
 have T1 := Zb (Zc hb0.out (Zc hb1 hb2))
 have zt : Nod (w1.alloc (.cells #[.int .i64 k, .int .i64 pos, .string ⟨#[]⟩, .int .i64 0, .int .i64 0, .int .i64 0, .int .i64 0, .int .u64 0, .slice none 0 0] 29)) w1.heap.size (.int .i64 k) (.int .i64 pos) (.string ⟨#[]⟩) (.int .i64 0) (.int .i64 0) (.int .i64 0) (.int .i64 0) (.int .u64 0) (.slice none 0 0) := B_ _ _
 have hw1 : w.heap.size < w1.heap.size := Nat.lt_of_lt_of_le (Ze hz0.out) hb1.size
 obtain ⟨r1, r2⟩ := H1.out.set (i + 1) hi ((i : Int) + 1) (by omega)
 have Z1 := Zb (((hz0.out.bel hb1).bel hb2).tn r2 (by omega))
 have Y1 := Zb (zt.tn r2 (by omega))
 have T2 := Zb ((Tn.of_bel (g := g) T1.out).trans r2)
 have H2 := Zb r1
 obtain ⟨cap, _, c1, c2, cf, _, _⟩ := H1.out.cells
 have f1 := cf 1
 have hL := H1.out.len
 obtain ⟨⟨f0, fa1, f2, f3, f4, f5, f6, f7, f8⟩, b0, b1, b2, b3, b4, b5, b6, b7, b8⟩ := Z1.out.all
 obtain ⟨_, d0, d1, d2, d3, d4, d5, d6, d7, d8⟩ := Y1.out.all
 obtain ⟨z3, s3⟩ := Zy Z1.out (.int .i64 k) (.int .i64 pos) (.string ⟨#[]⟩) (.int .i64 0) (.int .i64 0) (.int .i64 0) (.int .i64 0) (.int .u64 0) (.slice none 0 0)
 have Z3 := Zb z3
 have S3 := Zb s3
 clear cf hb1 hb2 H0 hb0 hz0 r1 r2 T1 Z1 z3 s3 zt Y1
 go_wp2_with fail
 refine Zg w.heap.size rfl rfl Z3.out rfl ?_
 exact ⟨rfl, H2.out.tn S3.out (by have := H2.out.big; omega) (by omega) (by omega), T2.out.own S3.out (Nat.le_refl _)⟩
theorem truth_any {w : World} {p : List Addr} {g gT : Nat} {L : List Tk} {i l : Nat} (h : Ps w p g gT L i l) (b : Int) (hi : i + 1 < L.length) :
 Calls Tryz.prog 247 #[.pointer (some ⟨g, 0, none⟩), .int .i64 b] w fun e w' => e = .returned (.agg #[.int .i64 27, .int .i64 (Zk L i).pos, .string ⟨#[]⟩, .int .i64 0, .int .i64 b, .int .i64 0, .int .i64 0, .int .u64 0, .slice none 0 0]) /\ Ps w' p g gT L (i + 1) l /\ Tn g w w' := by
 have hb0 := Zb (Zd w Zh)
 have hz0 : Hid (Nod (w.alloc Zh) w.heap.size (.int .i64 0) (.int .i64 0) (.string ⟨#[]⟩) (.int .i64 0) (.int .i64 0) (.int .i64 0) (.int .i64 0) (.int .u64 0) (.slice none 0 0)) := B_ _ _
 have H0 := Zb (h.below hb0.out)
 have hgl := h.lt_g
 have hT := h.row.lt
 have HH := Zb (Yt H0.out 27 hi)
 clear h
 unfold Zh at *
 generalize (Zk L i).pos = pos at *
 go_enter Tryz.func247, Tryz.ntmps247
 go_wp2_with fail
 generalize w.alloc _ = w0 at *
 refine HH.out.mono ?_
 rintro e w1 ⟨rfl, r1, r2⟩
 have hb2 := Zd w1 (.cells #[.int .i64 27, .int .i64 pos, .string ⟨#[]⟩, .int .i64 0, .int .i64 b, .int .i64 0, .int .i64 0, .int .u64 0, .slice none 0 0] 29)
 have H1 := Zb (r1.below hb2)
 have T1 := Zb (((Tn.of_bel (g := g) hb0.out).trans r2).trans (Tn.of_bel hb2))
 have Z1 := Zb ((hz0.out.tn r2 (by omega)).bel hb2)
 obtain ⟨⟨f0, fa1, f2, f3, f4, f5, f6, f7, f8⟩, b0, b1, b2, b3, b4, b5, b6, b7, b8⟩ := Z1.out.all
 obtain ⟨z3, s3⟩ := Zy Z1.out (.int .i64 27) (.int .i64 pos) (.string ⟨#[]⟩) (.int .i64 0) (.int .i64 b) (.int .i64 0) (.int .i64 0) (.int .u64 0) (.slice none 0 0)
 have Z3 := Zb z3
 have S3 := Zb s3
 clear HH hb0 hz0 H0 r1 r2 hb2 Z1 z3 s3
 go_wp2_with fail
 refine Zg w.heap.size rfl rfl Z3.out rfl ?_
 exact ⟨rfl, H1.out.tn S3.out (by have := H1.out.big; omega) (by omega) (by omega), T1.out.own S3.out (Nat.le_refl _)⟩
theorem number_any {w : World} {p : List Addr} {g gT : Nat} {L : List Tk} {i l : Nat} (h : Ps w p g gT L i l) (k : Int) (hi : i + 1 < L.length) :
 Calls Tryz.prog 246 #[.pointer (some ⟨g, 0, none⟩), .int .i64 k] w fun e w' => e = .returned (.agg #[.int .i64 k, .int .i64 (Zk L i).pos, .string ⟨#[]⟩, .int .i64 0, .int .i64 (Zk L i).n, .int .i64 0, .int .i64 0, .int .u64 (Zk L i).bits, .slice none 0 0]) /\ Ps w' p g gT L (i + 1) l /\ Tn g w w' := by
 have hb0 := Zb (Zd w Zh)
 have hz0 : Hid (Nod (w.alloc Zh) w.heap.size (.int .i64 0) (.int .i64 0) (.string ⟨#[]⟩) (.int .i64 0) (.int .i64 0) (.int .i64 0) (.int .i64 0) (.int .u64 0) (.slice none 0 0)) := B_ _ _
 have H0 := Zb (h.below hb0.out)
 have hgl := h.lt_g
 have hT := h.row.lt
 have HH := Zb (Zp H0.out)
 have HO := Zb (fun w (h : Ps w p g gT L i l) => Yt h k hi)
 clear h
 unfold Zh at *
 generalize Zk L i = tk at *
 obtain ⟨kind, text, nn, bits_, pos⟩ := tk
 dsimp only [Tk.val] at *
 go_enter Tryz.func246, Tryz.ntmps246
 go_wp2_with fail
 generalize w.alloc _ = w0 at *
 refine HH.out.mono ?_
 rintro e w1 ⟨rfl, hb1⟩
 have hb2 := Zd w1 (.cells #[.int .i64 kind, .string text, .int .i64 nn, .int .u64 bits_, .int .i64 pos] 80)
 have zt : Hid (Tok (w1.alloc (.cells #[.int .i64 kind, .string text, .int .i64 nn, .int .u64 bits_, .int .i64 pos] 80)) w1.heap.size (.int .i64 kind) (.string text) (.int .i64 nn) (.int .u64 bits_) (.int .i64 pos)) := B_ _ _
 have hw1 : w.heap.size < w1.heap.size := Nat.lt_of_lt_of_le (Ze hz0.out) hb1.size
 have H1 := Zb (H0.out.below (Zc hb1 hb2))
 have T1 := Zb (Zc hb0.out (Zc hb1 hb2))
 have Z1 := Zb ((hz0.out.bel hb1).bel hb2)
 clear HH hb0 hz0 H0 hb1 hb2
 go_wp2_with fail
 generalize w1.alloc _ = w2 at *
 refine (HO.out _ H1.out).mono ?_
 rintro e w3 ⟨rfl, r1, r2⟩
 have hb4 := Zd w3 (.cells #[.int .i64 k, .int .i64 pos, .string ⟨#[]⟩, .int .i64 0, .int .i64 0, .int .i64 0, .int .i64 0, .int .u64 0, .slice none 0 0] 29)
 have x4 : Nod (w3.alloc (.cells #[.int .i64 k, .int .i64 pos, .string ⟨#[]⟩, .int .i64 0, .int .i64 0, .int .i64 0, .int .i64 0, .int .u64 0, .slice none 0 0] 29)) w3.heap.size (.int .i64 k) (.int .i64 pos) (.string ⟨#[]⟩) (.int .i64 0) (.int .i64 0) (.int .i64 0) (.int .i64 0) (.int .u64 0) (.slice none 0 0) := B_ _ _
 have H4 := Zb (r1.below hb4)
 have T4 := Zb (((Tn.of_bel (g := g) T1.out).trans r2).trans (Tn.of_bel hb4))
 have y4 := (zt.out.tn r2 (by omega)).bel hb4
 have Z4 := Zb ((Z1.out.tn r2 (by omega)).bel hb4)
 have hw3 : w1.heap.size < w3.heap.size := Nat.lt_of_lt_of_le (Ze zt.out) r2.size
 clear HO r1 r2 hb4 zt T1 H1 Z1
 go_wp2_with fail
 generalize w3.alloc _ = w4 at *
 generalize w3.heap.size = n3 at *
 generalize w1.heap.size = n1 at *
 obtain ⟨_, d0, d1, d2, d3, d4⟩ := y4.all
 obtain ⟨⟨e0, e1, e2, e3, e4, e5, e6, e7, e8⟩, a0, a1, a2, a3, a4, a5, a6, a7, a8⟩ := x4.all
 obtain ⟨x5, s5⟩ := Zs x4 4 (.int .i64 nn)
 have x5 : Nod _ n3 (.int .i64 k) (.int .i64 pos) (.string ⟨#[]⟩) (.int .i64 0) (.int .i64 nn) (.int .i64 0) (.int .i64 0) (.int .u64 0) (.slice none 0 0) := x5
 have e7' := Zi x5 7
 have a7' := Zf x5 7 _ rfl
 obtain ⟨x6, s6⟩ := Zs x5 7 (.int .u64 bits_)
 have x6 : Nod _ n3 (.int .i64 k) (.int .i64 pos) (.string ⟨#[]⟩) (.int .i64 0) (.int .i64 nn) (.int .i64 0) (.int .i64 0) (.int .u64 bits_) (.slice none 0 0) := x6
 have hne : ¬ n1 = n3 := by omega
 clear d0 d1 d4 e0 e1 e2 e3 e5 e6 e8 a0 a1 a2 a3 a5 a6 a8
 have X6 := Zb x6
 have S6 := Zb (s5.trans s6)
 have k1 : (w4.setCell ⟨n3, 4, none⟩ (.int .i64 nn)).drew.cell? ⟨n1, 2, none⟩ = some (.int .i64 nn) := Zf (y4.tn s5 hne) 2 _ rfl
 have k2 : (w4.setCell ⟨n3, 4, none⟩ (.int .i64 nn)).drew.cell? ⟨n1, 3, none⟩ = some (.int .u64 bits_) := Zf (y4.tn s5 hne) 3 _ rfl
 have k3 : ((w4.setCell ⟨n3, 4, none⟩ (.int .i64 nn)).setCell ⟨n3, 7, none⟩ (.int .u64 bits_)).drew.cell? ⟨n1, 2, none⟩ = some (.int .i64 nn) := Zf (y4.tn (s5.trans s6) hne) 2 _ rfl
 have k4 : ((w4.setCell ⟨n3, 4, none⟩ (.int .i64 nn)).setCell ⟨n3, 7, none⟩ (.int .u64 bits_)).drew.cell? ⟨n1, 3, none⟩ = some (.int .u64 bits_) := Zf (y4.tn (s5.trans s6) hne) 3 _ rfl
 clear x4 x5 x6 s5 s6 y4
 go_region_held3 (fun w' => w'.cell? ⟨n1, 2, none⟩ = some (.int .i64 nn) /\ w'.cell? ⟨n1, 3, none⟩ = some (.int .u64 bits_)) (first | assumption | exact ⟨k1, k2⟩ | exact ⟨k3, k4⟩ | go_keep) (fail)
 have H6 := Zb (H4.out.tn S6.out (by have := H4.out.big; omega) (by omega) (by omega))
 have T6 := Zb (T4.out.own S6.out (by omega))
 have Z6 := Zb (Z4.out.tn S6.out (by omega))
 clear k1 k2 k3 k4 d2 d3 e4 e7 e7' a4 a7 a7' H4 T4 Z4 S6
 generalize (w4.setCell ⟨n3, 4, none⟩ (.int .i64 nn)).setCell ⟨n3, 7, none⟩ (.int .u64 bits_) = w6 at *
 obtain ⟨⟨f0, fa1, f2, f3, f4, f5, f6, f7, f8⟩, b0, b1, b2, b3, b4, b5, b6, b7, b8⟩ := Z6.out.all
 obtain ⟨_, d0, d1, d2, d3, d4, d5, d6, d7, d8⟩ := X6.out.all
 obtain ⟨z3, s3⟩ := Zy Z6.out (.int .i64 k) (.int .i64 pos) (.string ⟨#[]⟩) (.int .i64 0) (.int .i64 nn) (.int .i64 0) (.int .i64 0) (.int .u64 bits_) (.slice none 0 0)
 have Z3 := Zb z3
 have S3 := Zb s3
 clear z3 s3 Z6 X6
 go_wp2_with fail
 refine Zg w.heap.size rfl rfl Z3.out.drew rfl ?_
 exact ⟨rfl, (H6.out.tn S3.out (by have := H6.out.big; omega) (by omega) (by omega)).drew, (T6.out.own S3.out (Nat.le_refl _)).drew⟩
end Go.Proofs.YtfnplhfjfolojaaGreatDoor.Ck
namespace Go.Proofs.YtfnplhfjfolojaaGreatDoor.Ck.Sho
open Go.RowKit
theorem Yw {w : World} {p : List Addr} (hc : Cd w p) (kd ps : Int) (nm : ByteArray) (t nz z ob bi : Int) (oa : Option Addr) (len cap : Nat) (b : Bool) :
 Calls Tryz.prog 59 #[.agg #[.int .i64 kd, .int .i64 ps, .string nm, .int .i64 t, .int .i64 nz, .int .i64 z, .int .i64 ob, .int .u64 bi, .slice oa len cap], .bool b] w fun e w' => Gt p w b (.agg #[.int .i64 kd, .int .i64 ps, .string ⟨#[]⟩, .int .i64 t, .int .i64 nz, .int .i64 z, .int .i64 ob, .int .u64 bi, .slice oa len cap]) e w' := by
 have hb1 := Zd w (.cells #[.int .i64 kd, .int .i64 ps, .string nm, .int .i64 t, .int .i64 nz, .int .i64 z, .int .i64 ob, .int .u64 bi, .slice oa len cap] 29)
 have k1 : Nod (w.alloc (.cells #[.int .i64 kd, .int .i64 ps, .string nm, .int .i64 t, .int .i64 nz, .int .i64 z, .int .i64 ob, .int .u64 bi, .slice oa len cap] 29)) w.heap.size (.int .i64 kd) (.int .i64 ps) (.string nm) (.int .i64 t) (.int .i64 nz) (.int .i64 z) (.int .i64 ob) (.int .u64 bi) (.slice oa len cap) := B_ _ _
 have s1 : (w.alloc (.cells #[.int .i64 kd, .int .i64 ps, .string nm, .int .i64 t, .int .i64 nz, .int .i64 z, .int .i64 ob, .int .u64 bi, .slice oa len cap] 29)).heap.size = w.heap.size + 1 := by simp
 have hb2 := Zd (w.alloc (.cells #[.int .i64 kd, .int .i64 ps, .string nm, .int .i64 t, .int .i64 nz, .int .i64 z, .int .i64 ob, .int .u64 bi, .slice oa len cap] 29)) Zh
 have k2 : Nod ((w.alloc (.cells #[.int .i64 kd, .int .i64 ps, .string nm, .int .i64 t, .int .i64 nz, .int .i64 z, .int .i64 ob, .int .u64 bi, .slice oa len cap] 29)).alloc Zh) (w.alloc (.cells #[.int .i64 kd, .int .i64 ps, .string nm, .int .i64 t, .int .i64 nz, .int .i64 z, .int .i64 ob, .int .u64 bi, .slice oa len cap] 29)).heap.size (.int .i64 0) (.int .i64 0) (.string ⟨#[]⟩) (.int .i64 0) (.int .i64 0) (.int .i64 0) (.int .i64 0) (.int .u64 0) (.slice none 0 0) := B_ _ _
 rw [s1] at k2
 have B0 := Zb (Zc hb1 hb2)
 have N0 := Zb (k1.bel hb2)
 have Z0 := Zb k2
 have C0 := Zb (hc.bel B0.out)
 clear hc hb1 k1 s1 hb2 k2
 unfold Zh at *
 go_enter Tryz.func59, Tryz.ntmps59
 go_wp2_with fail
 generalize (w.alloc _).alloc _ = w0 at *
 cases b with
 | true =>
  refine (ZP _).mono ?_
  rintro e w1 ⟨rfl, rfl⟩
  obtain ⟨⟨f0, f1, f2, f3, f4, f5, f6, f7, f8⟩, b0, b1, b2, b3, b4, b5, b6, b7, b8⟩ := N0.out.all
  obtain ⟨⟨g0, g1, g2, g3, g4, g5, g6, g7, g8⟩, c0, c1, c2, c3, c4, c5, c6, c7, c8⟩ := Z0.out.all
  obtain ⟨k3, t3⟩ := Zs N0.out 2 (.string ⟨#[]⟩)
  obtain ⟨k4, t4⟩ := Zy (Z0.out.tn t3 (by omega)) (.int .i64 kd) (.int .i64 ps) (.string ⟨#[]⟩) (.int .i64 t) (.int .i64 nz) (.int .i64 z) (.int .i64 ob) (.int .u64 bi) (.slice oa len cap)
  have K4 := Zb k4
  have B4 := Zb ((B0.out.trans (t3.bel (by omega) B0.out.size)).trans (t4.bel (by omega) (Nat.le_trans B0.out.size t3.size)))
  clear k3 t3 k4 t4 N0 Z0 B0 C0
  go_wp2_with fail
  refine Zg (w.heap.size + 1) rfl rfl K4.out rfl ?_
  exact Gt.yes rfl B4.out
 | false =>
  refine (Yb C0.out).mono ?_
  rintro e w1 ⟨rfl, rfl⟩
  exact ⟨rfl, Gt.no rfl B0.out⟩
theorem counted_any {w : World} {p : List Addr} (hc : Cd w p) (kd ps : Int) (nm : ByteArray) (t nz z ob bi : Int) (oa : Option Addr) (len cap : Nat) :
 Calls Tryz.prog 57 #[.agg #[.int .i64 kd, .int .i64 ps, .string nm, .int .i64 t, .int .i64 nz, .int .i64 z, .int .i64 ob, .int .u64 bi, .slice oa len cap]] w fun e w' => Gt p w (decide (0 <= nz)) (.agg #[.int .i64 kd, .int .i64 ps, .string nm, .int .i64 t, .int .i64 0, .int .i64 z, .int .i64 ob, .int .u64 bi, .slice oa len cap]) e w' := by
 have hb1 := Zd w (.cells #[.int .i64 kd, .int .i64 ps, .string nm, .int .i64 t, .int .i64 nz, .int .i64 z, .int .i64 ob, .int .u64 bi, .slice oa len cap] 29)
 have k1 : Nod (w.alloc (.cells #[.int .i64 kd, .int .i64 ps, .string nm, .int .i64 t, .int .i64 nz, .int .i64 z, .int .i64 ob, .int .u64 bi, .slice oa len cap] 29)) w.heap.size (.int .i64 kd) (.int .i64 ps) (.string nm) (.int .i64 t) (.int .i64 nz) (.int .i64 z) (.int .i64 ob) (.int .u64 bi) (.slice oa len cap) := B_ _ _
 have s1 : (w.alloc (.cells #[.int .i64 kd, .int .i64 ps, .string nm, .int .i64 t, .int .i64 nz, .int .i64 z, .int .i64 ob, .int .u64 bi, .slice oa len cap] 29)).heap.size = w.heap.size + 1 := by simp
 have hb2 := Zd (w.alloc (.cells #[.int .i64 kd, .int .i64 ps, .string nm, .int .i64 t, .int .i64 nz, .int .i64 z, .int .i64 ob, .int .u64 bi, .slice oa len cap] 29)) Zh
 have k2 : Nod ((w.alloc (.cells #[.int .i64 kd, .int .i64 ps, .string nm, .int .i64 t, .int .i64 nz, .int .i64 z, .int .i64 ob, .int .u64 bi, .slice oa len cap] 29)).alloc Zh) (w.alloc (.cells #[.int .i64 kd, .int .i64 ps, .string nm, .int .i64 t, .int .i64 nz, .int .i64 z, .int .i64 ob, .int .u64 bi, .slice oa len cap] 29)).heap.size (.int .i64 0) (.int .i64 0) (.string ⟨#[]⟩) (.int .i64 0) (.int .i64 0) (.int .i64 0) (.int .i64 0) (.int .u64 0) (.slice none 0 0) := B_ _ _
 rw [s1] at k2
 have B0 := Zb (Zc hb1 hb2)
 have N0 := Zb (k1.bel hb2)
 have Z0 := Zb k2
 have C0 := Zb (hc.bel B0.out)
 clear hc hb1 k1 s1 hb2 k2
 unfold Zh at *
 go_enter Tryz.func57, Tryz.ntmps57
 by_cases hn : 0 <= nz
 · have hd : decide (0 <= nz) = true := decide_eq_true hn
   go_wp2_with fail
   generalize (w.alloc _).alloc _ = w0 at *
   refine (ZP _).mono ?_
   rintro e w1 ⟨rfl, rfl⟩
   obtain ⟨⟨f0, f1, f2, f3, f4, f5, f6, f7, f8⟩, b0, b1, b2, b3, b4, b5, b6, b7, b8⟩ := N0.out.all
   obtain ⟨⟨g0, g1, g2, g3, g4, g5, g6, g7, g8⟩, c0, c1, c2, c3, c4, c5, c6, c7, c8⟩ := Z0.out.all
   obtain ⟨k3, t3⟩ := Zs N0.out 4 (.int .i64 0)
   obtain ⟨k4, t4⟩ := Zy (Z0.out.tn t3 (by omega)) (.int .i64 kd) (.int .i64 ps) (.string nm) (.int .i64 t) (.int .i64 0) (.int .i64 z) (.int .i64 ob) (.int .u64 bi) (.slice oa len cap)
   have K4 := Zb k4
   have B4 := Zb ((B0.out.trans (t3.bel (by omega) B0.out.size)).trans (t4.bel (by omega) (Nat.le_trans B0.out.size t3.size)))
   clear k3 t3 k4 t4 N0 Z0 B0 C0
   go_wp2_with fail
   refine Zg (w.heap.size + 1) rfl rfl K4.out rfl ?_
   exact Gt.yes hd B4.out
 · have hd : decide (0 <= nz) = false := decide_eq_false hn
   go_wp2_with fail
   generalize (w.alloc _).alloc _ = w0 at *
   refine (Yb C0.out).mono ?_
   rintro e w1 ⟨rfl, rfl⟩
   exact ⟨rfl, Gt.no hd B0.out⟩
theorem typed_any {w : World} {p : List Addr} (hc : Cd w p) (kd ps : Int) (nm : ByteArray) (t nz z ob bi : Int) (oa : Option Addr) (len cap : Nat) :
 Calls Tryz.prog 67 #[.agg #[.int .i64 kd, .int .i64 ps, .string nm, .int .i64 t, .int .i64 nz, .int .i64 z, .int .i64 ob, .int .u64 bi, .slice oa len cap]] w fun e w' => Gt p w (t == 1 || (t == 2 || t == 3)) (.agg #[.int .i64 kd, .int .i64 ps, .string nm, .int .i64 0, .int .i64 nz, .int .i64 z, .int .i64 ob, .int .u64 bi, .slice oa len cap]) e w' := by
 have hb1 := Zd w (.cells #[.int .i64 kd, .int .i64 ps, .string nm, .int .i64 t, .int .i64 nz, .int .i64 z, .int .i64 ob, .int .u64 bi, .slice oa len cap] 29)
 have k1 : Nod (w.alloc (.cells #[.int .i64 kd, .int .i64 ps, .string nm, .int .i64 t, .int .i64 nz, .int .i64 z, .int .i64 ob, .int .u64 bi, .slice oa len cap] 29)) w.heap.size (.int .i64 kd) (.int .i64 ps) (.string nm) (.int .i64 t) (.int .i64 nz) (.int .i64 z) (.int .i64 ob) (.int .u64 bi) (.slice oa len cap) := B_ _ _
 have s1 : (w.alloc (.cells #[.int .i64 kd, .int .i64 ps, .string nm, .int .i64 t, .int .i64 nz, .int .i64 z, .int .i64 ob, .int .u64 bi, .slice oa len cap] 29)).heap.size = w.heap.size + 1 := by simp
 have hb2 := Zd (w.alloc (.cells #[.int .i64 kd, .int .i64 ps, .string nm, .int .i64 t, .int .i64 nz, .int .i64 z, .int .i64 ob, .int .u64 bi, .slice oa len cap] 29)) Zh
 have k2 : Nod ((w.alloc (.cells #[.int .i64 kd, .int .i64 ps, .string nm, .int .i64 t, .int .i64 nz, .int .i64 z, .int .i64 ob, .int .u64 bi, .slice oa len cap] 29)).alloc Zh) (w.alloc (.cells #[.int .i64 kd, .int .i64 ps, .string nm, .int .i64 t, .int .i64 nz, .int .i64 z, .int .i64 ob, .int .u64 bi, .slice oa len cap] 29)).heap.size (.int .i64 0) (.int .i64 0) (.string ⟨#[]⟩) (.int .i64 0) (.int .i64 0) (.int .i64 0) (.int .i64 0) (.int .u64 0) (.slice none 0 0) := B_ _ _
 rw [s1] at k2
 have B0 := Zb (Zc hb1 hb2)
 have N0 := Zb (k1.bel hb2)
 have Z0 := Zb k2
 have C0 := Zb (hc.bel B0.out)
 clear hc hb1 k1 s1 hb2 k2
 unfold Zh at *
 go_enter Tryz.func67, Tryz.ntmps67
 obtain ⟨okb, hok⟩ : ∃ okb, okb = (t == 1 || (t == 2 || t == 3)) := ⟨_, rfl⟩
 rw [← hok]
 have HOK := Zb hok
 clear hok
 by_cases h1 : t = 1
 · subst h1
   have hok : okb = true := HOK.out.trans (by decide)
   subst hok
   go_wp2_with fail
   generalize (w.alloc _).alloc _ = w0 at *
   refine (ZP _).mono ?_
   rintro e w1 ⟨rfl, rfl⟩
   obtain ⟨⟨f0, f1, f2, f3, f4, f5, f6, f7, f8⟩, b0, b1, b2, b3, b4, b5, b6, b7, b8⟩ := N0.out.all
   obtain ⟨⟨g0, g1, g2, g3, g4, g5, g6, g7, g8⟩, c0, c1, c2, c3, c4, c5, c6, c7, c8⟩ := Z0.out.all
   obtain ⟨k3, t3⟩ := Zs N0.out 3 (.int .i64 0)
   obtain ⟨k4, t4⟩ := Zy (Z0.out.tn t3 (by omega)) (.int .i64 kd) (.int .i64 ps) (.string nm) (.int .i64 0) (.int .i64 nz) (.int .i64 z) (.int .i64 ob) (.int .u64 bi) (.slice oa len cap)
   have K4 := Zb k4
   have B4 := Zb ((B0.out.trans (t3.bel (by omega) B0.out.size)).trans (t4.bel (by omega) (Nat.le_trans B0.out.size t3.size)))
   clear k3 t3 k4 t4 N0 Z0 B0 C0
   go_wp2_with fail
   refine Zg (w.heap.size + 1) rfl rfl K4.out rfl ?_
   exact Gt.yes rfl B4.out
 by_cases h2 : t = 2
 · subst h2
   have hok : okb = true := HOK.out.trans (by decide)
   subst hok
   go_wp2_with fail
   generalize (w.alloc _).alloc _ = w0 at *
   refine (ZP _).mono ?_
   rintro e w1 ⟨rfl, rfl⟩
   obtain ⟨⟨f0, f1, f2, f3, f4, f5, f6, f7, f8⟩, b0, b1, b2, b3, b4, b5, b6, b7, b8⟩ := N0.out.all
   obtain ⟨⟨g0, g1, g2, g3, g4, g5, g6, g7, g8⟩, c0, c1, c2, c3, c4, c5, c6, c7, c8⟩ := Z0.out.all
   obtain ⟨k3, t3⟩ := Zs N0.out 3 (.int .i64 0)
   obtain ⟨k4, t4⟩ := Zy (Z0.out.tn t3 (by omega)) (.int .i64 kd) (.int .i64 ps) (.string nm) (.int .i64 0) (.int .i64 nz) (.int .i64 z) (.int .i64 ob) (.int .u64 bi) (.slice oa len cap)
   have K4 := Zb k4
   have B4 := Zb ((B0.out.trans (t3.bel (by omega) B0.out.size)).trans (t4.bel (by omega) (Nat.le_trans B0.out.size t3.size)))
   clear k3 t3 k4 t4 N0 Z0 B0 C0
   go_wp2_with fail
   refine Zg (w.heap.size + 1) rfl rfl K4.out rfl ?_
   exact Gt.yes rfl B4.out
 by_cases h3 : t = 3
 · subst h3
   have hok : okb = true := HOK.out.trans (by decide)
   subst hok
   go_wp2_with fail
   generalize (w.alloc _).alloc _ = w0 at *
   refine (ZP _).mono ?_
   rintro e w1 ⟨rfl, rfl⟩
   obtain ⟨⟨f0, f1, f2, f3, f4, f5, f6, f7, f8⟩, b0, b1, b2, b3, b4, b5, b6, b7, b8⟩ := N0.out.all
   obtain ⟨⟨g0, g1, g2, g3, g4, g5, g6, g7, g8⟩, c0, c1, c2, c3, c4, c5, c6, c7, c8⟩ := Z0.out.all
   obtain ⟨k3, t3⟩ := Zs N0.out 3 (.int .i64 0)
   obtain ⟨k4, t4⟩ := Zy (Z0.out.tn t3 (by omega)) (.int .i64 kd) (.int .i64 ps) (.string nm) (.int .i64 0) (.int .i64 nz) (.int .i64 z) (.int .i64 ob) (.int .u64 bi) (.slice oa len cap)
   have K4 := Zb k4
   have B4 := Zb ((B0.out.trans (t3.bel (by omega) B0.out.size)).trans (t4.bel (by omega) (Nat.le_trans B0.out.size t3.size)))
   clear k3 t3 k4 t4 N0 Z0 B0 C0
   go_wp2_with fail
   refine Zg (w.heap.size + 1) rfl rfl K4.out rfl ?_
   exact Gt.yes rfl B4.out
 have hok : okb = false := HOK.out.trans (by simp [h1, h2, h3])
 subst hok
 have d1 : (t == 1) = false := by simp [h1]
 have d2 : (t == 2) = false := by simp [h2]
 have d3 : (t == 3) = false := by simp [h3]
 go_wp2_with fail
 generalize (w.alloc _).alloc _ = w0 at *
 refine (Yb C0.out).mono ?_
 rintro e w1 ⟨rfl, rfl⟩
 exact ⟨rfl, Gt.no rfl B0.out⟩
def sgnF (nm : ByteArray) : Bool := nm.toList == [45] || nm.toList == [33]
def prefF (nm : ByteArray) : Bool := sgnF nm || (nm.toList == [105, 110, 116] || nm.toList == [102, 108, 111, 97, 116])
def rankF (nm : ByteArray) : Int :=
 if nm.toList = [124, 124] then 1 else if nm.toList = [38, 38] then 2
 else if nm.toList = [61, 61] ∨ nm.toList = [33, 61] ∨ nm.toList = [60] ∨ nm.toList = [60, 61] ∨ nm.toList = [62] ∨ nm.toList = [62, 61] then 3
 else if nm.toList = [43] ∨ nm.toList = [45] then 4
 else if nm.toList = [42] ∨ nm.toList = [47] ∨ nm.toList = [37] then 5 else 0
theorem sign_any (nm : ByteArray) (w : World) : Calls Tryz.prog 95 #[.string nm] w fun e w' => e = .returned (.bool (sgnF nm)) /\ w = w' := by
 go_enter Tryz.func95, Tryz.ntmps95
 go_wp2_with fail
 all_goals
  go_ret
  refine ⟨congrArg Ending.returned (congrArg Value.bool ?_), rfl⟩
  simp_all [sgnF]
theorem prefix_any (nm : ByteArray) (w : World) : Calls Tryz.prog 60 #[.string nm] w fun e w' => e = .returned (.bool (prefF nm)) /\ w = w' := by
 go_enter Tryz.func60, Tryz.ntmps60
 go_wp2_with (first | (go_at_call 95; refine (sign_any _ _).mono ?_; rintro e w' ⟨rfl, rfl⟩))
 all_goals
  go_ret
  refine ⟨congrArg Ending.returned (congrArg Value.bool ?_), rfl⟩
  simp_all [prefF]
theorem rank_any (nm : ByteArray) (w : World) : Calls Tryz.prog 61 #[.string nm] w fun e w' => e = .returned (.int .i64 (rankF nm)) /\ w = w' := by
 go_enter Tryz.func61, Tryz.ntmps61
 go_wp2_with fail
 all_goals
  go_ret
  refine ⟨congrArg Ending.returned (congrArg (Value.int .i64) ?_), rfl⟩
  simp_all [rankF]
def holdF (kd : Int) (nm : ByteArray) : Int := if kd = 31 then rankF nm else 6
theorem Yu (w : World) (kd ps : Int) (nm : ByteArray) (t nz z ob bi : Int) (oa : Option Addr) (len cap : Nat) : Calls Tryz.prog 142 #[.agg #[.int .i64 kd, .int .i64 ps, .string nm, .int .i64 t, .int .i64 nz, .int .i64 z, .int .i64 ob, .int .u64 bi, .slice oa len cap]] w fun e w' => e = .returned (.int .i64 (holdF kd nm)) /\ Below w.heap.size w w' := by
 have B0 := Zb (fun o => Zd w o)
 unfold holdF
 go_enter Tryz.func142, Tryz.ntmps142
 go_wp2_with (first | (go_at_call 61; refine (rank_any _ _).mono ?_; rintro e w' ⟨rfl, rfl⟩))
 all_goals
  go_ret
  refine ⟨congrArg Ending.returned (congrArg (Value.int .i64) ?_), B0.out _⟩
  simp_all
end Go.Proofs.YtfnplhfjfolojaaGreatDoor.Ck.Sho
namespace Go.Proofs.YtfnplhfjfolojaaGreatDoor.Ck
open Go.RowKit
theorem Yv {w : World} {ops : Array Oper} {rest : List Oper} {o : Oper} {a : Act} {Q : Exit -> Act -> World -> Prop} (s x : Operand) (v vx : Value) (R : Value -> World -> Prop)
 (hrun : ∀ ty, ∃ v' w', (Builtin.append_ #[27, 27] ty #[v, vx]).run Tryz.prog w = .ok v' w' /\ R v' w') (hgd : o.guard = none)
 (ho : o.op = .call { callee := .builtin .append, args := #[s, x], argTypes := #[27, 27] }) (hs : a.eval s = v) (hx : a.eval x = vx)
 (h : ∀ v' w', R v' w' -> wpList Tryz.prog ops Q rest (a.put o.dst v') w') : wpList Tryz.prog ops Q (o :: rest) a w :=
 wpList_plain hgd fun _ hK => by
  obtain ⟨v', w', hr, hR⟩ := hrun o.type
  unfold Oper.wp execOp
  simp only [ho, resolve, invoke, builtin, Sem.run_bind, Sem.run_pure, Result.andThen_ok, List.map_toArray, List.map_cons, List.map_nil, hs, hx, hr]
  exact hK _ _ (h v' w' hR)
theorem info_nod : (Tryz.prog.info? 29).map (fun i => (i.zero, i.size, i.bytes)) = some (some (.agg #[.int .i64 0, .int .i64 0, .string ⟨#[]⟩, .int .i64 0, .int .i64 0, .int .i64 0, .int .i64 0, .int .u64 0, .slice none 0 0]), 9, 96) := by kernel_rfl
theorem Zt.one {w : World} {B : Nat -> Prop} : ∀ {ks : List Nd} {s : Value}, Zt w B ks s -> s.oneCell' = true
 | [], _, h => by
  unfold Zt at h
  rw [h]
  rfl
 | _ :: _, _, h => by
  unfold Zt at h
  obtain ⟨g, cap, cur, rfl, _⟩ := h
  rfl
theorem push1 {w : World} {B b c : Nat} (hB : B <= w.heap.size) {k p : Int} {nm : ByteArray} {t n z o bits_ : Int} {ks : List Nd} {s : Value} (hk : Zt w (Fr B) ks s)
 (hb : w.heap[b]? = some (.cells #[.int .i64 k, .int .i64 p, .string nm, .int .i64 t, .int .i64 n, .int .i64 z, .int .i64 o, .int .u64 bits_, s] 29 (0, 0))) (ty : TypeId) :
 ∃ v' w', (Builtin.append_ #[27, 27] ty #[.slice none 0 0, .slice (some ⟨b, 0, none⟩) 1 c]).run Tryz.prog w = .ok v' w' /\ (Zt w' (Fr B) [.mk k p nm t n z o bits_ ks] v' /\ Below w.heap.size w w') := by
 obtain ⟨ie, hi, hz0, hz1, hz2⟩ := info_parts info_nod
 have hn : ∀ j u, ([.int .i64 k, .int .i64 p, .string nm, .int .i64 t, .int .i64 n, .int .i64 z, .int .i64 o, .int .u64 bits_, s] : List Value)[j]? = some u -> w.cell? ((⟨b, 0, none⟩ : Addr).add j) = some u := fun j u hu => by
  have e2 : (Addr.mk b 0 none).add j = ⟨b, j, none⟩ := by unfold Addr.add; by_cases h : j = 0 <;> simp [h]
  rw [e2]
  exact Zf hb j u (by rw [← hu]; simp)
 have h1 : ∀ u ∈ ([.int .i64 k, .int .i64 p, .string nm, .int .i64 t, .int .i64 n, .int .i64 z, .int .i64 o, .int .u64 bits_, s] : List Value), u.oneCell' = true := fun u hu => by
  simp at hu
  rcases hu with rfl | rfl | rfl | rfl | rfl | rfl | rfl | rfl | rfl
  all_goals first | rfl | exact hk.one
 obtain ⟨v', w', hr, ho, hg, hne⟩ := run_append_own (P := Tryz.prog) w B 27 ty 29 ie (.agg #[.int .i64 0, .int .i64 0, .string ⟨#[]⟩, .int .i64 0, .int .i64 0, .int .i64 0, .int .i64 0, .int .u64 0, .slice none 0 0]) 9 96 Tryz.underlying27 hi hz0 hz1 hz2 rfl (by decide) (.slice none 0 0) 0 [] ⟨rfl, .inl ⟨rfl, rfl⟩⟩ ⟨b, 0, none⟩ 1 c _ rfl hn h1 (by unfold maxLen; omega) (by omega) hB
 have hbel : Below w.heap.size w w' := (Below.refl _ _).grown hg (Nat.le_refl _) (fun k hk => by cases hk)
 refine ⟨v', w', hr, ?_, hbel⟩
 rcases ho.2 with ⟨_, h0⟩ | ⟨g, cap, cur, hv, hBg, hc, hl1, hl2, hl3, hl4⟩
 · simp at h0
 · have hcell : ∀ j u, ([.int .i64 k, .int .i64 p, .string nm, .int .i64 t, .int .i64 n, .int .i64 z, .int .i64 o, .int .u64 bits_, s] : List Value)[j]? = some u -> cD w' g j = u := fun j u hu => by
    unfold cD
    rw [Zf hc j u ?_]
    · rfl
    · have hj : j < (0 + 1) * 9 := by
       have := (List.getElem?_eq_some_iff.1 hu).1
       simpa using this
      rw [← Array.getElem?_toList, ← List.getElem?_take_of_lt hj, hl4]
      exact hu
   unfold Zt
   refine ⟨g, cap, cur, by rw [hv]; rfl, hBg, hc, by simpa using hl1, hl2, hl3, ?_, by unfold ZW; trivial⟩
   unfold Zj
   refine ⟨s, ?_, hk.bel hbel⟩
   unfold Yq
   rw [hcell 0 _ rfl, hcell (0 + 1) _ rfl, hcell (0 + 2) _ rfl, hcell (0 + 3) _ rfl, hcell (0 + 4) _ rfl, hcell (0 + 5) _ rfl, hcell (0 + 6) _ rfl, hcell (0 + 7) _ rfl, hcell (0 + 8) _ rfl]
def ZS (K : Nat) (p : List Addr) (g gT : Nat) (L : List Tk) (l i : Nat) (o : Out) : Prop :=
 ∀ w, Ps w p g gT L i l -> Calls Tryz.prog K #[.pointer (some ⟨g, 0, none⟩)] w fun e w' => Zo p g gT L l w e w' o
def PostK (p : List Addr) (g gT : Nat) (L : List Tk) (l : Nat) (w : World) (e : Ending) (w' : World) : Out -> Prop
 | .ok n j => ∃ s, e = .returned s /\ Zt w' (Fr w.heap.size) [n] s /\ Ps w' p g gT L j l /\ Tn g w w'
 | .bad k j => e = stop (errV p k) (Zk L j).pos /\ Tn g w w'
theorem all_treeparserexpr {w : World} {p : List Addr} {g gT : Nat} {L : List Tk} {i l : Nat} (h : Ps w p g gT L i l) (b c : Nat) (out : Out) (hr : ZS 32 p g gT L l i out) (hc : w.cell? ⟨b, 0, none⟩ = some (.func (.func 32) #[.pointer (some ⟨g, 0, none⟩)] #[])) :
 Calls Tryz.prog 228 #[.pointer (some ⟨g, 0, none⟩), .slice (some ⟨b, 0, none⟩) 1 c] w fun e w' => PostK p g gT L l w e w' out := by
 have H := Zb h
 clear h
 have HR := Zb hr
 clear hr
 cases out with
 | bad k j =>
  go_enter Tryz.func228, Tryz.ntmps228
  go_wp2_with fail
  refine wp_loop_rounds 2 ?_
  rw [rounds_succ]
  go_wp2_with fail
  refine (HR.out _ H.out).mono ?_
  rintro e w1 ⟨rfl, r2⟩
  exact ⟨rfl, rfl, r2⟩
 | ok n j =>
  go_enter Tryz.func228, Tryz.ntmps228
  go_wp2_with fail
  refine wp_loop_rounds 2 ?_
  rw [rounds_succ]
  go_wp2_with fail
  refine (HR.out _ H.out).mono ?_
  rintro e w1 ⟨v, rfl, hv, r1, r2⟩
  obtain ⟨kd, ps, nm, t, nn, z, o, bi, ks⟩ := n
  unfold Zj at hv
  obtain ⟨s, rfl, hs⟩ := hv
  have hb2 := Zd w1 (.cells #[.int .i64 kd, .int .i64 ps, .string nm, .int .i64 t, .int .i64 nn, .int .i64 z, .int .i64 o, .int .u64 bi, s] 29)
  have PU := Zb (fun ty => push1 (c := 1) (Nat.le_trans r2.size hb2.size) (hs.bel hb2) (B_ w1 _) ty)
  have R2 := Zb (And.intro (r1.below hb2) (r2.trans (Tn.of_bel hb2)))
  clear hs hb2 r1 r2 H HR hc
  go_wp2_with (first | (at_builtin; refine Yv (.tmp 14) (.tmp 17) _ _ _ PU.out rfl rfl rfl rfl ?_; rintro v7 w7 ⟨o7, t7⟩))
  have R7 := Zb (And.intro o7 (And.intro (R2.out.1.below t7) (R2.out.2.trans (Tn.of_bel t7))))
  clear o7 t7 PU R2
  rw [rounds_succ]
  go_wp2_with fail
  go_ret
  exact ⟨_, rfl, R7.out⟩
theorem YB {w : World} {p : List Addr} {g gT : Nat} {L : List Tk} {i l : Nat} (h : Ps w p g gT L i l) (out : Out) (hr : ZS 32 p g gT L l i out) :
 Calls Tryz.prog 228 #[.pointer (some ⟨g, 0, none⟩), .slice (some ⟨w.heap.size, 0, none⟩) 1 1] (w.alloc (.cells #[.func (.func 32) #[.pointer (some ⟨g, 0, none⟩)] #[]] 68)) fun e w' => PostK p g gT L l w e w' out := by
 refine (all_treeparserexpr (h.below (Zd w _)) w.heap.size 1 out hr (Zf (B_ w _) 0 _ rfl)).mono ?_
 intro e w' h1
 have hb := Zd w (.cells #[.func (.func 32) #[.pointer (some ⟨g, 0, none⟩)] #[]] 68)
 cases out with
 | bad k j => exact ⟨h1.1, (Tn.of_bel hb).trans h1.2⟩
 | ok n j =>
  obtain ⟨s, h2, h3, h4, h5⟩ := h1
  exact ⟨s, h2, h3.low hb.size, h4, (Tn.of_bel hb).trans h5⟩
theorem all_treeparserunary {w : World} {p : List Addr} {g gT : Nat} {L : List Tk} {i l : Nat} (h : Ps w p g gT L i l) (b c : Nat) (out : Out) (hr : ZS 205 p g gT L l i out) (hc : w.cell? ⟨b, 0, none⟩ = some (.func (.func 205) #[.pointer (some ⟨g, 0, none⟩)] #[])) :
 Calls Tryz.prog 228 #[.pointer (some ⟨g, 0, none⟩), .slice (some ⟨b, 0, none⟩) 1 c] w fun e w' => PostK p g gT L l w e w' out := by
 have H := Zb h
 clear h
 have HR := Zb hr
 clear hr
 cases out with
 | bad k j =>
  go_enter Tryz.func228, Tryz.ntmps228
  go_wp2_with fail
  refine wp_loop_rounds 2 ?_
  rw [rounds_succ]
  go_wp2_with fail
  refine (HR.out _ H.out).mono ?_
  rintro e w1 ⟨rfl, r2⟩
  exact ⟨rfl, rfl, r2⟩
 | ok n j =>
  go_enter Tryz.func228, Tryz.ntmps228
  go_wp2_with fail
  refine wp_loop_rounds 2 ?_
  rw [rounds_succ]
  go_wp2_with fail
  refine (HR.out _ H.out).mono ?_
  rintro e w1 ⟨v, rfl, hv, r1, r2⟩
  obtain ⟨kd, ps, nm, t, nn, z, o, bi, ks⟩ := n
  unfold Zj at hv
  obtain ⟨s, rfl, hs⟩ := hv
  have hb2 := Zd w1 (.cells #[.int .i64 kd, .int .i64 ps, .string nm, .int .i64 t, .int .i64 nn, .int .i64 z, .int .i64 o, .int .u64 bi, s] 29)
  have PU := Zb (fun ty => push1 (c := 1) (Nat.le_trans r2.size hb2.size) (hs.bel hb2) (B_ w1 _) ty)
  have R2 := Zb (And.intro (r1.below hb2) (r2.trans (Tn.of_bel hb2)))
  clear hs hb2 r1 r2 H HR hc
  go_wp2_with (first | (at_builtin; refine Yv (.tmp 14) (.tmp 17) _ _ _ PU.out rfl rfl rfl rfl ?_; rintro v7 w7 ⟨o7, t7⟩))
  have R7 := Zb (And.intro o7 (And.intro (R2.out.1.below t7) (R2.out.2.trans (Tn.of_bel t7))))
  clear o7 t7 PU R2
  rw [rounds_succ]
  go_wp2_with fail
  go_ret
  exact ⟨_, rfl, R7.out⟩
theorem alln_treeparserunary {w : World} {p : List Addr} {g gT : Nat} {L : List Tk} {i l : Nat} (h : Ps w p g gT L i l) (out : Out) (hr : ZS 205 p g gT L l i out) :
 Calls Tryz.prog 228 #[.pointer (some ⟨g, 0, none⟩), .slice (some ⟨w.heap.size, 0, none⟩) 1 1] (w.alloc (.cells #[.func (.func 205) #[.pointer (some ⟨g, 0, none⟩)] #[]] 68)) fun e w' => PostK p g gT L l w e w' out := by
 refine (all_treeparserunary (h.below (Zd w _)) w.heap.size 1 out hr (Zf (B_ w _) 0 _ rfl)).mono ?_
 intro e w' h1
 have hb := Zd w (.cells #[.func (.func 205) #[.pointer (some ⟨g, 0, none⟩)] #[]] 68)
 cases out with
 | bad k j => exact ⟨h1.1, (Tn.of_bel hb).trans h1.2⟩
 | ok n j =>
  obtain ⟨s, h2, h3, h4, h5⟩ := h1
  exact ⟨s, h2, h3.low hb.size, h4, (Tn.of_bel hb).trans h5⟩
theorem one_any {w : World} {p : List Addr} {g gT : Nat} {L : List Tk} {i l : Nat} (h : Ps w p g gT L i l) (out : Out) (hr : ZS 32 p g gT L l i out) :
 Calls Tryz.prog 245 #[.pointer (some ⟨g, 0, none⟩)] w fun e w' => PostK p g gT L l w e w' out := by
 have HA := Zb (YB h out hr)
 clear h hr
 cases out with
 | bad k j =>
  go_enter Tryz.func245, Tryz.ntmps245
  go_wp2_with fail
  refine HA.out.mono ?_
  rintro e w1 ⟨rfl, r2⟩
  exact ⟨rfl, rfl, r2⟩
 | ok n j =>
  go_enter Tryz.func245, Tryz.ntmps245
  go_wp2_with fail
  refine HA.out.mono ?_
  rintro e w1 ⟨s, rfl, r⟩
  have R := Zb r
  clear r HA
  go_wp2_with fail
  go_ret
  exact ⟨_, rfl, R.out⟩
def Ya (L : List Tk) : Prop := ∀ j, j < L.length -> ((Zk L j).text.size ≠ 0 ∨ (Zk L j).kind ≠ 0) -> j + 1 < L.length
theorem ZF {L : List Tk} (hE : Ya L) {i : Nat} (hi : i < L.length) {zs : List ByteArray} (hz : ∀ z ∈ zs, z.size ≠ 0) (h : has L i zs = true) : i + 1 < L.length :=
 hE i hi (.inl (hz _ ((Lib.containsS_iff _ _).1 h)))
def wrapO (L : List Tk) (l i : Nat) (op sh : ByteArray) (r : Out) : Out :=
 if has L i [op] then (if l = 16 then .bad 2 i else match r with | .ok n j => if has L j [sh] then .ok n (j + 1) else .bad 1 j | .bad k j => .bad k j) else .bad 1 i
theorem within_any {w : World} {p : List Addr} {g gT : Nat} {L : List Tk} {i l : Nat} (h : Ps w p g gT L i l) (hE : Ya L) (hl : l <= 16) (op sh : ByteArray) (ho : op.size ≠ 0) (hs : sh.size ≠ 0) (r : Out) (hr : l ≠ 16 -> has L i [op] = true -> ZS 32 p g gT L (l + 1) (i + 1) r) :
 Calls Tryz.prog 162 #[.pointer (some ⟨g, 0, none⟩), .string op, .func (.func 245) #[.pointer (some ⟨g, 0, none⟩)] #[], .string sh] w fun e w' => PostK p g gT L l w e w' (wrapO L l i op sh r) := by
 have H := Zb h
 have hi := h.lt
 have hgl := Zb h.lt_g
 clear h
 have HR := Zb hr
 clear hr
 generalize hw : wrapO L l i op sh r = out
 unfold wrapO at hw
 by_cases h1 : has L i [op] = true
 · rw [if_pos h1] at hw
   by_cases h2 : l = 16
   · rw [if_pos h2] at hw
     subst hw
     have HB := Zb (begin_deep H.out op h1 h2)
     clear h1 h2 hE ho hs hi hl HR H
     go_enter Tryz.func162, Tryz.ntmps162
     go_wp2_with fail
     refine HB.out.mono ?_
     rintro e w1 ⟨rfl, r2⟩
     exact ⟨rfl, rfl, r2⟩
   · rw [if_neg h2] at hw
     have HW := Zb hw
     clear hw
     have HB := Zb (begin_yes H.out op h1 (ZF hE hi (by simpa using ho) h1) (by omega))
     have HR := Zb (HR.out h2 h1)
     have HE := Zb hE
     have HS := Zb hs
     clear h1 hE ho hs hi H
     go_enter Tryz.func162, Tryz.ntmps162
     go_wp2_with fail
     refine HB.out.mono ?_
     rintro e w1 ⟨rfl, r1, r2⟩
     have HO := Zb (one_any r1 r HR.out)
     have T1 := Zb r2
     clear r1 r2 HB HR
     go_wp2_with fail
     cases r with
     | bad k j =>
      refine HO.out.mono ?_
      rintro e w2 ⟨rfl, r2⟩
      have hw := HW.out
      subst hw
      exact ⟨rfl, rfl, T1.out.trans r2⟩
     | ok n j =>
      refine HO.out.mono ?_
      rintro e w2 ⟨s, rfl, hk, r1, r2⟩
      have K2 := Zb hk
      have H2 := Zb r1
      have T2 := Zb (T1.out.trans r2)
      clear hk r1 r2 HO
      by_cases h3 : has L j [sh] = true
      · have hw := HW.out
        dsimp only at hw
        rw [if_pos h3] at hw
        subst hw
        clear HW
        have HT := Zb (take_new H2.out sh h3 (ZF HE.out H2.out.lt (by simpa using HS.out) h3))
        clear h3
        go_wp2_with fail
        refine HT.out.mono ?_
        rintro e w3 ⟨rfl, r1, r2⟩
        have HN := Zb (end_any r1 (by omega) (by omega))
        have T3 := Zb r2
        clear r1 r2 HT
        go_wp2_with fail
        refine HN.out.mono ?_
        rintro e w4 ⟨rfl, r1, r2⟩
        rw [Nat.add_sub_cancel] at r1
        have H4 := Zb r1
        have T4 := Zb r2
        clear r1 r2 HN
        go_wp2_with fail
        go_ret
        have hg1 : g < w1.heap.size := Nat.lt_of_lt_of_le hgl.out T1.out.size
        exact ⟨_, rfl, ((K2.out.tn T3.out hg1).tn T4.out hg1).low T1.out.size, H4.out, (T2.out.trans T3.out).trans T4.out⟩
      · have hw := HW.out
        dsimp only at hw
        rw [if_neg h3] at hw
        subst hw
        clear HW
        have HT := Zb (take_not H2.out sh (by simpa using h3))
        clear h3
        go_wp2_with fail
        refine HT.out.mono ?_
        rintro e w3 ⟨rfl, r2⟩
        exact ⟨rfl, rfl, T2.out.trans r2⟩
 · rw [if_neg h1] at hw
   subst hw
   have HB := Zb (begin_no H.out op (by simpa using h1))
   clear h1 hE ho hs hi hl HR H
   go_enter Tryz.func162, Tryz.ntmps162
   go_wp2_with fail
   refine HB.out.mono ?_
   rintro e w1 ⟨rfl, r2⟩
   exact ⟨rfl, rfl, r2⟩
theorem Zt.form {w : World} {B : Nat -> Prop} {n : Nd} {s : Value} (h : Zt w B [n] s) : ∃ gk ck, s = .slice (some ⟨gk, 0, none⟩) 1 ck := by
 unfold Zt at h
 obtain ⟨gk, ck, _, h1, _⟩ := h
 exact ⟨gk, ck, h1⟩
def nd (k : Int) (pos : Int) (name : ByteArray) (kids : List Nd) : Nd := .mk k pos name 0 0 0 0 0 kids
def bOpen : ByteArray := ⟨#[40]⟩
def bShut : ByteArray := ⟨#[41]⟩
def bOpn : ByteArray := ⟨#[91]⟩
def bSht : ByteArray := ⟨#[93]⟩
def targetO (L : List Tk) (l i : Nat) (r : Out) : Out :=
 if (Zk L i).kind = 1 then
  if has L (i + 1) [bOpn] then match wrapO L l (i + 1) bOpn bSht r with | .ok n j => .ok (nd 29 (Zk L i).pos (tx L i) [n]) j | .bad k j => .bad k j
  else .ok (nd 28 (Zk L i).pos (tx L i) []) (i + 1)
 else .bad 1 i
theorem target_any {w : World} {p : List Addr} {g gT : Nat} {L : List Tk} {i l : Nat} (h : Ps w p g gT L i l) (hE : Ya L) (hl : l <= 16) (r : Out) (hr : l ≠ 16 -> (Zk L i).kind = 1 -> has L (i + 1) [bOpn] = true -> ZS 32 p g gT L (l + 1) (i + 1 + 1) r) :
 Calls Tryz.prog 221 #[.pointer (some ⟨g, 0, none⟩)] w fun e w' => Zo p g gT L l w e w' (targetO L l i r) := by
 generalize hw : targetO L l i r = out
 unfold targetO at hw
 have HW := Zb hw
 clear hw
 have hi := h.lt
 have hgl := h.lt_g
 have hT := h.row.lt
 have hb0 := Zb (Zd w Zh)
 have hz0 : Hid (Nod (w.alloc Zh) w.heap.size (.int .i64 0) (.int .i64 0) (.string ⟨#[]⟩) (.int .i64 0) (.int .i64 0) (.int .i64 0) (.int .i64 0) (.int .u64 0) (.slice none 0 0)) := B_ _ _
 have H0 := Zb (h.below hb0.out)
 have HH := Zb (Zp H0.out)
 have HR := Zb hr
 have HE := Zb hE
 clear h hr hE
 unfold Zh at *
 obtain ⟨tk, htk⟩ : ∃ tk, Zk L i = tk := ⟨_, rfl⟩
 rw [htk] at HH
 have HK := Zb htk
 clear htk
 obtain ⟨kind, text, nn, bits_, pos⟩ := tk
 dsimp only [Tk.val] at HH
 have hf4 := tf4 (.int .i64 kind) (.string text) (.int .i64 nn) (.int .u64 bits_) (.int .i64 pos)
 go_enter Tryz.func221, Tryz.ntmps221
 go_wp2_with fail
 generalize w.alloc _ = w0 at *
 refine HH.out.mono ?_
 rintro e w1 ⟨rfl, hb1⟩
 have hw1 : w.heap.size < w1.heap.size := Nat.lt_of_lt_of_le (Ze hz0.out) hb1.size
 have hb2 := Zd w1 (.cells #[.int .i64 28, .int .i64 pos, .string ⟨#[]⟩, .int .i64 0, .int .i64 0, .int .i64 0, .int .i64 0, .int .u64 0, .slice none 0 0] 29)
 have X2 : Hid (Nod (w1.alloc (.cells #[.int .i64 28, .int .i64 pos, .string ⟨#[]⟩, .int .i64 0, .int .i64 0, .int .i64 0, .int .i64 0, .int .u64 0, .slice none 0 0] 29)) w1.heap.size (.int .i64 28) (.int .i64 pos) (.string ⟨#[]⟩) (.int .i64 0) (.int .i64 0) (.int .i64 0) (.int .i64 0) (.int .u64 0) (.slice none 0 0)) := B_ _ _
 have H2 := Zb (H0.out.below (Zc hb1 hb2))
 have T2 := Zb (Tn.of_bel (g := g) (Zc hb0.out (Zc hb1 hb2)))
 have Z2 := Zb ((hz0.out.bel hb1).bel hb2)
 clear HH hb0 hz0 H0 hb1 hb2
 go_wp2_with fail
 clear hf4
 generalize w1.alloc _ = w2 at *
 generalize w1.heap.size = n1 at *
 by_cases h1 : (Zk L i).kind = 1
 · have hi1 := HE.out i hi (.inr (by omega))
   refine (word_yes H2.out h1 hi1).mono ?_
   rw [show tx L i = text by unfold tx; rw [HK.out]]
   rintro e w3 ⟨rfl, r1, r2⟩
   have H3 := Zb r1
   have T3 := Zb (T2.out.trans r2)
   have x3 := X2.out.tn r2 (by omega)
   have Z3 := Zb (Z2.out.tn r2 (by omega))
   obtain ⟨⟨_, _, f2, _, _, _, _, _, _⟩, _, _, c2, _, _, _, _, _, _⟩ := x3.all
   obtain ⟨x4, s4⟩ := Zs x3 2 (.string text)
   have x4 : Nod _ n1 (.int .i64 28) (.int .i64 pos) (.string text) (.int .i64 0) (.int .i64 0) (.int .i64 0) (.int .i64 0) (.int .u64 0) (.slice none 0 0) := x4
   have H4 := Zb (H3.out.tn s4 (by have := H3.out.big; omega) (by omega) (by omega))
   have T4 := Zb (T3.out.own s4 (by omega))
   have Z4 := Zb (Z3.out.tn s4 (by omega))
   have X4 := Zb x4
   have K1 := Zb h1
   clear x3 x4 s4 r1 r2 X2 H2 T2 Z2 H3 T3 Z3 h1
   go_wp2_with fail
   have e4 : (w3.setCell ⟨n1, 2, none⟩ (.string text)).heap.size = w3.heap.size := by simp
   generalize w3.setCell ⟨n1, 2, none⟩ (.string text) = w4 at *
   rw [← e4]
   refine (Ys H4.out [bOpn] 1 _ rfl rfl (by omega)).mono ?_
   rintro e w5 ⟨rfl, hb5⟩
   have H5 := Zb (H4.out.below hb5)
   have T5 := Zb (T4.out.trans (Tn.of_bel hb5))
   have Z5 := Zb (Z4.out.bel hb5)
   have X5 := Zb (X4.out.bel hb5)
   clear hb5 H4 T4 Z4 X4 f2 c2 e4
   by_cases h2 : has L (i + 1) [bOpn] = true
   · rw [h2]
     obtain ⟨⟨f0, _, _, _, _, _, _, _, _⟩, c0, _, _, _, _, _, _, _, _⟩ := X5.out.all
     obtain ⟨x6, s6⟩ := Zs X5.out 0 (.int .i64 29)
     have x6 : Nod _ n1 (.int .i64 29) (.int .i64 pos) (.string text) (.int .i64 0) (.int .i64 0) (.int .i64 0) (.int .i64 0) (.int .u64 0) (.slice none 0 0) := x6
     have H6 := Zb (H5.out.tn s6 (by have := H5.out.big; omega) (by omega) (by omega))
     have T6 := Zb (T5.out.own s6 (by omega))
     have Z6 := Zb (Z5.out.tn s6 (by omega))
     have X6 := Zb x6
     have hw := HW.out
     rw [if_pos K1.out, if_pos h2] at hw
     have hq : ∃ q, wrapO L l (i + 1) bOpn bSht r = q := ⟨_, rfl⟩
     obtain ⟨q, hq⟩ := hq
     rw [hq] at hw
     have HW := Zb hw
     have WI := Zb (fun w (h : Ps w p g gT L (i + 1) l) => within_any h HE.out hl bOpn bSht (by decide) (by decide) r (fun a b => HR.out a K1.out b))
     rw [hq] at WI
     clear hw hq h2 x6 s6 X5 H5 T5 Z5 HR
     go_wp2_with fail
     generalize w5.setCell ⟨n1, 0, none⟩ (.int .i64 29) = w6 at *
     cases q with
     | bad k j =>
      have hw := HW.out
      subst hw
      refine (WI.out _ H6.out).mono ?_
      rintro e w7 ⟨rfl, r2⟩
      exact ⟨rfl, rfl, T6.out.trans r2⟩
     | ok n j =>
      have hw := HW.out
      subst hw
      refine (WI.out _ H6.out).mono ?_
      rintro e w7 ⟨s, rfl, hk, r1, r2⟩
      obtain ⟨gk, ck, rfl⟩ := hk.form
      have hn6 : n1 < w6.heap.size := Ze X6.out
      have hw6 : w.heap.size <= w6.heap.size := T6.out.size
      have T7 := Zb (T6.out.trans r2)
      have x7 := X6.out.tn r2 (by omega)
      have Z7 := Zb (Z6.out.tn r2 (by omega))
      obtain ⟨⟨_, _, _, _, _, _, _, _, f8⟩, _, _, _, _, _, _, _, _, c8⟩ := x7.all
      obtain ⟨x8, s8⟩ := Zs x7 8 (.slice (some ⟨gk, 0, none⟩) 1 ck)
      have x8 : Nod _ n1 (.int .i64 29) (.int .i64 pos) (.string text) (.int .i64 0) (.int .i64 0) (.int .i64 0) (.int .i64 0) (.int .u64 0) (.slice (some ⟨gk, 0, none⟩) 1 ck) := x8
      have H8 := Zb (r1.tn s8 (by have := r1.big; omega) (by omega) (by omega))
      have T8 := Zb (T7.out.own s8 (by omega))
      have Z8 := Zb (Z7.out.tn s8 (by omega))
      have K8 := Zb (hk.tn s8 hn6)
      have hgo := Zb (show w.heap.size < w6.heap.size by omega)
      clear WI HW HE c0 f0 hk r1 r2 s8 x7 T7 Z7 X6 H6 T6 Z6
      obtain ⟨_, d0, d1, d2, d3, d4, d5, d6, d7, d8⟩ := x8.all
      obtain ⟨⟨f0, f1, f2, f3, f4, f5, f6, f7, f8'⟩, b0, b1, b2, b3, b4, b5, b6, b7, b8⟩ := Z8.out.all
      obtain ⟨z9, s9⟩ := Zy Z8.out (.int .i64 29) (.int .i64 pos) (.string text) (.int .i64 0) (.int .i64 0) (.int .i64 0) (.int .i64 0) (.int .u64 0) (.slice (some ⟨gk, 0, none⟩) 1 ck)
      have Z9 := Zb z9
      have S9 := Zb s9
      clear x8 z9 s9 Z8
      go_wp2_with fail
      refine Zg w.heap.size rfl rfl Z9.out rfl ?_
      refine ⟨_, rfl, ?_, H8.out.tn S9.out (by have := H8.out.big; omega) (by omega) (by omega), T8.out.own S9.out (Nat.le_refl _)⟩
      unfold nd Zj
      refine ⟨_, ?_, (K8.out.tn S9.out hgo.out).low (Nat.le_of_lt hgo.out)⟩
      unfold tx
      rw [HK.out]
   · have h2 : has L (i + 1) [bOpn] = false := by simpa using h2
     rw [h2]
     have hw := HW.out
     rw [if_pos K1.out, h2, if_neg (by decide)] at hw
     subst hw
     obtain ⟨⟨f0, f1, f2, f3, f4, f5, f6, f7, f8⟩, b0, b1, b2, b3, b4, b5, b6, b7, b8⟩ := Z5.out.all
     obtain ⟨_, d0, d1, d2, d3, d4, d5, d6, d7, d8⟩ := X5.out.all
     obtain ⟨z6, s6⟩ := Zy Z5.out (.int .i64 28) (.int .i64 pos) (.string text) (.int .i64 0) (.int .i64 0) (.int .i64 0) (.int .i64 0) (.int .u64 0) (.slice none 0 0)
     have Z6 := Zb z6
     have S6 := Zb s6
     clear z6 s6 h2 X5 Z5
     go_wp2_with fail
     refine Zg w.heap.size rfl rfl Z6.out rfl ?_
     refine ⟨_, rfl, ?_, H5.out.tn S6.out (by have := H5.out.big; omega) (by omega) (by omega), T5.out.own S6.out (Nat.le_refl _)⟩
     unfold nd Zj
     refine ⟨.slice none 0 0, ?_, by unfold Zt; rfl⟩
     unfold tx
     rw [HK.out]
 · have hw := HW.out
   rw [if_neg h1] at hw
   subst hw
   refine (word_no H2.out h1).mono ?_
   rintro e w3 ⟨rfl, r2⟩
   exact ⟨rfl, rfl, T2.out.trans r2⟩
def convO (L : List Tk) (l i : Nat) (r : Out) : Out :=
 match wrapO L l (i + 1) bOpen bShut r with | .ok n j => .ok (nd 30 (Zk L i).pos (tx L i) [n]) j | .bad k j => .bad k j
theorem converted_any {w : World} {p : List Addr} {g gT : Nat} {L : List Tk} {i l : Nat} (h : Ps w p g gT L i l) (hE : Ya L) (hl : l <= 16) (hi : i + 1 < L.length) (r : Out) (hr : l ≠ 16 -> has L (i + 1) [bOpen] = true -> ZS 32 p g gT L (l + 1) (i + 1 + 1) r) :
 Calls Tryz.prog 248 #[.pointer (some ⟨g, 0, none⟩)] w fun e w' => Zo p g gT L l w e w' (convO L l i r) := by
 generalize hw : convO L l i r = out
 unfold convO at hw
 obtain ⟨q, hq⟩ : ∃ q, wrapO L l (i + 1) bOpen bShut r = q := ⟨_, rfl⟩
 rw [hq] at hw
 have HW := Zb hw
 clear hw
 have hgl := h.lt_g
 have hT := h.row.lt
 have hb0 := Zb (Zd w Zh)
 have hz0 : Hid (Nod (w.alloc Zh) w.heap.size (.int .i64 0) (.int .i64 0) (.string ⟨#[]⟩) (.int .i64 0) (.int .i64 0) (.int .i64 0) (.int .i64 0) (.int .u64 0) (.slice none 0 0)) := B_ _ _
 have H0 := Zb (h.below hb0.out)
 have HH := Zb (fun w (h : Ps w p g gT L i l) => Zp h)
 have WI := Zb (fun w (h : Ps w p g gT L (i + 1) l) => within_any h hE hl bOpen bShut (by decide) (by decide) r hr)
 rw [hq] at WI
 clear h hr hE hq hl
 unfold Zh at *
 obtain ⟨tk, htk⟩ : ∃ tk, Zk L i = tk := ⟨_, rfl⟩
 rw [htk] at HH
 have HK := Zb htk
 clear htk
 obtain ⟨kind, text, nn, bits_, pos⟩ := tk
 dsimp only [Tk.val] at HH
 have hf1 := tf1 (.int .i64 kind) (.string text) (.int .i64 nn) (.int .u64 bits_) (.int .i64 pos)
 have hf4 := tf4 (.int .i64 kind) (.string text) (.int .i64 nn) (.int .u64 bits_) (.int .i64 pos)
 go_enter Tryz.func248, Tryz.ntmps248
 go_wp2_with fail
 generalize w.alloc _ = w0 at *
 refine (HH.out _ H0.out).mono ?_
 rintro e w1 ⟨rfl, hb1⟩
 have H1 := Zb (H0.out.below hb1)
 have T1 := Zb (Zc hb0.out hb1)
 have Z1 := Zb (hz0.out.bel hb1)
 clear hb1 H0 hb0 hz0
 go_wp2_with fail
 refine (HH.out _ H1.out).mono ?_
 rintro e w2 ⟨rfl, hb2⟩
 have hw2 : w.heap.size < w2.heap.size := Nat.lt_of_lt_of_le (Ze Z1.out) hb2.size
 have hb3 := Zd w2 (.cells #[.int .i64 30, .int .i64 pos, .string text, .int .i64 0, .int .i64 0, .int .i64 0, .int .i64 0, .int .u64 0, .slice none 0 0] 29)
 have X3 : Hid (Nod (w2.alloc (.cells #[.int .i64 30, .int .i64 pos, .string text, .int .i64 0, .int .i64 0, .int .i64 0, .int .i64 0, .int .u64 0, .slice none 0 0] 29)) w2.heap.size (.int .i64 30) (.int .i64 pos) (.string text) (.int .i64 0) (.int .i64 0) (.int .i64 0) (.int .i64 0) (.int .u64 0) (.slice none 0 0)) := B_ _ _
 have H3 := Zb (H1.out.below (Zc hb2 hb3))
 have T3 := Zb (Tn.of_bel (g := g) (Zc T1.out (Zc hb2 hb3)))
 have Z3 := Zb ((Z1.out.bel hb2).bel hb3)
 clear hb2 hb3 H1 T1 Z1 HH
 obtain ⟨r1, r2⟩ := H3.out.set (i + 1) hi ((i : Int) + 1) (by omega)
 have H4 := Zb r1
 have T4 := Zb (T3.out.trans r2)
 have Z4 := Zb (Z3.out.tn r2 (by omega))
 have X4 := Zb (X3.out.tn r2 (by omega))
 obtain ⟨cap, _, c1, _, cf, _, _⟩ := H3.out.cells
 have fc1 := cf 1
 have hL := H3.out.len
 clear cf r1 r2 H3 T3 Z3 X3
 go_wp2_with fail
 clear hf1 hf4 c1 fc1 hL
 generalize (w2.alloc _).setCell ⟨g, 1, none⟩ (.int .i64 ((i : Int) + 1)) = w5 at *
 generalize w2.heap.size = n2 at *
 have X5 := X4
 have Z5 := Z4
 have T5 := T4
 clear X4 Z4 T4
 cases q with
 | bad k j =>
  have hw := HW.out
  subst hw
  refine (WI.out _ H4.out).mono ?_
  rintro e w7 ⟨rfl, r2⟩
  exact ⟨rfl, rfl, T5.out.trans r2⟩
 | ok n j =>
  have hw := HW.out
  subst hw
  refine (WI.out _ H4.out).mono ?_
  rintro e w7 ⟨s, rfl, hk, r1, r2⟩
  obtain ⟨gk, ck, rfl⟩ := hk.form
  have hn6 : n2 < w5.heap.size := Ze X5.out
  have hw6 : w.heap.size <= w5.heap.size := T5.out.size
  have T7 := Zb (T5.out.trans r2)
  have x7 := X5.out.tn r2 (by omega)
  have Z7 := Zb (Z5.out.tn r2 (by omega))
  obtain ⟨⟨_, _, _, _, _, _, _, _, f8⟩, _, _, _, _, _, _, _, _, c8⟩ := x7.all
  obtain ⟨x8, s8⟩ := Zs x7 8 (.slice (some ⟨gk, 0, none⟩) 1 ck)
  have x8 : Nod _ n2 (.int .i64 30) (.int .i64 pos) (.string text) (.int .i64 0) (.int .i64 0) (.int .i64 0) (.int .i64 0) (.int .u64 0) (.slice (some ⟨gk, 0, none⟩) 1 ck) := x8
  have H8 := Zb (r1.tn s8 (by have := r1.big; omega) (by omega) (by omega))
  have T8 := Zb (T7.out.own s8 (by omega))
  have Z8 := Zb (Z7.out.tn s8 (by omega))
  have K8 := Zb (hk.tn s8 hn6)
  have hgo := Zb (show w.heap.size < w5.heap.size by omega)
  clear WI HW hk r1 r2 s8 x7 T7 Z7 X5 H4 T5 Z5
  obtain ⟨_, d0, d1, d2, d3, d4, d5, d6, d7, d8⟩ := x8.all
  obtain ⟨⟨f0, f1, f2, f3, f4, f5, f6, f7, f8'⟩, b0, b1, b2, b3, b4, b5, b6, b7, b8⟩ := Z8.out.all
  obtain ⟨z9, s9⟩ := Zy Z8.out (.int .i64 30) (.int .i64 pos) (.string text) (.int .i64 0) (.int .i64 0) (.int .i64 0) (.int .i64 0) (.int .u64 0) (.slice (some ⟨gk, 0, none⟩) 1 ck)
  have Z9 := Zb z9
  have S9 := Zb s9
  clear x8 z9 s9 Z8
  go_wp2_with fail
  refine Zg w.heap.size rfl rfl Z9.out rfl ?_
  refine ⟨_, rfl, ?_, H8.out.tn S9.out (by have := H8.out.big; omega) (by omega) (by omega), T8.out.own S9.out (Nat.le_refl _)⟩
  unfold nd Zj
  refine ⟨_, ?_, (K8.out.tn S9.out hgo.out).low (Nat.le_of_lt hgo.out)⟩
  unfold tx
  rw [HK.out]
end Go.Proofs.YtfnplhfjfolojaaGreatDoor.Ck
