/- Texts of this proof, packed: contracts of the program's functions, and the plain model that they are held against. -/
import Derived.Test.YtogeblmppagabaaGreatDoorQaj
/- The parser's going over tokens. -/
namespace Go.Proofs.YtogeblmppagabaaGreatDoor.Ck
open Go.RowKit

def tx (L : List Tk) (i : Nat) : ByteArray := (tkAt L i).text
def has (L : List Tk) (i : Nat) (ts : List ByteArray) : Bool := Lib.containsS ts (tx L i)

theorem sees_new {w : World} {p : List Addr} {g gT : Nat} {L : List Tk} {i l : Nat} (h : Ps w p g gT L i l) (zs : List ByteArray) (n : Nat) (cs : Array Value) (hcs : cs = (zs.map Value.string).toArray) (hz : zs.length = n) (hn : n ≤ 100) :
    Calls Tryz.prog 81 #[.pointer (some ⟨g, 0, none⟩), .slice (some ⟨w.heap.size, 0, none⟩) n n] (w.alloc (.cells cs 9)) fun e w' => e = .returned (.bool (has L i zs)) ∧ Below w.heap.size w w' := by
  refine (sees_any (h.below (bel_new w _)) w.heap.size n n zs hz hn (fun j hj => ?_)).mono ?_
  · refine blk_cell (Go.Deep.blk_alloc_new w _) j _ ?_
    subst hcs
    simp [hj]
  · rintro e w' ⟨h1, h2⟩
    exact ⟨h1, bel_trans (bel_new w _) h2⟩

set_option maxRecDepth 20000 in
set_option maxHeartbeats 1000000 in
theorem taken_yes {w : World} {p : List Addr} {g gT : Nat} {L : List Tk} {i l : Nat} (h : Ps w p g gT L i l) (text : ByteArray) (ht : has L i [text] = true) (hi : i + 1 < L.length) :
    Calls Tryz.prog 161 #[.pointer (some ⟨g, 0, none⟩), .string text] w fun e w' => e = .returned (.bool true) ∧ Ps w' p g gT L (i + 1) l ∧ Tn g w w' := by
  have H := hide h
  clear h
  go_enter Tryz.func161, Tryz.ntmps161
  go_wp2_with fail
  refine (sees_new H.out [text] 1 _ rfl rfl (by omega)).mono ?_
  rintro e w1 ⟨rfl, hb⟩
  rw [ht]
  have H1 := hide (H.out.below hb)
  have T1 := hide (Tn.of_bel (g := g) hb)
  clear hb ht
  obtain ⟨cap, _, c1, c2, cf, _, _⟩ := H1.out.cells
  have f1 := cf 1
  have hL := H1.out.len
  clear cf
  go_wp2_with fail
  go_ret
  obtain ⟨r1, r2⟩ := H1.out.set (i + 1) hi ((i : Int) + 1) (by omega)
  exact ⟨rfl, r1, T1.out.trans r2⟩

set_option maxRecDepth 20000 in
set_option maxHeartbeats 1000000 in
theorem taken_no {w : World} {p : List Addr} {g gT : Nat} {L : List Tk} {i l : Nat} (h : Ps w p g gT L i l) (text : ByteArray) (ht : has L i [text] = false) :
    Calls Tryz.prog 161 #[.pointer (some ⟨g, 0, none⟩), .string text] w fun e w' => e = .returned (.bool false) ∧ Below w.heap.size w w' := by
  have H := hide h
  clear h
  go_enter Tryz.func161, Tryz.ntmps161
  go_wp2_with fail
  refine (sees_new H.out [text] 1 _ rfl rfl (by omega)).mono ?_
  rintro e w1 ⟨rfl, hb⟩
  rw [ht]
  have HB := hide hb
  clear hb ht
  go_wp2_with fail
  go_ret
  exact ⟨rfl, HB.out⟩

set_option maxRecDepth 20000 in
set_option maxHeartbeats 1000000 in
theorem take_yes {w : World} {p : List Addr} {g gT : Nat} {L : List Tk} {i l : Nat} (h : Ps w p g gT L i l) (b c : Nat) (text : ByteArray) (hc : w.cell? ⟨b, 0, none⟩ = some (.string text)) (ht : has L i [text] = true) (hi : i + 1 < L.length) :
    Calls Tryz.prog 135 #[.pointer (some ⟨g, 0, none⟩), .slice (some ⟨b, 0, none⟩) 1 c] w fun e w' => e = .returned (.tuple #[]) ∧ Ps w' p g gT L (i + 1) l ∧ Tn g w w' := by
  have H := hide h
  clear h
  go_enter Tryz.func135, Tryz.ntmps135
  go_wp2_with fail
  refine wp_loop_rounds 2 ?_
  rw [rounds_succ]
  go_wp2_with fail
  refine (sees_new H.out [text] 1 _ rfl rfl (by omega)).mono ?_
  rintro e w1 ⟨rfl, hb⟩
  rw [ht]
  have H1 := hide (H.out.below hb)
  have T1 := hide (Tn.of_bel (g := g) hb)
  clear hb ht hc
  obtain ⟨cap, _, c1, c2, cf, _, _⟩ := H1.out.cells
  have f1 := cf 1
  have hL := H1.out.len
  clear cf
  go_wp2_with fail
  rw [rounds_succ]
  go_wp2_with fail
  go_end0
  obtain ⟨r1, r2⟩ := H1.out.set (i + 1) hi ((i : Int) + 1) (by omega)
  exact ⟨rfl, r1, T1.out.trans r2⟩

set_option maxRecDepth 20000 in
set_option maxHeartbeats 1000000 in
theorem take_no {w : World} {p : List Addr} {g gT : Nat} {L : List Tk} {i l : Nat} (h : Ps w p g gT L i l) (b c : Nat) (text : ByteArray) (hc : w.cell? ⟨b, 0, none⟩ = some (.string text)) (ht : has L i [text] = false) :
    Calls Tryz.prog 135 #[.pointer (some ⟨g, 0, none⟩), .slice (some ⟨b, 0, none⟩) 1 c] w fun e w' => e = stop (errV p 1) (tkAt L i).pos ∧ Tn g w w' := by
  have H := hide h
  clear h
  go_enter Tryz.func135, Tryz.ntmps135
  go_wp2_with fail
  refine wp_loop_rounds 2 ?_
  rw [rounds_succ]
  go_wp2_with fail
  refine (sees_new H.out [text] 1 _ rfl rfl (by omega)).mono ?_
  rintro e w1 ⟨rfl, hb⟩
  rw [ht]
  have H1 := hide (H.out.below hb)
  have T1 := hide (Tn.of_bel (g := g) hb)
  have x1 := H1.out.er.c1
  clear hb ht hc
  go_wp2_with fail
  refine (refuse_at H1.out _ _).mono ?_
  rintro e w2 ⟨rfl, hb2⟩
  exact ⟨rfl, rfl, T1.out.trans (Tn.of_bel hb2)⟩

set_option maxRecDepth 20000 in
set_option maxHeartbeats 1000000 in
theorem end_any {w : World} {p : List Addr} {g gT : Nat} {L : List Tk} {i l : Nat} (h : Ps w p g gT L i l) (hl : 0 < l) (hl2 : l ≤ 16) :
    Calls Tryz.prog 182 #[.pointer (some ⟨g, 0, none⟩)] w fun e w' => e = .returned (.tuple #[]) ∧ Ps w' p g gT L i (l - 1) ∧ Tn g w w' := by
  have H1 := hide h
  clear h
  obtain ⟨cap, _, c1, c2, cf, _, _⟩ := H1.out.cells
  have f1 := cf 2
  have hL := H1.out.len
  clear cf
  go_enter Tryz.func182, Tryz.ntmps182
  go_wp2_with fail
  go_end0
  obtain ⟨r1, r2⟩ := H1.out.setL (l - 1) ((l : Int) - 1) (by omega)
  exact ⟨rfl, r1, r2⟩

end Go.Proofs.YtogeblmppagabaaGreatDoor.Ck

/- The parser's going over a token of a kind. -/
namespace Go.Proofs.YtogeblmppagabaaGreatDoor.Ck
open Go.RowKit

theorem Rowt.lt {w : World} {g : Nat} {ts : List Tk} (h : Rowt w g ts) : g < w.heap.size := by
  obtain ⟨cur, hc, _⟩ := h.blk
  exact lt_of_blk hc

set_option maxRecDepth 20000 in
set_option maxHeartbeats 1000000 in
theorem takeKind_no {w : World} {p : List Addr} {g gT : Nat} {L : List Tk} {i l : Nat} (h : Ps w p g gT L i l) (k : Nat) (ht : ¬ (tkAt L i).kind = k) :
    Calls Tryz.prog 160 #[.pointer (some ⟨g, 0, none⟩), .int .i64 k] w fun e w' => e = stop (errV p 1) (tkAt L i).pos ∧ Tn g w w' := by
  have hb0 := hide (bel_new w tokZ)
  have hz0 : Hid (Tok (w.alloc tokZ) w.heap.size (.int .i64 0) (.string ⟨#[]⟩) (.int .i64 0) (.int .u64 0) (.int .i64 0)) := Go.Deep.blk_alloc_new _ _
  have H0 := hide (h.below hb0.out)
  have hgl := h.lt_g
  have hT := h.row.lt
  have HH := hide (here_any H0.out)
  have RF := hide (fun w (h : Ps w p g gT L i l) => refuse_at h)
  clear h
  unfold tokZ at *
  generalize tkAt L i = tk at *
  obtain ⟨kind, text, nn, bits_, pos⟩ := tk
  dsimp only [Tk.val] at *
  have ht : ((kind : Int) != (k : Int)) = true := by simpa using (fun h : (kind : Int) = (k : Int) => ht (by omega))
  go_enter Tryz.func160, Tryz.ntmps160
  go_wp2_with fail
  generalize w.alloc (.cells #[.int .i64 0, .string ⟨#[]⟩, .int .i64 0, .int .u64 0, .int .i64 0] 67) = w0 at *
  refine HH.out.mono ?_
  rintro e w1 ⟨rfl, hb1⟩
  clear HH
  have hb2 := bel_new w1 (.cells #[.int .i64 kind, .string text, .int .i64 nn, .int .u64 bits_, .int .i64 pos] 67)
  have H1 := hide (H0.out.below (bel_trans hb1 hb2))
  have T1 := hide (bel_trans hb0.out (bel_trans hb1 hb2))
  have x1 := H1.out.er.c1
  clear hb1 hb2 hb0 hz0 H0
  go_wp2_with fail
  refine (RF.out _ H1.out _ _).mono ?_
  rintro e w2 ⟨rfl, hb2⟩
  exact ⟨rfl, rfl, Tn.of_bel (bel_trans T1.out hb2)⟩

set_option maxRecDepth 20000 in
set_option maxHeartbeats 1000000 in
theorem takeKind_yes {w : World} {p : List Addr} {g gT : Nat} {L : List Tk} {i l : Nat} (h : Ps w p g gT L i l) (k : Nat) (ht : (tkAt L i).kind = k) (hi : i + 1 < L.length) :
    Calls Tryz.prog 160 #[.pointer (some ⟨g, 0, none⟩), .int .i64 k] w fun e w' => e = .returned (tkAt L i).val ∧ Ps w' p g gT L (i + 1) l ∧ Tn g w w' := by
  have hb0 := hide (bel_new w tokZ)
  have hz0 : Hid (Tok (w.alloc tokZ) w.heap.size (.int .i64 0) (.string ⟨#[]⟩) (.int .i64 0) (.int .u64 0) (.int .i64 0)) := Go.Deep.blk_alloc_new _ _
  have H0 := hide (h.below hb0.out)
  have hgl := h.lt_g
  have hT := h.row.lt
  have HH := hide (here_any H0.out)
  clear h
  unfold tokZ at *
  generalize tkAt L i = tk at *
  obtain ⟨kind, text, nn, bits_, pos⟩ := tk
  dsimp only [Tk.val] at *
  subst ht
  go_enter Tryz.func160, Tryz.ntmps160
  go_wp2_with fail
  generalize w.alloc (.cells #[.int .i64 0, .string ⟨#[]⟩, .int .i64 0, .int .u64 0, .int .i64 0] 67) = w0 at *
  refine HH.out.mono ?_
  rintro e w1 ⟨rfl, hb1⟩
  clear HH
  have hb2 := bel_new w1 (.cells #[.int .i64 kind, .string text, .int .i64 nn, .int .u64 bits_, .int .i64 pos] 67)
  have H1 := hide (H0.out.below (bel_trans hb1 hb2))
  have T1 := hide (bel_trans hb0.out (bel_trans hb1 hb2))
  have zt : Tok (w1.alloc (.cells #[.int .i64 kind, .string text, .int .i64 nn, .int .u64 bits_, .int .i64 pos] 67)) w1.heap.size (.int .i64 kind) (.string text) (.int .i64 nn) (.int .u64 bits_) (.int .i64 pos) := Go.Deep.blk_alloc_new _ _
  have hw1 : w.heap.size < w1.heap.size := Nat.lt_of_lt_of_le (lt_of_blk hz0.out) hb1.size
  obtain ⟨r1, r2⟩ := H1.out.set (i + 1) hi ((i : Int) + 1) (by omega)
  have Z1 := hide (((hz0.out.bel hb1).bel hb2).tn r2 (by omega))
  have Y1 := hide (zt.tn r2 (by omega))
  have T2 := hide ((Tn.of_bel (g := g) T1.out).trans r2)
  have H2 := hide r1
  obtain ⟨cap, _, c1, c2, cf, _, _⟩ := H1.out.cells
  have f1 := cf 1
  have hL := H1.out.len
  obtain ⟨⟨f0, f1', f2, f3, f4⟩, b0, b1, b2, b3, b4⟩ := Z1.out.all
  obtain ⟨⟨_, _, _, _, _⟩, d0, d1, d2, d3, d4⟩ := Y1.out.all
  obtain ⟨z3, s3⟩ := set5 Z1.out (.int .i64 kind) (.string text) (.int .i64 nn) (.int .u64 bits_) (.int .i64 pos)
  have Z3 := hide z3
  have S3 := hide s3
  clear cf hb1 hb2 H0 hb0 hz0 r1 r2 T1 Z1 z3 s3 zt Y1
  go_wp2_with fail
  refine ret_tok w.heap.size rfl rfl Z3.out rfl ?_
  exact ⟨rfl, H2.out.tn S3.out (by have := H2.out.big; omega) (by omega) (by omega), T2.out.own S3.out (Nat.le_refl _)⟩

end Go.Proofs.YtogeblmppagabaaGreatDoor.Ck

/- The parser's beginning of a level, and words. -/
namespace Go.Proofs.YtogeblmppagabaaGreatDoor.Ck
open Go.RowKit

theorem take_new {w : World} {p : List Addr} {g gT : Nat} {L : List Tk} {i l : Nat} (h : Ps w p g gT L i l) (text : ByteArray) (ht : has L i [text] = true) (hi : i + 1 < L.length) :
    Calls Tryz.prog 135 #[.pointer (some ⟨g, 0, none⟩), .slice (some ⟨w.heap.size, 0, none⟩) 1 1] (w.alloc (.cells #[.string text] 9)) fun e w' => e = .returned (.tuple #[]) ∧ Ps w' p g gT L (i + 1) l ∧ Tn g w w' := by
  refine (take_yes (h.below (bel_new w _)) w.heap.size 1 text (blk_cell (Go.Deep.blk_alloc_new w _) 0 _ rfl) ht hi).mono ?_
  rintro e w' ⟨h1, h2, h3⟩
  exact ⟨h1, h2, (Tn.of_bel (bel_new w _)).trans h3⟩
theorem take_not {w : World} {p : List Addr} {g gT : Nat} {L : List Tk} {i l : Nat} (h : Ps w p g gT L i l) (text : ByteArray) (ht : has L i [text] = false) :
    Calls Tryz.prog 135 #[.pointer (some ⟨g, 0, none⟩), .slice (some ⟨w.heap.size, 0, none⟩) 1 1] (w.alloc (.cells #[.string text] 9)) fun e w' => e = stop (errV p 1) (tkAt L i).pos ∧ Tn g w w' := by
  refine (take_no (h.below (bel_new w _)) w.heap.size 1 text (blk_cell (Go.Deep.blk_alloc_new w _) 0 _ rfl) ht).mono ?_
  rintro e w' ⟨h1, h3⟩
  exact ⟨h1, (Tn.of_bel (bel_new w _)).trans h3⟩

set_option maxRecDepth 20000 in
set_option maxHeartbeats 1000000 in
theorem word_yes {w : World} {p : List Addr} {g gT : Nat} {L : List Tk} {i l : Nat} (h : Ps w p g gT L i l) (ht : (tkAt L i).kind = 1) (hi : i + 1 < L.length) :
    Calls Tryz.prog 132 #[.pointer (some ⟨g, 0, none⟩)] w fun e w' => e = .returned (.string (tx L i)) ∧ Ps w' p g gT L (i + 1) l ∧ Tn g w w' := by
  have HH := hide (takeKind_yes h 1 ht hi)
  clear h ht
  unfold tx
  generalize tkAt L i = tk at *
  obtain ⟨kind, text, nn, bits_, pos⟩ := tk
  dsimp only [Tk.val] at *
  have hf1 := tf1 (.int .i64 kind) (.string text) (.int .i64 nn) (.int .u64 bits_) (.int .i64 pos)
  go_enter Tryz.func132, Tryz.ntmps132
  go_wp2_with fail
  refine HH.out.mono ?_
  rintro e w1 ⟨rfl, r1, r2⟩
  have R := hide (And.intro r1 r2)
  clear r1 r2 HH
  go_wp2_with fail
  go_ret
  exact ⟨rfl, R.out⟩

set_option maxRecDepth 20000 in
set_option maxHeartbeats 1000000 in
theorem word_no {w : World} {p : List Addr} {g gT : Nat} {L : List Tk} {i l : Nat} (h : Ps w p g gT L i l) (ht : ¬ (tkAt L i).kind = 1) :
    Calls Tryz.prog 132 #[.pointer (some ⟨g, 0, none⟩)] w fun e w' => e = stop (errV p 1) (tkAt L i).pos ∧ Tn g w w' := by
  have HH := hide (takeKind_no h 1 ht)
  clear h ht
  go_enter Tryz.func132, Tryz.ntmps132
  go_wp2_with fail
  refine HH.out.mono ?_
  rintro e w1 ⟨rfl, r2⟩
  exact ⟨rfl, rfl, r2⟩

set_option maxRecDepth 20000 in
set_option maxHeartbeats 1000000 in
theorem begin_no {w : World} {p : List Addr} {g gT : Nat} {L : List Tk} {i l : Nat} (h : Ps w p g gT L i l) (text : ByteArray) (ht : has L i [text] = false) :
    Calls Tryz.prog 181 #[.pointer (some ⟨g, 0, none⟩), .string text] w fun e w' => e = stop (errV p 1) (tkAt L i).pos ∧ Tn g w w' := by
  have H := hide h
  clear h
  have HT := hide ht
  go_enter Tryz.func181, Tryz.ntmps181
  go_wp2_with fail
  refine (sees_new H.out [text] 1 _ rfl rfl (by omega)).mono ?_
  rintro e w1 ⟨rfl, hb⟩
  rw [ht]
  have H1 := hide (H.out.below hb)
  have T1 := hide (Tn.of_bel (g := g) hb)
  clear hb ht
  go_wp2_with fail
  refine (take_not H1.out text HT.out).mono ?_
  rintro e w2 ⟨rfl, r2⟩
  exact ⟨rfl, rfl, T1.out.trans r2⟩

set_option maxRecDepth 20000 in
set_option maxHeartbeats 1000000 in
theorem begin_deep {w : World} {p : List Addr} {g gT : Nat} {L : List Tk} {i l : Nat} (h : Ps w p g gT L i l) (text : ByteArray) (ht : has L i [text] = true) (hl : l = 16) :
    Calls Tryz.prog 181 #[.pointer (some ⟨g, 0, none⟩), .string text] w fun e w' => e = stop (errV p 2) (tkAt L i).pos ∧ Tn g w w' := by
  have H := hide h
  clear h
  have HT := hide ht
  subst hl
  go_enter Tryz.func181, Tryz.ntmps181
  go_wp2_with fail
  refine (sees_new H.out [text] 1 _ rfl rfl (by omega)).mono ?_
  rintro e w1 ⟨rfl, hb⟩
  rw [ht]
  have H1 := hide (H.out.below hb)
  have T1 := hide (Tn.of_bel (g := g) hb)
  clear hb ht
  obtain ⟨cap, _, _, c2, _, _, _⟩ := H1.out.cells
  have x1 := H1.out.ed
  go_wp2_with fail
  refine (refuse_at H1.out _ _).mono ?_
  rintro e w2 ⟨rfl, hb2⟩
  exact ⟨rfl, rfl, T1.out.trans (Tn.of_bel hb2)⟩

set_option maxRecDepth 20000 in
set_option maxHeartbeats 1000000 in
theorem begin_yes {w : World} {p : List Addr} {g gT : Nat} {L : List Tk} {i l : Nat} (h : Ps w p g gT L i l) (text : ByteArray) (ht : has L i [text] = true) (hi : i + 1 < L.length) (hl : l < 16) :
    Calls Tryz.prog 181 #[.pointer (some ⟨g, 0, none⟩), .string text] w fun e w' => e = .returned (.tuple #[]) ∧ Ps w' p g gT L (i + 1) (l + 1) ∧ Tn g w w' := by
  have H := hide h
  clear h
  have HT := hide ht
  go_enter Tryz.func181, Tryz.ntmps181
  go_wp2_with fail
  refine (sees_new H.out [text] 1 _ rfl rfl (by omega)).mono ?_
  rintro e w1 ⟨rfl, hb⟩
  rw [ht]
  have H1 := hide (H.out.below hb)
  have T1 := hide (Tn.of_bel (g := g) hb)
  clear hb ht
  obtain ⟨cap, _, _, c2, _, _, _⟩ := H1.out.cells
  have hl2 : ((l : Int) == 16) = false := by simp; omega
  go_wp2_with fail
  refine (take_new H1.out text HT.out hi).mono ?_
  rintro e w2 ⟨rfl, r1, r2⟩
  have H2 := hide r1
  have T2 := hide (T1.out.trans r2)
  clear r1 r2 T1 H1 c2
  obtain ⟨cap, _, _, c2, cf, _, _⟩ := H2.out.cells
  have f2 := cf 2
  clear cf hl2
  go_wp2_with fail
  go_end0
  obtain ⟨r1, r2⟩ := H2.out.setL (l + 1) ((l : Int) + 1) (by omega)
  exact ⟨rfl, r1, T2.out.trans r2⟩

end Go.Proofs.YtogeblmppagabaaGreatDoor.Ck

/- Trees, and how they lie in memory; the model of the parser's expressions. -/
namespace Go.Proofs.YtogeblmppagabaaGreatDoor.Ck
open Go.RowKit

inductive Nd where
  | mk (kind pos : Int) (name : ByteArray) (type n size obj bits : Int) (kids : List Nd)
def Nd.kind : Nd → Int | .mk k _ _ _ _ _ _ _ _ => k
def Nd.pos : Nd → Int | .mk _ p _ _ _ _ _ _ _ => p
def Nd.name : Nd → ByteArray | .mk _ _ s _ _ _ _ _ _ => s
def Nd.kids : Nd → List Nd | .mk _ _ _ _ _ _ _ _ ks => ks

def cD (w : World) (g i : Nat) : Value := (w.cell? ⟨g, i, none⟩).getD undef
/-- the node whose first cell this one is, as a value -/
def nodeAt (w : World) (g o : Nat) : Value := .agg #[cD w g o, cD w g (o + 1), cD w g (o + 2), cD w g (o + 3), cD w g (o + 4), cD w g (o + 5), cD w g (o + 6), cD w g (o + 7), cD w g (o + 8)]

mutual
/-- a value is a tree, whose rows of kids lie in blocks of S -/
def NodeV (w : World) (S : Nat → Prop) : Nd → Value → Prop
  | .mk k p nm t n z o b ks, v => ∃ s, v = .agg #[.int .i64 k, .int .i64 p, .string nm, .int .i64 t, .int .i64 n, .int .i64 z, .int .i64 o, .int .u64 b, s] ∧ KidsV w S ks s
def KidsV (w : World) (S : Nat → Prop) : List Nd → Value → Prop
  | [], s => s = .slice none 0 0
  | n :: ks, s => ∃ g cap cur, s = .slice (some ⟨g, 0, none⟩) (ks.length + 1) cap ∧ S g ∧ w.heap[g]? = some (.cells cur 27 (0, 0)) ∧ ks.length + 1 ≤ cap ∧ cap ≤ maxLen ∧ cur.size = cap * 9 ∧ NodeV w S n (nodeAt w g 0) ∧ RowV w S g 9 ks
def RowV (w : World) (S : Nat → Prop) (g o : Nat) : List Nd → Prop
  | [] => True
  | n :: ks => NodeV w S n (nodeAt w g o) ∧ RowV w S g (o + 9) ks
end

theorem cD_eq {w w' : World} {g : Nat} (h : w'.heap[g]? = w.heap[g]?) (i : Nat) : cD w' g i = cD w g i := by
  unfold cD
  simp only [World.cell?, h]
theorem nodeAt_eq {w w' : World} {g : Nat} (h : w'.heap[g]? = w.heap[g]?) (o : Nat) : nodeAt w' g o = nodeAt w g o := by
  unfold nodeAt
  simp only [cD_eq h]

mutual
theorem NodeV.keep {w w' : World} {S S' : Nat → Prop} (hB : ∀ k, S k → S' k) (h : ∀ k, S k → k < w.heap.size → w'.heap[k]? = w.heap[k]?) : ∀ (n : Nd) (v : Value), NodeV w S n v → NodeV w' S' n v
  | .mk _ _ _ _ _ _ _ _ ks, v, hn => by
    unfold NodeV at hn ⊢
    obtain ⟨s, h1, h2⟩ := hn
    exact ⟨s, h1, KidsV.keep hB h ks s h2⟩
theorem KidsV.keep {w w' : World} {S S' : Nat → Prop} (hB : ∀ k, S k → S' k) (h : ∀ k, S k → k < w.heap.size → w'.heap[k]? = w.heap[k]?) : ∀ (ks : List Nd) (s : Value), KidsV w S ks s → KidsV w' S' ks s
  | [], _, hn => by
    unfold KidsV at hn ⊢
    exact hn
  | n :: ks, s, hn => by
    unfold KidsV at hn ⊢
    obtain ⟨g, cap, cur, h1, h2, h3, h4, h5, h6, h7, h8⟩ := hn
    have hk := h g h2 (lt_of_blk h3)
    refine ⟨g, cap, cur, h1, hB _ h2, hk.trans h3, h4, h5, h6, ?_, RowV.keep hB h g 9 hk ks h8⟩
    rw [nodeAt_eq hk]
    exact NodeV.keep hB h n _ h7
theorem RowV.keep {w w' : World} {S S' : Nat → Prop} (hB : ∀ k, S k → S' k) (h : ∀ k, S k → k < w.heap.size → w'.heap[k]? = w.heap[k]?) (g o : Nat) (hk : w'.heap[g]? = w.heap[g]?) : ∀ (ks : List Nd), RowV w S g o ks → RowV w' S' g o ks
  | [], _ => by
    unfold RowV
    trivial
  | n :: ks, hn => by
    unfold RowV at hn ⊢
    refine ⟨?_, RowV.keep hB h g (o + 9) hk ks hn.2⟩
    rw [nodeAt_eq hk]
    exact NodeV.keep hB h n _ hn.1
end
/-- blocks from B on -/
def Fr (B k : Nat) : Prop := B ≤ k
theorem NodeV.tnS {w w' : World} {S : Nat → Prop} {g : Nat} {n : Nd} {v : Value} (h : NodeV w S n v) (t : Tn g w w') (hg : ¬ S g) : NodeV w' S n v :=
  NodeV.keep (fun _ h => h) (fun k h1 h2 => t.blk k h2 (fun e => hg (e ▸ h1))) n v h
theorem NodeV.tn {w w' : World} {B g : Nat} {n : Nd} {v : Value} (h : NodeV w (Fr B) n v) (t : Tn g w w') (hg : g < B) : NodeV w' (Fr B) n v :=
  h.tnS t (fun e => Nat.not_lt.2 e hg)
theorem NodeV.bel {w w' : World} {S : Nat → Prop} {n : Nd} {v : Value} (h : NodeV w S n v) (t : Below w.heap.size w w') : NodeV w' S n v :=
  NodeV.keep (fun _ h => h) (fun k _ h2 => t.block k h2) n v h
theorem NodeV.lowS {w : World} {S S' : Nat → Prop} {n : Nd} {v : Value} (h : NodeV w S n v) (hB : ∀ k, S k → S' k) : NodeV w S' n v :=
  NodeV.keep hB (fun _ _ _ => rfl) n v h
theorem NodeV.low {w : World} {B B' : Nat} {n : Nd} {v : Value} (h : NodeV w (Fr B) n v) (hB : B' ≤ B) : NodeV w (Fr B') n v :=
  h.lowS (fun _ h => Nat.le_trans hB h)
theorem KidsV.tnS {w w' : World} {S : Nat → Prop} {g : Nat} {n : List Nd} {v : Value} (h : KidsV w S n v) (t : Tn g w w') (hg : ¬ S g) : KidsV w' S n v :=
  KidsV.keep (fun _ h => h) (fun k h1 h2 => t.blk k h2 (fun e => hg (e ▸ h1))) n v h
theorem KidsV.tn {w w' : World} {B g : Nat} {n : List Nd} {v : Value} (h : KidsV w (Fr B) n v) (t : Tn g w w') (hg : g < B) : KidsV w' (Fr B) n v :=
  h.tnS t (fun e => Nat.not_lt.2 e hg)
theorem KidsV.bel {w w' : World} {S : Nat → Prop} {n : List Nd} {v : Value} (h : KidsV w S n v) (t : Below w.heap.size w w') : KidsV w' S n v :=
  KidsV.keep (fun _ h => h) (fun k _ h2 => t.block k h2) n v h
theorem KidsV.lowS {w : World} {S S' : Nat → Prop} {n : List Nd} {v : Value} (h : KidsV w S n v) (hB : ∀ k, S k → S' k) : KidsV w S' n v :=
  KidsV.keep hB (fun _ _ _ => rfl) n v h
theorem KidsV.low {w : World} {B B' : Nat} {n : List Nd} {v : Value} (h : KidsV w (Fr B) n v) (hB : B' ≤ B) : KidsV w (Fr B') n v :=
  h.lowS (fun _ h => Nat.le_trans hB h)

/-- a variable of a node's type, in block g -/
def Nod (w : World) (g : Nat) (v0 v1 v2 v3 v4 v5 v6 v7 v8 : Value) : Prop := w.heap[g]? = some (.cells #[v0, v1, v2, v3, v4, v5, v6, v7, v8] 27 (0, 0))
theorem set9 {w : World} {g : Nat} {x0 x1 x2 x3 x4 x5 x6 x7 x8 : Value} (h : Nod w g x0 x1 x2 x3 x4 x5 x6 x7 x8) (v0 v1 v2 v3 v4 v5 v6 v7 v8 : Value) :
    Nod (((((((((w.setCell ⟨g, 0, none⟩ v0).setCell ⟨g, 1, none⟩ v1).setCell ⟨g, 2, none⟩ v2).setCell ⟨g, 3, none⟩ v3).setCell ⟨g, 4, none⟩ v4).setCell ⟨g, 5, none⟩ v5).setCell ⟨g, 6, none⟩ v6).setCell ⟨g, 7, none⟩ v7).setCell ⟨g, 8, none⟩ v8) g v0 v1 v2 v3 v4 v5 v6 v7 v8 ∧
    Tn g w (((((((((w.setCell ⟨g, 0, none⟩ v0).setCell ⟨g, 1, none⟩ v1).setCell ⟨g, 2, none⟩ v2).setCell ⟨g, 3, none⟩ v3).setCell ⟨g, 4, none⟩ v4).setCell ⟨g, 5, none⟩ v5).setCell ⟨g, 6, none⟩ v6).setCell ⟨g, 7, none⟩ v7).setCell ⟨g, 8, none⟩ v8) := by
  obtain ⟨h0, t0⟩ := set1 h 0 v0
  have h0 : Nod _ g v0 x1 x2 x3 x4 x5 x6 x7 x8 := h0
  obtain ⟨h1, t1⟩ := set1 h0 1 v1
  have h1 : Nod _ g v0 v1 x2 x3 x4 x5 x6 x7 x8 := h1
  obtain ⟨h2, t2⟩ := set1 h1 2 v2
  have h2 : Nod _ g v0 v1 v2 x3 x4 x5 x6 x7 x8 := h2
  obtain ⟨h3, t3⟩ := set1 h2 3 v3
  have h3 : Nod _ g v0 v1 v2 v3 x4 x5 x6 x7 x8 := h3
  obtain ⟨h4, t4⟩ := set1 h3 4 v4
  have h4 : Nod _ g v0 v1 v2 v3 v4 x5 x6 x7 x8 := h4
  obtain ⟨h5, t5⟩ := set1 h4 5 v5
  have h5 : Nod _ g v0 v1 v2 v3 v4 v5 x6 x7 x8 := h5
  obtain ⟨h6, t6⟩ := set1 h5 6 v6
  have h6 : Nod _ g v0 v1 v2 v3 v4 v5 v6 x7 x8 := h6
  obtain ⟨h7, t7⟩ := set1 h6 7 v7
  have h7 : Nod _ g v0 v1 v2 v3 v4 v5 v6 v7 x8 := h7
  obtain ⟨h8, t8⟩ := set1 h7 8 v8
  have h8 : Nod _ g v0 v1 v2 v3 v4 v5 v6 v7 v8 := h8
  exact ⟨h8, (((((((t0.trans t1).trans t2).trans t3).trans t4).trans t5).trans t6).trans t7).trans t8⟩
theorem ret_nod {fn : Func} {R : Ending → World → Prop} {a : Act} {w : World} {p : Tmp} (g : Nat) {v0 v1 v2 v3 v4 v5 v6 v7 v8 : Value} (hf : fn.results = #[.cell p 27]) (hp : a.tmps.getD p undef = .pointer (some ⟨g, 0, none⟩))
    (h : Nod w g v0 v1 v2 v3 v4 v5 v6 v7 v8) (hdf : a.defers = []) (hR : R (.returned (.agg #[v0, v1, v2, v3, v4, v5, v6, v7, v8])) w) : bodyPost Tryz.prog fn R .ret a w :=
  bodyPost_ret (by
    have hp' : a.tmps[p]?.getD undef = .pointer (some ⟨g, 0, none⟩) := by simpa using hp
    have cz0 := blk_cell h 0 _ rfl
    have cz1 := blk_cell h 1 _ rfl
    have cz2 := blk_cell h 2 _ rfl
    have cz3 := blk_cell h 3 _ rfl
    have cz4 := blk_cell h 4 _ rfl
    have cz5 := blk_cell h 5 _ rfl
    have cz6 := blk_cell h 6 _ rfl
    have cz7 := blk_cell h 7 _ rfl
    have cz8 := blk_cell h 8 _ rfl
    simp [results, hf, hp', go_sem, cz0, cz1, cz2, cz3, cz4, cz5, cz6, cz7, cz8]) hdf hR
theorem Nod.all {w : World} {g : Nat} {v0 v1 v2 v3 v4 v5 v6 v7 v8 : Value} (h : Nod w g v0 v1 v2 v3 v4 v5 v6 v7 v8) :
    (w.frozen? ⟨g, 0, none⟩ = false ∧ w.frozen? ⟨g, 1, none⟩ = false ∧ w.frozen? ⟨g, 2, none⟩ = false ∧ w.frozen? ⟨g, 3, none⟩ = false ∧ w.frozen? ⟨g, 4, none⟩ = false ∧ w.frozen? ⟨g, 5, none⟩ = false ∧ w.frozen? ⟨g, 6, none⟩ = false ∧ w.frozen? ⟨g, 7, none⟩ = false ∧ w.frozen? ⟨g, 8, none⟩ = false) ∧
    w.cell? ⟨g, 0, none⟩ = some v0 ∧ w.cell? ⟨g, 1, none⟩ = some v1 ∧ w.cell? ⟨g, 2, none⟩ = some v2 ∧ w.cell? ⟨g, 3, none⟩ = some v3 ∧ w.cell? ⟨g, 4, none⟩ = some v4 ∧ w.cell? ⟨g, 5, none⟩ = some v5 ∧ w.cell? ⟨g, 6, none⟩ = some v6 ∧ w.cell? ⟨g, 7, none⟩ = some v7 ∧ w.cell? ⟨g, 8, none⟩ = some v8 :=
  ⟨⟨blk_frz h 0, blk_frz h 1, blk_frz h 2, blk_frz h 3, blk_frz h 4, blk_frz h 5, blk_frz h 6, blk_frz h 7, blk_frz h 8⟩, blk_cell h 0 _ rfl, blk_cell h 1 _ rfl, blk_cell h 2 _ rfl, blk_cell h 3 _ rfl, blk_cell h 4 _ rfl, blk_cell h 5 _ rfl, blk_cell h 6 _ rfl, blk_cell h 7 _ rfl, blk_cell h 8 _ rfl⟩
theorem Nod.tn {w w' : World} {g n : Nat} {v0 v1 v2 v3 v4 v5 v6 v7 v8 : Value} (h : Nod w g v0 v1 v2 v3 v4 v5 v6 v7 v8) (t : Tn n w w') (hn : g ≠ n) : Nod w' g v0 v1 v2 v3 v4 v5 v6 v7 v8 := (t.blk g (lt_of_blk h) hn).trans h
theorem Nod.bel {w w' : World} {g : Nat} {v0 v1 v2 v3 v4 v5 v6 v7 v8 : Value} (h : Nod w g v0 v1 v2 v3 v4 v5 v6 v7 v8) (hb : Below w.heap.size w w') : Nod w' g v0 v1 v2 v3 v4 v5 v6 v7 v8 := (hb.block g (lt_of_blk h)).trans h
theorem Nod.drew {w : World} {g : Nat} {v0 v1 v2 v3 v4 v5 v6 v7 v8 : Value} (h : Nod w g v0 v1 v2 v3 v4 v5 v6 v7 v8) : Nod w.drew g v0 v1 v2 v3 v4 v5 v6 v7 v8 := h
theorem Ps.drew {w : World} {p : List Addr} {g gT : Nat} {L : List Tk} {i l : Nat} (h : Ps w p g gT L i l) : Ps w.drew p g gT L i l := h.drewN 1
theorem Tn.drew {g : Nat} {a b : World} (h : Tn g a b) : Tn g a b.drew := h.drewN 1
def nodZ : Obj := .cells #[.int .i64 0, .int .i64 0, .string ⟨#[]⟩, .int .i64 0, .int .i64 0, .int .i64 0, .int .i64 0, .int .u64 0, .slice none 0 0] 27

inductive Out where
  | ok (n : Nd) (j : Nat)
  | bad (k j : Nat)
/-- how a rule's method ends -/
def PostN (p : List Addr) (g gT : Nat) (L : List Tk) (l : Nat) (w : World) (e : Ending) (w' : World) : Out → Prop
  | .ok n j => ∃ v, e = .returned v ∧ NodeV w' (Fr w.heap.size) n v ∧ Ps w' p g gT L j l ∧ Tn g w w'
  | .bad k j => e = stop (errV p k) (tkAt L j).pos ∧ Tn g w w'

end Go.Proofs.YtogeblmppagabaaGreatDoor.Ck
