/- The contracts of a copied text, of the keywords and of the token that the reader has gone over. -/
import Derived.Test.YtpeebpnoldadjaaDoorTa
namespace Go.Proofs.YtpeebpnoldadjaaDoor.Ck
open Go.RowKit

theorem clone_any (s : ByteArray) (w : World) (h : s.size ≤ 9000) :
    Calls Tryd.prog 62 #[.string s] w fun e w' => e = .returned (.string s) ∧ Below w.heap.size w w' := by
  go_enter Tryd.func62, Tryd.ntmps62
  go_wp2_with fail
  refine (Tryd.stringslite_Clone s w (by omega)).mono ?_
  rintro e w1 ⟨rfl, hb⟩
  go_wp2_with fail
  go_ret
  exact ⟨rfl, hb⟩

theorem Tn.mine {g g2 : Nat} {w w' : World} (h : Tn g2 w w') (hg : w.heap.size ≤ g2) : Tn g w w' := ⟨h.os, h.tape, h.output, h.size, fun k hk _ => h.blk k hk (by omega)⟩

theorem blk_frz {w : World} {g : Nat} {c : Array Value} {t : TypeId} (h : w.heap[g]? = some (.cells c t (0, 0))) (k : Nat) : w.frozen? ⟨g, k, none⟩ = false := by simp [World.frozen?, h]
theorem blk_cell {w : World} {g : Nat} {c : Array Value} {t : TypeId} (h : w.heap[g]? = some (.cells c t (0, 0))) (k : Nat) (v : Value) (hk : c[k]? = some v) : w.cell? ⟨g, k, none⟩ = some v := by simp [World.cell?, h, hk]

theorem set1 {w : World} {g : Nat} {c : Array Value} {t : TypeId} (h : w.heap[g]? = some (.cells c t (0, 0))) (k : Nat) (v : Value) :
    (w.setCell ⟨g, k, none⟩ v).heap[g]? = some (.cells (c.setIfInBounds k v) t (0, 0)) ∧ Tn g w (w.setCell ⟨g, k, none⟩ v) :=
  ⟨heap_setCell_same _ _ _ _ _ _ h, rfl, rfl, rfl, Nat.le_of_eq (by simp [World.setCell]), fun _ _ hk => Below.heap_setCell _ _ _ _ hk⟩
/-- a variable of a token's type, in block g -/
def Tok (w : World) (g : Nat) (a b c d e : Value) : Prop := w.heap[g]? = some (.cells #[a, b, c, d, e] 37 (0, 0))
theorem set5 {w : World} {g : Nat} {a b c d e : Value} (h : Tok w g a b c d e) (v0 v1 v2 v3 v4 : Value) :
    Tok (((((w.setCell ⟨g, 0, none⟩ v0).setCell ⟨g, 1, none⟩ v1).setCell ⟨g, 2, none⟩ v2).setCell ⟨g, 3, none⟩ v3).setCell ⟨g, 4, none⟩ v4) g v0 v1 v2 v3 v4 ∧
    Tn g w (((((w.setCell ⟨g, 0, none⟩ v0).setCell ⟨g, 1, none⟩ v1).setCell ⟨g, 2, none⟩ v2).setCell ⟨g, 3, none⟩ v3).setCell ⟨g, 4, none⟩ v4) := by
  obtain ⟨h0, t0⟩ := set1 h 0 v0
  obtain ⟨h1, t1⟩ := set1 h0 1 v1
  obtain ⟨h2, t2⟩ := set1 h1 2 v2
  obtain ⟨h3, t3⟩ := set1 h2 3 v3
  obtain ⟨h4, t4⟩ := set1 h3 4 v4
  exact ⟨h4, (((t0.trans t1).trans t2).trans t3).trans t4⟩

theorem ret_tok {fn : Func} {R : Ending → World → Prop} {a : Act} {w : World} {p : Tmp} (g : Nat) {v0 v1 v2 v3 v4 : Value} (hf : fn.results = #[.cell p 37]) (hp : a.tmps.getD p undef = .pointer (some ⟨g, 0, none⟩))
    (h : Tok w g v0 v1 v2 v3 v4) (hdf : a.defers = []) (hR : R (.returned (.agg #[v0, v1, v2, v3, v4])) w) : bodyPost Tryd.prog fn R .ret a w :=
  bodyPost_ret (by
    have hp' : a.tmps[p]?.getD undef = .pointer (some ⟨g, 0, none⟩) := by simpa using hp
    have cz0 := blk_cell h 0 _ rfl
    have cz1 := blk_cell h 1 _ rfl
    have cz2 := blk_cell h 2 _ rfl
    have cz3 := blk_cell h 3 _ rfl
    have cz4 := blk_cell h 4 _ rfl
    simp [results, hf, hp', go_sem, cz0, cz1, cz2, cz3, cz4]) hdf hR

set_option maxHeartbeats 1000000 in
theorem since_any (g : Nat) (s : ByteArray) (i j : Nat) (k : Int) (w : World) (h : Rdr w g s j) (hi : s.size ≤ 9000) (hij : i ≤ j) (hj : j ≤ s.size) :
    Calls Tryd.prog 51 #[.pointer (some ⟨g, 0, none⟩), .int .i64 i, .int .i64 k] w fun e w' =>
      e = .returned (.agg #[.int .i64 k, .string (cut s i j), .int .i64 0, .int .u64 0, .int .i64 i]) ∧ Below w.heap.size w w' := by
  have h1 := h.src
  have h2 := h.pos
  have hg := lt_of_blk h
  clear h
  have hcl : Hid (∀ wx, Calls Tryd.prog 62 #[.string (s.extract i j)] wx fun e w' => e = .returned (.string (cut s i j)) ∧ Below wx.heap.size wx w') := fun wx => clone_any _ wx (by rw [ByteArray.size_extract]; omega)
  go_enter Tryd.func51, Tryd.ntmps51
  go_wp2_with fail
  have hz0 : (w.alloc (.cells #[.int .i64 0, .string ⟨#[]⟩, .int .i64 0, .int .u64 0, .int .i64 0] 37)).heap[w.heap.size]? = some (.cells #[.int .i64 0, .string ⟨#[]⟩, .int .i64 0, .int .u64 0, .int .i64 0] 37 (0, 0)) := Go.Deep.blk_alloc_new _ _
  have hb0 := bel_new w (.cells #[.int .i64 0, .string ⟨#[]⟩, .int .i64 0, .int .u64 0, .int .i64 0] 37)
  have g1 := (hb0.cell (p := ⟨g, 0, none⟩) hg).trans h1
  have g2 := (hb0.cell (p := ⟨g, 1, none⟩) hg).trans h2
  have hg0 := Nat.lt_of_lt_of_le hg hb0.size
  have hlt0 := lt_of_blk hz0
  have n1 := World.new_ne w ⟨g, 0, none⟩ h1
  have n2 := World.new_ne w ⟨g, 1, none⟩ h2
  clear h1 h2
  generalize w.alloc (.cells #[.int .i64 0, .string ⟨#[]⟩, .int .i64 0, .int .u64 0, .int .i64 0] 37) = w0 at *
  go_region_held3 (fun w' => w'.cell? ⟨g, 0, none⟩ = some (.string s) ∧ w'.cell? ⟨g, 1, none⟩ = some (.int .i64 j)) (go_keep)
    (first
      | (go_at_call 62; refine (hcl.out _).mono ?_; rintro e w1 ⟨rfl, hb1⟩; have hb1 : Below w0.heap.size w0 w1 := ⟨hb1.os, hb1.tape, hb1.output, hb1.size, hb1.block⟩; have k1 := (hb1.cell (p := ⟨g, 0, none⟩) hg0).trans g1; have k2 := (hb1.cell (p := ⟨g, 1, none⟩) hg0).trans g2; have hz1 := (hb1.block w.heap.size hlt0).trans hz0; have fz0 := blk_frz hz1 0; have cz0 := blk_cell hz1 0 _ rfl; have fz1 := blk_frz hz1 1; have cz1 := blk_cell hz1 1 _ rfl; have fz2 := blk_frz hz1 2; have cz2 := blk_cell hz1 2 _ rfl; have fz3 := blk_frz hz1 3; have cz3 := blk_cell hz1 3 _ rfl; have fz4 := blk_frz hz1 4; have cz4 := blk_cell hz1 4 _ rfl))
  obtain ⟨hz2, tn2⟩ := set5 hz1 (.int .i64 k) (.string (cut s i j)) (.int .i64 0) (.int .u64 0) (.int .i64 i)
  have hb2 := Tn.bel (hb0.trans (hb1.mono hb0.size) |> Tn.of_bel (g := w.heap.size) |>.trans tn2) (Nat.le_refl _) (Nat.le_refl _)
  clear k1 k2 fz0 fz1 fz2 fz3 fz4 cz0 cz1 cz2 cz3 cz4 hz1 tn2
  generalize ((((w1.setCell ⟨w.heap.size, 0, none⟩ _).setCell ⟨w.heap.size, 1, none⟩ _).setCell ⟨w.heap.size, 2, none⟩ _).setCell ⟨w.heap.size, 3, none⟩ _).setCell ⟨w.heap.size, 4, none⟩ _ = w2 at *
  go_wp2_with fail
  exact ret_tok w.heap.size rfl rfl hz2 rfl ⟨rfl, hb2⟩

theorem tokenKey_any (t : ByteArray) (w : World) : Calls Tryd.prog 15 #[.string t] w fun e w' => e = .returned (.bool (isKey t)) ∧ w = w' := by
  go_enter Tryd.func15, Tryd.ntmps15
  go_wp2_with fail
  all_goals
    first
      | (exfalso; rename_i h1 h2; rw [h1] at h2; cases h2; done)
      | (go_ret; refine ⟨congrArg Ending.returned (congrArg Value.bool ?_), rfl⟩; rename_i h; have e := eq_of_beq h; unfold isKey keyTab; rw [e]; rfl)
      | (go_ret; refine ⟨congrArg Ending.returned (congrArg Value.bool ?_), rfl⟩; simp only [isKey, keyTab, List.any_cons, List.any_nil, Bool.or_false, *])
theorem ref05Key_any (t : ByteArray) (w : World) : Calls Tryd.prog 16 #[.string t] w fun e w' => e = .returned (.bool (isKey t)) ∧ w = w' := by
  go_enter Tryd.func16, Tryd.ntmps16
  go_wp2_with fail
  all_goals
    first
      | (exfalso; rename_i h1 h2; rw [h1] at h2; cases h2; done)
      | (go_ret; refine ⟨congrArg Ending.returned (congrArg Value.bool ?_), rfl⟩; rename_i h; have e := eq_of_beq h; unfold isKey keyTab; rw [e]; rfl)
      | (go_ret; refine ⟨congrArg Ending.returned (congrArg Value.bool ?_), rfl⟩; simp only [isKey, keyTab, List.any_cons, List.any_nil, Bool.or_false, *])

end Go.Proofs.YtpeebpnoldadjaaDoor.Ck
