/- Package sync: take, and the calls on channels. (Written by mk_y.py.) -/
import Derived.Test.YtghfjnnmpmfboaaDoorYj
namespace Go.Proofs.YtghfjnnmpmfboaaDoor.Ck
open Go.RowKit

/-- what take leaves where there is a value -/
def TakeP (w : World) (b o : Nat) (bq k cq : Nat) (v : V3) (l : List V3) (e : Ending) (w' : World) : Prop := e = .returned (.tuple #[.agg #[.int .i64 v.1, .int .i64 v.2.1, .int .u64 v.2.2], .bool true]) ∧ ∃ w2, w2.ownsRow 0 41 3 (.slice (some ⟨bq, 0, none⟩) k cq) l.length (vcs l) ∧ w.grownBy w2 (some bq) ∧ Below w.heap.size (w2.setCell ⟨b, o + 2, none⟩ (.slice (some ⟨bq, 0, none⟩) k cq)) w'
theorem Val.keep {w w' : World} {g : Nat} {t n b : Int} (h : Val w g t n b) (hb : w'.heap[g]? = w.heap[g]?) : Val w' g t n b := hb.trans h
theorem bel_gb {w w1 w2 : World} {o : Option Nat} (h : Below w.heap.size w w1) (k : w1.grownBy w2 o) : w.grownBy w2 o := ⟨k.os.trans h.os, k.tape.trans h.tape, k.output.trans h.output, Nat.le_trans h.size k.size, fun i hi hne => (k.block i (Nat.lt_of_lt_of_le hi h.size) hne).trans (h.block i hi)⟩
set_option maxRecDepth 20000 in
set_option maxHeartbeats 1000000 in
theorem take_none {w : World} (b o : Nat) (hbl : b < w.heap.size) (a : Option Addr) (c : Nat) (d2 : w.cell? ⟨b, o + 2, none⟩ = some (.slice a 0 c)) : Calls Tryd.prog 79 #[.pointer (some ⟨b, o, none⟩)] w (Vb w (.tuple #[.agg #[.int .i64 0, .int .i64 0, .int .u64 0], .bool false])) := by
  go_enter Tryd.func79, Tryd.ntmps79
  go_wp2_with fail
  refine ret_ve w.heap.size rfl rfl rfl (Val.new w 0 0 0) rfl (Vb.mk rfl (bel_new _ _))
set_option maxRecDepth 20000 in
set_option maxHeartbeats 1000000 in
theorem take_some {w : World} (b o : Nat) (cur : Array Value) (hbq : w.heap[b]? = some (.cells cur 98 (0, 0))) (bq cq k : Nat) (v : V3) (l : List V3) (hk : k = l.length) (hk8 : k ≤ 1000) (d2 : w.cell? ⟨b, o + 2, none⟩ = some (.slice (some ⟨bq, 0, none⟩) (k + 1) cq)) (oq : w.ownsRow 0 41 3 (.slice (some ⟨bq, 0, none⟩) (k + 1) cq) (k + 1) (vcs (v :: l))) : Calls Tryd.prog 79 #[.pointer (some ⟨b, o, none⟩)] w (TakeP w b o bq k cq v l) := by
  have hbl := lt_of_blk hbq
  have hql := (own_type oq (k := bq) rfl).2.1
  have hne : b ≠ bq := fun e => own_at oq hbq (by decide) (by rw [e]; rfl)
  obtain ⟨q0, q1, q2⟩ := vcs_at (v :: l) 0 v rfl
  have e0 := (own_cell oq _ _ q0).1
  have e1 := (own_cell oq _ _ q1).1
  have e2 := (own_cell oq _ _ q2).1
  simp only [Nat.mul_zero, Nat.zero_add] at e0 e1 e2
  have hbB : Below w.heap.size w ((w.alloc (.cells #[.int .i64 0, .int .i64 0, .int .u64 0] 41)).alloc (.cells #[.int .i64 v.1, .int .i64 v.2.1, .int .u64 v.2.2] 41)) := bel_al (bel_new w _) _
  have DE := hide (delete_any hk hk8 (own_keep oq (fun k hk => hbB.block k (own_type oq hk).2.1)))
  have WB := hide (And.intro hbB (And.intro ((Val.new w 0 0 0).al (bel_new (w.alloc (.cells #[.int .i64 0, .int .i64 0, .int .u64 0] 41)) (.cells #[.int .i64 v.1, .int .i64 v.2.1, .int .u64 v.2.2] 41))) (Val.new (w.alloc (.cells #[.int .i64 0, .int .i64 0, .int .u64 0] 41)) v.1 v.2.1 v.2.2)))
  have HQ := hide (And.intro hbq d2)
  have HNE := hide hne
  clear hbB oq q0 q1 q2 hk hne hbq
  go_enter Tryd.func79, Tryd.ntmps79
  go_wp2_with fail
  refine DE.out.mono ?_
  rintro e w2 ⟨rfl, o2, g2⟩
  obtain ⟨hbB, VA, VB⟩ := WB.out
  have hsz : (w.alloc (.cells #[.int .i64 0, .int .i64 0, .int .u64 0] 41)).heap.size = w.heap.size + 1 := by simp
  rw [hsz] at VB
  have VA2 := VA.keep (g2.block _ VA.lt (fun e => by have := Option.some.inj e; omega))
  have VB2 := VB.keep (g2.block _ VB.lt (fun e => by have := Option.some.inj e; omega))
  have hbq2 := (g2.block b (Nat.lt_of_lt_of_le hbl hbB.size) (fun e => HNE.out (Option.some.inj e))).trans ((hbB.block b hbl).trans HQ.out.1)
  have z1 := blk_frz hbq2 (o + 2)
  have z2 : w2.cell? ⟨b, o + 2, none⟩ = some (.slice (some ⟨bq, 0, none⟩) (k + 1) cq) := (World.cell?_of_block (w := w) (a := ⟨b, o + 2, none⟩) (hbq2.trans HQ.out.1.symm)).trans HQ.out.2
  obtain ⟨⟨fa0, fa1, fa2⟩, va0, va1, va2⟩ := VA2.all
  obtain ⟨_, vb0, vb1, vb2⟩ := VB2.all
  have VA3 := hide (VA2.keep (w' := w2.setCell ⟨b, o + 2, none⟩ (.slice (some ⟨bq, 0, none⟩) k cq)) (Below.heap_setCell _ _ _ _ (by show w.heap.size ≠ b; omega)))
  have G2 := hide (And.intro o2 (bel_gb hbB g2))
  clear VA VB VA2 VB2 hbq2 g2 o2 hbB WB DE HQ e0 e1 e2 d2
  go_wp2_with fail
  exact ret_ve w.heap.size rfl rfl rfl (VA3.out.set v.1 v.2.1 v.2.2) rfl ⟨rfl, w2, G2.out.1, G2.out.2, bel_set (Below.refl _ _) (Nat.le_refl _) _ _ _⟩
end Go.Proofs.YtghfjnnmpmfboaaDoor.Ck
