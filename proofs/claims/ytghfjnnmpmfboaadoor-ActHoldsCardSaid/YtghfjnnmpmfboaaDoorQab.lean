/- Texts of this proof, packed: contracts of the program's functions, and the plain model that they are held against. -/
import Derived.Test.YtghfjnnmpmfboaaDoorQaa
import Derived.Lib.SmallJoins
import Derived.Deep.CutBlock
set_option maxRecDepth 20000
set_option maxHeartbeats 4000000
namespace Go.Proofs.YtghfjnnmpmfboaaDoor.Ck
open Go.RowKit
def TakeP (w : World) (b o : Nat) (bq k cq : Nat) (v : V3) (l : List V3) (e : Ending) (w' : World) : Prop := e = .returned (.tuple #[.agg #[.int .i64 v.1, .int .i64 v.2.1, .int .u64 v.2.2], .bool true]) /\ ∃ w2, w2.ownsRow 0 41 3 (.slice (some ⟨bq, 0, none⟩) k cq) l.length (vcs l) /\ w.grownBy w2 (some bq) /\ Below w.heap.size (w2.setCell ⟨b, o + 2, none⟩ (.slice (some ⟨bq, 0, none⟩) k cq)) w'
theorem Val.keep {w w' : World} {g : Nat} {t n b : Int} (h : Val w g t n b) (hb : w'.heap[g]? = w.heap[g]?) : Val w' g t n b := hb.trans h
theorem bel_gb {w w1 w2 : World} {o : Option Nat} (h : Below w.heap.size w w1) (k : w1.grownBy w2 o) : w.grownBy w2 o := ⟨k.os.trans h.os, k.tape.trans h.tape, k.output.trans h.output, Nat.le_trans h.size k.size, fun i hi hne => (k.block i (Nat.lt_of_lt_of_le hi h.size) hne).trans (h.block i hi)⟩
theorem take_some {w : World} (b o : Nat) (cur : Array Value) (hbq : w.heap[b]? = some (.cells cur 98 (0, 0))) (bq cq k : Nat) (v : V3) (l : List V3) (hk : k = l.length) (hk8 : k <= 1000) (d2 : w.cell? ⟨b, o + 2, none⟩ = some (.slice (some ⟨bq, 0, none⟩) (k + 1) cq)) (oq : w.ownsRow 0 41 3 (.slice (some ⟨bq, 0, none⟩) (k + 1) cq) (k + 1) (vcs (v :: l))) : Calls Tryd.prog 79 #[.pointer (some ⟨b, o, none⟩)] w (TakeP w b o bq k cq v l) := by
 have hbl := Ze hbq
 have hql := (Zf oq (k := bq) rfl).2.1
 have hne : b ≠ bq := fun e => Zt oq hbq (by decide) (by rw [e]; rfl)
 obtain ⟨q0, q1, q2⟩ := vcs_at (v :: l) 0 v rfl
 have e0 := (Zm oq _ _ q0).1
 have e1 := (Zm oq _ _ q1).1
 have e2 := (Zm oq _ _ q2).1
 simp only [Nat.mul_zero, Nat.zero_add] at e0 e1 e2
 have hbB : Below w.heap.size w ((w.alloc (.cells #[.int .i64 0, .int .i64 0, .int .u64 0] 41)).alloc (.cells #[.int .i64 v.1, .int .i64 v.2.1, .int .u64 v.2.2] 41)) := Zu (Zd w _) _
 have DE := Za (delete_any hk hk8 (Zk oq (fun k hk => hbB.block k (Zf oq hk).2.1)))
 have WB := Za (And.intro hbB (And.intro ((Val.new w 0 0 0).al (Zd (w.alloc (.cells #[.int .i64 0, .int .i64 0, .int .u64 0] 41)) (.cells #[.int .i64 v.1, .int .i64 v.2.1, .int .u64 v.2.2] 41))) (Val.new (w.alloc (.cells #[.int .i64 0, .int .i64 0, .int .u64 0] 41)) v.1 v.2.1 v.2.2)))
 have HQ := Za (And.intro hbq d2)
 have HNE := Za hne
 clear hbB oq q0 q1 q2 hk hne hbq
 go_enter Tryd.func79, Tryd.ntmps79
 go_wp2_with fail
 refine DE.out.mono ?_
 rintro e w2 ⟨rfl, o2, g2⟩
 obtain ⟨hbB, VA, VB⟩ := WB.out
 have hsz : (w.alloc (.cells #[.int .i64 0, .int .i64 0, .int .u64 0] 41)).heap.size = w.heap.size + 1 := by simp
 rw [hsz] at VB
 have VA2 := VA.keep (g2.block _ VA.lt (fun e => by have := Option.some.inj e; omega))
 have VB2 := VB.keep (g2.block _ VB.lt (fun e => by have := Option.some.inj e; omega))
 have hbq2 := (g2.block b (Nat.lt_of_lt_of_le hbl hbB.size) (fun e => HNE.out (Option.some.inj e))).trans ((hbB.block b hbl).trans HQ.out.1)
 have z1 := Zc hbq2 (o + 2)
 have z2 : w2.cell? ⟨b, o + 2, none⟩ = some (.slice (some ⟨bq, 0, none⟩) (k + 1) cq) := (World.cell?_of_block (w := w) (a := ⟨b, o + 2, none⟩) (hbq2.trans HQ.out.1.symm)).trans HQ.out.2
 obtain ⟨⟨fa0, fa1, fa2⟩, va0, va1, va2⟩ := VA2.all
 obtain ⟨_, vb0, vb1, vb2⟩ := VB2.all
 have VA3 := Za (VA2.keep (w' := w2.setCell ⟨b, o + 2, none⟩ (.slice (some ⟨bq, 0, none⟩) k cq)) (Below.heap_setCell _ _ _ _ (by show w.heap.size ≠ b; omega)))
 have G2 := Za (And.intro o2 (bel_gb hbB g2))
 clear VA VB VA2 VB2 hbq2 g2 o2 hbB WB DE HQ e0 e1 e2 d2
 go_wp2_with fail
 exact ret_ve w.heap.size rfl rfl rfl (VA3.out.set v.1 v.2.1 v.2.2) rfl ⟨rfl, w2, G2.out.1, G2.out.2, Zq (Below.refl _ _) (Nat.le_refl _) _ _ _⟩
theorem Send_bad {w : World} {F : Nat -> Prop} {g : Nat} {s : St} (h : Stt w F g s) {p : List Addr} (h17 : E2 w p) (i : Nat) (q : Qu) (hx : s.C[i]? = some q) (t m z : Int) (hB : isB t m z q.t = false) : Calls Tryd.prog 32 #[.pointer (some ⟨g, 0, none⟩), .int .i64 (i : Nat), .agg #[.int .i64 t, .int .i64 m, .int .u64 z]] w (Vb w (.tuple #[.bool false, errV p 4])) := by
 obtain ⟨vP, vM, vC, vA, vs, h⟩ := h
 have hi : i < s.C.length := (List.getElem?_eq_some_iff.1 hx).1
 obtain ⟨b, c, e, hc, hm⟩ := Zv h.ch (by omega)
 have hsm := h.small
 obtain ⟨n, hn⟩ : ∃ n, n = s.C.length := ⟨_, rfl⟩
 rw [← hn] at e hi hc
 have hn32 : n <= 32 := by omega
 subst e
 have HN := Za hn
 have c1 := h.cells.2.2.1
 obtain ⟨qt, qr, ql⟩ := q
 have hrm := h.rooms _ (List.mem_of_getElem? hx)
 simp only at hB hrm
 have hvi : i < vs.length := by rw [h.len]; omega
 obtain ⟨vq, hv⟩ : ∃ v, vs[i]? = some v := ⟨_, List.getElem?_eq_getElem hvi⟩
 obtain ⟨o, ho⟩ : ∃ o, o = 3 * i := ⟨_, rfl⟩
 have HO := Za ho
 have hgl := h.fb g h.fg
 have hbl := h.fb b (h.fC b rfl)
 have IS : ∀ wx, Calls Tryd.prog 77 #[.agg #[.int .i64 t, .int .i64 m, .int .u64 z], .int .i64 qt] wx (Vb wx (.bool false)) := fun wx => by
  have := isOf_any t m z qt wx
  rw [hB] at this
  exact this
 have W1 := Za (And.intro (h.bel (Zd w (.cells #[.int .i64 t, .int .i64 m, .int .u64 z] 41))) (And.intro (Zd w (.cells #[.int .i64 t, .int .i64 m, .int .u64 z] 41)) (And.intro (Val.new w t m z) (h17.below (Nat.le_refl _) (Zd w (.cells #[.int .i64 t, .int .i64 m, .int .u64 z] 41))))))
 have HX := Za (And.intro hx hv)
 clear h hsm hc hm hn h17 hB ho hx hv hvi
 go_enter Tryd.func32, Tryd.ntmps32
 go_wp2_with fail
 refine (ZO b n c i o _ hi HO).mono ?_
 rintro e w1 ⟨rfl, rfl⟩
 go_wp2_with fail
 generalize w.alloc _ = w1 at *
 obtain ⟨h1, hb1, V1, x1'⟩ := W1.out
 obtain ⟨q0, q1, q2⟩ := qcs_at _ _ _ _ _ HX.out.1 HX.out.2
 rw [← HO.out] at q0 q1 q2
 have d0 := (Zm h1.ch _ _ q0).1
 obtain ⟨_, v0, v1, v2⟩ := V1.all
 simp only at d0
 have K1 := Za (And.intro h1 (And.intro hb1 (And.intro V1 x1')))
 clear W1 h1 hb1 V1 x1' q0 q1 q2 c1
 go_region_held3 (fun w' => (w'.cell? ⟨w.heap.size, 0, none⟩ = some (.int .i64 t) /\ w'.cell? ⟨w.heap.size, 1, none⟩ = some (.int .i64 m) /\ w'.cell? ⟨w.heap.size, 2, none⟩ = some (.int .u64 z)) /\ w'.cell? ⟨b, o, none⟩ = some (.int .i64 qt)) (first | (exact ⟨⟨by assumption, by assumption, by assumption⟩, by assumption⟩)) (first | (go_at_call 77; refine (IS _).mono ?_; rintro e w2 ⟨rfl, hb⟩; replace hb : Below w1.heap.size w1 w2 := ⟨hb.os, hb.tape, hb.output, hb.size, hb.block⟩; have K2 := Za (And.intro (K1.out.1.bel hb) (And.intro (Zi K1.out.2.1 hb) (And.intro (K1.out.2.2.1.al hb) (K1.out.2.2.2.below (Nat.le_refl _) hb)))); obtain ⟨_, v0', v1', v2'⟩ := K2.out.2.2.1.all; have d0' : w2.cell? ⟨b, o, none⟩ = some (.int .i64 qt) := (hb.cell (p := ⟨b, o, none⟩) (K1.out.1.fb b (K1.out.1.fC b rfl))).trans d0))
 have x4 : w2.cell? ⟨4, 0, none⟩ = some (errV p 4) := K2.out.2.2.2.c4
 generalize errV p 4 = ev at *
 go_wp2_with fail
 go_quiet (fail)
 go_wp2_with fail
 go_ret2
 exact Vb.mk rfl (below_drewN K2.out.2.1 _)
theorem Send_full {w : World} {F : Nat -> Prop} {g : Nat} {s : St} (h : Stt w F g s) {p : List Addr} (h17 : E2 w p) (i : Nat) (q : Qu) (hx : s.C[i]? = some q) (t m z : Int) (hB : isB t m z q.t = true) (hr : q.room <= q.l.length) : Calls Tryd.prog 32 #[.pointer (some ⟨g, 0, none⟩), .int .i64 (i : Nat), .agg #[.int .i64 t, .int .i64 m, .int .u64 z]] w (Vb w (.tuple #[.bool false, .nilIface])) := by
 obtain ⟨vP, vM, vC, vA, vs, h⟩ := h
 have hi : i < s.C.length := (List.getElem?_eq_some_iff.1 hx).1
 obtain ⟨b, c, e, hc, hm⟩ := Zv h.ch (by omega)
 have hsm := h.small
 obtain ⟨n, hn⟩ : ∃ n, n = s.C.length := ⟨_, rfl⟩
 rw [← hn] at e hi hc
 have hn32 : n <= 32 := by omega
 subst e
 have HN := Za hn
 have c1 := h.cells.2.2.1
 obtain ⟨qt, qr, ql⟩ := q
 have hrm := h.rooms _ (List.mem_of_getElem? hx)
 simp only at hB hr hrm
 have hvi : i < vs.length := by rw [h.len]; omega
 obtain ⟨vq, hv⟩ : ∃ v, vs[i]? = some v := ⟨_, List.getElem?_eq_getElem hvi⟩
 obtain ⟨o, ho⟩ : ∃ o, o = 3 * i := ⟨_, rfl⟩
 have HO := Za ho
 have hgl := h.fb g h.fg
 have hbl := h.fb b (h.fC b rfl)
 have IS : ∀ wx, Calls Tryd.prog 77 #[.agg #[.int .i64 t, .int .i64 m, .int .u64 z], .int .i64 qt] wx (Vb wx (.bool true)) := fun wx => by
  have := isOf_any t m z qt wx
  rw [hB] at this
  exact this
 have W1 := Za (And.intro (h.bel (Zd w (.cells #[.int .i64 t, .int .i64 m, .int .u64 z] 41))) (And.intro (Zd w (.cells #[.int .i64 t, .int .i64 m, .int .u64 z] 41)) (And.intro (Val.new w t m z) (h17.below (Nat.le_refl _) (Zd w (.cells #[.int .i64 t, .int .i64 m, .int .u64 z] 41))))))
 have HX := Za (And.intro hx hv)
 clear h hsm hc hm hn h17 hB ho hx hv hvi
 go_enter Tryd.func32, Tryd.ntmps32
 go_wp2_with fail
 refine (ZO b n c i o _ hi HO).mono ?_
 rintro e w1 ⟨rfl, rfl⟩
 go_wp2_with fail
 generalize w.alloc _ = w1 at *
 obtain ⟨h1, hb1, V1, x1'⟩ := W1.out
 obtain ⟨q0, q1, q2⟩ := qcs_at _ _ _ _ _ HX.out.1 HX.out.2
 rw [← HO.out] at q0 q1 q2
 have d0 := (Zm h1.ch _ _ q0).1
 obtain ⟨_, v0, v1, v2⟩ := V1.all
 simp only at d0
 have K1 := Za (And.intro h1 (And.intro hb1 (And.intro V1 x1')))
 clear W1 h1 hb1 V1 x1' q0 q1 q2 c1
 go_region_held3 (fun w' => (w'.cell? ⟨w.heap.size, 0, none⟩ = some (.int .i64 t) /\ w'.cell? ⟨w.heap.size, 1, none⟩ = some (.int .i64 m) /\ w'.cell? ⟨w.heap.size, 2, none⟩ = some (.int .u64 z)) /\ w'.cell? ⟨b, o, none⟩ = some (.int .i64 qt)) (first | (exact ⟨⟨by assumption, by assumption, by assumption⟩, by assumption⟩)) (first | (go_at_call 77; refine (IS _).mono ?_; rintro e w2 ⟨rfl, hb⟩; replace hb : Below w1.heap.size w1 w2 := ⟨hb.os, hb.tape, hb.output, hb.size, hb.block⟩; have K2 := Za (And.intro (K1.out.1.bel hb) (And.intro (Zi K1.out.2.1 hb) (And.intro (K1.out.2.2.1.al hb) (K1.out.2.2.2.below (Nat.le_refl _) hb)))); obtain ⟨_, v0', v1', v2'⟩ := K2.out.2.2.1.all; have d0' : w2.cell? ⟨b, o, none⟩ = some (.int .i64 qt) := (hb.cell (p := ⟨b, o, none⟩) (K1.out.1.fb b (K1.out.1.fC b rfl))).trans d0))
 obtain ⟨h2, hb2, V2, x2'⟩ := K2.out
 obtain ⟨q0, q1, q2⟩ := qcs_at _ _ _ _ _ HX.out.1 HX.out.2
 rw [← HO.out] at q0 q1 q2
 have e1 := (Zm h2.ch _ _ q1).1
 have e2 := (Zm h2.ch _ _ q2).1
 obtain ⟨_, _, cur, hcur⟩ := Zf h2.ch (k := b) rfl
 have oq := (h2.q i _ vq HX.out.1 HX.out.2).1
 have PF := Za (put_full b o cur hcur qr vq ql e1 e2 oq hr t m z)
 clear h2 hb2 V2 x2' q0 q1 q2 e1 e2 hcur oq hr hrm
 go_wp2_with fail
 refine PF.out.mono ?_
 rintro e w3 ⟨rfl, hb3⟩
 go_wp2_with fail
 go_ret2
 exact Vb.mk rfl (Zi K2.out.2.1 hb3)
theorem Send_room {w : World} {F : Nat -> Prop} {g : Nat} {s : St} (h : Stt w F g s) {p : List Addr} (h17 : E2 w p) (i : Nat) (q : Qu) (hx : s.C[i]? = some q) (t m z : Int) (hB : isB t m z q.t = true) (hr : (q.l.length : Int) < q.room) : Calls Tryd.prog 32 #[.pointer (some ⟨g, 0, none⟩), .int .i64 (i : Nat), .agg #[.int .i64 t, .int .i64 m, .int .u64 z]] w (Sp w F g { s with C := s.C.set i { q with l := q.l ++ [(t, m, z)] } } (.tuple #[.bool true, .nilIface])) := by
 obtain ⟨vP, vM, vC, vA, vs, h⟩ := h
 have hi : i < s.C.length := (List.getElem?_eq_some_iff.1 hx).1
 obtain ⟨b, c, e, hc, hm⟩ := Zv h.ch (by omega)
 have hsm := h.small
 obtain ⟨n, hn⟩ : ∃ n, n = s.C.length := ⟨_, rfl⟩
 rw [← hn] at e hi hc
 have hn32 : n <= 32 := by omega
 subst e
 have HN := Za hn
 have c1 := h.cells.2.2.1
 obtain ⟨qt, qr, ql⟩ := q
 have hrm := h.rooms _ (List.mem_of_getElem? hx)
 simp only at hB hr hrm
 have hvi : i < vs.length := by rw [h.len]; omega
 obtain ⟨vq, hv⟩ : ∃ v, vs[i]? = some v := ⟨_, List.getElem?_eq_getElem hvi⟩
 obtain ⟨o, ho⟩ : ∃ o, o = 3 * i := ⟨_, rfl⟩
 have HO := Za ho
 have hgl := h.fb g h.fg
 have hbl := h.fb b (h.fC b rfl)
 have IS : ∀ wx, Calls Tryd.prog 77 #[.agg #[.int .i64 t, .int .i64 m, .int .u64 z], .int .i64 qt] wx (Vb wx (.bool true)) := fun wx => by
  have := isOf_any t m z qt wx
  rw [hB] at this
  exact this
 have W1 := Za (And.intro (h.bel (Zd w (.cells #[.int .i64 t, .int .i64 m, .int .u64 z] 41))) (And.intro (Zd w (.cells #[.int .i64 t, .int .i64 m, .int .u64 z] 41)) (And.intro (Val.new w t m z) (h17.below (Nat.le_refl _) (Zd w (.cells #[.int .i64 t, .int .i64 m, .int .u64 z] 41))))))
 have HX := Za (And.intro hx hv)
 clear h hsm hc hm hn h17 hB ho hx hv hvi
 go_enter Tryd.func32, Tryd.ntmps32
 go_wp2_with fail
 refine (ZO b n c i o _ hi HO).mono ?_
 rintro e w1 ⟨rfl, rfl⟩
 go_wp2_with fail
 generalize w.alloc _ = w1 at *
 obtain ⟨h1, hb1, V1, x1'⟩ := W1.out
 obtain ⟨q0, q1, q2⟩ := qcs_at _ _ _ _ _ HX.out.1 HX.out.2
 rw [← HO.out] at q0 q1 q2
 have d0 := (Zm h1.ch _ _ q0).1
 obtain ⟨_, v0, v1, v2⟩ := V1.all
 simp only at d0
 have K1 := Za (And.intro h1 (And.intro hb1 (And.intro V1 x1')))
 clear W1 h1 hb1 V1 x1' q0 q1 q2 c1
 go_region_held3 (fun w' => (w'.cell? ⟨w.heap.size, 0, none⟩ = some (.int .i64 t) /\ w'.cell? ⟨w.heap.size, 1, none⟩ = some (.int .i64 m) /\ w'.cell? ⟨w.heap.size, 2, none⟩ = some (.int .u64 z)) /\ w'.cell? ⟨b, o, none⟩ = some (.int .i64 qt)) (first | (exact ⟨⟨by assumption, by assumption, by assumption⟩, by assumption⟩)) (first | (go_at_call 77; refine (IS _).mono ?_; rintro e w2 ⟨rfl, hb⟩; replace hb : Below w1.heap.size w1 w2 := ⟨hb.os, hb.tape, hb.output, hb.size, hb.block⟩; have K2 := Za (And.intro (K1.out.1.bel hb) (And.intro (Zi K1.out.2.1 hb) (And.intro (K1.out.2.2.1.al hb) (K1.out.2.2.2.below (Nat.le_refl _) hb)))); obtain ⟨_, v0', v1', v2'⟩ := K2.out.2.2.1.all; have d0' : w2.cell? ⟨b, o, none⟩ = some (.int .i64 qt) := (hb.cell (p := ⟨b, o, none⟩) (K1.out.1.fb b (K1.out.1.fC b rfl))).trans d0))
 obtain ⟨h2, hb2, V2, x2'⟩ := K2.out
 obtain ⟨q0, q1, q2⟩ := qcs_at _ _ _ _ _ HX.out.1 HX.out.2
 rw [← HO.out] at q0 q1 q2
 have e1 := (Zm h2.ch _ _ q1).1
 have e2 := (Zm h2.ch _ _ q2).1
 obtain ⟨_, _, cur, hcur⟩ := Zf h2.ch (k := b) rfl
 have oq := (h2.q i _ vq HX.out.1 HX.out.2).1
 have PF := Za (put_room b o cur hcur qr vq ql e1 e2 oq hr (by omega) t m z)
 have HR := Za hr
 clear h2 hb2 V2 x2' q0 q1 q2 e1 e2 hcur oq hr hrm
 go_wp2_with fail
 refine PF.out.mono ?_
 rintro e w3 ⟨rfl, v', w4, rfl, o4, g4, f4⟩
 obtain ⟨S4, C4⟩ := K2.out.1.chan HN.out i HX.out.1 HX.out.2 g4 o4 f4 (by have := HR.out; simp; omega)
 rw [← HO.out] at S4 C4
 have R4 := Za (And.intro S4 C4)
 clear S4 C4 o4 g4 f4
 generalize w4.setCell ⟨b, o + 2, none⟩ v' = w5 at *
 go_wp2_with fail
 go_ret2
 exact Sp.mk rfl ⟨_, _, _, _, _, R4.out.1⟩ ((Ch.of_bel K2.out.2.1).trans R4.out.2)
theorem Send_out {w : World} {F : Nat -> Prop} {g : Nat} {s : St} (h : Stt w F g s) {p : List Addr} (h17 : E2 w p) (i : Int) (t m z : Int) (hi : i < 0 ∨ (s.C.length : Int) <= i) : Calls Tryd.prog 32 #[.pointer (some ⟨g, 0, none⟩), .int .i64 i, .agg #[.int .i64 t, .int .i64 m, .int .u64 z]] w (Vb w (.tuple #[.bool false, errV p 0])) := by
 obtain ⟨vP, vM, vC, vA, vs, h⟩ := h
 obtain ⟨a, c, e, hc, hm⟩ := Zo h.ch
 subst e
 obtain ⟨n, hn⟩ : ∃ n, n = s.C.length := ⟨_, rfl⟩
 rw [← hn] at hi
 have c1 := h.cells.2.2.1
 rw [← hn] at c1
 have EO := Za (fun w' (h17 : E2 w' p) => Yu a n c i w' h17 hi)
 have H7 := Za h17
 unfold errV at *
 generalize adr p 0 = ad at *
 have HGL := Za (h.fb g h.fg)
 clear h hc hm hi hn h17
 have H7a := Za (H7.out.below (Nat.le_refl _) (Zd w (.cells #[.int .i64 t, .int .i64 m, .int .u64 z] 41)))
 have hgl := HGL.out
 go_enter Tryd.func32, Tryd.ntmps32
 go_wp2_with fail
 refine (EO.out _ H7a.out).mono ?_
 rintro e w1 ⟨rfl, hb⟩
 go_wp2_with fail
 go_ret2
 exact Vb.mk rfl (Zi (Zd _ _) hb)
theorem ret_vbe {fn : Func} {R : Ending -> World -> Prop} {a : Act} {w : World} {p q r : Tmp} (g : Nat) {t n b : Int} {bv ev : Value} (hf : fn.results = #[.cell p 41, .tmp q, .tmp r]) (hp : a.tmps.getD p undef = .pointer (some ⟨g, 0, none⟩)) (hq : a.tmps.getD q undef = bv) (hr : a.tmps.getD r undef = ev)
    (h : Val w g t n b) (hdf : a.defers = []) (hR : R (.returned (.tuple #[.agg #[.int .i64 t, .int .i64 n, .int .u64 b], bv, ev])) w) : bodyPost Tryd.prog fn R .ret a w :=
  bodyPost_ret (by
    have hp' : a.tmps[p]?.getD undef = .pointer (some ⟨g, 0, none⟩) := by simpa using hp
    have hq' : a.tmps[q]?.getD undef = bv := by simpa using hq
    have hr' : a.tmps[r]?.getD undef = ev := by simpa using hr
    obtain ⟨_, c0, c1, c2⟩ := h.all
    simp [results, hf, hp', hq', hr', go_sem, c0, c1, c2]) hdf hR
theorem Recv_some {w : World} {F : Nat -> Prop} {g : Nat} {s : St} (h : Stt w F g s) (i : Nat) (q : Qu) (hx : s.C[i]? = some q) (v : V3) (l : List V3) (hl : q.l = v :: l) : Calls Tryd.prog 34 #[.pointer (some ⟨g, 0, none⟩), .int .i64 (i : Nat)] w (Sp w F g { s with C := s.C.set i { q with l := l } } (.tuple #[.agg #[.int .i64 v.1, .int .i64 v.2.1, .int .u64 v.2.2], .bool true, .nilIface])) := by
 obtain ⟨vP, vM, vC, vA, vs, h⟩ := h
 have hi : i < s.C.length := (List.getElem?_eq_some_iff.1 hx).1
 obtain ⟨b, c, e, hc, hm⟩ := Zv h.ch (by omega)
 have hsm := h.small
 obtain ⟨n, hn⟩ : ∃ n, n = s.C.length := ⟨_, rfl⟩
 rw [← hn] at e hi hc
 have hn32 : n <= 32 := by omega
 subst e
 have HN := Za hn
 have c1 := h.cells.2.2.1
 have hrm := h.rooms _ (List.mem_of_getElem? hx)
 have hvi : i < vs.length := by rw [h.len]; omega
 obtain ⟨vq, hv⟩ : ∃ v, vs[i]? = some v := ⟨_, List.getElem?_eq_getElem hvi⟩
 obtain ⟨o, ho⟩ : ∃ o, o = 3 * i := ⟨_, rfl⟩
 have HO := Za ho
 have hgl := h.fb g h.fg
 have hbl := h.fb b (h.fC b rfl)
 have h1 := h.bel (Zd w (.cells #[.int .i64 0, .int .i64 0, .int .u64 0] 41))
 obtain ⟨q0, q1, q2⟩ := qcs_at _ _ _ _ _ hx hv
 rw [← ho] at q0 q1 q2
 have d2 := (Zm h1.ch _ _ q2).1
 have oq := (h1.q i _ vq hx hv).1
 obtain ⟨qt, qr, ql⟩ := q
 simp only at hl hrm oq
 subst hl
 obtain ⟨k, hk⟩ : ∃ k, k = l.length := ⟨_, rfl⟩
 have hk1 : (v :: l).length = k + 1 := by rw [hk]; rfl
 rw [hk1] at oq hrm
 obtain ⟨bq, cq, eq, _⟩ := Zv oq (by omega)
 subst eq
 obtain ⟨_, _, cur, hcur⟩ := Zf h1.ch (k := b) rfl
 have TK := Za (take_some b o cur hcur bq cq k v l hk (by omega) d2 oq)
 have HK := Za (And.intro hk hrm)
 clear oq hk1 hcur hk
 have HX := Za (And.intro hx hv)
 have HF := Za h.fb
 have W1 := Za (And.intro h1 (And.intro (Zd w (.cells #[.int .i64 0, .int .i64 0, .int .u64 0] 41)) (Val.new w 0 0 0)))
 clear h h1 hsm hc hm hn ho hx hv hvi q0 q1 q2 d2 hrm
 go_enter Tryd.func34, Tryd.ntmps34
 go_wp2_with fail
 refine (ZO b n c i o _ hi HO).mono ?_
 rintro e w1 ⟨rfl, rfl⟩
 go_wp2_with fail
 generalize w.alloc _ = w1 at *
 refine TK.out.mono ?_
 rintro e w2 ⟨rfl, w3, o3, g3, hb3⟩
 obtain ⟨h1, hb1, V1⟩ := W1.out
 obtain ⟨S4, C4⟩ := h1.chan HN.out i HX.out.1 HX.out.2 g3 o3 (fun k hk => .inl hk) (by have := HK.out; simp only; omega)
 rw [← HO.out] at S4 C4
 have hF : ∀ k, (F k ∨ (Value.slice (some ⟨bq, 0, none⟩) k cq).ownBlock = some k) -> F k := fun k hk => by
  rcases hk with h | h
  · exact h
  · exact ((h1.q i _ _ HX.out.1 HX.out.2).2 k h).1
 have S5 := S4.keep (fun k hk => hb3.block k (h1.fb k (hF k hk))) hb3.size
 have C5 := C4.below hb3
 have V2 := V1.keep (C5.blk w.heap.size V1.lt (fun e => by have := HF.out _ e; omega))
 obtain ⟨⟨f0, f1, f2⟩, v0, v1, v2⟩ := V2.all
 have hlt := V2.lt
 have V3 := Za ((V2.set v.1 v.2.1 v.2.2).al (Zd _ (.cells #[.int .i64 v.1, .int .i64 v.2.1, .int .u64 v.2.2] 41)))
 have S6 := Za ((S5.var (k := w.heap.size) (fun e => by have := HF.out _ (hF _ e); omega) (.int .i64 v.1) (.int .i64 v.2.1) (.int .u64 v.2.2)).bel (Zd _ (.cells #[.int .i64 v.1, .int .i64 v.2.1, .int .u64 v.2.2] 41)))
 have C6 := Za ((((Ch.of_bel hb1).trans C5).below (Zq (N := w.heap.size) (Below.refl _ _) (Nat.le_refl _) (.int .i64 v.1) (.int .i64 v.2.1) (.int .u64 v.2.2))).below ((Zd _ (.cells #[.int .i64 v.1, .int .i64 v.2.1, .int .u64 v.2.2] 41)).mono (by rw [Zg, Zg, Zg]; exact Nat.le_trans hb1.size C5.size)))
 clear S4 C4 S5 C5 V2 h1 hb1 V1 W1 TK o3 g3 hb3 hF
 go_wp2_with fail
 exact ret_vbe w.heap.size rfl rfl rfl rfl V3.out rfl (Sp.mk rfl ⟨_, _, _, _, _, S6.out⟩ C6.out)
def badT (t : Int) : Bool := Yc t == 0
def SlC (w : World) (v : Value) (cs : List (Int × Int)) : Prop := ∃ a cap, v = .slice a cs.length cap /\ cs.length <= cap /\ cap <= maxLen ∧
 ∀ i, i < cs.length -> ∃ b off, a = some ⟨b, off, none⟩ /\ b < w.heap.size /\ w.cell? ⟨b, off + i * 2, none⟩ = some (.int .i64 (cs.getD i (0, 0)).1) /\ w.cell? ⟨b, off + i * 2 + 1, none⟩ = some (.int .i64 (cs.getD i (0, 0)).2)
theorem SlC.below {w w' : World} {v : Value} {cs : List (Int × Int)} (h : SlC w v cs) (hb : Below w.heap.size w w') : SlC w' v cs := by
 obtain ⟨a, cap, hv, h1, h2, h3⟩ := h
 refine ⟨a, cap, hv, h1, h2, fun i hi => ?_⟩
 obtain ⟨b, off, ha, hlt, hc, hd⟩ := h3 i hi
 exact ⟨b, off, ha, Nat.lt_of_lt_of_le hlt hb.size, (hb.cell (p := ⟨b, off + i * 2, none⟩) hlt).trans hc, (hb.cell (p := ⟨b, off + i * 2 + 1, none⟩) hlt).trans hd⟩
theorem SlC.nilS (w : World) : SlC w (.slice none 0 0) [] := ⟨none, 0, rfl, Nat.le_refl _, Nat.zero_le _, fun _ h => absurd h (Nat.not_lt_zero _)⟩
theorem any_not {α : Type} (l : List α) (f : α -> Bool) (d : α) (h : ∀ j, j < l.length -> f (l.getD j d) = false) : l.any f = false := by
 rw [List.any_eq_false]
 intro x hx
 obtain ⟨i, hi, rfl⟩ := List.mem_iff_getElem.1 hx
 have := h i hi
 rw [List.getD_eq_getElem?_getD, List.getElem?_eq_getElem hi] at this
 simpa using this
theorem any_yes {α : Type} (l : List α) (f : α -> Bool) (d : α) (k : Nat) (hk : k < l.length) (h : f (l.getD k d) = true) : l.any f = true := by
 rw [List.any_eq_true]
 rw [List.getD_eq_getElem?_getD, List.getElem?_eq_getElem hk] at h
 exact ⟨l[k], List.getElem_mem hk, by simpa using h⟩
def IdxP (w : World) (b : Bool) (e : Ending) (w' : World) : Prop := (∃ r : Int, e = .returned (.int .i64 r) /\ decide (0 <= r) = b) /\ Below w.heap.size w w'
theorem index_int (v : Value) (zs : List Int) (w : World) (h : Sl w v zs) : Calls Tryd.prog 80 #[v, .func (.func 37) #[] #[]] w (IdxP w (zs.any badT)) := by
 obtain ⟨_, a, c, rfl, hca, hcm, hac⟩ := h
 unfold maxLen at hcm
 obtain ⟨n, hn⟩ : ∃ n, n = zs.length := ⟨_, rfl⟩
 have hs : Hid ((∀ j, j < n -> badT (zs.getD j 0) = false) -> zs.any badT = false) := fun h => any_not zs _ 0 (fun j hj => h j (by omega))
 have hs2 : Hid (∀ k, k < n -> badT (zs.getD k 0) = true -> zs.any badT = true) := fun k hk => any_yes zs _ 0 k (by omega)
 have hac' : ∀ i, i < n -> _ := fun i hi => hac i (by omega)
 rw [← hn] at hca ⊢
 clear hn hac
 generalize zs.any badT = r at *
 go_enter Tryd.func80, Tryd.ntmps80
 go_wp2_with fail
 go_loopw [5, 8] (fun u i wr => ∃ k : Nat, k <= n /\ i = .int .i64 k /\ Hid (∀ j, j < k -> badT (zs.getD j 0) = false) /\ Hid (Below w.heap.size w wr)) (fun u i _ => n - (intOf i).toNat)
 case atStart => exact ⟨0, Nat.zero_le _, rfl, fun j hj => absurd hj (Nat.not_lt_zero _), Below.refl _ _⟩
 case round =>
  obtain ⟨k, hk, rfl, hall, hbel⟩ := hrel
  by_cases hlt : k < n
  · obtain ⟨b1, o1, rfl, hb1, hc1⟩ := hac' k hlt
    rw [← hbel.out.cell (p := ⟨b1, o1 + k, none⟩) hb1] at hc1
    have h1 : (k : Int) < (n : Int) := by omega
    have hne := Za (hs2.out k hlt)
    have hstep : Hid (badT (zs.getD k 0) = false -> ∀ j, j < k + 1 -> badT (zs.getD j 0) = false) := fun e j hj => by
     by_cases ej : j = k
     · rw [ej]; exact e
     · exact hall.out j (by omega)
    have NT := fun w => (show Calls Tryd.prog 37 #[.int .i64 (zs.getD k 0)] w (Vb w (.bool (badT (zs.getD k 0)))) from noType_any _ w)
    clear hac' hs hs2 hall
    generalize badT (zs.getD k 0) = x at *
    generalize zs.getD k 0 = y at *
    go_wp2_with fail
    refine (NT _).mono ?_
    rintro e w1 ⟨rfl, hb⟩
    have hbel2 := Za (Zi hbel.out hb)
    cases x with
    | true =>
     have hr := Za (hne.out rfl)
     clear hne hstep
     go_wp2_with fail
     go_ret
     exact ⟨⟨_, rfl, by rw [hr.out]; simp⟩, hbel2.out⟩
    | false =>
     have hr := Za (hstep.out rfl)
     clear hne hstep
     go_wp2_with fail
     go_roundw
     case rel => exact ⟨k + 1, by omega, by go_num, hr, hbel2⟩
     case measure => simp [intOf]; omega
  · have e : k = n := by omega
    subst e
    have hs3 := Za (hs.out hall.out)
    clear hac' hs hs2 hall
    go_wp2_with fail
    go_ret
    exact ⟨⟨_, rfl, by rw [hs3.out]; rfl⟩, hbel.out⟩
theorem contains_int (v : Value) (zs : List Int) (w : World) (h : Sl w v zs) : Calls Tryd.prog 36 #[v, .func (.func 37) #[] #[]] w (Vb w (.bool (zs.any badT))) := by
 have I := Za (index_int v zs w h)
 have hv : ∃ a n c, v = .slice a n c := by
  obtain ⟨_, a, c, rfl, _⟩ := h
  exact ⟨_, _, _, rfl⟩
 obtain ⟨a, n, c, rfl⟩ := hv
 clear h
 generalize zs.any badT = r at *
 go_enter Tryd.func36, Tryd.ntmps36
 go_wp2_with fail
 refine I.out.mono ?_
 rintro e w1 ⟨⟨x, rfl, hx⟩, hb⟩
 have HX := Za hx
 clear hx
 go_wp2_with fail
 go_ret
 exact Vb.mk (congrArg Value.bool HX.out) hb
def badC (c : Int × Int) : Bool := chanB c.1 c.2
theorem index_chan (v : Value) (zs : List (Int × Int)) (w : World) (h : SlC w v zs) : Calls Tryd.prog 81 #[v, .func (.func 39) #[] #[]] w (IdxP w (zs.any badC)) := by
 obtain ⟨a, c, rfl, hca, hcm, hac⟩ := h
 unfold maxLen at hcm
 obtain ⟨n, hn⟩ : ∃ n, n = zs.length := ⟨_, rfl⟩
 have hs : Hid ((∀ j, j < n -> badC (zs.getD j (0, 0)) = false) -> zs.any badC = false) := fun h => any_not zs _ (0, 0) (fun j hj => h j (by omega))
 have hs2 : Hid (∀ k, k < n -> badC (zs.getD k (0, 0)) = true -> zs.any badC = true) := fun k hk => any_yes zs _ (0, 0) k (by omega)
 have hac' : ∀ i, i < n -> _ := fun i hi => hac i (by omega)
 rw [← hn] at hca ⊢
 clear hn hac
 generalize zs.any badC = r at *
 go_enter Tryd.func81, Tryd.ntmps81
 go_wp2_with fail
 go_loopw [5, 8] (fun u i wr => ∃ k : Nat, k <= n /\ i = .int .i64 k /\ Hid (∀ j, j < k -> badC (zs.getD j (0, 0)) = false) /\ Hid (Below w.heap.size w wr)) (fun u i _ => n - (intOf i).toNat)
 case atStart => exact ⟨0, Nat.zero_le _, rfl, fun j hj => absurd hj (Nat.not_lt_zero _), Below.refl _ _⟩
 case round =>
  obtain ⟨k, hk, rfl, hall, hbel⟩ := hrel
  by_cases hlt : k < n
  · obtain ⟨b1, o1, rfl, hb1, hc1, hd1⟩ := hac' k hlt
    rw [← hbel.out.cell (p := ⟨b1, o1 + k * 2, none⟩) hb1] at hc1
    rw [← hbel.out.cell (p := ⟨b1, o1 + k * 2 + 1, none⟩) hb1] at hd1
    have h1 : (k : Int) < (n : Int) := by omega
    have hne := Za (hs2.out k hlt)
    have hstep : Hid (badC (zs.getD k (0, 0)) = false -> ∀ j, j < k + 1 -> badC (zs.getD j (0, 0)) = false) := fun e j hj => by
     by_cases ej : j = k
     · rw [ej]; exact e
     · exact hall.out j (by omega)
    have NT := fun w => (show Calls Tryd.prog 39 #[.agg #[.int .i64 (zs.getD k (0, 0)).1, .int .i64 (zs.getD k (0, 0)).2]] w (Vb w (.bool (badC (zs.getD k (0, 0))))) from noChan_any _ _ w)
    clear hac' hs hs2 hall
    generalize badC (zs.getD k (0, 0)) = x at *
    generalize (zs.getD k (0, 0)).1 = y1 at *
    generalize (zs.getD k (0, 0)).2 = y2 at *
    go_wp2_with fail
    refine (NT _).mono ?_
    rintro e w1 ⟨rfl, hb⟩
    have hbel2 := Za (Zi hbel.out hb)
    cases x with
    | true =>
     have hr := Za (hne.out rfl)
     clear hne hstep
     go_wp2_with fail
     go_ret
     exact ⟨⟨_, rfl, by rw [hr.out]; simp⟩, hbel2.out⟩
    | false =>
     have hr := Za (hstep.out rfl)
     clear hne hstep
     go_wp2_with fail
     go_roundw
     case rel => exact ⟨k + 1, by omega, by go_num, hr, hbel2⟩
     case measure => simp [intOf]; omega
  · have e : k = n := by omega
    subst e
    have hs3 := Za (hs.out hall.out)
    clear hac' hs hs2 hall
    go_wp2_with fail
    go_ret
    exact ⟨⟨_, rfl, by rw [hs3.out]; rfl⟩, hbel.out⟩
theorem contains_chan (v : Value) (zs : List (Int × Int)) (w : World) (h : SlC w v zs) : Calls Tryd.prog 38 #[v, .func (.func 39) #[] #[]] w (Vb w (.bool (zs.any badC))) := by
 have I := Za (index_chan v zs w h)
 have hv : ∃ a n c, v = .slice a n c := by
  obtain ⟨a, c, rfl, _⟩ := h
  exact ⟨_, _, _, rfl⟩
 obtain ⟨a, n, c, rfl⟩ := hv
 clear h
 generalize zs.any badC = r at *
 go_enter Tryd.func38, Tryd.ntmps38
 go_wp2_with fail
 refine I.out.mono ?_
 rintro e w1 ⟨⟨x, rfl, hx⟩, hb⟩
 have HX := Za hx
 clear hx
 go_wp2_with fail
 go_ret
 exact Vb.mk (congrArg Value.bool HX.out) hb
section
variable {w w2 : World} {F : Nat → Prop} {g : Nat} {s : St} {vP vM vC vA v' : Value} {vs : List Value}
theorem Sv.placeA (h : Sv w F g s vP vM vC vA vs) (x : V3) (hg : w.grownBy w2 vP.ownBlock) (ho : w2.ownsRow 0 41 3 v' (s.P ++ [x]).length (vcs (s.P ++ [x]))) (hb : ∀ k, v'.ownBlock = some k -> vP.ownBlock = some k ∨ w.heap.size <= k) (hl : s.P.length < 128) :
 Sv (w2.setCell ⟨g, 0, none⟩ v') (fun k => F k ∨ v'.ownBlock = some k) g { s with P := s.P ++ [x] } v' vM vC vA vs /\ Ch F (fun k => F k ∨ v'.ownBlock = some k) w (w2.setCell ⟨g, 0, none⟩ v') := by
 have hsz : (w2.setCell ⟨g, 0, none⟩ v').heap.size = w2.heap.size := Zg _ _ _
 have ho2 : ∀ k, k ≠ g -> (w2.setCell ⟨g, 0, none⟩ v').heap[k]? = w2.heap[k]? := fun k hk => Below.heap_setCell _ _ _ _ hk
 have gP : vP.ownBlock ≠ some g := Zt h.pl h.at_ (by decide)
 have gv : v'.ownBlock ≠ some g := fun e => by
  rcases hb g e with h1 | h1
  · exact gP h1
  · have := Ze h.at_
    omega
 have hg2 : w2.heap[g]? = some (.cells #[vP, vM, vC, vA] 96 (0, 0)) := (hg.block g (Ze h.at_) (fun e => gP e.symm)).trans h.at_
 have hk3 : ∀ {T : TypeId} {n : Nat} {v : Value} {len : Nat} {xs : List Value}, w.ownsRow 0 T n v len xs -> (∀ k, v.ownBlock = some k -> vP.ownBlock ≠ some k) -> T ≠ 96 -> (w2.setCell ⟨g, 0, none⟩ v').ownsRow 0 T n v len xs := fun hr hne hT =>
  Zk hr fun k hk => (ho2 k (fun e => Zt hr h.at_ hT (e ▸ hk))).trans (hg.block k (Zf hr hk).2.1 (fun e => hne k hk e.symm))
 refine ⟨?_, ⟨hg.os, hg.tape, hg.output, by rw [hsz]; exact hg.size, fun k hk hF => (ho2 k (fun e => hF (e ▸ h.fg))).trans (hg.block k hk (fun e => hF (h.fP k e.symm))), fun k hk => ?_⟩⟩
 · exact { h with
    at_ := by
     rw [heap_setCell_same w2 g 0 _ _ _ hg2]
     rfl
    pl := Zk ho fun k hk => ho2 k (fun e => gv (e ▸ hk))
    mu := hk3 h.mu (fun k hk => Zp h.mu h.pl (by decide) k hk) (by decide)
    ch := hk3 h.ch (fun k hk => Zp h.ch h.pl (by decide) k hk) (by decide)
    ato := hk3 h.ato (fun k hk => Zp h.ato h.pl (by decide) k hk) (by decide)
    q := fun i q v hq hv => by
     obtain ⟨o1, o2⟩ := h.q i q v hq hv
     refine ⟨hk3 o1 (fun k hk => (o2 k hk).2) (by decide), fun k hk => ⟨.inl (o2 k hk).1, fun e => ?_⟩⟩
     rcases hb k e with h1 | h1
     · exact (o2 k hk).2 h1
     · have := (Zf o1 hk).2.1
       omega
    fg := .inl h.fg
    fP := fun k hk => .inr hk
    fM := fun k hk => .inl (h.fM k hk)
    fC := fun k hk => .inl (h.fC k hk)
    fA := fun k hk => .inl (h.fA k hk)
    fb := fun k hk => by
     rw [hsz]
     rcases hk with hk | hk
     · exact Nat.lt_of_lt_of_le (h.fb k hk) hg.size
     · exact (Zf ho hk).2.1
    small := by
     have := h.small
     simp
     omega }
 · rcases hk with hk | hk
   · exact .inl hk
   · rcases hb k hk with h1 | h1
     · exact .inl (h.fP k h1)
     · exact .inr h1
theorem Sv.chanA (h : Sv w F g s vP vM vC vA vs) (q : Qu) {vq : Value} (oq : w.ownsRow 0 41 3 vq q.l.length (vcs q.l)) (fq : ∀ k, vq.ownBlock = some k -> ¬ F k) (hg : w.grownBy w2 vC.ownBlock)
 (ho : w2.ownsRow 0 98 3 v' (s.C.length + 1) (qcs s.C vs ++ [.int .i64 q.t, .int .i64 q.room, vq])) (hb : ∀ k, v'.ownBlock = some k -> vC.ownBlock = some k ∨ w.heap.size <= k) (hl : s.C.length < 32) (hr : 0 <= q.room /\ q.room <= 8 /\ (q.l.length : Int) <= q.room) :
 Sv (w2.setCell ⟨g, 2, none⟩ v') (fun k => F k ∨ v'.ownBlock = some k ∨ vq.ownBlock = some k) g { s with C := s.C ++ [q] } vP vM v' vA (vs ++ [vq]) /\ Ch F (fun _ => False) w (w2.setCell ⟨g, 2, none⟩ v') := by
 have hsz : (w2.setCell ⟨g, 2, none⟩ v').heap.size = w2.heap.size := Zg _ _ _
 have ho2 : ∀ k, k ≠ g -> (w2.setCell ⟨g, 2, none⟩ v').heap[k]? = w2.heap[k]? := fun k hk => Below.heap_setCell _ _ _ _ hk
 have gC : vC.ownBlock ≠ some g := Zt h.ch h.at_ (by decide)
 have gv : v'.ownBlock ≠ some g := fun e => by
  rcases hb g e with h1 | h1
  · exact gC h1
  · have := Ze h.at_
    omega
 have hg2 : w2.heap[g]? = some (.cells #[vP, vM, vC, vA] 96 (0, 0)) := (hg.block g (Ze h.at_) (fun e => gC e.symm)).trans h.at_
 have hk3 : ∀ {T : TypeId} {n : Nat} {v : Value} {len : Nat} {xs : List Value}, w.ownsRow 0 T n v len xs -> T ≠ 98 -> T ≠ 96 -> (w2.setCell ⟨g, 2, none⟩ v').ownsRow 0 T n v len xs := fun hr hne hT =>
  Zk hr fun k hk => (ho2 k (fun e => Zt hr h.at_ hT (e ▸ hk))).trans (hg.block k (Zf hr hk).2.1 (fun e => Zp hr h.ch hne k hk e.symm))
 refine ⟨?_, ⟨hg.os, hg.tape, hg.output, by rw [hsz]; exact hg.size, fun k hk hF => (ho2 k (fun e => hF (e ▸ h.fg))).trans (hg.block k hk (fun e => hF (h.fC k e.symm))), fun k hk => hk.elim⟩⟩
 exact { h with
  at_ := by
   rw [heap_setCell_same w2 g 2 _ _ _ hg2]
   rfl
  pl := hk3 h.pl (by decide) (by decide)
  mu := hk3 h.mu (by decide) (by decide)
  ch := by
   have h1 := Zk (w' := w2.setCell ⟨g, 2, none⟩ v') ho fun k hk => ho2 k (fun e => gv (e ▸ hk))
   rw [← qcs_app s.C vs q vq h.len] at h1
   simpa using h1
  ato := hk3 h.ato (by decide) (by decide)
  len := by simp [h.len]
  q := fun i q' v hq hv => by
   by_cases e : i < s.C.length
   · rw [List.getElem?_append_left e] at hq
     rw [List.getElem?_append_left (by rw [h.len]; exact e)] at hv
     obtain ⟨o1, o2⟩ := h.q i q' v hq hv
     exact ⟨hk3 o1 (by decide) (by decide), fun k hk => ⟨.inl (o2 k hk).1, (o2 k hk).2⟩⟩
   · rw [List.getElem?_append_right (by omega)] at hq
     rw [List.getElem?_append_right (by rw [h.len]; omega)] at hv
     have e0 : i - s.C.length = 0 := by
      rcases Nat.eq_zero_or_pos (i - s.C.length) with h0 | h0
      · exact h0
      · rw [List.getElem?_eq_none (by simp; omega)] at hq
        cases hq
     rw [h.len, e0] at hv
     rw [e0] at hq
     simp at hq hv
     subst hq hv
     exact ⟨hk3 oq (by decide) (by decide), fun k hk => ⟨.inr (.inr hk), fun e => fq k hk (h.fP k e)⟩⟩
  ne := fun a c x y k hac hx hy hk => by
   have last : ∀ i u, (vs ++ [vq])[i]? = some u -> ¬ i < vs.length -> i = vs.length /\ u = vq := fun i u hu hi => by
    rw [List.getElem?_append_right (by omega)] at hu
    have e0 : i - vs.length = 0 := by
     rcases Nat.eq_zero_or_pos (i - vs.length) with h0 | h0
     · exact h0
     · rw [List.getElem?_eq_none (by simp; omega)] at hu
       cases hu
    rw [e0] at hu
    simp at hu
    exact ⟨by omega, hu.symm⟩
   have old : ∀ (j : Nat) (u : Value), vs[j]? = some u -> ∀ k, u.ownBlock = some k -> vq.ownBlock ≠ some k := fun j u hu k hk e => by
    have hj : j < s.C.length := by rw [← h.len]; exact (List.getElem?_eq_some_iff.1 hu).1
    exact fq k e ((h.q j s.C[j] u (List.getElem?_eq_getElem hj) hu).2 k hk).1
   by_cases e1 : a < vs.length
   · rw [List.getElem?_append_left e1] at hx
     by_cases e2 : c < vs.length
     · rw [List.getElem?_append_left e2] at hy
       exact h.ne a c x y k hac hx hy hk
     · obtain ⟨_, rfl⟩ := last c y hy e2
       exact old a x hx k hk
   · obtain ⟨ea, rfl⟩ := last a x hx e1
     have e2 : c < vs.length := by
      rcases Nat.lt_or_ge c vs.length with h2 | h2
      · exact h2
      · obtain ⟨ec, _⟩ := last c y hy (by omega)
        omega
     rw [List.getElem?_append_left e2] at hy
     exact fun e3 => old c y hy k e3 hk
  fg := .inl h.fg
  fP := fun k hk => .inl (h.fP k hk)
  fM := fun k hk => .inl (h.fM k hk)
  fC := fun k hk => .inr (.inl hk)
  fA := fun k hk => .inl (h.fA k hk)
  fb := fun k hk => by
   rw [hsz]
   rcases hk with hk | hk | hk
   · exact Nat.lt_of_lt_of_le (h.fb k hk) hg.size
   · exact (Zf ho hk).2.1
   · exact Nat.lt_of_lt_of_le (Zf oq hk).2.1 hg.size
  small := by
   have := h.small
   simp
   omega
  rooms := fun q' hq' => by
   rcases List.mem_append.1 hq' with h1 | h1
   · exact h.rooms q' h1
   · simp at h1
     subst h1
     exact hr }
end
def fitB (n : Int) : Bool := decide (0 <= n) && decide (n <= 32)
def okN (ps : List Int) (m : Int) (cs : List (Int × Int)) (a : Int) : Bool := !decide (128 < ps.length) && (fitB m && (fitB cs.length && (fitB a && (!ps.any badT && !cs.any badC))))
def newS (ps : List Int) (m : Int) (cs : List (Int × Int)) (a : Int) : St := ⟨ps.map fun t => (t, 0, 0), List.replicate m.toNat false, cs.map fun c => ⟨c.1, c.2, []⟩, List.replicate a.toNat 0⟩
def NewP (w : World) (s : St) (e : Ending) (w' : World) : Prop := ∃ g F, e = .returned (.tuple #[.pointer (some ⟨g, 0, none⟩), .nilIface]) /\ Stt w' F g s /\ (∀ k, F k -> w.heap.size <= k) /\ Below w.heap.size w w'
theorem run_mkB (n : Nat) (hn : n <= 32) (w : World) : (Instr.makeSlice 47 (.int .i64 (n : Nat)) (.int .i64 (n : Nat))).run Tryd.prog w = .ok (.slice (some ⟨w.heap.size, 0, none⟩) n n) (w.alloc (.cells (madeCells #[.bool false] n) 4)) := by
 have hinfo : (Tryd.prog.info? 4).map (fun i => (i.zero, i.size, i.bytes)) = some (some (.bool false), 1, 1) := by kernel_rfl
 obtain ⟨i, hi, hz0, hz1, hz2⟩ := info_parts hinfo
 have hr := run_make (P := Tryd.prog) w 47 4 i (.bool false) Tryd.underlying47 hi hz0 .i64 .i64 n n (by omega) (by omega) (by rw [hz2]; omega) (by omega)
 simp only [Int.toNat_natCast, hz1, Nat.mul_one] at hr
 exact hr
theorem run_mkI (n : Nat) (hn : n <= 32) (w : World) : (Instr.makeSlice 22 (.int .i64 (n : Nat)) (.int .i64 (n : Nat))).run Tryd.prog w = .ok (.slice (some ⟨w.heap.size, 0, none⟩) n n) (w.alloc (.cells (madeCells #[.int .i64 0] n) 3)) := by
 obtain ⟨i, hi, hz0, hz1, hz2⟩ := info_parts info3
 have hr := run_make (P := Tryd.prog) w 22 3 i (.int .i64 0) Tryd.underlying22 hi hz0 .i64 .i64 n n (by omega) (by omega) (by rw [hz2]; omega) (by omega)
 simp only [Int.toNat_natCast, hz1, Nat.mul_one] at hr
 exact hr
theorem own_made (w : World) (z : Value) (n : Nat) (T : TypeId) (hn : n <= 32) : (w.alloc (.cells (madeCells #[z] n) T)).ownsRow 0 T 1 (.slice (some ⟨w.heap.size, 0, none⟩) n n) n (List.replicate n z) :=
 ⟨by simp, .inr ⟨w.heap.size, n, _, rfl, Nat.zero_le _, B_ _ _, Nat.le_refl _, by unfold maxLen; omega, by simp [madeCells], by
  apply List.ext_getElem
  · simp [madeCells]
  · intro i h1 h2
    simp [madeCells, Nat.mod_one]⟩⟩
theorem new_bad (vP vC : Value) (ps : List Int) (cs : List (Int × Int)) (m a : Int) {w : World} {p : List Addr} (h17 : E2 w p) (hP : Sl w vP ps) (hC : SlC w vC cs) (hok : okN ps m cs a = false) : Calls Tryd.prog 8 #[vP, .int .i64 m, vC, .int .i64 a] w (Vb w (.tuple #[.pointer none, errV p 0])) := by
 obtain ⟨aP, lP, cP, rfl, hlP⟩ := hP.slice
 obtain ⟨aC, cC, eC, _⟩ := id hC
 obtain ⟨lC, hlC⟩ : ∃ n, n = cs.length := ⟨_, rfl⟩
 rw [← hlC] at eC
 subst eC
 have CI := Za (fun w' hb => contains_int (.slice aP lP cP) ps w' (hP.below (Nat.le_refl _) hb))
 have CC := Za (fun w' (hb : Below w.heap.size w w') => contains_chan (.slice aC lC cC) cs w' (hC.below hb))
 have FM : ∀ w, Calls Tryd.prog 35 #[.int .i64 m] w fun e w' => e = .returned (.bool (fitB m)) /\ w = w' := fun w => fits_any m w
 have FC : ∀ w, Calls Tryd.prog 35 #[.int .i64 (lC : Nat)] w fun e w' => e = .returned (.bool (fitB lC)) /\ w = w' := fun w => fits_any lC w
 have FA : ∀ w, Calls Tryd.prog 35 #[.int .i64 a] w fun e w' => e = .returned (.bool (fitB a)) /\ w = w' := fun w => fits_any a w
 unfold okN at hok
 rw [← hlP, ← hlC] at hok
 have H7 := Za h17
 clear hP hC h17 hlP hlC
 generalize fitB m = b1 at *
 generalize fitB lC = b2 at *
 generalize fitB a = b3 at *
 generalize ps.any badT = b4 at *
 generalize cs.any badC = b5 at *
 by_cases h0 : 128 < lP
 · have h0' : (128 : Int) < (lP : Int) := by omega
   go_enter Tryd.func8, Tryd.ntmps8
   go_wp2_with fail
   have x0 : w.cell? ⟨0, 0, none⟩ = some (errV p 0) := (H7.out).c0
   clear hok
   generalize errV p 0 = ev at *
   go_wp2_with fail
   go_quiet (fail)
   go_wp2_with fail
   go_ret2
   exact Vb.mk rfl (below_drewN (Below.refl _ _) _)
 have h0' : (lP : Int) <= 128 := by omega
 cases b1 with
 | false =>
  go_enter Tryd.func8, Tryd.ntmps8
  go_wp2_with fail
  refine (FM _).mono ?_
  rintro e wx ⟨rfl, rfl⟩
  have x0 : w.cell? ⟨0, 0, none⟩ = some (errV p 0) := (H7.out).c0
  clear hok
  generalize errV p 0 = ev at *
  go_wp2_with fail
  go_quiet (fail)
  go_wp2_with fail
  go_ret2
  exact Vb.mk rfl (below_drewN (Below.refl _ _) _)
 | true =>
 cases b2 with
 | false =>
  go_enter Tryd.func8, Tryd.ntmps8
  go_wp2_with fail
  refine (FM _).mono ?_
  rintro e wx ⟨rfl, rfl⟩
  go_wp2_with fail
  refine (FC _).mono ?_
  rintro e wx ⟨rfl, rfl⟩
  have x0 : w.cell? ⟨0, 0, none⟩ = some (errV p 0) := (H7.out).c0
  clear hok
  generalize errV p 0 = ev at *
  go_wp2_with fail
  go_quiet (fail)
  go_wp2_with fail
  go_ret2
  exact Vb.mk rfl (below_drewN (Below.refl _ _) _)
 | true =>
 cases b3 with
 | false =>
  go_enter Tryd.func8, Tryd.ntmps8
  go_wp2_with fail
  refine (FM _).mono ?_
  rintro e wx ⟨rfl, rfl⟩
  go_wp2_with fail
  refine (FC _).mono ?_
  rintro e wx ⟨rfl, rfl⟩
  go_wp2_with fail
  refine (FA _).mono ?_
  rintro e wx ⟨rfl, rfl⟩
  have x0 : w.cell? ⟨0, 0, none⟩ = some (errV p 0) := (H7.out).c0
  clear hok
  generalize errV p 0 = ev at *
  go_wp2_with fail
  go_quiet (fail)
  go_wp2_with fail
  go_ret2
  exact Vb.mk rfl (below_drewN (Below.refl _ _) _)
 | true =>
 cases b4 with
 | true =>
  go_enter Tryd.func8, Tryd.ntmps8
  go_wp2_with fail
  refine (FM _).mono ?_
  rintro e wx ⟨rfl, rfl⟩
  go_wp2_with fail
  refine (FC _).mono ?_
  rintro e wx ⟨rfl, rfl⟩
  go_wp2_with fail
  refine (FA _).mono ?_
  rintro e wx ⟨rfl, rfl⟩
  go_wp2_with fail
  refine (CI.out _ (Below.refl _ _)).mono ?_
  rintro e w1 ⟨rfl, hb1⟩
  have x0 : w1.cell? ⟨0, 0, none⟩ = some (errV p 0) := (H7.out.below (Nat.le_refl _) hb1).c0
  clear hok
  generalize errV p 0 = ev at *
  go_wp2_with fail
  go_quiet (fail)
  go_wp2_with fail
  go_ret2
  exact Vb.mk rfl (below_drewN (hb1) _)
 | false =>
 cases b5 with
 | true =>
  go_enter Tryd.func8, Tryd.ntmps8
  go_wp2_with fail
  refine (FM _).mono ?_
  rintro e wx ⟨rfl, rfl⟩
  go_wp2_with fail
  refine (FC _).mono ?_
  rintro e wx ⟨rfl, rfl⟩
  go_wp2_with fail
  refine (FA _).mono ?_
  rintro e wx ⟨rfl, rfl⟩
  go_wp2_with fail
  refine (CI.out _ (Below.refl _ _)).mono ?_
  rintro e w1 ⟨rfl, hb1⟩
  go_wp2_with fail
  refine (CC.out _ hb1).mono ?_
  rintro e w2 ⟨rfl, hb2⟩
  have x0 : w2.cell? ⟨0, 0, none⟩ = some (errV p 0) := (H7.out.below (Nat.le_refl _) (Zi hb1 hb2)).c0
  clear hok
  generalize errV p 0 = ev at *
  go_wp2_with fail
  go_quiet (fail)
  go_wp2_with fail
  go_ret2
  exact Vb.mk rfl (below_drewN (Zi hb1 hb2) _)
 | false =>
  simp [h0] at hok
def Mk (w wc : World) (g : Nat) (s : St) : Prop := ∃ F, Stt wc F g s /\ (∀ k, F k -> w.heap.size <= k) /\ Below w.heap.size w wc
theorem Yf (w : World) (T : TypeId) (n : Nat) : w.ownsRow 0 T n (.slice none 0 0) 0 [] := World.ownsRow_nil w 0 T n
theorem sv_new {W : World} {gb gi gs : Nat} {mn an : Nat} (hm : mn <= 32) (ha : an <= 32) (vb vi : Value) (hvb : vb = .slice (some ⟨gb, 0, none⟩) mn mn) (hvi : vi = .slice (some ⟨gi, 0, none⟩) an an) (ob : W.ownsRow 0 4 1 vb mn (List.replicate mn (.bool false))) (oi : W.ownsRow 0 3 1 vi an (List.replicate an (.int .i64 0)))
 (hg : W.heap[gs]? = some (.cells #[.slice none 0 0, vb, .slice none 0 0, vi] 96 (0, 0))) {B : Nat} (hb : B <= gb /\ B <= gi /\ B <= gs) : ∃ F, Stt W F gs ⟨[], List.replicate mn false, [], List.replicate an 0⟩ /\ ∀ k, F k -> B <= k := by
 refine ⟨fun k => k = gb ∨ k = gi ∨ k = gs, ⟨_, _, _, _, [], { at_ := hg, pl := Yf _ _ _, mu := (by simpa [bls] using ob), ch := Yf _ _ _, ato := (by simpa [nts] using oi), len := rfl, q := fun i q v h _ => (by simp at h), ne := fun i j v v' k _ h _ => (by simp at h), fg := .inr (.inr rfl), fP := fun k h => (by cases h), fM := fun k h => ?_, fC := fun k h => (by cases h), fA := fun k h => ?_, fb := fun k h => ?_, small := (by simp; omega), rooms := fun q h => (by cases h) }⟩, fun k h => by omega⟩
 · subst hvb
   cases h
   exact .inl rfl
 · subst hvi
   cases h
   exact .inr (.inl rfl)
 · rcases h with rfl | rfl | rfl
   · exact (Zf ob (by rw [hvb]; rfl)).2.1
   · exact (Zf oi (by rw [hvi]; rfl)).2.1
   · exact Ze hg
theorem mk_new {w W0 W : World} {mn an : Nat} (hm : mn <= 32) (ha : an <= 32) (hb0 : Below w.heap.size w W0) (hW : W = (W0.alloc (.cells (madeCells #[.bool false] mn) 4)).alloc (.cells (madeCells #[.int .i64 0] an) 3)) : Mk w (W.alloc (.cells #[.slice none 0 0, .slice (some ⟨W0.heap.size, 0, none⟩) mn mn, .slice none 0 0, .slice (some ⟨W0.heap.size + 1, 0, none⟩) an an] 96)) (W0.heap.size + 1 + 1) ⟨[], List.replicate mn false, [], List.replicate an 0⟩ := by
 subst hW
 have h1 := own_made W0 (.bool false) mn 4 hm
 have h2 := own_made (W0.alloc (.cells (madeCells #[.bool false] mn) 4)) (.int .i64 0) an 3 ha
 have hs1 : (W0.alloc (.cells (madeCells #[.bool false] mn) 4)).heap.size = W0.heap.size + 1 := by simp
 have hs2 : ((W0.alloc (.cells (madeCells #[.bool false] mn) 4)).alloc (.cells (madeCells #[.int .i64 0] an) 3)).heap.size = W0.heap.size + 1 + 1 := by simp
 rw [hs1] at h2
 have hz := hb0.size
 have hbB := Zu (Zu hb0 (.cells (madeCells #[.bool false] mn) 4)) (.cells (madeCells #[.int .i64 0] an) 3)
 have h3 := Zk h1 (fun k hk => (Zd _ (.cells (madeCells #[.int .i64 0] an) 3)).block k (Zf h1 hk).2.1)
 obtain ⟨F, hF, hl⟩ := sv_new (B := w.heap.size) hm ha _ _ rfl rfl (Zk h3 (fun k hk => (Zd _ _).block k (Zf h3 hk).2.1)) (Zk h2 (fun k hk => (Zd _ _).block k (Zf h2 hk).2.1)) (hs2 ▸ B_ _ _) ⟨by omega, by omega, by omega⟩
 exact ⟨F, hF, hl, Zu hbB _⟩
theorem mk_new2 {w W0 W : World} {mn an : Nat} (hm : mn <= 32) (ha : an <= 32) (hb0 : Below w.heap.size w W0) (hW : W = (W0.alloc (.cells (madeCells #[.int .i64 0] an) 3)).alloc (.cells (madeCells #[.bool false] mn) 4)) : Mk w (W.alloc (.cells #[.slice none 0 0, .slice (some ⟨W0.heap.size + 1, 0, none⟩) mn mn, .slice none 0 0, .slice (some ⟨W0.heap.size, 0, none⟩) an an] 96)) (W0.heap.size + 1 + 1) ⟨[], List.replicate mn false, [], List.replicate an 0⟩ := by
 subst hW
 have h1 := own_made W0 (.int .i64 0) an 3 ha
 have h2 := own_made (W0.alloc (.cells (madeCells #[.int .i64 0] an) 3)) (.bool false) mn 4 hm
 have hs1 : (W0.alloc (.cells (madeCells #[.int .i64 0] an) 3)).heap.size = W0.heap.size + 1 := by simp
 have hs2 : ((W0.alloc (.cells (madeCells #[.int .i64 0] an) 3)).alloc (.cells (madeCells #[.bool false] mn) 4)).heap.size = W0.heap.size + 1 + 1 := by simp
 rw [hs1] at h2
 have hz := hb0.size
 have hbB := Zu (Zu hb0 (.cells (madeCells #[.int .i64 0] an) 3)) (.cells (madeCells #[.bool false] mn) 4)
 have h3 := Zk h1 (fun k hk => (Zd _ (.cells (madeCells #[.bool false] mn) 4)).block k (Zf h1 hk).2.1)
 obtain ⟨F, hF, hl⟩ := sv_new (B := w.heap.size) hm ha _ _ rfl rfl (Zk h2 (fun k hk => (Zd _ _).block k (Zf h2 hk).2.1)) (Zk h3 (fun k hk => (Zd _ _).block k (Zf h3 hk).2.1)) (hs2 ▸ B_ _ _) ⟨by omega, by omega, by omega⟩
 exact ⟨F, hF, hl, Zu hbB _⟩
section
variable {w : World} {F : Nat → Prop} {g : Nat} {s : St} {vP vM vC vA : Value} {vs : List Value}
theorem Sv.pushP (h : Sv w F g s vP vM vC vA vs) (x : V3) (hl : s.P.length < 128) (ty : TypeId) :
 ∃ v' w', (Builtin.append_ #[46, 46] ty #[vP, .slice (some ⟨w.heap.size, 0, none⟩) 1 1]).run Tryd.prog (w.alloc (.cells #[.int .i64 x.1, .int .i64 x.2.1, .int .u64 x.2.2] 41)) = .ok v' w' ∧
  ((∃ a l c, v' = .slice a l c) /\ w'.frozen? ⟨g, 0, none⟩ = false /\ w'.cell? ⟨g, 0, none⟩ = some vP /\ Sv (w'.setCell ⟨g, 0, none⟩ v') (fun k => F k ∨ v'.ownBlock = some k) g { s with P := s.P ++ [x] } v' vM vC vA vs /\ Ch F (fun k => F k ∨ v'.ownBlock = some k) w (w'.setCell ⟨g, 0, none⟩ v')) := by
 obtain ⟨v', w', hr, ho, hg, hf⟩ := push_v rfl h.pl (by omega) x.1 x.2.1 x.2.2 ty
 have hgb := (hg.block g (Ze h.at_) (fun e => Zt h.pl h.at_ (by decide) e.symm)).trans h.at_
 obtain ⟨a, c, e, _⟩ := Zo ho
 have e1 : s.P.length + 1 = (s.P ++ [x]).length := by simp
 rw [e1] at ho
 exact ⟨v', w', hr, ⟨_, _, _, e⟩, Zc hgb _, Zb hgb 0 _ rfl, h.placeA x hg ho hf hl⟩
theorem info_que : (Tryd.prog.info? 98).map (fun i => (i.zero, i.size, i.bytes)) = some (some (.agg #[.int .i64 0, .int .i64 0, .slice none 0 0]), 3, 40) := by kernel_rfl
theorem Sv.pushC (h : Sv w F g s vP vM vC vA vs) (q : Qu) {a : Option Addr} {l c : Nat} (oq : w.ownsRow 0 41 3 (.slice a l c) q.l.length (vcs q.l)) (fq : ∀ k, (Value.slice a l c).ownBlock = some k -> ¬ F k) (hl : s.C.length < 32) (hr : 0 <= q.room /\ q.room <= 8 /\ (q.l.length : Int) <= q.room) (ty : TypeId) :
 ∃ v' w', (Builtin.append_ #[94, 94] ty #[vC, .slice (some ⟨w.heap.size, 0, none⟩) 1 1]).run Tryd.prog (w.alloc (.cells #[.int .i64 q.t, .int .i64 q.room, .slice a l c] 98)) = .ok v' w' ∧
  ((∃ a l c, v' = .slice a l c) /\ w'.frozen? ⟨g, 2, none⟩ = false /\ w'.cell? ⟨g, 2, none⟩ = some vC /\ (∀ k, v'.ownBlock = some k -> vC.ownBlock = some k ∨ w.heap.size <= k) /\ Sv (w'.setCell ⟨g, 2, none⟩ v') (fun k => F k ∨ v'.ownBlock = some k ∨ (Value.slice a l c).ownBlock = some k) g { s with C := s.C ++ [q] } vP vM v' vA (vs ++ [.slice a l c]) /\ Ch F (fun _ => False) w (w'.setCell ⟨g, 2, none⟩ v')) := by
 obtain ⟨ie, hi, hz0, hz1, hz2⟩ := info_parts info_que
 have hb := Zd w (.cells #[.int .i64 q.t, .int .i64 q.room, .slice a l c] 98)
 have o1 := Zk h.ch (fun k hk => hb.block k (Zf h.ch hk).2.1)
 have hc : ∀ (j : Nat) (u : Value), ([.int .i64 q.t, .int .i64 q.room, .slice a l c] : List Value)[j]? = some u -> (w.alloc (.cells #[.int .i64 q.t, .int .i64 q.room, .slice a l c] 98)).cell? ((⟨w.heap.size, 0, none⟩ : Addr).add j) = some u := fun j u hu => by
  rw [show (⟨w.heap.size, 0, none⟩ : Addr).add j = ⟨w.heap.size, j, none⟩ by unfold Addr.add; by_cases h : j = 0 <;> simp [h]]
  exact Zb (B_ w _) j u (by simpa using hu)
 obtain ⟨v', w', hrun, ho, hg, _, hat⟩ := run_append_own_at (P := Tryd.prog) (w.alloc (.cells #[.int .i64 q.t, .int .i64 q.room, .slice a l c] 98)) 0 94 ty 98 ie _ 3 40 Tryd.underlying94 hi hz0 hz1 hz2 rfl (by decide) vC s.C.length (qcs s.C vs) o1 ⟨w.heap.size, 0, none⟩ 1 1 [.int .i64 q.t, .int .i64 q.room, .slice a l c] rfl hc (by intro u hu; simp at hu; rcases hu with rfl | rfl | rfl <;> rfl) (by unfold maxLen; omega) (by omega) (Nat.zero_le _)
 have hg' : w.grownBy w' vC.ownBlock := ⟨hg.os, hg.tape, hg.output, Nat.le_trans hb.size hg.size, fun k hk hne => (hg.block k (Nat.lt_of_lt_of_le hk hb.size) hne).trans (hb.block k hk)⟩
 have hf : ∀ k, v'.ownBlock = some k -> vC.ownBlock = some k ∨ w.heap.size <= k := fun k hk => by
  rcases hat with e | e
  · exact .inl (e.symm.trans hk)
  · rw [e] at hk
    right
    have := Option.some.inj hk
    simp at this
    omega
 have hgb := (hg'.block g (Ze h.at_) (fun e => Zt h.ch h.at_ (by decide) e.symm)).trans h.at_
 obtain ⟨a', c', e, _⟩ := Zo ho
 exact ⟨v', w', hrun, ⟨_, _, _, e⟩, Zc hgb _, Zb hgb 2 _ rfl, hf, h.chanA q oq fq hg' ho hf hl hr⟩
end
theorem zeroT_of {t : Int} (h : badT t = false) : Yc t = t := by
 unfold badT Yc at *
 split
 · rfl
 · rename_i h1
   rw [if_neg h1] at h
   simp at h
def zz (ps : List Int) : List V3 := ps.map fun t => (t, 0, 0)
def cz (cs : List (Int × Int)) : List Qu := cs.map fun c => ⟨c.1, c.2, []⟩
theorem take_snoc {α : Type} (l : List α) (k : Nat) (d : α) (h : k < l.length) : l.take (k + 1) = l.take k ++ [l.getD k d] := by
 rw [List.take_add_one, List.getElem?_eq_getElem h, List.getD_eq_getElem?_getD, List.getElem?_eq_getElem h]
 rfl
theorem any_at {α : Type} {l : List α} {f : α -> Bool} (h : l.any f = false) (k : Nat) (d : α) (hk : k < l.length) : f (l.getD k d) = false := by
 rw [List.any_eq_false] at h
 rw [List.getD_eq_getElem?_getD, List.getElem?_eq_getElem hk]
 simpa using h l[k] (List.getElem_mem hk)
theorem Mk.of {w wc : World} {g : Nat} {s : St} {F F' : Nat -> Prop} {wd : World} (hF : ∀ k, F k -> w.heap.size <= k) (hb : Below w.heap.size w wc) (h : Stt wd F' g s) (c : Ch F F' wc wd) : Mk w wd g s :=
 ⟨F', h, c.low hF hb.size, hb.trans (c.bel hF hb.size)⟩
theorem new_ok (vP vC : Value) (ps : List Int) (cs : List (Int × Int)) (m a : Int) {w : World} (hP : Sl w vP ps) (hC : SlC w vC cs) (hok : okN ps m cs a = true) : Calls Tryd.prog 8 #[vP, .int .i64 m, vC, .int .i64 a] w (NewP w (newS ps m cs a)) := by
  obtain ⟨aP, lP, cP, rfl, hlP⟩ := hP.slice
  obtain ⟨aC, cC, eC, hcC, _, hcc⟩ := id hC
  obtain ⟨lC, hlC⟩ : ∃ n, n = cs.length := ⟨_, rfl⟩
  rw [← hlC] at eC hcC hcc
  subst eC
  have CI := Za (fun w' hb => contains_int (.slice aP lP cP) ps w' (hP.below (Nat.le_refl _) hb))
  have CC := Za (fun w' (hb : Below w.heap.size w w') => contains_chan (.slice aC lC cC) cs w' (hC.below hb))
  have FM : ∀ w, Calls Tryd.prog 35 #[.int .i64 m] w fun e w' => e = .returned (.bool (fitB m)) /\ w = w' := fun w => fits_any m w
  have FC : ∀ w, Calls Tryd.prog 35 #[.int .i64 (lC : Nat)] w fun e w' => e = .returned (.bool (fitB lC)) /\ w = w' := fun w => fits_any lC w
  have FA : ∀ w, Calls Tryd.prog 35 #[.int .i64 a] w fun e w' => e = .returned (.bool (fitB a)) /\ w = w' := fun w => fits_any a w
  unfold okN at hok
  rw [← hlP, ← hlC] at hok
  simp only [Bool.and_eq_true, Bool.not_eq_true', decide_eq_false_iff_not] at hok
  obtain ⟨h0, h1, h2, h3, h4, h5⟩ := hok
  rw [h1] at FM
  rw [h2] at FC
  rw [h3] at FA
  rw [h4] at CI
  rw [h5] at CC
  simp only [fitB, Bool.and_eq_true, decide_eq_true_eq] at h1 h2 h3
  have h0' : (lP : Int) <= 128 := by omega
  obtain ⟨mn, rfl⟩ := Int.eq_ofNat_of_zero_le h1.1
  obtain ⟨an, rfl⟩ := Int.eq_ofNat_of_zero_le h3.1
  have hmn : mn <= 32 := by omega
  have han : an <= 32 := by omega
  have hlC32 : lC <= 32 := by omega
  have HP := Za (fun i hi => hP.at i hi)
  have HC := Za hcc
  have H4 := Za h4
  have H5 := Za h5
  have HLP := Za hlP
  have HLC := Za hlC
  clear hP hC hcc h0 h1 h2 h3 h4 h5 hlP hlC
  go_enter Tryd.func8, Tryd.ntmps8
  go_wp2_with fail
  refine (FM _).mono ?_
  rintro e wx ⟨rfl, rfl⟩
  go_wp2_with fail
  refine (FC _).mono ?_
  rintro e wx ⟨rfl, rfl⟩
  go_wp2_with fail
  refine (FA _).mono ?_
  rintro e wx ⟨rfl, rfl⟩
  go_wp2_with fail
  refine (CI.out _ (Below.refl _ _)).mono ?_
  rintro e w1 ⟨rfl, hb1⟩
  go_wp2_with fail
  refine (CC.out _ hb1).mono ?_
  rintro e w2 ⟨rfl, hb2⟩
  have B2 := Za (Zi hb1 hb2)
  clear hb1 hb2 CI CC FM FC FA
  go_wp2_with fail
  go_cut [10] from 42 to 47 (fun x wc => ∃ g, x = .pointer (some ⟨g, 0, none⟩) /\ Hid (Mk w wc g ⟨[], List.replicate mn false, [], List.replicate an 0⟩))
  case first =>
      have B0 := Za (Zs B2.out)
      clear B2
      refine wp_region_any ZU ?_
      change wpAny _ _ _ _ _ _ _ (World.drew _)
      generalize World.drew _ = W0 at *
      refine T_ 0 (v := ?_) (fun w => ?_) ?_
      rotate_left 1
      · (go_simp <;> with_reducible rfl)
      simp only [Act.put, S_]
      refine T_ 2 (v := ?_) (fun w => ?_) ?_
      rotate_left 1
      · (go_simp <;> with_reducible rfl)
      simp only [Act.put, S_]
      refine wpAny_ready (rs := [1, 3]) (by kernel_rfl) (by decide) ?_
      refine AllReady.cons rfl (fun K1 hK1 => ?_) (AllReady.cons rfl (fun K1 hK1 => ?_) AllReady.nil)
      · have q := run_mkB mn hmn
        go_simp
        refine hK1 _ _ ?_
        clear hK1 K1 q
        refine R_ 3 (fun K1 hK1 => ?_)
        have q := run_mkI an han
        go_simp
        refine hK1 _ _ ?_
        clear hK1 K1 q
        refine T_ 4 (v := ?_) (fun w => ?_) ?_
        rotate_left 1
        · (go_simp <;> with_reducible rfl)
        simp only [Act.put, S_]
        refine R_ 5 (fun K1 hK1 => ?_)
        go_simp
        refine hK1 _ _ ?_
        clear hK1 K1
        refine T_ 6 (v := ?_) (fun w => ?_) ?_
        rotate_left 1
        · (go_simp <;> with_reducible rfl)
        simp only [Act.put, S_]
        refine wpAny_done (by kernel_rfl) ?_ _
        go_wp2_with fail
        go_meet
        case rel =>
          first | exact ⟨_, rfl, mk_new hmn han B0.out rfl⟩ | exact ⟨_, rfl, mk_new2 hmn han B0.out rfl⟩
      · have q := run_mkI an han
        go_simp
        refine hK1 _ _ ?_
        clear hK1 K1 q
        refine R_ 1 (fun K1 hK1 => ?_)
        have q := run_mkB mn hmn
        go_simp
        refine hK1 _ _ ?_
        clear hK1 K1 q
        refine T_ 4 (v := ?_) (fun w => ?_) ?_
        rotate_left 1
        · (go_simp <;> with_reducible rfl)
        simp only [Act.put, S_]
        refine R_ 5 (fun K1 hK1 => ?_)
        go_simp
        refine hK1 _ _ ?_
        clear hK1 K1
        refine T_ 6 (v := ?_) (fun w => ?_) ?_
        rotate_left 1
        · (go_simp <;> with_reducible rfl)
        simp only [Act.put, S_]
        refine wpAny_done (by kernel_rfl) ?_ _
        go_wp2_with fail
        go_meet
        case rel =>
          first | exact ⟨_, rfl, mk_new hmn han B0.out rfl⟩ | exact ⟨_, rfl, mk_new2 hmn han B0.out rfl⟩
  case rest =>
    obtain ⟨g, rfl, M0⟩ := hcut
    clear B2
    go_wp2_with fail
    go_loopw [12, 50] (fun x i wr => ∃ k : Nat, k <= lP /\ i = .int .i64 k /\ Hid (Mk w wr g ⟨zz (ps.take k), List.replicate mn false, [], List.replicate an 0⟩)) (fun x i _ => lP - (intOf i).toNat)
    case atStart => exact ⟨0, Nat.zero_le _, rfl, M0⟩
    case round =>
     obtain ⟨k, hk, rfl, M1⟩ := hrel
     clear M0
     by_cases hlt : k < lP
     · have hlt' : (k : Int) < (lP : Int) := by omega
       obtain ⟨b1, o1, rfl, hb1, hc1⟩ := HP.out k hlt
       obtain ⟨F, ⟨vP, vM, vC, vA, vs, S⟩, hF, hB⟩ := M1.out
       have hcr := (hB.cell (p := ⟨b1, o1 + k, none⟩) hb1).trans hc1
       obtain ⟨aQ, cQ, eQ, _⟩ := Zo S.pl
       obtain ⟨nQ, hnQ⟩ : ∃ n, n = (zz (ps.take k)).length := ⟨_, rfl⟩
       rw [show ({ P := zz (ps.take k), M := List.replicate mn false, C := [], A := List.replicate an 0 } : St).P.length = nQ from hnQ.symm] at eQ
       subst eQ
       have HLS : Hid ((zz (ps.take k)).length < 128) := Za (by simp [zz]; have := HLP.out; omega)
       have ZA : ∀ w, Calls Tryd.prog 40 #[.int .i64 (ps.getD k 0)] w (Vv w (ps.getD k 0) 0 0) := fun w => by
         have := zero_any (ps.getD k 0) w
         rw [zeroT_of (any_at H4.out k 0 (by have := HLP.out; omega))] at this
         exact this
       have HSN : Hid (zz (ps.take (k + 1)) = zz (ps.take k) ++ [(ps.getD k 0, 0, 0)]) := Za (by rw [take_snoc ps k 0 (by have := HLP.out; omega)]; simp [zz])
       have S0 := Za (S.bel (Zs (Below.refl wr.heap.size wr)))
       have B0 := Za (Zs hB)
       have HF := Za hF
       generalize ps.getD k 0 = y at *
       clear S hB hF M1 hc1 hb1 hnQ
       go_wp2_with fail
       refine wp_region_any ZU ?_
       change wpAny _ _ _ _ _ _ _ (World.drew _)
       generalize World.drew _ = W0 at *
       refine T_ 0 (v := ?_) (fun w => ?_) ?_
       rotate_left 1
       · (go_simp <;> with_reducible rfl)
       simp only [Act.put, S_]
       refine T_ 1 (v := ?_) (fun w => ?_) ?_
       rotate_left 1
       · (go_simp <;> with_reducible rfl)
       simp only [Act.put, S_]
       refine T_ 2 (v := ?_) (fun w => ?_) ?_
       rotate_left 1
       · (go_simp <;> with_reducible rfl)
       simp only [Act.put, S_]
       refine T_ 3 (v := ?_) (fun w => ?_) ?_
       rotate_left 1
       · (go_simp <;> with_reducible rfl)
       simp only [Act.put, S_]
       refine T_ 5 (v := ?_) (fun w => ?_) ?_
       rotate_left 1
       · (go_simp <;> with_reducible rfl)
       simp only [Act.put, S_]
       refine wpAny_ready (rs := [4, 6]) (by kernel_rfl) (by decide) ?_
       refine AllReady.cons rfl (fun K1 hK1 => ?_) (AllReady.cons rfl (fun K1 hK1 => ?_) AllReady.nil)
       · have q := (show W0.cell? ⟨g, 0, none⟩ = some (.slice aQ nQ cQ) from S0.out.cells.1)
         go_simp
         refine hK1 _ _ ?_
         clear hK1 K1 q
         refine R_ 6 (fun K1 hK1 => ?_)
         go_simp
         refine (ZA _).mono ?_
         rintro e W1 ⟨rfl, hb1⟩
         have S1 := Za (S0.out.bel hb1)
         have B1 := Za (Zi B0.out hb1)
         have PU := Za (fun ty => S1.out.pushP (y, 0, 0) HLS.out ty)
         clear hb1
         refine hK1 _ _ ?_
         clear hK1 K1
         refine R_ 7 (fun K1 hK1 => ?_)
         go_simp
         refine hK1 _ _ ?_
         clear hK1 K1
         refine R_ 8 (fun K1 hK1 => ?_)
         refine Zz (TS := 46) (.tmp 58) (.tmp 61) _ _ _ (fun ty => PU.out ty) rfl rfl rfl rfl ?_
         rintro v9 w9 ⟨⟨a9, l9, c9, rfl⟩, z1, z2, r9⟩
         have R9 := Za r9
         clear r9
         refine hK1 _ _ ?_
         clear hK1 K1
         refine T_ 9 (v := ?_) (fun w => ?_) ?_
         rotate_left 1
         · (go_simp <;> with_reducible rfl)
         simp only [Act.put, S_]
         refine T_ 10 (v := ?_) (fun w => ?_) ?_
         rotate_left 1
         · (go_simp <;> with_reducible rfl)
         simp only [Act.put, S_]
         refine R_ 11 (fun K1 hK1 => ?_)
         go_simp
         refine hK1 _ _ ?_
         clear hK1 K1 z1 z2
         refine wpAny_done (by kernel_rfl) ?_ _
         go_wp2_with fail
         go_roundw
         case rel =>
           refine ⟨k + 1, by omega, by go_num, ?_⟩
           have hx := Mk.of HF.out B1.out ⟨_, _, _, _, _, R9.out.1⟩ R9.out.2
           have e : zz (ps.take (k + 1)) = zz (ps.take k) ++ [(y, 0, 0)] := HSN.out
           rw [e]
           exact hx
         case measure => simp [intOf]; omega
       · go_simp
         refine (ZA _).mono ?_
         rintro e W1 ⟨rfl, hb1⟩
         have S1 := Za (S0.out.bel hb1)
         have B1 := Za (Zi B0.out hb1)
         have PU := Za (fun ty => S1.out.pushP (y, 0, 0) HLS.out ty)
         clear hb1
         refine hK1 _ _ ?_
         clear hK1 K1
         refine wpAny_ready (rs := [4, 7]) (by kernel_rfl) (by decide) ?_
         refine AllReady.cons rfl (fun K1 hK1 => ?_) (AllReady.cons rfl (fun K1 hK1 => ?_) AllReady.nil)
         · have q := (show W1.cell? ⟨g, 0, none⟩ = some (.slice aQ nQ cQ) from S1.out.cells.1)
           go_simp
           refine hK1 _ _ ?_
           clear hK1 K1 q
           refine R_ 7 (fun K1 hK1 => ?_)
           go_simp
           refine hK1 _ _ ?_
           clear hK1 K1
           refine R_ 8 (fun K1 hK1 => ?_)
           refine Zz (TS := 46) (.tmp 58) (.tmp 61) _ _ _ (fun ty => PU.out ty) rfl rfl rfl rfl ?_
           rintro v9 w9 ⟨⟨a9, l9, c9, rfl⟩, z1, z2, r9⟩
           have R9 := Za r9
           clear r9
           refine hK1 _ _ ?_
           clear hK1 K1
           refine T_ 9 (v := ?_) (fun w => ?_) ?_
           rotate_left 1
           · (go_simp <;> with_reducible rfl)
           simp only [Act.put, S_]
           refine T_ 10 (v := ?_) (fun w => ?_) ?_
           rotate_left 1
           · (go_simp <;> with_reducible rfl)
           simp only [Act.put, S_]
           refine R_ 11 (fun K1 hK1 => ?_)
           go_simp
           refine hK1 _ _ ?_
           clear hK1 K1 z1 z2
           refine wpAny_done (by kernel_rfl) ?_ _
           go_wp2_with fail
           go_roundw
           case rel =>
             refine ⟨k + 1, by omega, by go_num, ?_⟩
             have hx := Mk.of HF.out B1.out ⟨_, _, _, _, _, R9.out.1⟩ R9.out.2
             have e : zz (ps.take (k + 1)) = zz (ps.take k) ++ [(y, 0, 0)] := HSN.out
             rw [e]
             exact hx
           case measure => simp [intOf]; omega
         · go_simp
           refine hK1 _ _ ?_
           clear hK1 K1
           refine R_ 4 (fun K1 hK1 => ?_)
           have q := (show (W1.alloc (.cells #[.int .i64 y, .int .i64 0, .int .u64 0] 41)).cell? ⟨g, 0, none⟩ = some (.slice aQ nQ cQ) from ((Zd W1 _).cell (p := ⟨g, 0, none⟩) (S1.out.fb g S1.out.fg)).trans S1.out.cells.1)
           go_simp
           refine hK1 _ _ ?_
           clear hK1 K1 q
           refine R_ 8 (fun K1 hK1 => ?_)
           refine Zz (TS := 46) (.tmp 58) (.tmp 61) _ _ _ (fun ty => PU.out ty) rfl rfl rfl rfl ?_
           rintro v9 w9 ⟨⟨a9, l9, c9, rfl⟩, z1, z2, r9⟩
           have R9 := Za r9
           clear r9
           refine hK1 _ _ ?_
           clear hK1 K1
           refine T_ 9 (v := ?_) (fun w => ?_) ?_
           rotate_left 1
           · (go_simp <;> with_reducible rfl)
           simp only [Act.put, S_]
           refine T_ 10 (v := ?_) (fun w => ?_) ?_
           rotate_left 1
           · (go_simp <;> with_reducible rfl)
           simp only [Act.put, S_]
           refine R_ 11 (fun K1 hK1 => ?_)
           go_simp
           refine hK1 _ _ ?_
           clear hK1 K1 z1 z2
           refine wpAny_done (by kernel_rfl) ?_ _
           go_wp2_with fail
           go_roundw
           case rel =>
             refine ⟨k + 1, by omega, by go_num, ?_⟩
             have hx := Mk.of HF.out B1.out ⟨_, _, _, _, _, R9.out.1⟩ R9.out.2
             have e : zz (ps.take (k + 1)) = zz (ps.take k) ++ [(y, 0, 0)] := HSN.out
             rw [e]
             exact hx
           case measure => simp [intOf]; omega
     · obtain rfl : k = lP := by omega
       have M2 : Hid (Mk w wr g ⟨zz ps, List.replicate mn false, cz (cs.take 0), List.replicate an 0⟩) := Za (by
         have := M1.out
         rw [List.take_of_length_le (by have := HLP.out; omega)] at this
         exact this)
       clear M1
       go_wp2_with fail
       go_loopw [14, 68] (fun x i wr => ∃ k : Nat, k <= lC /\ i = .int .i64 k /\ Hid (Mk w wr g ⟨zz ps, List.replicate mn false, cz (cs.take k), List.replicate an 0⟩)) (fun x i _ => lC - (intOf i).toNat)
       case atStart => exact ⟨0, Nat.zero_le _, rfl, M2⟩
       case round =>
        obtain ⟨k, hk, rfl, M1⟩ := hrel
        clear M2
        by_cases hlt : k < lC
        · have hlt' : (k : Int) < (lC : Int) := by omega
          obtain ⟨b1, o1, rfl, hb1, hc1, hc2⟩ := HC.out k hlt
          obtain ⟨F, ⟨vP, vM, vC, vA, vs, S⟩, hF, hB⟩ := M1.out
          have hcr := (hB.cell (p := ⟨b1, o1 + k * 2, none⟩) hb1).trans hc1
          have hcs := (hB.cell (p := ⟨b1, o1 + k * 2 + 1, none⟩) hb1).trans hc2
          obtain ⟨aQ, cQ, eQ, _⟩ := Zo S.ch
          obtain ⟨nQ, hnQ⟩ : ∃ n, n = (cz (cs.take k)).length := ⟨_, rfl⟩
          rw [show ({ P := zz ps, M := List.replicate mn false, C := cz (cs.take k), A := List.replicate an 0 } : St).C.length = nQ from hnQ.symm] at eQ
          subst eQ
          have HLS : Hid ((cz (cs.take k)).length < 32) := Za (by simp [cz]; have := HLC.out; omega)
          have HSN : Hid (cz (cs.take (k + 1)) = cz (cs.take k) ++ [⟨(cs.getD k (0, 0)).1, (cs.getD k (0, 0)).2, []⟩]) := Za (by rw [take_snoc cs k (0, 0) (by have := HLC.out; omega)]; simp [cz])
          have hbc := any_at H5.out k (0, 0) (by have := HLC.out; omega)
          have HRM : Hid (0 <= (cs.getD k (0, 0)).2 /\ (cs.getD k (0, 0)).2 <= 8 /\ ((0 : Nat) : Int) <= (cs.getD k (0, 0)).2) := Za (by
            unfold badC chanB at hbc
            simp only [Bool.or_eq_false_iff, decide_eq_false_iff_not] at hbc
            omega)
          clear hbc
          generalize (cs.getD k (0, 0)).1 = y1 at *
          generalize (cs.getD k (0, 0)).2 = y2 at *
          have hbX := Zd wr (.cells #[.int .i64 y1, .int .i64 y2] 52)
          have S0 := Za (S.bel (Zs hbX))
          have B0 := Za (Zs (Zi hB hbX))
          have X0 : Hid ((wr.alloc (.cells #[.int .i64 y1, .int .i64 y2] 52)).drew.cell? ⟨wr.heap.size, 0, none⟩ = some (.int .i64 y1) /\ (wr.alloc (.cells #[.int .i64 y1, .int .i64 y2] 52)).drew.cell? ⟨wr.heap.size, 1, none⟩ = some (.int .i64 y2)) := Za ⟨Zb (B_ wr _) 0 _ rfl, Zb (B_ wr _) 1 _ rfl⟩
          have PU := Za (fun ty => S0.out.pushC ⟨y1, y2, []⟩ (Yf _ _ _) (fun k hk => by cases hk) HLS.out HRM.out ty)
          have HF := Za hF
          clear S hB hF M1 hc1 hb1 hnQ hbX hc2
          go_wp2_with fail
          refine wp_region_any ZU ?_
          change wpAny _ _ _ _ _ _ _ (World.drew _)
          generalize World.drew _ = W0 at *
          refine T_ 0 (v := ?_) (fun w => ?_) ?_
          rotate_left 1
          · (go_simp <;> with_reducible rfl)
          simp only [Act.put, S_]
          refine T_ 1 (v := ?_) (fun w => ?_) ?_
          rotate_left 1
          · (go_simp <;> with_reducible rfl)
          simp only [Act.put, S_]
          refine T_ 2 (v := ?_) (fun w => ?_) ?_
          rotate_left 1
          · (go_simp <;> with_reducible rfl)
          simp only [Act.put, S_]
          refine T_ 3 (v := ?_) (fun w => ?_) ?_
          rotate_left 1
          · (go_simp <;> with_reducible rfl)
          simp only [Act.put, S_]
          refine wpAny_ready (rs := [4, 5]) (by kernel_rfl) (by decide) ?_
          refine AllReady.cons rfl (fun K1 hK1 => ?_) (AllReady.cons rfl (fun K1 hK1 => ?_) AllReady.nil)
          · have q := (show W0.cell? ⟨g, 2, none⟩ = some (.slice aQ nQ cQ) from S0.out.cells.2.2.1)
            go_simp
            refine hK1 _ _ ?_
            clear hK1 K1 q
            refine R_ 5 (fun K1 hK1 => ?_)
            obtain ⟨q0, q1⟩ := X0.out
            go_simp
            refine hK1 _ _ ?_
            clear hK1 K1 q0 q1
            refine T_ 6 (v := ?_) (fun w => ?_) ?_
            rotate_left 1
            · (go_simp <;> with_reducible rfl)
            simp only [Act.put, S_]
            refine R_ 7 (fun K1 hK1 => ?_)
            go_simp
            refine hK1 _ _ ?_
            clear hK1 K1
            refine R_ 8 (fun K1 hK1 => ?_)
            refine Zz (TS := 94) (.tmp 76) (.tmp 79) _ _ _ (fun ty => PU.out ty) rfl rfl rfl rfl ?_
            rintro v9 w9 ⟨⟨a9, l9, c9, rfl⟩, z1, z2, r9⟩
            have R9 := Za r9
            clear r9
            refine hK1 _ _ ?_
            clear hK1 K1
            refine T_ 9 (v := ?_) (fun w => ?_) ?_
            rotate_left 1
            · (go_simp <;> with_reducible rfl)
            simp only [Act.put, S_]
            refine T_ 10 (v := ?_) (fun w => ?_) ?_
            rotate_left 1
            · (go_simp <;> with_reducible rfl)
            simp only [Act.put, S_]
            refine R_ 11 (fun K1 hK1 => ?_)
            go_simp
            refine hK1 _ _ ?_
            clear hK1 K1 z1 z2
            refine wpAny_done (by kernel_rfl) ?_ _
            go_wp2_with fail
            go_roundw
            case rel =>
              refine ⟨k + 1, by omega, by go_num, ?_⟩
              have e : cz (cs.take (k + 1)) = cz (cs.take k) ++ [⟨y1, y2, []⟩] := HSN.out
              rw [e]
              refine ⟨_, ⟨_, _, _, _, _, R9.out.2.1⟩, fun k hk => ?_, B0.out.trans (R9.out.2.2.bel HF.out B0.out.size)⟩
              rcases hk with hk | hk | hk
              · exact HF.out k hk
              · rcases R9.out.1 k hk with h1 | h1
                · exact HF.out k (S0.out.fC k h1)
                · exact Nat.le_trans B0.out.size h1
              · cases hk
            case measure => simp [intOf]; omega
          · obtain ⟨q0, q1⟩ := X0.out
            go_simp
            refine hK1 _ _ ?_
            clear hK1 K1 q0 q1
            refine T_ 6 (v := ?_) (fun w => ?_) ?_
            rotate_left 1
            · (go_simp <;> with_reducible rfl)
            simp only [Act.put, S_]
            refine wpAny_ready (rs := [4, 7]) (by kernel_rfl) (by decide) ?_
            refine AllReady.cons rfl (fun K1 hK1 => ?_) (AllReady.cons rfl (fun K1 hK1 => ?_) AllReady.nil)
            · have q := (show W0.cell? ⟨g, 2, none⟩ = some (.slice aQ nQ cQ) from S0.out.cells.2.2.1)
              go_simp
              refine hK1 _ _ ?_
              clear hK1 K1 q
              refine R_ 7 (fun K1 hK1 => ?_)
              go_simp
              refine hK1 _ _ ?_
              clear hK1 K1
              refine R_ 8 (fun K1 hK1 => ?_)
              refine Zz (TS := 94) (.tmp 76) (.tmp 79) _ _ _ (fun ty => PU.out ty) rfl rfl rfl rfl ?_
              rintro v9 w9 ⟨⟨a9, l9, c9, rfl⟩, z1, z2, r9⟩
              have R9 := Za r9
              clear r9
              refine hK1 _ _ ?_
              clear hK1 K1
              refine T_ 9 (v := ?_) (fun w => ?_) ?_
              rotate_left 1
              · (go_simp <;> with_reducible rfl)
              simp only [Act.put, S_]
              refine T_ 10 (v := ?_) (fun w => ?_) ?_
              rotate_left 1
              · (go_simp <;> with_reducible rfl)
              simp only [Act.put, S_]
              refine R_ 11 (fun K1 hK1 => ?_)
              go_simp
              refine hK1 _ _ ?_
              clear hK1 K1 z1 z2
              refine wpAny_done (by kernel_rfl) ?_ _
              go_wp2_with fail
              go_roundw
              case rel =>
                refine ⟨k + 1, by omega, by go_num, ?_⟩
                have e : cz (cs.take (k + 1)) = cz (cs.take k) ++ [⟨y1, y2, []⟩] := HSN.out
                rw [e]
                refine ⟨_, ⟨_, _, _, _, _, R9.out.2.1⟩, fun k hk => ?_, B0.out.trans (R9.out.2.2.bel HF.out B0.out.size)⟩
                rcases hk with hk | hk | hk
                · exact HF.out k hk
                · rcases R9.out.1 k hk with h1 | h1
                  · exact HF.out k (S0.out.fC k h1)
                  · exact Nat.le_trans B0.out.size h1
                · cases hk
              case measure => simp [intOf]; omega
            · go_simp
              refine hK1 _ _ ?_
              clear hK1 K1
              refine R_ 4 (fun K1 hK1 => ?_)
              have q := (show (W0.alloc (.cells #[.int .i64 y1, .int .i64 y2, .slice none 0 0] 98)).cell? ⟨g, 2, none⟩ = some (.slice aQ nQ cQ) from ((Zd W0 _).cell (p := ⟨g, 2, none⟩) (S0.out.fb g S0.out.fg)).trans S0.out.cells.2.2.1)
              go_simp
              refine hK1 _ _ ?_
              clear hK1 K1 q
              refine R_ 8 (fun K1 hK1 => ?_)
              refine Zz (TS := 94) (.tmp 76) (.tmp 79) _ _ _ (fun ty => PU.out ty) rfl rfl rfl rfl ?_
              rintro v9 w9 ⟨⟨a9, l9, c9, rfl⟩, z1, z2, r9⟩
              have R9 := Za r9
              clear r9
              refine hK1 _ _ ?_
              clear hK1 K1
              refine T_ 9 (v := ?_) (fun w => ?_) ?_
              rotate_left 1
              · (go_simp <;> with_reducible rfl)
              simp only [Act.put, S_]
              refine T_ 10 (v := ?_) (fun w => ?_) ?_
              rotate_left 1
              · (go_simp <;> with_reducible rfl)
              simp only [Act.put, S_]
              refine R_ 11 (fun K1 hK1 => ?_)
              go_simp
              refine hK1 _ _ ?_
              clear hK1 K1 z1 z2
              refine wpAny_done (by kernel_rfl) ?_ _
              go_wp2_with fail
              go_roundw
              case rel =>
                refine ⟨k + 1, by omega, by go_num, ?_⟩
                have e : cz (cs.take (k + 1)) = cz (cs.take k) ++ [⟨y1, y2, []⟩] := HSN.out
                rw [e]
                refine ⟨_, ⟨_, _, _, _, _, R9.out.2.1⟩, fun k hk => ?_, B0.out.trans (R9.out.2.2.bel HF.out B0.out.size)⟩
                rcases hk with hk | hk | hk
                · exact HF.out k hk
                · rcases R9.out.1 k hk with h1 | h1
                  · exact HF.out k (S0.out.fC k h1)
                  · exact Nat.le_trans B0.out.size h1
                · cases hk
              case measure => simp [intOf]; omega
        · obtain rfl : k = lC := by omega
          have M3 : Hid (Mk w wr g (newS ps (mn : Nat) cs (an : Nat))) := Za (by
            have := M1.out
            rw [List.take_of_length_le (by have := HLC.out; omega)] at this
            exact this)
          clear M1
          go_wp2_with fail
          go_ret2
          obtain ⟨F, h1, h2, h3⟩ := M3.out
          exact ⟨g, F, rfl, h1, h2, h3⟩
theorem Mk.errs {w wc : World} {g : Nat} {s : St} (h : Mk w wc g s) {p : List Addr} (h17 : E2 w p) : E2 wc p := by
 obtain ⟨F, h1, h2, h3⟩ := h
 exact h17.below (Nat.le_refl _) h3
theorem Mk.below {w wc : World} {g : Nat} {s : St} (h : Mk w wc g s) : Below w.heap.size w wc := by
 obtain ⟨F, h1, h2, h3⟩ := h
 exact h3
structure Wt where
 k : Int
 o : Int
 a : Int
 v : V3
structure Gr where
 rest : List Wt
 w : Wt
structure Evt where
 g : Int
 k : Int
 o : Int
 a : Int
structure En where
 o : Int
 f : Int
 g : Int
 n : Int
 a : Int
structure Rm where
 s : St
 gs : List Gr
 ev : List Evt
 e : En
def z3 : V3 := (0, 0, 0)
def zW : Wt := ⟨0, 0, 0, z3⟩
def zE : En := ⟨0, 0, 0, 0, 0⟩
def lk {α : Type} (l : List α) (i : Int) : Option α := if 0 <= i then l[i.toNat]? else none
def isV (v : V3) (t : Int) : Bool := isB v.1 v.2.1 v.2.2 t
def recvs (c : Int) (x : Gr) : Bool := x.w.k == 6 && x.w.o == c
def recvR (gs : List Gr) (c : Int) : Option Nat := gs.findIdx? (recvs c)
def canA (s : St) (w : Wt) : Bool := match lk s.P w.o with
 | some x => w.k == 1 || isV w.v x.1
 | none => false
def canS (r : Rm) (w : Wt) : Bool := match lk r.s.C w.o with
 | some q => isV w.v q.t && (if q.room = 0 then (recvR r.gs w.o).isSome else decide ((q.l.length : Int) < q.room))
 | none => false
def canC (s : St) (w : Wt) : Bool := match lk s.A w.o with
 | some _ => w.k == 7 || isV w.v 1
 | none => false
def canL (s : St) (w : Wt) : Bool := match lk s.M w.o with
 | some b => !b
 | none => false
def canR (s : St) (w : Wt) : Bool := match lk s.C w.o with
 | some q => decide (0 < q.l.length)
 | none => false
def ZX (r : Rm) (w : Wt) : Bool :=
 if w.k = 1 ∨ w.k = 2 then canA r.s w
 else if w.k = 3 then canL r.s w
 else if w.k = 4 then (lk r.s.M w.o).isSome
 else if w.k = 5 then canS r w
 else if w.k = 6 then canR r.s w
 else if w.k = 7 ∨ w.k = 8 ∨ w.k = 9 then canC r.s w
 else decide (w.k = 10 ∨ w.k = 11 ∨ w.k = 12)
def can (r : Rm) (g : Int) : Bool := match lk r.gs g with
 | some x => ZX r x.w
 | none => false
def Yl : List Wt -> (Wt × V3) × List Wt
 | [] => ((⟨12, 0, 0, z3⟩, z3), [])
 | x :: l => if x.k = 0 then ((zW, (7, x.v.2.1, x.a)), l) else ((x, z3), l)
def faultR (r : Rm) (g : Nat) (h : V3) : Rm := { r with e := ⟨3, h.1, g, h.2.1, h.2.2⟩ }
def Yk (r : Rm) (g : Nat) : Rm × Bool := match r.gs[g]? with
 | some x =>
  if (Yl x.rest).1.2.1 = 0 then ({ r with gs := r.gs.set g ⟨(Yl x.rest).2, (Yl x.rest).1.1⟩ }, true)
  else (faultR { r with gs := r.gs.set g ⟨(Yl x.rest).2, x.w⟩ } g (Yl x.rest).1.2, false)
 | none => (r, false)
def ZG (r : Rm) (g : Nat) (o : Int) : Rm := match r.gs[g]? with
 | some x => { r with ev := r.ev ++ [⟨g, x.w.k, o, x.w.a⟩] }
 | none => r
def enterR (S : List (List Wt)) (r : Rm) (fn : Int) : Option Rm := match lk S fn with
 | some l => some { r with gs := r.gs ++ [⟨l, zW⟩] }
 | none => none
def ZL (s : St) (w : Wt) : St × V3 :=
 if w.k = 1 then (s, (lk s.P w.o).getD z3)
 else if w.k = 2 then ({ s with P := s.P.set w.o.toNat w.v }, z3)
 else if w.k = 3 then ({ s with M := s.M.set w.o.toNat true }, z3)
 else if w.k = 4 then ({ s with M := s.M.set w.o.toNat false }, z3)
 else if w.k = 5 then (match lk s.C w.o with | some q => ({ s with C := s.C.set w.o.toNat { q with l := q.l ++ [w.v] } }, z3) | none => (s, z3))
 else if w.k = 6 then (match lk s.C w.o with | some q => ({ s with C := s.C.set w.o.toNat { q with l := q.l.tail } }, q.l.headD z3) | none => (s, z3))
 else if w.k = 7 then (s, (1, (lk s.A w.o).getD 0, 0))
 else if w.k = 8 then ({ s with A := s.A.set w.o.toNat w.v.2.1 }, z3)
 else if w.k = 9 then ({ s with A := s.A.set w.o.toNat (wrap64 ((lk s.A w.o).getD 0 + w.v.2.1)) }, z3)
 else (s, z3)
def splitR (S : List (List Wt)) (r : Rm) (g : Nat) (w : Wt) : Rm :=
 if 8 <= r.gs.length then faultR r g (5, 0, w.a)
 else match enterR S r w.o with
  | none => faultR r g (5, 0, w.a)
  | some r1 => match Yk (ZG r1 g r.gs.length) g with
   | (r2, true) => (Yk r2 r.gs.length).1
   | (r2, false) => r2
def meetR (r : Rm) (g : Nat) (w : Wt) : Rm := match recvR r.gs w.o with
 | some t => match Yk (ZG (ZG r g w.o) t w.o) g with
  | (r2, true) => (Yk r2 t).1
  | (r2, false) => r2
 | none => r
def roomZ (s : St) (c : Int) : Bool := match lk s.C c with
 | some q => q.room == 0
 | none => true
def ZY (S : List (List Wt)) (r : Rm) (g : Nat) : Rm := match r.gs[g]? with
 | none => r
 | some x =>
  if x.w.k = 4 /\ lk r.s.M x.w.o ≠ some true then faultR r g (4, 0, x.w.a)
  else if x.w.k = 10 then splitR S r g x.w
  else if x.w.k = 5 /\ roomZ r.s x.w.o = true then meetR r g x.w
  else if x.w.k = 12 then { ZG r g x.w.o with gs := r.gs.set g ⟨x.rest, zW⟩ }
  else (Yk (ZG { r with s := (ZL r.s x.w).1 } g x.w.o) g).1
def outR (r : Rm) : Int := if r.gs.any (fun x => ZX r x.w) then 0 else if r.gs.any (fun x => x.w.k != 0) then 2 else 1
def endR (r : Rm) : En := if r.e.o = 0 then ⟨outR r, 0, 0, 0, 0⟩ else r.e
def settleR (r : Rm) : Rm := { r with e := endR r }
def Yz (r : Rm) : Bool := (endR r).o == 0
def Yy (r : Rm) : List Int := if Yz r then ((List.range r.gs.length).filter fun (i : Nat) => can r i).map fun (i : Nat) => (i : Int) else []
def doR (S : List (List Wt)) (r : Rm) (g : Nat) : Rm := settleR (ZY S r g)
def startR (S : List (List Wt)) (s : St) (fn : Int) : Rm :=
  settleR (match enterR S ⟨s, [], [], zE⟩ fn with
    | some r => (Yk r 0).1
    | none => faultR ⟨s, [], [], zE⟩ 0 (5, 0, 0))
def pickR (l : List Int) (n : Nat) : Int × Nat := match l[n]? with
 | some x => (x, (n + 1) % l.length)
 | none => (0, n)
def Ya (L : List Int) (l : List Int) (n : Nat) : Int × Nat :=
 if L.length = 1 then (L.getD 0 0, n) else (L.getD ((max (pickR l n).1 0).toNat % L.length) 0, (pickR l n).2)
def playR (S : List (List Wt)) (l : List Int) (fuel : Int) : Nat -> Rm -> Nat -> Rm × Nat
 | 0, r, n => (r, n)
 | f + 1, r, n =>
  if Yz r = true /\ (r.ev.length : Int) < fuel then playR S l fuel f (doR S r (Ya (Yy r) l n).1.toNat) (Ya (Yy r) l n).2
  else (r, n)
def ccs : List Qu -> List Value
 | [] => []
 | q :: C => .int .i64 q.t :: .int .i64 q.room :: ccs C
theorem ccs_app : ∀ (C : List Qu) (q : Qu), ccs (C ++ [q]) = ccs C ++ [.int .i64 q.t, .int .i64 q.room]
 | [], q => rfl
 | x :: C, q => by simp [ccs, ccs_app C q]
theorem ccs_at : ∀ (C : List Qu) (i : Nat) (q : Qu), C[i]? = some q -> (ccs C)[2 * i]? = some (.int .i64 q.t) /\ (ccs C)[2 * i + 1]? = some (.int .i64 q.room)
 | [], i, q, h => by simp at h
 | q :: C, 0, q', h => by
  simp at h
  subst h
  exact ⟨rfl, rfl⟩
 | q :: C, i + 1, q', h => ccs_at C i q' (by simpa using h)
structure Rv (w : World) (F R : Nat -> Prop) (B g : Nat) (s : St) (vP vL vC vS vT vA : Value) (ss : List Value) (tk : List Int) : Prop where
 at_ : w.heap[g]? = some (.cells #[vP, vL, vC, vS, vT, vA] 50 (0, 0))
 pl : w.ownsRow 0 41 3 vP s.P.length (vcs s.P)
 lo : w.ownsRow 0 4 1 vL s.M.length (bls s.M)
 ch : w.ownsRow 0 52 2 vC s.C.length (ccs s.C)
 se : w.ownsRow 0 46 1 vS s.C.length ss
 ta : w.ownsRow 0 3 1 vT s.C.length (nts tk)
 ato : w.ownsRow 0 3 1 vA s.A.length (nts s.A)
 q : ∀ (i : Nat) (q : Qu) (v : Value) (t : Int), s.C[i]? = some q -> ss[i]? = some v -> tk[i]? = some t -> ∃ (f : List V3) (n : Nat), t = n /\ n <= f.length /\ f.drop n = q.l /\ f.length <= B /\ w.ownsRow 0 41 3 v f.length (vcs f) /\ ∀ k, v.ownBlock = some k -> R k
 ne : ∀ k, vT.ownBlock = some k -> vA.ownBlock = some k -> s.C.length = 0 ∨ s.A.length = 0
 fg : F g
 fP : ∀ k, vP.ownBlock = some k -> F k
 fL : ∀ k, vL.ownBlock = some k -> F k
 fC : ∀ k, vC.ownBlock = some k -> F k
 fS : ∀ k, vS.ownBlock = some k -> F k
 fT : ∀ k, vT.ownBlock = some k -> F k
 fA : ∀ k, vA.ownBlock = some k -> F k
 fb : ∀ k, F k -> k < w.heap.size
 rb : ∀ k, R k -> k < w.heap.size
 fr : ∀ k, R k -> ¬ F k
 small : s.P.length <= 128 /\ s.M.length <= 32 /\ s.C.length <= 32 /\ s.A.length <= 32
 rooms : ∀ q ∈ s.C, 0 <= q.room /\ q.room <= 8 /\ (q.l.length : Int) <= q.room
def Rt (w : World) (F R : Nat -> Prop) (B g : Nat) (s : St) : Prop := ∃ vP vL vC vS vT vA ss tk, Rv w F R B g s vP vL vC vS vT vA ss tk
section
variable {w w' : World} {F F' G R R' : Nat → Prop} {B g : Nat} {s : St} {vP vL vC vS vT vA : Value} {ss : List Value} {tk : List Int}
theorem Rv.sl (h : Rv w F R B g s vP vL vC vS vT vA ss tk) : ss.length = s.C.length := by have := h.se.1; omega
theorem Rv.tl (h : Rv w F R B g s vP vL vC vS vT vA ss tk) : tk.length = s.C.length := by have := h.ta.1; simp [nts] at this; omega
theorem Rv.keep (h : Rv w F R B g s vP vL vC vS vT vA ss tk) (hb : ∀ k, F k ∨ R k -> w'.heap[k]? = w.heap[k]?) (hs : w.heap.size <= w'.heap.size) : Rv w' F R B g s vP vL vC vS vT vA ss tk :=
 { h with
  at_ := (hb g (.inl h.fg)).trans h.at_
  pl := Zk h.pl fun k hk => hb k (.inl (h.fP k hk))
  lo := Zk h.lo fun k hk => hb k (.inl (h.fL k hk))
  ch := Zk h.ch fun k hk => hb k (.inl (h.fC k hk))
  se := Zk h.se fun k hk => hb k (.inl (h.fS k hk))
  ta := Zk h.ta fun k hk => hb k (.inl (h.fT k hk))
  ato := Zk h.ato fun k hk => hb k (.inl (h.fA k hk))
  q := fun i q v t hq hv ht => by
   obtain ⟨f, n, h1, h2, h3, h4, h5, h6⟩ := h.q i q v t hq hv ht
   exact ⟨f, n, h1, h2, h3, h4, Zk h5 fun k hk => hb k (.inr (h6 k hk)), h6⟩
  fb := fun k hk => Nat.lt_of_lt_of_le (h.fb k hk) hs
  rb := fun k hk => Nat.lt_of_lt_of_le (h.rb k hk) hs }
theorem Rv.bel (h : Rv w F R B g s vP vL vC vS vT vA ss tk) (hb : Below w.heap.size w w') : Rv w' F R B g s vP vL vC vS vT vA ss tk :=
 h.keep (fun k hk => hb.block k (hk.elim (h.fb k) (h.rb k))) hb.size
theorem Rt.bel (h : Rt w F R B g s) (hb : Below w.heap.size w w') : Rt w' F R B g s := by
 obtain ⟨vP, vL, vC, vS, vT, vA, ss, tk, h⟩ := h
 exact ⟨_, _, _, _, _, _, _, _, h.bel hb⟩
theorem Rt.fb (h : Rt w F R B g s) : ∀ k, F k -> k < w.heap.size := by
 obtain ⟨vP, vL, vC, vS, vT, vA, ss, tk, h⟩ := h
 exact h.fb
theorem Rt.rb (h : Rt w F R B g s) : ∀ k, R k -> k < w.heap.size := by
 obtain ⟨vP, vL, vC, vS, vT, vA, ss, tk, h⟩ := h
 exact h.rb
theorem Rv.cells (h : Rv w F R B g s vP vL vC vS vT vA ss tk) : w.cell? ⟨g, 0, none⟩ = some vP /\ w.cell? ⟨g, 1, none⟩ = some vL /\ w.cell? ⟨g, 2, none⟩ = some vC /\ w.cell? ⟨g, 3, none⟩ = some vS /\ w.cell? ⟨g, 4, none⟩ = some vT /\ w.cell? ⟨g, 5, none⟩ = some vA :=
 ⟨Zb h.at_ 0 _ rfl, Zb h.at_ 1 _ rfl, Zb h.at_ 2 _ rfl, Zb h.at_ 3 _ rfl, Zb h.at_ 4 _ rfl, Zb h.at_ 5 _ rfl⟩
end
end Go.Proofs.YtghfjnnmpmfboaaDoor.Ck
