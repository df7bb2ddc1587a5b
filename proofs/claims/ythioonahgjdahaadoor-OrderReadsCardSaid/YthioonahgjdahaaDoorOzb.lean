/- The statement OrderReads. -/
import Derived.Test.YthioonahgjdahaaDoorOza
import Derived.Test.YthioonahgjdahaaDoorOx
import Derived.Deep.QuietTactic
import Derived.BigQuiet
import Derived.Carry
namespace Go.Proofs.YthioonahgjdahaaDoor.Ck
open Go.RowKit

theorem flat_ev : ∀ (ps : List Ev) (i j : Nat), i < ps.length → j < 4 → (ps.flatMap evC)[i * 4 + j]? = (evC (ps.getD i zE))[j]?
  | [], _, _, h, _ => absurd h (Nat.not_lt_zero _)
  | p :: ps, 0, j, _, hj => by
    rw [List.flatMap_cons, List.getElem?_append_left (by rw [show (evC p).length = 4 from rfl]; omega), Nat.zero_mul, Nat.zero_add]
    rfl
  | p :: ps, i + 1, j, h, hj => by
    rw [List.flatMap_cons, List.getElem?_append_right (by rw [show (evC p).length = 4 from rfl]; omega), show (i + 1) * 4 + j - (evC p).length = i * 4 + j by rw [show (evC p).length = 4 from rfl]; omega]
    exact flat_ev ps i j (by simpa using h) hj
theorem SlE.own {w : World} {B : Nat} {v : Value} {l : List Ev} (h : w.ownsRow B 43 4 v l.length (l.flatMap evC)) : SlE w v l := by
  obtain ⟨a, c, rfl, h1, h2⟩ := own_slice h
  refine ⟨a, c, rfl, h1, h2, fun i hi => ?_⟩
  obtain ⟨b, c', e, _⟩ := own_some h (by omega)
  injection e with e _ _
  subst e
  have q := fun j hj u hu => (own_cell h (i * 4 + j) u ((flat_ev l i j hi hj).trans hu)).1
  exact ⟨b, 0, rfl, (own_type h (k := b) rfl).2.1, by have := q 0 (by omega) _ rfl; simpa using this, by have := q 1 (by omega) _ rfl; simpa [Nat.add_assoc] using this, by have := q 2 (by omega) _ rfl; simpa [Nat.add_assoc] using this, by have := q 3 (by omega) _ rfl; simpa [Nat.add_assoc] using this⟩
theorem evC_one (e : Ev) : ∀ u ∈ evC e, u.oneCell' = true := fun u hu => by
  simp [evC] at hu
  rcases hu with rfl | rfl | rfl | rfl <;> rfl
/-- two rows of events of the call's own -/
structure RoM (w0 w : World) (v u : Value) (l m : List Ev) : Prop where
  rd : w.ownsRow w0.heap.size 43 4 v l.length (l.flatMap evC)
  ow : w.ownsRow w0.heap.size 43 4 u m.length (m.flatMap evC)
  ap : ∀ k, v.ownBlock = some k → u.ownBlock ≠ some k
  bel : Below w0.heap.size w0 w
/-- and a variable of an event -/
structure RoX (w0 w : World) (x : Nat) (e : Ev) (v u : Value) (l m : List Ev) : Prop where
  mm : RoM w0 w v u l m
  xx : w.heap[x]? = some (.cells (evC e).toArray 43 (0, 0))
  xl : w0.heap.size ≤ x
  xv : v.ownBlock ≠ some x
  xu : u.ownBlock ≠ some x
section
variable {w0 w w' : World} {x : Nat} {e : Ev} {v u : Value} {l m : List Ev}
theorem RoM.below (h : RoM w0 w v u l m) (hb : Below w.heap.size w w') : RoM w0 w' v u l m :=
  ⟨own_keep h.rd (fun k hk => hb.block k (own_type h.rd hk).2.1), own_keep h.ow (fun k hk => hb.block k (own_type h.ow hk).2.1), h.ap, h.bel.trans (hb.mono h.bel.size)⟩
theorem RoX.below (h : RoX w0 w x e v u l m) (hb : Below w.heap.size w w') : RoX w0 w' x e v u l m :=
  ⟨h.mm.below hb, (hb.block _ (lt_of_blk h.xx)).trans h.xx, h.xl, h.xv, h.xu⟩
theorem RoM.box (h : RoM w0 w v u l m) (e : Ev) : RoX w0 (w.alloc (.cells (evC e).toArray 43)) w.heap.size e v u l m :=
  ⟨h.below (bel_new w _), Go.Deep.blk_alloc_new w _, h.bel.size, fun q => by have := (own_type h.rd q).2.1; omega, fun q => by have := (own_type h.ow q).2.1; omega⟩
theorem RoX.put (h : RoX w0 w x e v u l m) : RoX w0 (w.setCell ⟨x, 2, none⟩ (.int .i64 e.g)) x { e with o := e.g } v u l m := by
  have hx : ∀ k, k ≠ x → (w.setCell ⟨x, 2, none⟩ (.int .i64 e.g)).heap[k]? = w.heap[k]? := fun k hk => Below.heap_setCell _ _ _ _ hk
  refine ⟨⟨own_keep h.mm.rd (fun k hk => hx k (fun q => h.xv (q ▸ hk))), own_keep h.mm.ow (fun k hk => hx k (fun q => h.xu (q ▸ hk))), h.mm.ap, h.mm.bel.setCell h.xl _⟩, ?_, h.xl, h.xv, h.xu⟩
  exact heap_setCell_same w x 2 _ _ _ h.xx
theorem RoM.grewR {v' : Value} {l' : List Ev} (h : RoM w0 w v u l m) (hg : w.grownBy w' v.ownBlock) (ho : w'.ownsRow w0.heap.size 43 4 v' l'.length (l'.flatMap evC)) (hat : ∀ b, v'.ownBlock = some b → v.ownBlock = some b ∨ w.heap.size ≤ b) : RoM w0 w' v' u l' m := by
  refine ⟨ho, own_keep h.ow (fun k hk => hg.block k (own_type h.ow hk).2.1 (fun q => h.ap k q.symm hk)), fun k hk hk' => ?_, ⟨hg.os.trans h.bel.os, hg.tape.trans h.bel.tape, hg.output.trans h.bel.output, Nat.le_trans h.bel.size hg.size, fun k hk => (hg.block k (Nat.lt_of_lt_of_le hk h.bel.size) (fun q => ?_)).trans (h.bel.block k hk)⟩⟩
  · rcases hat k hk with q | q
    · exact h.ap k q hk'
    · have := (own_type h.ow hk').2.1
      omega
  · have := (own_type h.rd q.symm).1
    omega
theorem RoM.flip (h : RoM w0 w v u l m) : RoM w0 w u v m l := ⟨h.ow, h.rd, fun k hk hk' => h.ap k hk' hk, h.bel⟩
theorem RoX.flip (h : RoX w0 w x e v u l m) : RoX w0 w x e u v m l := ⟨h.mm.flip, h.xx, h.xl, h.xu, h.xv⟩
theorem RoX.push (h : RoX w0 w x e v u l m) (hl : l.length ≤ 100000) (ty : TypeId) : ∃ v' w', (Builtin.append_ #[22, 22] ty #[v, .slice (some ⟨w.heap.size, 0, none⟩) 1 1]).run Tryd.prog (w.alloc (.cells (evC e).toArray 43)) = .ok v' w' ∧ ((∃ a cc, v' = .slice a (l.length + 1) cc) ∧ RoX w0 w' x e v' u (l ++ [e]) m) := by
  obtain ⟨v', w', hr, hs, ho, hg, hat⟩ := pushE (w := w) (TS := 22) Tryd.underlying22 info_ev rfl (by omega) (by omega) hl h.mm.rd h.mm.bel.size (evC e) rfl (evC_one e) ty
  have ho' : w'.ownsRow w0.heap.size 43 4 v' (l ++ [e]).length ((l ++ [e]).flatMap evC) := by rw [List.length_append, List.flatMap_append]; simpa using ho
  have hM := h.mm.grewR hg ho' hat
  refine ⟨v', w', hr, hs, hM, (hg.block x (lt_of_blk h.xx) (fun q => h.xv q.symm)).trans h.xx, h.xl, fun q => ?_, h.xu⟩
  rcases hat x q with q | q
  · exact h.xv q
  · have := lt_of_blk h.xx
    omega
theorem RoX.pushO (h : RoX w0 w x e v u l m) (hl : m.length ≤ 100000) (ty : TypeId) : ∃ v' w', (Builtin.append_ #[22, 22] ty #[u, .slice (some ⟨w.heap.size, 0, none⟩) 1 1]).run Tryd.prog (w.alloc (.cells (evC e).toArray 43)) = .ok v' w' ∧ ((∃ a cc, v' = .slice a (m.length + 1) cc) ∧ RoX w0 w' x e v v' l (m ++ [e])) := by
  obtain ⟨v', w', hr, hs, hX⟩ := h.flip.push hl ty
  exact ⟨v', w', hr, hs, hX.flip⟩
end
theorem rom_start (w0 : World) {w : World} (hb : Below w0.heap.size w0 w) : RoM w0 ((w.alloc (.cells #[] 43)).alloc (.cells #[] 43)) (.slice (some ⟨w.heap.size, 0, none⟩) 0 0) (.slice (some ⟨w.heap.size + 1, 0, none⟩) 0 0) [] [] := by
  have b1 := bel_new w (.cells #[] 43)
  have b2 := bel_new (w.alloc (.cells #[] 43)) (.cells #[] 43)
  have n1 : ((w.alloc (.cells #[] 43)).alloc (.cells #[] 43)).heap[w.heap.size]? = some (.cells #[] 43 (0, 0)) := (b2.block w.heap.size (by simp)).trans (Go.Deep.blk_alloc_new w _)
  have n2 : ((w.alloc (.cells #[] 43)).alloc (.cells #[] 43)).heap[w.heap.size + 1]? = some (.cells #[] 43 (0, 0)) := by
    have := Go.Deep.blk_alloc_new (w.alloc (.cells #[] 43)) (.cells #[] 43)
    simpa using this
  refine ⟨⟨rfl, .inr ⟨w.heap.size, 0, #[], rfl, hb.size, n1, Nat.le_refl _, Nat.zero_le _, by simp, by simp⟩⟩, ⟨rfl, .inr ⟨w.heap.size + 1, 0, #[], rfl, by have := hb.size; omega, n2, Nat.le_refl _, Nat.zero_le _, by simp, by simp⟩⟩, fun k hk hk' => ?_, bel_trans hb (b1.trans (b2.mono b1.size))⟩
  have e1 : w.heap.size = k := Option.some.inj hk
  have e2 : w.heap.size + 1 = k := Option.some.inj hk'
  omega
theorem SlN (w : World) : Sl w (.slice none 0 0) [] := Sl.nilS w
set_option maxRecDepth 20000 in
set_option maxHeartbeats 8000000 in
theorem reads_main {w : World} {vT ev : Value} {T : List Ev} (hE : Er w ev) (hT : SlE w vT T) (hW : ∀ k, k < T.length → wfI (T.getD k zE).o) : Calls Tryd.prog 5 #[vT] w (Vb w (.bool true)) := by
  obtain ⟨aT, cT, rfl, hcT, hcT2⟩ := hT.form
  have AL := hide (alive18_any hE)
  have HE := hide hE
  have HT := hide hT
  have HW := hide hW
  clear hE hT hW
  go_enter Tryd.func5, Tryd.ntmps5
  go_wp2_with fail
  refine AL.out.mono ?_
  rintro e w1 ⟨rfl, b1⟩
  have B1 := hide b1
  clear b1 AL
  by_cases h2 : 200 < T.length
  · have h2' : (200 : Int) < (T.length : Int) := by omega
    go_wp2_with fail
    go_ret
    exact ⟨rfl, B1.out⟩
  have h2' : ¬ (200 : Int) < (T.length : Int) := by omega
  have FM := hide (rform18_any (HT.out.bel B1.out) (by omega))
  cases hF : formT T with
  | false =>
    rw [hF] at FM
    go_wp2_with (first | (go_at_call 8; refine FM.out.mono ?_; rintro e w2 ⟨rfl, b2⟩; have B2 := hide (bel_trans B1.out b2); clear b2))
    go_ret
    exact ⟨rfl, B2.out⟩
  | true =>
    rw [hF] at FM
    have HF := hide hF
    clear hF
    go_upto_region 5 with (first | (go_at_call 8; refine FM.out.mono ?_; rintro e w2 ⟨rfl, b2⟩; have B2 := hide (bel_trans B1.out b2); clear b2))
    go_upto_region 6 with fail
    have R0 := hide (rom_start w B2.out)
    generalize (w2.alloc (.cells #[] 43)).alloc (.cells #[] 43) = wS at *
    generalize (Value.slice (some ⟨w2.heap.size, 0, none⟩) 0 0) = vA at *
    generalize (Value.slice (some ⟨w2.heap.size + 1, 0, none⟩) 0 0) = vB at *
    clear FM B1
    go_wp2_with fail
    go_loopw [3, 4, 25] (fun x3 x4 x25 wr => ∃ (k : Nat) (v u : Value), k ≤ T.length ∧ x3 = v ∧ x4 = u ∧ x25 = .int .i64 (k : Nat) ∧ Hid (RoM w wr v u (readsT T k) (ownsT T k))) (fun _ _ x25 _ => T.length - (intOf x25).toNat)
    case atStart => exact ⟨0, _, _, Nat.zero_le _, rfl, rfl, rfl, hide (by simpa [readsT, ownsT] using R0.out)⟩
    case round =>
      obtain ⟨k, v, u, hk, rfl, rfl, rfl, hI⟩ := hrel
      have H := hide hI.out
      clear hI R0
      by_cases hlt : k < T.length
      · have hlt' : (k : Int) < (T.length : Int) := by omega
        obtain ⟨bT, off, rfl, hbT, t0, t1, t2, t3⟩ := (HT.out.bel H.out.bel).at k hlt
        have RS := hide (reads_step T k hlt)
        have OS := hide (owns_step T k hlt)
        have LL := hide (And.intro (readsT_len T k) (And.intro (ownsT_len T k) (show k ≤ 200 by omega)))
        obtain ⟨e, hev⟩ : ∃ q, q = T.getD k zE := ⟨_, rfl⟩
        rw [← hev] at RS OS t0 t1 t2 t3
        obtain ⟨eg, ek, eo, ea⟩ := e
        obtain ⟨lR, hlR⟩ : ∃ q, q = readsT T k := ⟨_, rfl⟩
        obtain ⟨lO, hlO⟩ : ∃ q, q = ownsT T k := ⟨_, rfl⟩
        rw [← hlR] at H RS LL
        rw [← hlO] at H OS LL
        simp only at t0 t1 t2 t3
        clear hev hlR hlO hk
        obtain ⟨aR, cR, rfl, _⟩ := own_slice H.out.rd
        obtain ⟨aO, cO, rfl, _⟩ := own_slice H.out.ow
        have X1 := hide (H.out.box ⟨eg, ek, eo, ea⟩)
        go_upto_region 9 with fail
        have X1 : Hid (RoX w (wr.alloc (.cells #[.int .i64 eg, .int .i64 ek, .int .i64 eo, .int .i64 ea] 43)) wr.heap.size ⟨eg, ek, eo, ea⟩ _ _ lR lO) := X1
        generalize wr.alloc (.cells #[.int .i64 eg, .int .i64 ek, .int .i64 eo, .int .i64 ea] 43) = w1 at *
        clear t0 t1 t2 t3 H
        by_cases k2 : ek = 2
        · subst k2
          have RS := hide (RS.out.trans (if_pos rfl))
          have OS := hide (OS.out.trans (show _ = lO ++ [(⟨eg, 2, eg, ea⟩ : Ev)] from rfl))
          have z10 : w1.cell? ⟨wr.heap.size, 0, none⟩ = some (.int .i64 eg) := blk_cell X1.out.xx 0 _ rfl
          have z11 : w1.cell? ⟨wr.heap.size, 1, none⟩ = some (.int .i64 2) := blk_cell X1.out.xx 1 _ rfl
          have z12 : w1.cell? ⟨wr.heap.size, 2, none⟩ = some (.int .i64 eo) := blk_cell X1.out.xx 2 _ rfl
          have f1 : w1.frozen? ⟨wr.heap.size, 2, none⟩ = false := blk_frz X1.out.xx 2
          go_upto_region 13 with fail
          have X4 : Hid (RoX w (w1.setCell ⟨wr.heap.size, 2, none⟩ (.int .i64 eg)) wr.heap.size ⟨eg, 2, eg, ea⟩ _ _ _ _) := hide X1.out.put
          generalize w1.setCell ⟨wr.heap.size, 2, none⟩ (.int .i64 eg) = w4 at *
          clear z10 z11 z12 f1
          have y50 : w4.cell? ⟨wr.heap.size, 0, none⟩ = some (.int .i64 eg) := blk_cell X4.out.xx 0 _ rfl
          have y51 : w4.cell? ⟨wr.heap.size, 1, none⟩ = some (.int .i64 2) := blk_cell X4.out.xx 1 _ rfl
          have y52 : w4.cell? ⟨wr.heap.size, 2, none⟩ = some (.int .i64 eg) := blk_cell X4.out.xx 2 _ rfl
          have y53 : w4.cell? ⟨wr.heap.size, 3, none⟩ = some (.int .i64 ea) := blk_cell X4.out.xx 3 _ rfl
          have PU5 := hide (fun ty => RoX.pushO X4.out (by have := LL.out; omega) ty)
          go_wp2_with (first | (at_builtin; refine wpList_appG (TS := 22) (.tmp 47) (.tmp 49) _ _ _ PU5.out rfl rfl rfl rfl ?_; rintro vO w5 ⟨⟨a5, c5, rfl⟩, x5⟩; have X5 := hide x5; clear x5 y50 y51 y52 y53 PU5))
          go_roundw
          case rel => exact ⟨k + 1, _, _, by omega, rfl, rfl, by first | rfl | go_num, hide (by rw [RS.out, OS.out]; exact X5.out.mm)⟩
          case measure => simp [intOf]; omega
        · have RS := hide (RS.out.trans (if_neg k2))
          by_cases k1 : ek = 1
          · subst k1
            have OS := hide (OS.out.trans (show _ = lO ++ [(⟨eg, 1, eg, ea⟩ : Ev)] from rfl))
            clear k2
            have z10 : w1.cell? ⟨wr.heap.size, 0, none⟩ = some (.int .i64 eg) := blk_cell X1.out.xx 0 _ rfl
            have z11 : w1.cell? ⟨wr.heap.size, 1, none⟩ = some (.int .i64 1) := blk_cell X1.out.xx 1 _ rfl
            have z12 : w1.cell? ⟨wr.heap.size, 2, none⟩ = some (.int .i64 eo) := blk_cell X1.out.xx 2 _ rfl
            have f1 : w1.frozen? ⟨wr.heap.size, 2, none⟩ = false := blk_frz X1.out.xx 2
            go_upto_region 10 with fail
            clear z10 z11 z12 f1
            have y30 : w1.cell? ⟨wr.heap.size, 0, none⟩ = some (.int .i64 eg) := blk_cell X1.out.xx 0 _ rfl
            have y31 : w1.cell? ⟨wr.heap.size, 1, none⟩ = some (.int .i64 1) := blk_cell X1.out.xx 1 _ rfl
            have y32 : w1.cell? ⟨wr.heap.size, 2, none⟩ = some (.int .i64 eo) := blk_cell X1.out.xx 2 _ rfl
            have y33 : w1.cell? ⟨wr.heap.size, 3, none⟩ = some (.int .i64 ea) := blk_cell X1.out.xx 3 _ rfl
            have PU3 := hide (fun ty => RoX.push X1.out (by have := LL.out; omega) ty)
            go_upto_region 11 with (first | (at_builtin; refine wpList_appG (TS := 22) (.tmp 32) (.tmp 34) _ _ _ PU3.out rfl rfl rfl rfl ?_; rintro vR w3 ⟨⟨a3, c3, rfl⟩, x3⟩; have X3 := hide x3; clear x3 y30 y31 y32 y33 PU3))
            have z30 : w3.cell? ⟨wr.heap.size, 0, none⟩ = some (.int .i64 eg) := blk_cell X3.out.xx 0 _ rfl
            have z31 : w3.cell? ⟨wr.heap.size, 1, none⟩ = some (.int .i64 1) := blk_cell X3.out.xx 1 _ rfl
            have z32 : w3.cell? ⟨wr.heap.size, 2, none⟩ = some (.int .i64 eo) := blk_cell X3.out.xx 2 _ rfl
            have f3 : w3.frozen? ⟨wr.heap.size, 2, none⟩ = false := blk_frz X3.out.xx 2
            go_upto_region 13 with fail
            have X4 : Hid (RoX w (w3.setCell ⟨wr.heap.size, 2, none⟩ (.int .i64 eg)) wr.heap.size ⟨eg, 1, eg, ea⟩ _ _ _ _) := hide X3.out.put
            generalize w3.setCell ⟨wr.heap.size, 2, none⟩ (.int .i64 eg) = w4 at *
            clear z30 z31 z32 f3
            have y50 : w4.cell? ⟨wr.heap.size, 0, none⟩ = some (.int .i64 eg) := blk_cell X4.out.xx 0 _ rfl
            have y51 : w4.cell? ⟨wr.heap.size, 1, none⟩ = some (.int .i64 1) := blk_cell X4.out.xx 1 _ rfl
            have y52 : w4.cell? ⟨wr.heap.size, 2, none⟩ = some (.int .i64 eg) := blk_cell X4.out.xx 2 _ rfl
            have y53 : w4.cell? ⟨wr.heap.size, 3, none⟩ = some (.int .i64 ea) := blk_cell X4.out.xx 3 _ rfl
            have PU5 := hide (fun ty => RoX.pushO X4.out (by have := LL.out; omega) ty)
            go_wp2_with (first | (at_builtin; refine wpList_appG (TS := 22) (.tmp 47) (.tmp 49) _ _ _ PU5.out rfl rfl rfl rfl ?_; rintro vO w5 ⟨⟨a5, c5, rfl⟩, x5⟩; have X5 := hide x5; clear x5 y50 y51 y52 y53 PU5))
            go_roundw
            case rel => exact ⟨k + 1, _, _, by omega, rfl, rfl, by first | rfl | go_num, hide (by rw [RS.out, OS.out]; exact X5.out.mm)⟩
            case measure => simp [intOf]; omega
          · have OS := hide (OS.out.trans (show _ = lO ++ [(⟨eg, ek, eo, ea⟩ : Ev)] from by unfold ownE; rw [if_neg (by simp only; omega)]))
            have n2 : (ek != 2) = true := by simpa using k2
            have e2 : (ek == 2) = false := by simpa using k2
            have e1 : (ek == 1) = false := by simpa using k1
            have z10 : w1.cell? ⟨wr.heap.size, 0, none⟩ = some (.int .i64 eg) := blk_cell X1.out.xx 0 _ rfl
            have z11 : w1.cell? ⟨wr.heap.size, 1, none⟩ = some (.int .i64 ek) := blk_cell X1.out.xx 1 _ rfl
            have z12 : w1.cell? ⟨wr.heap.size, 2, none⟩ = some (.int .i64 eo) := blk_cell X1.out.xx 2 _ rfl
            have f1 : w1.frozen? ⟨wr.heap.size, 2, none⟩ = false := blk_frz X1.out.xx 2
            go_upto_region 10 with fail
            clear z10 z11 z12 f1
            have y30 : w1.cell? ⟨wr.heap.size, 0, none⟩ = some (.int .i64 eg) := blk_cell X1.out.xx 0 _ rfl
            have y31 : w1.cell? ⟨wr.heap.size, 1, none⟩ = some (.int .i64 ek) := blk_cell X1.out.xx 1 _ rfl
            have y32 : w1.cell? ⟨wr.heap.size, 2, none⟩ = some (.int .i64 eo) := blk_cell X1.out.xx 2 _ rfl
            have y33 : w1.cell? ⟨wr.heap.size, 3, none⟩ = some (.int .i64 ea) := blk_cell X1.out.xx 3 _ rfl
            have PU3 := hide (fun ty => RoX.push X1.out (by have := LL.out; omega) ty)
            go_upto_region 11 with (first | (at_builtin; refine wpList_appG (TS := 22) (.tmp 32) (.tmp 34) _ _ _ PU3.out rfl rfl rfl rfl ?_; rintro vR w3 ⟨⟨a3, c3, rfl⟩, x3⟩; have X3 := hide x3; clear x3 y30 y31 y32 y33 PU3))
            have z30 : w3.cell? ⟨wr.heap.size, 0, none⟩ = some (.int .i64 eg) := blk_cell X3.out.xx 0 _ rfl
            have z31 : w3.cell? ⟨wr.heap.size, 1, none⟩ = some (.int .i64 ek) := blk_cell X3.out.xx 1 _ rfl
            have z32 : w3.cell? ⟨wr.heap.size, 2, none⟩ = some (.int .i64 eo) := blk_cell X3.out.xx 2 _ rfl
            have f3 : w3.frozen? ⟨wr.heap.size, 2, none⟩ = false := blk_frz X3.out.xx 2
            go_upto_region 13 with fail
            clear z30 z31 z32 f3
            have y50 : w3.cell? ⟨wr.heap.size, 0, none⟩ = some (.int .i64 eg) := blk_cell X3.out.xx 0 _ rfl
            have y51 : w3.cell? ⟨wr.heap.size, 1, none⟩ = some (.int .i64 ek) := blk_cell X3.out.xx 1 _ rfl
            have y52 : w3.cell? ⟨wr.heap.size, 2, none⟩ = some (.int .i64 eo) := blk_cell X3.out.xx 2 _ rfl
            have y53 : w3.cell? ⟨wr.heap.size, 3, none⟩ = some (.int .i64 ea) := blk_cell X3.out.xx 3 _ rfl
            have PU5 := hide (fun ty => RoX.pushO X3.out (by have := LL.out; omega) ty)
            go_wp2_with (first | (at_builtin; refine wpList_appG (TS := 22) (.tmp 47) (.tmp 49) _ _ _ PU5.out rfl rfl rfl rfl ?_; rintro vO w5 ⟨⟨a5, c5, rfl⟩, x5⟩; have X5 := hide x5; clear x5 y50 y51 y52 y53 PU5))
            go_roundw
            case rel => exact ⟨k + 1, _, _, by omega, rfl, rfl, by first | rfl | go_num, hide (by rw [RS.out, OS.out]; exact X5.out.mm)⟩
            case measure => simp [intOf]; omega
      · obtain rfl : k = T.length := by omega
        have BW := hide H.out.bel
        have S1 := hide (SlE.own H.out.rd)
        have S2 := hide (SlE.own H.out.ow)
        have N2 := hide h2'
        have q1 := readsT_none [] T T.length
        have q2 := ownsT_none [] HF.out T.length (by omega)
        have C1 := hide (races_few S1.out (SlN wr) (HE.out.bel BW.out) (readsT_form HF.out _) (readsT_obj HW.out _) (by have := readsT_len T T.length; omega) (by rw [q1]; decide))
        have C2 := hide (fun wz (hb : Below wr.heap.size wr wz) => races_few (S2.out.bel hb) (SlN wz) (HE.out.bel (bel_trans BW.out (hb.mono (Nat.le_refl _)))) (ownsT_form HF.out _) (ownsT_obj HF.out HW.out _) (by have := ownsT_len T T.length; omega) (by rw [q2]; decide))
        rw [q1] at C1
        rw [q2] at C2
        clear q1 q2 S1 S2 H h2' hlt
        go_wp2_with fail
        refine C1.out.mono ?_
        rintro e w3 ⟨r1, rfl, b3, o3⟩
        obtain ⟨a1, c1, rfl, _⟩ := own_slice o3
        have B3 := hide b3
        have C3 := hide (C2.out w3 b3)
        clear b3 o3 C1 C2
        go_wp2_with fail
        refine C3.out.mono ?_
        rintro e w4 ⟨r2, rfl, b4, o4⟩
        obtain ⟨a2, c2, rfl, _⟩ := own_slice o4
        have B4 := hide (bel_trans BW.out (B3.out.trans (b4.mono B3.out.size)))
        clear b4 o4 C3 B3
        go_wp2_with fail
        go_ret
        exact ⟨rfl, B4.out⟩
end Go.Proofs.YthioonahgjdahaaDoor.Ck
