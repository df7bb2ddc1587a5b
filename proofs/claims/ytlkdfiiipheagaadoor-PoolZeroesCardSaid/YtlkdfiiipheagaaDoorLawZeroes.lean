/- The walk of the statement PoolZeroes: it answers true. -/
import Derived.Test.YtlkdfiiipheagaaDoorZm
import Derived.Deep.RegionLaw
namespace Go.Proofs.YtlkdfiiipheagaaDoor.Ck
open Go.ChangeShapes Go.WideShapes Go.RowKit

def hl (H : List (Nat × Nat)) : List Int := H.map fun x => 16 * (x.1 : Int)
theorem hl_len (H : List (Nat × Nat)) : (hl H).length = H.length := by simp [hl]
theorem hl_at (H : List (Nat × Nat)) (k : Nat) (hk : k < H.length) : (hl H).getD k 0 = 16 * ((H[k]'hk).1 : Int) := by simp [hl, List.getD, hk]

theorem Own.upd {w w' : World} {B g cap : Nat} {zs : List Int} {L : Lay} (h : Own w B g cap zs) (u : Upd L w w') (h1 : L.rb < B) (h2 : L.pb < B) : Own w' B g cap zs := by
  obtain ⟨cur, hb, hg, h3, h4, h5, h6⟩ := h.parts
  exact Own.mk cur hb ((u.blk g (by omega) (by omega)).trans hg) h3 h4 h5 h6

/-- what holds at the head of each round: the arena, the runs that are held, the list of their addresses -/
structure ZI (w wr : World) (L : Lay) (B0 : Nat) (H : List (Nat × Nat)) (R V : Nat → Int) (g cap : Nat) : Prop where
  ar : Ar wr L R V
  well : Well 64 H R V
  own : Own wr B0 g cap (hl H)
  bel : Below w.heap.size w wr
  le : B0 ≤ wr.heap.size

structure ZL (w : World) (L : Lay) (B0 : Nat) : Prop where
  n : L.n = 64
  mine : Mine w.heap.size L
  l1 : L.ab < B0
  l2 : L.rb < B0
  l3 : L.pb < B0
  b : w.heap.size ≤ B0

theorem ZI.upd {w wr w' : World} {L : Lay} {B0 : Nat} {H : List (Nat × Nat)} {R V R' V' : Nat → Int} {g cap : Nat} (h : ZI w wr L B0 H R V g cap) (l : ZL w L B0) (hA : Ar w' L R' V') (hW : Well 64 H R' V') (u : Upd L wr w') : ZI w w' L B0 H R' V' g cap :=
  ⟨hA, hW, h.own.upd u l.l2 l.l3, h.bel.trans (l.mine.bel u), by rw [u.size]; exact h.le⟩

theorem ZI.cell {w wr : World} {L : Lay} {B0 : Nat} {H : List (Nat × Nat)} {R V : Nat → Int} {g cap : Nat} (h : ZI w wr L B0 H R V g cap) (k : Nat) (hk : k < H.length) : wr.cell? ⟨g, k, none⟩ = some (.int .i64 (16 * ((H[k]'hk).1 : Int))) := by
  rw [h.own.cell k (by rw [hl_len]; exact hk), hl_at H k hk]

theorem own_below {w w' : World} {B g cap : Nat} {zs : List Int} (h : Own w B g cap zs) (hb : Below w.heap.size w w') : Own w' B g cap zs := by
  obtain ⟨cur, h1, hg, h3, h4, h5, h6⟩ := h.parts
  exact Own.mk cur h1 ((hb.block g (Array.getElem?_eq_some_iff.1 hg).1).trans hg) h3 h4 h5 h6
theorem ZI.grow {w wr w' : World} {L : Lay} {B0 : Nat} {H : List (Nat × Nat)} {R V : Nat → Int} {g cap : Nat} (h : ZI w wr L B0 H R V g cap) (hb : Below wr.heap.size wr w') : ZI w w' L B0 H R V g cap :=
  ⟨h.ar.below hb, h.well, own_below h.own hb, bel_trans h.bel hb, Nat.le_trans h.le hb.size⟩
theorem ZI.some {w wr : World} {L : Lay} {B0 : Nat} {H : List (Nat × Nat)} {R V : Nat → Int} {g cap P : Nat} (h : ZI w wr L B0 H R V g cap) (hP : P ≤ 64) (hno : NoGap R 64 P) : 0 < H.length := by
  rcases Nat.eq_zero_or_pos H.length with e | e
  · exfalso
    have e2 : H = [] := List.eq_nil_of_length_eq_zero e
    refine hno 0 (by omega) (fun k h1 h2 => ?_)
    by_cases hz : R k = 0
    · exact hz
    · obtain ⟨x, hx, _⟩ := h.well.free k (by omega) hz
      rw [e2] at hx
      exact absurd hx List.not_mem_nil
  · exact e

/-- an append at a step of a region that draws, by what its run gives -/
theorem step_app {ops : Array Oper} {o : Oper} {a : Act} {w : World} {K : Act → World → Prop} {Q : Exit → Act → World → Prop} {E : Prop} (hgd : o.guard = none) (s x : Operand)
    (ho : o.op = .call { callee := .builtin .append, args := #[s, x], argTypes := #[22, 22] }) (hty : o.type = 22) (v vx v' : Value) (w' : World) (hs : a.eval s = v) (hx : a.eval x = vx)
    (hrun : (Builtin.append_ #[22, 22] 22 #[v, vx]).run Tryd.prog w = .ok v' w') (h : K (a.put o.dst v') w') :
    if Region.wanted o (yielded ops a.tmps) = true then Oper.wp Tryd.prog o a w K Q else E := by
  have hw : Region.wanted o (yielded ops a.tmps) = true := by simp [Region.wanted, hgd]
  rw [if_pos hw]
  unfold Oper.wp execOp
  simp only [ho, hty, resolve, invoke, builtin, Sem.run_bind, Sem.run_pure, Result.andThen_ok, List.map_toArray, List.map_cons, List.map_nil, hs, hx, hrun]
  exact h

theorem sl_eq {a : Option Addr} {n m c : Nat} (h : n = m) : Value.slice a n c = .slice a m c := by rw [h]
theorem sum_take (H : List (Nat × Nat)) (j : Nat) (hj : j < H.length) : ((((H.take (j + 1)).map Prod.snd).sum : Nat) : Int) = (((H.take j).map Prod.snd).sum : Nat) + ((H[j]'hj).2 : Int) := by
  rw [List.take_add_one, List.getElem?_eq_getElem hj, List.map_append, List.sum_append]
  simp only [Option.toList_some, List.map_cons, List.map_nil, List.sum_cons, List.sum_nil]
  omega
theorem sum_le (H : List (Nat × Nat)) (j : Nat) : ((H.take j).map Prod.snd).sum ≤ (H.map Prod.snd).sum := by
  have h := List.take_append_drop j H
  have h2 : (H.map Prod.snd).sum = ((H.take j).map Prod.snd).sum + ((H.drop j).map Prod.snd).sum := by rw [← List.sum_append, ← List.map_append, h]
  omega
theorem own_mono {w : World} {B B' g cap : Nat} {zs : List Int} (h : Own w B g cap zs) (hB : B' ≤ B) : Own w B' g cap zs := by
  obtain ⟨cur, h1, hg, h3, h4, h5, h6⟩ := h.parts
  exact Own.mk cur (by omega) hg h3 h4 h5 h6
theorem fits_hl (H : List (Nat × Nat)) (hH : ∀ x ∈ H, x.1 ≤ 1000) : Fits (hl H) := fun z hz => by
  obtain ⟨x, hx, rfl⟩ := List.mem_map.1 hz
  have := hH x hx
  show _ ≤ 16 * (x.1 : Int) ∧ 16 * (x.1 : Int) ≤ _
  omega

theorem held_drop {w5 : World} {B0 g cap kk : Nat} {H : List (Nat × Nat)} (hown : Own w5 B0 g cap (hl H)) (hk : kk < H.length) (hH : H.length ≤ 64) (hB : B0 ≤ w5.heap.size) (hf : ∀ x ∈ H, x.1 ≤ 1000) :
    ∃ g1 c1 w1 g2 c2 w2, (Builtin.append_ #[22, 22] 22 #[.slice (some ⟨w5.heap.size, 0, none⟩) 0 0, .slice (some ⟨g, 0, none⟩) kk cap]).run Tryd.prog (w5.alloc (.cells #[] 3)).drew = .ok (.slice (some ⟨g1, 0, none⟩) kk c1) w1 ∧
      (Builtin.append_ #[22, 22] 22 #[.slice (some ⟨g1, 0, none⟩) kk c1, .slice (some ⟨g, if cap = kk + 1 then 0 else kk + 1, none⟩) (H.length - (kk + 1)) (cap - (kk + 1))]).run Tryd.prog w1 = .ok (.slice (some ⟨g2, 0, none⟩) (H.length - 1) c2) w2 ∧
      Own w2 B0 g2 c2 (hl (H.take kk ++ H.drop (kk + 1))) ∧ Below w5.heap.size w5 w2 := by
  have hf0 := fits_hl H hf
  have hlt : g < w5.heap.size := by
    obtain ⟨cur, _, hg, _⟩ := hown.parts
    exact (Array.getElem?_eq_some_iff.1 hg).1
  have hcap : H.length ≤ cap ∧ cap ≤ maxLen := by
    obtain ⟨cur, _, hg, h3, h4, _⟩ := hown.parts
    rw [hl_len] at h3
    exact ⟨h3, h4⟩
  have bx : Below w5.heap.size w5 (w5.alloc (.cells #[] 3)).drew := (bel_new w5 _).drew
  have o0 : Own (w5.alloc (.cells #[] 3)).drew w5.heap.size w5.heap.size 0 [] := Own.mk #[] (Nat.le_refl _) (Go.Deep.blk_alloc_new _ _) (Nat.le_refl _) (Nat.zero_le _) rfl rfl
  have cells : ∀ (w' : World), Below w5.heap.size w5 w' → ∀ i, i < H.length → w'.cell? ⟨g, i, none⟩ = some (.int .i64 ((hl H).getD i 0)) := fun w' hb i hi => by
    rw [hb.cell (p := ⟨g, i, none⟩) hlt]
    exact hown.cell i (by rw [hl_len]; exact hi)
  have s1 : Sl (w5.alloc (.cells #[] 3)).drew (.slice (some ⟨g, 0, none⟩) kk cap) (hl (H.take kk)) := by
    have e : (hl (H.take kk)).length = kk := by rw [hl_len, List.length_take]; omega
    refine ⟨fits_hl _ (fun x hx => hf x (List.mem_of_mem_take hx)), _, _, by rw [e], by omega, hcap.2, fun i hi => ⟨g, 0, rfl, Nat.lt_of_lt_of_le hlt bx.size, ?_⟩⟩
    rw [e] at hi
    rw [Nat.zero_add, cells _ bx i (by omega), hl_at H i (by omega), hl_at (H.take kk) i (by rw [List.length_take]; omega), List.getElem_take]
  obtain ⟨v1, w1, r1, ⟨g1, c1, rfl, o1⟩, gr1⟩ := app_own 22 o0 s1 (by rw [hl_len, List.length_take]; simp; omega) (by have := bx.size; omega)
  have b1 : Below w5.heap.size w5 w1 := bx.grown gr1 bx.size (fun k hk => by cases hk; exact Nat.le_refl _)
  have e1 : ([] ++ hl (H.take kk)).length = kk := by rw [List.nil_append, hl_len, List.length_take]; omega
  rw [e1] at r1
  rw [List.nil_append] at o1
  have e1' : (hl (H.take kk)).length = kk := by rw [hl_len, List.length_take]; omega
  have s2 : Sl w1 (.slice (some ⟨g, if cap = kk + 1 then 0 else kk + 1, none⟩) (H.length - (kk + 1)) (cap - (kk + 1))) (hl (H.drop (kk + 1))) := by
    have e : (hl (H.drop (kk + 1))).length = H.length - (kk + 1) := by rw [hl_len, List.length_drop]
    refine ⟨fits_hl _ (fun x hx => hf x (List.mem_of_mem_drop hx)), _, _, by rw [e], by omega, by have := hcap.2; omega, fun i hi => ⟨g, _, rfl, Nat.lt_of_lt_of_le hlt b1.size, ?_⟩⟩
    rw [e] at hi
    rw [if_neg (by omega), cells _ b1 _ (by omega), hl_at H _ (by omega), hl_at (H.drop (kk + 1)) i (by rw [List.length_drop]; omega), List.getElem_drop]
  obtain ⟨v2, w2, r2, ⟨g2, c2, rfl, o2⟩, gr2⟩ := app_own 22 o1 s2 (by rw [hl_len, hl_len, List.length_take, List.length_drop]; omega) b1.size
  have hg1 : w5.heap.size ≤ g1 := by
    obtain ⟨_, h, _⟩ := o1.parts
    exact h
  have e2 : (hl (H.take kk) ++ hl (H.drop (kk + 1))).length = H.length - 1 := by rw [List.length_append, hl_len, hl_len, List.length_take, List.length_drop]; omega
  rw [e2, e1'] at r2
  refine ⟨g1, c1, w1, g2, c2, w2, r1, r2, ?_, b1.grown gr2 b1.size (fun k hk => by cases hk; exact hg1)⟩
  have e3 : hl (H.take kk ++ H.drop (kk + 1)) = hl (H.take kk) ++ hl (H.drop (kk + 1)) := by simp [hl]
  rw [e3]
  exact own_mono o2 hB

theorem held_push {w w5 : World} {L : Lay} {B0 g cap f P : Nat} {H : List (Nat × Nat)} {R V : Nat → Int} (hown : Own w5 B0 g cap (hl H)) (hH : H.length ≤ 64) (hB : B0 ≤ w5.heap.size) (hf : f ≤ 64) (l : ZL w L B0) (hb : Below w.heap.size w w5)
    (hA : Ar w5 L R V) (hW : Well 64 (H ++ [(f, P)]) R V) (ty : TypeId) :
    ∃ v' w', (Builtin.append_ #[22, 22] ty #[.slice (some ⟨g, 0, none⟩) H.length cap, .slice (some ⟨w5.heap.size, 0, none⟩) 1 1]).run Tryd.prog (w5.alloc (.cells #[.int .i64 (16 * (f : Int))] 3)) = .ok v' w' ∧
      ∃ g2 c2, v' = .slice (some ⟨g2, 0, none⟩) (H.length + 1) c2 ∧ ZI w w' L B0 (H ++ [(f, P)]) R V g2 c2 := by
  have o0 : Own (w5.alloc (.cells #[.int .i64 (16 * (f : Int))] 3)) B0 g cap (hl H) := own_below hown (bel_new _ _)
  obtain ⟨v', w', r, ⟨g2, c2, rfl, o2⟩, gr⟩ := app_own ty o0 (Sl.built (w := w5) [16 * (f : Int)] (fun z hz => by simp at hz; omega) (by simp)) (by rw [hl_len]; simp; omega) (by simp; omega)
  rw [hl_len] at r
  have e : hl (H ++ [(f, P)]) = hl H ++ [16 * (f : Int)] := by simp [hl]
  have hg : B0 ≤ g := by
    obtain ⟨_, h, _⟩ := hown.parts
    exact h
  have b1 : Below B0 w5 w' := ((bel_new w5 _).mono hB).grown gr (by simp; omega) (fun k hk => by cases hk; exact hg)
  refine ⟨_, w', r, g2, c2, by rw [List.length_append, hl_len]; rfl, ⟨hA.belowB b1 l.l1 l.l2 l.l3, hW, by rw [e]; exact o2, hb.trans (b1.mono l.b), Nat.le_trans hB b1.size⟩⟩

set_option maxHeartbeats 40000000 in
set_option maxRecDepth 10000 in
theorem zeroes_main (va vb : Value) (s o : List Int) (w : World) (p : List Addr) (hs : Sl w va s) (ho : Sl w vb o) (hp : Errs17 w p) :
    Calls Tryd.prog 5 #[va, vb] w fun e w' => e = .returned (.bool true) ∧ Below w.heap.size w w' := by
  obtain ⟨sa, m, sc, rfl, em⟩ := hs.slice
  obtain ⟨oa, mo, oc, rfl, emo⟩ := ho.slice
  have hms : m ≤ 9223372036854775807 := by
    obtain ⟨_, a', c', e, h1, h2, _⟩ := hs
    cases e
    unfold maxLen at h2
    omega
  have hmo : mo ≤ 9223372036854775807 := by
    obtain ⟨_, a', c', e, h1, h2, _⟩ := ho
    cases e
    unfold maxLen at h2
    omega
  clear em emo
  have Hs := hide hs
  have Ho := hide ho
  clear hs ho
  go_enter Tryd.func5, Tryd.ntmps5
  go_wp2_with fail
  refine (alive_any _ p hp).mono ?_
  rintro e w0 ⟨rfl, b0⟩
  go_wp2_with fail
  refine (new_ok 64 [64] _ _ (built1 w0 64 (by omega) (by omega)) (may_one 64 (by omega) (by omega))).mono ?_
  rintro e w1 ⟨⟨x, rfl, pp, pb, qb, rb, rfl, hP⟩, hb1⟩
  have b1 := bel_trans b0 (bel_trans (bel_new w0 _) hb1)
  have HP := hide hP
  have hsz : w.heap.size ≤ (w0.alloc (.cells #[.int .i64 64] 3)).heap.size := by have := b0.size; simp; omega
  have Hsz := hide hsz
  clear hP hb1 b0 hsz
  go_wp2_with fail
  refine (arena_ok HP.out _ 0 rfl (by simp) (by simp)).mono ?_
  rintro e w2 ⟨rfl, rfl⟩
  have hA := HP.out.ar 0 (by simp)
  have hM := HP.out.mine 0 (by simp)
  have l : ZL w (lay qb pb [64] rb 0) w1.heap.size := ⟨by simp [lay, sh], ⟨Nat.le_trans Hsz.out hM.1, Nat.le_trans Hsz.out hM.2⟩, hA.lt1, hA.lt2, hA.lt3, b1.size⟩
  generalize lay qb pb [64] rb 0 = L at *
  have hown : Own (w1.alloc (.cells #[] 3)) w1.heap.size w1.heap.size 0 (hl []) := Own.mk #[] (Nat.le_refl _) (Go.Deep.blk_alloc_new _ _) (Nat.le_refl _) (Nat.zero_le _) rfl rfl
  have Z0 : Hid (ZI w (w1.alloc (.cells #[] 3)) L w1.heap.size [] (fun _ => 0) (fun _ => 0) w1.heap.size 0) :=
    ⟨hA.below (bel_new _ _), Well.start 64, hown, bel_al b1 _, by simp⟩
  obtain ⟨B0, LL, Z1⟩ : ∃ B0, Hid (ZL w L B0) ∧ Hid (ZI w (w1.alloc (.cells #[] 3)) L B0 [] (fun _ => 0) (fun _ => 0) w1.heap.size 0) := ⟨_, l, Z0⟩
  clear HP hA hM hown b1 Hsz l Z0
  have HN : Hid (∀ wr, Below w.heap.size w wr → Errs17 wr p) := fun wr hb => hp.below (Nat.le_refl _) hb
  clear hp
  go_wp2_with fail
  go_loopw [8, 52] (fun hv i wr => ∃ (k : Nat) (H : List (Nat × Nat)) (R V : Nat → Int) (g cap : Nat), k ≤ m ∧ H.length ≤ k ∧ H.length ≤ 64 ∧ i = .int .i64 k ∧ hv = .slice (some ⟨g, 0, none⟩) H.length cap ∧ Hid (ZI w wr L B0 H R V g cap)) (fun _ i _ => m - (intOf i).toNat)
  case atStart => exact ⟨0, [], _, _, _, _, Nat.zero_le _, Nat.le_refl _, by simp, rfl, rfl, Z1⟩
  case round =>
    obtain ⟨k, H, R, V, g, cap, hk, hHk, hH64, rfl, rfl, Z⟩ := hrel
    clear Z1
    obtain ⟨wo, rfl⟩ : ∃ wo, wo = wr := ⟨wr, rfl⟩
    by_cases hgo : k < m ∧ k ≤ 40
    · obtain ⟨hkm, hk40⟩ := hgo
      obtain ⟨b, off, rfl, _, hcell⟩ := (Hs.out.below (Nat.le_refl _) Z.out.bel).at k hkm
      generalize hz : s.getD k 0 = z at hcell
      obtain ⟨x, hx, hx2⟩ := umod z 200 (by omega)
      rw [show ((200 : Nat) : Int) = 200 from rfl] at hx
      obtain ⟨P, hP, hP3, hP4, hP5, hP6⟩ : ∃ P : Nat, need (1 + (x : Int)) = P ∧ 0 < P ∧ P ≤ 13 ∧ 1 + (x : Int) ≤ 16 * (P : Int) ∧ 16 * (P : Int) < 1 + (x : Int) + 16 := ⟨x / 16 + 1, by unfold need; omega, by omega, by omega, by omega, by omega⟩
      have NP := hide hP
      clear hP hz
      go_wp2_with fail
      refine (alloc_any L _ _ (1 + x) _ p Z.out.ar (HN.out _ Z.out.bel) (by omega)).mono ?_
      rintro e w3 ⟨x3, e3, R', rfl, hr3, hA3, u3⟩
      rcases hr3 with ⟨hr, _⟩ | ⟨_, hno, rfl, rfl, rfl⟩ | ⟨_, f, hg, rfl, rfl, rfl⟩
      · omega
      · have Z3 := hide (Z.out.upd LL.out hA3 Z.out.well u3)
        have hpos : 0 < H.length := Z.out.some (P := P) (by omega) (by have := hno; rw [LL.out.n, NP.out] at this; exact this)
        have hne : ((H.length : Int) == 0) = false := by rw [beq_eq_false_iff_ne]; omega
        clear hno hA3 u3 Z NP hcell
        go_wp2_with fail
        refine (num_err p 13 _ (HN.out _ Z3.out.bel) (by omega)).mono ?_
        rintro e w4 ⟨rfl, hb4⟩
        have Z4 := hide (Z3.out.grow hb4)
        clear Z3 hb4
        have hwl : IntKind.u64.wrap (H.length : Int) = (H.length : Int) := by
          show (H.length : Int) % _ = _
          have e : ((2 : Int) ^ IntKind.u64.bits) = 18446744073709551616 := by decide
          exact Int.emod_eq_of_lt (by omega) (by rw [e]; omega)
        by_cases hko : k < mo
        · obtain ⟨b2, off2, rfl, _, hcell2⟩ := (Ho.out.below (Nat.le_refl _) Z4.out.bel).at k hko
          generalize o.getD k 0 = y0 at hcell2
          obtain ⟨kk, hkk, hkl⟩ := umod y0 H.length hpos
          have hc := Z4.out.cell kk hkl
          have he := hide (Z4.out.well.isEnd (List.getElem_mem hkl))
          have Hkk := hide hkl
          generalize hxx : H[kk]'hkl = xx at hc he
          go_wp2_with fail
          refine (free_any L _ _ _ _ p Z4.out.ar (HN.out _ Z4.out.bel)).mono ?_
          rintro e w5 ⟨f5, t5, hr5, rfl, hA5, u5⟩
          obtain ⟨ef5, et5⟩ := hr5.ok (f' := xx.1) (t' := xx.1 + xx.2) rfl (by rw [LL.out.n]; exact he.out)
          rw [if_pos (by have := he.out.1; omega)]
          have hspl : H = H.take kk ++ xx :: H.drop (kk + 1) := by rw [← hxx, List.getElem_cons_drop, List.take_append_drop]
          have hW : Well 64 (H.take kk ++ H.drop (kk + 1)) (fun k => if xx.1 ≤ k ∧ k < xx.1 + xx.2 then 0 else R' k) (fun i => if 16 * xx.1 ≤ i ∧ i < 16 * (xx.1 + xx.2) then 0 else V i) := by
            have h := Z4.out.well
            rw [hspl] at h
            exact h.drop
          obtain ⟨g1, c1, w6, g2, c2, w7, r1, r2, o2, b7⟩ := held_drop (Z4.out.own.upd u5 LL.out.l2 LL.out.l3) hkl hH64 (by rw [u5.size]; exact Z4.out.le) (fun x hx => by have := Z4.out.well.pos x hx; omega)
          rw [ef5, et5] at hA5
          have Z7 : Hid (ZI w w7 L B0 (H.take kk ++ H.drop (kk + 1)) (fun k => if xx.1 ≤ k ∧ k < xx.1 + xx.2 then 0 else R' k) (fun i => if 16 * xx.1 ≤ i ∧ i < 16 * (xx.1 + xx.2) then 0 else V i) g2 c2) :=
            ⟨hA5.below b7, hW, o2, bel_trans (Z4.out.bel.trans (LL.out.mine.bel u5)) b7, by have := b7.size; have := u5.size; have := Z4.out.le; omega⟩
          have hlen : Hid ((H.take kk ++ H.drop (kk + 1)).length = H.length - 1) := by show _ = _; rw [List.length_append, List.length_take, List.length_drop]; omega
          have hcap : H.length ≤ cap := by
            obtain ⟨_, _, _, h3, _⟩ := Z4.out.own.parts
            rw [hl_len] at h3
            exact h3
          clear hr5 hA5 u5 Z4 he hc hspl hW o2 b7 ef5 et5 hxx
          have hkc : kk ≤ cap := by omega
          have hwk : IntKind.i64.wrap ((kk : Int) + 1) = (kk : Int) + 1 := by rw [IntKind.wrap_i64]; omega
          have hcn : 0 ≤ (kk : Int) + 1 ∧ (kk : Int) + 1 ≤ (H.length : Int) := by omega
          have htn : ((kk : Int) + 1).toNat = kk + 1 := by omega
          have R1 := hide r1
          clear r1
          by_cases hck : cap = kk + 1
          · rw [if_pos hck] at r2
            subst hck
            simp only [Nat.sub_self] at r2
            have R2 := hide r2
            have hki : (kk : Int) ≤ (kk : Int) + 1 := by omega
            clear r2
            go_wp2_with fail
            go_region_law (first | (refine step_app rfl (.tmp 101) (.tmp 104) rfl rfl _ _ _ _ (by simp [Act.eval]) (by simp [Act.eval]) R1.out ?_) | (refine step_app rfl (.tmp 105) (.tmp 109) rfl rfl _ _ _ _ (by simp [Act.eval]) (by simp [Act.eval] <;> omega) R2.out ?_))
            all_goals
              go_wp2_with fail
              go_roundw
              case rel => exact ⟨k + 1, H.take kk ++ H.drop (kk + 1), _, _, g2, c2, by omega, by rw [hlen.out]; omega, by rw [hlen.out]; omega, by go_num, sl_eq (by have := hlen.out; omega), Z7.out⟩
              case measure => simp [intOf]; omega
          · rw [if_neg hck] at r2
            have R2 := hide r2
            clear r2
            go_wp2_with fail
            go_region_law (first | (refine step_app rfl (.tmp 101) (.tmp 104) rfl rfl _ _ _ _ (by simp [Act.eval]) (by simp [Act.eval]) R1.out ?_) | (refine step_app rfl (.tmp 105) (.tmp 109) rfl rfl _ _ _ _ (by simp [Act.eval]) (by simp [Act.eval] <;> omega) R2.out ?_))
            all_goals
              go_wp2_with fail
              go_roundw
              case rel => exact ⟨k + 1, H.take kk ++ H.drop (kk + 1), _, _, g2, c2, by omega, by rw [hlen.out]; omega, by rw [hlen.out]; omega, by go_num, sl_eq (by have := hlen.out; omega), Z7.out⟩
              case measure => simp [intOf]; omega
        · have hkl : 0 < H.length := hpos
          have hc := Z4.out.cell 0 hkl
          have he := hide (Z4.out.well.isEnd (List.getElem_mem hkl))
          generalize hxx : H[0]'hkl = xx at hc he
          go_wp2_with fail
          refine (free_any L _ _ _ _ p Z4.out.ar (HN.out _ Z4.out.bel)).mono ?_
          rintro e w5 ⟨f5, t5, hr5, rfl, hA5, u5⟩
          obtain ⟨ef5, et5⟩ := hr5.ok (f' := xx.1) (t' := xx.1 + xx.2) rfl (by rw [LL.out.n]; exact he.out)
          rw [if_pos (by have := he.out.1; omega)]
          have hspl : H = H.take 0 ++ xx :: H.drop 1 := by
            have h := List.take_append_drop 0 H
            rw [← List.getElem_cons_drop hkl, hxx] at h
            exact h.symm
          have hW : Well 64 (H.take 0 ++ H.drop 1) (fun k => if xx.1 ≤ k ∧ k < xx.1 + xx.2 then 0 else R' k) (fun i => if 16 * xx.1 ≤ i ∧ i < 16 * (xx.1 + xx.2) then 0 else V i) := by
            have h := Z4.out.well
            rw [hspl] at h
            exact h.drop
          obtain ⟨g1, c1, w6, g2, c2, w7, r1, r2, o2, b7⟩ := held_drop (Z4.out.own.upd u5 LL.out.l2 LL.out.l3) hkl hH64 (by rw [u5.size]; exact Z4.out.le) (fun x hx => by have := Z4.out.well.pos x hx; omega)
          rw [ef5, et5] at hA5
          have Z7 : Hid (ZI w w7 L B0 (H.take 0 ++ H.drop 1) (fun k => if xx.1 ≤ k ∧ k < xx.1 + xx.2 then 0 else R' k) (fun i => if 16 * xx.1 ≤ i ∧ i < 16 * (xx.1 + xx.2) then 0 else V i) g2 c2) :=
            ⟨hA5.below b7, hW, o2, bel_trans (Z4.out.bel.trans (LL.out.mine.bel u5)) b7, by have := b7.size; have := u5.size; have := Z4.out.le; omega⟩
          have hlen : Hid ((H.take 0 ++ H.drop 1).length = H.length - 1) := by show _ = _; rw [List.length_append, List.length_take, List.length_drop]; omega
          have hcap : H.length ≤ cap := by
            obtain ⟨_, _, _, h3, _⟩ := Z4.out.own.parts
            rw [hl_len] at h3
            exact h3
          clear hr5 hA5 u5 Z4 he hc hspl hW o2 b7 ef5 et5 hxx
          have hkc : 0 ≤ cap := by omega
          have hcn : (1 : Int) ≤ (H.length : Int) := by omega
          have hw1 : IntKind.i64.wrap 1 = 1 := by decide
          simp only [Nat.zero_add] at r1 r2
          have R1 := hide r1
          clear r1
          by_cases hck : cap = 1
          · rw [if_pos hck] at r2
            subst hck
            simp only [Nat.sub_self] at r2
            have R2 := hide r2
            clear r2
            go_wp2_with fail
            go_region_law (first | (refine step_app rfl (.tmp 101) (.tmp 104) rfl rfl _ _ _ _ (by simp [Act.eval]) (by simp [Act.eval]) R1.out ?_) | (refine step_app rfl (.tmp 105) (.tmp 109) rfl rfl _ _ _ _ (by simp [Act.eval]) (by simp [Act.eval] <;> omega) R2.out ?_))
            all_goals
              go_wp2_with fail
              go_roundw
              case rel => exact ⟨k + 1, H.take 0 ++ H.drop 1, _, _, g2, c2, by omega, by rw [hlen.out]; omega, by rw [hlen.out]; omega, by go_num, sl_eq (by have := hlen.out; omega), Z7.out⟩
              case measure => simp [intOf]; omega
          · rw [if_neg hck] at r2
            have R2 := hide r2
            clear r2
            go_wp2_with fail
            go_region_law (first | (refine step_app rfl (.tmp 101) (.tmp 104) rfl rfl _ _ _ _ (by simp [Act.eval]) (by simp [Act.eval]) R1.out ?_) | (refine step_app rfl (.tmp 105) (.tmp 109) rfl rfl _ _ _ _ (by simp [Act.eval]) (by simp [Act.eval] <;> omega) R2.out ?_))
            all_goals
              go_wp2_with fail
              go_roundw
              case rel => exact ⟨k + 1, H.take 0 ++ H.drop 1, _, _, g2, c2, by omega, by rw [hlen.out]; omega, by rw [hlen.out]; omega, by go_num, sl_eq (by have := hlen.out; omega), Z7.out⟩
              case measure => simp [intOf]; omega
      · rw [LL.out.n, NP.out] at hg
        have hA3' : Ar w3 L (fun k => if f ≤ k ∧ k < f + P then (f : Int) + 1 else R k) V := by rw [← NP.out]; exact hA3
        have hW3 := Z.out.well.alloc hg hP3
        have hE := hide (hW3.isEnd (x := (f, P)) (by simp))
        have hfP : f + P ≤ 64 := hg.1
        have hz0 : Hid (∀ i, 16 * f ≤ i → i < 16 * (f + P) → V i = 0) := fun i h1 h2 => Z.out.well.zero i (by omega) (hg.2.1 (i / 16) (by omega) (by omega))
        have W3 := hide hW3
        have A3 := hide (And.intro hA3' u3)
        clear hg hA3 hA3' hW3 u3 hcell
        go_wp2_with fail
        refine (size_u L _ _ _ _ A3.out.1).mono ?_
        rintro e w4 ⟨⟨f4, t4, rfl, hr4⟩, hA4, u4⟩
        obtain ⟨ef, et⟩ := hr4.ok (f' := f) (t' := f + P) rfl (by rw [LL.out.n]; exact hE.out)
        rw [ef, et, show (((f + P : Nat) : Int) - (f : Int)) * 16 = 16 * (P : Int) by omega]
        have A4 := hide (And.intro hA4 (A3.out.2.trans u4))
        clear hr4 hA4 u4 ef et A3
        go_wp2_with fail
        refine (size_u L _ _ _ _ A4.out.1).mono ?_
        rintro e w5 ⟨⟨f4, t4, rfl, hr4⟩, hA4, u4⟩
        obtain ⟨ef, et⟩ := hr4.ok (f' := f) (t' := f + P) rfl (by rw [LL.out.n]; exact hE.out)
        rw [ef, et, show (((f + P : Nat) : Int) - (f : Int)) * 16 = 16 * (P : Int) by omega]
        have A5 := hide (And.intro hA4 (A4.out.2.trans u4))
        clear hr4 hA4 u4 ef et A4
        go_wp2_with fail
        go_loopw [14] (fun i wj => ∃ j : Nat, j ≤ 16 * P ∧ i = .int .i64 (16 * (f : Int) + j) ∧ Hid (Ar wj L (fun k => if f ≤ k ∧ k < f + P then (f : Int) + 1 else R k) (fun i => if 16 * f ≤ i ∧ i < 16 * f + j then 16 * (f : Int) + 1 else V i) ∧ Upd L wo wj)) (fun i _ => 16 * f + 16 * P - (intOf i).toNat)
        case atStart => exact ⟨0, by omega, by simp, A5.out.1.congr (fun _ _ => rfl) (fun i _ => by rw [if_neg (by omega)]), A5.out.2⟩
        case round =>
          obtain ⟨j, hj, rfl, I⟩ := hrel
          by_cases hjl : j < 16 * P
          · obtain ⟨q, r, hqr, hq1, hq2, hr⟩ : ∃ q r : Nat, 16 * f + j = 16 * q + r ∧ f ≤ q ∧ q < f + P ∧ r < 16 := ⟨f + j / 16, j % 16, by omega, by omega, by omega, by omega⟩
            have hne : (if f ≤ q ∧ q < f + P then (f : Int) + 1 else R q) ≠ 0 := by rw [if_pos ⟨hq1, hq2⟩]; omega
            have hv : (if 16 * f ≤ 16 * q + r ∧ 16 * q + r < 16 * f + j then 16 * (f : Int) + 1 else V (16 * q + r)) = 0 := by rw [if_neg (by omega)]; exact hz0.out _ (by omega) (by omega)
            have Hne := hide hne
            have Hv := hide hv
            have Hqr := hide hqr
            clear hne hv hqr
            go_wp2_with fail
            refine (size_u L _ _ _ _ I.out.1).mono ?_
            rintro e w6 ⟨⟨f4, t4, rfl, hr4⟩, hA4, u4⟩
            obtain ⟨ef, et⟩ := hr4.ok (f' := f) (t' := f + P) rfl (by rw [LL.out.n]; exact hE.out)
            rw [ef, et, show (((f + P : Nat) : Int) - (f : Int)) * 16 = 16 * (P : Int) by omega]
            have A6 := hide (And.intro hA4 (I.out.2.trans u4))
            clear hr4 hA4 u4 ef et
            clear I
            go_wp2_with fail
            refine (get_in_u L _ _ _ q r _ A6.out.1 (by have := Hqr.out; omega) (by rw [LL.out.n]; omega) hr Hne.out).mono ?_
            rintro e w7 ⟨rfl, hA7, u7⟩
            rw [Hv.out]
            have A7 := hide (And.intro hA7 (A6.out.2.trans u7))
            clear hA7 u7 A6
            go_wp2_with fail
            refine (set_in_u L _ _ _ q r _ _ A7.out.1 (by have := Hqr.out; omega) (by rw [LL.out.n]; omega) hr Hne.out).mono ?_
            rintro e w8 ⟨rfl, hA8, u8⟩
            have A8 : Hid (Ar w8 L (fun k => if f ≤ k ∧ k < f + P then (f : Int) + 1 else R k) (fun i => if 16 * f ≤ i ∧ i < 16 * f + (j + 1) then 16 * (f : Int) + 1 else V i) ∧ Upd L wo w8) :=
              ⟨hA8.congr (fun _ _ => rfl) (fun i _ => by
                have := Hqr.out
                by_cases e1 : i = 16 * q + r
                · rw [if_pos e1, if_pos (by omega)]
                · rw [if_neg e1]
                  by_cases e2 : 16 * f ≤ i ∧ i < 16 * f + j
                  · rw [if_pos e2, if_pos (by omega)]
                  · rw [if_neg e2, if_neg (by omega)]), A7.out.2.trans u8⟩
            clear hA8 u8 A7
            go_wp2_with fail
            go_roundw
            case rel => exact ⟨j + 1, by omega, by go_num, A8.out⟩
            case measure => simp [intOf]; omega
          · have hje : j = 16 * P := by omega
            subst hje
            go_wp2_with fail
            refine (size_u L _ _ _ _ I.out.1).mono ?_
            rintro e w6 ⟨⟨f4, t4, rfl, hr4⟩, hA4, u4⟩
            obtain ⟨ef, et⟩ := hr4.ok (f' := f) (t' := f + P) rfl (by rw [LL.out.n]; exact hE.out)
            rw [ef, et, show (((f + P : Nat) : Int) - (f : Int)) * 16 = 16 * (P : Int) by omega]
            have A6 := hide (And.intro hA4 (I.out.2.trans u4))
            clear hr4 hA4 u4 ef et
            have A7 : Ar w6 L (fun k => if f ≤ k ∧ k < f + P then (f : Int) + 1 else R k) (fun i => if 16 * f ≤ i ∧ i < 16 * (f + P) then 16 * (f : Int) + 1 else V i) := A6.out.1.congr (fun _ _ => rfl) (fun i _ => by rw [show 16 * f + 16 * P = 16 * (f + P) by omega])
            have PU := hide (fun ty => held_push (Z.out.own.upd A6.out.2 LL.out.l2 LL.out.l3) hH64 (by rw [A6.out.2.size]; exact Z.out.le) (by omega) LL.out (Z.out.bel.trans (LL.out.mine.bel A6.out.2)) A7 W3.out ty)
            clear A7 A6 I
            go_wp2_with (at_builtin; refine wpList_app rfl (.tmp 154) (.tmp 156) rfl _ _ rfl rfl _ (PU.out _) ?_; rintro v1 w9 ⟨g2, c2, rfl, hZ9⟩)
            have Z9 := hide hZ9
            clear hZ9 PU
            go_roundw
            case rel => exact ⟨k + 1, H ++ [(f, P)], _, _, g2, c2, by omega, by simp; omega, by simp; omega, by go_num, sl_eq (by simp), Z9.out⟩
            case measure => simp [intOf]; omega
    · by_cases hkm : k < m
      · have hk41 : ¬ k ≤ 40 := fun h => hgo ⟨hkm, h⟩
        obtain ⟨b, off, rfl, _, hcell⟩ := (Hs.out.below (Nat.le_refl _) Z.out.bel).at k hkm
        generalize s.getD k 0 = z at hcell
        clear hgo
        have hd1 : decide ((k : Int) < (m : Int)) = true := decide_eq_true (by omega)
        have hd2 : decide ((40 : Int) < (k : Int)) = true := decide_eq_true (by omega)
        go_wp2_with fail
        go_loopw [17, 161] (fun sv i wj => ∃ j : Nat, j ≤ H.length ∧ i = .int .i64 j ∧ sv = .int .i64 (16 * ((((H.take j).map Prod.snd).sum : Nat) : Int)) ∧ Hid (ZI w wj L B0 H R V g cap)) (fun _ i _ => H.length - (intOf i).toNat)
        case atStart => exact ⟨0, Nat.zero_le _, rfl, rfl, Z⟩
        case round =>
          obtain ⟨j, hj, rfl, rfl, Y⟩ := hrel
          by_cases hjl : j < H.length
          · have hc := Y.out.cell j hjl
            have hst := sum_take H j hjl
            have htot : ((H.take j).map Prod.snd).sum + (H[j]'hjl).2 ≤ 64 := by
              have h1 := sum_le H (j + 1)
              have h2 := Y.out.well.sum
              have h3 := uc_le R 64
              omega
            have hmem := List.getElem_mem hjl
            have hpos := Y.out.well.pos _ hmem
            have hE := hide (Y.out.well.isEnd hmem)
            have hV := hide (Y.out.well.word _ hmem)
            have hR := hide (Y.out.well.run _ hmem)
            have Hst := hide hst
            clear hst hmem
            generalize H[j]'hjl = xx at *
            obtain ⟨f, P⟩ := xx
            generalize hSj : ((H.take j).map Prod.snd).sum = S at *
            have HS := hide hSj
            clear hSj
            simp only at hc htot hpos
            have YU : Hid (∀ w6, Ar w6 L R V → Upd L wr w6 → ZI w w6 L B0 H R V g cap) := fun w6 h1 h2 => Y.out.upd LL.out h1 Y.out.well h2
            go_wp2_with fail
            refine (size_u L _ _ _ _ Y.out.ar).mono ?_
            rintro e w6 ⟨⟨f4, t4, rfl, hr4⟩, hA4, u4⟩
            obtain ⟨ef, et⟩ := hr4.ok (f' := f) (t' := f + P) rfl (by rw [LL.out.n]; exact hE.out)
            rw [ef, et, show (((f + P : Nat) : Int) - (f : Int)) * 16 = 16 * (P : Int) by omega]
            have Y6 := hide (YU.out _ hA4 u4)
            clear hr4 hA4 u4 ef et YU Y hc
            go_wp2_with fail
            go_loopw [20] (fun i wi => ∃ t : Nat, t ≤ 16 * P ∧ i = .int .i64 (16 * (f : Int) + t) ∧ Hid (ZI w wi L B0 H R V g cap)) (fun i _ => 16 * f + 16 * P - (intOf i).toNat)
            case atStart => exact ⟨0, by omega, by simp, Y6.out⟩
            case round =>
              obtain ⟨t, ht, rfl, X⟩ := hrel
              obtain ⟨wi, rfl⟩ : ∃ wi, wi = wr := ⟨_, rfl⟩
              have XU : Hid (∀ w7, Ar w7 L R V → Upd L wi w7 → ZI w w7 L B0 H R V g cap) := fun w7 h1 h2 => X.out.upd LL.out h1 X.out.well h2
              clear Y6
              by_cases htl : t < 16 * P
              · obtain ⟨q, r, hqr, hq1, hq2, hr⟩ : ∃ q r : Nat, 16 * f + t = 16 * q + r ∧ f ≤ q ∧ q < f + P ∧ r < 16 := ⟨f + t / 16, t % 16, by omega, by omega, by omega, by omega⟩
                have Hne : Hid (R q ≠ 0) := by
                  have := hR.out q hq1 hq2
                  show R q ≠ 0
                  omega
                have Hv : Hid (V (16 * q + r) = 16 * (f : Int) + 1) := hV.out (16 * q + r) (by omega) (by omega)
                have Hqr := hide hqr
                clear hqr
                go_wp2_with fail
                refine (size_u L _ _ _ _ X.out.ar).mono ?_
                rintro e w7 ⟨⟨f4, t4, rfl, hr4⟩, hA4, u4⟩
                obtain ⟨ef, et⟩ := hr4.ok (f' := f) (t' := f + P) rfl (by rw [LL.out.n]; exact hE.out)
                rw [ef, et, show (((f + P : Nat) : Int) - (f : Int)) * 16 = 16 * (P : Int) by omega]
                have Y7 := hide (XU.out _ hA4 u4)
                clear hr4 hA4 u4 ef et XU X
                go_wp2_with fail
                refine (get_in_u L _ _ _ q r _ Y7.out.ar (by have := Hqr.out; omega) (by rw [LL.out.n]; omega) hr Hne.out).mono ?_
                rintro e w8 ⟨rfl, hA8, u8⟩
                rw [Hv.out]
                have Y8 := hide (Y7.out.upd LL.out hA8 Y7.out.well u8)
                have hbe : ((16 * (f : Int) + 1) != (16 * (f : Int) + 1)) = false := by simp
                clear hA8 u8 Y7
                go_wp2_with fail
                go_roundw
                case rel => exact ⟨t + 1, by omega, by go_num, Y8.out⟩
                case measure => simp [intOf]; omega
              · have hte : t = 16 * P := by omega
                subst hte
                go_wp2_with fail
                refine (size_u L _ _ _ _ X.out.ar).mono ?_
                rintro e w7 ⟨⟨f4, t4, rfl, hr4⟩, hA4, u4⟩
                obtain ⟨ef, et⟩ := hr4.ok (f' := f) (t' := f + P) rfl (by rw [LL.out.n]; exact hE.out)
                rw [ef, et, show (((f + P : Nat) : Int) - (f : Int)) * 16 = 16 * (P : Int) by omega]
                have Y7 := hide (XU.out _ hA4 u4)
                clear hr4 hA4 u4 ef et XU X
                go_wp2_with fail
                go_roundw
                case rel => exact ⟨j + 1, by omega, by go_num, by rw [Hst.out]; go_num, Y7.out⟩
                case measure => simp [intOf]; omega
          · have hje : j = H.length := by omega
            have hsum : Hid (((H.take j).map Prod.snd).sum = uc R L.n) := by
              show _ = _
              rw [LL.out.n, Y.out.well.sum, hje, List.take_length]
            have hul : uc R L.n ≤ 64 := by rw [LL.out.n]; exact uc_le R 64
            rw [hsum.out]
            clear hsum
            have YU : Hid (∀ w6 R6 V6, Ar w6 L R6 V6 → Upd L wr w6 → Below w.heap.size w w6) := fun w6 R6 V6 h1 h2 => Y.out.bel.trans (LL.out.mine.bel h2)
            go_wp2_with fail
            refine (used_any L _ _ _ Y.out.ar).mono ?_
            rintro e w6 ⟨rfl, rfl⟩
            generalize uc R L.n = u at *
            go_wp2_with fail
            refine (clear_any L _ _ _ Y.out.ar).mono ?_
            rintro e w7 ⟨rfl, hA7, u7⟩
            have b7 := YU.out _ _ _ hA7 u7
            have A7 := hide hA7
            clear hA7 u7 Y YU
            go_wp2_with fail
            refine (alloc_any L _ _ 1024 _ p A7.out (HN.out _ b7) (by omega)).mono ?_
            rintro e w8 ⟨x8, e8, R8, rfl, hr8, hA8, u8⟩
            obtain ⟨rfl, rfl, rfl⟩ := hr8.ok (by omega) (f := 0) (by rw [LL.out.n, show need 1024 = 64 by decide]; exact gap_zero 64 64 (by omega))
            have b8 := b7.trans (LL.out.mine.bel u8)
            have hbe : ((16 * (u : Int)) == (16 * (u : Int))) = true := by simp
            clear hr8 hA8 u8 A7 b7
            go_wp2_with fail
            go_ret
            exact ⟨rfl, b8⟩
      · have hke : k = m := by omega
        clear hgo
        subst hke
        go_wp2_with fail
        go_loopw [17, 161] (fun sv i wj => ∃ j : Nat, j ≤ H.length ∧ i = .int .i64 j ∧ sv = .int .i64 (16 * ((((H.take j).map Prod.snd).sum : Nat) : Int)) ∧ Hid (ZI w wj L B0 H R V g cap)) (fun _ i _ => H.length - (intOf i).toNat)
        case atStart => exact ⟨0, Nat.zero_le _, rfl, rfl, Z⟩
        case round =>
          obtain ⟨j, hj, rfl, rfl, Y⟩ := hrel
          by_cases hjl : j < H.length
          · have hc := Y.out.cell j hjl
            have hst := sum_take H j hjl
            have htot : ((H.take j).map Prod.snd).sum + (H[j]'hjl).2 ≤ 64 := by
              have h1 := sum_le H (j + 1)
              have h2 := Y.out.well.sum
              have h3 := uc_le R 64
              omega
            have hmem := List.getElem_mem hjl
            have hpos := Y.out.well.pos _ hmem
            have hE := hide (Y.out.well.isEnd hmem)
            have hV := hide (Y.out.well.word _ hmem)
            have hR := hide (Y.out.well.run _ hmem)
            have Hst := hide hst
            clear hst hmem
            generalize H[j]'hjl = xx at *
            obtain ⟨f, P⟩ := xx
            generalize hSj : ((H.take j).map Prod.snd).sum = S at *
            have HS := hide hSj
            clear hSj
            simp only at hc htot hpos
            have YU : Hid (∀ w6, Ar w6 L R V → Upd L wr w6 → ZI w w6 L B0 H R V g cap) := fun w6 h1 h2 => Y.out.upd LL.out h1 Y.out.well h2
            go_wp2_with fail
            refine (size_u L _ _ _ _ Y.out.ar).mono ?_
            rintro e w6 ⟨⟨f4, t4, rfl, hr4⟩, hA4, u4⟩
            obtain ⟨ef, et⟩ := hr4.ok (f' := f) (t' := f + P) rfl (by rw [LL.out.n]; exact hE.out)
            rw [ef, et, show (((f + P : Nat) : Int) - (f : Int)) * 16 = 16 * (P : Int) by omega]
            have Y6 := hide (YU.out _ hA4 u4)
            clear hr4 hA4 u4 ef et YU Y hc
            go_wp2_with fail
            go_loopw [20] (fun i wi => ∃ t : Nat, t ≤ 16 * P ∧ i = .int .i64 (16 * (f : Int) + t) ∧ Hid (ZI w wi L B0 H R V g cap)) (fun i _ => 16 * f + 16 * P - (intOf i).toNat)
            case atStart => exact ⟨0, by omega, by simp, Y6.out⟩
            case round =>
              obtain ⟨t, ht, rfl, X⟩ := hrel
              obtain ⟨wi, rfl⟩ : ∃ wi, wi = wr := ⟨_, rfl⟩
              have XU : Hid (∀ w7, Ar w7 L R V → Upd L wi w7 → ZI w w7 L B0 H R V g cap) := fun w7 h1 h2 => X.out.upd LL.out h1 X.out.well h2
              clear Y6
              by_cases htl : t < 16 * P
              · obtain ⟨q, r, hqr, hq1, hq2, hr⟩ : ∃ q r : Nat, 16 * f + t = 16 * q + r ∧ f ≤ q ∧ q < f + P ∧ r < 16 := ⟨f + t / 16, t % 16, by omega, by omega, by omega, by omega⟩
                have Hne : Hid (R q ≠ 0) := by
                  have := hR.out q hq1 hq2
                  show R q ≠ 0
                  omega
                have Hv : Hid (V (16 * q + r) = 16 * (f : Int) + 1) := hV.out (16 * q + r) (by omega) (by omega)
                have Hqr := hide hqr
                clear hqr
                go_wp2_with fail
                refine (size_u L _ _ _ _ X.out.ar).mono ?_
                rintro e w7 ⟨⟨f4, t4, rfl, hr4⟩, hA4, u4⟩
                obtain ⟨ef, et⟩ := hr4.ok (f' := f) (t' := f + P) rfl (by rw [LL.out.n]; exact hE.out)
                rw [ef, et, show (((f + P : Nat) : Int) - (f : Int)) * 16 = 16 * (P : Int) by omega]
                have Y7 := hide (XU.out _ hA4 u4)
                clear hr4 hA4 u4 ef et XU X
                go_wp2_with fail
                refine (get_in_u L _ _ _ q r _ Y7.out.ar (by have := Hqr.out; omega) (by rw [LL.out.n]; omega) hr Hne.out).mono ?_
                rintro e w8 ⟨rfl, hA8, u8⟩
                rw [Hv.out]
                have Y8 := hide (Y7.out.upd LL.out hA8 Y7.out.well u8)
                have hbe : ((16 * (f : Int) + 1) != (16 * (f : Int) + 1)) = false := by simp
                clear hA8 u8 Y7
                go_wp2_with fail
                go_roundw
                case rel => exact ⟨t + 1, by omega, by go_num, Y8.out⟩
                case measure => simp [intOf]; omega
              · have hte : t = 16 * P := by omega
                subst hte
                go_wp2_with fail
                refine (size_u L _ _ _ _ X.out.ar).mono ?_
                rintro e w7 ⟨⟨f4, t4, rfl, hr4⟩, hA4, u4⟩
                obtain ⟨ef, et⟩ := hr4.ok (f' := f) (t' := f + P) rfl (by rw [LL.out.n]; exact hE.out)
                rw [ef, et, show (((f + P : Nat) : Int) - (f : Int)) * 16 = 16 * (P : Int) by omega]
                have Y7 := hide (XU.out _ hA4 u4)
                clear hr4 hA4 u4 ef et XU X
                go_wp2_with fail
                go_roundw
                case rel => exact ⟨j + 1, by omega, by go_num, by rw [Hst.out]; go_num, Y7.out⟩
                case measure => simp [intOf]; omega
          · have hje : j = H.length := by omega
            have hsum : Hid (((H.take j).map Prod.snd).sum = uc R L.n) := by
              show _ = _
              rw [LL.out.n, Y.out.well.sum, hje, List.take_length]
            have hul : uc R L.n ≤ 64 := by rw [LL.out.n]; exact uc_le R 64
            rw [hsum.out]
            clear hsum
            have YU : Hid (∀ w6 R6 V6, Ar w6 L R6 V6 → Upd L wr w6 → Below w.heap.size w w6) := fun w6 R6 V6 h1 h2 => Y.out.bel.trans (LL.out.mine.bel h2)
            go_wp2_with fail
            refine (used_any L _ _ _ Y.out.ar).mono ?_
            rintro e w6 ⟨rfl, rfl⟩
            generalize uc R L.n = u at *
            go_wp2_with fail
            refine (clear_any L _ _ _ Y.out.ar).mono ?_
            rintro e w7 ⟨rfl, hA7, u7⟩
            have b7 := YU.out _ _ _ hA7 u7
            have A7 := hide hA7
            clear hA7 u7 Y YU
            go_wp2_with fail
            refine (alloc_any L _ _ 1024 _ p A7.out (HN.out _ b7) (by omega)).mono ?_
            rintro e w8 ⟨x8, e8, R8, rfl, hr8, hA8, u8⟩
            obtain ⟨rfl, rfl, rfl⟩ := hr8.ok (by omega) (f := 0) (by rw [LL.out.n, show need 1024 = 64 by decide]; exact gap_zero 64 64 (by omega))
            have b8 := b7.trans (LL.out.mine.bel u8)
            have hbe : ((16 * (u : Int)) == (16 * (u : Int))) = true := by simp
            clear hr8 hA8 u8 A7 b7
            go_wp2_with fail
            go_ret
            exact ⟨rfl, b8⟩

theorem poolZeroes_walk {W : World} {a0 a1 : Option Addr} {len0 cap0 len1 cap1 : Nat} {s o : List Int} (s0 : Sl W (.slice a0 len0 cap0) s) (s1 : Sl W (.slice a1 len1 cap1) o) (hL : laidMetH Tryd.prog laid17 W) :
    Calls Tryd.prog 5 #[.slice a0 len0 cap0, .slice a1 len1 cap1] W fun e w' => e = .returned (.bool true) ∧ Below W.heap.size W w' := by
  obtain ⟨p, hp⟩ := errs17_of_laid hL
  exact zeroes_main _ _ s o W p s0 s1 hp

end Go.Proofs.YtlkdfiiipheagaaDoor.Ck
