/- Texts of this proof, packed: contracts of the program's functions, and the plain model that they are held against. -/
import Derived.Test.YtfojninaginnoaaGreatDoorQae
set_option maxRecDepth 20000
set_option maxHeartbeats 4000000
namespace Go.Proofs.YtfojninaginnoaaGreatDoor.Ck
open Go.RowKit
theorem outR_run {r : Rm} {k : Nat} {x : Gr} (hx : r.gs[k]? = some x) (hc : ZY r x.w = true) : outR r = 0 := by
 unfold outR
 rw [if_pos]
 rw [List.any_eq_true]
 exact ⟨x, List.mem_of_getElem? hx, hc⟩
theorem outR_end {r : Rm} (h : ∀ (j : Nat) (x : Gr), r.gs[j]? = some x -> ZY r x.w = false) : outR r = if r.gs.any (fun x => x.w.k != 0) then 2 else 1 := by
 unfold outR
 rw [if_neg]
 rw [List.any_eq_true]
 rintro ⟨x, hx, hc⟩
 obtain ⟨j, hj, rfl⟩ := List.mem_iff_getElem.1 hx
 have := h j _ (List.getElem?_eq_getElem hj)
 rw [this] at hc
 cases hc
theorem can_at {r : Rm} {k : Nat} {x : Gr} (hx : r.gs[k]? = some x) : can r (k : Int) = ZY r x.w := by
 unfold can
 rw [lk_nat, hx]
def kd (gs : List Gr) (k : Nat) : Int := if (gs.take k).any (fun x => x.w.k != 0) then 2 else 1
theorem kd_yes {gs : List Gr} {k : Nat} {x : Gr} (hx : gs[k]? = some x) (h : x.w.k ≠ 0) : kd gs (k + 1) = 2 := by
 unfold kd
 rw [List.take_add_one, hx, List.any_append]
 simp [h]
theorem kd_no {gs : List Gr} {k : Nat} {x : Gr} (hx : gs[k]? = some x) (h : x.w.k = 0) : kd gs (k + 1) = kd gs k := by
 unfold kd
 rw [List.take_add_one, hx, List.any_append]
 simp [h]
theorem outcome_any {w : World} {G : Nat -> Prop} {g : Nat} {S : List (List Wt)} {r : Rm} {p : List Addr} (h : Rn w G g S r) (h17 : E2 w p) : Calls Tryz.prog 60 #[P_ g] w (Vb w (I_ (outR r))) := by
  have HR := Za h
  have H7 := Za h17
  obtain ⟨Fs, Fo, R, gs, vC, vB, vG, vE, ps, ts, h, hG⟩ := h
  obtain ⟨a, cG, e, _⟩ := Zl h.go
  subst e
  have hac : Hid (∀ (i : Nat) (x : Gr), r.gs[i]? = some x -> ∃ bG b, a = some ⟨bG, 0, none⟩ /\ bG < w.heap.size /\ b < w.heap.size /\ w.cell? ⟨bG, i, none⟩ = some (P_ b) /\ w.cell? ⟨b, 1, none⟩ = some (I_ x.w.k)) := Za fun i x hx => by
    obtain ⟨bG, c', b, t, va, e1, _, _, _, _, _, _, ⟨q1, q2, q3⟩, q4⟩ := h.see hx
    cases e1
    exact ⟨bG, b, rfl, q2, q3, q1, Zb q4 1 _ rfl⟩
  have c3 := h.cells.1.2.2.2.1
  have hgl := h.fb g h.fg
  have hn8 := h.n8
  obtain ⟨n, hn⟩ : ∃ n, n = r.gs.length := ⟨_, rfl⟩
  rw [← hn] at c3 hn8
  have HN := Za hn
  obtain ⟨ou, hou⟩ : ∃ ou, outR r = ou := ⟨_, rfl⟩
  rw [hou]
  have HO := Za hou
  clear h h17 hG hn hou
  go_enter Tryz.func60, Tryz.ntmps60
  go_wp2_with fail
  go_loopw [3, 4, 5, 11] (fun x3 x4 x5 i wr => ∃ (k : Nat) (m : Int), k <= n /\ i = I_ k /\ x3 = I_ m /\ Hid (m = kd r.gs k) /\ Hid (∀ j x, j < k -> r.gs[j]? = some x -> ZY r x.w = false) /\ Hid (Below w.heap.size w wr)) (fun x3 x4 x5 i _ => n - (intOf i).toNat)
  case atStart => exact ⟨0, 1, Nat.zero_le _, rfl, rfl, Za rfl, fun j x hj => absurd hj (Nat.not_lt_zero _), Below.refl _ _⟩
  case round =>
    obtain ⟨k, m, hk, rfl, rfl, hm, hall, hbel⟩ := hrel
    by_cases hlt : k < n
    · obtain ⟨x, hx⟩ : ∃ x, r.gs[k]? = some x := ⟨_, List.getElem?_eq_getElem (by rw [← HN.out]; exact hlt)⟩
      obtain ⟨bG, b, rfl, hbG, hb, hc1, hc2⟩ := hac.out k x hx
      rw [← hbel.out.cell (p := ⟨bG, k, none⟩) hbG] at hc1
      have h1 : (k : Int) < (n : Int) := by omega
      have CR := Za (canRun_any (HR.out.bel hbel.out) (H7.out.below (Nat.le_refl _) hbel.out) (k : Int))
      rw [can_at hx] at CR
      have hrun := Za (fun hc => outR_run hx hc)
      have hstep : Hid (ZY r x.w = false -> ∀ j y, j < k + 1 -> r.gs[j]? = some y -> ZY r y.w = false) := fun e j y hj hy => by
        by_cases ej : j = k
        · subst ej
          rw [hx] at hy
          cases hy
          exact e
        · exact hall.out j y (by omega) hy
      have hy := Za (fun h => kd_yes hx h)
      have hno := Za (fun h => kd_no hx h)
      have HC2 := Za hc2
      have HB := Za hb
      clear hall hc2 hac hb
      obtain ⟨rest, ⟨xk, xo, xa, xv⟩⟩ := x
      simp only at HC2 hy hno
      generalize ZY r ⟨xk, xo, xa, xv⟩ = z at *
      go_wp2_with fail
      refine CR.out.mono ?_
      rintro e w1 ⟨rfl, hb1⟩
      have hbel2 := Za (Zg hbel.out hb1)
      have hc2 := (hbel2.out.cell (p := ⟨b, 1, none⟩) HB.out).trans HC2.out
      clear hb1 CR
      cases z with
      | true =>
        have hr := Za (hrun.out rfl)
        clear hstep hrun
        go_wp2_with fail
        go_ret
        exact Vb.mk (by rw [← HO.out, hr.out]; rfl) hbel2.out
      | false =>
        have hr := Za (hstep.out rfl)
        clear hstep hrun
        by_cases h0 : xk = 0
        · subst h0
          have hno2 := Za (hno.out rfl)
          clear hno hy
          go_wp2_with fail
          go_roundw
          case rel => exact ⟨k + 1, m, by omega, by go_num, rfl, Za (hm.out.trans hno2.out.symm), hr, hbel2⟩
          case measure => simp [intOf]; omega
        · have hkb : (xk == 0) = false := by simp [h0]
          have hy2 := Za (hy.out h0)
          clear hno hy
          go_wp2_with fail
          go_roundw
          case rel => exact ⟨k + 1, 2, by omega, by go_num, rfl, Za hy2.out.symm, hr, hbel2⟩
          case measure => simp [intOf]; omega
    · have e : k = n := by omega
      subst e
      have he := Za (outR_end (r := r) fun j x hx => hall.out j x (by rw [HN.out]; exact (G_ hx)) hx)
      clear hac hall
      go_wp2_with fail
      go_ret
      exact Vb.mk (by
        rw [← HO.out, he.out]
        have := hm.out
        unfold kd at this
        rw [HN.out, List.take_length] at this
        rw [← this]
        rfl) hbel.out
def EnV (e : En) : Value := .agg #[I_ e.o, I_ e.f, I_ e.g, I_ e.n, I_ e.a]
theorem ret_en {fn : Func} {R : Ending -> World -> Prop} {a : Act} {w : World} {p : Tmp} (b : Nat) {e0 e1 e2 e3 e4 : Int} (hf : fn.results = #[.cell p 37]) (hp : a.tmps.getD p undef = P_ b)
    (h : w.heap[b]? = some (.cells #[I_ e0, I_ e1, I_ e2, I_ e3, I_ e4] 37 (0, 0))) (hdf : a.defers = []) (hR : R (.returned (.agg #[I_ e0, I_ e1, I_ e2, I_ e3, I_ e4])) w) : bodyPost Tryz.prog fn R .ret a w :=
  bodyPost_ret (by
    have hp' : a.tmps[p]?.getD undef = P_ b := by simpa using hp
    have q0 := Zb h 0 _ rfl
    have q1 := Zb h 1 _ rfl
    have q2 := Zb h 2 _ rfl
    have q3 := Zb h 3 _ rfl
    have q4 := Zb h 4 _ rfl
    simp [results, hf, hp', go_sem, q0, q1, q2, q3, q4]) hdf hR
theorem set5 {w : World} {b : Nat} {T : TypeId} {y0 y1 y2 y3 y4 : Value} (h : w.heap[b]? = some (.cells #[y0, y1, y2, y3, y4] T (0, 0))) (x0 x1 x2 x3 x4 : Value) :
 (((((w.setCell ⟨b, 0, none⟩ x0).setCell ⟨b, 1, none⟩ x1).setCell ⟨b, 2, none⟩ x2).setCell ⟨b, 3, none⟩ x3).setCell ⟨b, 4, none⟩ x4).heap[b]? = some (.cells #[x0, x1, x2, x3, x4] T (0, 0)) :=
 heap_setCell_same _ _ _ _ _ _ (heap_setCell_same _ _ _ _ _ _ (heap_setCell_same _ _ _ _ _ _ (heap_setCell_same _ _ _ _ _ _ (heap_setCell_same _ _ _ _ _ _ h))))
theorem bel_set5 {w w2 : World} {N b : Nat} (h : Below N w w2) (hb : N <= b) (x0 x1 x2 x3 x4 : Value) : Below N w (((((w2.setCell ⟨b, 0, none⟩ x0).setCell ⟨b, 1, none⟩ x1).setCell ⟨b, 2, none⟩ x2).setCell ⟨b, 3, none⟩ x3).setCell ⟨b, 4, none⟩ x4) :=
 ((((h.setCell (p := ⟨b, 0, none⟩) hb x0).setCell (p := ⟨b, 1, none⟩) hb x1).setCell (p := ⟨b, 2, none⟩) hb x2).setCell (p := ⟨b, 3, none⟩) hb x3).setCell (p := ⟨b, 4, none⟩) hb x4
theorem End_any {w : World} {G : Nat -> Prop} {g : Nat} {S : List (List Wt)} {r : Rm} {p : List Addr} (h : Rn w G g S r) (h17 : E2 w p) : Calls Tryz.prog 19 #[P_ g] w (Vb w (EnV (Ys r))) := by
 have B0 := Za (Zd w (.cells #[I_ 0, I_ 0, I_ 0, I_ 0, I_ 0] 37))
 have V0 := Za (B_ w (.cells #[I_ 0, I_ 0, I_ 0, I_ 0, I_ 0] 37))
 have OU := Za (outcome_any (h.bel B0.out) (h17.below (Nat.le_refl _) B0.out))
 obtain ⟨Fs, Fo, R, gs, vC, vB, vG, vE, ps, ts, h, hG⟩ := h
 obtain ⟨_, c5, c6, c7, c8, c9⟩ := h.cells
 have hgl := h.fb g h.fg
 unfold Ys EnV
 by_cases h0 : r.e.o = 0
 · rw [if_pos h0]
   rw [h0] at c5
   simp only
   clear h h17 hG h0 c6 c7 c8 c9
   go_enter Tryz.func19, Tryz.ntmps19
   go_wp2_with fail
   refine OU.out.mono ?_
   rintro e w1 ⟨rfl, hb⟩
   have X1 : Hid (w1.heap[w.heap.size]? = some (.cells #[I_ 0, I_ 0, I_ 0, I_ 0, I_ 0] 37 (0, 0))) := Za ((hb.block _ (Ze V0.out)).trans V0.out)
   have q0 := Zb X1.out 0 _ rfl
   have q1 := Zb X1.out 1 _ rfl
   have q2 := Zb X1.out 2 _ rfl
   have q3 := Zb X1.out 3 _ rfl
   have q4 := Zb X1.out 4 _ rfl
   have f0 := Zc X1.out 0
   have f1 := Zc X1.out 1
   have f2 := Zc X1.out 2
   have f3 := Zc X1.out 3
   have f4 := Zc X1.out 4
   have B1 := Za (Zg B0.out hb)
   clear hb OU
   go_wp2_with fail
   exact ret_en w.heap.size rfl rfl (set5 X1.out _ _ _ _ _) rfl (Vb.mk rfl (bel_set5 B1.out (Nat.le_refl _) _ _ _ _ _))
 · rw [if_neg h0]
   have hb0 : (r.e.o == 0) = false := by simp [h0]
   clear h h17 hG h0 OU
   obtain ⟨s_, gs_, ev_, ⟨e0, e1, e2, e3, e4⟩⟩ := r
   simp only at *
   go_enter Tryz.func19, Tryz.ntmps19
   go_wp2_with fail
   exact ret_en w.heap.size rfl rfl (B_ w _) rfl (Vb.mk rfl (Zd _ _))
theorem enf0 (a b c d e : Value) (w : World) : (Instr.field 37 (.agg #[a, b, c, d, e]) 0).run Tryz.prog w = .ok a w := by kernel_rfl
theorem ended_any {w : World} {G : Nat -> Prop} {g : Nat} {S : List (List Wt)} {r : Rm} {p : List Addr} (h : Rn w G g S r) (h17 : E2 w p) : Calls Tryz.prog 29 #[P_ g] w (Vb w (.bool (!runs r))) := by
 have E := Za (End_any h h17)
 have hf := enf0
 obtain ⟨z, hz⟩ : ∃ z, Ys r = z := ⟨_, rfl⟩
 have hr : runs r = (z.o == 0) := by unfold runs; rw [hz]
 rw [hz] at E
 rw [hr]
 obtain ⟨e0, e1, e2, e3, e4⟩ := z
 unfold EnV at E
 simp only at *
 clear h h17 hz hr
 go_enter Tryz.func29, Tryz.ntmps29
 go_wp2_with fail
 refine E.out.mono ?_
 rintro e w1 ⟨rfl, hb⟩
 go_wp2_with fail
 go_ret
 exact Vb.mk rfl hb
theorem Count_any {w : World} {G : Nat -> Prop} {g : Nat} {S : List (List Wt)} {r : Rm} (h : Rn w G g S r) : Calls Tryz.prog 21 #[P_ g] w fun e w' => e = .returned (I_ (r.ev.length : Nat)) /\ w = w' := by
 obtain ⟨Fs, Fo, R, gs, vC, vB, vG, vE, ps, ts, h, hG⟩ := h
 have c4 := h.cells.1.2.2.2.2
 obtain ⟨a, cE, e, _⟩ := Zl h.ev
 subst e
 have hgl := h.fb g h.fg
 generalize r.ev.length = n at *
 clear h hG
 go_enter Tryz.func21, Tryz.ntmps21
 go_wp2_with fail
 go_ret
 exact ⟨rfl, rfl⟩
theorem cloneV2 {w : World} {src : Value} {n : Nat} {xs : List Value} (hs : w.ownsRow 0 64 3 src n xs) (hn : n <= 2000) (h1 : ∀ u ∈ xs, u.oneCell' = true) : Calls Tryz.prog 85 #[src] w (ClP w 64 3 n xs) := by
 rcases own_form hs with ⟨rfl, rfl⟩ | ⟨b, c, rfl, _⟩
 · have e : xs = [] := by have := hs.1; simpa using this
   subst e
   clear hs
   have hE : ∀ w, (binOp .eql 65 (.slice none 0 0) (.slice none 0 0)).run Tryz.prog w = .ok (.bool true) w := fun w => by kernel_rfl
   go_enter Tryz.func85, Tryz.ntmps85
   go_wp2_with fail
   go_ret
   exact ⟨_, _, rfl, World.ownsRow_nil _ _ _ _, Below.refl _ _⟩
 · have hb := Zd w (.cells #[] 64)
   have AP := Za (fun ty => Yq (B := w.heap.size) Tryz.underlying65 Ym rfl (by decide) (B_ w (.cells #[] 64)) (Nat.le_refl _) (Zj hs (fun k hk => hb.block k (Zf hs hk).2.1)) (by omega) h1 hb.size ty)
   have HB := Za hb
   clear hs hb h1
   have hE : ∀ w, (binOp .eql 65 (.slice (some ⟨b, 0, none⟩) n c) (.slice none 0 0)).run Tryz.prog w = .ok (.bool false) w := fun w => by kernel_rfl
   go_enter Tryz.func85, Tryz.ntmps85
   go_wp2_with (first | (at_builtin; refine ZU (TS := 65) rfl (.tmp 5) (.tmp 6) rfl _ _ rfl rfl _ (AP.out _) ?_; rintro v9 w9 ⟨⟨a9, c9, rfl⟩, o9, b9, _⟩; have R9 := Za (And.intro o9 b9); clear o9 b9))
   go_ret
   exact ⟨_, _, rfl, R9.out.1, Zg HB.out R9.out.2⟩
def YD (B : Nat) (w : World) (v : Value) : Prop := ∃ (a : Option Addr) (n c : Nat) (xs : List Value), v = .slice a n c /\ n <= 2000 /\ w.ownsRow B 64 3 v n xs /\ ∀ u ∈ xs, u.oneCell' = true
theorem YD.args {B : Nat} {w : World} {v : Value} (h : YD B w v) {R : Nat -> Prop} (hR : ∀ k, v.ownBlock = some k -> R k) : YN w R v := by
 obtain ⟨a, n, c, xs, e, h1, h2, h3⟩ := h
 exact ⟨n, xs, h1, Yf h2, h3, hR⟩
theorem YD.low {B B' : Nat} {w : World} {v : Value} (h : YD B w v) (hB : B' <= B) : YD B' w v := by
 obtain ⟨a, n, c, xs, e, h1, h2, h3⟩ := h
 exact ⟨a, n, c, xs, e, h1, own_low h2 hB, h3⟩
theorem YD.at {B : Nat} {w : World} {v : Value} (h : YD B w v) {k : Nat} (hk : v.ownBlock = some k) : B <= k /\ k < w.heap.size := by
 obtain ⟨a, n, c, xs, e, h1, h2, h3⟩ := h
 exact ⟨(Zf h2 hk).1, (Zf h2 hk).2.1⟩
theorem YD.keep {B : Nat} {w w' : World} {v : Value} (h : YD B w v) (hk : ∀ k, B <= k -> k < w.heap.size -> v.ownBlock = some k -> w'.heap[k]? = w.heap[k]?) : YD B w' v := by
 obtain ⟨a, n, c, xs, e, h1, h2, h3⟩ := h
 exact ⟨a, n, c, xs, e, h1, Zj h2 fun k hk' => hk k (Zf h2 hk').1 (Zf h2 hk').2.1 hk', h3⟩
theorem YD.al {B : Nat} {w w' : World} {v : Value} (h : YD B w v) (hb : Below w.heap.size w w') : YD B w' v := h.keep fun k _ hk _ => hb.block k hk
theorem ret_wt {fn : Func} {Q : Ending -> World -> Prop} {a : Act} {w : World} {p : Tmp} (b : Nat) {k o a_ : Int} {v : V3} {va : Value} (hf : fn.results = #[.cell p 67]) (hp : a.tmps.getD p undef = P_ b) (hva : ∃ x y z, va = .slice x y z)
    (h : Wv w b k o a_ v va) (hdf : a.defers = []) (hR : Q (.returned (.agg #[I_ k, I_ o, I_ a_, I_ v.1, I_ v.2.1, .int .u64 v.2.2, va])) w) : bodyPost Tryz.prog fn Q .ret a w :=
  bodyPost_ret (by
    obtain ⟨x, y, z, rfl⟩ := hva
    have hp' : a.tmps[p]?.getD undef = P_ b := by simpa using hp
    obtain ⟨v0, v1, v2⟩ := v
    obtain ⟨q0, q1, q2, q3, q4, q5, q6⟩ := h.all
    simp [results, hf, hp', go_sem, q0, q1, q2, q3, q4, q5, q6]) hdf hR
theorem Wv.frz {w : World} {b : Nat} {k o a : Int} {v : V3} {va : Value} (h : Wv w b k o a v va) (i : Nat) : w.frozen? ⟨b, i, none⟩ = false := Zc h i
def set7 (w : World) (b o : Nat) (x0 x1 x2 x3 x4 x5 x6 : Value) : World := ((((((w.setCell ⟨b, o, none⟩ x0).setCell ⟨b, o + 1, none⟩ x1).setCell ⟨b, o + 2, none⟩ x2).setCell ⟨b, o + 3, none⟩ x3).setCell ⟨b, o + 4, none⟩ x4).setCell ⟨b, o + 5, none⟩ x5).setCell ⟨b, o + 6, none⟩ x6
theorem ZR {w : World} {b : Nat} {T : TypeId} {y0 y1 y2 y3 y4 y5 y6 : Value} (h : w.heap[b]? = some (.cells #[y0, y1, y2, y3, y4, y5, y6] T (0, 0))) (x0 x1 x2 x3 x4 x5 x6 : Value) : (set7 w b 0 x0 x1 x2 x3 x4 x5 x6).heap[b]? = some (.cells #[x0, x1, x2, x3, x4, x5, x6] T (0, 0)) := by
 have h0 : (w.setCell ⟨b, 0, none⟩ x0).heap[b]? = some (.cells #[x0, y1, y2, y3, y4, y5, y6] T (0, 0)) := heap_setCell_same _ _ _ _ _ _ h
 have h1 : ((w.setCell ⟨b, 0, none⟩ x0).setCell ⟨b, 1, none⟩ x1).heap[b]? = some (.cells #[x0, x1, y2, y3, y4, y5, y6] T (0, 0)) := heap_setCell_same _ _ _ _ _ _ h0
 have h2 : (((w.setCell ⟨b, 0, none⟩ x0).setCell ⟨b, 1, none⟩ x1).setCell ⟨b, 2, none⟩ x2).heap[b]? = some (.cells #[x0, x1, x2, y3, y4, y5, y6] T (0, 0)) := heap_setCell_same _ _ _ _ _ _ h1
 have h3 : ((((w.setCell ⟨b, 0, none⟩ x0).setCell ⟨b, 1, none⟩ x1).setCell ⟨b, 2, none⟩ x2).setCell ⟨b, 3, none⟩ x3).heap[b]? = some (.cells #[x0, x1, x2, x3, y4, y5, y6] T (0, 0)) := heap_setCell_same _ _ _ _ _ _ h2
 have h4 : (((((w.setCell ⟨b, 0, none⟩ x0).setCell ⟨b, 1, none⟩ x1).setCell ⟨b, 2, none⟩ x2).setCell ⟨b, 3, none⟩ x3).setCell ⟨b, 4, none⟩ x4).heap[b]? = some (.cells #[x0, x1, x2, x3, x4, y5, y6] T (0, 0)) := heap_setCell_same _ _ _ _ _ _ h3
 have h5 : ((((((w.setCell ⟨b, 0, none⟩ x0).setCell ⟨b, 1, none⟩ x1).setCell ⟨b, 2, none⟩ x2).setCell ⟨b, 3, none⟩ x3).setCell ⟨b, 4, none⟩ x4).setCell ⟨b, 5, none⟩ x5).heap[b]? = some (.cells #[x0, x1, x2, x3, x4, x5, y6] T (0, 0)) := heap_setCell_same _ _ _ _ _ _ h4
 have h6 : (((((((w.setCell ⟨b, 0, none⟩ x0).setCell ⟨b, 1, none⟩ x1).setCell ⟨b, 2, none⟩ x2).setCell ⟨b, 3, none⟩ x3).setCell ⟨b, 4, none⟩ x4).setCell ⟨b, 5, none⟩ x5).setCell ⟨b, 6, none⟩ x6).heap[b]? = some (.cells #[x0, x1, x2, x3, x4, x5, x6] T (0, 0)) := heap_setCell_same _ _ _ _ _ _ h5
 exact h6
theorem set7_at1 {w : World} {b : Nat} {T : TypeId} {y y0 y1 y2 y3 y4 y5 y6 : Value} (h : w.heap[b]? = some (.cells #[y, y0, y1, y2, y3, y4, y5, y6] T (0, 0))) (x0 x1 x2 x3 x4 x5 x6 : Value) : (set7 w b 1 x0 x1 x2 x3 x4 x5 x6).heap[b]? = some (.cells #[y, x0, x1, x2, x3, x4, x5, x6] T (0, 0)) := by
 have h0 : (w.setCell ⟨b, 1, none⟩ x0).heap[b]? = some (.cells #[y, x0, y1, y2, y3, y4, y5, y6] T (0, 0)) := heap_setCell_same _ _ _ _ _ _ h
 have h1 : ((w.setCell ⟨b, 1, none⟩ x0).setCell ⟨b, 2, none⟩ x1).heap[b]? = some (.cells #[y, x0, x1, y2, y3, y4, y5, y6] T (0, 0)) := heap_setCell_same _ _ _ _ _ _ h0
 have h2 : (((w.setCell ⟨b, 1, none⟩ x0).setCell ⟨b, 2, none⟩ x1).setCell ⟨b, 3, none⟩ x2).heap[b]? = some (.cells #[y, x0, x1, x2, y3, y4, y5, y6] T (0, 0)) := heap_setCell_same _ _ _ _ _ _ h1
 have h3 : ((((w.setCell ⟨b, 1, none⟩ x0).setCell ⟨b, 2, none⟩ x1).setCell ⟨b, 3, none⟩ x2).setCell ⟨b, 4, none⟩ x3).heap[b]? = some (.cells #[y, x0, x1, x2, x3, y4, y5, y6] T (0, 0)) := heap_setCell_same _ _ _ _ _ _ h2
 have h4 : (((((w.setCell ⟨b, 1, none⟩ x0).setCell ⟨b, 2, none⟩ x1).setCell ⟨b, 3, none⟩ x2).setCell ⟨b, 4, none⟩ x3).setCell ⟨b, 5, none⟩ x4).heap[b]? = some (.cells #[y, x0, x1, x2, x3, x4, y5, y6] T (0, 0)) := heap_setCell_same _ _ _ _ _ _ h3
 have h5 : ((((((w.setCell ⟨b, 1, none⟩ x0).setCell ⟨b, 2, none⟩ x1).setCell ⟨b, 3, none⟩ x2).setCell ⟨b, 4, none⟩ x3).setCell ⟨b, 5, none⟩ x4).setCell ⟨b, 6, none⟩ x5).heap[b]? = some (.cells #[y, x0, x1, x2, x3, x4, x5, y6] T (0, 0)) := heap_setCell_same _ _ _ _ _ _ h4
 have h6 : (((((((w.setCell ⟨b, 1, none⟩ x0).setCell ⟨b, 2, none⟩ x1).setCell ⟨b, 3, none⟩ x2).setCell ⟨b, 4, none⟩ x3).setCell ⟨b, 5, none⟩ x4).setCell ⟨b, 6, none⟩ x5).setCell ⟨b, 7, none⟩ x6).heap[b]? = some (.cells #[y, x0, x1, x2, x3, x4, x5, x6] T (0, 0)) := heap_setCell_same _ _ _ _ _ _ h5
 exact h6
theorem Zy {w : World} {b o k : Nat} {x0 x1 x2 x3 x4 x5 x6 : Value} (h : k ≠ b) : (set7 w b o x0 x1 x2 x3 x4 x5 x6).heap[k]? = w.heap[k]? :=
 (Below.heap_setCell _ _ _ _ h).trans ((Below.heap_setCell _ _ _ _ h).trans ((Below.heap_setCell _ _ _ _ h).trans ((Below.heap_setCell _ _ _ _ h).trans ((Below.heap_setCell _ _ _ _ h).trans ((Below.heap_setCell _ _ _ _ h).trans (Below.heap_setCell _ _ _ _ h))))))
theorem Ya {w : World} {b o : Nat} {x0 x1 x2 x3 x4 x5 x6 : Value} : (set7 w b o x0 x1 x2 x3 x4 x5 x6).heap.size = w.heap.size := by
 unfold set7
 simp only [Zi]
theorem ZM {w w2 : World} {N b o : Nat} {x0 x1 x2 x3 x4 x5 x6 : Value} (h : Below N w w2) (hb : N <= b) : Below N w (set7 w2 b o x0 x1 x2 x3 x4 x5 x6) :=
 ((((((h.setCell (p := ⟨b, o, none⟩) hb x0).setCell (p := ⟨b, o + 1, none⟩) hb x1).setCell (p := ⟨b, o + 2, none⟩) hb x2).setCell (p := ⟨b, o + 3, none⟩) hb x3).setCell (p := ⟨b, o + 4, none⟩) hb x4).setCell (p := ⟨b, o + 5, none⟩) hb x5).setCell (p := ⟨b, o + 6, none⟩) hb x6
def WclP (w : World) (k o a v0 v1 v2 : Int) (e : Ending) (w' : World) : Prop := ∃ va, e = .returned (.agg #[I_ k, I_ o, I_ a, I_ v0, I_ v1, .int .u64 v2, va]) /\ YD w.heap.size w' va /\ Below w.heap.size w w'
theorem wclone_any {w : World} {R : Nat -> Prop} (k o a v0 v1 v2 : Int) (va : Value) (hA : YN w R va) : Calls Tryz.prog 58 #[.agg #[I_ k, I_ o, I_ a, I_ v0, I_ v1, .int .u64 v2, va]] w (WclP w k o a v0 v1 v2) := by
 obtain ⟨n, xs, hn, hs, h1, hR⟩ := hA
 obtain ⟨aa, ca, e, _⟩ := Zl hs
 subst e
 have B0 := Za (Zu (Zd w (.cells #[I_ k, I_ o, I_ a, I_ v0, I_ v1, .int .u64 v2, .slice aa n ca] 67)) (.cells #[I_ 0, I_ 0, I_ 0, I_ 0, I_ 0, .int .u64 0, .slice none 0 0] 67))
 have V0 := Za ((Wv.new w k o a v0 v1 v2 (.slice aa n ca)).al (Zd _ (.cells #[I_ 0, I_ 0, I_ 0, I_ 0, I_ 0, .int .u64 0, .slice none 0 0] 67)))
 have V1 := Za (Wv.new (w.alloc (.cells #[I_ k, I_ o, I_ a, I_ v0, I_ v1, .int .u64 v2, .slice aa n ca] 67)) 0 0 0 0 0 0 (.slice none 0 0))
 have hsz : (w.alloc (.cells #[I_ k, I_ o, I_ a, I_ v0, I_ v1, .int .u64 v2, .slice aa n ca] 67)).heap.size = w.heap.size + 1 := by simp
 rw [hsz] at V1
 have CL := Za (cloneV2 (Zj hs (fun k hk => B0.out.block k (Zf hs hk).2.1)) hn h1)
 have H1 := Za h1
 clear hs h1 hR hsz
 go_enter Tryz.func58, Tryz.ntmps58
 go_wp2_with fail
 generalize (w.alloc _).alloc _ = w1 at *
 refine CL.out.mono ?_
 rintro e w2 ⟨a2, c2, rfl, o2, hb⟩
 have X1 := V0.out.al hb
 have X2 := V1.out.al hb
 obtain ⟨q0, q1, q2, q3, q4, q5, q6⟩ := X1.all
 obtain ⟨r0, r1, r2, r3, r4, r5, r6⟩ := X2.all
 have f6 := X1.frz 6
 have g0 := X2.frz 0
 have g1 := X2.frz 1
 have g2 := X2.frz 2
 have g3 := X2.frz 3
 have g4 := X2.frz 4
 have g5 := X2.frz 5
 have g6 := X2.frz 6
 have HX2 := Za X2
 have V1' := Za V1.out
 have B2 := Za (Zg B0.out hb)
 have O2 := Za (And.intro o2 B0.out.size)
 clear V0 V1 CL hb X1 X2 o2
 go_wp2_with fail
 have Y := ZR ((Below.heap_setCell w2 ⟨w.heap.size, 6, none⟩ (.slice a2 n c2) (w.heap.size + 1) (by simp)).trans HX2.out) (I_ k) (I_ o) (I_ a) (I_ v0) (I_ v1) (.int .u64 v2) (.slice a2 n c2)
 refine ret_wt (w.heap.size + 1) (v := (v0, v1, v2)) rfl rfl ⟨_, _, _, rfl⟩ Y rfl ⟨_, rfl, ⟨_, _, _, xs, rfl, hn, ?_, ?_⟩, ?_⟩
 · have hne : ∀ b, b = w.heap.size ∨ b = w.heap.size + 1 -> (Value.slice a2 n c2).ownBlock ≠ some b := fun b hb e => by
    have h1 := (Zf O2.out.1 e).1
    have h2 := Ze HX2.out
    have h3 := Ze V1'.out
    omega
   exact Zj (own_low O2.out.1 O2.out.2) fun k hk => (Zy (o := 0) (fun e => hne k (.inr e) hk)).trans (Below.heap_setCell _ _ _ _ (fun e => hne k (.inl e) hk))
 · exact H1.out
 · exact ZM (o := 0) (B2.out.setCell (p := ⟨w.heap.size, 6, none⟩) (Nat.le_refl _) _) (Nat.le_succ _)
theorem Zm {w : World} {b g : Nat} {c c' : Array Value} {T T' : TypeId} (h : w.heap[b]? = some (.cells c T (0, 0))) (h' : w.heap[g]? = some (.cells c' T' (0, 0))) (hT : T ≠ T') : b ≠ g := fun e => by
 subst e
 rw [h] at h'
 have := Option.some.inj h'
 injection this with _ h2 _
 exact hT h2
theorem Ch.wide {F F' G G' : Nat -> Prop} {w w' : World} (c : Ch F F' w w') (h1 : ∀ k, F k -> G k) (h2 : ∀ k, G' k -> G k ∨ w.heap.size <= k) : Ch G G' w w' :=
 ⟨c.os, c.tape, c.output, c.size, fun k hk hG => c.blk k hk (fun hF => hG (h1 k hF)), h2⟩
theorem nodup_ne {l : List Nat} (h : l.Nodup) {i j a b : Nat} (hi : l[i]? = some a) (hj : l[j]? = some b) (hij : i ≠ j) : a ≠ b := fun e => by
 subst e
 obtain ⟨h1, e1⟩ := List.getElem?_eq_some_iff.1 hi
 obtain ⟨h2, e2⟩ := List.getElem?_eq_some_iff.1 hj
 have hp := List.pairwise_iff_getElem.1 h
 rcases Nat.lt_or_gt_of_ne hij with h3 | h3
 · exact hp i j h1 h2 h3 (e1.trans e2.symm)
 · exact hp j i h2 h1 h3 (e2.trans e1.symm)
section
variable {w w' : World} {G G' Fs Fs' Fo Fo' R R' F F' : Nat → Prop} {g gs : Nat} {S : List (List Wt)} {r : Rm} {vC vB vG vE : Value} {ps ts : List Nat}
theorem Ru.rn (h : Ru w Fs Fo R g gs S r vC vB vG vE ps ts) : Rn w (fun k => Fs k ∨ Fo k ∨ R k) g S r := ⟨Fs, Fo, R, gs, vC, vB, vG, vE, ps, ts, h, fun _ => Iff.rfl⟩
theorem Ru.part (h : Ru w Fs Fo R g gs S r vC vB vG vE ps ts) {c : Nat} (hc : Fo c) (ho : ∀ k, k ≠ c -> k < w.heap.size -> w'.heap[k]? = w.heap[k]?) (hs : w.heap.size <= w'.heap.size) :
 (Stt w' Fs gs r.s /\ Beg w' R vB S) /\ (∀ k, R k -> w'.heap[k]? = w.heap[k]?) /\ ∀ {T : TypeId} {n : Nat} {v : Value} {len : Nat} {xs : List Value}, w.ownsRow 0 T n v len xs -> v.ownBlock ≠ some c -> w'.ownsRow 0 T n v len xs := by
 have hR : ∀ k, R k -> w'.heap[k]? = w.heap[k]? := fun k hk => ho k (fun e => h.ro k hk (by rw [e]; exact hc)) (h.rb k hk)
 refine ⟨⟨h.st.keep (fun k hk => ho k (fun e => h.so k hk (by rw [e]; exact hc)) (h.st.fb k hk)) hs, h.bg.keep hR fun _ h => h⟩, hR, fun hr hne => Zj hr fun k hk => ho k (fun e => hne (by rw [hk, e])) (Zf hr hk).2.1⟩
theorem Ru.state (h : Ru w Fs Fo R g gs S r vC vB vG vE ps ts) {s' : St} (hs : Stt w' Fs' gs s') (hc : Ch Fs Fs' w w') (hC : s'.C.map Qu.t = r.s.C.map Qu.t) : Ru w' Fs' Fo R g gs S { r with s := s' } vC vB vG vE ps ts := by
 have hl : s'.C.length = r.s.C.length := by
  have := congrArg List.length hC
  simpa using this
 have ho : ∀ k, Fo k -> w'.heap[k]? = w.heap[k]? := fun k hk => hc.blk k (h.fb k hk) (fun e => h.so k e hk)
 have hR : ∀ k, R k -> w'.heap[k]? = w.heap[k]? := fun k hk => hc.blk k (h.rb k hk) (fun e => h.rs k hk e)
 exact { h with
  at_ := (ho g h.fg).trans h.at_
  st := hs
  ch := by
   show w'.ownsRow 0 3 1 vC s'.C.length (nts (s'.C.map Qu.t))
   rw [hC, hl]
   exact Zj h.ch fun k hk => ho k (h.fC k hk)
  bg := h.bg.keep hR fun _ h => h
  go := Zj h.go fun k hk => ho k (h.fG k hk)
  ev := Zj h.ev fun k hk => ho k (h.fE k hk)
  gr := fun i x b t hx hp ht => by
   obtain ⟨h1, h2, h3⟩ := h.gr i x b t hx hp ht
   exact ⟨h1.keep (ho b h2) (ho t h3) hR (fun _ h => h), h2, h3⟩
  so := fun k hk hF => by
   rcases hc.grow k hk with h1 | h1
   · exact h.so k h1 hF
   · have := h.fb k hF
     omega
  rs := fun k hk hF => by
   rcases hc.grow k hF with h1 | h1
   · exact h.rs k hk h1
   · have := h.rb k hk
     omega
  fb := fun k hk => Nat.lt_of_lt_of_le (h.fb k hk) hc.size
  rb := fun k hk => Nat.lt_of_lt_of_le (h.rb k hk) hc.size }
def setEnd (w : World) (g : Nat) (e0 e1 e2 e3 e4 : Int) : World := ((((w.setCell ⟨g, 5, none⟩ (I_ e0)).setCell ⟨g, 6, none⟩ (I_ e1)).setCell ⟨g, 7, none⟩ (I_ e2)).setCell ⟨g, 8, none⟩ (I_ e3)).setCell ⟨g, 9, none⟩ (I_ e4)
theorem setEnd_ne {k : Nat} {e0 e1 e2 e3 e4 : Int} (h : k ≠ g) : (setEnd w g e0 e1 e2 e3 e4).heap[k]? = w.heap[k]? :=
 (Below.heap_setCell _ _ _ _ h).trans ((Below.heap_setCell _ _ _ _ h).trans ((Below.heap_setCell _ _ _ _ h).trans ((Below.heap_setCell _ _ _ _ h).trans (Below.heap_setCell _ _ _ _ h))))
theorem setEnd_size {e0 e1 e2 e3 e4 : Int} : (setEnd w g e0 e1 e2 e3 e4).heap.size = w.heap.size := by
 unfold setEnd
 simp only [Zi]
theorem ch_setEnd (hg : Fo g) {e0 e1 e2 e3 e4 : Int} : Ch Fo Fo w (setEnd w g e0 e1 e2 e3 e4) := (ZJ hg _).trans ((ZJ hg _).trans ((ZJ hg _).trans ((ZJ hg _).trans (ZJ hg _))))
theorem set10 {y0 y1 y2 y3 y4 y5 y6 y7 y8 y9 : Value} {T : TypeId} (h : w.heap[g]? = some (.cells #[y0, y1, y2, y3, y4, y5, y6, y7, y8, y9] T (0, 0))) (e0 e1 e2 e3 e4 : Int) :
 (setEnd w g e0 e1 e2 e3 e4).heap[g]? = some (.cells #[y0, y1, y2, y3, y4, I_ e0, I_ e1, I_ e2, I_ e3, I_ e4] T (0, 0)) := by
 have h0 : (w.setCell ⟨g, 5, none⟩ (I_ e0)).heap[g]? = some (.cells #[y0, y1, y2, y3, y4, I_ e0, y6, y7, y8, y9] T (0, 0)) := heap_setCell_same _ _ _ _ _ _ h
 have h1 : ((w.setCell ⟨g, 5, none⟩ (I_ e0)).setCell ⟨g, 6, none⟩ (I_ e1)).heap[g]? = some (.cells #[y0, y1, y2, y3, y4, I_ e0, I_ e1, y7, y8, y9] T (0, 0)) := heap_setCell_same _ _ _ _ _ _ h0
 have h2 : (((w.setCell ⟨g, 5, none⟩ (I_ e0)).setCell ⟨g, 6, none⟩ (I_ e1)).setCell ⟨g, 7, none⟩ (I_ e2)).heap[g]? = some (.cells #[y0, y1, y2, y3, y4, I_ e0, I_ e1, I_ e2, y8, y9] T (0, 0)) := heap_setCell_same _ _ _ _ _ _ h1
 have h3 : ((((w.setCell ⟨g, 5, none⟩ (I_ e0)).setCell ⟨g, 6, none⟩ (I_ e1)).setCell ⟨g, 7, none⟩ (I_ e2)).setCell ⟨g, 8, none⟩ (I_ e3)).heap[g]? = some (.cells #[y0, y1, y2, y3, y4, I_ e0, I_ e1, I_ e2, I_ e3, y9] T (0, 0)) := heap_setCell_same _ _ _ _ _ _ h2
 exact heap_setCell_same _ _ _ _ _ _ h3
theorem Ru.setE (h : Ru w Fs Fo R g gs S r vC vB vG vE ps ts) (e0 e1 e2 e3 e4 : Int) : Ru (setEnd w g e0 e1 e2 e3 e4) Fs Fo R g gs S { r with e := ⟨e0, e1, e2, e3, e4⟩ } vC vB vG vE ps ts := by
 obtain ⟨⟨h1, h2⟩, hR, ho⟩ := h.part (w' := setEnd w g e0 e1 e2 e3 e4) h.fg (fun k hk _ => setEnd_ne hk) (Nat.le_of_eq setEnd_size.symm)
 exact { h with
  at_ := set10 h.at_ e0 e1 e2 e3 e4
  st := h1
  ch := ho h.ch (Zv h.ch h.at_ (by decide))
  bg := h2
  go := ho h.go (Zv h.go h.at_ (by decide))
  ev := ho h.ev (Zv h.ev h.at_ (by decide))
  gr := fun i x b t hx hp ht => by
   obtain ⟨q1, q2, q3⟩ := h.gr i x b t hx hp ht
   obtain ⟨va, vw, z1, z2, z3, z4⟩ := id q1
   exact ⟨q1.keep (setEnd_ne (Zm z1 h.at_ (by decide))) (setEnd_ne (Zm z3 h.at_ (by decide))) hR (fun _ h => h), q2, q3⟩
  fb := fun k hk => by rw [setEnd_size]; exact h.fb k hk
  rb := fun k hk => by rw [setEnd_size]; exact h.rb k hk }
theorem Ru.noted (h : Ru w Fs Fo R g gs S r vC vB vG vE ps ts) {w2 : World} {v' : Value} (e : Evt) (ho : w2.ownsRow 0 132 4 v' (r.ev ++ [e]).length (ecs (r.ev ++ [e]))) (hg : w.grownBy w2 vE.ownBlock) (hb : ∀ k, v'.ownBlock = some k -> vE.ownBlock = some k ∨ w.heap.size <= k) :
    Ru (w2.setCell ⟨g, 4, none⟩ v') Fs (fun k => Fo k ∨ v'.ownBlock = some k) R g gs S { r with ev := r.ev ++ [e] } vC vB vG v' ps ts /\ Ch Fo (fun k => Fo k ∨ v'.ownBlock = some k) w (w2.setCell ⟨g, 4, none⟩ v') := by
  have hsz : (w2.setCell ⟨g, 4, none⟩ v').heap.size = w2.heap.size := Zi _ _ _
  have hne : ∀ {k : Nat}, k < w.heap.size -> vE.ownBlock ≠ some k -> k ≠ g -> (w2.setCell ⟨g, 4, none⟩ v').heap[k]? = w.heap[k]? := fun {k} hk h1 h2 => (Below.heap_setCell _ _ _ _ h2).trans (hg.block k hk (fun e => h1 e.symm))
  have gne : vE.ownBlock ≠ some g := Zv h.ev h.at_ (by decide)
  have hown : ∀ {T : TypeId} {n : Nat} {v : Value} {len : Nat} {xs : List Value}, w.ownsRow 0 T n v len xs -> T ≠ 132 -> T ≠ 117 -> (w2.setCell ⟨g, 4, none⟩ v').ownsRow 0 T n v len xs := fun {T n v len xs} hr h1 h2 => Zj hr fun k hk => hne (Zf hr hk).2.1 (fun e => Zo hr h.ev h1 k hk e) (fun e => Zv hr h.at_ h2 (by rw [hk, e]))
  have hR : ∀ k, R k -> (w2.setCell ⟨g, 4, none⟩ v').heap[k]? = w.heap[k]? := fun k hk => hne (h.rb k hk) (fun e => h.ro k hk (h.fE k e)) (fun e => h.ro k hk (by rw [e]; exact h.fg))
  have hS : ∀ k, Fs k -> (w2.setCell ⟨g, 4, none⟩ v').heap[k]? = w.heap[k]? := fun k hk => hne (h.st.fb k hk) (fun e => h.so k hk (h.fE k e)) (fun e => h.so k hk (by rw [e]; exact h.fg))
  have hle : w.heap.size <= (w2.setCell ⟨g, 4, none⟩ v').heap.size := by rw [hsz]; exact hg.size
  have hnew : ∀ k, v'.ownBlock = some k -> Fo k ∨ w.heap.size <= k := fun k hk => (hb k hk).imp (h.fE k) id
  refine ⟨{ h with
    at_ := heap_setCell_same _ _ _ _ _ _ ((hg.block g (Ze h.at_) (fun e => gne e.symm)).trans h.at_)
    st := h.st.keep hS hle
    ch := hown h.ch (by decide) (by decide)
    bg := h.bg.keep hR fun _ h => h
    go := hown h.go (by decide) (by decide)
    ev := Zj ho fun k hk => Below.heap_setCell _ _ _ _ (fun e => by
      subst e
      rcases hb k hk with h1 | h1
      · exact gne h1
      · have := h.fb k h.fg
        omega)
    gr := fun i x b t hx hp ht => by
      obtain ⟨q1, q2, q3⟩ := h.gr i x b t hx hp ht
      obtain ⟨va, vw, z1, z2, z3, z4⟩ := id q1
      exact ⟨q1.keep (hne (h.fb b q2) (Zv h.ev z1 (by decide)) (Zm z1 h.at_ (by decide))) (hne (h.fb t q3) (Zv h.ev z3 (by decide)) (Zm z3 h.at_ (by decide))) hR (fun _ h => h), .inl q2, .inl q3⟩
    fg := .inl h.fg
    fC := fun k hk => .inl (h.fC k hk)
    fG := fun k hk => .inl (h.fG k hk)
    fE := fun k hk => .inr hk
    so := fun k hk hF => by
      rcases hF with h1 | h1
      · exact h.so k hk h1
      · rcases hnew k h1 with h2 | h2
        · exact h.so k hk h2
        · have := h.st.fb k hk
          omega
    ro := fun k hk hF => by
      rcases hF with h1 | h1
      · exact h.ro k hk h1
      · rcases hnew k h1 with h2 | h2
        · exact h.ro k hk h2
        · have := h.rb k hk
          omega
    fb := fun k hk => by
      rw [hsz]
      rcases hk with h1 | h1
      · exact Nat.lt_of_lt_of_le (h.fb k h1) hg.size
      · exact (Zf ho h1).2.1
    rb := fun k hk => Nat.lt_of_lt_of_le (h.rb k hk) hle }, ⟨hg.os, hg.tape, hg.output, hle, fun k hk hF => hne hk (fun e => hF (h.fE k e)) (fun e => hF (by rw [e]; exact h.fg)), fun k hk => ?_⟩⟩
  rcases hk with h1 | h1
  · exact .inl h1
  · exact hnew k h1
theorem Ru.moveT (h : Ru w Fs Fo R g gs S r vC vB vG vE ps ts) {i t : Nat} {x : Gr} (hx : r.gs[i]? = some x) (ht : ts[i]? = some t) (vw : Value) (rest : List Wt) (hW : WRow w R vw rest) :
 Ru (w.setCell ⟨t, 0, none⟩ vw) Fs Fo R g gs S { r with gs := r.gs.set i ⟨rest, x.w⟩ } vC vB vG vE ps ts /\ Ch Fo Fo w (w.setCell ⟨t, 0, none⟩ vw) := by
 have hi := (G_ hx)
 obtain ⟨b, hb⟩ : ∃ b, ps[i]? = some b := ⟨_, List.getElem?_eq_getElem (by rw [h.pl]; exact hi)⟩
 obtain ⟨q1, q2, q3⟩ := h.gr i x b t hx hb ht
 obtain ⟨va, vw0, z1, z2, z3, z4⟩ := id q1
 have hne : ∀ {k : Nat}, k ≠ t -> (w.setCell ⟨t, 0, none⟩ vw).heap[k]? = w.heap[k]? := fun hk => Below.heap_setCell _ _ _ _ hk
 have hsz : (w.setCell ⟨t, 0, none⟩ vw).heap.size = w.heap.size := Zi _ _ _
 obtain ⟨⟨h1, h2⟩, hR, ho⟩ := h.part (w' := w.setCell ⟨t, 0, none⟩ vw) q3 (fun k hk _ => hne hk) (Nat.le_of_eq hsz.symm)
 refine ⟨{ h with
  at_ := (hne (Zm h.at_ z3 (by decide))).trans h.at_
  st := h1
  ch := ho h.ch (Zv h.ch z3 (by decide))
  bg := h2
  go := by
   show (w.setCell ⟨t, 0, none⟩ vw).ownsRow 0 134 1 vG (r.gs.set i ⟨rest, x.w⟩).length (pts ps)
   rw [List.length_set]
   exact ho h.go (Zv h.go z3 (by decide))
  ev := ho h.ev (Zv h.ev z3 (by decide))
  tl := by simpa using h.tl
  gr := fun j y b' t' hy hp ht' => by
   by_cases e : i = j
   · subst e
     have hy' : some (⟨rest, x.w⟩ : Gr) = some y := by
      rw [← hy]
      exact (List.getElem?_set_self hi).symm
     cases hy'
     rw [hb] at hp
     rw [ht] at ht'
     cases hp
     cases ht'
     exact ⟨⟨va, vw, (hne (Zm z1 z3 (by decide))).trans z1, z2.keep hR fun _ h => h, heap_setCell_same _ _ _ _ _ _ z3, hW.keep hR fun _ h => h⟩, q2, q3⟩
   · have hy' : r.gs[j]? = some y := by
      rw [← hy]
      exact (List.getElem?_set_ne e).symm
     obtain ⟨p1, p2, p3⟩ := h.gr j y b' t' hy' hp ht'
     obtain ⟨va', vw', y1, y2, y3, y4⟩ := id p1
     exact ⟨p1.keep (hne (Zm y1 z3 (by decide))) (hne (nodup_ne h.nt ht' ht (fun e' => e e'.symm))) hR (fun _ h => h), p2, p3⟩
  fb := fun k hk => by rw [hsz]; exact h.fb k hk
  rb := fun k hk => by rw [hsz]; exact h.rb k hk
  n8 := by simpa using h.n8 }, ZJ q3 _⟩
theorem Ru.setW (h : Ru w Fs Fo R g gs S r vC vB vG vE ps ts) {i b : Nat} {x : Gr} (hx : r.gs[i]? = some x) (hb : ps[i]? = some b) (k o a v0 v1 v2 : Int) (va : Value) (hA : YN w R va) :
 Ru (set7 w b 1 (I_ k) (I_ o) (I_ a) (I_ v0) (I_ v1) (.int .u64 v2) va) Fs Fo R g gs S { r with gs := r.gs.set i ⟨x.rest, ⟨k, o, a, (v0, v1, v2)⟩⟩ } vC vB vG vE ps ts /\ Ch Fo Fo w (set7 w b 1 (I_ k) (I_ o) (I_ a) (I_ v0) (I_ v1) (.int .u64 v2) va) := by
 have hi := (G_ hx)
 obtain ⟨t, ht⟩ : ∃ t, ts[i]? = some t := ⟨_, List.getElem?_eq_getElem (by rw [h.tl]; exact hi)⟩
 obtain ⟨q1, q2, q3⟩ := h.gr i x b t hx hb ht
 obtain ⟨va0, vw0, z1, z2, z3, z4⟩ := id q1
 have hat := set7_at1 z1 (I_ k) (I_ o) (I_ a) (I_ v0) (I_ v1) (.int .u64 v2) va
 have hne : ∀ {j : Nat}, j ≠ b -> (set7 w b 1 (I_ k) (I_ o) (I_ a) (I_ v0) (I_ v1) (.int .u64 v2) va).heap[j]? = w.heap[j]? := fun hk => Zy hk
 have hsz : (set7 w b 1 (I_ k) (I_ o) (I_ a) (I_ v0) (I_ v1) (.int .u64 v2) va).heap.size = w.heap.size := Ya
 have hch : Ch Fo Fo w (set7 w b 1 (I_ k) (I_ o) (I_ a) (I_ v0) (I_ v1) (.int .u64 v2) va) := (ZJ q2 _).trans ((ZJ q2 _).trans ((ZJ q2 _).trans ((ZJ q2 _).trans ((ZJ q2 _).trans ((ZJ q2 _).trans (ZJ q2 _))))))
 generalize set7 w b 1 (I_ k) (I_ o) (I_ a) (I_ v0) (I_ v1) (.int .u64 v2) va = W at *
 obtain ⟨⟨h1, h2⟩, hR, ho⟩ := h.part (w' := W) q2 (fun k hk _ => hne hk) (Nat.le_of_eq hsz.symm)
 refine ⟨{ h with
  at_ := (hne (Zm h.at_ z1 (by decide))).trans h.at_
  st := h1
  ch := ho h.ch (Zv h.ch z1 (by decide))
  bg := h2
  go := by
   show W.ownsRow 0 134 1 vG (r.gs.set i ⟨x.rest, ⟨k, o, a, (v0, v1, v2)⟩⟩).length (pts ps)
   rw [List.length_set]
   exact ho h.go (Zv h.go z1 (by decide))
  ev := ho h.ev (Zv h.ev z1 (by decide))
  tl := by simpa using h.tl
  gr := fun j y b' t' hy hp ht' => by
   by_cases e : i = j
   · subst e
     have hy' : some (⟨x.rest, ⟨k, o, a, (v0, v1, v2)⟩⟩ : Gr) = some y := by
      rw [← hy]
      exact (List.getElem?_set_self hi).symm
     cases hy'
     rw [hb] at hp
     rw [ht] at ht'
     cases hp
     cases ht'
     exact ⟨⟨va, vw0, hat, hA.keep hR fun _ h => h, (hne (Zm z3 z1 (by decide))).trans z3, z4.keep hR fun _ h => h⟩, q2, q3⟩
   · have hy' : r.gs[j]? = some y := by
      rw [← hy]
      exact (List.getElem?_set_ne e).symm
     obtain ⟨p1, p2, p3⟩ := h.gr j y b' t' hy' hp ht'
     obtain ⟨va', vw', y1, y2, y3, y4⟩ := id p1
     exact ⟨p1.keep (hne (nodup_ne h.np hp hb (fun e' => e e'.symm))) (hne (Zm y3 z1 (by decide))) hR (fun _ h => h), p2, p3⟩
  fb := fun k hk => by rw [hsz]; exact h.fb k hk
  rb := fun k hk => by rw [hsz]; exact h.rb k hk
  n8 := by simpa using h.n8 }, hch⟩
theorem Ru.fresh (h : Ru w Fs Fo R g gs S r vC vB vG vE ps ts) (hb : Below w.heap.size w w') (P : Nat -> Prop) (hP : ∀ k, P k -> w.heap.size <= k /\ k < w'.heap.size) : Ru w' Fs Fo (fun k => R k ∨ P k) g gs S r vC vB vG vE ps ts := by
 have h' := h.bel hb
 exact { h' with
  bg := h'.bg.keep (fun _ _ => rfl) fun _ h => .inl h
  gr := fun i x b t hx hp ht => by
   obtain ⟨q1, q2, q3⟩ := h'.gr i x b t hx hp ht
   exact ⟨q1.keep rfl rfl (fun _ _ => rfl) fun _ h => .inl h, q2, q3⟩
  rs := fun k hk hF => by
   rcases hk with h1 | h1
   · exact h.rs k h1 hF
   · have := h.st.fb k hF
     have := hP k h1
     omega
  ro := fun k hk hF => by
   rcases hk with h1 | h1
   · exact h.ro k h1 hF
   · have := h.fb k hF
     have := hP k h1
     omega
  rb := fun k hk => by
   rcases hk with h1 | h1
   · exact h'.rb k h1
   · exact (hP k h1).2 }
theorem Ru.born (h : Ru w Fs Fo R g gs S r vC vB vG vE ps ts) {W w2 : World} {v' : Value} {b t : Nat} {x : Gr} (hbW : Below w.heap.size w W) (h8 : r.gs.length + 1 <= 8) (hG : Gor W R b t x) (hbn : w.heap.size <= b) (htn : w.heap.size <= t)
    (ho : w2.ownsRow 0 134 1 v' (r.gs.length + 1) (pts (ps ++ [b]))) (hg : W.grownBy w2 vG.ownBlock) (hb : ∀ k, v'.ownBlock = some k -> vG.ownBlock = some k ∨ W.heap.size <= k) :
    Ru (w2.setCell ⟨g, 3, none⟩ v') Fs (fun k => Fo k ∨ k = b ∨ k = t ∨ v'.ownBlock = some k) R g gs S { r with gs := r.gs ++ [x] } vC vB v' vE (ps ++ [b]) (ts ++ [t]) /\ Ch Fo (fun k => Fo k ∨ k = b ∨ k = t ∨ v'.ownBlock = some k) w (w2.setCell ⟨g, 3, none⟩ v') := by
  have hsz : (w2.setCell ⟨g, 3, none⟩ v').heap.size = w2.heap.size := Zi _ _ _
  obtain ⟨va, vw, z1, z2, z3, z4⟩ := id hG
  have hW := h.bel hbW
  have gne : vG.ownBlock ≠ some g := Zv h.go h.at_ (by decide)
  have hneW : ∀ {k : Nat}, k < W.heap.size -> vG.ownBlock ≠ some k -> k ≠ g -> (w2.setCell ⟨g, 3, none⟩ v').heap[k]? = W.heap[k]? := fun {k} hk h1 h2 => (Below.heap_setCell _ _ _ _ h2).trans (hg.block k hk (fun e => h1 e.symm))
  have hne : ∀ {k : Nat}, k < w.heap.size -> vG.ownBlock ≠ some k -> k ≠ g -> (w2.setCell ⟨g, 3, none⟩ v').heap[k]? = w.heap[k]? := fun {k} hk h1 h2 => (hneW (Nat.lt_of_lt_of_le hk hbW.size) h1 h2).trans (hbW.block k hk)
  have hown : ∀ {T : TypeId} {n : Nat} {v : Value} {len : Nat} {xs : List Value}, w.ownsRow 0 T n v len xs -> T ≠ 134 -> T ≠ 117 -> (w2.setCell ⟨g, 3, none⟩ v').ownsRow 0 T n v len xs := fun {T n v len xs} hr h1 h2 => Zj hr fun k hk => hne (Zf hr hk).2.1 (fun e => Zo hr h.go h1 k hk e) (fun e => Zv hr h.at_ h2 (by rw [hk, e]))
  have hR : ∀ k, R k -> (w2.setCell ⟨g, 3, none⟩ v').heap[k]? = w.heap[k]? := fun k hk => hne (h.rb k hk) (fun e => h.ro k hk (h.fG k e)) (fun e => h.ro k hk (by rw [e]; exact h.fg))
  have hRW : ∀ k, R k -> (w2.setCell ⟨g, 3, none⟩ v').heap[k]? = W.heap[k]? := fun k hk => hneW (hW.rb k hk) (fun e => h.ro k hk (h.fG k e)) (fun e => h.ro k hk (by rw [e]; exact h.fg))
  have hS : ∀ k, Fs k -> (w2.setCell ⟨g, 3, none⟩ v').heap[k]? = w.heap[k]? := fun k hk => hne (h.st.fb k hk) (fun e => h.so k hk (h.fG k e)) (fun e => h.so k hk (by rw [e]; exact h.fg))
  have hle : w.heap.size <= (w2.setCell ⟨g, 3, none⟩ v').heap.size := by rw [hsz]; exact Nat.le_trans hbW.size hg.size
  have hbW' : b < W.heap.size := Ze z1
  have htW' : t < W.heap.size := Ze z3
  have hgl := h.fb g h.fg
  have hnew : ∀ k, (k = b ∨ k = t ∨ v'.ownBlock = some k) -> Fo k ∨ w.heap.size <= k := fun k hk => by
    rcases hk with h1 | h1 | h1
    · exact .inr (by omega)
    · exact .inr (by omega)
    · exact (hb k h1).imp (h.fG k) (fun h2 => Nat.le_trans hbW.size h2)
  have hold : ∀ {l : List Nat} {c : Nat}, (∀ k ∈ l, k < w.heap.size) -> l.Nodup -> w.heap.size <= c -> (l ++ [c]).Nodup := fun {l c} h1 h2 h3 => by
    rw [List.nodup_append]
    refine ⟨h2, by simp, fun a ha b hb => ?_⟩
    simp at hb
    subst hb
    have := h1 a ha
    omega
  have hgor : ∀ (l : List Nat), (l = ps ∨ l = ts) -> ∀ k ∈ l, k < w.heap.size := fun l hl k hk => by
    obtain ⟨j, hj, rfl⟩ := List.mem_iff_getElem.1 hk
    have hj' : j < r.gs.length := by
      rcases hl with rfl | rfl
      · rw [← h.pl]; exact hj
      · rw [← h.tl]; exact hj
    have q := h.gr j _ _ _ (List.getElem?_eq_getElem hj') (List.getElem?_eq_getElem (by rw [h.pl]; exact hj')) (List.getElem?_eq_getElem (by rw [h.tl]; exact hj'))
    rcases hl with rfl | rfl
    · exact h.fb _ q.2.1
    · exact h.fb _ q.2.2
  refine ⟨{ h with
    at_ := heap_setCell_same _ _ _ _ _ _ ((hg.block g (Ze hW.at_) (fun e => gne e.symm)).trans hW.at_)
    st := h.st.keep hS hle
    ch := hown h.ch (by decide) (by decide)
    bg := h.bg.keep hR fun _ h => h
    go := by
      show (w2.setCell ⟨g, 3, none⟩ v').ownsRow 0 134 1 v' (r.gs ++ [x]).length (pts (ps ++ [b]))
      rw [List.length_append, List.length_singleton]
      exact Zj ho fun k hk => Below.heap_setCell _ _ _ _ (fun e => by
        subst e
        rcases hb k hk with h1 | h1
        · exact gne h1
        · have := hbW.size
          have : k < w.heap.size := hgl
          omega)
    ev := hown h.ev (by decide) (by decide)
    tl := by simpa using h.tl
    gr := fun j y b' t' hy hp ht' => by
      by_cases e : j < r.gs.length
      · have hy' : r.gs[j]? = some y := by rw [← hy]; exact (List.getElem?_append_left e).symm
        have hp' : ps[j]? = some b' := by rw [← hp]; exact (List.getElem?_append_left (by rw [h.pl]; exact e)).symm
        have ht'' : ts[j]? = some t' := by rw [← ht']; exact (List.getElem?_append_left (by rw [h.tl]; exact e)).symm
        obtain ⟨p1, p2, p3⟩ := h.gr j y b' t' hy' hp' ht''
        obtain ⟨va', vw', y1, y2, y3, y4⟩ := id p1
        exact ⟨p1.keep (hne (h.fb b' p2) (Zv h.go y1 (by decide)) (Zm y1 h.at_ (by decide))) (hne (h.fb t' p3) (Zv h.go y3 (by decide)) (Zm y3 h.at_ (by decide))) hR (fun _ h => h), .inl p2, .inl p3⟩
      · have hj : j = r.gs.length := by
          have := (G_ hy)
          simp at this
          omega
        subst hj
        have hy' : some x = some y := by rw [← hy]; simp
        have hp' : some b = some b' := by rw [← hp, ← h.pl]; simp
        have ht'' : some t = some t' := by rw [← ht', ← h.tl]; simp
        cases hy'
        cases hp'
        cases ht''
        exact ⟨hG.keep (hneW hbW' (Zv hW.go z1 (by decide)) (by omega)) (hneW htW' (Zv hW.go z3 (by decide)) (by omega)) hRW (fun _ h => h), .inr (.inl rfl), .inr (.inr (.inl rfl))⟩
    np := hold (hgor ps (.inl rfl)) h.np hbn
    nt := hold (hgor ts (.inr rfl)) h.nt htn
    fg := .inl h.fg
    fC := fun k hk => .inl (h.fC k hk)
    fG := fun k hk => .inr (.inr (.inr hk))
    fE := fun k hk => .inl (h.fE k hk)
    so := fun k hk hF => by
      rcases hF with h1 | h1
      · exact h.so k hk h1
      · rcases hnew k h1 with h2 | h2
        · exact h.so k hk h2
        · have := h.st.fb k hk
          omega
    ro := fun k hk hF => by
      rcases hF with h1 | h1
      · exact h.ro k hk h1
      · rcases hnew k h1 with h2 | h2
        · exact h.ro k hk h2
        · have := h.rb k hk
          omega
    fb := fun k hk => by
      rw [hsz]
      rcases hk with h1 | h1 | h1 | h1
      · exact Nat.lt_of_lt_of_le (Nat.lt_of_lt_of_le (h.fb k h1) hbW.size) hg.size
      · rw [h1]; exact Nat.lt_of_lt_of_le hbW' hg.size
      · rw [h1]; exact Nat.lt_of_lt_of_le htW' hg.size
      · exact (Zf ho h1).2.1
    rb := fun k hk => Nat.lt_of_lt_of_le (h.rb k hk) hle
    n8 := by simpa using h8 }, ⟨hg.os.trans hbW.os, hg.tape.trans hbW.tape, hg.output.trans hbW.output, hle, fun k hk hF => hne hk (fun e => hF (h.fG k e)) (fun e => hF (by rw [e]; exact h.fg)), fun k hk => ?_⟩⟩
  rcases hk with h1 | h1
  · exact .inl h1
  · exact hnew k h1
end
def RnP (w : World) (G : Nat -> Prop) (g : Nat) (S : List (List Wt)) (r' : Rm) (v : Value) (e : Ending) (w' : World) : Prop := e = .returned v /\ ∃ G', Rn w' G' g S r' /\ Ch G G' w w'
theorem RnP.mk {w w' : World} {G G' : Nat -> Prop} {g : Nat} {S : List (List Wt)} {r' : Rm} {v v' : Value} (hv : v = v') (h : Rn w' G' g S r') (hc : Ch G G' w w') : RnP w G g S r' v' (.returned v) w' := ⟨by rw [hv], G', h, hc⟩
section
variable {w w' : World} {G Fs Fo Fo' R : Nat → Prop} {g gs : Nat} {S : List (List Wt)} {r r' : Rm} {vC vB vG vE vC' vB' vG' vE' : Value} {ps ts ps' ts' : List Nat}
theorem Yk (hG : ∀ k, G k ↔ Fs k ∨ Fo k ∨ R k) (h' : Ru w' Fs Fo' R g gs S r' vC' vB' vG' vE' ps' ts') (c : Ch Fo Fo' w w') : Rn w' (fun k => Fs k ∨ Fo' k ∨ R k) g S r' /\ Ch G (fun k => Fs k ∨ Fo' k ∨ R k) w w' := by
 refine ⟨h'.rn, c.wide (fun k hk => (hG k).2 (.inr (.inl hk))) fun k hk => ?_⟩
 rcases hk with h1 | h1 | h1
 · exact .inl ((hG k).2 (.inl h1))
 · rcases c.grow k h1 with h2 | h2
   · exact .inl ((hG k).2 (.inr (.inl h2)))
   · exact .inr h2
 · exact .inl ((hG k).2 (.inr (.inr h1)))
end
theorem info_ev : (Tryz.prog.info? 132).map (fun i => (i.zero, i.size, i.bytes)) = some (some (.agg #[I_ 0, I_ 0, I_ 0, I_ 0]), 4, 32) := by kernel_rfl
theorem ecs_one (l : List Evt) : ∀ u ∈ ecs l, u.oneCell' = true := by
 induction l with
 | nil => intro u h; simp [ecs] at h
 | cons v l ih =>
  intro u h
  simp only [ecs, List.mem_cons] at h
  rcases h with rfl | rfl | rfl | rfl | h
  · rfl
  · rfl
  · rfl
  · rfl
  · exact ih u h
theorem push_e {w : World} {vq : Value} {l : List Evt} {n : Nat} (hn : n = l.length) (oq : w.ownsRow 0 132 4 vq n (ecs l)) (hl : l.length <= 100000) (e : Evt) (ty : TypeId) :
 ∃ v' w', (Builtin.append_ #[40, 40] ty #[vq, .slice (some ⟨w.heap.size, 0, none⟩) 1 1]).run Tryz.prog (w.alloc (.cells #[I_ e.g, I_ e.k, I_ e.o, I_ e.a] 132)) = .ok v' w' ∧
  (w'.ownsRow 0 132 4 v' (n + 1) (ecs (l ++ [e])) /\ w.grownBy w' vq.ownBlock /\ (∀ k, v'.ownBlock = some k -> vq.ownBlock = some k ∨ w.heap.size <= k)) := by
 obtain ⟨ie, hi, hz0, hz1, hz2⟩ := info_parts info_ev
 have hb := Zd w (.cells #[I_ e.g, I_ e.k, I_ e.o, I_ e.a] 132)
 have o1 := Zj oq (fun k hk => hb.block k (Zf oq hk).2.1)
 have hc : ∀ (j : Nat) (u : Value), (ecs [e])[j]? = some u -> (w.alloc (.cells #[I_ e.g, I_ e.k, I_ e.o, I_ e.a] 132)).cell? ((⟨w.heap.size, 0, none⟩ : Addr).add j) = some u := fun j u hu => by
  rw [show (⟨w.heap.size, 0, none⟩ : Addr).add j = ⟨w.heap.size, j, none⟩ by unfold Addr.add; by_cases h : j = 0 <;> simp [h]]
  exact Zb (B_ w _) j u (by simpa [ecs] using hu)
 obtain ⟨v', w', hr, ho, hg, _, hat⟩ := run_append_own_at (P := Tryz.prog) (w.alloc (.cells #[I_ e.g, I_ e.k, I_ e.o, I_ e.a] 132)) 0 40 ty 132 ie _ 4 32 Tryz.underlying40 hi hz0 hz1 hz2 rfl (by decide) vq n (ecs l) o1 ⟨w.heap.size, 0, none⟩ 1 1 (ecs [e]) rfl hc (ecs_one _) (by unfold maxLen; omega) (by omega) (Nat.zero_le _)
 refine ⟨v', w', hr, by rw [ecs_app]; exact ho, ⟨hg.os, hg.tape, hg.output, Nat.le_trans hb.size hg.size, fun k hk hne => (hg.block k (Nat.lt_of_lt_of_le hk hb.size) hne).trans (hb.block k hk)⟩, fun k hk => ?_⟩
 rcases hat with e | e
 · exact .inl (e.symm.trans hk)
 · rw [e] at hk
   right
   have := Option.some.inj hk
   simp at this
   omega
theorem push_run {w : World} {Fs Fo R : Nat -> Prop} {g gs : Nat} {S : List (List Wt)} {r : Rm} {vC vB vG vE : Value} {ps ts : List Nat} (h : Ru w Fs Fo R g gs S r vC vB vG vE ps ts) (hl : r.ev.length <= 100000) (e : Evt) (ty : TypeId) :
 ∃ v' w', (Builtin.append_ #[40, 40] ty #[vE, .slice (some ⟨w.heap.size, 0, none⟩) 1 1]).run Tryz.prog (w.alloc (.cells #[I_ e.g, I_ e.k, I_ e.o, I_ e.a] 132)) = .ok v' w' ∧
  ((∃ a l c, v' = .slice a l c) /\ w'.frozen? ⟨g, 4, none⟩ = false /\ w'.cell? ⟨g, 4, none⟩ = some vE /\ ∃ Fo', Ru (w'.setCell ⟨g, 4, none⟩ v') Fs Fo' R g gs S { r with ev := r.ev ++ [e] } vC vB vG v' ps ts /\ Ch Fo Fo' w (w'.setCell ⟨g, 4, none⟩ v')) := by
 obtain ⟨v', w', hr, ho, hg, hf⟩ := push_e rfl h.ev hl e ty
 have hgb : w'.heap[g]? = w.heap[g]? := hg.block g (Ze h.at_) (fun e => Zv h.ev h.at_ (by decide) e.symm)
 obtain ⟨a, c, e', _⟩ := Zl ho
 have hn := h.noted e (by rw [List.length_append]; exact ho) hg hf
 exact ⟨v', w', hr, ⟨_, _, _, e'⟩, Zc (hgb.trans h.at_) _, Zb (hgb.trans h.at_) 4 _ rfl, _, hn.1, hn.2⟩
theorem fault_any {w : World} {G : Nat -> Prop} {g : Nat} {S : List (List Wt)} {r : Rm} (h : Rn w G g S r) (i : Int) (f n a : Int) : Calls Tryz.prog 57 #[P_ g, I_ i, .agg #[I_ f, I_ n, I_ a]] w (RnP w G g S { r with e := ⟨3, f, i, n, a⟩ } (.tuple #[])) := by
 obtain ⟨Fs, Fo, R, gs, vC, vB, vG, vE, ps, ts, h, hG⟩ := h
 have B0 := Zd w (.cells #[I_ f, I_ n, I_ a] 122)
 have h1 := h.bel B0
 have HE := Za (Yk hG (h1.setE 3 f i n a) (ch_setEnd h1.fg))
 obtain ⟨_, c5, c6, c7, c8, c9⟩ := h1.cells
 have f5 := Zc h1.at_ 5
 have f6 := Zc h1.at_ 6
 have f7 := Zc h1.at_ 7
 have f8 := Zc h1.at_ 8
 have f9 := Zc h1.at_ 9
 have HB := Za B0
 have HC := Za (And.intro c5 (And.intro c6 (And.intro c7 (And.intro c8 (And.intro c9 (And.intro f5 (And.intro f6 (And.intro f7 (And.intro f8 f9)))))))))
 have HV := Za (B_ w (.cells #[I_ f, I_ n, I_ a] 122))
 clear h h1 hG B0 c5 c6 c7 c8 c9 f5 f6 f7 f8 f9
 go_enter Tryz.func57, Tryz.ntmps57
 go_upto_region 1 with fail
 generalize w.alloc _ = w1 at *
 obtain ⟨c5, c6, c7, c8, c9, f5, f6, f7, f8, f9⟩ := HC.out
 have q0 := Zb HV.out 0 _ rfl
 have q1 := Zb HV.out 1 _ rfl
 have q2 := Zb HV.out 2 _ rfl
 go_wp2_with fail
 go_end0
 exact RnP.mk rfl HE.out.1 ((Ch.of_bel HB.out).trans HE.out.2)
theorem settle_any {w : World} {G : Nat -> Prop} {g : Nat} {S : List (List Wt)} {r : Rm} {p : List Addr} (h : Rn w G g S r) (h17 : E2 w p) : Calls Tryz.prog 32 #[P_ g] w (RnP w G g S (Yi r) (.tuple #[])) := by
 have E := Za (End_any h h17)
 unfold Yi
 obtain ⟨z, hz⟩ : ∃ z, Ys r = z := ⟨_, rfl⟩
 rw [hz] at E ⊢
 obtain ⟨e0, e1, e2, e3, e4⟩ := z
 unfold EnV at E
 simp only at E
 have HR := Za h
 have hgl := h.lt
 clear h h17 hz
 go_enter Tryz.func32, Tryz.ntmps32
 go_wp2_with fail
 refine E.out.mono ?_
 rintro e w1 ⟨rfl, hb⟩
 obtain ⟨Fs, Fo, R, gs, vC, vB, vG, vE, ps, ts, h, hG⟩ := HR.out.bel hb
 have HE := Za (Yk hG (h.setE e0 e1 e2 e3 e4) (ch_setEnd h.fg))
 obtain ⟨_, c5, c6, c7, c8, c9⟩ := h.cells
 have f5 := Zc h.at_ 5
 have f6 := Zc h.at_ 6
 have f7 := Zc h.at_ 7
 have f8 := Zc h.at_ 8
 have f9 := Zc h.at_ 9
 have HB := Za hb
 clear h hG HR E hb
 go_wp2_with fail
 go_end0
 exact RnP.mk rfl HE.out.1 ((Ch.of_bel HB.out).trans HE.out.2)
theorem note_any {w : World} {G : Nat -> Prop} {g : Nat} {S : List (List Wt)} {r : Rm} (h : Rn w G g S r) (i : Nat) (x : Gr) (hx : r.gs[i]? = some x) (ob : Int) (hl : r.ev.length <= 100000) : Calls Tryz.prog 71 #[P_ g, I_ (i : Nat), I_ ob] w (RnP w G g S (Zz r i ob) (.tuple #[])) := by
 have hR : Zz r i ob = { r with ev := r.ev ++ [⟨i, x.w.k, ob, x.w.a⟩] } := by
  unfold Zz
  rw [hx]
 rw [hR]
 clear hR
 obtain ⟨Fs, Fo, R, gs, vC, vB, vG, vE, ps, ts, h, hG⟩ := h
 obtain ⟨bG, cG, b, t, va, eG, _, _, _, _, _, hA, ⟨s1, s2, s3⟩, s4⟩ := h.see hx
 subst eG
 obtain ⟨aa, na, ca, rfl⟩ := hA.form
 clear hA
 have hi : i < r.gs.length := (G_ hx)
 have hn8 := h.n8
 obtain ⟨⟨c0, c1, c2, c3, c4⟩, c5, c6, c7, c8, c9⟩ := h.cells
 have hgl := h.fb g h.fg
 obtain ⟨rest, ⟨k, o, a, v0, v1, v2⟩⟩ := x
 simp only at s4
 have b1 := Zb s4 1 _ rfl
 have b2 := Zb s4 2 _ rfl
 have b3 := Zb s4 3 _ rfl
 have b4 := Zb s4 4 _ rfl
 have b5 := Zb s4 5 _ rfl
 have b6 := Zb s4 6 _ rfl
 have b7 := Zb s4 7 _ rfl
 obtain ⟨n, hn⟩ : ∃ n, n = r.gs.length := ⟨_, rfl⟩
 rw [← hn] at hi hn8 c3
 have HN := Za hn
 have hi1 : (i : Int) < (n : Int) := by omega
 have hi0 : (0 : Int) <= (i : Int) := by omega
 have hd0 : decide ((i : Int) < 0) = false := by simp
 have hd1 : decide ((n : Int) <= (i : Int)) = false := by simp; omega
 clear hn
 have B0 := Za (Zd w (.cells #[I_ k, I_ o, I_ a, I_ v0, I_ v1, .int .u64 v2, .slice aa na ca] 67))
 have V0 := Za (Wv.new w k o a v0 v1 v2 (.slice aa na ca))
 obtain ⟨aE, cE, eE, _⟩ := Zl h.ev
 obtain ⟨nE, hnE⟩ : ∃ nE, nE = r.ev.length := ⟨_, rfl⟩
 rw [← hnE] at eE
 subst eE
 have H1 := Za (h.bel B0.out)
 have HG := Za hG
 have HL := Za hl
 clear h hG s4 hnE hl c0 c1 c2 c4 c5 c6 c7 c8 c9
 go_enter Tryz.func71, Tryz.ntmps71
 go_upto_region 1 with fail
 generalize w.alloc _ = w1 at *
 have HD := Za (H1.out.bel (w' := w1.drew) (below_drewN (Below.refl _ _) 1))
 have BD := Za (Zp B0.out)
 have N0 : Hid (Wv w1.drew w.heap.size k o a (v0, v1, v2) (.slice aa na ca)) := V0
 have PU := Za (fun ty => push_run HD.out HL.out ⟨i, k, ob, a⟩ ty)
 have G0 := Za HD.out.at_
 simp only at PU
 clear H1 B0 V0 b1 b2 b3 b4 b5 b6 b7 s1 c3
 refine wp_region_any ZK ?_
 change wpAny _ _ _ _ _ _ _ (World.drew _)
 generalize World.drew _ = W0 at *
 refine T2_ 0 ?_
 simp only [Act.put, S_]
 refine T2_ 1 ?_
 simp only [Act.put, S_]
 refine T2_ 2 ?_
 simp only [Act.put, S_]
 refine T2_ 3 ?_
 simp only [Act.put, S_]
 refine T2_ 5 ?_
 simp only [Act.put, S_]
 refine T2_ 6 ?_
 simp only [Act.put, S_]
 refine T2_ 8 ?_
 simp only [Act.put, S_]
 refine T2_ 9 ?_
 simp only [Act.put, S_]
 refine wpAny_ready (rs := [4, 7, 10]) (by kernel_rfl) (by decide) ?_
 refine AllReady.cons rfl (fun K1 hK1 => ?_) (AllReady.cons rfl (fun K1 hK1 => ?_) (AllReady.cons rfl (fun K1 hK1 => ?_) AllReady.nil))
 · have q := (show W0.cell? ⟨g, 4, none⟩ = some (.slice aE nE cE) from Zb G0.out 4 _ rfl)
   go_simp
   refine hK1 _ _ ?_
   clear hK1 K1 q
   refine wpAny_ready (rs := [7, 10]) (by kernel_rfl) (by decide) ?_
   refine AllReady.cons rfl (fun K1 hK1 => ?_) (AllReady.cons rfl (fun K1 hK1 => ?_) AllReady.nil)
   · obtain ⟨q0, q1, q2, q3, q4, q5, q6⟩ := N0.out.all
     go_simp
     refine hK1 _ _ ?_
     clear hK1 K1 q0 q1 q2 q3 q4 q5 q6
     refine R_ 10 (fun K1 hK1 => ?_)
     obtain ⟨q0, q1, q2, q3, q4, q5, q6⟩ := N0.out.all
     go_simp
     refine hK1 _ _ ?_
     clear hK1 K1 q0 q1 q2 q3 q4 q5 q6
     refine T2_ 11 ?_
     simp only [Act.put, S_]
     refine R_ 12 (fun K1 hK1 => ?_)
     go_simp
     refine hK1 _ _ ?_
     clear hK1 K1
     refine R_ 13 (fun K1 hK1 => ?_)
     refine Zr (TS := 40) (.tmp 21) (.tmp 29) _ _ _ (fun ty => PU.out ty) rfl rfl rfl rfl ?_
     rintro v9 w9 ⟨⟨a9, l9, c9, rfl⟩, z1, z2, r9⟩
     have R9 := Za r9
     clear r9
     refine hK1 _ _ ?_
     clear hK1 K1
     refine T2_ 14 ?_
     simp only [Act.put, S_]
     refine T2_ 15 ?_
     simp only [Act.put, S_]
     refine R_ 16 (fun K1 hK1 => ?_)
     go_simp
     refine hK1 _ _ ?_
     clear hK1 K1 z1 z2
     refine wpAny_done (by kernel_rfl) ?_ _
     go_wp2_with fail
     go_end0
     obtain ⟨Fo', r1, r2⟩ := R9.out
     have HE := Yk HG.out r1 r2
     exact RnP.mk rfl HE.1 ((Ch.of_bel BD.out).trans HE.2)
   · obtain ⟨q0, q1, q2, q3, q4, q5, q6⟩ := N0.out.all
     go_simp
     refine hK1 _ _ ?_
     clear hK1 K1 q0 q1 q2 q3 q4 q5 q6
     refine R_ 7 (fun K1 hK1 => ?_)
     obtain ⟨q0, q1, q2, q3, q4, q5, q6⟩ := N0.out.all
     go_simp
     refine hK1 _ _ ?_
     clear hK1 K1 q0 q1 q2 q3 q4 q5 q6
     refine T2_ 11 ?_
     simp only [Act.put, S_]
     refine R_ 12 (fun K1 hK1 => ?_)
     go_simp
     refine hK1 _ _ ?_
     clear hK1 K1
     refine R_ 13 (fun K1 hK1 => ?_)
     refine Zr (TS := 40) (.tmp 21) (.tmp 29) _ _ _ (fun ty => PU.out ty) rfl rfl rfl rfl ?_
     rintro v9 w9 ⟨⟨a9, l9, c9, rfl⟩, z1, z2, r9⟩
     have R9 := Za r9
     clear r9
     refine hK1 _ _ ?_
     clear hK1 K1
     refine T2_ 14 ?_
     simp only [Act.put, S_]
     refine T2_ 15 ?_
     simp only [Act.put, S_]
     refine R_ 16 (fun K1 hK1 => ?_)
     go_simp
     refine hK1 _ _ ?_
     clear hK1 K1 z1 z2
     refine wpAny_done (by kernel_rfl) ?_ _
     go_wp2_with fail
     go_end0
     obtain ⟨Fo', r1, r2⟩ := R9.out
     have HE := Yk HG.out r1 r2
     exact RnP.mk rfl HE.1 ((Ch.of_bel BD.out).trans HE.2)
 · obtain ⟨q0, q1, q2, q3, q4, q5, q6⟩ := N0.out.all
   go_simp
   refine hK1 _ _ ?_
   clear hK1 K1 q0 q1 q2 q3 q4 q5 q6
   refine wpAny_ready (rs := [4, 10]) (by kernel_rfl) (by decide) ?_
   refine AllReady.cons rfl (fun K1 hK1 => ?_) (AllReady.cons rfl (fun K1 hK1 => ?_) AllReady.nil)
   · have q := (show W0.cell? ⟨g, 4, none⟩ = some (.slice aE nE cE) from Zb G0.out 4 _ rfl)
     go_simp
     refine hK1 _ _ ?_
     clear hK1 K1 q
     refine R_ 10 (fun K1 hK1 => ?_)
     obtain ⟨q0, q1, q2, q3, q4, q5, q6⟩ := N0.out.all
     go_simp
     refine hK1 _ _ ?_
     clear hK1 K1 q0 q1 q2 q3 q4 q5 q6
     refine T2_ 11 ?_
     simp only [Act.put, S_]
     refine R_ 12 (fun K1 hK1 => ?_)
     go_simp
     refine hK1 _ _ ?_
     clear hK1 K1
     refine R_ 13 (fun K1 hK1 => ?_)
     refine Zr (TS := 40) (.tmp 21) (.tmp 29) _ _ _ (fun ty => PU.out ty) rfl rfl rfl rfl ?_
     rintro v9 w9 ⟨⟨a9, l9, c9, rfl⟩, z1, z2, r9⟩
     have R9 := Za r9
     clear r9
     refine hK1 _ _ ?_
     clear hK1 K1
     refine T2_ 14 ?_
     simp only [Act.put, S_]
     refine T2_ 15 ?_
     simp only [Act.put, S_]
     refine R_ 16 (fun K1 hK1 => ?_)
     go_simp
     refine hK1 _ _ ?_
     clear hK1 K1 z1 z2
     refine wpAny_done (by kernel_rfl) ?_ _
     go_wp2_with fail
     go_end0
     obtain ⟨Fo', r1, r2⟩ := R9.out
     have HE := Yk HG.out r1 r2
     exact RnP.mk rfl HE.1 ((Ch.of_bel BD.out).trans HE.2)
   · obtain ⟨q0, q1, q2, q3, q4, q5, q6⟩ := N0.out.all
     go_simp
     refine hK1 _ _ ?_
     clear hK1 K1 q0 q1 q2 q3 q4 q5 q6
     refine T2_ 11 ?_
     simp only [Act.put, S_]
     refine wpAny_ready (rs := [4, 12]) (by kernel_rfl) (by decide) ?_
     refine AllReady.cons rfl (fun K1 hK1 => ?_) (AllReady.cons rfl (fun K1 hK1 => ?_) AllReady.nil)
     · have q := (show W0.cell? ⟨g, 4, none⟩ = some (.slice aE nE cE) from Zb G0.out 4 _ rfl)
       go_simp
       refine hK1 _ _ ?_
       clear hK1 K1 q
       refine R_ 12 (fun K1 hK1 => ?_)
       go_simp
       refine hK1 _ _ ?_
       clear hK1 K1
       refine R_ 13 (fun K1 hK1 => ?_)
       refine Zr (TS := 40) (.tmp 21) (.tmp 29) _ _ _ (fun ty => PU.out ty) rfl rfl rfl rfl ?_
       rintro v9 w9 ⟨⟨a9, l9, c9, rfl⟩, z1, z2, r9⟩
       have R9 := Za r9
       clear r9
       refine hK1 _ _ ?_
       clear hK1 K1
       refine T2_ 14 ?_
       simp only [Act.put, S_]
       refine T2_ 15 ?_
       simp only [Act.put, S_]
       refine R_ 16 (fun K1 hK1 => ?_)
       go_simp
       refine hK1 _ _ ?_
       clear hK1 K1 z1 z2
       refine wpAny_done (by kernel_rfl) ?_ _
       go_wp2_with fail
       go_end0
       obtain ⟨Fo', r1, r2⟩ := R9.out
       have HE := Yk HG.out r1 r2
       exact RnP.mk rfl HE.1 ((Ch.of_bel BD.out).trans HE.2)
     · go_simp
       refine hK1 _ _ ?_
       clear hK1 K1
       refine R_ 4 (fun K1 hK1 => ?_)
       have q := (show (W0.alloc (.cells #[I_ (i : Nat), I_ k, I_ ob, I_ a] 132)).cell? ⟨g, 4, none⟩ = some (.slice aE nE cE) from ((Zd W0 _).cell (p := ⟨g, 4, none⟩) (Ze G0.out)).trans (Zb G0.out 4 _ rfl))
       go_simp
       refine hK1 _ _ ?_
       clear hK1 K1 q
       refine R_ 13 (fun K1 hK1 => ?_)
       refine Zr (TS := 40) (.tmp 21) (.tmp 29) _ _ _ (fun ty => PU.out ty) rfl rfl rfl rfl ?_
       rintro v9 w9 ⟨⟨a9, l9, c9, rfl⟩, z1, z2, r9⟩
       have R9 := Za r9
       clear r9
       refine hK1 _ _ ?_
       clear hK1 K1
       refine T2_ 14 ?_
       simp only [Act.put, S_]
       refine T2_ 15 ?_
       simp only [Act.put, S_]
       refine R_ 16 (fun K1 hK1 => ?_)
       go_simp
       refine hK1 _ _ ?_
       clear hK1 K1 z1 z2
       refine wpAny_done (by kernel_rfl) ?_ _
       go_wp2_with fail
       go_end0
       obtain ⟨Fo', r1, r2⟩ := R9.out
       have HE := Yk HG.out r1 r2
       exact RnP.mk rfl HE.1 ((Ch.of_bel BD.out).trans HE.2)
 · obtain ⟨q0, q1, q2, q3, q4, q5, q6⟩ := N0.out.all
   go_simp
   refine hK1 _ _ ?_
   clear hK1 K1 q0 q1 q2 q3 q4 q5 q6
   refine wpAny_ready (rs := [4, 7]) (by kernel_rfl) (by decide) ?_
   refine AllReady.cons rfl (fun K1 hK1 => ?_) (AllReady.cons rfl (fun K1 hK1 => ?_) AllReady.nil)
   · have q := (show W0.cell? ⟨g, 4, none⟩ = some (.slice aE nE cE) from Zb G0.out 4 _ rfl)
     go_simp
     refine hK1 _ _ ?_
     clear hK1 K1 q
     refine R_ 7 (fun K1 hK1 => ?_)
     obtain ⟨q0, q1, q2, q3, q4, q5, q6⟩ := N0.out.all
     go_simp
     refine hK1 _ _ ?_
     clear hK1 K1 q0 q1 q2 q3 q4 q5 q6
     refine T2_ 11 ?_
     simp only [Act.put, S_]
     refine R_ 12 (fun K1 hK1 => ?_)
     go_simp
     refine hK1 _ _ ?_
     clear hK1 K1
     refine R_ 13 (fun K1 hK1 => ?_)
     refine Zr (TS := 40) (.tmp 21) (.tmp 29) _ _ _ (fun ty => PU.out ty) rfl rfl rfl rfl ?_
     rintro v9 w9 ⟨⟨a9, l9, c9, rfl⟩, z1, z2, r9⟩
     have R9 := Za r9
     clear r9
     refine hK1 _ _ ?_
     clear hK1 K1
     refine T2_ 14 ?_
     simp only [Act.put, S_]
     refine T2_ 15 ?_
     simp only [Act.put, S_]
     refine R_ 16 (fun K1 hK1 => ?_)
     go_simp
     refine hK1 _ _ ?_
     clear hK1 K1 z1 z2
     refine wpAny_done (by kernel_rfl) ?_ _
     go_wp2_with fail
     go_end0
     obtain ⟨Fo', r1, r2⟩ := R9.out
     have HE := Yk HG.out r1 r2
     exact RnP.mk rfl HE.1 ((Ch.of_bel BD.out).trans HE.2)
   · obtain ⟨q0, q1, q2, q3, q4, q5, q6⟩ := N0.out.all
     go_simp
     refine hK1 _ _ ?_
     clear hK1 K1 q0 q1 q2 q3 q4 q5 q6
     refine T2_ 11 ?_
     simp only [Act.put, S_]
     refine wpAny_ready (rs := [4, 12]) (by kernel_rfl) (by decide) ?_
     refine AllReady.cons rfl (fun K1 hK1 => ?_) (AllReady.cons rfl (fun K1 hK1 => ?_) AllReady.nil)
     · have q := (show W0.cell? ⟨g, 4, none⟩ = some (.slice aE nE cE) from Zb G0.out 4 _ rfl)
       go_simp
       refine hK1 _ _ ?_
       clear hK1 K1 q
       refine R_ 12 (fun K1 hK1 => ?_)
       go_simp
       refine hK1 _ _ ?_
       clear hK1 K1
       refine R_ 13 (fun K1 hK1 => ?_)
       refine Zr (TS := 40) (.tmp 21) (.tmp 29) _ _ _ (fun ty => PU.out ty) rfl rfl rfl rfl ?_
       rintro v9 w9 ⟨⟨a9, l9, c9, rfl⟩, z1, z2, r9⟩
       have R9 := Za r9
       clear r9
       refine hK1 _ _ ?_
       clear hK1 K1
       refine T2_ 14 ?_
       simp only [Act.put, S_]
       refine T2_ 15 ?_
       simp only [Act.put, S_]
       refine R_ 16 (fun K1 hK1 => ?_)
       go_simp
       refine hK1 _ _ ?_
       clear hK1 K1 z1 z2
       refine wpAny_done (by kernel_rfl) ?_ _
       go_wp2_with fail
       go_end0
       obtain ⟨Fo', r1, r2⟩ := R9.out
       have HE := Yk HG.out r1 r2
       exact RnP.mk rfl HE.1 ((Ch.of_bel BD.out).trans HE.2)
     · go_simp
       refine hK1 _ _ ?_
       clear hK1 K1
       refine R_ 4 (fun K1 hK1 => ?_)
       have q := (show (W0.alloc (.cells #[I_ (i : Nat), I_ k, I_ ob, I_ a] 132)).cell? ⟨g, 4, none⟩ = some (.slice aE nE cE) from ((Zd W0 _).cell (p := ⟨g, 4, none⟩) (Ze G0.out)).trans (Zb G0.out 4 _ rfl))
       go_simp
       refine hK1 _ _ ?_
       clear hK1 K1 q
       refine R_ 13 (fun K1 hK1 => ?_)
       refine Zr (TS := 40) (.tmp 21) (.tmp 29) _ _ _ (fun ty => PU.out ty) rfl rfl rfl rfl ?_
       rintro v9 w9 ⟨⟨a9, l9, c9, rfl⟩, z1, z2, r9⟩
       have R9 := Za r9
       clear r9
       refine hK1 _ _ ?_
       clear hK1 K1
       refine T2_ 14 ?_
       simp only [Act.put, S_]
       refine T2_ 15 ?_
       simp only [Act.put, S_]
       refine R_ 16 (fun K1 hK1 => ?_)
       go_simp
       refine hK1 _ _ ?_
       clear hK1 K1 z1 z2
       refine wpAny_done (by kernel_rfl) ?_ _
       go_wp2_with fail
       go_end0
       obtain ⟨Fo', r1, r2⟩ := R9.out
       have HE := Yk HG.out r1 r2
       exact RnP.mk rfl HE.1 ((Ch.of_bel BD.out).trans HE.2)
theorem YK {fn : Func} {Q : Ending -> World -> Prop} {a : Act} {w : World} {p q : Tmp} (b b2 : Nat) {k o a_ v0 v1 v2 f n c : Int} {va : Value} (hf : fn.results = #[.cell p 67, .cell q 122]) (hp : a.tmps.getD p undef = P_ b) (hq : a.tmps.getD q undef = P_ b2) (hva : ∃ x y z, va = .slice x y z)
    (h : w.heap[b]? = some (.cells #[I_ k, I_ o, I_ a_, I_ v0, I_ v1, .int .u64 v2, va] 67 (0, 0))) (h2 : w.heap[b2]? = some (.cells #[I_ f, I_ n, I_ c] 122 (0, 0))) (hdf : a.defers = []) (hR : Q (.returned (.tuple #[.agg #[I_ k, I_ o, I_ a_, I_ v0, I_ v1, .int .u64 v2, va], .agg #[I_ f, I_ n, I_ c]])) w) : bodyPost Tryz.prog fn Q .ret a w :=
  bodyPost_ret (by
    obtain ⟨x, y, z, rfl⟩ := hva
    have hp' : a.tmps[p]?.getD undef = P_ b := by simpa using hp
    have hq' : a.tmps[q]?.getD undef = P_ b2 := by simpa using hq
    have q0 := Zb h 0 _ rfl
    have q1 := Zb h 1 _ rfl
    have q2 := Zb h 2 _ rfl
    have q3 := Zb h 3 _ rfl
    have q4 := Zb h 4 _ rfl
    have q5 := Zb h 5 _ rfl
    have q6 := Zb h 6 _ rfl
    have p0 := Zb h2 0 _ rfl
    have p1 := Zb h2 1 _ rfl
    have p2 := Zb h2 2 _ rfl
    simp [results, hf, hp', hq', go_sem, q0, q1, q2, q3, q4, q5, q6, p0, p1, p2]) hdf hR
def NextP (w : World) (G : Nat -> Prop) (g t : Nat) (S : List (List Wt)) (r' : Rm) (x : Wt) (f n c : Int) (e : Ending) (w' : World) : Prop := ∃ va, e = .returned (.tuple #[.agg #[I_ x.k, I_ x.o, I_ x.a, I_ x.v.1, I_ x.v.2.1, .int .u64 x.v.2.2, va], .agg #[I_ f, I_ n, I_ c]]) /\ YD 0 w' va /\ (∀ k, k < w.heap.size -> k ≠ t -> w'.heap[k]? = w.heap[k]?) /\ ∃ G', Rn w' G' g S r' /\ Ch G G' w w'
theorem Rn.low {w w' : World} {G : Nat -> Prop} {g N : Nat} {S : List (List Wt)} {r : Rm} (h : Rn w G g S r) (hG : ∀ k, G k -> k < N) (hb : Below N w w') : Rn w' G g S r := h.keep (fun k hk => hb.block k (hG k hk)) hb.size
theorem YD.nilS {B : Nat} {w : World} : YD B w (.slice none 0 0) := ⟨none, 0, 0, [], rfl, by omega, World.ownsRow_nil _ _ _ _, fun _ h => by cases h⟩
theorem YA {w : World} {b : Nat} {T : TypeId} {y0 y1 y2 : Value} (h : w.heap[b]? = some (.cells #[y0, y1, y2] T (0, 0))) (x0 x1 x2 : Value) : (((w.setCell ⟨b, 0, none⟩ x0).setCell ⟨b, 1, none⟩ x1).setCell ⟨b, 2, none⟩ x2).heap[b]? = some (.cells #[x0, x1, x2] T (0, 0)) := by
 have h0 : (w.setCell ⟨b, 0, none⟩ x0).heap[b]? = some (.cells #[x0, y1, y2] T (0, 0)) := heap_setCell_same _ _ _ _ _ _ h
 have h1 : ((w.setCell ⟨b, 0, none⟩ x0).setCell ⟨b, 1, none⟩ x1).heap[b]? = some (.cells #[x0, x1, y2] T (0, 0)) := heap_setCell_same _ _ _ _ _ _ h0
 exact heap_setCell_same _ _ _ _ _ _ h1
theorem ne3 {w : World} {b k : Nat} {x0 x1 x2 : Value} (h : k ≠ b) : (((w.setCell ⟨b, 0, none⟩ x0).setCell ⟨b, 1, none⟩ x1).setCell ⟨b, 2, none⟩ x2).heap[k]? = w.heap[k]? :=
 (Below.heap_setCell _ _ _ _ h).trans ((Below.heap_setCell _ _ _ _ h).trans (Below.heap_setCell _ _ _ _ h))
theorem next_nil {w : World} {G Fs Fo R : Nat -> Prop} {g gs : Nat} {S : List (List Wt)} {r : Rm} {vC vB vG vE : Value} {ps ts : List Nat} (h : Ru w Fs Fo R g gs S r vC vB vG vE ps ts) (hG : ∀ k, G k ↔ Fs k ∨ Fo k ∨ R k) (i t : Nat) (x : Gr) (hx : r.gs[i]? = some x) (ht : ts[i]? = some t) (hr : x.rest = []) (j0 j1 j2 : Int) : Calls Tryz.prog 127 #[P_ t, .agg #[I_ j0, I_ j1, .int .u64 j2]] w (NextP w G g t S r ⟨12, 0, 0, z3⟩ 0 0 0) := by
  obtain ⟨b, hb⟩ : ∃ b, ps[i]? = some b := ⟨_, List.getElem?_eq_getElem (by rw [h.pl]; exact (G_ hx))⟩
  obtain ⟨⟨va, vw, q1, q2, q3, q4⟩, q5, q6⟩ := h.gr i x b t hx hb ht
  rw [hr] at q4
  obtain ⟨a, c, rfl, hac⟩ := q4
  have c0 : w.cell? ⟨t, 0, none⟩ = some (.slice a 0 c) := Zb q3 0 _ rfl
  have htl := Ze q3
  have HR : Hid (Rn w G g S r) := Za ⟨_, _, _, _, _, _, _, _, _, _, h, hG⟩
  have HT := Za htl
  have C0 := Za c0
  clear h hG q1 q2 q3 q5 q6 hac hx ht hb hr c0 htl
  have B1 : Hid (Below w.heap.size w (((w.alloc (.cells #[I_ j0, I_ j1, .int .u64 j2] 64)).alloc (.cells #[I_ 0, I_ 0, I_ 0, I_ 0, I_ 0, .int .u64 0, .slice none 0 0] 67)).alloc (.cells #[I_ 0, I_ 0, I_ 0] 122))) := Za (Zu (Zu (Zd w _) _) _)
  have Y1 : Hid ((((w.alloc (.cells #[I_ j0, I_ j1, .int .u64 j2] 64)).alloc (.cells #[I_ 0, I_ 0, I_ 0, I_ 0, I_ 0, .int .u64 0, .slice none 0 0] 67)).alloc (.cells #[I_ 0, I_ 0, I_ 0] 122)).heap[w.heap.size + 1]? = some (.cells #[I_ 0, I_ 0, I_ 0, I_ 0, I_ 0, .int .u64 0, .slice none 0 0] 67 (0, 0))) := Za (by
    have e1 := B_ (w.alloc (.cells #[I_ j0, I_ j1, .int .u64 j2] 64)) (.cells #[I_ 0, I_ 0, I_ 0, I_ 0, I_ 0, .int .u64 0, .slice none 0 0] 67)
    have hs : (w.alloc (.cells #[I_ j0, I_ j1, .int .u64 j2] 64)).heap.size = w.heap.size + 1 := by simp
    rw [hs] at e1
    exact ((Zd _ _).block _ (Ze e1)).trans e1)
  have Y2 : Hid ((((w.alloc (.cells #[I_ j0, I_ j1, .int .u64 j2] 64)).alloc (.cells #[I_ 0, I_ 0, I_ 0, I_ 0, I_ 0, .int .u64 0, .slice none 0 0] 67)).alloc (.cells #[I_ 0, I_ 0, I_ 0] 122)).heap[w.heap.size + 1 + 1]? = some (.cells #[I_ 0, I_ 0, I_ 0] 122 (0, 0))) := Za (by
    have e1 := B_ ((w.alloc (.cells #[I_ j0, I_ j1, .int .u64 j2] 64)).alloc (.cells #[I_ 0, I_ 0, I_ 0, I_ 0, I_ 0, .int .u64 0, .slice none 0 0] 67)) (.cells #[I_ 0, I_ 0, I_ 0] 122)
    have hs : ((w.alloc (.cells #[I_ j0, I_ j1, .int .u64 j2] 64)).alloc (.cells #[I_ 0, I_ 0, I_ 0, I_ 0, I_ 0, .int .u64 0, .slice none 0 0] 67)).heap.size = w.heap.size + 1 + 1 := by simp
    rw [hs] at e1
    exact e1)
  go_enter Tryz.func127, Tryz.ntmps127
  go_upto_region 1 with fail
  generalize ((w.alloc _).alloc _).alloc _ = W1 at *
  have c1 := (B1.out.cell (p := ⟨t, 0, none⟩) HT.out).trans C0.out
  obtain ⟨p0, p1, p2, p3, p4, p5, p6⟩ := (show Wv W1 (w.heap.size + 1) 0 0 0 (0, 0, 0) (.slice none 0 0) from Y1.out).all
  have f0 := Zc Y1.out 0
  have f1 := Zc Y1.out 1
  have f2 := Zc Y1.out 2
  have f3 := Zc Y1.out 3
  have f4 := Zc Y1.out 4
  have f5 := Zc Y1.out 5
  have f6 := Zc Y1.out 6
  have n0 := Zb Y2.out 0 _ rfl
  have m0 := Zc Y2.out 0
  have n1 := Zb Y2.out 1 _ rfl
  have m1 := Zc Y2.out 1
  have n2 := Zb Y2.out 2 _ rfl
  have m2 := Zc Y2.out 2
  go_wp2_with fail
  have BB : Below w.heap.size W1 ((((set7 W1 (w.heap.size + 1) 0 (I_ 12) (I_ 0) (I_ 0) (I_ 0) (I_ 0) (.int .u64 0) (.slice none 0 0)).setCell ⟨w.heap.size + 1 + 1, 0, none⟩ (I_ 0)).setCell ⟨w.heap.size + 1 + 1, 1, none⟩ (I_ 0)).setCell ⟨w.heap.size + 1 + 1, 2, none⟩ (I_ 0)) := Zt (ZM (o := 0) (Below.refl _ _) (by omega)) (by omega) _ _ _
  exact YK (w.heap.size + 1) (w.heap.size + 1 + 1) rfl rfl rfl ⟨_, _, _, rfl⟩ ((ne3 (by omega)).trans (ZR Y1.out _ _ _ _ _ _ _)) (YA ((Zy (o := 0) (by omega)).trans Y2.out) _ _ _) rfl ⟨_, rfl, YD.nilS, fun k hk _ => (BB.block k hk).trans (B1.out.block k hk), G, (HR.out.bel B1.out).low (N := w.heap.size) HR.out.fb BB, (Ch.of_bel B1.out).below BB⟩
theorem next_wait {w : World} {G Fs Fo R : Nat -> Prop} {g gs : Nat} {S : List (List Wt)} {r : Rm} {vC vB vG vE : Value} {ps ts : List Nat} (h : Ru w Fs Fo R g gs S r vC vB vG vE ps ts) (hG : ∀ k, G k ↔ Fs k ∨ Fo k ∨ R k) (i t : Nat) (x : Gr) (hx : r.gs[i]? = some x) (ht : ts[i]? = some t) (y : Wt) (l : List Wt) (hr : x.rest = y :: l) (hk : y.k ≠ 0) (j0 j1 j2 : Int) : Calls Tryz.prog 127 #[P_ t, .agg #[I_ j0, I_ j1, .int .u64 j2]] w (NextP w G g t S { r with gs := r.gs.set i ⟨l, x.w⟩ } y 0 0 0) := by
  obtain ⟨b, hb⟩ : ∃ b, ps[i]? = some b := ⟨_, List.getElem?_eq_getElem (by rw [h.pl]; exact (G_ hx))⟩
  obtain ⟨⟨va, vw, q1, q2, q3, q4⟩, q5, q6⟩ := h.gr i x b t hx hb ht
  rw [hr] at q4
  have q4' := q4
  obtain ⟨a, c, rfl, hac, hcm, hel⟩ := q4
  obtain ⟨b2, o2, vy, rfl, hRb, hcl, hAy⟩ := hel 0 y rfl
  obtain ⟨ay, ny, cy, rfl⟩ := hAy.form
  obtain ⟨yk, yo, ya, y0, y1, y2⟩ := y
  simp only [List.length_cons] at hac q4' q3
  simp only at hk
  obtain ⟨n, hn⟩ : ∃ n, n = l.length := ⟨_, rfl⟩
  rw [← hn] at hac q4' q3
  have c0 : w.cell? ⟨t, 0, none⟩ = some (.slice (some ⟨b2, o2, none⟩) (n + 1) c) := Zb q3 0 _ rfl
  have HT := Za (Ze q3)
  have e0 : w.cell? ⟨b2, o2, none⟩ = some (I_ yk) := hcl 0 _ rfl
  have e1 : w.cell? ⟨b2, o2 + 1, none⟩ = some (I_ yo) := hcl 1 _ rfl
  have e2 : w.cell? ⟨b2, o2 + 2, none⟩ = some (I_ ya) := hcl 2 _ rfl
  have e3 : w.cell? ⟨b2, o2 + 3, none⟩ = some (I_ y0) := hcl 3 _ rfl
  have e4 : w.cell? ⟨b2, o2 + 4, none⟩ = some (I_ y1) := hcl 4 _ rfl
  have e5 : w.cell? ⟨b2, o2 + 5, none⟩ = some (.int .u64 y2) := hcl 5 _ rfl
  have e6 : w.cell? ⟨b2, o2 + 6, none⟩ = some (.slice ay ny cy) := hcl 6 _ rfl
  have EE := Za (And.intro e0 (And.intro e1 (And.intro e2 (And.intro e3 (And.intro e4 (And.intro e5 e6))))))
  have HB2 := Za (h.rb b2 hRb)
  have HA := Za hAy
  have HQ := Za q4'
  have HN := Za hn
  have HU := Za h
  have HG := Za hG
  have HX := Za (And.intro hx ht)
  have C0 := Za c0
  unfold maxLen at hcm
  clear h hG q1 q2 q3 q4' q5 q6 hx ht hb hr c0 hcl hAy hn e0 e1 e2 e3 e4 e5 e6 hel hRb
  have B1 : Hid (Below w.heap.size w (((w.alloc (.cells #[I_ j0, I_ j1, .int .u64 j2] 64)).alloc (.cells #[I_ 0, I_ 0, I_ 0, I_ 0, I_ 0, .int .u64 0, .slice none 0 0] 67)).alloc (.cells #[I_ 0, I_ 0, I_ 0] 122))) := Za (Zu (Zu (Zd w _) _) _)
  have Y1 : Hid ((((w.alloc (.cells #[I_ j0, I_ j1, .int .u64 j2] 64)).alloc (.cells #[I_ 0, I_ 0, I_ 0, I_ 0, I_ 0, .int .u64 0, .slice none 0 0] 67)).alloc (.cells #[I_ 0, I_ 0, I_ 0] 122)).heap[w.heap.size + 1]? = some (.cells #[I_ 0, I_ 0, I_ 0, I_ 0, I_ 0, .int .u64 0, .slice none 0 0] 67 (0, 0))) := Za (by
    have e1 := B_ (w.alloc (.cells #[I_ j0, I_ j1, .int .u64 j2] 64)) (.cells #[I_ 0, I_ 0, I_ 0, I_ 0, I_ 0, .int .u64 0, .slice none 0 0] 67)
    have hs : (w.alloc (.cells #[I_ j0, I_ j1, .int .u64 j2] 64)).heap.size = w.heap.size + 1 := by simp
    rw [hs] at e1
    exact ((Zd _ _).block _ (Ze e1)).trans e1)
  have Y2 : Hid ((((w.alloc (.cells #[I_ j0, I_ j1, .int .u64 j2] 64)).alloc (.cells #[I_ 0, I_ 0, I_ 0, I_ 0, I_ 0, .int .u64 0, .slice none 0 0] 67)).alloc (.cells #[I_ 0, I_ 0, I_ 0] 122)).heap[w.heap.size + 1 + 1]? = some (.cells #[I_ 0, I_ 0, I_ 0] 122 (0, 0))) := Za (by
    have e1 := B_ ((w.alloc (.cells #[I_ j0, I_ j1, .int .u64 j2] 64)).alloc (.cells #[I_ 0, I_ 0, I_ 0, I_ 0, I_ 0, .int .u64 0, .slice none 0 0] 67)) (.cells #[I_ 0, I_ 0, I_ 0] 122)
    have hs : ((w.alloc (.cells #[I_ j0, I_ j1, .int .u64 j2] 64)).alloc (.cells #[I_ 0, I_ 0, I_ 0, I_ 0, I_ 0, .int .u64 0, .slice none 0 0] 67)).heap.size = w.heap.size + 1 + 1 := by simp
    rw [hs] at e1
    exact e1)
  go_enter Tryz.func127, Tryz.ntmps127
  go_upto_region 1 with fail
  generalize ((w.alloc _).alloc _).alloc _ = W1 at *
  have c1 := (B1.out.cell (p := ⟨t, 0, none⟩) HT.out).trans C0.out
  obtain ⟨e0, e1, e2, e3, e4, e5, e6⟩ := EE.out
  have e0 := (B1.out.cell (p := ⟨b2, o2, none⟩) HB2.out).trans e0
  have e1 := (B1.out.cell (p := ⟨b2, o2 + 1, none⟩) HB2.out).trans e1
  have e2 := (B1.out.cell (p := ⟨b2, o2 + 2, none⟩) HB2.out).trans e2
  have e3 := (B1.out.cell (p := ⟨b2, o2 + 3, none⟩) HB2.out).trans e3
  have e4 := (B1.out.cell (p := ⟨b2, o2 + 4, none⟩) HB2.out).trans e4
  have e5 := (B1.out.cell (p := ⟨b2, o2 + 5, none⟩) HB2.out).trans e5
  have e6 := (B1.out.cell (p := ⟨b2, o2 + 6, none⟩) HB2.out).trans e6
  have hnn : ((n : Int) + 1 == 0) = false := by simp; omega
  go_upto_region 4 with fail
  have B2 : Hid (Below w.heap.size w (W1.alloc (.cells #[I_ yk, I_ yo, I_ ya, I_ y0, I_ y1, .int .u64 y2, .slice ay ny cy] 67))) := Za (Zu B1.out _)
  have X1 := Za (((Zd W1 (.cells #[I_ yk, I_ yo, I_ ya, I_ y0, I_ y1, .int .u64 y2, .slice ay ny cy] 67)).block _ (Ze Y1.out)).trans Y1.out)
  have X2 := Za (((Zd W1 (.cells #[I_ yk, I_ yo, I_ ya, I_ y0, I_ y1, .int .u64 y2, .slice ay ny cy] 67)).block _ (Ze Y2.out)).trans Y2.out)
  have X3 := Za (Wv.new W1 yk yo ya y0 y1 y2 (.slice ay ny cy))
  have c2 := ((Zd W1 (.cells #[I_ yk, I_ yo, I_ ya, I_ y0, I_ y1, .int .u64 y2, .slice ay ny cy] 67)).cell (p := ⟨t, 0, none⟩) (Nat.lt_of_lt_of_le HT.out B1.out.size)).trans c1
  have SZ := Za (And.intro (Ze Y2.out) B1.out.size)
  obtain ⟨bl, hbl⟩ : ∃ bl, W1.heap.size = bl := ⟨_, rfl⟩
  rw [hbl] at X3 SZ ⊢
  clear e0 e1 e2 e3 e4 e5 e6 c1 Y1 Y2 B1 hbl
  generalize W1.alloc _ = W2 at *
  by_cases hc1 : c = 1
  · have hn0 : n = 0 := by omega
    subst hn0
    subst hc1
    have HF := Za (HU.out.bel B2.out)
    have f0 : W2.frozen? ⟨t, 0, none⟩ = false := by
      obtain ⟨b', hb'⟩ : ∃ b', ps[i]? = some b' := ⟨_, List.getElem?_eq_getElem (by rw [HU.out.pl]; exact (G_ HX.out.1))⟩
      obtain ⟨⟨va', vw', q1, q2, q3, q4⟩, q5, q6⟩ := HF.out.gr i x b' t HX.out.1 hb' HX.out.2
      exact Zc q3 0
    have WR : WRow W2 R (.slice (some ⟨b2, o2, none⟩) 0 (1 - 1)) l := by
      have hq := HQ.out
      rw [HN.out] at hq ⊢
      exact (hq.tail rfl (some ⟨b2, o2, none⟩) (fun hl => absurd hl (by have := HN.out; omega))).keep (fun k hk => B2.out.block k (HU.out.rb k hk)) (fun _ h => h)
    simp only [Nat.sub_self] at WR
    have MV := Za (HF.out.moveT HX.out.1 HX.out.2 (.slice (some ⟨b2, o2, none⟩) 0 0) l WR)
    have HTW := Za (Nat.lt_of_lt_of_le HT.out B2.out.size)
    clear WR HF
    go_upto_region 5 with fail
    have Z1 := Za ((Below.heap_setCell W2 ⟨t, 0, none⟩ (.slice (some ⟨b2, o2, none⟩) 0 0) _ (by have := HT.out; simp; omega)).trans X1.out)
    have Z2 := Za ((Below.heap_setCell W2 ⟨t, 0, none⟩ (.slice (some ⟨b2, o2, none⟩) 0 0) _ (by have := HT.out; simp; omega)).trans X2.out)
    have Z3 : Hid (Wv (W2.setCell ⟨t, 0, none⟩ (.slice (some ⟨b2, o2, none⟩) 0 0)) bl yk yo ya (y0, y1, y2) (.slice ay ny cy)) := Za ((Below.heap_setCell W2 ⟨t, 0, none⟩ (.slice (some ⟨b2, o2, none⟩) 0 0) _ (by have := HT.out; have := SZ.out; simp; omega)).trans X3.out)
    have RN := Za (Yk HG.out MV.out.1 MV.out.2)
    have AR : Hid (YN (W2.setCell ⟨t, 0, none⟩ (.slice (some ⟨b2, o2, none⟩) 0 0)) R (.slice ay ny cy)) := Za (HA.out.keep (fun k hk => (Below.heap_setCell _ _ _ _ (fun e => by
      obtain ⟨b', hb'⟩ : ∃ b', ps[i]? = some b' := ⟨_, List.getElem?_eq_getElem (by rw [HU.out.pl]; exact (G_ HX.out.1))⟩
      obtain ⟨_, q5, q6⟩ := HU.out.gr i x b' t HX.out.1 hb' HX.out.2
      have e' : k = t := e
      subst e'
      exact HU.out.ro _ hk q6)).trans (B2.out.block k (HU.out.rb k hk))) (fun _ h => h))
    have B3 := Za (And.intro ((Ch.of_bel B2.out).trans RN.out.2) RN.out.1)
    have K3 : Hid (∀ k, k < w.heap.size -> k ≠ t -> (W2.setCell ⟨t, 0, none⟩ (.slice (some ⟨b2, o2, none⟩) 0 0)).heap[k]? = w.heap[k]?) := Za (fun k hk hne => (Below.heap_setCell _ _ _ _ hne).trans (B2.out.block k hk))
    have S3 := Za (And.intro B2.out.size (by rw [Zi]; exact Nat.le_refl _ : W2.heap.size <= (W2.setCell ⟨t, 0, none⟩ (.slice (some ⟨b2, o2, none⟩) 0 0)).heap.size))
    have GL : Hid (∀ k, (Fs k ∨ Fo k ∨ R k) -> k < w.heap.size) := Za (fun k hk => HU.out.lt hk)
    clear MV RN X1 X2 X3 f0 c2 HU HQ HN HX HA
    generalize W2.setCell ⟨t, 0, none⟩ (.slice (some ⟨b2, o2, none⟩) 0 0) = W3 at *
    obtain ⟨q0, q1, q2, q3, q4, q5, q6⟩ := Z3.out.all
    have hkb : (yk == 0) = false := by simp [hk]
    have CL := Za (wclone_any yk yo ya y0 y1 y2 (.slice ay ny cy) AR.out)
    go_wp2_with fail
    refine CL.out.mono ?_
    rintro e w4 ⟨v4, rfl, a4, hb4⟩
    obtain ⟨a5, n5, c5, x5, rfl, _⟩ := id a4
    have Y9 := Za ((hb4.block _ (Ze Z1.out)).trans Z1.out)
    have YH := Za ((hb4.block _ (Ze Z2.out)).trans Z2.out)
    have A4 := Za a4
    have B4 := Za hb4
    have S4 := Za (And.intro (Ze Z1.out) (Ze Z2.out))
    clear a4 hb4 CL q0 q1 q2 q3 q4 q5 q6
    have p0 := Zb Y9.out 0 _ rfl
    have p1 := Zb Y9.out 1 _ rfl
    have p2 := Zb Y9.out 2 _ rfl
    have p3 := Zb Y9.out 3 _ rfl
    have p4 := Zb Y9.out 4 _ rfl
    have p5 := Zb Y9.out 5 _ rfl
    have p6 := Zb Y9.out 6 _ rfl
    have f0 := Zc Y9.out 0
    have f1 := Zc Y9.out 1
    have f2 := Zc Y9.out 2
    have f3 := Zc Y9.out 3
    have f4 := Zc Y9.out 4
    have f5 := Zc Y9.out 5
    have f6 := Zc Y9.out 6
    have n0 := Zb YH.out 0 _ rfl
    have n1 := Zb YH.out 1 _ rfl
    have n2 := Zb YH.out 2 _ rfl
    have m0 := Zc YH.out 0
    have m1 := Zc YH.out 1
    have m2 := Zc YH.out 2
    go_wp2_with fail
    have BB : Below w.heap.size w4 ((((set7 w4 (w.heap.size + 1) 0 (I_ yk) (I_ yo) (I_ ya) (I_ y0) (I_ y1) (.int .u64 y2) (.slice a5 n5 c5)).setCell ⟨w.heap.size + 1 + 1, 0, none⟩ (I_ 0)).setCell ⟨w.heap.size + 1 + 1, 1, none⟩ (I_ 0)).setCell ⟨w.heap.size + 1 + 1, 2, none⟩ (I_ 0)) := Zt (ZM (o := 0) (Below.refl _ _) (by omega)) (by omega) _ _ _
    refine YK (w.heap.size + 1) (w.heap.size + 1 + 1) rfl rfl rfl ⟨_, _, _, rfl⟩ ((ne3 (by omega)).trans (ZR Y9.out _ _ _ _ _ _ _)) (YA ((Zy (o := 0) (by omega)).trans YH.out) _ _ _) rfl ⟨_, rfl, ?_, fun k hk hne => ((BB.block k hk).trans (B4.out.block k (by have := S3.out; omega))).trans (K3.out k hk hne), _, (B3.out.2.bel B4.out).low (N := w.heap.size) GL.out BB, ?_⟩
    · refine (A4.out.low (Nat.zero_le _)).keep fun k _ _ hk => ?_
      have hk1 := (A4.out.at hk).1
      have h1 := S4.out
      exact (ne3 (by omega)).trans (Zy (o := 0) (by omega))
    · exact (B3.out.1.trans (Ch.of_bel B4.out)).below BB
  · skip
    have HF := Za (HU.out.bel B2.out)
    have f0 : W2.frozen? ⟨t, 0, none⟩ = false := by
      obtain ⟨b', hb'⟩ : ∃ b', ps[i]? = some b' := ⟨_, List.getElem?_eq_getElem (by rw [HU.out.pl]; exact (G_ HX.out.1))⟩
      obtain ⟨⟨va', vw', q1, q2, q3, q4⟩, q5, q6⟩ := HF.out.gr i x b' t HX.out.1 hb' HX.out.2
      exact Zc q3 0
    have WR : WRow W2 R (.slice (some ⟨b2, o2 + 7, none⟩) n (c - 1)) l := by
      have hq := HQ.out
      rw [HN.out] at hq ⊢
      exact (hq.tail rfl (some ⟨b2, o2 + 7, none⟩) (fun hl => rfl)).keep (fun k hk => B2.out.block k (HU.out.rb k hk)) (fun _ h => h)
    have MV := Za (HF.out.moveT HX.out.1 HX.out.2 (.slice (some ⟨b2, o2 + 7, none⟩) n (c - 1)) l WR)
    have HTW := Za (Nat.lt_of_lt_of_le HT.out B2.out.size)
    clear WR HF
    go_upto_region 5 with fail
    have Z1 := Za ((Below.heap_setCell W2 ⟨t, 0, none⟩ (.slice (some ⟨b2, o2 + 7, none⟩) n (c - 1)) _ (by have := HT.out; simp; omega)).trans X1.out)
    have Z2 := Za ((Below.heap_setCell W2 ⟨t, 0, none⟩ (.slice (some ⟨b2, o2 + 7, none⟩) n (c - 1)) _ (by have := HT.out; simp; omega)).trans X2.out)
    have Z3 : Hid (Wv (W2.setCell ⟨t, 0, none⟩ (.slice (some ⟨b2, o2 + 7, none⟩) n (c - 1))) bl yk yo ya (y0, y1, y2) (.slice ay ny cy)) := Za ((Below.heap_setCell W2 ⟨t, 0, none⟩ (.slice (some ⟨b2, o2 + 7, none⟩) n (c - 1)) _ (by have := HT.out; have := SZ.out; simp; omega)).trans X3.out)
    have RN := Za (Yk HG.out MV.out.1 MV.out.2)
    have AR : Hid (YN (W2.setCell ⟨t, 0, none⟩ (.slice (some ⟨b2, o2 + 7, none⟩) n (c - 1))) R (.slice ay ny cy)) := Za (HA.out.keep (fun k hk => (Below.heap_setCell _ _ _ _ (fun e => by
      obtain ⟨b', hb'⟩ : ∃ b', ps[i]? = some b' := ⟨_, List.getElem?_eq_getElem (by rw [HU.out.pl]; exact (G_ HX.out.1))⟩
      obtain ⟨_, q5, q6⟩ := HU.out.gr i x b' t HX.out.1 hb' HX.out.2
      have e' : k = t := e
      subst e'
      exact HU.out.ro _ hk q6)).trans (B2.out.block k (HU.out.rb k hk))) (fun _ h => h))
    have B3 := Za (And.intro ((Ch.of_bel B2.out).trans RN.out.2) RN.out.1)
    have K3 : Hid (∀ k, k < w.heap.size -> k ≠ t -> (W2.setCell ⟨t, 0, none⟩ (.slice (some ⟨b2, o2 + 7, none⟩) n (c - 1))).heap[k]? = w.heap[k]?) := Za (fun k hk hne => (Below.heap_setCell _ _ _ _ hne).trans (B2.out.block k hk))
    have S3 := Za (And.intro B2.out.size (by rw [Zi]; exact Nat.le_refl _ : W2.heap.size <= (W2.setCell ⟨t, 0, none⟩ (.slice (some ⟨b2, o2 + 7, none⟩) n (c - 1))).heap.size))
    have GL : Hid (∀ k, (Fs k ∨ Fo k ∨ R k) -> k < w.heap.size) := Za (fun k hk => HU.out.lt hk)
    clear MV RN X1 X2 X3 f0 c2 HU HQ HN HX HA
    generalize W2.setCell ⟨t, 0, none⟩ (.slice (some ⟨b2, o2 + 7, none⟩) n (c - 1)) = W3 at *
    obtain ⟨q0, q1, q2, q3, q4, q5, q6⟩ := Z3.out.all
    have hkb : (yk == 0) = false := by simp [hk]
    have CL := Za (wclone_any yk yo ya y0 y1 y2 (.slice ay ny cy) AR.out)
    go_wp2_with fail
    refine CL.out.mono ?_
    rintro e w4 ⟨v4, rfl, a4, hb4⟩
    obtain ⟨a5, n5, c5, x5, rfl, _⟩ := id a4
    have Y9 := Za ((hb4.block _ (Ze Z1.out)).trans Z1.out)
    have YH := Za ((hb4.block _ (Ze Z2.out)).trans Z2.out)
    have A4 := Za a4
    have B4 := Za hb4
    have S4 := Za (And.intro (Ze Z1.out) (Ze Z2.out))
    clear a4 hb4 CL q0 q1 q2 q3 q4 q5 q6
    have p0 := Zb Y9.out 0 _ rfl
    have p1 := Zb Y9.out 1 _ rfl
    have p2 := Zb Y9.out 2 _ rfl
    have p3 := Zb Y9.out 3 _ rfl
    have p4 := Zb Y9.out 4 _ rfl
    have p5 := Zb Y9.out 5 _ rfl
    have p6 := Zb Y9.out 6 _ rfl
    have f0 := Zc Y9.out 0
    have f1 := Zc Y9.out 1
    have f2 := Zc Y9.out 2
    have f3 := Zc Y9.out 3
    have f4 := Zc Y9.out 4
    have f5 := Zc Y9.out 5
    have f6 := Zc Y9.out 6
    have n0 := Zb YH.out 0 _ rfl
    have n1 := Zb YH.out 1 _ rfl
    have n2 := Zb YH.out 2 _ rfl
    have m0 := Zc YH.out 0
    have m1 := Zc YH.out 1
    have m2 := Zc YH.out 2
    go_wp2_with fail
    have BB : Below w.heap.size w4 ((((set7 w4 (w.heap.size + 1) 0 (I_ yk) (I_ yo) (I_ ya) (I_ y0) (I_ y1) (.int .u64 y2) (.slice a5 n5 c5)).setCell ⟨w.heap.size + 1 + 1, 0, none⟩ (I_ 0)).setCell ⟨w.heap.size + 1 + 1, 1, none⟩ (I_ 0)).setCell ⟨w.heap.size + 1 + 1, 2, none⟩ (I_ 0)) := Zt (ZM (o := 0) (Below.refl _ _) (by omega)) (by omega) _ _ _
    refine YK (w.heap.size + 1) (w.heap.size + 1 + 1) rfl rfl rfl ⟨_, _, _, rfl⟩ ((ne3 (by omega)).trans (ZR Y9.out _ _ _ _ _ _ _)) (YA ((Zy (o := 0) (by omega)).trans YH.out) _ _ _) rfl ⟨_, rfl, ?_, fun k hk hne => ((BB.block k hk).trans (B4.out.block k (by have := S3.out; omega))).trans (K3.out k hk hne), _, (B3.out.2.bel B4.out).low (N := w.heap.size) GL.out BB, ?_⟩
    · refine (A4.out.low (Nat.zero_le _)).keep fun k _ _ hk => ?_
      have hk1 := (A4.out.at hk).1
      have h1 := S4.out
      exact (ne3 (by omega)).trans (Zy (o := 0) (by omega))
    · exact (B3.out.1.trans (Ch.of_bel B4.out)).below BB
end Go.Proofs.YtfojninaginnoaaGreatDoor.Ck
