/- Texts of this proof, packed: contracts of the program's functions, and the plain model that they are held against. -/
import Derived.Test.YtfojninaginnoaaGreatDoorQak
import Derived.Deep.RegionHeld
set_option maxRecDepth 20000
set_option maxHeartbeats 4000000
namespace Go.Proofs.YtfojninaginnoaaGreatDoor.Ck
open Go.RowKit
theorem bel_low {N : Nat} {w wa wb : World} (h : Below N w wa) (k : Below N wa wb) : Below N w wb := h.trans k
theorem ret_w3 {fn : Func} {Q : Ending -> World -> Prop} {a : Act} {w : World} {p q : Tmp} (b b2 : Nat) {x : Wt} {y : V3} (hf : fn.results = #[.cell p 76, .cell q 100]) (hp : a.tmps.getD p undef = P_ b) (hq : a.tmps.getD q undef = P_ b2)
    (h : w.heap[b]? = some (.cells #[I_ x.k, I_ x.o, I_ x.a, I_ x.v.1, I_ x.v.2.1, .int .u64 x.v.2.2] 76 (0, 0))) (h2 : w.heap[b2]? = some (.cells #[I_ y.1, I_ y.2.1, I_ y.2.2] 100 (0, 0))) (hdf : a.defers = []) (hR : Q (.returned (.tuple #[w6V x, h3V y])) w) : bodyPost Tryz.prog fn Q .ret a w :=
  bodyPost_ret (by
    have hp' : a.tmps[p]?.getD undef = P_ b := by simpa using hp
    have hq' : a.tmps[q]?.getD undef = P_ b2 := by simpa using hq
    have q0 := Zb h 0 _ rfl
    have q1 := Zb h 1 _ rfl
    have q2 := Zb h 2 _ rfl
    have q3 := Zb h 3 _ rfl
    have q4 := Zb h 4 _ rfl
    have q5 := Zb h 5 _ rfl
    have p0 := Zb h2 0 _ rfl
    have p1 := Zb h2 1 _ rfl
    have p2 := Zb h2 2 _ rfl
    simp [results, hf, hp', hq', go_sem, q0, q1, q2, q3, q4, q5, p0, p1, p2, w6V, h3V]) hdf hR
theorem set6 {w : World} {b : Nat} {T : TypeId} {y0 y1 y2 y3 y4 y5 : Value} (h : w.heap[b]? = some (.cells #[y0, y1, y2, y3, y4, y5] T (0, 0))) (x0 x1 x2 x3 x4 x5 : Value) : ((((((w.setCell ⟨b, 0, none⟩ x0).setCell ⟨b, 1, none⟩ x1).setCell ⟨b, 2, none⟩ x2).setCell ⟨b, 3, none⟩ x3).setCell ⟨b, 4, none⟩ x4).setCell ⟨b, 5, none⟩ x5).heap[b]? = some (.cells #[x0, x1, x2, x3, x4, x5] T (0, 0)) := by
 have h0 : (w.setCell ⟨b, 0, none⟩ x0).heap[b]? = some (.cells #[x0, y1, y2, y3, y4, y5] T (0, 0)) := heap_setCell_same _ _ _ _ _ _ h
 have h1 : ((w.setCell ⟨b, 0, none⟩ x0).setCell ⟨b, 1, none⟩ x1).heap[b]? = some (.cells #[x0, x1, y2, y3, y4, y5] T (0, 0)) := heap_setCell_same _ _ _ _ _ _ h0
 have h2 : (((w.setCell ⟨b, 0, none⟩ x0).setCell ⟨b, 1, none⟩ x1).setCell ⟨b, 2, none⟩ x2).heap[b]? = some (.cells #[x0, x1, x2, y3, y4, y5] T (0, 0)) := heap_setCell_same _ _ _ _ _ _ h1
 have h3 : ((((w.setCell ⟨b, 0, none⟩ x0).setCell ⟨b, 1, none⟩ x1).setCell ⟨b, 2, none⟩ x2).setCell ⟨b, 3, none⟩ x3).heap[b]? = some (.cells #[x0, x1, x2, x3, y4, y5] T (0, 0)) := heap_setCell_same _ _ _ _ _ _ h2
 have h4 : (((((w.setCell ⟨b, 0, none⟩ x0).setCell ⟨b, 1, none⟩ x1).setCell ⟨b, 2, none⟩ x2).setCell ⟨b, 3, none⟩ x3).setCell ⟨b, 4, none⟩ x4).heap[b]? = some (.cells #[x0, x1, x2, x3, x4, y5] T (0, 0)) := heap_setCell_same _ _ _ _ _ _ h3
 exact heap_setCell_same _ _ _ _ _ _ h4
theorem bel6 {N b : Nat} {w wa : World} (h : Below N w wa) (hb : N <= b) (x0 x1 x2 x3 x4 x5 : Value) : Below N w ((((((wa.setCell ⟨b, 0, none⟩ x0).setCell ⟨b, 1, none⟩ x1).setCell ⟨b, 2, none⟩ x2).setCell ⟨b, 3, none⟩ x3).setCell ⟨b, 4, none⟩ x4).setCell ⟨b, 5, none⟩ x5) :=
 (((((h.setCell (p := ⟨b, 0, none⟩) hb x0).setCell (p := ⟨b, 1, none⟩) hb x1).setCell (p := ⟨b, 2, none⟩) hb x2).setCell (p := ⟨b, 3, none⟩) hb x3).setCell (p := ⟨b, 4, none⟩) hb x4).setCell (p := ⟨b, 5, none⟩) hb x5
theorem ne6 {w : World} {b k : Nat} {x0 x1 x2 x3 x4 x5 : Value} (h : k ≠ b) : ((((((w.setCell ⟨b, 0, none⟩ x0).setCell ⟨b, 1, none⟩ x1).setCell ⟨b, 2, none⟩ x2).setCell ⟨b, 3, none⟩ x3).setCell ⟨b, 4, none⟩ x4).setCell ⟨b, 5, none⟩ x5).heap[k]? = w.heap[k]? :=
 (Below.heap_setCell _ _ _ _ h).trans ((Below.heap_setCell _ _ _ _ h).trans ((Below.heap_setCell _ _ _ _ h).trans ((Below.heap_setCell _ _ _ _ h).trans ((Below.heap_setCell _ _ _ _ h).trans (Below.heap_setCell _ _ _ _ h)))))
theorem two_set {w : World} {b b2 : Nat} {y0 y1 y2 y3 y4 y5 z0 z1 z2 : Value} (hne : b ≠ b2) (h : w.heap[b]? = some (.cells #[y0, y1, y2, y3, y4, y5] 76 (0, 0))) (h2 : w.heap[b2]? = some (.cells #[z0, z1, z2] 100 (0, 0))) (x0 x1 x2 x3 x4 x5 u0 u1 u2 : Value) :
 let w1 := (((((w.setCell ⟨b, 0, none⟩ x0).setCell ⟨b, 1, none⟩ x1).setCell ⟨b, 2, none⟩ x2).setCell ⟨b, 3, none⟩ x3).setCell ⟨b, 4, none⟩ x4).setCell ⟨b, 5, none⟩ x5
 let w2 := ((w1.setCell ⟨b2, 0, none⟩ u0).setCell ⟨b2, 1, none⟩ u1).setCell ⟨b2, 2, none⟩ u2
 w2.heap[b]? = some (.cells #[x0, x1, x2, x3, x4, x5] 76 (0, 0)) /\ w2.heap[b2]? = some (.cells #[u0, u1, u2] 100 (0, 0)) :=
 ⟨(ne3 hne).trans (set6 h _ _ _ _ _ _), YA ((ne6 (fun e => hne e.symm)).trans h2) _ _ _⟩
theorem next_0 {w : World} {G Fs Rs Fo R : Nat -> Prop} {B g gs gt : Nat} {S : List (List Wt)} {r : Rz} {vW vE vL vO vA : Value} {vs : List Value} {os as_ : List Nat} (h : Rq w Fs Rs Fo R B g gs gt S r vW vE vL vO vA vs os as_) (hG : ∀ k, G k ↔ Fs k ∨ Rs k ∨ Fo k ∨ R k) (i : Nat) (hx : r.pe[i]? = some []) : Calls Tryz.prog 75 #[P_ gt, I_ (i : Nat)] w (RrP w G B g S r (.tuple #[w6V ⟨12, 0, 0, z3⟩, h3V z3])) := by
  have hol := h.ol
  have hil : i < r.pe.length := (G_ hx)
  obtain ⟨o, ho⟩ : ∃ o, os[i]? = some o := ⟨_, List.getElem?_eq_getElem (by omega)⟩
  obtain ⟨a, ha⟩ : ∃ a, as_[i]? = some a := ⟨_, List.getElem?_eq_getElem (by omega)⟩
  obtain ⟨l, hl, hal, hxd⟩ := h.pos i _ o a hx ho ha
  have hoS : o < S.length := (G_ hl)
  obtain ⟨v, hv⟩ : ∃ v, vs[o]? = some v := ⟨_, List.getElem?_eq_getElem (by omega)⟩
  obtain ⟨bO, cO, eO, _⟩ := Zq h.of (by omega)
  obtain ⟨bA, cA, eA, _⟩ := Zq h.at' (by omega)
  obtain ⟨bL, cL, eL, _⟩ := Zq h.al (by omega)
  obtain ⟨nP, hnP⟩ : ∃ n, n = r.pe.length := ⟨_, rfl⟩
  obtain ⟨nS, hnS⟩ : ∃ n, n = S.length := ⟨_, rfl⟩
  obtain ⟨nl, hnl⟩ : ∃ n, n = l.length := ⟨_, rfl⟩
  rw [← hnP] at eO eA hil
  rw [← hnS] at eL hoS
  have hnl2 : nl <= 2000 := by rw [hnl]; exact h.sz.2 l (List.mem_of_getElem? hl)
  have hnS2 : nS <= 2000 := by rw [hnS]; exact h.sz.1
  have hnP9 : nP <= 9 := by rw [hnP]; exact h.n8.2
  rw [← hnl] at hal
  subst eO eA eL
  have HB := Za (Zu (Zd w (.cells #[I_ 0, I_ 0, I_ 0, I_ 0, I_ 0, .int .u64 0] 76)) (.cells #[I_ 0, I_ 0, I_ 0] 100))
  have Y1 : Hid (((w.alloc (.cells #[I_ 0, I_ 0, I_ 0, I_ 0, I_ 0, .int .u64 0] 76)).alloc (.cells #[I_ 0, I_ 0, I_ 0] 100)).heap[w.heap.size]? = some (.cells #[I_ 0, I_ 0, I_ 0, I_ 0, I_ 0, .int .u64 0] 76 (0, 0))) := Za (((Zd _ _).block _ (by simp)).trans (B_ w (.cells #[I_ 0, I_ 0, I_ 0, I_ 0, I_ 0, .int .u64 0] 76)))
  have Y2 : Hid (((w.alloc (.cells #[I_ 0, I_ 0, I_ 0, I_ 0, I_ 0, .int .u64 0] 76)).alloc (.cells #[I_ 0, I_ 0, I_ 0] 100)).heap[w.heap.size + 1]? = some (.cells #[I_ 0, I_ 0, I_ 0] 100 (0, 0))) := Za (by
    have e1 := B_ (w.alloc (.cells #[I_ 0, I_ 0, I_ 0, I_ 0, I_ 0, .int .u64 0] 76)) (.cells #[I_ 0, I_ 0, I_ 0] 100)
    have hs : (w.alloc (.cells #[I_ 0, I_ 0, I_ 0, I_ 0, I_ 0, .int .u64 0] 76)).heap.size = w.heap.size + 1 := by simp
    rw [hs] at e1
    exact e1)
  have h1 := h.bel HB.out
  obtain ⟨av, cv, ev, _⟩ := Zl (h1.row o l v hl hv).1
  rw [← hnl] at ev
  subst ev
  have c0 := h1.cells.2.2.1
  have c1 := h1.cells.2.2.2.1
  have c2 := h1.cells.2.2.2.2
  have cO' := (Zk h1.of i _ (nns_at ho)).1
  have cL' := (Zk h1.al o _ hv).1
  have H1 := Za h1
  have HG := Za hG
  have HX := Za (And.intro hx (And.intro ho (And.intro ha (And.intro hl (And.intro hxd hv)))))
  have HLO := Za (fun k hk => h.lt (k := k) hk)
  have HNL := Za hnl
  have hge : nl <= a := by
    have := congrArg List.length hxd
    rw [List.length_drop] at this
    simp at this
    omega
  obtain rfl : a = nl := by omega
  clear h h1 hG hx ho ha hl hxd hv hol hnP hnS hnl
  go_enter Tryz.func75, Tryz.ntmps75
  go_upto_region 1 with fail
  generalize (w.alloc _).alloc _ = w1 at *
  go_quiet (fail)
  generalize hwq : World.drewN w1 _ = wq
  have BQ := Za (show Below w1.heap.size w1 wq from hwq ▸ below_drewN (Below.refl _ _) _)
  have HQ := Za (H1.out.bel BQ.out)
  have HBQ := Za (Zg HB.out BQ.out)
  have Y1q := Za ((BQ.out.block _ (Ze Y1.out)).trans Y1.out)
  have Y2q := Za ((BQ.out.block _ (Ze Y2.out)).trans Y2.out)
  clear hwq c0 c1 c2 cO' cL' Y1 Y2 H1 HB BQ
  have c2 := HQ.out.cells.2.2.2.2
  obtain ⟨cA1, cA2⟩ := Zk HQ.out.at' i _ (nns_at HX.out.2.2.1)
  obtain ⟨p0, p1, p2, p3, p4, p5⟩ : (wq.cell? ⟨w.heap.size, 0, none⟩ = some (I_ 0) /\ wq.cell? ⟨w.heap.size, 1, none⟩ = some (I_ 0) /\ wq.cell? ⟨w.heap.size, 2, none⟩ = some (I_ 0) /\ wq.cell? ⟨w.heap.size, 3, none⟩ = some (I_ 0) /\ wq.cell? ⟨w.heap.size, 4, none⟩ = some (I_ 0) /\ wq.cell? ⟨w.heap.size, 5, none⟩ = some (.int .u64 0)) := ⟨Zb Y1q.out 0 _ rfl, Zb Y1q.out 1 _ rfl, Zb Y1q.out 2 _ rfl, Zb Y1q.out 3 _ rfl, Zb Y1q.out 4 _ rfl, Zb Y1q.out 5 _ rfl⟩
  have f0 := Zc Y1q.out 0
  have f1 := Zc Y1q.out 1
  have f2 := Zc Y1q.out 2
  have f3 := Zc Y1q.out 3
  have f4 := Zc Y1q.out 4
  have f5 := Zc Y1q.out 5
  have n0 := Zb Y2q.out 0 _ rfl
  have m0 := Zc Y2q.out 0
  have n1 := Zb Y2q.out 1 _ rfl
  have m1 := Zc Y2q.out 1
  have n2 := Zb Y2q.out 2 _ rfl
  have m2 := Zc Y2q.out 2
  have T2 := Za (two_set (by omega) Y1q.out Y2q.out (I_ 12) (I_ 0) (I_ 0) (I_ 0) (I_ 0) (.int .u64 0) (I_ 0) (I_ 0) (I_ 0))
  have BB := Za (Zt (bel6 (Below.refl w.heap.size wq) (Nat.le_refl w.heap.size) (I_ 12) (I_ 0) (I_ 0) (I_ 0) (I_ 0) (.int .u64 0)) (Nat.le_succ w.heap.size) (I_ 0) (I_ 0) (I_ 0))
  go_wp2_with fail
  exact ret_w3 (x := ⟨12, 0, 0, (0, 0, 0)⟩) (y := (0, 0, 0)) w.heap.size (w.heap.size + 1) rfl rfl rfl T2.out.1 T2.out.2 rfl ⟨rfl, G, ⟨_, _, _, _, _, _, _, _, _, _, _, _, _, _, HQ.out.low HLO.out BB.out, HG.out⟩, Ch.of_bel (bel_low HBQ.out BB.out)⟩
theorem own_ad {w : World} {B : Nat} {T : TypeId} {n : Nat} {a : Option Addr} {m c len : Nat} {xs : List Value} (h : w.ownsRow B T n (.slice a m c) len xs) (hl : 0 < len) : ∃ b, a = some ⟨b, 0, none⟩ := by
 obtain ⟨b, c', e, _⟩ := Zq h hl
 cases e
 exact ⟨b, rfl⟩
theorem next_w {w : World} {G Fs Rs Fo R : Nat -> Prop} {B g gs gt : Nat} {S : List (List Wt)} {r : Rz} {vW vE vL vO vA : Value} {vs : List Value} {os as_ : List Nat} (h : Rq w Fs Rs Fo R B g gs gt S r vW vE vL vO vA vs os as_) (hG : ∀ k, G k ↔ Fs k ∨ Rs k ∨ Fo k ∨ R k) (i : Nat) (y : Wt) (tl : List Wt) (hx : r.pe[i]? = some (y :: tl)) (hk : ¬ y.k = 0) : Calls Tryz.prog 75 #[P_ gt, I_ (i : Nat)] w (RrP w G B g S { r with pe := r.pe.set i tl } (.tuple #[w6V y, h3V z3])) := by
  have hol := h.ol
  have hil : i < r.pe.length := (G_ hx)
  obtain ⟨o, ho⟩ : ∃ o, os[i]? = some o := ⟨_, List.getElem?_eq_getElem (by omega)⟩
  obtain ⟨a, ha⟩ : ∃ a, as_[i]? = some a := ⟨_, List.getElem?_eq_getElem (by omega)⟩
  obtain ⟨l, hl, hal, hxd⟩ := h.pos i _ o a hx ho ha
  have hoS : o < S.length := (G_ hl)
  obtain ⟨v, hv⟩ : ∃ v, vs[o]? = some v := ⟨_, List.getElem?_eq_getElem (by omega)⟩
  obtain ⟨bO, cO, eO, _⟩ := Zq h.of (by omega)
  obtain ⟨bA, cA, eA, _⟩ := Zq h.at' (by omega)
  obtain ⟨bL, cL, eL, _⟩ := Zq h.al (by omega)
  obtain ⟨nP, hnP⟩ : ∃ n, n = r.pe.length := ⟨_, rfl⟩
  obtain ⟨nS, hnS⟩ : ∃ n, n = S.length := ⟨_, rfl⟩
  obtain ⟨nl, hnl⟩ : ∃ n, n = l.length := ⟨_, rfl⟩
  rw [← hnP] at eO eA hil
  rw [← hnS] at eL hoS
  have hnl2 : nl <= 2000 := by rw [hnl]; exact h.sz.2 l (List.mem_of_getElem? hl)
  have hnS2 : nS <= 2000 := by rw [hnS]; exact h.sz.1
  have hnP9 : nP <= 9 := by rw [hnP]; exact h.n8.2
  rw [← hnl] at hal
  subst eO eA eL
  have HB := Za (Zu (Zd w (.cells #[I_ 0, I_ 0, I_ 0, I_ 0, I_ 0, .int .u64 0] 76)) (.cells #[I_ 0, I_ 0, I_ 0] 100))
  have Y1 : Hid (((w.alloc (.cells #[I_ 0, I_ 0, I_ 0, I_ 0, I_ 0, .int .u64 0] 76)).alloc (.cells #[I_ 0, I_ 0, I_ 0] 100)).heap[w.heap.size]? = some (.cells #[I_ 0, I_ 0, I_ 0, I_ 0, I_ 0, .int .u64 0] 76 (0, 0))) := Za (((Zd _ _).block _ (by simp)).trans (B_ w (.cells #[I_ 0, I_ 0, I_ 0, I_ 0, I_ 0, .int .u64 0] 76)))
  have Y2 : Hid (((w.alloc (.cells #[I_ 0, I_ 0, I_ 0, I_ 0, I_ 0, .int .u64 0] 76)).alloc (.cells #[I_ 0, I_ 0, I_ 0] 100)).heap[w.heap.size + 1]? = some (.cells #[I_ 0, I_ 0, I_ 0] 100 (0, 0))) := Za (by
    have e1 := B_ (w.alloc (.cells #[I_ 0, I_ 0, I_ 0, I_ 0, I_ 0, .int .u64 0] 76)) (.cells #[I_ 0, I_ 0, I_ 0] 100)
    have hs : (w.alloc (.cells #[I_ 0, I_ 0, I_ 0, I_ 0, I_ 0, .int .u64 0] 76)).heap.size = w.heap.size + 1 := by simp
    rw [hs] at e1
    exact e1)
  have h1 := h.bel HB.out
  obtain ⟨av, cv, ev, _⟩ := Zl (h1.row o l v hl hv).1
  rw [← hnl] at ev
  subst ev
  have c0 := h1.cells.2.2.1
  have c1 := h1.cells.2.2.2.1
  have c2 := h1.cells.2.2.2.2
  have cO' := (Zk h1.of i _ (nns_at ho)).1
  have cL' := (Zk h1.al o _ hv).1
  have H1 := Za h1
  have HG := Za hG
  have HX := Za (And.intro hx (And.intro ho (And.intro ha (And.intro hl (And.intro hxd hv)))))
  have HLO := Za (fun k hk => h.lt (k := k) hk)
  have HNL := Za hnl
  have hya : l[a]? = some y := by
    have := congrArg (fun q => q[0]?) hxd
    simpa using this.symm
  have hlt : a < nl := by
    have := (G_ hya)
    omega
  obtain ⟨bv, eB⟩ := own_ad (h1.row o l _ hl hv).1 (by omega)
  subst eB
  have HYA := Za hya
  clear hya
  clear h h1 hG hx ho ha hl hxd hv hol hnP hnS hnl
  go_enter Tryz.func75, Tryz.ntmps75
  go_upto_region 1 with fail
  generalize (w.alloc _).alloc _ = w1 at *
  go_quiet (fail)
  generalize hwq : World.drewN w1 _ = wq
  have BQ := Za (show Below w1.heap.size w1 wq from hwq ▸ below_drewN (Below.refl _ _) _)
  have HQ := Za (H1.out.bel BQ.out)
  have HBQ := Za (Zg HB.out BQ.out)
  have Y1q := Za ((BQ.out.block _ (Ze Y1.out)).trans Y1.out)
  have Y2q := Za ((BQ.out.block _ (Ze Y2.out)).trans Y2.out)
  clear hwq c0 c1 c2 cO' cL' Y1 Y2 H1 HB BQ
  have c2 := HQ.out.cells.2.2.2.2
  obtain ⟨cA1, cA2⟩ := Zk HQ.out.at' i _ (nns_at HX.out.2.2.1)
  have SM := Za (HQ.out.movT i a o _ HX.out.1 HX.out.2.2.1 HX.out.2.1 l HX.out.2.2.2.1 (by have := HNL.out; omega) HX.out.2.2.2.2.1)
  have RW := Za (rr_wide HG.out SM.out.1 SM.out.2)
  have hbA : bA < w.heap.size := HLO.out bA (.inr (.inr (.inl (HQ.out.fA bA rfl))))
  have Y1s : Hid ((wq.setCell ⟨bA, i, none⟩ (I_ ((a : Int) + 1))).heap[w.heap.size]? = _) := Za ((Below.heap_setCell _ _ _ _ (fun e => by have e2 : w.heap.size = bA := e; omega)).trans Y1q.out)
  have Y2s : Hid ((wq.setCell ⟨bA, i, none⟩ (I_ ((a : Int) + 1))).heap[w.heap.size + 1]? = _) := Za ((Below.heap_setCell _ _ _ _ (fun e => by have e2 : w.heap.size + 1 = bA := e; omega)).trans Y2q.out)
  clear Y1q Y2q hbA
  go_upto_region 6 with fail
  generalize wq.setCell ⟨bA, i, none⟩ (I_ ((a : Int) + 1)) = ws at *
  obtain ⟨z0, z1, z2, z3_, z4, z5⟩ := w6s_at _ _ _ HYA.out
  have RO := (SM.out.1.row o l _ HX.out.2.2.2.1 HX.out.2.2.2.2.2).1
  have g0 := (Zk RO _ _ z0).1
  have g1 := (Zk RO _ _ z1).1
  have g2 := (Zk RO _ _ z2).1
  have g3 := (Zk RO _ _ z3_).1
  have g4 := (Zk RO _ _ z4).1
  have g5 := (Zk RO _ _ z5).1
  have HBV := Za (SM.out.1.lt (k := bv) (.inr (.inr (.inr ((SM.out.1.row o l _ HX.out.2.2.2.1 HX.out.2.2.2.2.2).2 bv rfl)))))
  clear c2 cA1 cA2 z0 z1 z2 z3_ z4 z5 RO
  obtain ⟨p0, p1, p2, p3, p4, p5⟩ : (ws.cell? ⟨w.heap.size, 0, none⟩ = some (I_ 0) /\ ws.cell? ⟨w.heap.size, 1, none⟩ = some (I_ 0) /\ ws.cell? ⟨w.heap.size, 2, none⟩ = some (I_ 0) /\ ws.cell? ⟨w.heap.size, 3, none⟩ = some (I_ 0) /\ ws.cell? ⟨w.heap.size, 4, none⟩ = some (I_ 0) /\ ws.cell? ⟨w.heap.size, 5, none⟩ = some (.int .u64 0)) := ⟨Zb Y1s.out 0 _ rfl, Zb Y1s.out 1 _ rfl, Zb Y1s.out 2 _ rfl, Zb Y1s.out 3 _ rfl, Zb Y1s.out 4 _ rfl, Zb Y1s.out 5 _ rfl⟩
  have f0 := Zc Y1s.out 0
  have f1 := Zc Y1s.out 1
  have f2 := Zc Y1s.out 2
  have f3 := Zc Y1s.out 3
  have f4 := Zc Y1s.out 4
  have f5 := Zc Y1s.out 5
  have n0 := Zb Y2s.out 0 _ rfl
  have m0 := Zc Y2s.out 0
  have n1 := Zb Y2s.out 1 _ rfl
  have m1 := Zc Y2s.out 1
  have n2 := Zb Y2s.out 2 _ rfl
  have m2 := Zc Y2s.out 2
  have T2 := Za (two_set (by omega) Y1s.out Y2s.out (I_ y.k) (I_ y.o) (I_ y.a) (I_ y.v.1) (I_ y.v.2.1) (.int .u64 y.v.2.2) (I_ 0) (I_ 0) (I_ 0))
  have BB := Za (Zt (bel6 (Below.refl w.heap.size ws) (Nat.le_refl w.heap.size) (I_ y.k) (I_ y.o) (I_ y.a) (I_ y.v.1) (I_ y.v.2.1) (.int .u64 y.v.2.2)) (Nat.le_succ w.heap.size) (I_ 0) (I_ 0) (I_ 0))
  go_wp2_with fail
  exact ret_w3 (x := y) (y := (0, 0, 0)) w.heap.size (w.heap.size + 1) rfl rfl rfl T2.out.1 T2.out.2 rfl ⟨rfl, G, ⟨_, _, _, _, _, _, _, _, _, _, _, _, _, _, SM.out.1.low HLO.out BB.out, HG.out⟩, ((Ch.of_bel HBQ.out).trans RW.out.2).below BB.out⟩
theorem next_h {w : World} {G Fs Rs Fo R : Nat -> Prop} {B g gs gt : Nat} {S : List (List Wt)} {r : Rz} {vW vE vL vO vA : Value} {vs : List Value} {os as_ : List Nat} (h : Rq w Fs Rs Fo R B g gs gt S r vW vE vL vO vA vs os as_) (hG : ∀ k, G k ↔ Fs k ∨ Rs k ∨ Fo k ∨ R k) (i : Nat) (y : Wt) (tl : List Wt) (hx : r.pe[i]? = some (y :: tl)) (hk : y.k = 0) : Calls Tryz.prog 75 #[P_ gt, I_ (i : Nat)] w (RrP w G B g S { r with pe := r.pe.set i tl } (.tuple #[w6V zW, h3V (7, y.v.2.1, y.a)])) := by
  have hol := h.ol
  have hil : i < r.pe.length := (G_ hx)
  obtain ⟨o, ho⟩ : ∃ o, os[i]? = some o := ⟨_, List.getElem?_eq_getElem (by omega)⟩
  obtain ⟨a, ha⟩ : ∃ a, as_[i]? = some a := ⟨_, List.getElem?_eq_getElem (by omega)⟩
  obtain ⟨l, hl, hal, hxd⟩ := h.pos i _ o a hx ho ha
  have hoS : o < S.length := (G_ hl)
  obtain ⟨v, hv⟩ : ∃ v, vs[o]? = some v := ⟨_, List.getElem?_eq_getElem (by omega)⟩
  obtain ⟨bO, cO, eO, _⟩ := Zq h.of (by omega)
  obtain ⟨bA, cA, eA, _⟩ := Zq h.at' (by omega)
  obtain ⟨bL, cL, eL, _⟩ := Zq h.al (by omega)
  obtain ⟨nP, hnP⟩ : ∃ n, n = r.pe.length := ⟨_, rfl⟩
  obtain ⟨nS, hnS⟩ : ∃ n, n = S.length := ⟨_, rfl⟩
  obtain ⟨nl, hnl⟩ : ∃ n, n = l.length := ⟨_, rfl⟩
  rw [← hnP] at eO eA hil
  rw [← hnS] at eL hoS
  have hnl2 : nl <= 2000 := by rw [hnl]; exact h.sz.2 l (List.mem_of_getElem? hl)
  have hnS2 : nS <= 2000 := by rw [hnS]; exact h.sz.1
  have hnP9 : nP <= 9 := by rw [hnP]; exact h.n8.2
  rw [← hnl] at hal
  subst eO eA eL
  have HB := Za (Zu (Zd w (.cells #[I_ 0, I_ 0, I_ 0, I_ 0, I_ 0, .int .u64 0] 76)) (.cells #[I_ 0, I_ 0, I_ 0] 100))
  have Y1 : Hid (((w.alloc (.cells #[I_ 0, I_ 0, I_ 0, I_ 0, I_ 0, .int .u64 0] 76)).alloc (.cells #[I_ 0, I_ 0, I_ 0] 100)).heap[w.heap.size]? = some (.cells #[I_ 0, I_ 0, I_ 0, I_ 0, I_ 0, .int .u64 0] 76 (0, 0))) := Za (((Zd _ _).block _ (by simp)).trans (B_ w (.cells #[I_ 0, I_ 0, I_ 0, I_ 0, I_ 0, .int .u64 0] 76)))
  have Y2 : Hid (((w.alloc (.cells #[I_ 0, I_ 0, I_ 0, I_ 0, I_ 0, .int .u64 0] 76)).alloc (.cells #[I_ 0, I_ 0, I_ 0] 100)).heap[w.heap.size + 1]? = some (.cells #[I_ 0, I_ 0, I_ 0] 100 (0, 0))) := Za (by
    have e1 := B_ (w.alloc (.cells #[I_ 0, I_ 0, I_ 0, I_ 0, I_ 0, .int .u64 0] 76)) (.cells #[I_ 0, I_ 0, I_ 0] 100)
    have hs : (w.alloc (.cells #[I_ 0, I_ 0, I_ 0, I_ 0, I_ 0, .int .u64 0] 76)).heap.size = w.heap.size + 1 := by simp
    rw [hs] at e1
    exact e1)
  have h1 := h.bel HB.out
  obtain ⟨av, cv, ev, _⟩ := Zl (h1.row o l v hl hv).1
  rw [← hnl] at ev
  subst ev
  have c0 := h1.cells.2.2.1
  have c1 := h1.cells.2.2.2.1
  have c2 := h1.cells.2.2.2.2
  have cO' := (Zk h1.of i _ (nns_at ho)).1
  have cL' := (Zk h1.al o _ hv).1
  have H1 := Za h1
  have HG := Za hG
  have HX := Za (And.intro hx (And.intro ho (And.intro ha (And.intro hl (And.intro hxd hv)))))
  have HLO := Za (fun k hk => h.lt (k := k) hk)
  have HNL := Za hnl
  have hya : l[a]? = some y := by
    have := congrArg (fun q => q[0]?) hxd
    simpa using this.symm
  have hlt : a < nl := by
    have := (G_ hya)
    omega
  obtain ⟨bv, eB⟩ := own_ad (h1.row o l _ hl hv).1 (by omega)
  subst eB
  have HYA := Za hya
  clear hya
  clear h h1 hG hx ho ha hl hxd hv hol hnP hnS hnl
  go_enter Tryz.func75, Tryz.ntmps75
  go_upto_region 1 with fail
  generalize (w.alloc _).alloc _ = w1 at *
  go_quiet (fail)
  generalize hwq : World.drewN w1 _ = wq
  have BQ := Za (show Below w1.heap.size w1 wq from hwq ▸ below_drewN (Below.refl _ _) _)
  have HQ := Za (H1.out.bel BQ.out)
  have HBQ := Za (Zg HB.out BQ.out)
  have Y1q := Za ((BQ.out.block _ (Ze Y1.out)).trans Y1.out)
  have Y2q := Za ((BQ.out.block _ (Ze Y2.out)).trans Y2.out)
  clear hwq c0 c1 c2 cO' cL' Y1 Y2 H1 HB BQ
  have c2 := HQ.out.cells.2.2.2.2
  obtain ⟨cA1, cA2⟩ := Zk HQ.out.at' i _ (nns_at HX.out.2.2.1)
  have SM := Za (HQ.out.movT i a o _ HX.out.1 HX.out.2.2.1 HX.out.2.1 l HX.out.2.2.2.1 (by have := HNL.out; omega) HX.out.2.2.2.2.1)
  have RW := Za (rr_wide HG.out SM.out.1 SM.out.2)
  have hbA : bA < w.heap.size := HLO.out bA (.inr (.inr (.inl (HQ.out.fA bA rfl))))
  have Y1s : Hid ((wq.setCell ⟨bA, i, none⟩ (I_ ((a : Int) + 1))).heap[w.heap.size]? = _) := Za ((Below.heap_setCell _ _ _ _ (fun e => by have e2 : w.heap.size = bA := e; omega)).trans Y1q.out)
  have Y2s : Hid ((wq.setCell ⟨bA, i, none⟩ (I_ ((a : Int) + 1))).heap[w.heap.size + 1]? = _) := Za ((Below.heap_setCell _ _ _ _ (fun e => by have e2 : w.heap.size + 1 = bA := e; omega)).trans Y2q.out)
  clear Y1q Y2q hbA
  go_upto_region 6 with fail
  generalize wq.setCell ⟨bA, i, none⟩ (I_ ((a : Int) + 1)) = ws at *
  obtain ⟨z0, z1, z2, z3_, z4, z5⟩ := w6s_at _ _ _ HYA.out
  have RO := (SM.out.1.row o l _ HX.out.2.2.2.1 HX.out.2.2.2.2.2).1
  have g0 := (Zk RO _ _ z0).1
  have g1 := (Zk RO _ _ z1).1
  have g2 := (Zk RO _ _ z2).1
  have g3 := (Zk RO _ _ z3_).1
  have g4 := (Zk RO _ _ z4).1
  have g5 := (Zk RO _ _ z5).1
  have HBV := Za (SM.out.1.lt (k := bv) (.inr (.inr (.inr ((SM.out.1.row o l _ HX.out.2.2.2.1 HX.out.2.2.2.2.2).2 bv rfl)))))
  clear c2 cA1 cA2 z0 z1 z2 z3_ z4 z5 RO
  go_wp2_with fail
  refine wp_region_held_drew (S := fun w' => w'.cell? ⟨bv, a * 6 + 2, none⟩ = some (I_ y.a) /\ w'.cell? ⟨bv, a * 6 + 4, none⟩ = some (I_ y.v.2.1)) ZK ⟨g2, g4⟩ (fun hH => ?_)
  have SM' := Za (SM.out.1.bel (Zp (Below.refl _ _)))
  have CC := Za (((Ch.of_bel HBQ.out).trans RW.out.2).drew)
  have Y1d : Hid (ws.drew.heap[w.heap.size]? = _) := Za Y1s.out
  have Y2d : Hid (ws.drew.heap[w.heap.size + 1]? = _) := Za Y2s.out
  have HBV' : Hid (bv < ws.drew.heap.size) := HBV
  have HV1 : Hid (bv < w.heap.size) := Za (HLO.out bv (.inr (.inr (.inr ((SM.out.1.row o l _ HX.out.2.2.2.1 HX.out.2.2.2.2.2).2 bv rfl)))))
  clear g0 g1 g2 g3 g4 g5 SM RW Y1s Y2s HBQ HBV
  generalize ws.drew = wd at *
  refine H2_ 0 hH ?_
  simp only [Act.put, S_]
  refine H2_ 1 hH ?_
  simp only [Act.put, S_]
  refine H2_ 2 hH ?_
  simp only [Act.put, S_]
  refine H2_ 3 hH ?_
  simp only [Act.put, S_]
  refine H2_ 4 hH ?_
  simp only [Act.put, S_]
  refine H2_ 5 hH ?_
  simp only [Act.put, S_]
  refine H_ 6 (v := ?_) ?_ hH ?_
  rotate_left 1
  · (intro w hSw; have q := hSw; clear hSw; go_simp <;> with_reducible rfl)
  simp only [Act.put, S_]
  refine H2_ 7 hH ?_
  simp only [Act.put, S_]
  refine H2_ 8 hH ?_
  simp only [Act.put, S_]
  refine H2_ 9 hH ?_
  simp only [Act.put, S_]
  refine H2_ 10 hH ?_
  simp only [Act.put, S_]
  refine H_ 11 (v := ?_) ?_ hH ?_
  rotate_left 1
  · (intro w hSw; have q := hSw; clear hSw; go_simp <;> with_reducible rfl)
  simp only [Act.put, S_]
  refine H2_ 12 hH ?_
  simp only [Act.put, S_]
  refine RH_ 13 (fun K1 hK1 => ?_)
  obtain ⟨p0, p1, p2, p3, p4, p5⟩ : (wd.cell? ⟨w.heap.size, 0, none⟩ = some (I_ 0) /\ wd.cell? ⟨w.heap.size, 1, none⟩ = some (I_ 0) /\ wd.cell? ⟨w.heap.size, 2, none⟩ = some (I_ 0) /\ wd.cell? ⟨w.heap.size, 3, none⟩ = some (I_ 0) /\ wd.cell? ⟨w.heap.size, 4, none⟩ = some (I_ 0) /\ wd.cell? ⟨w.heap.size, 5, none⟩ = some (.int .u64 0)) := ⟨Zb Y1d.out 0 _ rfl, Zb Y1d.out 1 _ rfl, Zb Y1d.out 2 _ rfl, Zb Y1d.out 3 _ rfl, Zb Y1d.out 4 _ rfl, Zb Y1d.out 5 _ rfl⟩
  have f0 := Zc Y1d.out 0
  have f1 := Zc Y1d.out 1
  have f2 := Zc Y1d.out 2
  have f3 := Zc Y1d.out 3
  have f4 := Zc Y1d.out 4
  have f5 := Zc Y1d.out 5
  have n0 := Zb Y2d.out 0 _ rfl
  have m0 := Zc Y2d.out 0
  have n1 := Zb Y2d.out 1 _ rfl
  have m1 := Zc Y2d.out 1
  have n2 := Zb Y2d.out 2 _ rfl
  have m2 := Zc Y2d.out 2
  go_simp
  refine hK1.out _ _ ⟨(Yh (ne6 (fun e => by have := HV1.out; omega)) hH.1), (Yh (ne6 (fun e => by have := HV1.out; omega)) hH.2)⟩ (fun hH => ?_)
  clear hK1 K1 p0 p1 p2 p3 p4 p5 f0 f1 f2 f3 f4 f5 n0 n1 n2 m0 m1 m2
  have Y2e := Za ((ne6 (x0 := I_ 0) (x1 := I_ 0) (x2 := I_ 0) (x3 := I_ 0) (x4 := I_ 0) (x5 := .int .u64 0) (show w.heap.size + 1 ≠ w.heap.size by omega)).trans Y2d.out)
  refine RH_ 14 (fun K1 hK1 => ?_)
  have n0 := Zb Y2e.out 0 _ rfl
  have m0 := Zc Y2e.out 0
  have n1 := Zb Y2e.out 1 _ rfl
  have m1 := Zc Y2e.out 1
  have n2 := Zb Y2e.out 2 _ rfl
  have m2 := Zc Y2e.out 2
  go_simp
  refine hK1.out _ _ ⟨(Yh (ne3 (fun e => by have := HV1.out; omega)) hH.1), (Yh (ne3 (fun e => by have := HV1.out; omega)) hH.2)⟩ (fun hH => ?_)
  clear hK1 K1 n0 n1 n2 m0 m1 m2
  refine wpAnyH_done (by kernel_rfl) ?_ _
  clear hH
  have T2 := Za (two_set (by omega) Y1d.out Y2d.out (I_ 0) (I_ 0) (I_ 0) (I_ 0) (I_ 0) (.int .u64 0) (I_ 7) (I_ y.v.2.1) (I_ y.a))
  have BB := Za (Zt (bel6 (Below.refl w.heap.size wd) (Nat.le_refl w.heap.size) (I_ 0) (I_ 0) (I_ 0) (I_ 0) (I_ 0) (.int .u64 0)) (Nat.le_succ w.heap.size) (I_ 7) (I_ y.v.2.1) (I_ y.a))
  go_wp2_with fail
  exact ret_w3 (x := ⟨0, 0, 0, (0, 0, 0)⟩) (y := (7, y.v.2.1, y.a)) w.heap.size (w.heap.size + 1) rfl rfl rfl T2.out.1 T2.out.2 rfl ⟨rfl, G, ⟨_, _, _, _, _, _, _, _, _, _, _, _, _, _, SM'.out.low HLO.out BB.out, HG.out⟩, CC.out.below BB.out⟩
theorem rNext_any {w : World} {G Fs Rs Fo R : Nat -> Prop} {B g gs gt : Nat} {S : List (List Wt)} {r : Rz} {vW vE vL vO vA : Value} {vs : List Value} {os as_ : List Nat} (h : Rq w Fs Rs Fo R B g gs gt S r vW vE vL vO vA vs os as_) (hG : ∀ k, G k ↔ Fs k ∨ Rs k ∨ Fo k ∨ R k) (i : Nat) (x : List Wt) (hx : r.pe[i]? = some x) : Calls Tryz.prog 75 #[P_ gt, I_ (i : Nat)] w (RrP w G B g S { r with pe := r.pe.set i (Yw x).2 } (.tuple #[w6V (Yw x).1.1, h3V (Yw x).1.2])) := by
 cases x with
 | nil =>
  have e : r.pe.set i [] = r.pe := set_same _ _ _ hx
  unfold Yw
  simp only [e]
  exact next_0 h hG i hx
 | cons y tl =>
  unfold Yw
  by_cases hk : y.k = 0
  · simp only [if_pos hk]
    exact next_h h hG i y tl hx hk
  · simp only [if_neg hk]
    exact next_w h hG i y tl hx hk
def isR (c : Int) (y : Wt) : Bool := y.k == 6 && y.o == c
def takI (ws : List Wt) (c : Int) : Int := match ws.findIdx? (isR c) with
 | some t => t
 | none => -1
theorem taker_any {w : World} {G : Nat -> Prop} {B g : Nat} {S : List (List Wt)} {r : Rz} (h : Rr w G B g S r) (c : Int) (i : Nat) (x : Wt) (hx : r.ws[i]? = some x) (hk : ¬ x.k = 6) : Calls Tryz.prog 36 #[P_ g, I_ c, I_ (i : Nat)] w (Vb w (I_ (takI r.ws c))) := by
  obtain ⟨Fs, Rs, Fo, R, gs, gt, vW, vE, vL, vO, vA, vs, os, as_, h, hG⟩ := h
  obtain ⟨n, hn⟩ : ∃ n, n = r.ws.length := ⟨_, rfl⟩
  have hi := (G_ hx)
  have hn8 : n <= 8 := by have := h.n8.1; omega
  have hs : Hid ((∀ j, j < n -> isR c (r.ws.getD j zW) = false) -> takI r.ws c = -1) := fun h => by
    unfold takI
    rw [idx_none (fun j hj => h j (by omega))]
  have hs2 : Hid (∀ k, k < n -> (∀ j, j < k -> isR c (r.ws.getD j zW) = false) -> isR c (r.ws.getD k zW) = true -> takI r.ws c = k) := fun k hk h1 h2 => by
    unfold takI
    rw [idx_some (by omega) h1 h2]
  obtain ⟨bW, cW, eW, hcW, hmW⟩ := Zq h.wa (by omega)
  rw [← hn] at eW
  subst eW
  have hbl := h.fb bW (h.fW bW rfl)
  have c1 := h.cells.1.2.1
  have HC : Hid (∀ k, k < n -> ∃ y, r.ws.getD k zW = y /\ (k = i -> y = x) /\ w.cell? ⟨bW, k * 6, none⟩ = some (I_ y.k) /\ w.cell? ⟨bW, k * 6 + 1, none⟩ = some (I_ y.o) /\ w.cell? ⟨bW, k * 6 + 2, none⟩ = some (I_ y.a) /\ w.cell? ⟨bW, k * 6 + 3, none⟩ = some (I_ y.v.1) /\ w.cell? ⟨bW, k * 6 + 4, none⟩ = some (I_ y.v.2.1) /\ w.cell? ⟨bW, k * 6 + 5, none⟩ = some (.int .u64 y.v.2.2)) := Za (fun k hk => by
    obtain ⟨y, hy⟩ : ∃ y, r.ws[k]? = some y := ⟨_, List.getElem?_eq_getElem (by omega)⟩
    obtain ⟨p0, p1, p2, p3, p4, p5⟩ := w6s_at _ _ _ hy
    refine ⟨y, by simp [List.getD, hy], fun e => ?_, (Zk h.wa _ _ p0).1, (Zk h.wa _ _ p1).1, (Zk h.wa _ _ p2).1, (Zk h.wa _ _ p3).1, (Zk h.wa _ _ p4).1, (Zk h.wa _ _ p5).1⟩
    subst e
    rw [hx] at hy
    exact (Option.some.inj hy).symm)
  clear h hG hn hcW hmW hx hi
  generalize takI r.ws c = z at *
  generalize r.ws = ws at *
  go_enter Tryz.func36, Tryz.ntmps36
  go_wp2_with fail
  go_loopw [7, 8, 14] (fun x7 x8 q wr => ∃ k : Nat, k <= n /\ q = I_ k /\ Hid (∀ j, j < k -> isR c (ws.getD j zW) = false) /\ Hid (Below w.heap.size w wr)) (fun _ _ q _ => n - (intOf q).toNat)
  case atStart => exact ⟨0, Nat.zero_le _, rfl, fun j hj => absurd hj (Nat.not_lt_zero _), Below.refl _ _⟩
  case round =>
    obtain ⟨k, hkn, rfl, hall, hbel⟩ := hrel
    by_cases hlt : k < n
    · have hlt' : (k : Int) < (n : Int) := by omega
      obtain ⟨y, hy, hxy, p0, p1, p2, p3, p4, p5⟩ := HC.out k hlt
      have u0 := (hbel.out.cell (p := ⟨bW, k * 6, none⟩) hbl).trans p0
      have u1 := (hbel.out.cell (p := ⟨bW, k * 6 + 1, none⟩) hbl).trans p1
      have u2 := (hbel.out.cell (p := ⟨bW, k * 6 + 2, none⟩) hbl).trans p2
      have u3 := (hbel.out.cell (p := ⟨bW, k * 6 + 3, none⟩) hbl).trans p3
      have u4 := (hbel.out.cell (p := ⟨bW, k * 6 + 4, none⟩) hbl).trans p4
      have u5 := (hbel.out.cell (p := ⟨bW, k * 6 + 5, none⟩) hbl).trans p5
      have hne := Za (hs2.out k hlt hall.out)
      have hstep : Hid (isR c (ws.getD k zW) = false -> ∀ j, j < k + 1 -> isR c (ws.getD j zW) = false) := fun e j hj => by
        by_cases ej : j = k
        · rw [ej]; exact e
        · exact hall.out j (by omega)
      rw [hy] at hne hstep
      have HB2 := Za (fun o => Zg hbel.out (Zd wr o))
      clear p0 p1 p2 p3 p4 p5 hs hs2 hall HC hy
      by_cases e1 : k = i
      · obtain rfl := hxy e1
        have hst := Za (hstep.out (by unfold isR; simp [hk]))
        have hd : ((k : Int) != (i : Int)) = false := by simp [e1]
        clear hne hstep hxy e1 hk
        go_wp2_with fail
        go_roundw
        case rel => exact ⟨k + 1, by omega, by go_num, hst.out, HB2.out _⟩
        case measure => simp [intOf]; omega
      · have hd : ((k : Int) != (i : Int)) = true := by simp; omega
        by_cases e6 : y.k = 6
        · rw [e6] at u0
          by_cases eo : y.o = c
          · rw [eo] at u1
            have hr := Za (hne.out (by unfold isR; simp [e6, eo]))
            clear hne hstep hxy e1 hk e6 eo
            go_wp2_with fail
            go_ret
            exact Vb.mk (by rw [hr.out]; rfl) (HB2.out _)
          · have ho : (y.o == c) = false := by simp [eo]
            have hst := Za (hstep.out (by unfold isR; simp [eo]))
            clear hne hstep hxy e1 hk e6 eo
            go_wp2_with fail
            go_roundw
            case rel => exact ⟨k + 1, by omega, by go_num, hst.out, HB2.out _⟩
            case measure => simp [intOf]; omega
        · have ho : (y.k == 6) = false := by simp [e6]
          have hst := Za (hstep.out (by unfold isR; simp [e6]))
          clear hne hstep hxy e1 hk e6
          go_wp2_with fail
          go_roundw
          case rel => exact ⟨k + 1, by omega, by go_num, hst.out, HB2.out _⟩
          case measure => simp [intOf]; omega
    · have ek : k = n := by omega
      subst ek
      have hr := Za (hs.out hall.out)
      clear hs hs2 hall HC
      go_wp2_with fail
      go_ret
      exact Vb.mk (by rw [hr.out]; rfl) hbel.out
def canSZ (s : St) (ws : List Wt) (w : Wt) : Bool := match lk s.C w.o with
 | some q => isV w.v q.t && (if q.room = 0 then decide (0 <= takI ws w.o) else decide ((q.l.length : Int) < q.room))
 | none => false
def Yp (s : St) (ws : List Wt) (w : Wt) : Bool :=
 if w.k = 1 ∨ w.k = 2 then canA s w
 else if w.k = 3 then canL s w
 else if w.k = 4 then (lk s.M w.o).isSome
 else if w.k = 5 then canSZ s ws w
 else if w.k = 6 then canR s w
 else if w.k = 7 ∨ w.k = 8 ∨ w.k = 9 then canC s w
 else decide (w.k = 10 ∨ w.k = 11 ∨ w.k = 12)
theorem in_lk {α : Type} (l : List α) (i : Int) (n : Nat) (hn : n = l.length) (w : World) : Calls Tryz.prog 34 #[I_ i, I_ (n : Nat)] w fun e w' => e = .returned (.bool (lk l i).isSome) /\ w = w' := by
 cases h : lk l i with
 | none => exact in_no i n w (by rw [hn]; exact YJ h)
 | some x =>
  obtain ⟨k, rfl, hk⟩ := ZD h
  exact in_yes k n w (by rw [hn]; exact (G_ hk))
structure Cn (w : World) (g gs bx : Nat) (x : Wt) (vP vL vC vA : Value) : Prop where
 c : w.cell? ⟨g, 0, none⟩ = some (.pointer (some ⟨gs, 0, none⟩)) /\ w.cell? ⟨gs, 0, none⟩ = some vP /\ w.cell? ⟨gs, 1, none⟩ = some vL /\ w.cell? ⟨gs, 2, none⟩ = some vC /\ w.cell? ⟨gs, 5, none⟩ = some vA
 x : w.cell? ⟨bx, 0, none⟩ = some (.int .i64 x.k) /\ w.cell? ⟨bx, 1, none⟩ = some (.int .i64 x.o) /\ w.cell? ⟨bx, 2, none⟩ = some (.int .i64 x.a) /\ w.cell? ⟨bx, 3, none⟩ = some (.int .i64 x.v.1) /\ w.cell? ⟨bx, 4, none⟩ = some (.int .i64 x.v.2.1) /\ w.cell? ⟨bx, 5, none⟩ = some (.int .u64 x.v.2.2)
 lt : g < w.heap.size /\ gs < w.heap.size /\ bx < w.heap.size
theorem Cn.bel {w w' : World} {g gs bx : Nat} {x : Wt} {vP vL vC vA : Value} (h : Cn w g gs bx x vP vL vC vA) (hb : Below w.heap.size w w') : Cn w' g gs bx x vP vL vC vA := by
 obtain ⟨⟨c0, c1, c2, c3, c4⟩, ⟨x0, x1, x2, x3, x4, x5⟩, l1, l2, l3⟩ := h
 have k := hb.size
 exact ⟨⟨(hb.cell (p := ⟨g, 0, none⟩) l1).trans c0, (hb.cell (p := ⟨gs, 0, none⟩) l2).trans c1, (hb.cell (p := ⟨gs, 1, none⟩) l2).trans c2, (hb.cell (p := ⟨gs, 2, none⟩) l2).trans c3, (hb.cell (p := ⟨gs, 5, none⟩) l2).trans c4⟩,
  ⟨(hb.cell (p := ⟨bx, 0, none⟩) l3).trans x0, (hb.cell (p := ⟨bx, 1, none⟩) l3).trans x1, (hb.cell (p := ⟨bx, 2, none⟩) l3).trans x2, (hb.cell (p := ⟨bx, 3, none⟩) l3).trans x3, (hb.cell (p := ⟨bx, 4, none⟩) l3).trans x4, (hb.cell (p := ⟨bx, 5, none⟩) l3).trans x5⟩, by omega, by omega, by omega⟩
theorem own_adr {w : World} {B : Nat} {T : TypeId} {n : Nat} {a : Option Addr} {m c len : Nat} {xs : List Value} (h : w.ownsRow B T n (.slice a m c) len xs) (hl : 0 < len) : ∃ b, a = some ⟨b, 0, none⟩ := by
 obtain ⟨b, c', e, _⟩ := Zq h hl
 cases e
 exact ⟨b, rfl⟩
section
variable {s : St} {ws : List Wt} {x : Wt}
theorem canZ_1 (h : x.k = 1) : Yp s ws x = (lk s.P x.o).isSome := by
 unfold Yp canA
 cases lk s.P x.o <;> simp [h]
theorem canZ_2n (h : x.k = 2) (hl : (lk s.P x.o).isSome = false) : Yp s ws x = false := by
 unfold Yp canA
 cases e : lk s.P x.o <;> simp_all
theorem canZ_2 {p : V3} (h : x.k = 2) (hl : lk s.P x.o = some p) : Yp s ws x = (Yn x.v.1 x.v.2.1 x.v.2.2 && x.v.1 == p.1) := by
 unfold Yp canA isV isB
 simp [h, hl]
theorem canZ_3n (h : x.k = 3) (hl : (lk s.M x.o).isSome = false) : Yp s ws x = false := by
 unfold Yp canL
 cases e : lk s.M x.o <;> simp_all
theorem canZ_3 {b : Bool} (h : x.k = 3) (hl : lk s.M x.o = some b) : Yp s ws x = !b := by
 unfold Yp canL
 simp [h, hl]
theorem canZ_4 (h : x.k = 4) : Yp s ws x = (lk s.M x.o).isSome := by
 unfold Yp
 simp [h]
theorem canZ_5n (h : x.k = 5) (hl : (lk s.C x.o).isSome = false) : Yp s ws x = false := by
 unfold Yp canSZ
 cases e : lk s.C x.o <;> simp_all
theorem canZ_5 {q : Qu} (h : x.k = 5) (hl : lk s.C x.o = some q) : Yp s ws x = ((Yn x.v.1 x.v.2.1 x.v.2.2 && x.v.1 == q.t) && (if q.room = 0 then decide (0 <= takI ws x.o) else decide ((q.l.length : Int) < q.room))) := by
 unfold Yp canSZ isV isB
 simp [h, hl]
theorem canZ_6n (h : x.k = 6) (hl : (lk s.C x.o).isSome = false) : Yp s ws x = false := by
 unfold Yp canR
 cases e : lk s.C x.o <;> simp_all
theorem canZ_6 {q : Qu} (h : x.k = 6) (hl : lk s.C x.o = some q) : Yp s ws x = decide (0 < q.l.length) := by
 unfold Yp canR
 simp [h, hl]
theorem canZ_7 (h : x.k = 7) : Yp s ws x = (lk s.A x.o).isSome := by
 unfold Yp canC
 cases lk s.A x.o <;> simp [h]
theorem canZ_8n (h : x.k = 8 ∨ x.k = 9) (hl : (lk s.A x.o).isSome = false) : Yp s ws x = false := by
 unfold Yp canC
 cases e : lk s.A x.o
 · rcases h with h | h <;> simp [h]
 · simp_all
theorem canZ_8 (h : x.k = 8 ∨ x.k = 9) (hl : (lk s.A x.o).isSome = true) : Yp s ws x = (Yn x.v.1 x.v.2.1 x.v.2.2 && x.v.1 == 1) := by
 unfold Yp canC isV isB
 cases e : lk s.A x.o
 · simp_all
 · rcases h with h | h <;> simp [h]
theorem canZ_10 (h : x.k = 10 ∨ x.k = 11 ∨ x.k = 12) : Yp s ws x = true := by
 unfold Yp
 rcases h with h | h | h <;> simp [h]
theorem canZ_0 (h : x.k < 1 ∨ 12 < x.k) : Yp s ws x = false := by
 unfold Yp
 rw [if_neg (by omega), if_neg (by omega), if_neg (by omega), if_neg (by omega), if_neg (by omega), if_neg (by omega)]
 simp
 omega
end
theorem rCan_any {w : World} {G : Nat -> Prop} {B g : Nat} {S : List (List Wt)} {r : Rz} (h : Rr w G B g S r) (hB : B <= 1000000) (i : Nat) (x : Wt) (hx : r.ws[i]? = some x) : Calls Tryz.prog 11 #[P_ g, I_ (i : Nat)] w (Vb w (.bool (Yp r.s r.ws x))) := by
  have HR := Za h
  obtain ⟨Fs, Rs, Fo, R, gs, gt, vW, vE, vL, vO, vA, vs, os, as_, h, hG⟩ := h
  obtain ⟨vP, vL, vC, vS, vT, vA2, ss, tk, hv⟩ := h.st
  obtain ⟨aP, cP, eP, _⟩ := Zl hv.pl
  obtain ⟨aM, cM, eM, _⟩ := Zl hv.lo
  obtain ⟨aC, cC, eC, _⟩ := Zl hv.ch
  obtain ⟨aA, cA, eA, _⟩ := Zl hv.ato
  obtain ⟨nP, hnP⟩ : ∃ n, n = r.s.P.length := ⟨_, rfl⟩
  obtain ⟨nM, hnM⟩ : ∃ n, n = r.s.M.length := ⟨_, rfl⟩
  obtain ⟨nC, hnC⟩ : ∃ n, n = r.s.C.length := ⟨_, rfl⟩
  obtain ⟨nA, hnA⟩ : ∃ n, n = r.s.A.length := ⟨_, rfl⟩
  rw [← hnP] at eP
  rw [← hnM] at eM
  rw [← hnC] at eC
  rw [← hnA] at eA
  subst eP eM eC eA
  obtain ⟨n, hn⟩ : ∃ n, n = r.ws.length := ⟨_, rfl⟩
  have hi := (G_ hx)
  have hi' : (i : Int) < (n : Int) := by omega
  obtain ⟨bW, cW, eW, hcW, hmW⟩ := Zq h.wa (by omega)
  rw [← hn] at eW
  subst eW
  have cg := h.cells.1.2.1
  obtain ⟨p0, p1, p2, p3, p4, p5⟩ := w6s_at _ _ _ hx
  have u0 := (Zk h.wa _ _ p0).1
  have u1 := (Zk h.wa _ _ p1).1
  have u2 := (Zk h.wa _ _ p2).1
  have u3 := (Zk h.wa _ _ p3).1
  have u4 := (Zk h.wa _ _ p4).1
  have u5 := (Zk h.wa _ _ p5).1
  have IP := Za (fun w3 => in_lk r.s.P x.o nP hnP w3)
  have IM := Za (fun w3 => in_lk r.s.M x.o nM hnM w3)
  have IC := Za (fun w3 => in_lk r.s.C x.o nC hnC w3)
  have IA := Za (fun w3 => in_lk r.s.A x.o nA hnA w3)
  have FO := Za (fun w3 => form_any x.v.1 x.v.2.1 x.v.2.2 w3)
  have HB := Za (Zd w (.cells #[I_ x.k, I_ x.o, I_ x.a, I_ x.v.1, I_ x.v.2.1, .int .u64 x.v.2.2] 76))
  have CN : Hid (Cn (w.alloc (.cells #[I_ x.k, I_ x.o, I_ x.a, I_ x.v.1, I_ x.v.2.1, .int .u64 x.v.2.2] 76)) g gs w.heap.size x (.slice aP nP cP) (.slice aM nM cM) (.slice aC nC cC) (.slice aA nA cA)) := Za (by
    have hgl := h.fb g h.fg
    have hsl := hv.fb gs hv.fg
    have k := Zd w (.cells #[I_ x.k, I_ x.o, I_ x.a, I_ x.v.1, I_ x.v.2.1, .int .u64 x.v.2.2] 76)
    exact ⟨⟨(k.cell (p := ⟨g, 0, none⟩) hgl).trans h.cells.1.1, (k.cell (p := ⟨gs, 0, none⟩) hsl).trans (Zb hv.at_ 0 _ rfl), (k.cell (p := ⟨gs, 1, none⟩) hsl).trans (Zb hv.at_ 1 _ rfl), (k.cell (p := ⟨gs, 2, none⟩) hsl).trans (Zb hv.at_ 2 _ rfl), (k.cell (p := ⟨gs, 5, none⟩) hsl).trans (Zb hv.at_ 5 _ rfl)⟩,
      ⟨Zb (B_ w (.cells #[I_ x.k, I_ x.o, I_ x.a, I_ x.v.1, I_ x.v.2.1, .int .u64 x.v.2.2] 76)) 0 _ rfl, Zb (B_ w (.cells #[I_ x.k, I_ x.o, I_ x.a, I_ x.v.1, I_ x.v.2.1, .int .u64 x.v.2.2] 76)) 1 _ rfl, Zb (B_ w (.cells #[I_ x.k, I_ x.o, I_ x.a, I_ x.v.1, I_ x.v.2.1, .int .u64 x.v.2.2] 76)) 2 _ rfl, Zb (B_ w (.cells #[I_ x.k, I_ x.o, I_ x.a, I_ x.v.1, I_ x.v.2.1, .int .u64 x.v.2.2] 76)) 3 _ rfl, Zb (B_ w (.cells #[I_ x.k, I_ x.o, I_ x.a, I_ x.v.1, I_ x.v.2.1, .int .u64 x.v.2.2] 76)) 4 _ rfl, Zb (B_ w (.cells #[I_ x.k, I_ x.o, I_ x.a, I_ x.v.1, I_ x.v.2.1, .int .u64 x.v.2.2] 76)) 5 _ rfl⟩, by have := k.size; omega, by have := k.size; omega, by simp⟩)
  obtain ⟨bx, hbx⟩ : ∃ b, b = w.heap.size := ⟨_, rfl⟩
  obtain ⟨bP, hbP⟩ : ∃ b, (lk r.s.P x.o).isSome = b := ⟨_, rfl⟩
  obtain ⟨bM, hbM⟩ : ∃ b, (lk r.s.M x.o).isSome = b := ⟨_, rfl⟩
  obtain ⟨bC, hbC⟩ : ∃ b, (lk r.s.C x.o).isSome = b := ⟨_, rfl⟩
  obtain ⟨bA, hbA⟩ : ∃ b, (lk r.s.A x.o).isSome = b := ⟨_, rfl⟩
  obtain ⟨bF, hbF⟩ : ∃ b, Yn x.v.1 x.v.2.1 x.v.2.2 = b := ⟨_, rfl⟩
  rw [hbP] at IP
  rw [hbM] at IM
  rw [hbC] at IC
  rw [hbA] at IA
  rw [hbF] at FO
  have HH := Za (And.intro h (And.intro hv (And.intro hnP (And.intro hnM (And.intro hnC hnA)))))
  have HX := Za hx
  have HP := Za hbP
  have HM := Za hbM
  have HC := Za hbC
  have HA := Za hbA
  have HF := Za hbF
  obtain ⟨po, hpo⟩ : ∃ b, Yp r.s r.ws x = b := ⟨_, rfl⟩
  rw [hpo]
  have HO := Za hpo
  clear h hG hv hx hi hn hcW hmW p0 p1 p2 p3 p4 p5 hnP hnM hnC hnA hbP hbM hbC hbA hbF hpo
  go_enter Tryz.func11, Tryz.ntmps11
  go_upto_region 2 with fail
  generalize w.alloc _ = wq at *
  rw [← hbx] at CN ⊢
  clear hbx u0 u1 u2 u3 u4 u5 cg
  go_upto_region 2 with fail
  obtain ⟨⟨c0, c1, c2, c3, c4⟩, ⟨x0, x1, x2, x3, x4, x5⟩, _⟩ := CN.out
  go_quiet ((go_at_call 34; exact Calls.quiet_of_same ((IP.out _).mono fun _ _ h => ⟨h.1, h.2.symm⟩)))
  clear c0 c1 c2 c3 c4 x0 x1 x2 x3 x4 x5
  generalize hwq : World.drewN wq _ = wn
  have BQ := Za (show Below wq.heap.size wq wn from hwq ▸ below_drewN (Below.refl _ _) _)
  have CN9 := Za (CN.out.bel BQ.out)
  have HB9 := Za (Zg HB.out BQ.out)
  clear hwq CN HB BQ
  have CN := CN9
  have HB := HB9
  clear CN9 HB9
  obtain ⟨wq, rfl⟩ : ∃ z, z = wn := ⟨_, rfl⟩
  go_upto_region 3 with fail
  obtain ⟨⟨c0, c1, c2, c3, c4⟩, ⟨x0, x1, x2, x3, x4, x5⟩, _⟩ := CN.out
  go_quiet ((go_at_call 34; exact Calls.quiet_of_same ((IM.out _).mono fun _ _ h => ⟨h.1, h.2.symm⟩)))
  clear c0 c1 c2 c3 c4 x0 x1 x2 x3 x4 x5
  generalize hwq : World.drewN wq _ = wn
  have BQ := Za (show Below wq.heap.size wq wn from hwq ▸ below_drewN (Below.refl _ _) _)
  have CN9 := Za (CN.out.bel BQ.out)
  have HB9 := Za (Zg HB.out BQ.out)
  clear hwq CN HB BQ
  have CN := CN9
  have HB := HB9
  clear CN9 HB9
  obtain ⟨wq, rfl⟩ : ∃ z, z = wn := ⟨_, rfl⟩
  go_upto_region 4 with fail
  obtain ⟨⟨c0, c1, c2, c3, c4⟩, ⟨x0, x1, x2, x3, x4, x5⟩, _⟩ := CN.out
  go_quiet ((go_at_call 34; exact Calls.quiet_of_same ((IC.out _).mono fun _ _ h => ⟨h.1, h.2.symm⟩)))
  clear c0 c1 c2 c3 c4 x0 x1 x2 x3 x4 x5
  generalize hwq : World.drewN wq _ = wn
  have BQ := Za (show Below wq.heap.size wq wn from hwq ▸ below_drewN (Below.refl _ _) _)
  have CN9 := Za (CN.out.bel BQ.out)
  have HB9 := Za (Zg HB.out BQ.out)
  clear hwq CN HB BQ
  have CN := CN9
  have HB := HB9
  clear CN9 HB9
  obtain ⟨wq, rfl⟩ : ∃ z, z = wn := ⟨_, rfl⟩
  go_upto_region 5 with fail
  obtain ⟨⟨c0, c1, c2, c3, c4⟩, ⟨x0, x1, x2, x3, x4, x5⟩, _⟩ := CN.out
  go_quiet ((go_at_call 34; exact Calls.quiet_of_same ((IA.out _).mono fun _ _ h => ⟨h.1, h.2.symm⟩)))
  clear c0 c1 c2 c3 c4 x0 x1 x2 x3 x4 x5
  generalize hwq : World.drewN wq _ = wn
  have BQ := Za (show Below wq.heap.size wq wn from hwq ▸ below_drewN (Below.refl _ _) _)
  have CN9 := Za (CN.out.bel BQ.out)
  have HB9 := Za (Zg HB.out BQ.out)
  clear hwq CN HB BQ
  have CN := CN9
  have HB := HB9
  clear CN9 HB9
  obtain ⟨wq, rfl⟩ : ∃ z, z = wn := ⟨_, rfl⟩
  go_upto_region 6 with fail
  obtain ⟨⟨c0, c1, c2, c3, c4⟩, ⟨x0, x1, x2, x3, x4, x5⟩, _⟩ := CN.out
  go_wp2_with fail
  refine (FO.out _).mono ?_
  rintro e w6 ⟨rfl, hb6⟩
  clear c0 c1 c2 c3 c4 x0 x1 x2 x3 x4 x5
  have CN9 := Za (CN.out.bel hb6)
  have HB9 := Za (Zg HB.out hb6)
  clear CN HB hb6 IP IM IC IA FO
  have CN := CN9
  have HB := HB9
  clear CN9 HB9
  obtain ⟨wq, rfl⟩ : ∃ z, z = w6 := ⟨_, rfl⟩
  by_cases k1 : x.k = 1
  · have K0 := Za k1
    clear k1
    obtain ⟨⟨c0, c1, c2, c3, c4⟩, ⟨x0, x1, x2, x3, x4, x5⟩, _⟩ := CN.out
    rw [K0.out] at x0
    go_wp2_with fail
    go_ret
    exact Vb.mk (by rw [← HO.out, canZ_1 K0.out, HP.out]; rfl) HB.out
  · have d1 : (x.k == 1) = false := by simp [k1]
    by_cases k2 : x.k = 2
    · have K0 := Za k2
      clear k2 k1
      cases bP with
      | false =>
        obtain ⟨⟨c0, c1, c2, c3, c4⟩, ⟨x0, x1, x2, x3, x4, x5⟩, _⟩ := CN.out
        rw [K0.out] at x0
        clear c1 c2 c3 c4
        go_wp2_with fail
        go_quiet (fail)
        go_wp2_with fail
        go_ret
        exact Vb.mk (by rw [← HO.out, canZ_2n K0.out HP.out]; rfl) (below_drewN HB.out _)
      | true =>
        obtain ⟨p, hp⟩ := Option.isSome_iff_exists.1 HP.out
        obtain ⟨k, hxo, hk⟩ := ZD hp
        have hkn : k < nP := by
          have := (G_ hk)
          have := HH.out.2.2.1
          omega
        have hkn' : (k : Int) < (nP : Int) := by omega
        have HVQ := HH.out.2.1.bel HB.out
        obtain ⟨bb, eA⟩ := own_adr HVQ.pl (by have := HH.out.2.2.1; omega)
        subst eA
        obtain ⟨z0, _, _⟩ := vcs_at _ _ _ hk
        have m0 := (Zk HVQ.pl _ _ z0).1
        rw [Nat.mul_comm 3 k] at m0
        have HZ := Za (canZ_2 (s := r.s) (ws := r.ws) (x := x) K0.out hp)
        obtain ⟨⟨c0, c1, c2, c3, c4⟩, ⟨x0, x1, x2, x3, x4, x5⟩, _⟩ := CN.out
        rw [K0.out] at x0
        rw [hxo] at x1
        clear HVQ z0 hk hp hxo
        cases bF with
        | false =>
          go_wp2_with fail
          go_quiet (fail)
          go_wp2_with fail
          go_ret
          exact Vb.mk (by rw [← HO.out, HZ.out, HF.out, Bool.false_and]; rfl) (below_drewN HB.out _)
        | true =>
          go_wp2_with fail
          go_quiet (fail)
          go_wp2_with fail
          go_ret
          exact Vb.mk (by rw [← HO.out, HZ.out, HF.out, Bool.true_and]; rfl) (below_drewN HB.out _)
    · have d2 : (x.k == 2) = false := by simp [k2]
      by_cases k3 : x.k = 3
      · have K0 := Za k3
        clear k3 k1 k2
        cases bM with
        | false =>
          obtain ⟨⟨c0, c1, c2, c3, c4⟩, ⟨x0, x1, x2, x3, x4, x5⟩, _⟩ := CN.out
          rw [K0.out] at x0
          go_wp2_with fail
          go_quiet (fail)
          go_wp2_with fail
          go_ret
          exact Vb.mk (by rw [← HO.out, canZ_3n K0.out HM.out]; rfl) (below_drewN HB.out _)
        | true =>
          obtain ⟨p, hp⟩ := Option.isSome_iff_exists.1 HM.out
          obtain ⟨k, hxo, hk⟩ := ZD hp
          have hkn : k < nM := by
            have := (G_ hk)
            have := HH.out.2.2.2.1
            omega
          have hkn' : (k : Int) < (nM : Int) := by omega
          have HVQ := HH.out.2.1.bel HB.out
          obtain ⟨bb, eA⟩ := own_adr HVQ.lo (by have := HH.out.2.2.2.1; omega)
          subst eA
          have z0 : (bls r.s.M)[k]? = some (.bool p) := by simp [bls, hk]
          have m0 := (Zk HVQ.lo _ _ z0).1
          have HZ := Za (canZ_3 (s := r.s) (ws := r.ws) (x := x) K0.out hp)
          obtain ⟨⟨c0, c1, c2, c3, c4⟩, ⟨x0, x1, x2, x3, x4, x5⟩, _⟩ := CN.out
          rw [K0.out] at x0
          rw [hxo] at x1
          clear HVQ z0 hk hp hxo
          go_wp2_with fail
          go_quiet (fail)
          go_wp2_with fail
          go_ret
          exact Vb.mk (by rw [← HO.out, HZ.out]; rfl) (below_drewN HB.out _)
      · have d3 : (x.k == 3) = false := by simp [k3]
        by_cases k4 : x.k = 4
        · have K0 := Za k4
          clear k4 k1 k2 k3
          obtain ⟨⟨c0, c1, c2, c3, c4⟩, ⟨x0, x1, x2, x3, x4, x5⟩, _⟩ := CN.out
          rw [K0.out] at x0
          go_wp2_with fail
          go_ret
          exact Vb.mk (by rw [← HO.out, canZ_4 K0.out, HM.out]; rfl) HB.out
        · have d4 : (x.k == 4) = false := by simp [k4]
          by_cases k5 : x.k = 5
          · have K0 := Za k5
            clear k5 k1 k2 k3 k4
            cases bC with
            | false =>
              obtain ⟨⟨c0, c1, c2, c3, c4⟩, ⟨x0, x1, x2, x3, x4, x5⟩, _⟩ := CN.out
              rw [K0.out] at x0
              go_wp2_with fail
              go_quiet (fail)
              go_wp2_with fail
              go_ret
              exact Vb.mk (by rw [← HO.out, canZ_5n K0.out HC.out]; rfl) (below_drewN HB.out _)
            | true =>
              obtain ⟨p, hp⟩ := Option.isSome_iff_exists.1 HC.out
              obtain ⟨k, hxo, hk⟩ := ZD hp
              have hkn : k < nC := by
                have := (G_ hk)
                have := HH.out.2.2.2.2.1
                omega
              have hkn' : (k : Int) < (nC : Int) := by omega
              have HVQ := HH.out.2.1.bel HB.out
              obtain ⟨bb, eA⟩ := own_adr HVQ.ch (by have := HH.out.2.2.2.2.1; omega)
              subst eA
              obtain ⟨z0, z1⟩ := ccs_at _ _ _ hk
              have m0 := (Zk HVQ.ch _ _ z0).1
              have m1 := (Zk HVQ.ch _ _ z1).1
              rw [Nat.mul_comm 2 k] at m0 m1
              have HZ := Za (canZ_5 (s := r.s) (ws := r.ws) (x := x) K0.out hp)
              have HRQ := Za (HR.out.bel HB.out)
              have HKC := Za hk
              have HXO := Za hxo
              obtain ⟨⟨c0, c1, c2, c3, c4⟩, ⟨x0, x1, x2, x3, x4, x5⟩, _⟩ := CN.out
              rw [K0.out] at x0
              rw [hxo] at x1
              clear HVQ z0 z1 hk hp hxo
              cases bF with
              | false =>
                go_wp2_with fail
                go_quiet (fail)
                go_wp2_with fail
                go_ret
                exact Vb.mk (by rw [← HO.out, HZ.out, HF.out, Bool.false_and, Bool.false_and]; rfl) (below_drewN HB.out _)
              | true =>
                by_cases ht : x.v.1 = p.t
                · have hd : (x.v.1 != p.t) = false := by simp [ht]
                  go_wp2_with fail
                  go_quiet (fail)
                  generalize hwq : World.drewN wq _ = wn
                  have BQ := Za (show Below wq.heap.size wq wn from hwq ▸ below_drewN (Below.refl _ _) _)
                  have CN9 := Za (CN.out.bel BQ.out)
                  have HB9 := Za (Zg HB.out BQ.out)
                  clear hwq CN HB BQ c0 c1 c2 c3 c4 x0 x1 x2 x3 x4 x5 m0 m1
                  have CN := CN9
                  have HB := HB9
                  clear CN9 HB9
                  obtain ⟨wq, rfl⟩ : ∃ z, z = wn := ⟨_, rfl⟩
                  have HVQ := HH.out.2.1.bel HB.out
                  obtain ⟨z0, z1⟩ := ccs_at _ _ _ HKC.out
                  have m0 := (Zk HVQ.ch _ _ z0).1
                  have m1 := (Zk HVQ.ch _ _ z1).1
                  rw [Nat.mul_comm 2 k] at m0 m1
                  clear z0 z1
                  obtain ⟨⟨c0, c1, c2, c3, c4⟩, ⟨x0, x1, x2, x3, x4, x5⟩, _⟩ := CN.out
                  rw [K0.out] at x0
                  rw [HXO.out] at x1
                  clear HVQ
                  have hd2 : (x.v.1 == p.t) = true := by simp [ht]
                  rw [hd2, HF.out, HXO.out] at HZ
                  clear ht hd hd2
                  by_cases hr0 : p.room = 0
                  · rw [hr0] at m1
                    rw [if_pos hr0] at HZ
                    clear hr0
                    go_wp2_with fail
                    go_quiet (fail)
                    generalize hwq : World.drewN wq _ = wn
                    have BQ := Za (show Below wq.heap.size wq wn from hwq ▸ below_drewN (Below.refl _ _) _)
                    have CN9 := Za (CN.out.bel BQ.out)
                    have HB9 := Za (Zg HB.out BQ.out)
                    clear hwq CN HB BQ c0 c1 c2 c3 c4 x0 x1 x2 x3 x4 x5 m0 m1
                    have CN := CN9
                    have HB := HB9
                    clear CN9 HB9
                    obtain ⟨wq, rfl⟩ : ∃ z, z = wn := ⟨_, rfl⟩
                    have HVQ := HH.out.2.1.bel HB.out
                    obtain ⟨z0, z1⟩ := ccs_at _ _ _ HKC.out
                    have m0 := (Zk HVQ.ch _ _ z0).1
                    have m1 := (Zk HVQ.ch _ _ z1).1
                    rw [Nat.mul_comm 2 k] at m0 m1
                    clear z0 z1
                    obtain ⟨⟨c0, c1, c2, c3, c4⟩, ⟨x0, x1, x2, x3, x4, x5⟩, _⟩ := CN.out
                    rw [K0.out] at x0
                    rw [HXO.out] at x1
                    clear HVQ m0 m1
                    have TK := Za (taker_any (HR.out.bel HB.out) (k : Int) i x HX.out (by rw [K0.out]; decide))
                    go_wp2_with fail
                    refine TK.out.mono ?_
                    rintro e w7 ⟨rfl, hb7⟩
                    have HB9 := Za (Zg HB.out hb7)
                    go_wp2_with fail
                    go_ret
                    exact Vb.mk (by rw [← HO.out, HZ.out]; rfl) HB9.out
                  · have hr1 : (p.room == 0) = false := by simp [hr0]
                    rw [if_neg hr0] at HZ
                    clear hr0
                    go_wp2_with fail
                    go_quiet (fail)
                    generalize hwq : World.drewN wq _ = wn
                    have BQ := Za (show Below wq.heap.size wq wn from hwq ▸ below_drewN (Below.refl _ _) _)
                    have CN9 := Za (CN.out.bel BQ.out)
                    have HB9 := Za (Zg HB.out BQ.out)
                    clear hwq CN HB BQ c0 c1 c2 c3 c4 x0 x1 x2 x3 x4 x5 m0 m1
                    have CN := CN9
                    have HB := HB9
                    clear CN9 HB9
                    obtain ⟨wq, rfl⟩ : ∃ z, z = wn := ⟨_, rfl⟩
                    have HVQ := HH.out.2.1.bel HB.out
                    obtain ⟨z0, z1⟩ := ccs_at _ _ _ HKC.out
                    have m0 := (Zk HVQ.ch _ _ z0).1
                    have m1 := (Zk HVQ.ch _ _ z1).1
                    rw [Nat.mul_comm 2 k] at m0 m1
                    clear z0 z1
                    obtain ⟨⟨c0, c1, c2, c3, c4⟩, ⟨x0, x1, x2, x3, x4, x5⟩, _⟩ := CN.out
                    rw [K0.out] at x0
                    rw [HXO.out] at x1
                    have HE : Hid (∀ w3, Below wq.heap.size wq w3 -> Calls Tryz.prog 37 #[P_ gs, I_ (k : Nat)] w3 fun e w' => e = .returned (I_ (p.l.length : Nat)) /\ ∃ d, w' = w3.drewN d) := Za (fun w3 h3 => rHeld_q ⟨_, _, _, _, _, _, _, _, HVQ.bel h3⟩ hB k p HKC.out)
                    clear HVQ HKC
                    generalize p.l.length = nq at *
                    go_wp2_with fail
                    go_quiet ((go_at_call 37; exact Calls.quiet_of (HE.out _ (below_drewN (Below.refl _ _) _))))
                    go_wp2_with fail
                    go_ret
                    exact Vb.mk (by rw [← HO.out, HZ.out]; rfl) (below_drewN HB.out _)
                · have hd : (x.v.1 != p.t) = true := by simp [ht]
                  have hd2 : (x.v.1 == p.t) = false := by simp [ht]
                  go_wp2_with fail
                  go_quiet (fail)
                  go_wp2_with fail
                  go_ret
                  exact Vb.mk (by rw [← HO.out, HZ.out, HF.out, hd2, Bool.and_false, Bool.false_and]; rfl) (below_drewN HB.out _)
          · have d5 : (x.k == 5) = false := by simp [k5]
            by_cases k6 : x.k = 6
            · have K0 := Za k6
              clear k6 k1 k2 k3 k4 k5
              cases bC with
              | false =>
                obtain ⟨⟨c0, c1, c2, c3, c4⟩, ⟨x0, x1, x2, x3, x4, x5⟩, _⟩ := CN.out
                rw [K0.out] at x0
                go_wp2_with fail
                go_quiet (fail)
                go_wp2_with fail
                go_ret
                exact Vb.mk (by rw [← HO.out, canZ_6n K0.out HC.out]; rfl) (below_drewN HB.out _)
              | true =>
                obtain ⟨p, hp⟩ := Option.isSome_iff_exists.1 HC.out
                obtain ⟨k, hxo, hk⟩ := ZD hp
                have hkn : k < nC := by
                  have := (G_ hk)
                  have := HH.out.2.2.2.2.1
                  omega
                have hkn' : (k : Int) < (nC : Int) := by omega
                have HVQ := HH.out.2.1.bel HB.out
                obtain ⟨bb, eA⟩ := own_adr HVQ.ch (by have := HH.out.2.2.2.2.1; omega)
                subst eA
                have HZ := Za (canZ_6 (s := r.s) (ws := r.ws) (x := x) K0.out hp)
                have HE : Hid (∀ w3, Below wq.heap.size wq w3 -> Calls Tryz.prog 37 #[P_ gs, I_ (k : Nat)] w3 fun e w' => e = .returned (I_ (p.l.length : Nat)) /\ ∃ d, w' = w3.drewN d) := Za (fun w3 h3 => rHeld_q ⟨_, _, _, _, _, _, _, _, HVQ.bel h3⟩ hB k p hk)
                obtain ⟨⟨c0, c1, c2, c3, c4⟩, ⟨x0, x1, x2, x3, x4, x5⟩, _⟩ := CN.out
                rw [K0.out] at x0
                rw [hxo] at x1
                clear HVQ hk hp hxo
                generalize p.l.length = nq at *
                go_wp2_with fail
                go_quiet ((go_at_call 37; exact Calls.quiet_of (HE.out _ (below_drewN (Below.refl _ _) _))))
                go_wp2_with fail
                go_ret
                exact Vb.mk (by rw [← HO.out, HZ.out]; rfl) (below_drewN HB.out _)
            · have d6 : (x.k == 6) = false := by simp [k6]
              by_cases k7 : x.k = 7
              · have K0 := Za k7
                clear k7 k1 k2 k3 k4 k5 k6
                obtain ⟨⟨c0, c1, c2, c3, c4⟩, ⟨x0, x1, x2, x3, x4, x5⟩, _⟩ := CN.out
                rw [K0.out] at x0
                go_wp2_with fail
                go_ret
                exact Vb.mk (by rw [← HO.out, canZ_7 K0.out, HA.out]; rfl) HB.out
              · have d7 : (x.k == 7) = false := by simp [k7]
                by_cases k8 : x.k = 8
                · have K0 := Za k8
                  clear k8 k1 k2 k3 k4 k5 k6 k7
                  cases bA with
                  | false =>
                    obtain ⟨⟨c0, c1, c2, c3, c4⟩, ⟨x0, x1, x2, x3, x4, x5⟩, _⟩ := CN.out
                    rw [K0.out] at x0
                    go_wp2_with fail
                    go_ret
                    exact Vb.mk (by rw [← HO.out, canZ_8n (.inl K0.out) HA.out]; rfl) HB.out
                  | true =>
                    have HZ := Za (canZ_8 (s := r.s) (ws := r.ws) (x := x) (.inl K0.out) HA.out)
                    cases bF with
                    | false =>
                      obtain ⟨⟨c0, c1, c2, c3, c4⟩, ⟨x0, x1, x2, x3, x4, x5⟩, _⟩ := CN.out
                      rw [K0.out] at x0
                      go_wp2_with fail
                      go_ret
                      exact Vb.mk (by rw [← HO.out, HZ.out, HF.out, Bool.false_and]; rfl) HB.out
                    | true =>
                      obtain ⟨⟨c0, c1, c2, c3, c4⟩, ⟨x0, x1, x2, x3, x4, x5⟩, _⟩ := CN.out
                      rw [K0.out] at x0
                      go_wp2_with fail
                      go_ret
                      exact Vb.mk (by rw [← HO.out, HZ.out, HF.out, Bool.true_and]; rfl) HB.out
                · have d8 : (x.k == 8) = false := by simp [k8]
                  by_cases k9 : x.k = 9
                  · have K0 := Za k9
                    clear k9 k1 k2 k3 k4 k5 k6 k7 k8
                    cases bA with
                    | false =>
                      obtain ⟨⟨c0, c1, c2, c3, c4⟩, ⟨x0, x1, x2, x3, x4, x5⟩, _⟩ := CN.out
                      rw [K0.out] at x0
                      go_wp2_with fail
                      go_ret
                      exact Vb.mk (by rw [← HO.out, canZ_8n (.inr K0.out) HA.out]; rfl) HB.out
                    | true =>
                      have HZ := Za (canZ_8 (s := r.s) (ws := r.ws) (x := x) (.inr K0.out) HA.out)
                      cases bF with
                      | false =>
                        obtain ⟨⟨c0, c1, c2, c3, c4⟩, ⟨x0, x1, x2, x3, x4, x5⟩, _⟩ := CN.out
                        rw [K0.out] at x0
                        go_wp2_with fail
                        go_ret
                        exact Vb.mk (by rw [← HO.out, HZ.out, HF.out, Bool.false_and]; rfl) HB.out
                      | true =>
                        obtain ⟨⟨c0, c1, c2, c3, c4⟩, ⟨x0, x1, x2, x3, x4, x5⟩, _⟩ := CN.out
                        rw [K0.out] at x0
                        go_wp2_with fail
                        go_ret
                        exact Vb.mk (by rw [← HO.out, HZ.out, HF.out, Bool.true_and]; rfl) HB.out
                  · have d9 : (x.k == 9) = false := by simp [k9]
                    by_cases k10 : x.k = 10
                    · have K0 := Za k10
                      clear k10 k1 k2 k3 k4 k5 k6 k7 k8 k9
                      obtain ⟨⟨c0, c1, c2, c3, c4⟩, ⟨x0, x1, x2, x3, x4, x5⟩, _⟩ := CN.out
                      rw [K0.out] at x0
                      go_wp2_with fail
                      go_ret
                      exact Vb.mk (by rw [← HO.out, canZ_10 (.inl K0.out)]; rfl) HB.out
                    · have d10 : (x.k == 10) = false := by simp [k10]
                      by_cases k11 : x.k = 11
                      · have K0 := Za k11
                        clear k11 k1 k2 k3 k4 k5 k6 k7 k8 k9 k10
                        obtain ⟨⟨c0, c1, c2, c3, c4⟩, ⟨x0, x1, x2, x3, x4, x5⟩, _⟩ := CN.out
                        rw [K0.out] at x0
                        go_wp2_with fail
                        go_ret
                        exact Vb.mk (by rw [← HO.out, canZ_10 (.inr (.inl K0.out))]; rfl) HB.out
                      · have d11 : (x.k == 11) = false := by simp [k11]
                        by_cases k12 : x.k = 12
                        · have K0 := Za k12
                          clear k12 k1 k2 k3 k4 k5 k6 k7 k8 k9 k10 k11
                          obtain ⟨⟨c0, c1, c2, c3, c4⟩, ⟨x0, x1, x2, x3, x4, x5⟩, _⟩ := CN.out
                          rw [K0.out] at x0
                          go_wp2_with fail
                          go_ret
                          exact Vb.mk (by rw [← HO.out, canZ_10 (.inr (.inr K0.out))]; rfl) HB.out
                        · have d12 : (x.k == 12) = false := by simp [k12]
                          have HZ := Za (canZ_0 (s := r.s) (ws := r.ws) (x := x) (by omega))
                          clear k1 k2 k3 k4 k5 k6 k7 k8 k9 k10 k11 k12
                          obtain ⟨⟨c0, c1, c2, c3, c4⟩, ⟨x0, x1, x2, x3, x4, x5⟩, _⟩ := CN.out
                          go_wp2_with fail
                          go_ret
                          exact Vb.mk (by rw [← HO.out, HZ.out]; rfl) HB.out
def someZ (ws : List Wt) (k : Nat) : Bool := (ws.take k).any fun x => x.k != 0
def canyZ (s : St) (ws : List Wt) (k : Nat) : Bool := (ws.take k).any fun x => Yp s ws x
def outZ (r : Rz) : Int := if someZ r.ws r.ws.length then (if canyZ r.s r.ws r.ws.length then 0 else 2) else 1
def Yz (r : Rz) : Rz := if r.e.o = 0 then { r with e := { r.e with o := outZ r } } else r
theorem someZ_step {ws : List Wt} {k : Nat} {x : Wt} (h : ws[k]? = some x) : someZ ws (k + 1) = (someZ ws k || x.k != 0) := by
 unfold someZ
 rw [List.take_add_one, h]
 simp
theorem canyZ_step {s : St} {ws : List Wt} {k : Nat} {x : Wt} (h : ws[k]? = some x) : canyZ s ws (k + 1) = (canyZ s ws k || Yp s ws x) := by
 unfold canyZ
 rw [List.take_add_one, h]
 simp
theorem look_set {r : Rz} (h : r.e.o = 0) (h2 : outZ r = 0) : Yz r = r := by
 unfold Yz
 rw [if_pos h, h2, ← h]
theorem rr_out {w : World} {Fs Rs Fo R : Nat -> Prop} {B g gs gt : Nat} {S : List (List Wt)} {r : Rz} {vW vE vL vO vA : Value} {vs : List Value} {os as_ : List Nat} (h : Rq w Fs Rs Fo R B g gs gt S r vW vE vL vO vA vs os as_) {w' : World} (o : Int) (ho : ∀ k, k ≠ g -> w'.heap[k]? = w.heap[k]?) (hs : w'.heap.size = w.heap.size) (hat : w'.heap[g]? = some (.cells #[P_ gs, vW, vE, I_ o, I_ r.e.f, I_ r.e.g, I_ r.e.n, I_ r.e.a, P_ gt] 45 (0, 0))) : Rq w' Fs Rs Fo R B g gs gt S { r with e := { r.e with o := o } } vW vE vL vO vA vs os as_ := h.endW { r.e with o := o } ho hs hat
theorem rLook_any {w : World} {G : Nat -> Prop} {B g : Nat} {S : List (List Wt)} {r : Rz} (h : Rr w G B g S r) (hB : B <= 1000000) : Calls Tryz.prog 77 #[P_ g] w (RrP w G B g S (Yz r) (.tuple #[])) := by
  have HR := Za h
  obtain ⟨Fs, Rs, Fo, R, gs, gt, vW, vE, vL, vO, vA, vs, os, as_, h, hG⟩ := h
  by_cases he : r.e.o = 0
  · obtain ⟨n, hn⟩ : ∃ n, n = r.ws.length := ⟨_, rfl⟩
    obtain ⟨aW, cW, eW, _⟩ := Zl h.wa
    rw [← hn] at eW
    subst eW
    have c1 := h.cells.1.2.1
    have c3 := h.cells.2.1.1
    rw [he] at c3
    have hn8 : n <= 8 := by have := h.n8.1; omega
    have HQ := Za h
    have HG := Za hG
    have HE := Za he
    have HN := Za hn
    have HX : Hid (∀ k x, r.ws[k]? = some x -> ∃ b, aW = some ⟨b, 0, none⟩ /\ b < w.heap.size /\ w.cell? ⟨b, k * 6, none⟩ = some (I_ x.k) /\ w.cell? ⟨b, k * 6 + 1, none⟩ = some (I_ x.o) /\ w.cell? ⟨b, k * 6 + 2, none⟩ = some (I_ x.a) /\ w.cell? ⟨b, k * 6 + 3, none⟩ = some (I_ x.v.1) /\ w.cell? ⟨b, k * 6 + 4, none⟩ = some (I_ x.v.2.1) /\ w.cell? ⟨b, k * 6 + 5, none⟩ = some (.int .u64 x.v.2.2)) := Za (fun k x hx => by
      have hi := (G_ hx)
      obtain ⟨b, eA⟩ := own_adr h.wa (by omega)
      subst eA
      obtain ⟨p0, p1, p2, p3, p4, p5⟩ := w6s_at _ _ _ hx
      exact ⟨b, rfl, h.fb b (h.fW b rfl), (Zk h.wa _ _ p0).1, (Zk h.wa _ _ p1).1, (Zk h.wa _ _ p2).1, (Zk h.wa _ _ p3).1, (Zk h.wa _ _ p4).1, (Zk h.wa _ _ p5).1⟩)
    clear h hG he hn
    go_enter Tryz.func77, Tryz.ntmps77
    go_wp2_with fail
    go_loopw [2, 3, 4, 5, 17] (fun b1 b2 x4 x5 q wr => ∃ k : Nat, k <= n /\ q = I_ k /\ b1 = .bool (someZ r.ws k) /\ b2 = .bool (canyZ r.s r.ws k) /\ Hid (Below w.heap.size w wr)) (fun _ _ _ _ q _ => n - (intOf q).toNat)
    case atStart => exact ⟨0, Nat.zero_le _, rfl, rfl, rfl, Below.refl _ _⟩
    case round =>
      obtain ⟨k, hkn, rfl, rfl, rfl, hbel⟩ := hrel
      by_cases hlt : k < n
      · have hlt' : (k : Int) < (n : Int) := by omega
        obtain ⟨x, hx⟩ : ∃ x, r.ws[k]? = some x := ⟨_, List.getElem?_eq_getElem (by rw [← HN.out]; exact hlt)⟩
        obtain ⟨b, rfl, hbl, p0, p1, p2, p3, p4, p5⟩ := HX.out k x hx
        have u0 := (hbel.out.cell (p := ⟨b, k * 6, none⟩) hbl).trans p0
        have u1 := (hbel.out.cell (p := ⟨b, k * 6 + 1, none⟩) hbl).trans p1
        have u2 := (hbel.out.cell (p := ⟨b, k * 6 + 2, none⟩) hbl).trans p2
        have u3 := (hbel.out.cell (p := ⟨b, k * 6 + 3, none⟩) hbl).trans p3
        have u4 := (hbel.out.cell (p := ⟨b, k * 6 + 4, none⟩) hbl).trans p4
        have u5 := (hbel.out.cell (p := ⟨b, k * 6 + 5, none⟩) hbl).trans p5
        have S1 := Za (someZ_step hx)
        have S2 := Za (canyZ_step (s := r.s) hx)
        have HB2 := Za (fun o => Zg hbel.out (Zd wr o))
        have CA := Za (fun w3 (h3 : Below w.heap.size w w3) => rCan_any (HR.out.bel h3) hB k x hx)
        clear p0 p1 p2 p3 p4 p5 hx hbl
        obtain ⟨cz, hcz⟩ : ∃ b, Yp r.s r.ws x = b := ⟨_, rfl⟩
        rw [hcz] at CA S2
        clear hcz
        obtain ⟨b1, h1⟩ : ∃ b, someZ r.ws k = b := ⟨_, rfl⟩
        obtain ⟨b2, h2⟩ : ∃ b, canyZ r.s r.ws k = b := ⟨_, rfl⟩
        rw [h1] at S1
        rw [h2] at S2
        rw [h1, h2]
        clear h1 h2
        cases b1 with
        | false =>
          cases b2 with
          | false =>
            go_wp2_with fail
            refine (CA.out _ (HB2.out _)).mono ?_
            rintro e w3 ⟨rfl, hb3⟩
            have HB3 := Za (Zg (HB2.out _) hb3)
            clear hb3 CA HB2
            go_wp2_with fail
            go_roundw
            case rel => exact ⟨k + 1, by omega, by go_num, by rw [S1.out]; rfl, by rw [S2.out]; rfl, HB3.out⟩
            case measure => simp [intOf]; omega
          | true =>
            go_wp2_with fail
            go_roundw
            case rel => exact ⟨k + 1, by omega, by go_num, by rw [S1.out]; rfl, by rw [S2.out]; rfl, HB2.out _⟩
            case measure => simp [intOf]; omega
        | true =>
          cases b2 with
          | false =>
            go_wp2_with fail
            refine (CA.out _ (HB2.out _)).mono ?_
            rintro e w3 ⟨rfl, hb3⟩
            have HB3 := Za (Zg (HB2.out _) hb3)
            clear hb3 CA HB2
            go_wp2_with fail
            go_roundw
            case rel => exact ⟨k + 1, by omega, by go_num, by rw [S1.out]; rfl, by rw [S2.out]; rfl, HB3.out⟩
            case measure => simp [intOf]; omega
          | true =>
            go_wp2_with fail
            go_roundw
            case rel => exact ⟨k + 1, by omega, by go_num, by rw [S1.out]; rfl, by rw [S2.out]; rfl, HB2.out _⟩
            case measure => simp [intOf]; omega
      · have ek : k = n := by omega
        subst ek
        have O : Hid (outZ r = if someZ r.ws k then (if canyZ r.s r.ws k then 0 else 2) else 1) := Za (by unfold outZ; rw [← HN.out])
        obtain ⟨b1, h1⟩ : ∃ b, someZ r.ws k = b := ⟨_, rfl⟩
        obtain ⟨b2, h2⟩ : ∃ b, canyZ r.s r.ws k = b := ⟨_, rfl⟩
        rw [h1, h2] at O ⊢
        have QB := Za (HQ.out.bel hbel.out)
        have s3 := Zb QB.out.at_ 3 _ rfl
        have f3 := Zc QB.out.at_ 3
        clear h1 h2 HX c1 c3
        cases b1 with
        | false =>
          go_wp2_with fail
          go_end0
          have RO := rr_wide HG.out (rr_out QB.out 1 (fun k hk => Below.heap_setCell _ _ _ _ hk) (Zi _ _ _) (heap_setCell_same _ _ 3 _ _ (I_ 1) QB.out.at_)) (ZJ QB.out.fg _)
          refine ⟨rfl, G, ?_, (Ch.of_bel hbel.out).trans RO.2⟩
          unfold Yz
          rw [if_pos HE.out, O.out]
          exact RO.1
        | true =>
          cases b2 with
          | false =>
            go_wp2_with fail
            go_end0
            have RO := rr_wide HG.out (rr_out QB.out 2 (fun k hk => Below.heap_setCell _ _ _ _ hk) (Zi _ _ _) (heap_setCell_same _ _ 3 _ _ (I_ 2) QB.out.at_)) (ZJ QB.out.fg _)
            refine ⟨rfl, G, ?_, (Ch.of_bel hbel.out).trans RO.2⟩
            unfold Yz
            rw [if_pos HE.out, O.out]
            exact RO.1
          | true =>
            go_wp2_with fail
            go_end0
            refine ⟨rfl, G, ?_, Ch.of_bel hbel.out⟩
            rw [look_set HE.out O.out]
            exact HR.out.bel hbel.out
  · have hd : (r.e.o != 0) = true := by simp [he]
    have c3 := h.cells.2.1.1
    have e : Yz r = r := if_neg he
    rw [e]
    clear h hG he
    go_enter Tryz.func77, Tryz.ntmps77
    go_wp2_with fail
    go_end0
    exact ⟨rfl, G, HR.out, Ch.refl _ _⟩
def wpT (P : Program) (md : Region.Mode) (ops : Array Oper) (Q : Exit -> Act -> World -> Prop) (S : World -> Prop) (M : Nat -> Bool) : Nat -> Array Bool -> Act -> World -> Prop
 | 0, L, a, w => Region.ready md ops L = [] /\ Q .normal a w
 | f + 1, L, a, w => (Region.ready md ops L = [] -> Q .normal a w) /\ ∀ i, i ∈ Region.ready md ops L -> wpOp P ops Q i (fun a' w' => (M i = true -> S w -> S w') /\ wpT P md ops Q S M f (L.setIfInBounds i true) a' w') a w
def waitsB (md : Region.Mode) (ops : Array Oper) (M : Nat -> Bool) (i : Nat) : Bool := (List.range ops.size).all fun j => M j || match ops[j]? with
 | some o => o.after.toList.any fun e => Region.binds md e && e.on == i
 | none => true
section
variable {P : Program} {ops : Array Oper} {Q : Exit → Act → World → Prop} {md : Region.Mode} {S S' : World → Prop} {M : Nat → Bool}
theorem any_of_T : ∀ (f : Nat) (L : Array Bool) (a : Act) (w : World), wpT P md ops Q S M f L a w -> wpAny P md ops Q f L a w := by
 intro f
 induction f with
 | zero => exact fun _ _ _ h => h
 | succ f ih => exact fun L a w h => ⟨h.1, fun i hi => wpOp_mono (fun a' w' q => ih _ a' w' q.2) (h.2 i hi)⟩
theorem ready_edge {i j : Nat} {oj : Oper} {L : Array Bool} (hi : i ∈ Region.ready md ops L) (hj : j ∈ Region.ready md ops L) (ho : ops[j]? = some oj) : ∀ e ∈ oj.after, Region.binds md e = true -> e.on ≠ i := fun e he hb heq => by
 obtain ⟨_, o, ho', hall⟩ := mem_ready.1 hj
 rw [ho] at ho'
 cases ho'
 have h1 := hall e he hb
 have h0 := (mem_ready.1 hi).1
 rw [heq] at h1
 simp only [Array.getD_eq_getD_getElem?] at h0 h1
 cases hL : L[i]? with
 | none => rw [hL] at h1; cases h1
 | some b => rw [hL] at h0 h1; simp at h0 h1; rw [h0] at h1; cases h1
theorem waits_spec {i j : Nat} {oj : Oper} (h : waitsB md ops M i = true) (ho : ops[j]? = some oj) (hn : ∀ e ∈ oj.after, Region.binds md e = true -> e.on ≠ i) : M j = true := by
 have hj : j < ops.size := (Array.getElem?_eq_some_iff.1 ho).1
 have h1 := List.all_eq_true.1 h j (List.mem_range.2 hj)
 rw [ho] at h1
 simp only [Bool.or_eq_true, List.any_eq_true, Bool.and_eq_true, beq_iff_eq] at h1
 rcases h1 with h1 | ⟨e, he, hb, heq⟩
 · exact h1
 · exact absurd heq (hn e (by simpa using he) hb)
theorem T_first {i : Nat} {oi : Oper} {v : Value} (hi : ops[i]? = some oi) (hsel : ∀ (j : Nat) (o : Oper) cs b, ops[j]? = some o -> o.op ≠ .select cs b) (hQ : ∀ c a w, Q (.panic c) (a.put oi.dst v) w -> Q (.panic c) a w)
 (hS : ∀ (j : Nat) (oj : Oper), ops[j]? = some oj -> (∀ e ∈ oj.after, Region.binds md e = true -> e.on ≠ i) -> ∀ w w', S' w -> (M j = true -> S w -> S w') -> S' w') :
 ∀ (f : Nat) (L : Array Bool) (a : Act) (w : World), (∀ j oj, ops[j]? = some oj -> j ≠ i -> L.getD j true = false -> (∀ e ∈ oj.after, Region.binds md e = true -> e.on ≠ i) -> oi.apart ops oj = true) →
  i ∈ Region.ready md ops L -> YieldsIf P ops S' oi v a -> S' w -> wpT P md ops Q S M f (L.setIfInBounds i true) (a.put oi.dst v) w -> wpT P md ops Q S M (f + 1) L a w := by
 intro f
 induction f with
 | zero =>
  intro L a w _ hr hy hw H
  refine ⟨fun h0 => (by rw [h0] at hr; cases hr), fun j hj => ?_⟩
  by_cases hne : j = i
  · subst hne
    exact hy.wpOp hi hw ⟨fun _ h => h, H⟩
  · have hc := ready_mono hj hne
    rw [H.1] at hc
    cases hc
 | succ f ih =>
  intro L a w hfr hr hy hw H
  refine ⟨fun h0 => (by rw [h0] at hr; cases hr), fun j hj => ?_⟩
  by_cases hne : j = i
  · subst hne
    exact hy.wpOp hi hw ⟨fun _ h => h, H⟩
  · obtain ⟨hun, oj, hoj, _⟩ := mem_ready.1 hj
    have hed := ready_edge hr hj hoj
    refine wpOp_mono (fun a' w' q => ?_) (wpOp_putIf hoj (hfr j oj hoj hne hun hed) (fun cs b => hsel i oi cs b hi) (fun cs b => hsel j oj cs b hoj) hQ hy (H.2 j (ready_mono hj hne)))
    refine ⟨q.2.1, ih _ a' w' (fun k ok hk hki hL he => ?_) (ready_mono hr (Ne.symm hne)) q.1 (hS j oj hoj hed w w' hw q.2.1) ?_⟩
    · refine hfr k ok hk hki ?_ he
      by_cases hjk : j = k
      · subst hjk
        exact hun
      · rw [getD_set_ne true hjk] at hL
        exact hL
    · rw [Array.setIfInBounds_comm _ _ hne]
      exact q.2.2
theorem T_take {i : Nat} {oi : Oper} {v : Value} {f : Nat} {L : Array Bool} {a : Act} {w : World} (hi : ops[i]? = some oi) (hs : Region.noSelect ops = true) (hf : Region.free md ops L i = true) (hr : (Region.ready md ops L).contains i = true) (hN : waitsB md ops M i = true)
 (hQ : ∀ c a w, Q (.panic c) (a.put oi.dst v) w -> Q (.panic c) a w) (hy : YieldsIf P ops S oi v a) (hS : S w) (h : wpT P md ops Q S M f (L.setIfInBounds i true) (a.put oi.dst v) w) : wpT P md ops Q S M (f + 1) L a w :=
 T_first hi (Region.noSelect_spec hs) hQ (fun j oj ho hn w w' h1 h2 => h2 (waits_spec hN ho hn) h1) f L a w (Region.free_spec hi hf) (by simpa using hr) hy hS h
theorem T_move {i : Nat} {oi : Oper} {v : Value} {f : Nat} {L : Array Bool} {a : Act} {w : World} (hi : ops[i]? = some oi) (hs : Region.noSelect ops = true) (hf : Region.free md ops L i = true) (hr : (Region.ready md ops L).contains i = true)
 (hQ : ∀ c a w, Q (.panic c) (a.put oi.dst v) w -> Q (.panic c) a w) (hy : YieldsIf P ops (fun _ => True) oi v a) (h : wpT P md ops Q S M f (L.setIfInBounds i true) (a.put oi.dst v) w) : wpT P md ops Q S M (f + 1) L a w :=
 T_first (S' := fun _ => True) hi (Region.noSelect_spec hs) hQ (fun _ _ _ _ _ _ _ _ => trivial) f L a w (Region.free_spec hi hf) (by simpa using hr) hy trivial h
def Zn (P : Program) (md : Region.Mode) (ops : Array Oper) (Q : Exit -> Act -> World -> Prop) (S : World -> Prop) (M : Nat -> Bool) (f : Nat) (L : Array Bool) (a : Act) (w : World) (rs : List Nat) : Prop :=
 ∀ i ∈ rs, wpOp P ops Q i (fun a' w' => (M i = true -> S w -> S w') /\ wpT P md ops Q S M f (L.setIfInBounds i true) a' w') a w
theorem Zn.nil {f : Nat} {L : Array Bool} {a : Act} {w : World} : Zn P md ops Q S M f L a w [] := fun _ h => by cases h
theorem Zn.cons {f : Nat} {L : Array Bool} {a : Act} {w : World} {i : Nat} {o : Oper} {rs : List Nat} (ho : ops[i]? = some o)
 (h : ∀ K' : Act -> World -> Prop, Shut (∀ a w', (M i = true -> S w') -> ((M i = true -> S w') -> wpT P md ops Q S M f (L.setIfInBounds i true) a w') -> K' a w') -> if Region.wanted o (yielded ops a.tmps) = true then Oper.wp P o a w K' Q else K' (a.put o.dst undef) w)
 (hs : Zn P md ops Q S M f L a w rs) : Zn P md ops Q S M f L a w (i :: rs) := fun j hj => by
 rcases List.mem_cons.1 hj with rfl | hj
 · exact wpOp_step ho (fun K' hK => h K' (fun a w' hS hW => hK a w' ⟨fun h1 _ => hS h1, hW hS⟩))
 · exact hs j hj
theorem Zn.keep {f : Nat} {L : Array Bool} {a : Act} {w : World} {i : Nat} {o : Oper} {rs : List Nat} (ho : ops[i]? = some o)
 (h : ∀ K' : Act -> World -> Prop, Shut (∀ a w', (M i = true -> S w -> S w') -> wpT P md ops Q S M f (L.setIfInBounds i true) a w' -> K' a w') -> if Region.wanted o (yielded ops a.tmps) = true then Oper.wp P o a w K' Q else K' (a.put o.dst undef) w)
 (hs : Zn P md ops Q S M f L a w rs) : Zn P md ops Q S M f L a w (i :: rs) := fun j hj => by
 rcases List.mem_cons.1 hj with rfl | hj
 · exact wpOp_step ho (fun K' hK => h K' (fun a w' hS hW => hK a w' ⟨hS, hW⟩))
 · exact hs j hj
theorem ZS {rs : List Nat} {f : Nat} {L : Array Bool} {a : Act} {w : World} (hr : Region.ready md ops L = rs) (hne : rs ≠ []) (h : Zn P md ops Q S M f L a w rs) : wpT P md ops Q S M (f + 1) L a w :=
 ⟨fun h0 => absurd (hr ▸ h0) hne, hr ▸ h⟩
theorem ZX {L : Array Bool} {a : Act} {w : World} (hr : Region.ready md ops L = []) (h : Q .normal a w) : ∀ f, wpT P md ops Q S M f L a w
 | 0 => ⟨hr, h⟩
 | _ + 1 => ⟨fun _ => h, by rw [hr]; simp⟩
theorem ZE {id : Nat} {a : Act} {w : World} (M : Nat -> Bool) (hm : P.follows .mixedOrders = true) (hS : S w.drew) (h : S w.drew -> wpT P .any ops Q S M ops.size (Array.replicate ops.size false) a w.drew) : (Code.region id ops true).wp P Q a w :=
 wp_region_any hm (any_of_T _ _ _ _ (h hS))
end
section
variable {P : Program} {md : Region.Mode} {ops : Array Oper} {Q : Exit → Act → World → Prop} {S : World → Prop} {M : Nat → Bool} {oi : Oper} {v : Value} {f : Nat} {L : Array Bool} {a : Act} {w : World}
theorem M_ (i : Nat) (h : wpT P md ops Q S M f (L.setIfInBounds i true) (a.put oi.dst v) w) (hi : ops[i]? = some oi := by rfl) (hy : ∀ w, True → (execOp a.eval oi).run P w = .ok (.value v) w := by (intro w _; go_simp <;> with_reducible rfl)) (hw : Region.wanted oi (yielded ops a.tmps) = true := by rfl) (hs : Region.noSelect ops = true := by kernel_rfl) (hf : Region.free md ops L i = true := by kernel_rfl) (hr : (Region.ready md ops L).contains i = true := by kernel_rfl) (hQ : ∀ c a w, Q (.panic c) (a.put oi.dst v) w → Q (.panic c) a w := by exact fun _ _ _ h => h) : wpT P md ops Q S M (f + 1) L a w := T_move hi hs hf hr hQ (Or.inl ⟨hw, hy⟩) h
theorem L_ (i : Nat) (hy : ∀ w, S w → (execOp a.eval oi).run P w = .ok (.value v) w) (hS : S w) (h : wpT P md ops Q S M f (L.setIfInBounds i true) (a.put oi.dst v) w) (hi : ops[i]? = some oi := by rfl) (hw : Region.wanted oi (yielded ops a.tmps) = true := by rfl) (hs : Region.noSelect ops = true := by kernel_rfl) (hf : Region.free md ops L i = true := by kernel_rfl) (hr : (Region.ready md ops L).contains i = true := by kernel_rfl) (hN : waitsB md ops M i = true := by kernel_rfl) (hQ : ∀ c a w, Q (.panic c) (a.put oi.dst v) w → Q (.panic c) a w := by exact fun _ _ _ h => h) : wpT P md ops Q S M (f + 1) L a w := T_take hi hs hf hr hN hQ (Or.inl ⟨hw, hy⟩) hS h
theorem RT_ (i : Nat) (h : ∀ K' : Act → World → Prop, Shut (∀ a w', (M i = true → S w') → ((M i = true → S w') → wpT P md ops Q S M f (L.setIfInBounds i true) a w') → K' a w') → if Region.wanted oi (yielded ops a.tmps) = true then Oper.wp P oi a w K' Q else K' (a.put oi.dst undef) w) (hr : Region.ready md ops L = [i] := by kernel_rfl) (ho : ops[i]? = some oi := by rfl) : wpT P md ops Q S M (f + 1) L a w := ZS hr (by simp) (Zn.cons ho h Zn.nil)
end
def Kb (W : World) (G : Nat -> Prop) (b : Nat) (o : Obj) : Prop := W.heap[b]? = some o /\ ¬ G b
section
variable {W W' : World} {G G' : Nat → Prop} {b : Nat} {o : Obj}
theorem Kb.lt (h : Kb W G b o) : b < W.heap.size := Ze h.1
theorem Kb.bel (h : Kb W G b o) (hb : Below W.heap.size W W') : Kb W' G b o := ⟨(hb.block b h.lt).trans h.1, h.2⟩
theorem Kb.ch (h : Kb W G b o) (c : Ch G G' W W') : Kb W' G' b o := ⟨(c.blk b h.lt h.2).trans h.1, fun e => by
 rcases c.grow b e with h1 | h1
 · exact h.2 h1
 · have := h.lt
   omega⟩
theorem Kb.set (h : Kb W G b o) {t : Nat} (ht : b ≠ t) (ho : ∀ k, k ≠ t -> W'.heap[k]? = W.heap[k]?) : Kb W' G b o := ⟨(ho b ht).trans h.1, h.2⟩
theorem Kb.new {B g : Nat} {S : List (List Wt)} {r : Rz} (h : Rr W G B g S r) (c : Array Value) (T : TypeId) : Kb (W.alloc (.cells c T)) G W.heap.size (.cells c T (0, 0)) := ⟨B_ W _, fun e => by have := h.fb _ e; omega⟩
end
def ask1Z (r : Rz) (i : Nat) : Rz := if r.e.o = 0 then
    (match r.pe[i]? with
    | some x => if (Yw x).1.2.1 = 0 then { r with pe := r.pe.set i (Yw x).2, ws := r.ws.set i (Yw x).1.1 } else { r with pe := r.pe.set i (Yw x).2, e := ⟨3, (Yw x).1.2.1, i, (Yw x).1.2.2.1, (Yw x).1.2.2.2⟩ }
    | none => r)
  else r
theorem ask1Z_len (r : Rz) (i : Nat) : (ask1Z r i).ws.length = r.ws.length /\ (ask1Z r i).pe.length = r.pe.length := by
 unfold ask1Z
 split
 · split
   · split <;> simp
   · exact ⟨rfl, rfl⟩
 · exact ⟨rfl, rfl⟩
def Yo (r : Rz) (l : List Nat) (k : Nat) : Rz := (l.take k).foldl ask1Z r
theorem asksZ_step {r : Rz} {l : List Nat} {k i : Nat} (h : l[k]? = some i) : Yo r l (k + 1) = ask1Z (Yo r l k) i := by
 unfold Yo
 rw [List.take_add_one, h]
 simp
theorem asksZ_len (r : Rz) (l : List Nat) : ∀ k, (Yo r l k).ws.length = r.ws.length /\ (Yo r l k).pe.length = r.pe.length := fun k => by
 unfold Yo
 generalize l.take k = m
 induction m generalizing r with
 | nil => exact ⟨rfl, rfl⟩
 | cons a m ih =>
  obtain ⟨h1, h2⟩ := ask1Z_len r a
  obtain ⟨h3, h4⟩ := ih (ask1Z r a)
  exact ⟨h3.trans h1, h4.trans h2⟩
def AskS (W : World) (G : Nat -> Prop) (v : Value) (l : List (Nat × V3)) : Prop := ∃ a c, v = .slice a l.length c /\ l.length <= 2 /\ ∀ (k : Nat) (x : Nat × V3), l[k]? = some x -> ∃ b o, a = some ⟨b, 0, none⟩ /\ Kb W G b o /\ W.cell? ⟨b, k * 4, none⟩ = some (I_ (x.1 : Nat)) /\ W.cell? ⟨b, k * 4 + 1, none⟩ = some (I_ x.2.1) /\ W.cell? ⟨b, k * 4 + 2, none⟩ = some (I_ x.2.2.1) /\ W.cell? ⟨b, k * 4 + 3, none⟩ = some (.int .u64 x.2.2.2)
theorem AskS.ch {W W' : World} {G G' : Nat -> Prop} {v : Value} {l : List (Nat × V3)} (h : AskS W G v l) (c : Ch G G' W W') : AskS W' G' v l := by
 obtain ⟨a, c', e, h1, h2⟩ := h
 refine ⟨a, c', e, h1, fun k x hx => ?_⟩
 obtain ⟨b, o, e2, kb, p0, p1, p2, p3⟩ := h2 k x hx
 have hk := c.blk b kb.lt kb.2
 exact ⟨b, o, e2, kb.ch c, Yh hk p0, Yh hk p1, Yh hk p2, Yh hk p3⟩
theorem rTold_any {w : World} {G : Nat -> Prop} {B g : Nat} {S : List (List Wt)} {r : Rz} (h : Rr w G B g S r) (i : Nat) (hi : i < r.ws.length) (x : Wt) (f n a : Int) : Calls Tryz.prog 76 #[P_ g, I_ (i : Nat), w6V x, h3V (f, n, a)] w (RrP w G B g S (if f = 0 then { r with ws := r.ws.set i x } else { r with e := ⟨3, f, (i : Nat), n, a⟩ }) (.tuple #[])) := by
 by_cases hf : f = 0
 · subst hf
   rw [if_pos rfl]
   exact rTold_ok h i x n a hi
 · rw [if_neg hf]
   exact rTold_fault h i x f n a hf
end Go.Proofs.YtfojninaginnoaaGreatDoor.Ck
