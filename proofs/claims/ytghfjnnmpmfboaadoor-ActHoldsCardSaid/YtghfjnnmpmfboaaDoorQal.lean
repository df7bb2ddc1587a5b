/- Texts of this proof, packed: contracts of the program's functions, and the plain model that they are held against. -/
import Derived.Test.YtghfjnnmpmfboaaDoorQak
set_option maxRecDepth 20000
set_option maxHeartbeats 4000000
namespace Go.Proofs.YtghfjnnmpmfboaaDoor.Ck
open Go.RowKit
theorem step_any {w : World} {G : Nat -> Prop} {g : Nat} {S : List (List Wt)} {r : Rm} {p : List Addr} (h : Rn w G g S r) (h17 : E2 w p) (i : Nat) (x : Gr) (hx : r.gs[i]? = some x) (hl : r.ev.length <= 90000) (hc : can r (i : Int) = true) : Calls Tryd.prog 95 #[.pointer (some ⟨g, 0, none⟩), .int .i64 (i : Nat)] w (RnP w G g S (ZY S r i) (.tuple #[])) := by
 rw [can_at hx] at hc
 by_cases h4 : x.w.k = 4
 · by_cases hm : lk r.s.M x.w.o = some true
   · exact step_4 h h17 i x hx hl h4 hc hm
   · exact step_4f h h17 i x hx hl h4 hm
 by_cases h10 : x.w.k = 10
 · exact step_10 h h17 i x hx hl h10
 by_cases h5 : x.w.k = 5
 · cases hz : roomZ r.s x.w.o with
   | true => exact step_5m h h17 i x hx hl h5 hc hz
   | false => exact step_5 h h17 i x hx hl h5 hc hz
 by_cases h12 : x.w.k = 12
 · have e : ZY S r i = { ZG r i x.w.o with gs := (ZG r i x.w.o).gs.set i ⟨x.rest, zW⟩ } := by
    unfold ZY
    rw [hx]
    simp only
    rw [if_neg (by omega), if_neg (by omega), if_neg (by omega), if_pos h12, note_gs]
   exact step_12 h h17 i x hx hl h12
 · exact step_d h h17 i x hx hl hc h4 h5 h10 h12
structure E3 (w : World) (p : List Addr) : Prop where
 e2 : E2 w p
 l9 : 9 < w.heap.size
 c9 : w.cell? ⟨9, 0, none⟩ = some (errV p 9)
theorem E3.below {w w' : World} {p : List Addr} (h : E3 w p) {B : Nat} (hB : w.heap.size <= B) (hb : Below B w w') : E3 w' p :=
 ⟨h.e2.below hB hb, Nat.lt_of_lt_of_le h.l9 hb.size, (hb.cell (p := ⟨9, 0, none⟩) (Nat.lt_of_lt_of_le h.l9 hB)).trans h.c9⟩
def Off (G : Nat -> Prop) : Prop := ¬ G 0 /\ ¬ G 4 /\ ¬ G 9
theorem E3.ch {w w' : World} {p : List Addr} {G G' : Nat -> Prop} (h : E3 w p) (hG : Off G) (c : Ch G G' w w') : E3 w' p /\ Off G' := by
 obtain ⟨h1, h2, h3⟩ := hG
 obtain ⟨a1, b1, c1⟩ := c.keepB h1 h.e2.l0
 obtain ⟨a2, b2, c2⟩ := c.keepB h2 h.e2.l4
 obtain ⟨a3, b3, c3⟩ := c.keepB h3 h.l9
 exact ⟨⟨⟨c1, c2, ZS a1 h.e2.c0, ZS a2 h.e2.c4⟩, c3, ZS a3 h.c9⟩, b1, b2, b3⟩
theorem Do_ok {w : World} {G : Nat -> Prop} {g : Nat} {S : List (List Wt)} {r : Rm} {p : List Addr} (h : Rn w G g S r) (h17 : E3 w p) (hO : Off G) (i : Nat) (hr : Yz r = true) (hc : can r (i : Int) = true) (hl : r.ev.length <= 90000) : Calls Tryd.prog 68 #[.pointer (some ⟨g, 0, none⟩), .int .i64 (i : Nat)] w (RnP w G g S (doR S r i) .nilIface) := by
 have E := Za (ended_any h h17.e2)
 rw [hr] at E
 have CR := Za (fun (w1 : World) (hb : Below w.heap.size w w1) => canRun_any (h.bel hb) (h17.below (Nat.le_refl _) hb).e2 (i : Int))
 rw [hc] at CR
 obtain ⟨x, hx⟩ : ∃ x, r.gs[i]? = some x := by
  unfold can at hc
  rw [lk_nat] at hc
  cases hx : r.gs[i]? with
  | none => rw [hx] at hc; cases hc
  | some x => exact ⟨x, rfl⟩
 have SA := Za (fun (w1 : World) (hb : Below w.heap.size w w1) => step_any (h.bel hb) (h17.below (Nat.le_refl _) hb).e2 i x hx hl hc)
 have H7 := Za (And.intro h17 hO)
 clear h h17 hO hr hc hl hx
 go_enter Tryd.func68, Tryd.ntmps68
 go_wp2_with fail
 refine E.out.mono ?_
 rintro e w1 ⟨rfl, hb⟩
 have HB := Za hb
 clear hb
 go_wp2_with fail
 refine (CR.out w1 HB.out).mono ?_
 rintro e w2 ⟨rfl, hb⟩
 have HB2 := Za (Zi HB.out hb)
 clear hb
 go_wp2_with fail
 refine (SA.out w2 HB2.out).mono ?_
 rintro e w3 ⟨rfl, G3, rn3, c3⟩
 have C3 := Za ((Ch.of_bel HB2.out).trans c3)
 have SE := Za (settle_any rn3 (H7.out.1.ch H7.out.2 C3.out).1.e2)
 clear rn3 c3
 go_wp2_with fail
 refine SE.out.mono ?_
 rintro e w4 ⟨rfl, G4, rn4, c4⟩
 have Z := Za (And.intro rn4 (C3.out.trans c4))
 clear rn4 c4
 go_wp2_with fail
 go_ret
 exact RnP.mk rfl Z.out.1 Z.out.2
end Go.Proofs.YtghfjnnmpmfboaaDoor.Ck
namespace Go.Proofs.YtghfjnnmpmfboaaDoor.Ck
open Go.ChangeShapes Go.WideShapes Go.RowKit
def laid3 : List (String × DataW Unit) := [("stockade/api.ErrRange", Rows.laid_stockade_api_ErrRange), ("stockade/api.ErrType", Rows.laid_stockade_api_ErrType), ("stockade/api.ErrState", Rows.laid_stockade_api_ErrState)]
def l3 : List (String × List UInt8) := [("stockade/api.ErrRange", [115, 116, 111, 99, 107, 97, 100, 101, 58, 32, 114, 97, 110, 103, 101]), ("stockade/api.ErrType", [115, 116, 111, 99, 107, 97, 100, 101, 58, 32, 116, 121, 112, 101]), ("stockade/api.ErrState", [115, 116, 111, 99, 107, 97, 100, 101, 58, 32, 115, 116, 97, 116, 101])]
theorem laid3_eq : laid3 = l3.map fun x => (x.1, sentD x.2) := rfl
theorem named3 : ((List.range 3).all fun i => Tryd.prog.globalNamed (l3.getD i ("", [])).1 == some ([0, 4, 9].getD i 0) && (Tryd.prog.globals[[0, 4, 9].getD i 0]?).map (·.type) == some 30) = true := by kernel_rfl
theorem e3_of_laid {W : World} (h : laidMetH Tryd.prog laid3 W) : ∃ p, E3 W p := by
  rw [MakeChecks.laidMetH_plain _ _ _ (by kernel_rfl), laid3_eq] at h
  obtain ⟨ps, hv, hnd, hrows⟩ := h
  obtain ⟨p, hs, hsub⟩ := sents_of l3 [0, 4, 9] ps rfl (fun i hi => by
    have h1 := List.all_eq_true.1 named3 i (List.mem_range.2 hi)
    simp only [Bool.and_eq_true, beq_iff_eq] at h1
    exact h1) hv hrows
  have h0 := hs.at 0 (by decide)
  have h1 := hs.at 1 (by decide)
  have h2 := hs.at 2 (by decide)
  exact ⟨[p.getD 0 ⟨0, 0, none⟩, ⟨0, 0, none⟩, ⟨0, 0, none⟩, ⟨0, 0, none⟩, p.getD 1 ⟨0, 0, none⟩, ⟨0, 0, none⟩, ⟨0, 0, none⟩, ⟨0, 0, none⟩, ⟨0, 0, none⟩, p.getD 2 ⟨0, 0, none⟩], ⟨h0.1, h1.1, h0.2.1, h1.2.1⟩, h2.1, h2.2.1⟩
theorem door_met3 (os : Os) (args : Array Value) : laidMetH Tryd.prog laid3 ((World.doorLaid Tryd.prog 332 os).forCall (fun _ _ => 0) ⟨#[], args, []⟩).memory :=
 laidMetH_of_parts3 (fuel := 8) (laidMet_of_run' 8 (by kernel_rfl) (by kernel_rfl)) (by kernel_rfl) (by kernel_rfl)
def w6s : List Wt -> List Value
 | [] => []
 | x :: l => .int .i64 x.k :: .int .i64 x.o :: .int .i64 x.a :: .int .i64 x.v.1 :: .int .i64 x.v.2.1 :: .int .u64 x.v.2.2 :: w6s l
theorem w6s_app : ∀ a b, w6s (a ++ b) = w6s a ++ w6s b
 | [], b => rfl
 | x :: a, b => by simp [w6s, w6s_app a b]
theorem w6s_at : ∀ (l : List Wt) (i : Nat) (x : Wt), l[i]? = some x -> (w6s l)[i * 6]? = some (.int .i64 x.k) /\ (w6s l)[i * 6 + 1]? = some (.int .i64 x.o) /\ (w6s l)[i * 6 + 2]? = some (.int .i64 x.a) /\ (w6s l)[i * 6 + 3]? = some (.int .i64 x.v.1) /\ (w6s l)[i * 6 + 4]? = some (.int .i64 x.v.2.1) /\ (w6s l)[i * 6 + 5]? = some (.int .u64 x.v.2.2)
 | [], i, x, h => by simp at h
 | y :: l, 0, x, h => by
  simp at h
  subst h
  exact ⟨rfl, rfl, rfl, rfl, rfl, rfl⟩
 | y :: l, i + 1, x, h => by
  rw [show (i + 1) * 6 = i * 6 + 6 by omega]
  exact w6s_at l i x (by simpa using h)
theorem w6s_set : ∀ (l : List Wt) (i : Nat) (x : Wt), w6s (l.set i x) = ((((((w6s l).set (i * 6) (.int .i64 x.k)).set (i * 6 + 1) (.int .i64 x.o)).set (i * 6 + 2) (.int .i64 x.a)).set (i * 6 + 3) (.int .i64 x.v.1)).set (i * 6 + 4) (.int .i64 x.v.2.1)).set (i * 6 + 5) (.int .u64 x.v.2.2)
 | [], i, x => by simp [w6s]
 | y :: l, 0, x => by simp [w6s]
 | y :: l, i + 1, x => by
  rw [show (i + 1) * 6 + 5 = i * 6 + 5 + 1 + 1 + 1 + 1 + 1 + 1 by omega, show (i + 1) * 6 + 4 = i * 6 + 4 + 1 + 1 + 1 + 1 + 1 + 1 by omega, show (i + 1) * 6 + 3 = i * 6 + 3 + 1 + 1 + 1 + 1 + 1 + 1 by omega, show (i + 1) * 6 + 2 = i * 6 + 2 + 1 + 1 + 1 + 1 + 1 + 1 by omega, show (i + 1) * 6 + 1 = i * 6 + 1 + 1 + 1 + 1 + 1 + 1 + 1 by omega, show (i + 1) * 6 = i * 6 + 1 + 1 + 1 + 1 + 1 + 1 by omega]
  simp only [List.set_cons_succ, w6s, w6s_set l i x]
theorem w6s_one : ∀ l, ∀ u ∈ w6s l, u.oneCell' = true
 | [], u, h => by simp [w6s] at h
 | x :: l, u, h => by
  simp only [w6s, List.mem_cons] at h
  rcases h with rfl | rfl | rfl | rfl | rfl | rfl | h
  all_goals first | rfl | exact w6s_one l u h
def nns (l : List Nat) : List Value := l.map fun (n : Nat) => Value.int .i64 (n : Int)
theorem nns_at {l : List Nat} {i x : Nat} (h : l[i]? = some x) : (nns l)[i]? = some (.int .i64 (x : Int)) := by simp [nns, h]
structure Rz where
 s : St
 ws : List Wt
 ev : List Evt
 e : En
 pe : List (List Wt)
structure Rq (w : World) (Fs Rs Fo R : Nat -> Prop) (B g gs gt : Nat) (S : List (List Wt)) (r : Rz) (vW vE vL vO vA : Value) (vs : List Value) (os as_ : List Nat) : Prop where
 at_ : w.heap[g]? = some (.cells #[.pointer (some ⟨gs, 0, none⟩), vW, vE, .int .i64 r.e.o, .int .i64 r.e.f, .int .i64 r.e.g, .int .i64 r.e.n, .int .i64 r.e.a, .pointer (some ⟨gt, 0, none⟩)] 187 (0, 0))
 st : Rt w Fs Rs B gs r.s
 wa : w.ownsRow 0 141 6 vW r.ws.length (w6s r.ws)
 ev : w.ownsRow 0 75 4 vE r.ev.length (ecs r.ev)
 tt : w.heap[gt]? = some (.cells #[vL, vO, vA] 145 (0, 0))
 al : w.ownsRow 0 139 1 vL S.length vs
 row : ∀ (i : Nat) (l : List Wt) (v : Value), S[i]? = some l -> vs[i]? = some v -> w.ownsRow 0 141 6 v l.length (w6s l) /\ ∀ k, v.ownBlock = some k -> R k
 of : w.ownsRow 0 3 1 vO r.pe.length (nns os)
 at' : w.ownsRow 0 3 1 vA r.pe.length (nns as_)
 pos : ∀ (i : Nat) (x : List Wt) (o a : Nat), r.pe[i]? = some x -> os[i]? = some o -> as_[i]? = some a -> ∃ l, S[o]? = some l /\ a <= l.length /\ x = l.drop a
 ne : ∀ k, vO.ownBlock = some k -> vA.ownBlock ≠ some k
 fg : Fo g
 ft : Fo gt
 fW : ∀ k, vW.ownBlock = some k -> Fo k
 fE : ∀ k, vE.ownBlock = some k -> Fo k
 fO : ∀ k, vO.ownBlock = some k -> Fo k
 fA : ∀ k, vA.ownBlock = some k -> Fo k
 fL : ∀ k, vL.ownBlock = some k -> R k
 so : ∀ k, Fo k -> ¬ Fs k /\ ¬ Rs k
 ro : ∀ k, R k -> ¬ Fs k /\ ¬ Fo k
 fb : ∀ k, Fo k -> k < w.heap.size
 rb : ∀ k, R k -> k < w.heap.size
 n8 : r.ws.length <= 8 /\ r.pe.length <= 9
 sz : S.length <= 2000 /\ ∀ l ∈ S, l.length <= 2000
def Rr (w : World) (G : Nat -> Prop) (B g : Nat) (S : List (List Wt)) (r : Rz) : Prop := ∃ Fs Rs Fo R gs gt vW vE vL vO vA vs os as_, Rq w Fs Rs Fo R B g gs gt S r vW vE vL vO vA vs os as_ /\ ∀ k, G k ↔ Fs k ∨ Rs k ∨ Fo k ∨ R k
section
variable {w w' : World} {G G' Fs Fs' Rs Rs' Fo Fo' R F F' : Nat → Prop} {B B' g gs gt : Nat} {S : List (List Wt)} {r : Rz} {vW vE vL vO vA : Value} {vs : List Value} {os as_ : List Nat}
theorem Rq.ol (h : Rq w Fs Rs Fo R B g gs gt S r vW vE vL vO vA vs os as_) : os.length = r.pe.length /\ as_.length = r.pe.length /\ vs.length = S.length := by
 have h1 := h.of.1
 have h2 := h.at'.1
 have h3 := h.al.1
 simp [nns] at h1 h2
 omega
theorem Rt.keep {s : St} (h : Rt w F R B g s) (hb : ∀ k, F k ∨ R k -> w'.heap[k]? = w.heap[k]?) (hs : w.heap.size <= w'.heap.size) : Rt w' F R B g s := by
 obtain ⟨vP, vL, vC, vS, vT, vA, ss, tk, h⟩ := h
 exact ⟨_, _, _, _, _, _, _, _, h.keep hb hs⟩
theorem Rq.lt (h : Rq w Fs Rs Fo R B g gs gt S r vW vE vL vO vA vs os as_) {k : Nat} (hk : Fs k ∨ Rs k ∨ Fo k ∨ R k) : k < w.heap.size := by
 rcases hk with hk | hk | hk | hk
 · exact h.st.fb k hk
 · exact h.st.rb k hk
 · exact h.fb k hk
 · exact h.rb k hk
theorem Rq.keep (h : Rq w Fs Rs Fo R B g gs gt S r vW vE vL vO vA vs os as_) (hb : ∀ k, Fs k ∨ Rs k ∨ Fo k ∨ R k -> w'.heap[k]? = w.heap[k]?) (hs : w.heap.size <= w'.heap.size) : Rq w' Fs Rs Fo R B g gs gt S r vW vE vL vO vA vs os as_ :=
 { h with
  at_ := (hb g (.inr (.inr (.inl h.fg)))).trans h.at_
  st := h.st.keep (fun k hk => hb k (hk.elim .inl fun q => .inr (.inl q))) hs
  wa := Zk h.wa fun k hk => hb k (.inr (.inr (.inl (h.fW k hk))))
  ev := Zk h.ev fun k hk => hb k (.inr (.inr (.inl (h.fE k hk))))
  tt := (hb gt (.inr (.inr (.inl h.ft)))).trans h.tt
  al := Zk h.al fun k hk => hb k (.inr (.inr (.inr (h.fL k hk))))
  row := fun i l v hl hv => ⟨Zk (h.row i l v hl hv).1 fun k hk => hb k (.inr (.inr (.inr ((h.row i l v hl hv).2 k hk)))), (h.row i l v hl hv).2⟩
  of := Zk h.of fun k hk => hb k (.inr (.inr (.inl (h.fO k hk))))
  at' := Zk h.at' fun k hk => hb k (.inr (.inr (.inl (h.fA k hk))))
  fb := fun k hk => Nat.lt_of_lt_of_le (h.fb k hk) hs
  rb := fun k hk => Nat.lt_of_lt_of_le (h.rb k hk) hs }
theorem Rq.bel (h : Rq w Fs Rs Fo R B g gs gt S r vW vE vL vO vA vs os as_) (hb : Below w.heap.size w w') : Rq w' Fs Rs Fo R B g gs gt S r vW vE vL vO vA vs os as_ := h.keep (fun k hk => hb.block k (h.lt hk)) hb.size
theorem Rr.fb (h : Rr w G B g S r) : ∀ k, G k -> k < w.heap.size := by
 obtain ⟨Fs, Rs, Fo, R, gs, gt, vW, vE, vL, vO, vA, vs, os, as_, h, hG⟩ := h
 exact fun k hk => h.lt ((hG k).1 hk)
theorem Rr.keep (h : Rr w G B g S r) (hb : ∀ k, G k -> w'.heap[k]? = w.heap[k]?) (hs : w.heap.size <= w'.heap.size) : Rr w' G B g S r := by
 obtain ⟨Fs, Rs, Fo, R, gs, gt, vW, vE, vL, vO, vA, vs, os, as_, h, hG⟩ := h
 exact ⟨Fs, Rs, Fo, R, gs, gt, vW, vE, vL, vO, vA, vs, os, as_, h.keep (fun k hk => hb k ((hG k).2 hk)) hs, hG⟩
theorem Rr.bel (h : Rr w G B g S r) (hb : Below w.heap.size w w') : Rr w' G B g S r := h.keep (fun k hk => hb.block k (h.fb k hk)) hb.size
theorem Rr.lt (h : Rr w G B g S r) : g < w.heap.size := by
 obtain ⟨Fs, Rs, Fo, R, gs, gt, vW, vE, vL, vO, vA, vs, os, as_, h, hG⟩ := h
 exact h.fb g h.fg
theorem Rq.low {N : Nat} (h : Rq w Fs Rs Fo R B g gs gt S r vW vE vL vO vA vs os as_) (hN : ∀ k, Fs k ∨ Rs k ∨ Fo k ∨ R k -> k < N) (hb : Below N w w') : Rq w' Fs Rs Fo R B g gs gt S r vW vE vL vO vA vs os as_ := h.keep (fun k hk => hb.block k (hN k hk)) hb.size
theorem Rq.rr (h : Rq w Fs Rs Fo R B g gs gt S r vW vE vL vO vA vs os as_) : Rr w (fun k => Fs k ∨ Rs k ∨ Fo k ∨ R k) B g S r := ⟨Fs, Rs, Fo, R, gs, gt, vW, vE, vL, vO, vA, vs, os, as_, h, fun _ => Iff.rfl⟩
theorem Rq.cells (h : Rq w Fs Rs Fo R B g gs gt S r vW vE vL vO vA vs os as_) : (w.cell? ⟨g, 0, none⟩ = some (.pointer (some ⟨gs, 0, none⟩)) /\ w.cell? ⟨g, 1, none⟩ = some vW /\ w.cell? ⟨g, 2, none⟩ = some vE /\ w.cell? ⟨g, 8, none⟩ = some (.pointer (some ⟨gt, 0, none⟩))) ∧
 (w.cell? ⟨g, 3, none⟩ = some (.int .i64 r.e.o) /\ w.cell? ⟨g, 4, none⟩ = some (.int .i64 r.e.f) /\ w.cell? ⟨g, 5, none⟩ = some (.int .i64 r.e.g) /\ w.cell? ⟨g, 6, none⟩ = some (.int .i64 r.e.n) /\ w.cell? ⟨g, 7, none⟩ = some (.int .i64 r.e.a)) ∧
 w.cell? ⟨gt, 0, none⟩ = some vL /\ w.cell? ⟨gt, 1, none⟩ = some vO /\ w.cell? ⟨gt, 2, none⟩ = some vA :=
 ⟨⟨Zb h.at_ 0 _ rfl, Zb h.at_ 1 _ rfl, Zb h.at_ 2 _ rfl, Zb h.at_ 8 _ rfl⟩, ⟨Zb h.at_ 3 _ rfl, Zb h.at_ 4 _ rfl, Zb h.at_ 5 _ rfl, Zb h.at_ 6 _ rfl, Zb h.at_ 7 _ rfl⟩, Zb h.tt 0 _ rfl, Zb h.tt 1 _ rfl, Zb h.tt 2 _ rfl⟩
theorem Rq.part (h : Rq w Fs Rs Fo R B g gs gt S r vW vE vL vO vA vs os as_) {c : Nat} (hc : Fo c) (ho : ∀ k, k ≠ c -> k < w.heap.size -> w'.heap[k]? = w.heap[k]?) (hs : w.heap.size <= w'.heap.size) :
 Rt w' Fs Rs B gs r.s /\ (w'.ownsRow 0 139 1 vL S.length vs /\ ∀ (i : Nat) (l : List Wt) (v : Value), S[i]? = some l -> vs[i]? = some v -> w'.ownsRow 0 141 6 v l.length (w6s l) /\ ∀ k, v.ownBlock = some k -> R k) /\ ∀ {T : TypeId} {n : Nat} {v : Value} {len : Nat} {xs : List Value}, w.ownsRow 0 T n v len xs -> v.ownBlock ≠ some c -> w'.ownsRow 0 T n v len xs := by
 have hR : ∀ k, R k -> w'.heap[k]? = w.heap[k]? := fun k hk => ho k (fun e => (h.ro k hk).2 (by rw [e]; exact hc)) (h.rb k hk)
 refine ⟨h.st.keep (fun k hk => ?_) hs, ⟨Zk h.al fun k hk => hR k (h.fL k hk), fun i l v hl hv => ⟨Zk (h.row i l v hl hv).1 fun k hk => hR k ((h.row i l v hl hv).2 k hk), (h.row i l v hl hv).2⟩⟩, fun hr hne => Zk hr fun k hk => ho k (fun e => hne (by rw [hk, e])) (Zf hr hk).2.1⟩
 rcases hk with hk | hk
 · exact ho k (fun e => (h.so c hc).1 (by rw [← e]; exact hk)) (h.st.fb k hk)
 · exact ho k (fun e => (h.so c hc).2 (by rw [← e]; exact hk)) (h.st.rb k hk)
theorem Rq.rowne (h : Rq w Fs Rs Fo R B g gs gt S r vW vE vL vO vA vs os as_) :
 (vW.ownBlock ≠ some g /\ vE.ownBlock ≠ some g /\ vO.ownBlock ≠ some g /\ vA.ownBlock ≠ some g) /\ (vW.ownBlock ≠ some gt /\ vE.ownBlock ≠ some gt /\ vO.ownBlock ≠ some gt /\ vA.ownBlock ≠ some gt) /\ g ≠ gt :=
 ⟨⟨Zt h.wa h.at_ (by decide), Zt h.ev h.at_ (by decide), Zt h.of h.at_ (by decide), Zt h.at' h.at_ (by decide)⟩, ⟨Zt h.wa h.tt (by decide), Zt h.ev h.tt (by decide), Zt h.of h.tt (by decide), Zt h.at' h.tt (by decide)⟩, Zn h.at_ h.tt (by decide)⟩
theorem Rq.endW (h : Rq w Fs Rs Fo R B g gs gt S r vW vE vL vO vA vs os as_) (e : En) (ho : ∀ k, k ≠ g -> w'.heap[k]? = w.heap[k]?) (hs : w'.heap.size = w.heap.size)
 (hat : w'.heap[g]? = some (.cells #[.pointer (some ⟨gs, 0, none⟩), vW, vE, .int .i64 e.o, .int .i64 e.f, .int .i64 e.g, .int .i64 e.n, .int .i64 e.a, .pointer (some ⟨gt, 0, none⟩)] 187 (0, 0))) : Rq w' Fs Rs Fo R B g gs gt S { r with e := e } vW vE vL vO vA vs os as_ := by
 obtain ⟨h1, h2, hk⟩ := h.part h.fg (fun k hk _ => ho k hk) (Nat.le_of_eq hs.symm)
 obtain ⟨⟨n1, n2, n3, n4⟩, _, n5⟩ := h.rowne
 exact { h with
  at_ := hat
  st := h1
  wa := hk h.wa n1
  ev := hk h.ev n2
  tt := (ho gt (fun e => n5 e.symm)).trans h.tt
  al := h2.1
  row := h2.2
  of := hk h.of n3
  at' := hk h.at' n4
  fb := fun k hk => by rw [hs]; exact h.fb k hk
  rb := fun k hk => by rw [hs]; exact h.rb k hk }
theorem Rq.waitW {b n c : Nat} (h : Rq w Fs Rs Fo R B g gs gt S r (.slice (some ⟨b, 0, none⟩) n c) vE vL vO vA vs os as_) (i : Nat) (x : Wt) (ho : ∀ k, k ≠ b -> w'.heap[k]? = w.heap[k]?) (hs : w'.heap.size = w.heap.size)
 (hw : w'.ownsRow 0 141 6 (.slice (some ⟨b, 0, none⟩) n c) r.ws.length (w6s (r.ws.set i x))) : Rq w' Fs Rs Fo R B g gs gt S { r with ws := r.ws.set i x } (.slice (some ⟨b, 0, none⟩) n c) vE vL vO vA vs os as_ := by
 obtain ⟨h1, h2, hk⟩ := h.part (h.fW b rfl) (fun k hk _ => ho k hk) (Nat.le_of_eq hs.symm)
 obtain ⟨⟨n1, n2, n3, n4⟩, ⟨n6, _⟩, n5⟩ := h.rowne
 exact { h with
  at_ := (ho g (fun e => n1 (by rw [e]; rfl))).trans h.at_
  st := h1
  wa := by
   show w'.ownsRow 0 141 6 _ (r.ws.set i x).length _
   rw [List.length_set]
   exact hw
  ev := hk h.ev (fun e => Zp h.ev h.wa (by decide) b e rfl)
  tt := (ho gt (fun e => n6 (by rw [e]; rfl))).trans h.tt
  al := h2.1
  row := h2.2
  of := hk h.of (fun e => Zp h.of h.wa (by decide) b e rfl)
  at' := hk h.at' (fun e => Zp h.at' h.wa (by decide) b e rfl)
  fb := fun k hk => by rw [hs]; exact h.fb k hk
  rb := fun k hk => by rw [hs]; exact h.rb k hk
  n8 := ⟨by rw [List.length_set]; exact h.n8.1, h.n8.2⟩ }
theorem Rq.movT {b n c : Nat} (h : Rq w Fs Rs Fo R B g gs gt S r vW vE vL vO (.slice (some ⟨b, 0, none⟩) n c) vs os as_) (i a o : Nat) (x : List Wt) (hx : r.pe[i]? = some x) (ha : as_[i]? = some a) (ho' : os[i]? = some o) (l : List Wt) (hl : S[o]? = some l) (hal : a < l.length) (hxd : x = l.drop a) :
 Rq (w.setCell ⟨b, i, none⟩ (.int .i64 ((a : Int) + 1))) Fs Rs Fo R B g gs gt S { r with pe := r.pe.set i x.tail } vW vE vL vO (.slice (some ⟨b, 0, none⟩) n c) vs os (as_.set i (a + 1)) /\ Ch Fo Fo w (w.setCell ⟨b, i, none⟩ (.int .i64 ((a : Int) + 1))) := by
 have hF := h.fA b rfl
 have ho : ∀ k, k ≠ b -> (w.setCell ⟨b, i, none⟩ (.int .i64 ((a : Int) + 1))).heap[k]? = w.heap[k]? := fun k hk => Below.heap_setCell _ _ _ _ hk
 have hs : (w.setCell ⟨b, i, none⟩ (.int .i64 ((a : Int) + 1))).heap.size = w.heap.size := Zg _ _ _
 obtain ⟨h1, h2, hk⟩ := h.part hF (fun k hk _ => ho k hk) (Nat.le_of_eq hs.symm)
 obtain ⟨⟨n1, n2, n3, n4⟩, ⟨n6, n7, n8, n9⟩, n5⟩ := h.rowne
 refine ⟨{ h with
  at_ := (ho g (fun e => n4 (by rw [e]; rfl))).trans h.at_
  st := h1
  wa := hk h.wa (fun e => Zp h.wa h.at' (by decide) b e rfl)
  ev := hk h.ev (fun e => Zp h.ev h.at' (by decide) b e rfl)
  tt := (ho gt (fun e => n9 (by rw [e]; rfl))).trans h.tt
  al := h2.1
  row := h2.2
  of := by
   show World.ownsRow _ 0 3 1 _ (r.pe.set i x.tail).length _
   rw [List.length_set]
   exact hk h.of (fun e => h.ne b e rfl)
  at' := by
   show World.ownsRow _ 0 3 1 _ (r.pe.set i x.tail).length _
   rw [List.length_set]
   have := Ye h.at' i (.int .i64 ((a : Int) + 1))
   simp only [nns, List.map_set, show ((a + 1 : Nat) : Int) = (a : Int) + 1 from rfl] at this ⊢
   exact this
  pos := fun j y o' a' hy hj hj' => by
   by_cases e : i = j
   · subst e
     rw [List.getElem?_set_self (List.getElem?_eq_some_iff.1 hx).1] at hy
     rw [List.getElem?_set_self (List.getElem?_eq_some_iff.1 ha).1] at hj'
     cases hy
     cases hj'
     rw [ho'] at hj
     cases hj
     exact ⟨l, hl, hal, by rw [hxd, List.tail_drop]⟩
   · rw [List.getElem?_set_ne e] at hy hj'
     exact h.pos j y o' a' hy hj hj'
  fb := fun k hk => by rw [hs]; exact h.fb k hk
  rb := fun k hk => by rw [hs]; exact h.rb k hk
  n8 := ⟨h.n8.1, by rw [List.length_set]; exact h.n8.2⟩ }, ZR hF _⟩
def RrP (w : World) (G : Nat -> Prop) (B g : Nat) (S : List (List Wt)) (r' : Rz) (v : Value) (e : Ending) (w' : World) : Prop := e = .returned v /\ ∃ G', Rr w' G' B g S r' /\ Ch G G' w w'
theorem rr_wide (hG : ∀ k, G k ↔ Fs k ∨ Rs k ∨ Fo k ∨ R k) (h : Rq w' Fs Rs Fo R B g gs gt S r vW vE vL vO vA vs os as_) (c : Ch Fo Fo w w') : Rr w' G B g S r /\ Ch G G w w' :=
 ⟨⟨_, _, _, _, _, _, _, _, _, _, _, _, _, _, h, hG⟩, c.wide (fun k hk => (hG k).2 (.inr (.inr (.inl hk)))) fun _ hk => .inl hk⟩
end
def w6V (x : Wt) : Value := .agg #[.int .i64 x.k, .int .i64 x.o, .int .i64 x.a, .int .i64 x.v.1, .int .i64 x.v.2.1, .int .u64 x.v.2.2]
def h3V (x : V3) : Value := .agg #[.int .i64 x.1, .int .i64 x.2.1, .int .i64 x.2.2]
def setN (w : World) (g : Nat) (e0 e1 e2 e3 e4 : Int) : World := ((((w.setCell ⟨g, 3, none⟩ (.int .i64 e0)).setCell ⟨g, 4, none⟩ (.int .i64 e1)).setCell ⟨g, 5, none⟩ (.int .i64 e2)).setCell ⟨g, 6, none⟩ (.int .i64 e3)).setCell ⟨g, 7, none⟩ (.int .i64 e4)
theorem setN_ne {w : World} {g k : Nat} {e0 e1 e2 e3 e4 : Int} (h : k ≠ g) : (setN w g e0 e1 e2 e3 e4).heap[k]? = w.heap[k]? :=
 (Below.heap_setCell _ _ _ _ h).trans ((Below.heap_setCell _ _ _ _ h).trans ((Below.heap_setCell _ _ _ _ h).trans ((Below.heap_setCell _ _ _ _ h).trans (Below.heap_setCell _ _ _ _ h))))
theorem setN_size {w : World} {g : Nat} {e0 e1 e2 e3 e4 : Int} : (setN w g e0 e1 e2 e3 e4).heap.size = w.heap.size := by
 unfold setN
 simp only [Zg]
theorem ch_setN {w : World} {Fo : Nat -> Prop} {g : Nat} (hg : Fo g) {e0 e1 e2 e3 e4 : Int} : Ch Fo Fo w (setN w g e0 e1 e2 e3 e4) := (ZR hg _).trans ((ZR hg _).trans ((ZR hg _).trans ((ZR hg _).trans (ZR hg _))))
theorem setN_at {w : World} {g : Nat} {y0 y1 y2 y3 y4 y5 y6 y7 y8 : Value} {T : TypeId} (h : w.heap[g]? = some (.cells #[y0, y1, y2, y3, y4, y5, y6, y7, y8] T (0, 0))) (e0 e1 e2 e3 e4 : Int) :
 (setN w g e0 e1 e2 e3 e4).heap[g]? = some (.cells #[y0, y1, y2, .int .i64 e0, .int .i64 e1, .int .i64 e2, .int .i64 e3, .int .i64 e4, y8] T (0, 0)) := by
 have h0 : (w.setCell ⟨g, 3, none⟩ (.int .i64 e0)).heap[g]? = some (.cells #[y0, y1, y2, .int .i64 e0, y4, y5, y6, y7, y8] T (0, 0)) := heap_setCell_same _ _ _ _ _ _ h
 have h1 : ((w.setCell ⟨g, 3, none⟩ (.int .i64 e0)).setCell ⟨g, 4, none⟩ (.int .i64 e1)).heap[g]? = some (.cells #[y0, y1, y2, .int .i64 e0, .int .i64 e1, y5, y6, y7, y8] T (0, 0)) := heap_setCell_same _ _ _ _ _ _ h0
 have h2 : (((w.setCell ⟨g, 3, none⟩ (.int .i64 e0)).setCell ⟨g, 4, none⟩ (.int .i64 e1)).setCell ⟨g, 5, none⟩ (.int .i64 e2)).heap[g]? = some (.cells #[y0, y1, y2, .int .i64 e0, .int .i64 e1, .int .i64 e2, y6, y7, y8] T (0, 0)) := heap_setCell_same _ _ _ _ _ _ h1
 have h3 : ((((w.setCell ⟨g, 3, none⟩ (.int .i64 e0)).setCell ⟨g, 4, none⟩ (.int .i64 e1)).setCell ⟨g, 5, none⟩ (.int .i64 e2)).setCell ⟨g, 6, none⟩ (.int .i64 e3)).heap[g]? = some (.cells #[y0, y1, y2, .int .i64 e0, .int .i64 e1, .int .i64 e2, .int .i64 e3, y7, y8] T (0, 0)) := heap_setCell_same _ _ _ _ _ _ h2
 exact heap_setCell_same _ _ _ _ _ _ h3
theorem RrP.mk {w wa w' : World} {G G' : Nat -> Prop} {B g : Nat} {S : List (List Wt)} {r' : Rz} {v v' : Value} (hv : v = v') (hb : Below w.heap.size w wa) (h : Rr w' G' B g S r' /\ Ch G G' wa w') : RrP w G B g S r' v' (.returned v) w' := ⟨by rw [hv], G', h.1, (Ch.of_bel hb).trans h.2⟩
theorem rFault_any {w : World} {G : Nat -> Prop} {B g : Nat} {S : List (List Wt)} {r : Rz} (h : Rr w G B g S r) (i : Int) (f n a : Int) : Calls Tryd.prog 97 #[.pointer (some ⟨g, 0, none⟩), .int .i64 i, h3V (f, n, a)] w (RrP w G B g S { r with e := ⟨3, f, i, n, a⟩ } (.tuple #[])) := by
 unfold h3V
 simp only
 obtain ⟨Fs, Rs, Fo, R, gs, gt, vW, vE, vL, vO, vA, vs, os, as_, h, hG⟩ := h
 have B0 := Zd w (.cells #[.int .i64 f, .int .i64 n, .int .i64 a] 189)
 have h1 := h.bel B0
 have HE := Za (rr_wide hG (h1.endW (w' := setN (w.alloc (.cells #[.int .i64 f, .int .i64 n, .int .i64 a] 189)) g 3 f i n a) ⟨3, f, i, n, a⟩ (fun k hk => setN_ne hk) setN_size (setN_at h1.at_ _ _ _ _ _)) (ch_setN h1.fg))
 obtain ⟨_, ⟨c3, c4, c5, c6, c7⟩, _⟩ := h1.cells
 have f3 := Zc h1.at_ 3
 have f4 := Zc h1.at_ 4
 have f5 := Zc h1.at_ 5
 have f6 := Zc h1.at_ 6
 have f7 := Zc h1.at_ 7
 have HB := Za B0
 have HV := Za (B_ w (.cells #[.int .i64 f, .int .i64 n, .int .i64 a] 189))
 clear h h1 hG B0
 go_enter Tryd.func97, Tryd.ntmps97
 go_upto_region 1 with fail
 generalize w.alloc _ = w1 at *
 have v0 := Zb HV.out 0 _ rfl
 have v1 := Zb HV.out 1 _ rfl
 have v2 := Zb HV.out 2 _ rfl
 go_wp2_with fail
 go_end0
 exact RrP.mk rfl HB.out HE.out
def setW (w : World) (b i : Nat) (x : Wt) : World := (((((((w).setCell ⟨b, i * 6, none⟩ (.int .i64 x.k)).setCell ⟨b, i * 6 + 1, none⟩ (.int .i64 x.o)).setCell ⟨b, i * 6 + 2, none⟩ (.int .i64 x.a)).setCell ⟨b, i * 6 + 3, none⟩ (.int .i64 x.v.1)).setCell ⟨b, i * 6 + 4, none⟩ (.int .i64 x.v.2.1)).setCell ⟨b, i * 6 + 5, none⟩ (.int .u64 x.v.2.2))
theorem setW_ne {w : World} {b i k : Nat} {x : Wt} (h : k ≠ b) : (setW w b i x).heap[k]? = w.heap[k]? :=
 (Below.heap_setCell _ _ _ _ h).trans ((Below.heap_setCell _ _ _ _ h).trans ((Below.heap_setCell _ _ _ _ h).trans ((Below.heap_setCell _ _ _ _ h).trans ((Below.heap_setCell _ _ _ _ h).trans (Below.heap_setCell _ _ _ _ h)))))
theorem setW_size {w : World} {b i : Nat} {x : Wt} : (setW w b i x).heap.size = w.heap.size := by
 unfold setW
 simp only [Zg]
theorem ch_setW {w : World} {Fo : Nat -> Prop} {b i : Nat} {x : Wt} (hg : Fo b) : Ch Fo Fo w (setW w b i x) := (ZR hg _).trans ((ZR hg _).trans ((ZR hg _).trans ((ZR hg _).trans ((ZR hg _).trans (ZR hg _)))))
theorem setW_own {w : World} {b n c i : Nat} {l : List Wt} (x : Wt) (h : w.ownsRow 0 141 6 (.slice (some ⟨b, 0, none⟩) n c) l.length (w6s l)) : (setW w b i x).ownsRow 0 141 6 (.slice (some ⟨b, 0, none⟩) n c) l.length (w6s (l.set i x)) := by
 rw [w6s_set]
 exact Ye (Ye (Ye (Ye (Ye (Ye h _ _) _ _) _ _) _ _) _ _) _ _
theorem rTold_fault {w : World} {G : Nat -> Prop} {B g : Nat} {S : List (List Wt)} {r : Rz} (h : Rr w G B g S r) (i : Nat) (x : Wt) (f n a : Int) (hf : ¬ f = 0) : Calls Tryd.prog 111 #[.pointer (some ⟨g, 0, none⟩), .int .i64 (i : Nat), w6V x, h3V (f, n, a)] w (RrP w G B g S { r with e := ⟨3, f, (i : Nat), n, a⟩ } (.tuple #[])) := by
  unfold h3V w6V
  simp only
  have HB := Za (Zu (Zd w (.cells #[.int .i64 x.k, .int .i64 x.o, .int .i64 x.a, .int .i64 x.v.1, .int .i64 x.v.2.1, .int .u64 x.v.2.2] 141)) (.cells #[.int .i64 f, .int .i64 n, .int .i64 a] 189))
  have Y1 : Hid (((w.alloc (.cells #[.int .i64 x.k, .int .i64 x.o, .int .i64 x.a, .int .i64 x.v.1, .int .i64 x.v.2.1, .int .u64 x.v.2.2] 141)).alloc (.cells #[.int .i64 f, .int .i64 n, .int .i64 a] 189)).heap[w.heap.size]? = some (.cells #[.int .i64 x.k, .int .i64 x.o, .int .i64 x.a, .int .i64 x.v.1, .int .i64 x.v.2.1, .int .u64 x.v.2.2] 141 (0, 0))) := Za (((Zd _ _).block _ (by simp)).trans (B_ w (.cells #[.int .i64 x.k, .int .i64 x.o, .int .i64 x.a, .int .i64 x.v.1, .int .i64 x.v.2.1, .int .u64 x.v.2.2] 141)))
  have Y2 : Hid (((w.alloc (.cells #[.int .i64 x.k, .int .i64 x.o, .int .i64 x.a, .int .i64 x.v.1, .int .i64 x.v.2.1, .int .u64 x.v.2.2] 141)).alloc (.cells #[.int .i64 f, .int .i64 n, .int .i64 a] 189)).heap[w.heap.size + 1]? = some (.cells #[.int .i64 f, .int .i64 n, .int .i64 a] 189 (0, 0))) := Za (by
    have e1 := B_ (w.alloc (.cells #[.int .i64 x.k, .int .i64 x.o, .int .i64 x.a, .int .i64 x.v.1, .int .i64 x.v.2.1, .int .u64 x.v.2.2] 141)) (.cells #[.int .i64 f, .int .i64 n, .int .i64 a] 189)
    have hs : (w.alloc (.cells #[.int .i64 x.k, .int .i64 x.o, .int .i64 x.a, .int .i64 x.v.1, .int .i64 x.v.2.1, .int .u64 x.v.2.2] 141)).heap.size = w.heap.size + 1 := by simp
    rw [hs] at e1
    exact e1)
  have FA := Za (rFault_any (h.bel HB.out) (i : Int) f n a)
  unfold h3V at FA
  simp only at FA
  clear h
  go_enter Tryd.func111, Tryd.ntmps111
  go_upto_region 1 with fail
  generalize (w.alloc _).alloc _ = w1 at *
  have v0 := Zb Y2.out 0 _ rfl
  have v1 := Zb Y2.out 1 _ rfl
  have v2 := Zb Y2.out 2 _ rfl
  go_wp2_with fail
  refine FA.out.mono ?_
  rintro e w2 ⟨rfl, G', hr, c⟩
  have Z := Za (And.intro hr c)
  clear hr c
  go_wp2_with fail
  go_end0
  exact RrP.mk rfl HB.out Z.out
theorem rTold_ok {w : World} {G : Nat -> Prop} {B g : Nat} {S : List (List Wt)} {r : Rz} (h : Rr w G B g S r) (i : Nat) (x : Wt) ( n a : Int) (hi : i < r.ws.length) : Calls Tryd.prog 111 #[.pointer (some ⟨g, 0, none⟩), .int .i64 (i : Nat), w6V x, h3V (0, n, a)] w (RrP w G B g S { r with ws := r.ws.set i x } (.tuple #[])) := by
  unfold h3V w6V
  simp only
  have HB := Za (Zu (Zd w (.cells #[.int .i64 x.k, .int .i64 x.o, .int .i64 x.a, .int .i64 x.v.1, .int .i64 x.v.2.1, .int .u64 x.v.2.2] 141)) (.cells #[.int .i64 0, .int .i64 n, .int .i64 a] 189))
  have Y1 : Hid (((w.alloc (.cells #[.int .i64 x.k, .int .i64 x.o, .int .i64 x.a, .int .i64 x.v.1, .int .i64 x.v.2.1, .int .u64 x.v.2.2] 141)).alloc (.cells #[.int .i64 0, .int .i64 n, .int .i64 a] 189)).heap[w.heap.size]? = some (.cells #[.int .i64 x.k, .int .i64 x.o, .int .i64 x.a, .int .i64 x.v.1, .int .i64 x.v.2.1, .int .u64 x.v.2.2] 141 (0, 0))) := Za (((Zd _ _).block _ (by simp)).trans (B_ w (.cells #[.int .i64 x.k, .int .i64 x.o, .int .i64 x.a, .int .i64 x.v.1, .int .i64 x.v.2.1, .int .u64 x.v.2.2] 141)))
  have Y2 : Hid (((w.alloc (.cells #[.int .i64 x.k, .int .i64 x.o, .int .i64 x.a, .int .i64 x.v.1, .int .i64 x.v.2.1, .int .u64 x.v.2.2] 141)).alloc (.cells #[.int .i64 0, .int .i64 n, .int .i64 a] 189)).heap[w.heap.size + 1]? = some (.cells #[.int .i64 0, .int .i64 n, .int .i64 a] 189 (0, 0))) := Za (by
    have e1 := B_ (w.alloc (.cells #[.int .i64 x.k, .int .i64 x.o, .int .i64 x.a, .int .i64 x.v.1, .int .i64 x.v.2.1, .int .u64 x.v.2.2] 141)) (.cells #[.int .i64 0, .int .i64 n, .int .i64 a] 189)
    have hs : (w.alloc (.cells #[.int .i64 x.k, .int .i64 x.o, .int .i64 x.a, .int .i64 x.v.1, .int .i64 x.v.2.1, .int .u64 x.v.2.2] 141)).heap.size = w.heap.size + 1 := by simp
    rw [hs] at e1
    exact e1)
  obtain ⟨Fs, Rs, Fo, R, gs, gt, vW, vE, vL, vO, vA, vs, os, as_, h, hG⟩ := h
  have h1 := h.bel HB.out
  obtain ⟨bW, cW, eW, hcW, hmW⟩ := Zv h1.wa (by omega)
  obtain ⟨nW, hnW⟩ : ∃ n, n = r.ws.length := ⟨_, rfl⟩
  rw [← hnW] at eW hi
  subst eW
  have hd := h1.bel (Zs (Below.refl _ _))
  have HE := Za (rr_wide hG (hd.waitW (w' := setW ((w.alloc (.cells #[.int .i64 x.k, .int .i64 x.o, .int .i64 x.a, .int .i64 x.v.1, .int .i64 x.v.2.1, .int .u64 x.v.2.2] 141)).alloc (.cells #[.int .i64 0, .int .i64 n, .int .i64 a] 189)).drew bW i x) i x (fun k hk => setW_ne hk) setW_size (setW_own x hd.wa)) (ch_setW (hd.fW bW rfl)))
  have c1 := h1.cells.1.2.1
  obtain ⟨y, hy⟩ : ∃ y, r.ws[i]? = some y := ⟨_, List.getElem?_eq_getElem (by omega)⟩
  obtain ⟨p0, p1, p2, p3, p4, p5⟩ := w6s_at _ _ _ hy
  have HO := Za (And.intro (Zm hd.wa _ _ p0) (And.intro (Zm hd.wa _ _ p1) (And.intro (Zm hd.wa _ _ p2) (And.intro (Zm hd.wa _ _ p3) (And.intro (Zm hd.wa _ _ p4) (Zm hd.wa _ _ p5))))))
  have HB2 := Za (Zs HB.out)
  clear h h1 hd hG hnW hy p0 p1 p2 p3 p4 p5 hcW hmW HB
  go_enter Tryd.func111, Tryd.ntmps111
  go_upto_region 1 with fail
  generalize (w.alloc _).alloc _ = w1 at *
  have v0 := Zb Y2.out 0 _ rfl
  have u0 := Zb Y1.out 0 _ rfl
  have u1 := Zb Y1.out 1 _ rfl
  have u2 := Zb Y1.out 2 _ rfl
  have u3 := Zb Y1.out 3 _ rfl
  have u4 := Zb Y1.out 4 _ rfl
  have u5 := Zb Y1.out 5 _ rfl
  go_wp2_with fail
  refine ZT 7 ZU (by kernel_rfl) ?_
  simp only [List.take_succ_cons, List.take_zero, List.drop_succ_cons, List.drop_zero]
  repeat (first | go_big_quiet_skip | (go_big_quiet_want; go_big_quiet_op; go_big_quiet_on))
  refine wpQuiet_nil ?_
  clear v0 u0 u1 u2 u3 u4 u5 c1 Y1 Y2
  obtain ⟨⟨p0, q0⟩, ⟨p1, q1⟩, ⟨p2, q2⟩, ⟨p3, q3⟩, ⟨p4, q4⟩, p5, q5⟩ := HO.out
  generalize w1.drew = wd at *
  go_wp2_with fail
  go_end0
  exact RrP.mk rfl HB2.out HE.out
theorem bel_low {N : Nat} {w wa wb : World} (h : Below N w wa) (k : Below N wa wb) : Below N w wb := h.trans k
theorem ret_w3 {fn : Func} {Q : Ending -> World -> Prop} {a : Act} {w : World} {p q : Tmp} (b b2 : Nat) {x : Wt} {y : V3} (hf : fn.results = #[.cell p 141, .cell q 189]) (hp : a.tmps.getD p undef = .pointer (some ⟨b, 0, none⟩)) (hq : a.tmps.getD q undef = .pointer (some ⟨b2, 0, none⟩))
    (h : w.heap[b]? = some (.cells #[.int .i64 x.k, .int .i64 x.o, .int .i64 x.a, .int .i64 x.v.1, .int .i64 x.v.2.1, .int .u64 x.v.2.2] 141 (0, 0))) (h2 : w.heap[b2]? = some (.cells #[.int .i64 y.1, .int .i64 y.2.1, .int .i64 y.2.2] 189 (0, 0))) (hdf : a.defers = []) (hR : Q (.returned (.tuple #[w6V x, h3V y])) w) : bodyPost Tryd.prog fn Q .ret a w :=
  bodyPost_ret (by
    have hp' : a.tmps[p]?.getD undef = .pointer (some ⟨b, 0, none⟩) := by simpa using hp
    have hq' : a.tmps[q]?.getD undef = .pointer (some ⟨b2, 0, none⟩) := by simpa using hq
    have q0 := Zb h 0 _ rfl
    have q1 := Zb h 1 _ rfl
    have q2 := Zb h 2 _ rfl
    have q3 := Zb h 3 _ rfl
    have q4 := Zb h 4 _ rfl
    have q5 := Zb h 5 _ rfl
    have p0 := Zb h2 0 _ rfl
    have p1 := Zb h2 1 _ rfl
    have p2 := Zb h2 2 _ rfl
    simp [results, hf, hp', hq', go_sem, q0, q1, q2, q3, q4, q5, p0, p1, p2, w6V, h3V]) hdf hR
theorem set6 {w : World} {b : Nat} {T : TypeId} {y0 y1 y2 y3 y4 y5 : Value} (h : w.heap[b]? = some (.cells #[y0, y1, y2, y3, y4, y5] T (0, 0))) (x0 x1 x2 x3 x4 x5 : Value) : ((((((w.setCell ⟨b, 0, none⟩ x0).setCell ⟨b, 1, none⟩ x1).setCell ⟨b, 2, none⟩ x2).setCell ⟨b, 3, none⟩ x3).setCell ⟨b, 4, none⟩ x4).setCell ⟨b, 5, none⟩ x5).heap[b]? = some (.cells #[x0, x1, x2, x3, x4, x5] T (0, 0)) := by
 have h0 : (w.setCell ⟨b, 0, none⟩ x0).heap[b]? = some (.cells #[x0, y1, y2, y3, y4, y5] T (0, 0)) := heap_setCell_same _ _ _ _ _ _ h
 have h1 : ((w.setCell ⟨b, 0, none⟩ x0).setCell ⟨b, 1, none⟩ x1).heap[b]? = some (.cells #[x0, x1, y2, y3, y4, y5] T (0, 0)) := heap_setCell_same _ _ _ _ _ _ h0
 have h2 : (((w.setCell ⟨b, 0, none⟩ x0).setCell ⟨b, 1, none⟩ x1).setCell ⟨b, 2, none⟩ x2).heap[b]? = some (.cells #[x0, x1, x2, y3, y4, y5] T (0, 0)) := heap_setCell_same _ _ _ _ _ _ h1
 have h3 : ((((w.setCell ⟨b, 0, none⟩ x0).setCell ⟨b, 1, none⟩ x1).setCell ⟨b, 2, none⟩ x2).setCell ⟨b, 3, none⟩ x3).heap[b]? = some (.cells #[x0, x1, x2, x3, y4, y5] T (0, 0)) := heap_setCell_same _ _ _ _ _ _ h2
 have h4 : (((((w.setCell ⟨b, 0, none⟩ x0).setCell ⟨b, 1, none⟩ x1).setCell ⟨b, 2, none⟩ x2).setCell ⟨b, 3, none⟩ x3).setCell ⟨b, 4, none⟩ x4).heap[b]? = some (.cells #[x0, x1, x2, x3, x4, y5] T (0, 0)) := heap_setCell_same _ _ _ _ _ _ h3
 exact heap_setCell_same _ _ _ _ _ _ h4
theorem bel6 {N b : Nat} {w wa : World} (h : Below N w wa) (hb : N <= b) (x0 x1 x2 x3 x4 x5 : Value) : Below N w ((((((wa.setCell ⟨b, 0, none⟩ x0).setCell ⟨b, 1, none⟩ x1).setCell ⟨b, 2, none⟩ x2).setCell ⟨b, 3, none⟩ x3).setCell ⟨b, 4, none⟩ x4).setCell ⟨b, 5, none⟩ x5) :=
 (((((h.setCell (p := ⟨b, 0, none⟩) hb x0).setCell (p := ⟨b, 1, none⟩) hb x1).setCell (p := ⟨b, 2, none⟩) hb x2).setCell (p := ⟨b, 3, none⟩) hb x3).setCell (p := ⟨b, 4, none⟩) hb x4).setCell (p := ⟨b, 5, none⟩) hb x5
theorem ne6 {w : World} {b k : Nat} {x0 x1 x2 x3 x4 x5 : Value} (h : k ≠ b) : ((((((w.setCell ⟨b, 0, none⟩ x0).setCell ⟨b, 1, none⟩ x1).setCell ⟨b, 2, none⟩ x2).setCell ⟨b, 3, none⟩ x3).setCell ⟨b, 4, none⟩ x4).setCell ⟨b, 5, none⟩ x5).heap[k]? = w.heap[k]? :=
 (Below.heap_setCell _ _ _ _ h).trans ((Below.heap_setCell _ _ _ _ h).trans ((Below.heap_setCell _ _ _ _ h).trans ((Below.heap_setCell _ _ _ _ h).trans ((Below.heap_setCell _ _ _ _ h).trans (Below.heap_setCell _ _ _ _ h)))))
theorem two_set {w : World} {b b2 : Nat} {y0 y1 y2 y3 y4 y5 z0 z1 z2 : Value} (hne : b ≠ b2) (h : w.heap[b]? = some (.cells #[y0, y1, y2, y3, y4, y5] 141 (0, 0))) (h2 : w.heap[b2]? = some (.cells #[z0, z1, z2] 189 (0, 0))) (x0 x1 x2 x3 x4 x5 u0 u1 u2 : Value) :
 let w1 := (((((w.setCell ⟨b, 0, none⟩ x0).setCell ⟨b, 1, none⟩ x1).setCell ⟨b, 2, none⟩ x2).setCell ⟨b, 3, none⟩ x3).setCell ⟨b, 4, none⟩ x4).setCell ⟨b, 5, none⟩ x5
 let w2 := ((w1.setCell ⟨b2, 0, none⟩ u0).setCell ⟨b2, 1, none⟩ u1).setCell ⟨b2, 2, none⟩ u2
 w2.heap[b]? = some (.cells #[x0, x1, x2, x3, x4, x5] 141 (0, 0)) /\ w2.heap[b2]? = some (.cells #[u0, u1, u2] 189 (0, 0)) :=
 ⟨(ne3 hne).trans (set6 h _ _ _ _ _ _), Yp ((ne6 (fun e => hne e.symm)).trans h2) _ _ _⟩
theorem next_0 {w : World} {G Fs Rs Fo R : Nat -> Prop} {B g gs gt : Nat} {S : List (List Wt)} {r : Rz} {vW vE vL vO vA : Value} {vs : List Value} {os as_ : List Nat} (h : Rq w Fs Rs Fo R B g gs gt S r vW vE vL vO vA vs os as_) (hG : ∀ k, G k ↔ Fs k ∨ Rs k ∨ Fo k ∨ R k) (i : Nat) (hx : r.pe[i]? = some []) : Calls Tryd.prog 110 #[.pointer (some ⟨gt, 0, none⟩), .int .i64 (i : Nat)] w (RrP w G B g S r (.tuple #[w6V ⟨12, 0, 0, z3⟩, h3V z3])) := by
  have hol := h.ol
  have hil : i < r.pe.length := (List.getElem?_eq_some_iff.1 hx).1
  obtain ⟨o, ho⟩ : ∃ o, os[i]? = some o := ⟨_, List.getElem?_eq_getElem (by omega)⟩
  obtain ⟨a, ha⟩ : ∃ a, as_[i]? = some a := ⟨_, List.getElem?_eq_getElem (by omega)⟩
  obtain ⟨l, hl, hal, hxd⟩ := h.pos i _ o a hx ho ha
  have hoS : o < S.length := (List.getElem?_eq_some_iff.1 hl).1
  obtain ⟨v, hv⟩ : ∃ v, vs[o]? = some v := ⟨_, List.getElem?_eq_getElem (by omega)⟩
  obtain ⟨bO, cO, eO, _⟩ := Zv h.of (by omega)
  obtain ⟨bA, cA, eA, _⟩ := Zv h.at' (by omega)
  obtain ⟨bL, cL, eL, _⟩ := Zv h.al (by omega)
  obtain ⟨nP, hnP⟩ : ∃ n, n = r.pe.length := ⟨_, rfl⟩
  obtain ⟨nS, hnS⟩ : ∃ n, n = S.length := ⟨_, rfl⟩
  obtain ⟨nl, hnl⟩ : ∃ n, n = l.length := ⟨_, rfl⟩
  rw [← hnP] at eO eA hil
  rw [← hnS] at eL hoS
  have hnl2 : nl <= 2000 := by rw [hnl]; exact h.sz.2 l (List.mem_of_getElem? hl)
  have hnS2 : nS <= 2000 := by rw [hnS]; exact h.sz.1
  have hnP9 : nP <= 9 := by rw [hnP]; exact h.n8.2
  rw [← hnl] at hal
  subst eO eA eL
  have HB := Za (Zu (Zd w (.cells #[.int .i64 0, .int .i64 0, .int .i64 0, .int .i64 0, .int .i64 0, .int .u64 0] 141)) (.cells #[.int .i64 0, .int .i64 0, .int .i64 0] 189))
  have Y1 : Hid (((w.alloc (.cells #[.int .i64 0, .int .i64 0, .int .i64 0, .int .i64 0, .int .i64 0, .int .u64 0] 141)).alloc (.cells #[.int .i64 0, .int .i64 0, .int .i64 0] 189)).heap[w.heap.size]? = some (.cells #[.int .i64 0, .int .i64 0, .int .i64 0, .int .i64 0, .int .i64 0, .int .u64 0] 141 (0, 0))) := Za (((Zd _ _).block _ (by simp)).trans (B_ w (.cells #[.int .i64 0, .int .i64 0, .int .i64 0, .int .i64 0, .int .i64 0, .int .u64 0] 141)))
  have Y2 : Hid (((w.alloc (.cells #[.int .i64 0, .int .i64 0, .int .i64 0, .int .i64 0, .int .i64 0, .int .u64 0] 141)).alloc (.cells #[.int .i64 0, .int .i64 0, .int .i64 0] 189)).heap[w.heap.size + 1]? = some (.cells #[.int .i64 0, .int .i64 0, .int .i64 0] 189 (0, 0))) := Za (by
    have e1 := B_ (w.alloc (.cells #[.int .i64 0, .int .i64 0, .int .i64 0, .int .i64 0, .int .i64 0, .int .u64 0] 141)) (.cells #[.int .i64 0, .int .i64 0, .int .i64 0] 189)
    have hs : (w.alloc (.cells #[.int .i64 0, .int .i64 0, .int .i64 0, .int .i64 0, .int .i64 0, .int .u64 0] 141)).heap.size = w.heap.size + 1 := by simp
    rw [hs] at e1
    exact e1)
  have h1 := h.bel HB.out
  obtain ⟨av, cv, ev, _⟩ := Zo (h1.row o l v hl hv).1
  rw [← hnl] at ev
  subst ev
  have c0 := h1.cells.2.2.1
  have c1 := h1.cells.2.2.2.1
  have c2 := h1.cells.2.2.2.2
  have cO' := (Zm h1.of i _ (nns_at ho)).1
  have cL' := (Zm h1.al o _ hv).1
  have H1 := Za h1
  have HG := Za hG
  have HX := Za (And.intro hx (And.intro ho (And.intro ha (And.intro hl (And.intro hxd hv)))))
  have HLO := Za (fun k hk => h.lt (k := k) hk)
  have HNL := Za hnl
  have hge : nl <= a := by
    have := congrArg List.length hxd
    rw [List.length_drop] at this
    simp at this
    omega
  obtain rfl : a = nl := by omega
  clear h h1 hG hx ho ha hl hxd hv hol hnP hnS hnl
  go_enter Tryd.func110, Tryd.ntmps110
  go_upto_region 1 with fail
  generalize (w.alloc _).alloc _ = w1 at *
  go_quiet (fail)
  generalize hwq : World.drewN w1 _ = wq
  have BQ := Za (show Below w1.heap.size w1 wq from hwq ▸ below_drewN (Below.refl _ _) _)
  have HQ := Za (H1.out.bel BQ.out)
  have HBQ := Za (Zi HB.out BQ.out)
  have Y1q := Za ((BQ.out.block _ (Ze Y1.out)).trans Y1.out)
  have Y2q := Za ((BQ.out.block _ (Ze Y2.out)).trans Y2.out)
  clear hwq c0 c1 c2 cO' cL' Y1 Y2 H1 HB BQ
  have c2 := HQ.out.cells.2.2.2.2
  obtain ⟨cA1, cA2⟩ := Zm HQ.out.at' i _ (nns_at HX.out.2.2.1)
  obtain ⟨p0, p1, p2, p3, p4, p5⟩ : (wq.cell? ⟨w.heap.size, 0, none⟩ = some (.int .i64 0) /\ wq.cell? ⟨w.heap.size, 1, none⟩ = some (.int .i64 0) /\ wq.cell? ⟨w.heap.size, 2, none⟩ = some (.int .i64 0) /\ wq.cell? ⟨w.heap.size, 3, none⟩ = some (.int .i64 0) /\ wq.cell? ⟨w.heap.size, 4, none⟩ = some (.int .i64 0) /\ wq.cell? ⟨w.heap.size, 5, none⟩ = some (.int .u64 0)) := ⟨Zb Y1q.out 0 _ rfl, Zb Y1q.out 1 _ rfl, Zb Y1q.out 2 _ rfl, Zb Y1q.out 3 _ rfl, Zb Y1q.out 4 _ rfl, Zb Y1q.out 5 _ rfl⟩
  have f0 := Zc Y1q.out 0
  have f1 := Zc Y1q.out 1
  have f2 := Zc Y1q.out 2
  have f3 := Zc Y1q.out 3
  have f4 := Zc Y1q.out 4
  have f5 := Zc Y1q.out 5
  have n0 := Zb Y2q.out 0 _ rfl
  have m0 := Zc Y2q.out 0
  have n1 := Zb Y2q.out 1 _ rfl
  have m1 := Zc Y2q.out 1
  have n2 := Zb Y2q.out 2 _ rfl
  have m2 := Zc Y2q.out 2
  have T2 := Za (two_set (by omega) Y1q.out Y2q.out (.int .i64 12) (.int .i64 0) (.int .i64 0) (.int .i64 0) (.int .i64 0) (.int .u64 0) (.int .i64 0) (.int .i64 0) (.int .i64 0))
  have BB := Za (Zq (bel6 (Below.refl w.heap.size wq) (Nat.le_refl w.heap.size) (.int .i64 12) (.int .i64 0) (.int .i64 0) (.int .i64 0) (.int .i64 0) (.int .u64 0)) (Nat.le_succ w.heap.size) (.int .i64 0) (.int .i64 0) (.int .i64 0))
  go_wp2_with fail
  exact ret_w3 (x := ⟨12, 0, 0, (0, 0, 0)⟩) (y := (0, 0, 0)) w.heap.size (w.heap.size + 1) rfl rfl rfl T2.out.1 T2.out.2 rfl ⟨rfl, G, ⟨_, _, _, _, _, _, _, _, _, _, _, _, _, _, HQ.out.low HLO.out BB.out, HG.out⟩, Ch.of_bel (bel_low HBQ.out BB.out)⟩
theorem own_ad {w : World} {B : Nat} {T : TypeId} {n : Nat} {a : Option Addr} {m c len : Nat} {xs : List Value} (h : w.ownsRow B T n (.slice a m c) len xs) (hl : 0 < len) : ∃ b, a = some ⟨b, 0, none⟩ := by
 obtain ⟨b, c', e, _⟩ := Zv h hl
 cases e
 exact ⟨b, rfl⟩
theorem next_w {w : World} {G Fs Rs Fo R : Nat -> Prop} {B g gs gt : Nat} {S : List (List Wt)} {r : Rz} {vW vE vL vO vA : Value} {vs : List Value} {os as_ : List Nat} (h : Rq w Fs Rs Fo R B g gs gt S r vW vE vL vO vA vs os as_) (hG : ∀ k, G k ↔ Fs k ∨ Rs k ∨ Fo k ∨ R k) (i : Nat) (y : Wt) (tl : List Wt) (hx : r.pe[i]? = some (y :: tl)) (hk : ¬ y.k = 0) : Calls Tryd.prog 110 #[.pointer (some ⟨gt, 0, none⟩), .int .i64 (i : Nat)] w (RrP w G B g S { r with pe := r.pe.set i tl } (.tuple #[w6V y, h3V z3])) := by
  have hol := h.ol
  have hil : i < r.pe.length := (List.getElem?_eq_some_iff.1 hx).1
  obtain ⟨o, ho⟩ : ∃ o, os[i]? = some o := ⟨_, List.getElem?_eq_getElem (by omega)⟩
  obtain ⟨a, ha⟩ : ∃ a, as_[i]? = some a := ⟨_, List.getElem?_eq_getElem (by omega)⟩
  obtain ⟨l, hl, hal, hxd⟩ := h.pos i _ o a hx ho ha
  have hoS : o < S.length := (List.getElem?_eq_some_iff.1 hl).1
  obtain ⟨v, hv⟩ : ∃ v, vs[o]? = some v := ⟨_, List.getElem?_eq_getElem (by omega)⟩
  obtain ⟨bO, cO, eO, _⟩ := Zv h.of (by omega)
  obtain ⟨bA, cA, eA, _⟩ := Zv h.at' (by omega)
  obtain ⟨bL, cL, eL, _⟩ := Zv h.al (by omega)
  obtain ⟨nP, hnP⟩ : ∃ n, n = r.pe.length := ⟨_, rfl⟩
  obtain ⟨nS, hnS⟩ : ∃ n, n = S.length := ⟨_, rfl⟩
  obtain ⟨nl, hnl⟩ : ∃ n, n = l.length := ⟨_, rfl⟩
  rw [← hnP] at eO eA hil
  rw [← hnS] at eL hoS
  have hnl2 : nl <= 2000 := by rw [hnl]; exact h.sz.2 l (List.mem_of_getElem? hl)
  have hnS2 : nS <= 2000 := by rw [hnS]; exact h.sz.1
  have hnP9 : nP <= 9 := by rw [hnP]; exact h.n8.2
  rw [← hnl] at hal
  subst eO eA eL
  have HB := Za (Zu (Zd w (.cells #[.int .i64 0, .int .i64 0, .int .i64 0, .int .i64 0, .int .i64 0, .int .u64 0] 141)) (.cells #[.int .i64 0, .int .i64 0, .int .i64 0] 189))
  have Y1 : Hid (((w.alloc (.cells #[.int .i64 0, .int .i64 0, .int .i64 0, .int .i64 0, .int .i64 0, .int .u64 0] 141)).alloc (.cells #[.int .i64 0, .int .i64 0, .int .i64 0] 189)).heap[w.heap.size]? = some (.cells #[.int .i64 0, .int .i64 0, .int .i64 0, .int .i64 0, .int .i64 0, .int .u64 0] 141 (0, 0))) := Za (((Zd _ _).block _ (by simp)).trans (B_ w (.cells #[.int .i64 0, .int .i64 0, .int .i64 0, .int .i64 0, .int .i64 0, .int .u64 0] 141)))
  have Y2 : Hid (((w.alloc (.cells #[.int .i64 0, .int .i64 0, .int .i64 0, .int .i64 0, .int .i64 0, .int .u64 0] 141)).alloc (.cells #[.int .i64 0, .int .i64 0, .int .i64 0] 189)).heap[w.heap.size + 1]? = some (.cells #[.int .i64 0, .int .i64 0, .int .i64 0] 189 (0, 0))) := Za (by
    have e1 := B_ (w.alloc (.cells #[.int .i64 0, .int .i64 0, .int .i64 0, .int .i64 0, .int .i64 0, .int .u64 0] 141)) (.cells #[.int .i64 0, .int .i64 0, .int .i64 0] 189)
    have hs : (w.alloc (.cells #[.int .i64 0, .int .i64 0, .int .i64 0, .int .i64 0, .int .i64 0, .int .u64 0] 141)).heap.size = w.heap.size + 1 := by simp
    rw [hs] at e1
    exact e1)
  have h1 := h.bel HB.out
  obtain ⟨av, cv, ev, _⟩ := Zo (h1.row o l v hl hv).1
  rw [← hnl] at ev
  subst ev
  have c0 := h1.cells.2.2.1
  have c1 := h1.cells.2.2.2.1
  have c2 := h1.cells.2.2.2.2
  have cO' := (Zm h1.of i _ (nns_at ho)).1
  have cL' := (Zm h1.al o _ hv).1
  have H1 := Za h1
  have HG := Za hG
  have HX := Za (And.intro hx (And.intro ho (And.intro ha (And.intro hl (And.intro hxd hv)))))
  have HLO := Za (fun k hk => h.lt (k := k) hk)
  have HNL := Za hnl
  have hya : l[a]? = some y := by
    have := congrArg (fun q => q[0]?) hxd
    simpa using this.symm
  have hlt : a < nl := by
    have := (List.getElem?_eq_some_iff.1 hya).1
    omega
  obtain ⟨bv, eB⟩ := own_ad (h1.row o l _ hl hv).1 (by omega)
  subst eB
  have HYA := Za hya
  clear hya
  clear h h1 hG hx ho ha hl hxd hv hol hnP hnS hnl
  go_enter Tryd.func110, Tryd.ntmps110
  go_upto_region 1 with fail
  generalize (w.alloc _).alloc _ = w1 at *
  go_quiet (fail)
  generalize hwq : World.drewN w1 _ = wq
  have BQ := Za (show Below w1.heap.size w1 wq from hwq ▸ below_drewN (Below.refl _ _) _)
  have HQ := Za (H1.out.bel BQ.out)
  have HBQ := Za (Zi HB.out BQ.out)
  have Y1q := Za ((BQ.out.block _ (Ze Y1.out)).trans Y1.out)
  have Y2q := Za ((BQ.out.block _ (Ze Y2.out)).trans Y2.out)
  clear hwq c0 c1 c2 cO' cL' Y1 Y2 H1 HB BQ
  have c2 := HQ.out.cells.2.2.2.2
  obtain ⟨cA1, cA2⟩ := Zm HQ.out.at' i _ (nns_at HX.out.2.2.1)
  have SM := Za (HQ.out.movT i a o _ HX.out.1 HX.out.2.2.1 HX.out.2.1 l HX.out.2.2.2.1 (by have := HNL.out; omega) HX.out.2.2.2.2.1)
  have RW := Za (rr_wide HG.out SM.out.1 SM.out.2)
  have hbA : bA < w.heap.size := HLO.out bA (.inr (.inr (.inl (HQ.out.fA bA rfl))))
  have Y1s : Hid ((wq.setCell ⟨bA, i, none⟩ (.int .i64 ((a : Int) + 1))).heap[w.heap.size]? = _) := Za ((Below.heap_setCell _ _ _ _ (fun e => by have e2 : w.heap.size = bA := e; omega)).trans Y1q.out)
  have Y2s : Hid ((wq.setCell ⟨bA, i, none⟩ (.int .i64 ((a : Int) + 1))).heap[w.heap.size + 1]? = _) := Za ((Below.heap_setCell _ _ _ _ (fun e => by have e2 : w.heap.size + 1 = bA := e; omega)).trans Y2q.out)
  clear Y1q Y2q hbA
  go_upto_region 6 with fail
  generalize wq.setCell ⟨bA, i, none⟩ (.int .i64 ((a : Int) + 1)) = ws at *
  obtain ⟨z0, z1, z2, z3_, z4, z5⟩ := w6s_at _ _ _ HYA.out
  have RO := (SM.out.1.row o l _ HX.out.2.2.2.1 HX.out.2.2.2.2.2).1
  have g0 := (Zm RO _ _ z0).1
  have g1 := (Zm RO _ _ z1).1
  have g2 := (Zm RO _ _ z2).1
  have g3 := (Zm RO _ _ z3_).1
  have g4 := (Zm RO _ _ z4).1
  have g5 := (Zm RO _ _ z5).1
  have HBV := Za (SM.out.1.lt (k := bv) (.inr (.inr (.inr ((SM.out.1.row o l _ HX.out.2.2.2.1 HX.out.2.2.2.2.2).2 bv rfl)))))
  clear c2 cA1 cA2 z0 z1 z2 z3_ z4 z5 RO
  obtain ⟨p0, p1, p2, p3, p4, p5⟩ : (ws.cell? ⟨w.heap.size, 0, none⟩ = some (.int .i64 0) /\ ws.cell? ⟨w.heap.size, 1, none⟩ = some (.int .i64 0) /\ ws.cell? ⟨w.heap.size, 2, none⟩ = some (.int .i64 0) /\ ws.cell? ⟨w.heap.size, 3, none⟩ = some (.int .i64 0) /\ ws.cell? ⟨w.heap.size, 4, none⟩ = some (.int .i64 0) /\ ws.cell? ⟨w.heap.size, 5, none⟩ = some (.int .u64 0)) := ⟨Zb Y1s.out 0 _ rfl, Zb Y1s.out 1 _ rfl, Zb Y1s.out 2 _ rfl, Zb Y1s.out 3 _ rfl, Zb Y1s.out 4 _ rfl, Zb Y1s.out 5 _ rfl⟩
  have f0 := Zc Y1s.out 0
  have f1 := Zc Y1s.out 1
  have f2 := Zc Y1s.out 2
  have f3 := Zc Y1s.out 3
  have f4 := Zc Y1s.out 4
  have f5 := Zc Y1s.out 5
  have n0 := Zb Y2s.out 0 _ rfl
  have m0 := Zc Y2s.out 0
  have n1 := Zb Y2s.out 1 _ rfl
  have m1 := Zc Y2s.out 1
  have n2 := Zb Y2s.out 2 _ rfl
  have m2 := Zc Y2s.out 2
  have T2 := Za (two_set (by omega) Y1s.out Y2s.out (.int .i64 y.k) (.int .i64 y.o) (.int .i64 y.a) (.int .i64 y.v.1) (.int .i64 y.v.2.1) (.int .u64 y.v.2.2) (.int .i64 0) (.int .i64 0) (.int .i64 0))
  have BB := Za (Zq (bel6 (Below.refl w.heap.size ws) (Nat.le_refl w.heap.size) (.int .i64 y.k) (.int .i64 y.o) (.int .i64 y.a) (.int .i64 y.v.1) (.int .i64 y.v.2.1) (.int .u64 y.v.2.2)) (Nat.le_succ w.heap.size) (.int .i64 0) (.int .i64 0) (.int .i64 0))
  go_wp2_with fail
  exact ret_w3 (x := y) (y := (0, 0, 0)) w.heap.size (w.heap.size + 1) rfl rfl rfl T2.out.1 T2.out.2 rfl ⟨rfl, G, ⟨_, _, _, _, _, _, _, _, _, _, _, _, _, _, SM.out.1.low HLO.out BB.out, HG.out⟩, ((Ch.of_bel HBQ.out).trans RW.out.2).below BB.out⟩
theorem next_h {w : World} {G Fs Rs Fo R : Nat -> Prop} {B g gs gt : Nat} {S : List (List Wt)} {r : Rz} {vW vE vL vO vA : Value} {vs : List Value} {os as_ : List Nat} (h : Rq w Fs Rs Fo R B g gs gt S r vW vE vL vO vA vs os as_) (hG : ∀ k, G k ↔ Fs k ∨ Rs k ∨ Fo k ∨ R k) (i : Nat) (y : Wt) (tl : List Wt) (hx : r.pe[i]? = some (y :: tl)) (hk : y.k = 0) : Calls Tryd.prog 110 #[.pointer (some ⟨gt, 0, none⟩), .int .i64 (i : Nat)] w (RrP w G B g S { r with pe := r.pe.set i tl } (.tuple #[w6V zW, h3V (7, y.v.2.1, y.a)])) := by
  have hol := h.ol
  have hil : i < r.pe.length := (List.getElem?_eq_some_iff.1 hx).1
  obtain ⟨o, ho⟩ : ∃ o, os[i]? = some o := ⟨_, List.getElem?_eq_getElem (by omega)⟩
  obtain ⟨a, ha⟩ : ∃ a, as_[i]? = some a := ⟨_, List.getElem?_eq_getElem (by omega)⟩
  obtain ⟨l, hl, hal, hxd⟩ := h.pos i _ o a hx ho ha
  have hoS : o < S.length := (List.getElem?_eq_some_iff.1 hl).1
  obtain ⟨v, hv⟩ : ∃ v, vs[o]? = some v := ⟨_, List.getElem?_eq_getElem (by omega)⟩
  obtain ⟨bO, cO, eO, _⟩ := Zv h.of (by omega)
  obtain ⟨bA, cA, eA, _⟩ := Zv h.at' (by omega)
  obtain ⟨bL, cL, eL, _⟩ := Zv h.al (by omega)
  obtain ⟨nP, hnP⟩ : ∃ n, n = r.pe.length := ⟨_, rfl⟩
  obtain ⟨nS, hnS⟩ : ∃ n, n = S.length := ⟨_, rfl⟩
  obtain ⟨nl, hnl⟩ : ∃ n, n = l.length := ⟨_, rfl⟩
  rw [← hnP] at eO eA hil
  rw [← hnS] at eL hoS
  have hnl2 : nl <= 2000 := by rw [hnl]; exact h.sz.2 l (List.mem_of_getElem? hl)
  have hnS2 : nS <= 2000 := by rw [hnS]; exact h.sz.1
  have hnP9 : nP <= 9 := by rw [hnP]; exact h.n8.2
  rw [← hnl] at hal
  subst eO eA eL
  have HB := Za (Zu (Zd w (.cells #[.int .i64 0, .int .i64 0, .int .i64 0, .int .i64 0, .int .i64 0, .int .u64 0] 141)) (.cells #[.int .i64 0, .int .i64 0, .int .i64 0] 189))
  have Y1 : Hid (((w.alloc (.cells #[.int .i64 0, .int .i64 0, .int .i64 0, .int .i64 0, .int .i64 0, .int .u64 0] 141)).alloc (.cells #[.int .i64 0, .int .i64 0, .int .i64 0] 189)).heap[w.heap.size]? = some (.cells #[.int .i64 0, .int .i64 0, .int .i64 0, .int .i64 0, .int .i64 0, .int .u64 0] 141 (0, 0))) := Za (((Zd _ _).block _ (by simp)).trans (B_ w (.cells #[.int .i64 0, .int .i64 0, .int .i64 0, .int .i64 0, .int .i64 0, .int .u64 0] 141)))
  have Y2 : Hid (((w.alloc (.cells #[.int .i64 0, .int .i64 0, .int .i64 0, .int .i64 0, .int .i64 0, .int .u64 0] 141)).alloc (.cells #[.int .i64 0, .int .i64 0, .int .i64 0] 189)).heap[w.heap.size + 1]? = some (.cells #[.int .i64 0, .int .i64 0, .int .i64 0] 189 (0, 0))) := Za (by
    have e1 := B_ (w.alloc (.cells #[.int .i64 0, .int .i64 0, .int .i64 0, .int .i64 0, .int .i64 0, .int .u64 0] 141)) (.cells #[.int .i64 0, .int .i64 0, .int .i64 0] 189)
    have hs : (w.alloc (.cells #[.int .i64 0, .int .i64 0, .int .i64 0, .int .i64 0, .int .i64 0, .int .u64 0] 141)).heap.size = w.heap.size + 1 := by simp
    rw [hs] at e1
    exact e1)
  have h1 := h.bel HB.out
  obtain ⟨av, cv, ev, _⟩ := Zo (h1.row o l v hl hv).1
  rw [← hnl] at ev
  subst ev
  have c0 := h1.cells.2.2.1
  have c1 := h1.cells.2.2.2.1
  have c2 := h1.cells.2.2.2.2
  have cO' := (Zm h1.of i _ (nns_at ho)).1
  have cL' := (Zm h1.al o _ hv).1
  have H1 := Za h1
  have HG := Za hG
  have HX := Za (And.intro hx (And.intro ho (And.intro ha (And.intro hl (And.intro hxd hv)))))
  have HLO := Za (fun k hk => h.lt (k := k) hk)
  have HNL := Za hnl
  have hya : l[a]? = some y := by
    have := congrArg (fun q => q[0]?) hxd
    simpa using this.symm
  have hlt : a < nl := by
    have := (List.getElem?_eq_some_iff.1 hya).1
    omega
  obtain ⟨bv, eB⟩ := own_ad (h1.row o l _ hl hv).1 (by omega)
  subst eB
  have HYA := Za hya
  clear hya
  clear h h1 hG hx ho ha hl hxd hv hol hnP hnS hnl
  go_enter Tryd.func110, Tryd.ntmps110
  go_upto_region 1 with fail
  generalize (w.alloc _).alloc _ = w1 at *
  go_quiet (fail)
  generalize hwq : World.drewN w1 _ = wq
  have BQ := Za (show Below w1.heap.size w1 wq from hwq ▸ below_drewN (Below.refl _ _) _)
  have HQ := Za (H1.out.bel BQ.out)
  have HBQ := Za (Zi HB.out BQ.out)
  have Y1q := Za ((BQ.out.block _ (Ze Y1.out)).trans Y1.out)
  have Y2q := Za ((BQ.out.block _ (Ze Y2.out)).trans Y2.out)
  clear hwq c0 c1 c2 cO' cL' Y1 Y2 H1 HB BQ
  have c2 := HQ.out.cells.2.2.2.2
  obtain ⟨cA1, cA2⟩ := Zm HQ.out.at' i _ (nns_at HX.out.2.2.1)
  have SM := Za (HQ.out.movT i a o _ HX.out.1 HX.out.2.2.1 HX.out.2.1 l HX.out.2.2.2.1 (by have := HNL.out; omega) HX.out.2.2.2.2.1)
  have RW := Za (rr_wide HG.out SM.out.1 SM.out.2)
  have hbA : bA < w.heap.size := HLO.out bA (.inr (.inr (.inl (HQ.out.fA bA rfl))))
  have Y1s : Hid ((wq.setCell ⟨bA, i, none⟩ (.int .i64 ((a : Int) + 1))).heap[w.heap.size]? = _) := Za ((Below.heap_setCell _ _ _ _ (fun e => by have e2 : w.heap.size = bA := e; omega)).trans Y1q.out)
  have Y2s : Hid ((wq.setCell ⟨bA, i, none⟩ (.int .i64 ((a : Int) + 1))).heap[w.heap.size + 1]? = _) := Za ((Below.heap_setCell _ _ _ _ (fun e => by have e2 : w.heap.size + 1 = bA := e; omega)).trans Y2q.out)
  clear Y1q Y2q hbA
  go_upto_region 6 with fail
  generalize wq.setCell ⟨bA, i, none⟩ (.int .i64 ((a : Int) + 1)) = ws at *
  obtain ⟨z0, z1, z2, z3_, z4, z5⟩ := w6s_at _ _ _ HYA.out
  have RO := (SM.out.1.row o l _ HX.out.2.2.2.1 HX.out.2.2.2.2.2).1
  have g0 := (Zm RO _ _ z0).1
  have g1 := (Zm RO _ _ z1).1
  have g2 := (Zm RO _ _ z2).1
  have g3 := (Zm RO _ _ z3_).1
  have g4 := (Zm RO _ _ z4).1
  have g5 := (Zm RO _ _ z5).1
  have HBV := Za (SM.out.1.lt (k := bv) (.inr (.inr (.inr ((SM.out.1.row o l _ HX.out.2.2.2.1 HX.out.2.2.2.2.2).2 bv rfl)))))
  clear c2 cA1 cA2 z0 z1 z2 z3_ z4 z5 RO
  go_wp2_with fail
  refine wp_region_held_drew (S := fun w' => w'.cell? ⟨bv, a * 6 + 2, none⟩ = some (.int .i64 y.a) /\ w'.cell? ⟨bv, a * 6 + 4, none⟩ = some (.int .i64 y.v.2.1)) ZU ⟨g2, g4⟩ (fun hH => ?_)
  have SM' := Za (SM.out.1.bel (Zs (Below.refl _ _)))
  have CC := Za (((Ch.of_bel HBQ.out).trans RW.out.2).drew)
  have Y1d : Hid (ws.drew.heap[w.heap.size]? = _) := Za Y1s.out
  have Y2d : Hid (ws.drew.heap[w.heap.size + 1]? = _) := Za Y2s.out
  have HBV' : Hid (bv < ws.drew.heap.size) := HBV
  have HV1 : Hid (bv < w.heap.size) := Za (HLO.out bv (.inr (.inr (.inr ((SM.out.1.row o l _ HX.out.2.2.2.1 HX.out.2.2.2.2.2).2 bv rfl)))))
  clear g0 g1 g2 g3 g4 g5 SM RW Y1s Y2s HBQ HBV
  generalize ws.drew = wd at *
  refine H_ 0 (v := ?_) ?_ hH ?_
  rotate_left 1
  · (intro w _; go_simp <;> with_reducible rfl)
  simp only [Act.put, S_]
  refine H_ 1 (v := ?_) ?_ hH ?_
  rotate_left 1
  · (intro w _; go_simp <;> with_reducible rfl)
  simp only [Act.put, S_]
  refine H_ 2 (v := ?_) ?_ hH ?_
  rotate_left 1
  · (intro w _; go_simp <;> with_reducible rfl)
  simp only [Act.put, S_]
  refine H_ 3 (v := ?_) ?_ hH ?_
  rotate_left 1
  · (intro w _; go_simp <;> with_reducible rfl)
  simp only [Act.put, S_]
  refine H_ 4 (v := ?_) ?_ hH ?_
  rotate_left 1
  · (intro w _; go_simp <;> with_reducible rfl)
  simp only [Act.put, S_]
  refine H_ 5 (v := ?_) ?_ hH ?_
  rotate_left 1
  · (intro w _; go_simp <;> with_reducible rfl)
  simp only [Act.put, S_]
  refine H_ 6 (v := ?_) ?_ hH ?_
  rotate_left 1
  · (intro w hSw; have q := hSw; clear hSw; go_simp <;> with_reducible rfl)
  simp only [Act.put, S_]
  refine H_ 7 (v := ?_) ?_ hH ?_
  rotate_left 1
  · (intro w _; go_simp <;> with_reducible rfl)
  simp only [Act.put, S_]
  refine H_ 8 (v := ?_) ?_ hH ?_
  rotate_left 1
  · (intro w _; go_simp <;> with_reducible rfl)
  simp only [Act.put, S_]
  refine H_ 9 (v := ?_) ?_ hH ?_
  rotate_left 1
  · (intro w _; go_simp <;> with_reducible rfl)
  simp only [Act.put, S_]
  refine H_ 10 (v := ?_) ?_ hH ?_
  rotate_left 1
  · (intro w _; go_simp <;> with_reducible rfl)
  simp only [Act.put, S_]
  refine H_ 11 (v := ?_) ?_ hH ?_
  rotate_left 1
  · (intro w hSw; have q := hSw; clear hSw; go_simp <;> with_reducible rfl)
  simp only [Act.put, S_]
  refine H_ 12 (v := ?_) ?_ hH ?_
  rotate_left 1
  · (intro w _; go_simp <;> with_reducible rfl)
  simp only [Act.put, S_]
  refine wpAnyH_ready (rs := [13]) (by kernel_rfl) (by decide) ?_
  refine AllReadyH.cons rfl (fun K1 hK1 => ?_) AllReadyH.nil
  obtain ⟨p0, p1, p2, p3, p4, p5⟩ : (wd.cell? ⟨w.heap.size, 0, none⟩ = some (.int .i64 0) /\ wd.cell? ⟨w.heap.size, 1, none⟩ = some (.int .i64 0) /\ wd.cell? ⟨w.heap.size, 2, none⟩ = some (.int .i64 0) /\ wd.cell? ⟨w.heap.size, 3, none⟩ = some (.int .i64 0) /\ wd.cell? ⟨w.heap.size, 4, none⟩ = some (.int .i64 0) /\ wd.cell? ⟨w.heap.size, 5, none⟩ = some (.int .u64 0)) := ⟨Zb Y1d.out 0 _ rfl, Zb Y1d.out 1 _ rfl, Zb Y1d.out 2 _ rfl, Zb Y1d.out 3 _ rfl, Zb Y1d.out 4 _ rfl, Zb Y1d.out 5 _ rfl⟩
  have f0 := Zc Y1d.out 0
  have f1 := Zc Y1d.out 1
  have f2 := Zc Y1d.out 2
  have f3 := Zc Y1d.out 3
  have f4 := Zc Y1d.out 4
  have f5 := Zc Y1d.out 5
  have n0 := Zb Y2d.out 0 _ rfl
  have m0 := Zc Y2d.out 0
  have n1 := Zb Y2d.out 1 _ rfl
  have m1 := Zc Y2d.out 1
  have n2 := Zb Y2d.out 2 _ rfl
  have m2 := Zc Y2d.out 2
  go_simp
  refine hK1.out _ _ ⟨(ZS (ne6 (fun e => by have := HV1.out; omega)) hH.1), (ZS (ne6 (fun e => by have := HV1.out; omega)) hH.2)⟩ (fun hH => ?_)
  clear hK1 K1 p0 p1 p2 p3 p4 p5 f0 f1 f2 f3 f4 f5 n0 n1 n2 m0 m1 m2
  have Y2e := Za ((ne6 (x0 := .int .i64 0) (x1 := .int .i64 0) (x2 := .int .i64 0) (x3 := .int .i64 0) (x4 := .int .i64 0) (x5 := .int .u64 0) (show w.heap.size + 1 ≠ w.heap.size by omega)).trans Y2d.out)
  refine wpAnyH_ready (rs := [14]) (by kernel_rfl) (by decide) ?_
  refine AllReadyH.cons rfl (fun K1 hK1 => ?_) AllReadyH.nil
  have n0 := Zb Y2e.out 0 _ rfl
  have m0 := Zc Y2e.out 0
  have n1 := Zb Y2e.out 1 _ rfl
  have m1 := Zc Y2e.out 1
  have n2 := Zb Y2e.out 2 _ rfl
  have m2 := Zc Y2e.out 2
  go_simp
  refine hK1.out _ _ ⟨(ZS (ne3 (fun e => by have := HV1.out; omega)) hH.1), (ZS (ne3 (fun e => by have := HV1.out; omega)) hH.2)⟩ (fun hH => ?_)
  clear hK1 K1 n0 n1 n2 m0 m1 m2
  refine wpAnyH_done (by kernel_rfl) ?_ _
  clear hH
  have T2 := Za (two_set (by omega) Y1d.out Y2d.out (.int .i64 0) (.int .i64 0) (.int .i64 0) (.int .i64 0) (.int .i64 0) (.int .u64 0) (.int .i64 7) (.int .i64 y.v.2.1) (.int .i64 y.a))
  have BB := Za (Zq (bel6 (Below.refl w.heap.size wd) (Nat.le_refl w.heap.size) (.int .i64 0) (.int .i64 0) (.int .i64 0) (.int .i64 0) (.int .i64 0) (.int .u64 0)) (Nat.le_succ w.heap.size) (.int .i64 7) (.int .i64 y.v.2.1) (.int .i64 y.a))
  go_wp2_with fail
  exact ret_w3 (x := ⟨0, 0, 0, (0, 0, 0)⟩) (y := (7, y.v.2.1, y.a)) w.heap.size (w.heap.size + 1) rfl rfl rfl T2.out.1 T2.out.2 rfl ⟨rfl, G, ⟨_, _, _, _, _, _, _, _, _, _, _, _, _, _, SM'.out.low HLO.out BB.out, HG.out⟩, CC.out.below BB.out⟩
theorem rNext_any {w : World} {G Fs Rs Fo R : Nat -> Prop} {B g gs gt : Nat} {S : List (List Wt)} {r : Rz} {vW vE vL vO vA : Value} {vs : List Value} {os as_ : List Nat} (h : Rq w Fs Rs Fo R B g gs gt S r vW vE vL vO vA vs os as_) (hG : ∀ k, G k ↔ Fs k ∨ Rs k ∨ Fo k ∨ R k) (i : Nat) (x : List Wt) (hx : r.pe[i]? = some x) : Calls Tryd.prog 110 #[.pointer (some ⟨gt, 0, none⟩), .int .i64 (i : Nat)] w (RrP w G B g S { r with pe := r.pe.set i (Yl x).2 } (.tuple #[w6V (Yl x).1.1, h3V (Yl x).1.2])) := by
 cases x with
 | nil =>
  have e : r.pe.set i [] = r.pe := set_same _ _ _ hx
  unfold Yl
  simp only [e]
  exact next_0 h hG i hx
 | cons y tl =>
  unfold Yl
  by_cases hk : y.k = 0
  · simp only [if_pos hk]
    exact next_h h hG i y tl hx hk
  · simp only [if_neg hk]
    exact next_w h hG i y tl hx hk
def isR (c : Int) (y : Wt) : Bool := y.k == 6 && y.o == c
def takI (ws : List Wt) (c : Int) : Int := match ws.findIdx? (isR c) with
 | some t => t
 | none => -1
theorem taker_any {w : World} {G : Nat -> Prop} {B g : Nat} {S : List (List Wt)} {r : Rz} (h : Rr w G B g S r) (c : Int) (i : Nat) (x : Wt) (hx : r.ws[i]? = some x) (hk : ¬ x.k = 6) : Calls Tryd.prog 118 #[.pointer (some ⟨g, 0, none⟩), .int .i64 c, .int .i64 (i : Nat)] w (Vb w (.int .i64 (takI r.ws c))) := by
  obtain ⟨Fs, Rs, Fo, R, gs, gt, vW, vE, vL, vO, vA, vs, os, as_, h, hG⟩ := h
  obtain ⟨n, hn⟩ : ∃ n, n = r.ws.length := ⟨_, rfl⟩
  have hi := (List.getElem?_eq_some_iff.1 hx).1
  have hn8 : n <= 8 := by have := h.n8.1; omega
  have hs : Hid ((∀ j, j < n -> isR c (r.ws.getD j zW) = false) -> takI r.ws c = -1) := fun h => by
    unfold takI
    rw [idx_none (fun j hj => h j (by omega))]
  have hs2 : Hid (∀ k, k < n -> (∀ j, j < k -> isR c (r.ws.getD j zW) = false) -> isR c (r.ws.getD k zW) = true -> takI r.ws c = k) := fun k hk h1 h2 => by
    unfold takI
    rw [idx_some (by omega) h1 h2]
  obtain ⟨bW, cW, eW, hcW, hmW⟩ := Zv h.wa (by omega)
  rw [← hn] at eW
  subst eW
  have hbl := h.fb bW (h.fW bW rfl)
  have c1 := h.cells.1.2.1
  have HC : Hid (∀ k, k < n -> ∃ y, r.ws.getD k zW = y /\ (k = i -> y = x) /\ w.cell? ⟨bW, k * 6, none⟩ = some (.int .i64 y.k) /\ w.cell? ⟨bW, k * 6 + 1, none⟩ = some (.int .i64 y.o) /\ w.cell? ⟨bW, k * 6 + 2, none⟩ = some (.int .i64 y.a) /\ w.cell? ⟨bW, k * 6 + 3, none⟩ = some (.int .i64 y.v.1) /\ w.cell? ⟨bW, k * 6 + 4, none⟩ = some (.int .i64 y.v.2.1) /\ w.cell? ⟨bW, k * 6 + 5, none⟩ = some (.int .u64 y.v.2.2)) := Za (fun k hk => by
    obtain ⟨y, hy⟩ : ∃ y, r.ws[k]? = some y := ⟨_, List.getElem?_eq_getElem (by omega)⟩
    obtain ⟨p0, p1, p2, p3, p4, p5⟩ := w6s_at _ _ _ hy
    refine ⟨y, by simp [List.getD, hy], fun e => ?_, (Zm h.wa _ _ p0).1, (Zm h.wa _ _ p1).1, (Zm h.wa _ _ p2).1, (Zm h.wa _ _ p3).1, (Zm h.wa _ _ p4).1, (Zm h.wa _ _ p5).1⟩
    subst e
    rw [hx] at hy
    exact (Option.some.inj hy).symm)
  clear h hG hn hcW hmW hx hi
  generalize takI r.ws c = z at *
  generalize r.ws = ws at *
  go_enter Tryd.func118, Tryd.ntmps118
  go_wp2_with fail
  go_loopw [7, 8, 14] (fun x7 x8 q wr => ∃ k : Nat, k <= n /\ q = .int .i64 k /\ Hid (∀ j, j < k -> isR c (ws.getD j zW) = false) /\ Hid (Below w.heap.size w wr)) (fun _ _ q _ => n - (intOf q).toNat)
  case atStart => exact ⟨0, Nat.zero_le _, rfl, fun j hj => absurd hj (Nat.not_lt_zero _), Below.refl _ _⟩
  case round =>
    obtain ⟨k, hkn, rfl, hall, hbel⟩ := hrel
    by_cases hlt : k < n
    · have hlt' : (k : Int) < (n : Int) := by omega
      obtain ⟨y, hy, hxy, p0, p1, p2, p3, p4, p5⟩ := HC.out k hlt
      have u0 := (hbel.out.cell (p := ⟨bW, k * 6, none⟩) hbl).trans p0
      have u1 := (hbel.out.cell (p := ⟨bW, k * 6 + 1, none⟩) hbl).trans p1
      have u2 := (hbel.out.cell (p := ⟨bW, k * 6 + 2, none⟩) hbl).trans p2
      have u3 := (hbel.out.cell (p := ⟨bW, k * 6 + 3, none⟩) hbl).trans p3
      have u4 := (hbel.out.cell (p := ⟨bW, k * 6 + 4, none⟩) hbl).trans p4
      have u5 := (hbel.out.cell (p := ⟨bW, k * 6 + 5, none⟩) hbl).trans p5
      have hne := Za (hs2.out k hlt hall.out)
      have hstep : Hid (isR c (ws.getD k zW) = false -> ∀ j, j < k + 1 -> isR c (ws.getD j zW) = false) := fun e j hj => by
        by_cases ej : j = k
        · rw [ej]; exact e
        · exact hall.out j (by omega)
      rw [hy] at hne hstep
      have HB2 := Za (fun o => Zi hbel.out (Zd wr o))
      clear p0 p1 p2 p3 p4 p5 hs hs2 hall HC hy
      by_cases e1 : k = i
      · obtain rfl := hxy e1
        have hst := Za (hstep.out (by unfold isR; simp [hk]))
        have hd : ((k : Int) != (i : Int)) = false := by simp [e1]
        clear hne hstep hxy e1 hk
        go_wp2_with fail
        go_roundw
        case rel => exact ⟨k + 1, by omega, by go_num, hst.out, HB2.out _⟩
        case measure => simp [intOf]; omega
      · have hd : ((k : Int) != (i : Int)) = true := by simp; omega
        by_cases e6 : y.k = 6
        · rw [e6] at u0
          by_cases eo : y.o = c
          · rw [eo] at u1
            have hr := Za (hne.out (by unfold isR; simp [e6, eo]))
            clear hne hstep hxy e1 hk e6 eo
            go_wp2_with fail
            go_ret
            exact Vb.mk (by rw [hr.out]; rfl) (HB2.out _)
          · have ho : (y.o == c) = false := by simp [eo]
            have hst := Za (hstep.out (by unfold isR; simp [eo]))
            clear hne hstep hxy e1 hk e6 eo
            go_wp2_with fail
            go_roundw
            case rel => exact ⟨k + 1, by omega, by go_num, hst.out, HB2.out _⟩
            case measure => simp [intOf]; omega
        · have ho : (y.k == 6) = false := by simp [e6]
          have hst := Za (hstep.out (by unfold isR; simp [e6]))
          clear hne hstep hxy e1 hk e6
          go_wp2_with fail
          go_roundw
          case rel => exact ⟨k + 1, by omega, by go_num, hst.out, HB2.out _⟩
          case measure => simp [intOf]; omega
    · have ek : k = n := by omega
      subst ek
      have hr := Za (hs.out hall.out)
      clear hs hs2 hall HC
      go_wp2_with fail
      go_ret
      exact Vb.mk (by rw [hr.out]; rfl) hbel.out
def canSZ (s : St) (ws : List Wt) (w : Wt) : Bool := match lk s.C w.o with
 | some q => isV w.v q.t && (if q.room = 0 then decide (0 <= takI ws w.o) else decide ((q.l.length : Int) < q.room))
 | none => false
def Yn (s : St) (ws : List Wt) (w : Wt) : Bool :=
 if w.k = 1 ∨ w.k = 2 then canA s w
 else if w.k = 3 then canL s w
 else if w.k = 4 then (lk s.M w.o).isSome
 else if w.k = 5 then canSZ s ws w
 else if w.k = 6 then canR s w
 else if w.k = 7 ∨ w.k = 8 ∨ w.k = 9 then canC s w
 else decide (w.k = 10 ∨ w.k = 11 ∨ w.k = 12)
theorem in_lk {α : Type} (l : List α) (i : Int) (n : Nat) (hn : n = l.length) (w : World) : Calls Tryd.prog 14 #[.int .i64 i, .int .i64 (n : Nat)] w fun e w' => e = .returned (.bool (lk l i).isSome) /\ w = w' := by
 cases h : lk l i with
 | none => exact in_no i n w (by rw [hn]; exact Yv h)
 | some x =>
  obtain ⟨k, rfl, hk⟩ := ZI h
  exact in_yes k n w (by rw [hn]; exact (List.getElem?_eq_some_iff.1 hk).1)
structure Cn (w : World) (g gs bx : Nat) (x : Wt) (vP vL vC vA : Value) : Prop where
 c : w.cell? ⟨g, 0, none⟩ = some (.pointer (some ⟨gs, 0, none⟩)) /\ w.cell? ⟨gs, 0, none⟩ = some vP /\ w.cell? ⟨gs, 1, none⟩ = some vL /\ w.cell? ⟨gs, 2, none⟩ = some vC /\ w.cell? ⟨gs, 5, none⟩ = some vA
 x : w.cell? ⟨bx, 0, none⟩ = some (.int .i64 x.k) /\ w.cell? ⟨bx, 1, none⟩ = some (.int .i64 x.o) /\ w.cell? ⟨bx, 2, none⟩ = some (.int .i64 x.a) /\ w.cell? ⟨bx, 3, none⟩ = some (.int .i64 x.v.1) /\ w.cell? ⟨bx, 4, none⟩ = some (.int .i64 x.v.2.1) /\ w.cell? ⟨bx, 5, none⟩ = some (.int .u64 x.v.2.2)
 lt : g < w.heap.size /\ gs < w.heap.size /\ bx < w.heap.size
theorem Cn.bel {w w' : World} {g gs bx : Nat} {x : Wt} {vP vL vC vA : Value} (h : Cn w g gs bx x vP vL vC vA) (hb : Below w.heap.size w w') : Cn w' g gs bx x vP vL vC vA := by
 obtain ⟨⟨c0, c1, c2, c3, c4⟩, ⟨x0, x1, x2, x3, x4, x5⟩, l1, l2, l3⟩ := h
 have k := hb.size
 exact ⟨⟨(hb.cell (p := ⟨g, 0, none⟩) l1).trans c0, (hb.cell (p := ⟨gs, 0, none⟩) l2).trans c1, (hb.cell (p := ⟨gs, 1, none⟩) l2).trans c2, (hb.cell (p := ⟨gs, 2, none⟩) l2).trans c3, (hb.cell (p := ⟨gs, 5, none⟩) l2).trans c4⟩,
  ⟨(hb.cell (p := ⟨bx, 0, none⟩) l3).trans x0, (hb.cell (p := ⟨bx, 1, none⟩) l3).trans x1, (hb.cell (p := ⟨bx, 2, none⟩) l3).trans x2, (hb.cell (p := ⟨bx, 3, none⟩) l3).trans x3, (hb.cell (p := ⟨bx, 4, none⟩) l3).trans x4, (hb.cell (p := ⟨bx, 5, none⟩) l3).trans x5⟩, by omega, by omega, by omega⟩
theorem own_adr {w : World} {B : Nat} {T : TypeId} {n : Nat} {a : Option Addr} {m c len : Nat} {xs : List Value} (h : w.ownsRow B T n (.slice a m c) len xs) (hl : 0 < len) : ∃ b, a = some ⟨b, 0, none⟩ := by
 obtain ⟨b, c', e, _⟩ := Zv h hl
 cases e
 exact ⟨b, rfl⟩
section
variable {s : St} {ws : List Wt} {x : Wt}
theorem canZ_1 (h : x.k = 1) : Yn s ws x = (lk s.P x.o).isSome := by
 unfold Yn canA
 cases lk s.P x.o <;> simp [h]
theorem canZ_2n (h : x.k = 2) (hl : (lk s.P x.o).isSome = false) : Yn s ws x = false := by
 unfold Yn canA
 cases e : lk s.P x.o <;> simp_all
theorem canZ_2 {p : V3} (h : x.k = 2) (hl : lk s.P x.o = some p) : Yn s ws x = (Yh x.v.1 x.v.2.1 x.v.2.2 && x.v.1 == p.1) := by
 unfold Yn canA isV isB
 simp [h, hl]
theorem canZ_3n (h : x.k = 3) (hl : (lk s.M x.o).isSome = false) : Yn s ws x = false := by
 unfold Yn canL
 cases e : lk s.M x.o <;> simp_all
theorem canZ_3 {b : Bool} (h : x.k = 3) (hl : lk s.M x.o = some b) : Yn s ws x = !b := by
 unfold Yn canL
 simp [h, hl]
theorem canZ_4 (h : x.k = 4) : Yn s ws x = (lk s.M x.o).isSome := by
 unfold Yn
 simp [h]
theorem canZ_5n (h : x.k = 5) (hl : (lk s.C x.o).isSome = false) : Yn s ws x = false := by
 unfold Yn canSZ
 cases e : lk s.C x.o <;> simp_all
theorem canZ_5 {q : Qu} (h : x.k = 5) (hl : lk s.C x.o = some q) : Yn s ws x = ((Yh x.v.1 x.v.2.1 x.v.2.2 && x.v.1 == q.t) && (if q.room = 0 then decide (0 <= takI ws x.o) else decide ((q.l.length : Int) < q.room))) := by
 unfold Yn canSZ isV isB
 simp [h, hl]
theorem canZ_6n (h : x.k = 6) (hl : (lk s.C x.o).isSome = false) : Yn s ws x = false := by
 unfold Yn canR
 cases e : lk s.C x.o <;> simp_all
theorem canZ_6 {q : Qu} (h : x.k = 6) (hl : lk s.C x.o = some q) : Yn s ws x = decide (0 < q.l.length) := by
 unfold Yn canR
 simp [h, hl]
theorem canZ_7 (h : x.k = 7) : Yn s ws x = (lk s.A x.o).isSome := by
 unfold Yn canC
 cases lk s.A x.o <;> simp [h]
theorem canZ_8n (h : x.k = 8 ∨ x.k = 9) (hl : (lk s.A x.o).isSome = false) : Yn s ws x = false := by
 unfold Yn canC
 cases e : lk s.A x.o
 · rcases h with h | h <;> simp [h]
 · simp_all
theorem canZ_8 (h : x.k = 8 ∨ x.k = 9) (hl : (lk s.A x.o).isSome = true) : Yn s ws x = (Yh x.v.1 x.v.2.1 x.v.2.2 && x.v.1 == 1) := by
 unfold Yn canC isV isB
 cases e : lk s.A x.o
 · simp_all
 · rcases h with h | h <;> simp [h]
theorem canZ_10 (h : x.k = 10 ∨ x.k = 11 ∨ x.k = 12) : Yn s ws x = true := by
 unfold Yn
 rcases h with h | h | h <;> simp [h]
theorem canZ_0 (h : x.k < 1 ∨ 12 < x.k) : Yn s ws x = false := by
 unfold Yn
 rw [if_neg (by omega), if_neg (by omega), if_neg (by omega), if_neg (by omega), if_neg (by omega), if_neg (by omega)]
 simp
 omega
end
end Go.Proofs.YtghfjnnmpmfboaaDoor.Ck
