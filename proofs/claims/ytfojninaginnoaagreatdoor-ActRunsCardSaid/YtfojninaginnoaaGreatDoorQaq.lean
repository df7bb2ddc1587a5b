/- Texts of this proof, packed: contracts of the program's functions, and the plain model that they are held against. -/
import Derived.Test.YtfojninaginnoaaGreatDoorQap
import Derived.ProofKit
import Derived.OpenShut
import Derived.ChangeOld
import Derived.Below
import Derived.Deep.Slices
import Derived.ChangeArms
import Derived.Carry
import Derived.SizedLaws
set_option maxRecDepth 20000
set_option maxHeartbeats 4000000
namespace Go.Proofs.YtfojninaginnoaaGreatDoor.Ck
open Go.RowKit
theorem Yx {S : List (List Wt)} {r : Rz} {i : Nat} {k o a : Int} {v : V3} (hx : r.ws[i]? = some ⟨k, o, a, v⟩) (h1 : ¬ k = 10) (h2 : ¬ (k = 4 /\ lk r.s.M o ≠ some true)) (h3 : ¬ (k = 5 /\ YF r.s o = true)) (h4 : ¬ k = 12) {s' : St} (hs : (ZF r.s ⟨k, o, a, v⟩).1 = s') : Yz (Yo { r with s := s', ev := r.ev ++ [⟨i, k, o, a⟩] } [i] 1) = doZ S r i := by
 unfold doZ
 rw [hx]
 simp only
 rw [if_neg h1, if_neg h2, if_neg h3, if_neg h4, hs]
 unfold YM
 simp only
 rw [hx]
theorem RrP.up {w : World} {G : Nat -> Prop} {B g : Nat} {S : List (List Wt)} {r : Rz} {v : Value} {e : Ending} {w' : World} (h : RrP w G B g S r v e w') : RrP w G (B + 1) g S r v e w' := by
 obtain ⟨he, G', hr, hc⟩ := h
 exact ⟨he, G', hr.up (Nat.le_succ B), hc⟩
theorem rdo_any {w : World} {G : Nat -> Prop} {B g : Nat} {S : List (List Wt)} {r : Rz} (h : Rr w G B g S r) (hB : B <= 900000) (i : Nat) (x : Wt) (hx : r.ws[i]? = some x) (hc : Yp r.s r.ws x = true) (hp : r.pe.length = r.ws.length) (hev : r.ev.length <= 90000) :
 Calls Tryz.prog 12 #[P_ g, I_ (i : Nat)] w (RrP w G (B + 1) g S (doZ S r i) (.tuple #[])) := by
 obtain ⟨k, o, a, v0, v1, v2⟩ := x
 have hi := (G_ hx)
 have key : ∀ {r' : Rz} {lx : List (Nat × V3)}, ¬ k = 10 -> (∀ w1, Below w.heap.size w w1 -> Calls Tryz.prog 39 #[P_ g, I_ (i : Nat)] w1 (YE w1 G (B + 1) g S r' lx)) -> (∀ y ∈ lx, y.1 < r'.ws.length /\ y.1 < r'.pe.length) -> Yz (Yo r' (lx.map Prod.fst) lx.length) = doZ S r i -> Calls Tryz.prog 12 #[P_ g, I_ (i : Nat)] w (RrP w G (B + 1) g S (doZ S r i) (.tuple #[])) := fun {r' lx} hk AC hl he => by
  rw [← he]
  exact rdo_act h (by omega) i _ hx (by simpa using hk) AC hl
 unfold Yp at hc
 simp only at hc
 by_cases k10 : k = 10
 · subst k10
   clear key
   by_cases h8 : 8 <= r.ws.length
   · have e : doZ S r i = faultZ r i (5, 0, a) := by
      unfold doZ
      rw [hx]
      simp only
      rw [if_pos trivial, if_pos h8]
     rw [e]
     exact (rdo_full h i o a v0 v1 v2 hx h8).mono fun _ _ q => q.up
   · cases hf : lk S o with
     | none =>
      have e : doZ S r i = faultZ r i (5, 0, a) := by
       unfold doZ
       rw [hx]
       simp only
       rw [if_pos trivial, if_neg h8, hf]
      rw [e]
      exact (rdo_none h i o a v0 v1 v2 hx (by omega) hf).mono fun _ _ q => q.up
     | some l =>
      obtain ⟨fn, hfn, hl⟩ := ZD hf
      have e : doZ S r i = Yz (Yo { YM r i r.ws.length with ws := r.ws ++ [zW], pe := r.pe ++ [l] } [i, r.ws.length] 2) := by
       unfold doZ
       rw [hx]
       simp only
       rw [if_pos trivial, if_neg h8, hf]
      rw [e]
      exact (rdo_go h hB i o a v0 v1 v2 hx (by omega) fn hfn l hl hp hev).mono fun _ _ q => q.up
 have one : ∀ {r' : Rz} {y : V3}, r'.ws = r.ws -> r'.pe = r.pe -> ∀ z ∈ [(i, y)], z.1 < r'.ws.length /\ z.1 < r'.pe.length := fun h1 h2 z hz => by
  rw [List.mem_singleton] at hz
  subst hz
  rw [h1, h2]
  exact ⟨hi, by show i < _; omega⟩
 by_cases k1 : k = 1
 · subst k1
   rw [if_pos (.inl rfl)] at hc
   unfold canA at hc
   simp only at hc
   cases hl : lk r.s.P o with
   | none => rw [hl] at hc; cases hc
   | some y =>
    obtain ⟨j, rfl, hj⟩ := ZD hl
    exact key k10 (fun w1 hb => ract_1 (h.bel hb) i j a v0 v1 v2 hx hev y hj) (one rfl rfl) (Yx hx k10 (fun e => absurd e.1 (by decide)) (fun e => absurd e.1 (by decide)) (by decide) (by simp [ZF]))
 by_cases k2 : k = 2
 · subst k2
   rw [if_pos (.inr rfl)] at hc
   unfold canA at hc
   simp only at hc
   cases hl : lk r.s.P o with
   | none => rw [hl] at hc; cases hc
   | some y =>
    obtain ⟨j, rfl, hj⟩ := ZD hl
    exact key k10 (fun w1 hb => ract_2 (h.bel hb) i j a v0 v1 v2 hx hev y hj) (one rfl rfl) (Yx hx k10 (fun e => absurd e.1 (by decide)) (fun e => absurd e.1 (by decide)) (by decide) (by simp [ZF]))
 rw [if_neg (fun e => e.elim k1 k2)] at hc
 by_cases k3 : k = 3
 · subst k3
   rw [if_pos rfl] at hc
   unfold canL at hc
   simp only at hc
   cases hl : lk r.s.M o with
   | none => rw [hl] at hc; cases hc
   | some y =>
    obtain ⟨j, rfl, hj⟩ := ZD hl
    exact key k10 (fun w1 hb => ract_3 (h.bel hb) i j a v0 v1 v2 hx hev y hj) (one rfl rfl) (Yx hx k10 (fun e => absurd e.1 (by decide)) (fun e => absurd e.1 (by decide)) (by decide) (by simp [ZF]))
 rw [if_neg k3] at hc
 by_cases k4 : k = 4
 · subst k4
   rw [if_pos rfl] at hc
   cases hl : lk r.s.M o with
   | none => rw [hl] at hc; cases hc
   | some y =>
    obtain ⟨j, rfl, hj⟩ := ZD hl
    cases y with
    | true => exact key k10 (fun w1 hb => ract_4 (h.bel hb) i j a v0 v1 v2 hx hev true hj rfl) (one rfl rfl) (Yx hx k10 (fun e => e.2 hl) (fun e => absurd e.1 (by decide)) (by decide) (by simp [ZF]))
    | false =>
     refine key k10 (fun w1 hb => ract_4f (h.bel hb) i j a v0 v1 v2 hx hev hj) (fun y hy => by simp at hy) ?_
     unfold doZ
     rw [hx]
     simp only
     rw [if_neg (by decide), if_pos ⟨trivial, by rw [hl]; simp⟩]
     simp [Yz, Yo, faultZ]
 rw [if_neg k4] at hc
 by_cases k5 : k = 5
 · subst k5
   rw [if_pos rfl] at hc
   unfold canSZ at hc
   simp only at hc
   cases hl : lk r.s.C o with
   | none => rw [hl] at hc; cases hc
   | some q =>
    rw [hl] at hc
    simp only [Bool.and_eq_true] at hc
    obtain ⟨hb0, hc⟩ := hc
    have hb : isB v0 v1 v2 q.t = true := hb0
    obtain ⟨j, rfl, hj⟩ := ZD hl
    by_cases hr : q.room = 0
    · rw [if_pos hr] at hc
      have ht0 := of_decide_eq_true hc
      unfold takI at ht0
      cases ht : r.ws.findIdx? (isR (j : Nat)) with
      | none => rw [ht] at ht0; simp at ht0
      | some t =>
       obtain ⟨htl, _⟩ := List.findIdx?_eq_some_iff_getElem.1 ht
       have hy : r.ws[t]? = some r.ws[t] := List.getElem?_eq_getElem htl
       refine key k10 (fun w1 hb => ract_50 (h.bel hb) i j a v0 v1 v2 hx hev q hj hr t r.ws[t] ht hy) (fun z hz => ?_) ?_
       · simp only [List.mem_cons, List.not_mem_nil, or_false] at hz
         rcases hz with rfl | rfl
         · exact ⟨hi, by show i < r.pe.length; omega⟩
         · exact ⟨htl, by show t < r.pe.length; omega⟩
       · unfold doZ
         rw [hx]
         simp only
         have hro : YF r.s (j : Nat) = true := by unfold YF; rw [hl]; simp [hr]
         rw [if_neg (by decide), if_neg (fun e => absurd e.1 (by decide)), if_pos ⟨trivial, hro⟩, ht]
         simp [YM, hx, hy]
    · rw [if_neg hr] at hc
      exact key k10 (fun w1 hb' => ract_5 (h.bel hb') i j a v0 v1 v2 hx hev q hj hB hb (of_decide_eq_true hc)) (one rfl rfl) (Yx hx k10 (fun e => absurd e.1 (by decide)) (fun e => by have := e.2; unfold YF at this; rw [hl] at this; simp at this; exact hr this) (by decide) (by simp [ZF, hl]))
 rw [if_neg k5] at hc
 by_cases k6 : k = 6
 · subst k6
   rw [if_pos rfl] at hc
   unfold canR at hc
   simp only at hc
   cases hl : lk r.s.C o with
   | none => rw [hl] at hc; cases hc
   | some q =>
    rw [hl] at hc
    simp only at hc
    obtain ⟨j, rfl, hj⟩ := ZD hl
    cases hq : q.l with
    | nil => rw [hq] at hc; simp at hc
    | cons y q' => exact key k10 (fun w1 hb => ract_6 (h.bel hb) i j a v0 v1 v2 hx hev q hj hB y q' hq) (one rfl rfl) (Yx hx k10 (fun e => absurd e.1 (by decide)) (fun e => absurd e.1 (by decide)) (by decide) (by simp [ZF, hl, hq]))
 rw [if_neg k6] at hc
 by_cases k7 : k = 7
 · subst k7
   rw [if_pos (.inl rfl)] at hc
   unfold canC at hc
   simp only at hc
   cases hl : lk r.s.A o with
   | none => rw [hl] at hc; cases hc
   | some y =>
    obtain ⟨j, rfl, hj⟩ := ZD hl
    exact key k10 (fun w1 hb => ract_7 (h.bel hb) i j a v0 v1 v2 hx hev y hj) (one rfl rfl) (Yx hx k10 (fun e => absurd e.1 (by decide)) (fun e => absurd e.1 (by decide)) (by decide) (by simp [ZF]))
 by_cases k8 : k = 8
 · subst k8
   rw [if_pos (.inr (.inl rfl))] at hc
   unfold canC at hc
   simp only at hc
   cases hl : lk r.s.A o with
   | none => rw [hl] at hc; cases hc
   | some y =>
    obtain ⟨j, rfl, hj⟩ := ZD hl
    exact key k10 (fun w1 hb => ract_8 (h.bel hb) i j a v0 v1 v2 hx hev y hj) (one rfl rfl) (Yx hx k10 (fun e => absurd e.1 (by decide)) (fun e => absurd e.1 (by decide)) (by decide) (by simp [ZF]))
 by_cases k9 : k = 9
 · subst k9
   rw [if_pos (.inr (.inr rfl))] at hc
   unfold canC at hc
   simp only at hc
   cases hl : lk r.s.A o with
   | none => rw [hl] at hc; cases hc
   | some y =>
    obtain ⟨j, rfl, hj⟩ := ZD hl
    exact key k10 (fun w1 hb => ract_9 (h.bel hb) i j a v0 v1 v2 hx hev y hj) (one rfl rfl) (Yx hx k10 (fun e => absurd e.1 (by decide)) (fun e => absurd e.1 (by decide)) (by decide) (by simp [ZF, hl]))
 rw [if_neg (fun e => e.elim k7 (fun e => e.elim k8 k9))] at hc
 rcases of_decide_eq_true hc with e | rfl | rfl
 · exact absurd e k10
 · exact key k10 (fun w1 hb => ract_11 (h.bel hb) i o a v0 v1 v2 hx hev) (one rfl rfl) (Yx hx k10 (fun e => absurd e.1 (by decide)) (fun e => absurd e.1 (by decide)) (by decide) (by simp [ZF]))
 · refine key k10 (fun w1 hb => ract_12 (h.bel hb) i o a v0 v1 v2 hx hev) (fun y hy => by simp at hy) ?_
   unfold doZ
   rw [hx]
   simp only
   rw [if_neg (by decide), if_neg (fun e => absurd e.1 (by decide)), if_neg (fun e => absurd e.1 (by decide)), if_pos trivial]
   simp [YM, hx, Yo]
def sameB (a b : List Int) : Bool := decide (a = b)
theorem sameB_not (a b : List Int) (k : Nat) (h : a.getD k 0 ≠ b.getD k 0) : sameB a b = false := by
 unfold sameB
 exact decide_eq_false (fun e => h (by rw [e]))
theorem sameB_all (a b : List Int) (hl : a.length = b.length) (h : ∀ j, j < a.length -> a.getD j 0 = b.getD j 0) : sameB a b = true := by
 unfold sameB
 refine decide_eq_true (List.ext_getElem hl (fun i h1 h2 => ?_))
 have := h i h1
 simpa [List.getD, h1, h2] using this
theorem sameB_len (a b : List Int) (hl : a.length ≠ b.length) : sameB a b = false := by
 unfold sameB
 exact decide_eq_false (fun e => hl (by rw [e]))
theorem sameInts_any (va vb : Value) (a b : List Int) (w : World) (ha : Sl w va a) (hb : Sl w vb b) :
 Calls Tryz.prog 26 #[va, vb] w fun e w' => e = .returned (.bool (sameB a b)) /\ Below w.heap.size w w' := by
 obtain ⟨_, aa, ca, rfl, hca, hcm, hac⟩ := ha
 obtain ⟨_, ab, cb, rfl, hcb, hcm2, hbc⟩ := hb
 unfold maxLen at hcm hcm2
 by_cases hl : a.length = b.length
 · obtain ⟨n, hn⟩ : ∃ n, n = a.length := ⟨_, rfl⟩
   have hs : Hid ((∀ j, j < n -> a.getD j 0 = b.getD j 0) -> sameB a b = true) := fun h => sameB_all a b hl (fun j hj => h j (by omega))
   have hs2 : Hid (∀ k, a.getD k 0 ≠ b.getD k 0 -> sameB a b = false) := fun k => sameB_not a b k
   have hac' : ∀ i, i < n -> _ := fun i hi => hac i (by omega)
   have hbc' : ∀ i, i < n -> _ := fun i hi => hbc i (by omega)
   rw [← hl, ← hn]
   rw [← hn] at hca
   rw [← hl, ← hn] at hcb
   clear hl hn hac hbc
   go_enter Tryz.func26, Tryz.ntmps26
   go_wp2
   go_loopw [13] (fun i wr => ∃ k : Nat, k <= n /\ i = I_ k /\ Hid (∀ j, j < k -> a.getD j 0 = b.getD j 0) /\ Below w.heap.size w wr) (fun i _ => n - (intOf i).toNat)
   case atStart => exact ⟨0, Nat.zero_le _, rfl, fun j hj => absurd hj (Nat.not_lt_zero _), Below.refl _ _⟩
   case round =>
    obtain ⟨k, hk, rfl, hall, hbel⟩ := hrel
    by_cases hlt : k < n
    · obtain ⟨b1, o1, rfl, hb1, hc1⟩ := hac' k hlt
      obtain ⟨b2, o2, rfl, hb2, hc2⟩ := hbc' k hlt
      rw [← hbel.cell (p := ⟨b1, o1 + k, none⟩) hb1] at hc1
      rw [← hbel.cell (p := ⟨b2, o2 + k, none⟩) hb2] at hc2
      have h1 : (k : Int) < (n : Int) := by omega
      clear hac' hbc'
      have hne : Hid (a.getD k 0 ≠ b.getD k 0 -> sameB a b = false) := hs2.out k
      have hstep : Hid (a.getD k 0 = b.getD k 0 -> ∀ j, j < k + 1 -> a.getD j 0 = b.getD j 0) := fun e j hj => by
       by_cases ej : j = k
       · rw [ej]; exact e
       · exact hall.out j (by omega)
      clear hs hs2 hall
      generalize a.getD k 0 = x at *
      generalize b.getD k 0 = y at *
      by_cases e : x = y
      · have e2 : (x != y) = false := by simp [e]
        have hstep2 : Hid (∀ j, j < k + 1 -> a.getD j 0 = b.getD j 0) := hstep.out e
        clear e hstep hne
        go_wp2_with fail
        go_quiet (fail)
        go_wp2_with fail
        go_roundw
        case rel => exact ⟨k + 1, by omega, by go_num, hstep2, below_drewN hbel _⟩
        case measure => simp [intOf]; omega
      · have e2 : (x != y) = true := by simp [e]
        have hne2 : Hid (sameB a b = false) := hne.out e
        clear e hstep hne
        go_wp2_with fail
        go_quiet (fail)
        go_wp2_with fail
        go_ret
        exact ⟨ret_bool hne2.out.symm, below_drewN hbel _⟩
    · have e : k = n := by omega
      subst e
      clear hac' hbc'
      have hs3 : Hid (sameB a b = true) := hs.out hall.out
      clear hs hs2
      go_wp2_with fail
      go_ret
      exact ⟨ret_bool hs3.out.symm, hbel⟩
 · have hs : Hid (sameB a b = false) := sameB_len a b hl
   have ht : ((a.length : Int) != (b.length : Int)) = true := by rw [bne_iff_ne]; omega
   clear hac hbc
   go_enter Tryz.func26, Tryz.ntmps26
   go_wp2
   go_ret
   exact ⟨ret_bool hs.out.symm, Below.refl _ _⟩
def WaitsP (w : World) (l : List Wt) (e : Ending) (w' : World) : Prop := ∃ a c vas, e = .returned (.slice a l.length c) /\ vas.length = l.length /\ w'.ownsRow w.heap.size 67 7 (.slice a l.length c) l.length (YL l vas) /\ Below w.heap.size w w'
theorem Waits_any {w : World} {G : Nat -> Prop} {g : Nat} {S : List (List Wt)} {r : Rm} (h : Rn w G g S r) : Calls Tryz.prog 28 #[P_ g] w (WaitsP w (r.gs.map Gr.w)) := by
 have HR := Za h
 obtain ⟨Fs, Fo, R, gs, vC, vB, vG, vE, ps, ts, h, hG⟩ := h
 have HU := Za h
 have c3 := h.cells.1.2.2.2.1
 have hn8 := h.n8
 obtain ⟨aG, cG, eG, _⟩ := Zl h.go
 obtain ⟨n, hn⟩ : ∃ n, n = r.gs.length := ⟨_, rfl⟩
 rw [← hn] at eG hn8
 subst eG
 have HN := Za hn
 clear h hG hn
 go_enter Tryz.func28, Tryz.ntmps28
 go_wp2_with fail
 go_loopw [3, 5, 11] (fun x3 x5 q wr => ∃ (k : Nat) (a : Option Addr) (c : Nat), k <= n /\ q = I_ k /\ x3 = .slice a k c /\ Hid (∃ vas, vas.length = k /\ wr.ownsRow w.heap.size 67 7 (.slice a k c) k (YL ((r.gs.map Gr.w).take k) vas) /\ Below w.heap.size w wr)) (fun _ _ q _ => n - (intOf q).toNat)
 case atStart => exact ⟨0, none, 0, Nat.zero_le _, rfl, rfl, Za ⟨[], rfl, by simp [YL]; exact World.ownsRow_nil _ _ _ _, Below.refl _ _⟩⟩
 case round =>
  obtain ⟨k, a, c, hk, rfl, rfl, HI⟩ := hrel
  obtain ⟨vas, hv, ho, hb⟩ := HI.out
  by_cases hlt : k < n
  · have hlt' : (k : Int) < (n : Int) := by omega
    obtain ⟨x, hx⟩ : ∃ x, r.gs[k]? = some x := ⟨_, List.getElem?_eq_getElem (by rw [← HN.out]; exact hlt)⟩
    have hu := HU.out.bel hb
    obtain ⟨bG, cG', b, t, va, eG, _, _, _, _, _, hA, ⟨z1, _, _⟩, z2⟩ := hu.see hx
    cases eG
    obtain ⟨xr, xk, xo, xa, x0, x1, x2⟩ := x
    simp only at z2
    have d1 := Zb z2 1 _ rfl
    have d2 := Zb z2 2 _ rfl
    have d3 := Zb z2 3 _ rfl
    have d4 := Zb z2 4 _ rfl
    have d5 := Zb z2 5 _ rfl
    have d6 := Zb z2 6 _ rfl
    have d7 := Zb z2 7 _ rfl
    have CL := Za (wclone_any xk xo xa x0 x1 x2 va hA)
    obtain ⟨av, nv, cv, rfl⟩ := hA.form
    have HX : Hid ((r.gs.map Gr.w)[k]? = some ⟨xk, xo, xa, (x0, x1, x2)⟩) := Za (by rw [List.getElem?_map, hx]; rfl)
    have HO := Za (And.intro hv (And.intro ho hb))
    clear hv ho hb hx hu hA z2 HI
    go_wp2_with fail
    refine CL.out.mono ?_
    rintro e w3 ⟨v3, rfl, a3, b3⟩
    obtain ⟨a5, n5, c5, x5, rfl, _⟩ := id a3
    have A3 := Za (And.intro a3 b3)
    clear a3 b3 CL d1 d2 d3 d4 d5 d6 d7 z1
    have PU := Za (fun ty => push_w (w := w3) (n := k) (l := (r.gs.map Gr.w).take k) (vas := vas) (by simp; omega) (by simp; have := HO.out.1; omega) (Zj HO.out.2.1 (fun q hq => A3.out.2.block q (Zf HO.out.2.1 hq).2.1)) (by simp; omega) (Nat.le_trans HO.out.2.2.size A3.out.2.size) ⟨xk, xo, xa, (x0, x1, x2)⟩ (.slice a5 n5 c5) rfl ty)
    go_wp2_with (first | (at_builtin; refine ZU (TS := 68) rfl (.tmp 15) (.tmp 21) rfl _ _ rfl rfl _ (PU.out _) ?_; rintro v9 w9 ⟨⟨a9, c9, rfl⟩, o9, g9, b9⟩; have R9 := Za (And.intro o9 (And.intro g9 b9)); clear o9 g9 b9))
    go_roundw
    case rel =>
     refine ⟨k + 1, a9, c9, by omega, by go_num, rfl, Za ⟨vas ++ [.slice a5 n5 c5], by simp [HO.out.1], ?_, ?_⟩⟩
     · have e : (r.gs.map Gr.w).take (k + 1) = (r.gs.map Gr.w).take k ++ [⟨xk, xo, xa, (x0, x1, x2)⟩] := by rw [List.take_add_one, HX.out]; rfl
       rw [e]
       exact R9.out.1
     · exact (Zg HO.out.2.2 A3.out.2).grown R9.out.2.1 (Nat.le_trans HO.out.2.2.size A3.out.2.size) (fun q hq => (Zf HO.out.2.1 hq).1)
    case measure => simp [intOf]; omega
  · have ek : k = n := by omega
    subst ek
    have hl : (r.gs.map Gr.w).length = k := by rw [List.length_map]; exact HN.out.symm
    have HO : Hid (vas.length = k /\ wr.ownsRow w.heap.size 67 7 (.slice a k c) k (YL (r.gs.map Gr.w) vas) /\ Below w.heap.size w wr) := Za ⟨hv, by rw [List.take_of_length_le (by omega)] at ho; exact ho, hb⟩
    have HL := Za hl
    clear hv ho hb hl HI
    go_wp2_with fail
    go_ret
    exact ⟨a, c, vas, by rw [HL.out]; rfl, by rw [HL.out]; exact HO.out.1, by rw [HL.out]; exact HO.out.2.1, HO.out.2.2⟩
def evB (a b : Evt) : Bool := a.g == b.g && (a.k == b.k && (a.o == b.o && a.a == b.a))
def evsB : List Evt -> List Evt -> Bool
 | [], [] => true
 | a :: l, b :: m => evB a b && evsB l m
 | _, _ => false
theorem evB_eq {a b : Evt} (h : evB a b = true) : a = b := by
 obtain ⟨a1, a2, a3, a4⟩ := a
 obtain ⟨b1, b2, b3, b4⟩ := b
 simp [evB] at h
 obtain ⟨rfl, rfl, rfl, rfl⟩ := h
 rfl
theorem evB_self (a : Evt) : evB a a = true := by simp [evB]
theorem evsB_iff : ∀ (l m : List Evt), evsB l m = true ↔ l = m
 | [], [] => by simp [evsB]
 | [], b :: m => by simp [evsB]
 | a :: l, [] => by simp [evsB]
 | a :: l, b :: m => by
  simp only [evsB, Bool.and_eq_true, evsB_iff l m, List.cons.injEq]
  exact ⟨fun h => ⟨evB_eq h.1, h.2⟩, fun h => ⟨by rw [h.1]; exact evB_self b, h.2⟩⟩
theorem evsB_len {l m : List Evt} (h : l.length ≠ m.length) : evsB l m = false := by
 cases hh : evsB l m with
 | false => rfl
 | true => exact absurd (congrArg List.length ((evsB_iff l m).1 hh)) h
theorem evsB_no {l m : List Evt} {i : Nat} {x y : Evt} (hx : l[i]? = some x) (hy : m[i]? = some y) (h : evB x y = false) : evsB l m = false := by
 cases hh : evsB l m with
 | false => rfl
 | true =>
  have e := (evsB_iff l m).1 hh
  subst e
  rw [hx] at hy
  cases hy
  rw [evB_self] at h
  cases h
theorem evsB_yes {l m : List Evt} (hl : l.length = m.length) (h : ∀ (i : Nat) (x y : Evt), l[i]? = some x -> m[i]? = some y -> evB x y = true) : evsB l m = true := by
 rw [evsB_iff]
 apply List.ext_getElem? 
 intro i
 by_cases hi : i < l.length
 · have hx := List.getElem?_eq_getElem hi
   have hy : m[i]? = some m[i] := List.getElem?_eq_getElem (by omega)
   rw [hx, hy, evB_eq (h i _ _ hx hy)]
 · rw [List.getElem?_eq_none (by omega), List.getElem?_eq_none (by omega)]
theorem SameEvents_any {w : World} {va vb : Value} {l m : List Evt} (ha : EvS w va l) (hb : EvS w vb m) : Calls Tryz.prog 24 #[va, vb] w (Vb w (.bool (evsB l m))) := by
  obtain ⟨aa, ca, rfl, a1, a2, a3⟩ := ha
  obtain ⟨ab, cb, rfl, b1, b2, b3⟩ := hb
  unfold maxLen at a2 b2
  obtain ⟨r, hr⟩ : ∃ r, evsB l m = r := ⟨_, rfl⟩
  rw [hr]
  have HR := Za hr
  have NE := neq_ev
  by_cases hlen : l.length = m.length
  · obtain ⟨n, hn⟩ : ∃ n, n = l.length := ⟨_, rfl⟩
    have HA := Za a3
    have HB := Za b3
    have HL := Za (And.intro hn hlen)
    rw [← hlen]
    rw [← hn] at a1 ⊢
    have hn' : n <= 9223372036854775807 := by omega
    clear a3 b3 hlen hn hr b1
    go_enter Tryz.func24, Tryz.ntmps24
    go_wp2_with fail
    go_loopw [5, 13] (fun x5 i wr => ∃ k : Nat, k <= n /\ i = I_ k /\ Hid ((∀ (j : Nat) (x y : Evt), j < k -> l[j]? = some x -> m[j]? = some y -> evB x y = true) /\ ∃ d, wr = w.drewN d)) (fun x5 i _ => n - (intOf i).toNat)
    case atStart => exact ⟨0, Nat.zero_le _, rfl, Za ⟨fun j x y hj => absurd hj (Nat.not_lt_zero _), 0, rfl⟩⟩
    case round =>
      obtain ⟨k, hk, rfl, HI⟩ := hrel
      obtain ⟨hall, d, ed⟩ := HI.out
      by_cases hlt : k < n
      · have hlt' : (k : Int) < (n : Int) := by omega
        have hkl : k < l.length := by have := HL.out.1; omega
        obtain ⟨x, hx⟩ : ∃ x, l[k]? = some x := ⟨_, List.getElem?_eq_getElem hkl⟩
        obtain ⟨y, hy⟩ : ∃ y, m[k]? = some y := ⟨_, List.getElem?_eq_getElem (by have := HL.out.2; omega)⟩
        obtain ⟨ba, oa, rfl, _, p0, p1, p2, p3⟩ := HA.out k x hx
        obtain ⟨bb, ob, rfl, _, q0, q1, q2, q3⟩ := HB.out k y hy
        have p0' : wr.cell? ⟨ba, oa + k * 4, none⟩ = some (I_ x.g) := by rw [ed]; exact p0
        have p1' : wr.cell? ⟨ba, oa + k * 4 + 1, none⟩ = some (I_ x.k) := by rw [ed]; exact p1
        have p2' : wr.cell? ⟨ba, oa + k * 4 + 2, none⟩ = some (I_ x.o) := by rw [ed]; exact p2
        have p3' : wr.cell? ⟨ba, oa + k * 4 + 3, none⟩ = some (I_ x.a) := by rw [ed]; exact p3
        have q0' : wr.cell? ⟨bb, ob + k * 4, none⟩ = some (I_ y.g) := by rw [ed]; exact q0
        have q1' : wr.cell? ⟨bb, ob + k * 4 + 1, none⟩ = some (I_ y.k) := by rw [ed]; exact q1
        have q2' : wr.cell? ⟨bb, ob + k * 4 + 2, none⟩ = some (I_ y.o) := by rw [ed]; exact q2
        have q3' : wr.cell? ⟨bb, ob + k * 4 + 3, none⟩ = some (I_ y.a) := by rw [ed]; exact q3
        have ED := Za ed
        have no := Za (fun h => evsB_no hx hy h)
        have hstep : Hid (evB x y = true -> ∀ (j : Nat) (x' y' : Evt), j < k + 1 -> l[j]? = some x' -> m[j]? = some y' -> evB x' y' = true) := Za (fun e j x' y' hj hx' hy' => by
          by_cases ej : j = k
          · subst ej
            rw [hx] at hx'
            rw [hy] at hy'
            cases hx'
            cases hy'
            exact e
          · exact hall j x' y' (by omega) hx' hy')
        clear hall hx hy p0 p1 p2 p3 q0 q1 q2 q3 ed HI HA HB
        obtain ⟨x1, x2, x3, x4⟩ := x
        obtain ⟨y1, y2, y3, y4⟩ := y
        simp only at p0' p1' p2' p3' q0' q1' q2' q3'
        obtain ⟨z, hz⟩ : ∃ z, evB ⟨x1, x2, x3, x4⟩ ⟨y1, y2, y3, y4⟩ = z := ⟨_, rfl⟩
        have NE2 : ∀ w, (binOp .neq 132 (.agg #[I_ x1, I_ x2, I_ x3, I_ x4]) (.agg #[I_ y1, I_ y2, I_ y3, I_ y4])).run Tryz.prog w = .ok (.bool (!z)) w := fun w => by
          rw [← hz]
          exact NE w _ _ _ _ _ _ _ _
        rw [hz] at no hstep
        clear hz NE
        go_wp2_with fail
        cases z with
        | false =>
          have hf := Za (no.out rfl)
          go_quiet (fail)
          go_wp2_with fail
          go_ret
          refine Vb.mk (by rw [← HR.out, hf.out]; rfl) ?_
          rw [ED.out]
          simp only [World.drewN_drewN]
          exact below_drewN (Below.refl _ _) _
        | true =>
          have hs2 := Za (hstep.out rfl)
          go_quiet (fail)
          go_wp2_with fail
          go_roundw
          case rel => exact ⟨k + 1, by omega, by go_num, Za ⟨hs2.out, _, by rw [ED.out]; simp only [World.drewN_drewN]; rfl⟩⟩
          case measure => simp [intOf]; omega
      · have ek : k = n := by omega
        subst ek
        have hy := Za (evsB_yes HL.out.2 (fun i x y hx hy => hall i x y (by rw [HL.out.1]; exact (G_ hx)) hx hy))
        have ED := Za ed
        clear hall ed HI
        go_wp2_with fail
        go_ret
        refine Vb.mk (by rw [← HR.out, hy.out]; rfl) ?_
        rw [ED.out]
        exact below_drewN (Below.refl _ _) _
  · have hf : r = false := by rw [← hr]; exact evsB_len hlen
    subst hf
    have hlb : ((l.length : Int) == (m.length : Int)) = false := by simp; omega
    generalize l.length = n at *
    generalize m.length = n2 at *
    clear a3 b3 hr
    go_enter Tryz.func24, Tryz.ntmps24
    go_wp2_with fail
    go_ret
    exact Vb.mk rfl (Below.refl _ _)
theorem Sl.of_own {w : World} {B : Nat} {v : Value} {l : List Int} (h : w.ownsRow B 3 1 v l.length (nts l)) (hf : Fits l) : Sl w v l := by
 obtain ⟨a, c, rfl, h1, h2⟩ := Zl h
 refine ⟨hf, a, c, rfl, h1, h2, fun i hi => ?_⟩
 obtain ⟨b, c', eb, _⟩ := Zq h (by omega)
 cases eb
 refine ⟨b, 0, rfl, (Zf h (k := b) rfl).2.1, ?_⟩
 rw [Nat.zero_add]
 have hx : l[i]? = some (l.getD i 0) := by
  rw [List.getD_eq_getElem?_getD, List.getElem?_eq_getElem hi]
  rfl
 exact (Zk h _ _ (nts_at hx)).1
theorem runZ_eq {r : Rm} (hs : Ys r = r.e) : runZ r.z r.gs.length = Ye r := by
 unfold runZ Ye runs
 rw [hs]
 by_cases h0 : r.e.o = 0
 · have h1 : (r.e.o == 0) = true := by simp [h0]
   rw [if_pos h1]
   congr 2
   funext i
   unfold canAt can
   rw [z_ws, lk_nat]
   cases r.gs[i]? with
   | none => rfl
   | some x =>
    have h2 : r.z.e.o = 0 := h0
    simp only [Option.map_some]
    rw [decide_eq_true h2, Bool.true_and]
    exact canZ_eq r x.w
 · have h1 : ¬ (r.e.o == 0) = true := by simp [h0]
   rw [if_neg h1]
   have h2 : ∀ i : Nat, canAt r.z i = false := fun i => by
    unfold canAt
    cases r.z.ws[i]? with
    | none => rfl
    | some x =>
     have h3 : ¬ r.z.e.o = 0 := h0
     simp [h3]
   simp [h2]
theorem runn_fits (r : Rm) (h : r.gs.length <= 1000) : Fits (Ye r) := fun z hz => by
 obtain ⟨i, rfl, hc, _⟩ := runn_mem hz
 unfold can at hc
 rw [lk_nat] at hc
 have hi : i < r.gs.length := by
  rcases Nat.lt_or_ge i r.gs.length with h1 | h1
  · exact h1
  · rw [List.getElem?_eq_none h1] at hc
    cases hc
 omega
def Yv (L l : List Int) (at_ : Nat) : Int × Nat :=
 if 1 < L.length /\ 0 < l.length then (L.getD ((max (l.getD (at_ % l.length) 0) 0).toNat % L.length) 0, at_ + 1) else (L.getD 0 0, at_)
theorem rChoose_any {w : World} {g ba n : Nat} {L l : List Int} {aP : Option Addr} {cP : Nat} (hr : Calls Tryz.prog 27 #[P_ g] w (RunnP w L)) (h0 : 0 < L.length) (h8 : L.length <= 8) (hp : Sl w (.slice aP l.length cP) l) (hl : l.length <= 100000000) (ha : w.heap[ba]? = some (.cells #[I_ (n : Nat)] 3 (0, 0))) (hn : n <= 100000000) :
    Calls Tryz.prog 46 #[P_ g, .slice aP l.length cP, P_ ba] w fun e w' => e = .returned (I_ (Yv L l n).1) /\ w'.heap[ba]? = some (.cells #[I_ ((Yv L l n).2 : Nat)] 3 (0, 0)) /\ Ch (fun k => k = ba) (fun k => k = ba) w w' := by
  obtain ⟨m, hm⟩ : ∃ m, m = L.length := ⟨_, rfl⟩
  obtain ⟨kl, hkl⟩ : ∃ kl, kl = l.length := ⟨_, rfl⟩
  have hba := Ze ha
  have RU : Hid (Calls Tryz.prog 27 #[P_ g] w fun e w' => ∃ b c, e = .returned (.slice (some ⟨b, 0, none⟩) m c) /\ w.heap.size <= b /\ (∀ i, i < m -> w'.cell? ⟨b, i, none⟩ = some (I_ (L.getD i 0))) /\ Below w.heap.size w w') := Za (hr.mono fun e w' ⟨a, c, he, ho, hb⟩ => by
    obtain ⟨b, c', eb, _⟩ := Zq ho h0
    cases eb
    exact ⟨b, c, by rw [he, hm], (Zf ho (k := b) rfl).1, fun i hi => (Zk ho i _ (nts_at (getD_at (by omega)))).1, hb⟩)
  have PA := Za (fun i hi => hp.at i hi)
  have HA := Za ha
  rw [← hkl] at PA ⊢
  by_cases hc : 1 < m /\ 0 < kl
  · obtain ⟨hc1, hc2⟩ := hc
    obtain ⟨j, hj⟩ : ∃ j, j = n % kl := ⟨_, rfl⟩
    have hjk : j < kl := by rw [hj]; exact Nat.mod_lt _ hc2
    have hjm : ((n : Nat) : Int).tmod (kl : Int) = (j : Int) := by
      rw [Int.tmod_eq_emod_of_nonneg (by omega), hj]
      simp
    obtain ⟨y, hy⟩ : ∃ y, y = l.getD j 0 := ⟨_, rfl⟩
    obtain ⟨q, hq⟩ : ∃ q, q = (max y 0).toNat % m := ⟨_, rfl⟩
    have hqm : q < m := by rw [hq]; exact Nat.mod_lt _ (by omega)
    have hqi : (q : Int) < (m : Int) := by omega
    have hmx : (max y 0).tmod (m : Int) = (q : Int) := by
      rw [Int.tmod_eq_emod_of_nonneg (by omega), hq]
      have e : max y 0 = (((max y 0).toNat : Nat) : Int) := by omega
      rw [e]
      simp
    have CD : Hid (Yv L l n = (L.getD q 0, n + 1)) := Za (by
      unfold Yv
      rw [if_pos (by omega), ← hkl, ← hj, ← hy, ← hm, ← hq])
    obtain ⟨b2, off, rfl, hb2, p0⟩ := PA.out j hjk
    rw [← hy] at p0
    rw [CD.out]
    have P0 := Za (And.intro hb2 p0)
    have hmb : ((m : Int) == 0) = false := by simp; omega
    have hkb : ((kl : Int) == 0) = false := by simp; omega
    have hm1 : (1 : Int) < (m : Int) := by omega
    have hk1 : (0 : Int) < (kl : Int) := by omega
    have hj1 : (j : Int) < (kl : Int) := by omega
    have hjn : n % kl = j := hj.symm
    have hjz : ((n : Nat) : Int) % (kl : Int) = (j : Int) := by rw [hj]; simp
    clear hr hp ha PA hy hq hj p0 hb2 CD hm hkl h0 h8 hl
    go_enter Tryz.func46, Tryz.ntmps46
    go_wp2_with fail
    refine RU.out.mono ?_
    rintro e w1 ⟨b, c, rfl, hbb, hcs, hb1⟩
    have A1 := Za ((hb1.block ba hba).trans HA.out)
    have x0 := Zb A1.out 0 _ rfl
    have x1 := Zc A1.out 0
    have x2 := (hb1.cell (p := ⟨b2, off + j, none⟩) P0.out.1).trans P0.out.2
    have CS := Za hcs
    have HB1 := Za hb1
    clear hcs hb1 RU
    by_cases hy0 : y < 0
    · have e0 : max y 0 = 0 := by omega
      obtain rfl : q = 0 := by
        rw [e0] at hmx
        simp at hmx
        omega
      clear hmx e0
      have hw : (w1.setCell ⟨ba, 0, none⟩ (I_ ((n : Int) + 1))).cell? ⟨b, 0, none⟩ = some (I_ (L.getD 0 0)) := (World.cell?_of_block (a := ⟨b, 0, none⟩) (Below.heap_setCell _ _ _ _ (show b ≠ ba by omega))).trans (CS.out 0 hqm)
      go_wp2_with fail
      go_ret
      exact ⟨rfl, by rw [show (((n + 1 : Nat)) : Int) = (n : Int) + 1 by omega]; exact heap_setCell_same _ _ _ _ _ _ A1.out, (Ch.of_bel HB1.out).trans (ZJ (F := fun k => k = ba) rfl _)⟩
    · have e0 : max y 0 = y := by omega
      rw [e0] at hmx
      clear e0
      have hw : (w1.setCell ⟨ba, 0, none⟩ (I_ ((n : Int) + 1))).cell? ⟨b, q, none⟩ = some (I_ (L.getD q 0)) := (World.cell?_of_block (a := ⟨b, q, none⟩) (Below.heap_setCell _ _ _ _ (show b ≠ ba by omega))).trans (CS.out q hqm)
      go_wp2_with fail
      go_ret
      exact ⟨rfl, by rw [show (((n + 1 : Nat)) : Int) = (n : Int) + 1 by omega]; exact heap_setCell_same _ _ _ _ _ _ A1.out, (Ch.of_bel HB1.out).trans (ZJ (F := fun k => k = ba) rfl _)⟩
  · have CD : Hid (Yv L l n = (L.getD 0 0, n)) := Za (by
      unfold Yv
      rw [if_neg (by omega)])
    have hm0 : 0 < m := by omega
    have hm1 : (0 : Int) < (m : Int) := by omega
    rw [CD.out]
    have HAn := HA
    by_cases hc1 : 1 < m
    · have hm2 : (1 : Int) < (m : Int) := by omega
      obtain rfl : kl = 0 := by omega
      clear hr hp ha PA CD hm hkl h0 h8 hl HA hc
      go_enter Tryz.func46, Tryz.ntmps46
      go_wp2_with fail
      refine RU.out.mono ?_
      rintro e w1 ⟨b, c, rfl, hbb, hcs, hb1⟩
      have x2 := hcs 0 hm0
      have A1 := Za ((hb1.block ba hba).trans HAn.out)
      have HB1 := Za hb1
      clear hcs hb1 RU
      go_wp2_with fail
      go_ret
      exact ⟨rfl, A1.out, Ch.of_bel HB1.out⟩
    · have hm2 : ¬ (1 : Int) < (m : Int) := by omega
      clear hr hp ha PA CD hm hkl h0 h8 hl HA hc
      go_enter Tryz.func46, Tryz.ntmps46
      go_wp2_with fail
      refine RU.out.mono ?_
      rintro e w1 ⟨b, c, rfl, hbb, hcs, hb1⟩
      have x2 := hcs 0 hm0
      have A1 := Za ((hb1.block ba hba).trans HAn.out)
      have HB1 := Za hb1
      clear hcs hb1 RU
      go_wp2_with fail
      go_ret
      exact ⟨rfl, A1.out, Ch.of_bel HB1.out⟩
theorem info_rw : (Tryz.prog.info? 76).map (fun i => (i.zero, i.size, i.bytes)) = some (some (.agg #[I_ 0, I_ 0, I_ 0, I_ 0, I_ 0, .int .u64 0]), 6, 48) := by kernel_rfl
theorem info_rsw : (Tryz.prog.info? 39).map (fun i => (i.zero, i.size, i.bytes)) = some (some (.slice none 0 0), 1, 24) := by kernel_rfl
theorem pushR {w : World} {T TS : TypeId} {sz bytes : Nat} {z v : Value} {n gx : Nat} {xs ys : List Value} (hu : Tryz.prog.underlying TS = some (.slice T)) (hinfo : (Tryz.prog.info? T).map (fun i => (i.zero, i.size, i.bytes)) = some (some z, sz, bytes)) (hz : z.cells.size = sz) (hsz : 0 < sz) (hby : bytes <= 100)
    (ho : w.ownsRow 0 T sz v n xs) (hn : n <= 2000) (hl : ys.length = 1 * sz) (hy : ∀ (j : Nat) (u : Value), ys[j]? = some u -> w.cell? ⟨gx, j, none⟩ = some u) (h1 : ∀ u ∈ ys, u.oneCell' = true) (ty : TypeId) :
    ∃ v' w', (Builtin.append_ #[TS, TS] ty #[v, .slice (some ⟨gx, 0, none⟩) 1 1]).run Tryz.prog w = .ok v' w' /\ ((∃ a c, v' = .slice a (n + 1) c) /\ w'.ownsRow 0 T sz v' (n + 1) (xs ++ ys) /\ w.grownBy w' v.ownBlock /\ (∀ k, v'.ownBlock = some k -> v.ownBlock = some k ∨ w.heap.size <= k)) := by
  obtain ⟨i, hi, hz0, hz1, hz2⟩ := info_parts hinfo
  obtain ⟨v', w', hr, ho', hg, _, hat⟩ := run_append_own_at (P := Tryz.prog) w 0 TS ty T i z sz bytes hu hi hz0 hz1 hz2 hz hsz v n xs ho ⟨gx, 0, none⟩ 1 1 ys hl (fun j u hu => by
    rw [show (⟨gx, 0, none⟩ : Addr).add j = ⟨gx, j, none⟩ by unfold Addr.add; by_cases h : j = 0 <;> simp [h]]
    exact hy j u hu) h1 (by unfold maxLen; omega) (by have : (n + 1) * bytes <= 2001 * 100 := Nat.mul_le_mul (by omega) hby; omega) (Nat.zero_le _)
  obtain ⟨a9, c9, e9, _⟩ := Zl ho'
  refine ⟨v', w', hr, ⟨_, _, e9⟩, ho', hg, fun k hk => ?_⟩
  rcases hat with e | e
  · exact .inl (e.symm.trans hk)
  · rw [e] at hk
    right
    have := Option.some.inj hk
    omega
structure Cq (w0 wr : World) (S : List (List Wt)) (i : Nat) (va : Value) (vs : List Value) : Prop where
 al : wr.ownsRow 0 39 1 va i vs
 row : ∀ (m : Nat) (l : List Wt) (v : Value), S[m]? = some l -> vs[m]? = some v -> wr.ownsRow 0 76 6 v l.length (w6s l)
 lo : ∀ k, va.ownBlock = some k -> w0.heap.size <= k
 lr : ∀ v ∈ vs, ∀ k, v.ownBlock = some k -> w0.heap.size <= k /\ k < wr.heap.size
 bel : Below w0.heap.size w0 wr
structure Ci (w0 wr : World) (l : List Wt) (j : Nat) (vx : Value) (vs : List Value) : Prop where
 own : wr.ownsRow 0 76 6 vx j (w6s (l.take j))
 lo : ∀ k, vx.ownBlock = some k -> w0.heap.size <= k
 ap : ∀ v ∈ vs, ∀ k, v.ownBlock = some k -> vx.ownBlock ≠ some k
section
variable {w0 wr wy : World} {S : List (List Wt)} {i j : Nat} {va vx v' : Value} {vs : List Value} {l : List Wt}
theorem Cq.low (h : Cq w0 wr S i va vs) (hb : Below wr.heap.size wr wy) : Cq w0 wy S i va vs where
 al := Zj h.al fun k hk => hb.block k (Zf h.al hk).2.1
 row := fun m l v hl hv => Zj (h.row m l v hl hv) fun k hk => hb.block k (Zf (h.row m l v hl hv) hk).2.1
 lo := h.lo
 lr := fun v hv k hk => ⟨(h.lr v hv k hk).1, Nat.lt_of_lt_of_le (h.lr v hv k hk).2 hb.size⟩
 bel := Zg h.bel hb
theorem Ci.low (h : Ci w0 wr l j vx vs) (hb : Below wr.heap.size wr wy) : Ci w0 wy l j vx vs := { h with own := Zj h.own fun k hk => hb.block k (Zf h.own hk).2.1 }
theorem Cq.start (w0 : World) : Cq w0 (w0.alloc (.cells #[] 39)) S 0 (.slice (some ⟨w0.heap.size, 0, none⟩) 0 0) [] where
 al := ⟨rfl, .inr ⟨w0.heap.size, 0, _, rfl, Nat.zero_le _, B_ _ _, Nat.le_refl _, by unfold maxLen; omega, rfl, rfl⟩⟩
 row := fun m l v _ hv => by simp at hv
 lo := fun k hk => by cases hk; exact Nat.le_refl _
 lr := fun v hv => by cases hv
 bel := Zd _ _
theorem Ci.start (h : Cq w0 wr S i va vs) : Ci w0 (wr.alloc (.cells #[] 76)) l 0 (.slice (some ⟨wr.heap.size, 0, none⟩) 0 0) vs where
 own := ⟨rfl, .inr ⟨wr.heap.size, 0, _, rfl, Nat.zero_le _, B_ _ _, Nat.le_refl _, by unfold maxLen; omega, rfl, rfl⟩⟩
 lo := fun k hk => by cases hk; exact h.bel.size
 ap := fun v hv k hk e => by
  have e2 : wr.heap.size = k := Option.some.inj e
  have := (h.lr v hv k hk).2
  omega
theorem Cq.step (h : Cq w0 wr S i va vs) (c : Ci w0 wr l j vx vs) {x : Wt} (hx : l[j]? = some x) (ho : wy.ownsRow 0 76 6 v' (j + 1) (w6s (l.take j) ++ w6s [x])) (hg : wr.grownBy wy vx.ownBlock) (hb : ∀ k, v'.ownBlock = some k -> vx.ownBlock = some k ∨ wr.heap.size <= k) : Cq w0 wy S i va vs /\ Ci w0 wy l (j + 1) v' vs := by
 refine ⟨{ al := Zj h.al fun k hk => hg.block k (Zf h.al hk).2.1 (fun e => Zo h.al c.own (by decide) k hk e.symm), row := fun m l v hl hv => Zj (h.row m l v hl hv) fun k hk => hg.block k (Zf (h.row m l v hl hv) hk).2.1 (fun e => c.ap v (List.mem_of_getElem? hv) k hk e.symm), lo := h.lo, lr := fun v hv k hk => ⟨(h.lr v hv k hk).1, Nat.lt_of_lt_of_le (h.lr v hv k hk).2 hg.size⟩, bel := h.bel.grown hg h.bel.size (fun k hk => c.lo k hk) }, { own := ?_, lo := fun k hk => ?_, ap := fun v hv k hk e => ?_ }⟩
 · rw [List.take_add_one, hx, w6s_app]
   exact ho
 · rcases hb k hk with h1 | h1
   · exact c.lo k h1
   · have := h.bel.size
     omega
 · rcases hb k e with h1 | h1
   · exact c.ap v hv k hk h1
   · have := (h.lr v hv k hk).2
     omega
theorem Cq.push (h : Cq w0 wr S i va vs) (c : Ci w0 wr l j vx vs) (hl : S[i]? = some l) (hj : j = l.length) (ho : wy.ownsRow 0 39 1 v' (i + 1) (vs ++ [vx])) (hg : wr.grownBy wy va.ownBlock) (hb : ∀ k, v'.ownBlock = some k -> va.ownBlock = some k ∨ wr.heap.size <= k) : Cq w0 wy S (i + 1) v' (vs ++ [vx]) := by
 have hvl : vs.length = i := by have := h.al.1; omega
 have co := c.own
 rw [hj, List.take_length] at co
 refine { al := ho, row := fun m l' v hl' hv => ?_, lo := fun k hk => ?_, lr := fun v hv k hk => ?_, bel := h.bel.grown hg h.bel.size h.lo }
 · by_cases e : m < i
   · rw [List.getElem?_append_left (by omega)] at hv
     exact Zj (h.row m l' v hl' hv) fun k hk => hg.block k (Zf (h.row m l' v hl' hv) hk).2.1 (fun e => Zo h.al (h.row m l' v hl' hv) (by decide) k e.symm hk)
   · have hm : m = i := by
      have := (G_ hv)
      simp at this
      omega
     subst hm
     rw [List.getElem?_append_right (by omega), hvl] at hv
     simp at hv
     rw [hl] at hl'
     cases hl'
     subst hv
     exact Zj co fun k hk => hg.block k (Zf co hk).2.1 (fun e => Zo h.al co (by decide) k e.symm hk)
 · rcases hb k hk with h1 | h1
   · exact h.lo k h1
   · have := h.bel.size
     omega
 · rcases List.mem_append.1 hv with h1 | h1
   · exact ⟨(h.lr v h1 k hk).1, Nat.lt_of_lt_of_le (h.lr v h1 k hk).2 hg.size⟩
   · simp at h1
     subst h1
     exact ⟨c.lo k hk, Nat.lt_of_lt_of_le (Zf co hk).2.1 hg.size⟩
end
def Yb (va : Value) (vs : List Value) (k : Nat) : Prop := va.ownBlock = some k ∨ ∃ v ∈ vs, v.ownBlock = some k
structure Mt (w w3 W : World) (bx : Nat) (ob : Obj) (X F2 T : Nat -> Prop) (gm : Nat) (s : St) (S : List (List Wt)) (va : Value) (vs : List Value) : Prop where
 bo : W.heap[bx]? = some ob
 xb : ¬ X bx
 xl : ∀ k, X k -> w.heap.size <= k
 xs : ∀ k, X k -> k < W.heap.size
 rt : Rt W F2 (fun _ => False) 0 gm s
 al : W.ownsRow 0 39 1 va S.length vs
 row : ∀ (m : Nat) (l : List Wt) (v : Value), S[m]? = some l -> vs[m]? = some v -> W.ownsRow 0 76 6 v l.length (w6s l)
 f2 : ∀ k, F2 k -> w.heap.size <= k /\ k < w3.heap.size
 yl : ∀ k, Yb va vs k -> w3.heap.size <= k /\ k < W.heap.size
 tl : ∀ k, T k -> w3.heap.size <= k /\ k < W.heap.size
 ap : ∀ k, X k -> ¬ F2 k /\ ¬ Yb va vs k /\ ¬ T k
 s3 : w.heap.size <= w3.heap.size
 bel : Below w.heap.size w W
section
variable {w w3 W W' : World} {bx : Nat} {ob : Obj} {X X' F2 T : Nat → Prop} {gm : Nat} {s : St} {S : List (List Wt)} {va : Value} {vs : List Value}
theorem Mt.ch (h : Mt w w3 W bx ob X F2 T gm s S va vs) (c : Ch X X' W W') (hx : ∀ k, X' k -> k < W'.heap.size) : Mt w w3 W' bx ob X' F2 T gm s S va vs where
  bo := (c.blk bx (Ze h.bo) h.xb).trans h.bo
  xb := fun e => by
    rcases c.grow bx e with h1 | h1
    · exact h.xb h1
    · have := Ze h.bo
      omega
  xl := fun k hk => by
    rcases c.grow k hk with h1 | h1
    · exact h.xl k h1
    · have := h.bel.size
      omega
  xs := hx
  rt := h.rt.keep (fun k hk => by
    rcases hk with hk | hk
    · exact c.blk k (h.rt.fb k hk) (fun e => (h.ap k e).1 hk)
    · exact hk.elim) c.size
  al := Zj h.al fun k hk => c.blk k (Zf h.al hk).2.1 (fun e => (h.ap k e).2.1 (.inl hk))
  row := fun m l v hl hv => Zj (h.row m l v hl hv) fun k hk => c.blk k (Zf (h.row m l v hl hv) hk).2.1 (fun e => (h.ap k e).2.1 (.inr ⟨v, List.mem_of_getElem? hv, hk⟩))
  f2 := h.f2
  yl := fun k hk => ⟨(h.yl k hk).1, Nat.lt_of_lt_of_le (h.yl k hk).2 c.size⟩
  tl := fun k hk => ⟨(h.tl k hk).1, Nat.lt_of_lt_of_le (h.tl k hk).2 c.size⟩
  ap := fun k hk => by
    rcases c.grow k hk with h1 | h1
    · exact h.ap k h1
    · exact ⟨fun e => by have := h.rt.fb k e; omega, fun e => by have := (h.yl k e).2; omega, fun e => by have := (h.tl k e).2; omega⟩
  s3 := h.s3
  bel := h.bel.trans (c.bel h.xl h.bel.size)
theorem Mt.low (h : Mt w w3 W bx ob X F2 T gm s S va vs) (hb : Below W.heap.size W W') : Mt w w3 W' bx ob X F2 T gm s S va vs := h.ch (Ch.of_bel hb) (fun k hk => Nat.lt_of_lt_of_le (h.xs k hk) hb.size)
theorem Mt.more (h : Mt w w3 W bx ob X F2 T gm s S va vs) {R : Nat -> Prop} (hb : Below W.heap.size W W') (hR : ∀ k, R k -> W.heap.size <= k /\ k < W'.heap.size) : Mt w w3 W' bx ob (fun k => X k ∨ R k) F2 T gm s S va vs :=
 h.ch ((Ch.of_bel (F := X) hb).wide (fun _ h => h) (fun k hk => hk.imp id (fun e => (hR k e).1))) (fun k hk => hk.elim (fun e => Nat.lt_of_lt_of_le (h.xs k e) hb.size) (fun e => (hR k e).2))
theorem Mt.box (h : Mt w w3 W bx ob X F2 (fun _ => False) gm s S va vs) (hw : w3.heap.size <= W.heap.size) (o : Obj) : Mt w w3 (W.alloc o) bx ob X F2 (fun k => k = W.heap.size) gm s S va vs :=
 { h.low (Zd W o) with
  tl := fun k hk => by subst hk; exact ⟨hw, by simp⟩
  ap := fun k hk => ⟨(h.ap k hk).1, (h.ap k hk).2.1, fun e => by have := h.xs k hk; omega⟩ }
theorem Mt.pq (h : Mt w w3 W bx ob X F2 T gm s S va vs) {gt : Nat} (hT : T gt) (hg : W.heap[gt]? = some (.cells #[va, .slice none 0 0, .slice none 0 0] 79 (0, 0))) (sz : S.length <= 2000 /\ ∀ l ∈ S, l.length <= 2000) (hvl : vs.length = S.length) : Pq W F2 (fun _ => False) (Yb va vs) 0 gm gt s S va vs where
 st := h.rt
 tt := hg
 al := h.al
 row := fun i l v hl hv => ⟨h.row i l v hl hv, fun k hk => .inr ⟨v, List.mem_of_getElem? hv, hk⟩⟩
 fL := fun k hk => .inl hk
 ft := ⟨fun e => by have h1 := (h.f2 gt e).2; have h2 := (h.tl gt hT).1; omega, fun e => e, fun e => by
  rcases e with e | ⟨v, hv, e⟩
  · exact Zv h.al hg (by decide) e
  · obtain ⟨i, hi, hvi⟩ := List.getElem_of_mem hv
    have hi2 : i < S.length := by omega
    exact Zv (h.row i S[i] v (List.getElem?_eq_getElem hi2) (by rw [List.getElem?_eq_getElem hi, hvi])) hg (by decide) e⟩
 ro := fun k hk e => by have h1 := (h.yl k hk).1; have h2 := (h.f2 k e).2; omega
 rb := fun k hk => (h.yl k hk).2
 sz := sz
end
end Go.Proofs.YtfojninaginnoaaGreatDoor.Ck
namespace Go.Proofs.YtfojninaginnoaaGreatDoor.Ck
open Go.ChangeShapes Go.WideShapes Go.ChangeAt Go.RowKit
theorem block_lt {W : World} {a : Addr} {v : Value} (hc : W.cell? a = some v) : a.block < W.heap.size := by
 rcases Nat.lt_or_ge a.block W.heap.size with h' | h'
 · exact h'
 · simp [World.cell?, Array.getElem?_eq_none h'] at hc
theorem wf_i64 {z : Int} (h : (Lit.int .i64 z).wf = true) : -9223372036854775808 <= z /\ z <= 9223372036854775807 := by
 have := bounds_i64 h
 omega
theorem add_plain (b off i : Nat) : (Addr.mk b off none).add i = ⟨b, off + i, none⟩ := by
 unfold Addr.add
 by_cases h : i = 0 <;> simp [h]
theorem sl_open {H : Type} {enc : TypeId × Value -> H} {W : World} {a : Option Addr} {len cap : Nat} {d : DataW H} {p : List MemPlace}
 (h : DataW.Trod enc Tryz.prog W 0 (fun _ => true) true 22 (.slice a len cap) d p) : ∃ zs, Sl W (.slice a len cap) zs := by
 obtain ⟨fuel, hf⟩ := h
 rcases open_ints Tryz.underlying22 Tryz.underlying3 (by kernel_rfl) hf with ⟨hcs, _⟩ | ⟨x, l, c, zs, hcs, _, hl, hm, hz, _, hcell, hwz⟩
 · simp [Value.cells] at hcs
   obtain ⟨rfl, rfl, rfl⟩ := hcs
   exact ⟨[], Sl.nilS W⟩
 · simp [Value.cells] at hcs
   obtain ⟨rfl, rfl, rfl⟩ := hcs
   have hz' : zs.length = cap := by simpa using hz
   have hlen : (zs.take len).length = len := by simp; omega
   refine ⟨zs.take len, fun z hm' => wf_i64 (hwz z (List.mem_of_mem_take hm')), some x, cap, by rw [hlen], by omega, hm, fun i hi => ?_⟩
   rw [hlen] at hi
   have hc := hcell i (by omega)
   obtain ⟨b, off, spot⟩ := x
   have hspot : spot = none := by simpa [Addr.add] using World.cell?_spot (hcell 0 (by omega))
   subst hspot
   rw [add_plain] at hc
   refine ⟨b, off, rfl, block_lt hc, ?_⟩
   have e : (zs.take len).getD i 0 = zs.getD i 0 := by simp [List.getD, hi]
   rw [e]
   exact hc
end Go.Proofs.YtfojninaginnoaaGreatDoor.Ck
namespace Go.Proofs.YtfojninaginnoaaGreatDoor.Ck
open Go.ChangeShapes Go.WideShapes Go.ChangeAt Go.RowKit
theorem cells_at {W : World} {ad : Addr} {n : Nat} {cs : List Value} (h : W.cells? 0 ad n = some cs) (i : Nat) (hi : i < n) : W.cell? (ad.add i) = cs[i]? := by
 unfold World.cells? at h
 rw [if_pos (Nat.zero_le _)] at h
 exact mapM_some_get h i i (by rw [List.getElem?_range hi])
theorem cells_len {W : World} {ad : Addr} {n : Nat} {cs : List Value} (h : W.cells? 0 ad n = some cs) : cs.length = n := by
 unfold World.cells? at h
 rw [if_pos (Nat.zero_le _)] at h
 simpa using mapM_some_length h
theorem rows_of {α : Type} (d0 : α) {H : Type} {enc : TypeId × Value -> H} {W : World} {TS T : TypeId} {n fuel : Nat} {v : Value} {x : DataW H × List MemPlace} (hu : Tryz.prog.underlying TS = some (.slice T)) (hc : Tryz.prog.cellsOf T = n) (hn : 0 < n) (Q : α -> List Value -> Prop)
 (hP : ∀ (f : Nat) (cs : List Value) (y : DataW H × List MemPlace), f < fuel -> DataW.trod enc Tryz.prog W 0 (fun _ => true) true f T cs = some y -> ∃ x, Q x cs) (h : DataW.trod enc Tryz.prog W 0 (fun _ => true) true fuel TS [v] = some x) :
 ∃ (a : Option Addr) (cap : Nat) (l : List α), v = .slice a l.length cap /\ l.length <= cap /\ cap <= maxLen /\ ∀ (i : Nat) (y : α), l[i]? = some y -> ∃ (b o : Nat) (cs : List Value), a = some ⟨b, o, none⟩ /\ b < W.heap.size /\ Q y cs /\ cs.length = n /\ ∀ (j : Nat) (u : Value), cs[j]? = some u -> W.cell? ⟨b, o + i * n + j, none⟩ = some u := by
 rcases DataW.trod_slice hu h with ⟨e, _⟩ | ⟨a, len, cap, elems, rest, m, hm, e, _, _, hl1, hl2, hl3, hel, _⟩
 · simp at e
   subst e
   exact ⟨none, 0, [], rfl, Nat.le_refl _, Nat.zero_le _, fun i y hy => by simp at hy⟩
 · simp at e
   subst e
   have key : ∀ i, i < len -> ∃ (y : α) (b o : Nat) (cs : List Value), some a = some ⟨b, o, none⟩ /\ b < W.heap.size /\ Q y cs /\ cs.length = n /\ ∀ (j : Nat) (u : Value), cs[j]? = some u -> W.cell? ⟨b, o + i * n + j, none⟩ = some u := fun i hi => by
    have h9 := hel i hi
    rw [List.getElem?_eq_getElem (show i < elems.length by omega), hc] at h9
    cases hcs : W.cells? 0 (a.add (i * n)) n with
    | none => rw [hcs] at h9; cases h9
    | some cs =>
     rw [hcs] at h9
     obtain ⟨y, hy⟩ := hP m cs _ (by omega) h9
     have hlen := cells_len hcs
     have hcell : ∀ k, k < n -> W.cell? (a.add (i * n + k)) = cs[k]? := fun k hk => by
      rw [← cells_at hcs k hk, Go.Deep.add_add]
     obtain ⟨c0, hc0⟩ : ∃ c, cs[0]? = some c := ⟨_, List.getElem?_eq_getElem (by omega)⟩
     obtain ⟨b, off, spot⟩ := a
     have hspot : spot = none := by
      have h8 := hel 0 (by omega)
      rw [List.getElem?_eq_getElem (show 0 < elems.length by omega), hc] at h8
      cases hz : W.cells? 0 ((Addr.mk b off spot).add (0 * n)) n with
      | none => rw [hz] at h8; cases h8
      | some zs =>
       have h7 := cells_at hz 0 hn
       rw [List.getElem?_eq_getElem (show 0 < zs.length by rw [cells_len hz]; exact hn)] at h7
       simpa [Addr.add] using World.cell?_spot h7
     subst hspot
     have h0 := (hcell 0 hn).trans hc0
     rw [add_plain] at h0
     refine ⟨y, b, off, cs, rfl, block_lt h0, hy, hlen, fun j u hu => ?_⟩
     have hj := (G_ hu)
     have := (hcell j (by omega)).trans hu
     rw [add_plain] at this
     rw [Nat.add_assoc]
     exact this
   have hch : ∃ fn : Nat -> α, ∀ i, i < len -> ∃ (b o : Nat) (cs : List Value), some a = some ⟨b, o, none⟩ /\ b < W.heap.size /\ Q (fn i) cs /\ cs.length = n /\ ∀ (j : Nat) (u : Value), cs[j]? = some u -> W.cell? ⟨b, o + i * n + j, none⟩ = some u :=
    ⟨fun i => if h : i < len then Classical.choose (key i h) else d0, fun i hi => by dsimp only; rw [dif_pos hi]; exact Classical.choose_spec (key i hi)⟩
   obtain ⟨fn, hfn⟩ := hch
   refine ⟨some a, cap, (List.range len).map fn, by simp, by simpa using hl1, hl2, fun i y hy => ?_⟩
   obtain ⟨hj1, hj2⟩ := List.getElem?_eq_some_iff.1 hy
   simp at hj1 hj2
   rw [← hj2]
   exact hfn i hj1
theorem sl_of {H : Type} {enc : TypeId × Value -> H} {W : World} {fuel : Nat} {v : Value} {x : DataW H × List MemPlace} (h : DataW.trod enc Tryz.prog W 0 (fun _ => true) true fuel 22 [v] = some x) : ∃ zs, Sl W v zs := by
 rcases DataW.trod_slice Tryz.underlying22 h with ⟨e, _⟩ | ⟨a, len, cap, elems, rest, m, hm, e, _⟩
 · simp at e
   subst e
   exact ⟨[], Sl.nilS W⟩
 · simp at e
   subst e
   exact sl_open (d := x.1) (p := x.2) ⟨fuel, h⟩
end Go.Proofs.YtfojninaginnoaaGreatDoor.Ck
namespace Go.Proofs.YtfojninaginnoaaGreatDoor.Ck
open Go.ChangeShapes Go.WideShapes Go.RowKit
theorem cellsValue : Tryz.prog.cellsOf 64 = 3 := by kernel_rfl
def In64 (z : Int) : Prop := -9223372036854775808 <= z /\ z <= 9223372036854775807
def InU (z : Int) : Prop := 0 <= z /\ z <= 18446744073709551615
theorem in64 {z : Int} (h : (Lit.int .i64 z).wf = true) : In64 z := by
 simp [Lit.wf] at h
 exact h
theorem inU {z : Int} (h : (Lit.int .u64 z).wf = true) : InU z := by
 simp [Lit.wf] at h
 exact h
theorem val_of {H : Type} {enc : TypeId × Value -> H} {W : World} {fuel : Nat} {cs : List Value} {x : DataW H × List MemPlace} (h : DataW.trod enc Tryz.prog W 0 (fun _ => true) true fuel 64 cs = some x) :
 ∃ t n b, cs = [I_ t, I_ n, .int .u64 b] /\ In64 t /\ In64 n /\ InU b := by
 obtain ⟨xs, f, hfu, _, hl, hlen, hf⟩ := DataW.trod_struct Tryz.underlying64 h
 rw [cellsValue] at hl
 clear h
 have hx : xs.length = 3 := hlen
 match cs, hl with
 | [c0, c1, c2], _ =>
  have g : ∀ i, i < 3 -> ∃ y, xs[i]? = some y := fun i hi => ⟨_, List.getElem?_eq_getElem (by omega)⟩
  have h0 : DataW.trod enc Tryz.prog W 0 (fun _ => true) true f 3 (([c0, c1, c2].drop 0).take (Tryz.prog.cellsOf 3)) = xs[0]? := hf 0 _ rfl
  have h1 : DataW.trod enc Tryz.prog W 0 (fun _ => true) true f 3 (([c0, c1, c2].drop 1).take (Tryz.prog.cellsOf 3)) = xs[1]? := hf 1 _ rfl
  have h2 : DataW.trod enc Tryz.prog W 0 (fun _ => true) true f 62 (([c0, c1, c2].drop 2).take (Tryz.prog.cellsOf 62)) = xs[2]? := hf 2 _ rfl
  clear hf
  simp only [show Tryz.prog.cellsOf 3 = 1 by kernel_rfl, show Tryz.prog.cellsOf 62 = 1 by kernel_rfl, List.drop_zero, List.drop_succ_cons, List.take_succ_cons, List.take_zero] at h0 h1 h2
  obtain ⟨y0, e0⟩ := g 0 (by omega)
  obtain ⟨y1, e1⟩ := g 1 (by omega)
  obtain ⟨y2, e2⟩ := g 2 (by omega)
  rw [e0] at h0
  rw [e1] at h1
  rw [e2] at h2
  obtain ⟨z0, q0, r0, s0⟩ := DataW.trod_int Tryz.underlying3 h0
  obtain ⟨z1, q1, r1, s1⟩ := DataW.trod_int Tryz.underlying3 h1
  obtain ⟨z2, q2, r2, s2⟩ := DataW.trod_int Tryz.underlying62 h2
  simp at q0 q1 q2
  subst q0 q1 q2
  exact ⟨z0, z1, z2, rfl, in64 s0, in64 s1, inU s2⟩
end Go.Proofs.YtfojninaginnoaaGreatDoor.Ck
namespace Go.Proofs.YtfojninaginnoaaGreatDoor.Ck
open Go.ChangeShapes Go.WideShapes Go.ChangeAt Go.RowKit
theorem cells1 : Tryz.prog.cellsOf 3 = 1 := by kernel_rfl
def ccl (c : Int × Int) : List Value := [I_ c.1, I_ c.2]
theorem chan_of {H : Type} {enc : TypeId × Value -> H} {W : World} {fuel : Nat} {cs : List Value} {x : DataW H × List MemPlace} (h : DataW.trod enc Tryz.prog W 0 (fun _ => true) true fuel 94 cs = some x) : ∃ c : Int × Int, cs = ccl c := by
 obtain ⟨xs, f, hfu, _, hl, hlen, hf⟩ := DataW.trod_struct Tryz.underlying94 h
 rw [show Tryz.prog.cellsOf 94 = 2 by kernel_rfl] at hl
 clear h
 have hx : xs.length = 2 := hlen
 match cs, hl with
 | [c0, c1], _ =>
  have h0 : DataW.trod enc Tryz.prog W 0 (fun _ => true) true f 3 (([c0, c1].drop 0).take (Tryz.prog.cellsOf 3)) = xs[0]? := hf 0 _ rfl
  have h1 : DataW.trod enc Tryz.prog W 0 (fun _ => true) true f 3 (([c0, c1].drop 1).take (Tryz.prog.cellsOf 3)) = xs[1]? := hf 1 _ rfl
  clear hf
  simp only [cells1, List.drop_zero, List.drop_succ_cons, List.take_succ_cons, List.take_zero] at h0 h1
  rw [List.getElem?_eq_getElem (by omega)] at h0 h1
  obtain ⟨z0, q0, _⟩ := DataW.trod_int Tryz.underlying3 h0
  obtain ⟨z1, q1, _⟩ := DataW.trod_int Tryz.underlying3 h1
  simp at q0 q1
  subst q0 q1
  exact ⟨(z0, z1), rfl⟩
theorem chans_of {H : Type} {enc : TypeId × Value -> H} {W : World} {fuel : Nat} {v : Value} {x : DataW H × List MemPlace} (h : DataW.trod enc Tryz.prog W 0 (fun _ => true) true fuel 23 [v] = some x) : ∃ cs, SlC W v cs := by
 obtain ⟨a, cap, l, e, h1, h2, h3⟩ := rows_of (0, 0) Tryz.underlying23 (show Tryz.prog.cellsOf 94 = 2 by kernel_rfl) (by omega) (fun (c : Int × Int) cs => cs = ccl c) (fun f cs y _ hy => chan_of hy) h
 refine ⟨l, a, cap, e, h1, h2, fun i hi => ?_⟩
 obtain ⟨b, o, cs, ea, hb, rfl, _, hc⟩ := h3 i _ (List.getElem?_eq_getElem hi)
 have e2 : l.getD i (0, 0) = l[i] := by simp [List.getD, hi]
 rw [e2]
 exact ⟨b, o, ea, hb, hc 0 _ rfl, hc 1 _ rfl⟩
end Go.Proofs.YtfojninaginnoaaGreatDoor.Ck
namespace Go.Proofs.YtfojninaginnoaaGreatDoor.Ck
open Go.ChangeShapes Go.WideShapes Go.ChangeAt Go.RowKit
theorem app_srcV {w : World} {T TS : TypeId} {sz bytes : Nat} {z src : Value} {n k B : Nat} {xs : List Value} (hu : Tryz.prog.underlying TS = some (.slice T)) (hinfo : (Tryz.prog.info? T).map (fun i => (i.zero, i.size, i.bytes)) = some (some z, sz, bytes)) (hz : z.cells.size = sz) (hby : bytes <= 100)
 (hk : w.heap[k]? = some (.cells #[] T (0, 0))) (hBk : B <= k) (hlen : xs.length = n * sz) (hS : Src Tryz.prog sz TS src n xs w) (hn : n <= 10000000) (hB : B <= w.heap.size) (ty : TypeId) :
 ∃ v' w', (Builtin.append_ #[TS, TS] ty #[.slice (some ⟨k, 0, none⟩) 0 0, src]).run Tryz.prog w = .ok v' w' /\ (∃ a c, v' = .slice a n c) /\ w'.ownsRow B T sz v' n xs /\ Below w.heap.size w w' := by
 obtain ⟨i, hi, hz0, hz1, hz2⟩ := info_parts hinfo
 have own0 : w.ownsRow B T sz (.slice (some ⟨k, 0, none⟩) 0 0) 0 [] := ⟨by simp, .inr ⟨k, 0, #[], rfl, hBk, hk, Nat.le_refl _, by unfold maxLen; omega, by simp, by simp⟩⟩
 rw [← hz1] at hS
 by_cases hn0 : n = 0
 · subst hn0
   have e : xs = [] := by simpa using hlen
   subst e
   have hr := run_append_room_src (P := Tryz.prog) w TS TS ty T i hu hi k 0 0 0 src 0 [] hS (Nat.le_refl _) (fun j hj => absurd hj (Nat.not_lt_zero _)) (fun j hj => absurd hj (Nat.not_lt_zero _))
   exact ⟨_, w, hr, ⟨_, _, rfl⟩, own0, Below.refl _ _⟩
 · have hfit : Builtin.nextslicecap (0 + n) 0 * i.bytes <= 281474976710656 := growslice_fits (by omega) (by rw [hz2]; have : (0 + n) * bytes <= 10000000 * 100 := Nat.mul_le_mul (by omega) hby; omega)
   have hr := run_append_grow_src (P := Tryz.prog) w TS TS ty T i z hu hi hz0 (some ⟨k, 0, none⟩) 0 0 [] (run_firstCells_some w.drew i.size 0 ⟨k, 0, none⟩ 0 0 [] (by simp) (fun j u hj => by simp at hj)) src n xs hS (by omega) (by omega) hfit
   have hge := grownCap_ge w (0 + n) 0 T
   have hle := grownCap_le_maxLen w (0 + n) 0 T (by unfold maxLen; omega)
   refine ⟨_, _, hr, ⟨_, _, by rw [Nat.zero_add]⟩, ⟨hlen, .inr ⟨w.heap.size, grownCap w (0 + n) 0 T, _, by rw [Nat.zero_add], hB, B_ w.drew _, by omega, hle, ?_, ?_⟩⟩, (Zp (Below.refl _ _)).alloc (Nat.le_refl _) _⟩
   · simp [size_zeroCells, hz, hlen]
     have h3 : n * sz + (grownCap w n 0 T - n) * sz = grownCap w n 0 T * sz := by
      rw [← Nat.add_mul]
      rw [Nat.zero_add] at hge
      rw [show n + (grownCap w n 0 T - n) = grownCap w n 0 T from Nat.add_sub_cancel' hge]
     exact h3
   · simp only [List.nil_append, Array.toList_append]
     exact List.take_left' hlen
theorem cloneA {w : World} {a : Option Addr} {n c : Nat} {xs : List Value} (hlen : xs.length = n * 3) (h0 : a = none -> n = 0) (hc : ∀ (ad : Addr), a = some ad -> ∀ (j : Nat) (u : Value), xs[j]? = some u -> w.cell? (ad.add j) = some u /\ ad.block < w.heap.size) (hn : n <= 2000) (h1 : ∀ u ∈ xs, u.oneCell' = true) : Calls Tryz.prog 85 #[.slice a n c] w (ClP w 64 3 n xs) := by
  cases a with
  | none =>
    obtain rfl := h0 rfl
    have e : xs = [] := by simpa using hlen
    subst e
    clear hc hn h1 hlen h0
    have hE : ∀ w, (binOp .eql 65 (.slice none 0 c) (.slice none 0 0)).run Tryz.prog w = .ok (.bool true) w := fun w => by kernel_rfl
    go_enter Tryz.func85, Tryz.ntmps85
    go_wp2_with fail
    go_ret
    exact ⟨_, _, rfl, World.ownsRow_nil _ _ _ _, Below.refl _ _⟩
  | some ad =>
    have hb := Zd w (.cells #[] 64)
    have hS : Src Tryz.prog 3 65 (.slice (some ad) n c) n xs (w.alloc (.cells #[] 64)) := Src.ofSlice _ Tryz.underlying65 ad n c xs hlen (fun j u hj => by
      obtain ⟨h2, h3⟩ := hc ad rfl j u hj
      have hbl : (ad.add j).block < w.heap.size := by
        have : (ad.add j).block = ad.block := by unfold Addr.add; split <;> rfl
        omega
      exact (hb.cell hbl).trans h2) h1
    have AP := Za (fun ty => app_srcV (B := w.heap.size) Tryz.underlying65 Ym rfl (by decide) (B_ w (.cells #[] 64)) (Nat.le_refl _) hlen hS (by omega) hb.size ty)
    have HB := Za hb
    clear hb h1 hS hc h0 hlen hn
    have hE : ∀ w, (binOp .eql 65 (.slice (some ad) n c) (.slice none 0 0)).run Tryz.prog w = .ok (.bool false) w := fun w => by kernel_rfl
    go_enter Tryz.func85, Tryz.ntmps85
    go_wp2_with (first | (at_builtin; refine ZU (TS := 65) rfl (.tmp 5) (.tmp 6) rfl _ _ rfl rfl _ (AP.out _) ?_; rintro v9 w9 ⟨⟨a9, c9, rfl⟩, o9, b9⟩; have R9 := Za (And.intro o9 b9); clear o9 b9))
    go_ret
    exact ⟨_, _, rfl, R9.out.1, Zg HB.out R9.out.2⟩
def Wok {H : Type} (t : TypeId) (d : DataW H) : Prop := ∀ n ∈ d.weights Tryz.prog t, n <= reachBytes
theorem weights_all {H : Type} {e : TypeId} : ∀ {ds : List (DataW H)} {i : Nat} {d : DataW H}, ds[i]? = some d -> ∀ n ∈ d.weights Tryz.prog e, n ∈ DataW.weightsAll Tryz.prog e ds
 | [], i, d, h, n, _ => by simp at h
 | x :: ds, 0, d, h, n, hn => by
  simp at h
  subst h
  simp only [DataW.weightsAll, List.mem_append]
  exact .inl hn
 | x :: ds, i + 1, d, h, n, hn => by
  simp only [DataW.weightsAll, List.mem_append]
  exact .inr (weights_all (by simpa using h) n hn)
theorem wok_elem {H : Type} {TS T : TypeId} {elems rest : List (DataW H × List MemPlace)} {i : Nat} {y : DataW H × List MemPlace} (hu : Tryz.prog.underlying TS = some (.slice T)) (h : Wok TS (DataW.slice (elems.map (·.1)) (rest.map (·.1)))) (hy : elems[i]? = some y) : Wok T y.1 := fun n hn => by
 refine h n ?_
 simp only [DataW.weights, hu, List.mem_cons, List.mem_append]
 exact .inr (.inl (weights_all (i := i) (by rw [List.getElem?_map, hy]; rfl) n hn))
theorem wok_field {H : Type} {t : TypeId} {fs : Array Field} {xs : List (DataW H × List MemPlace)} {i : Nat} {y : DataW H × List MemPlace} {f : Field} (hu : Tryz.prog.underlying t = some (.struct fs)) (h : Wok t (DataW.agg (xs.map (·.1)))) (hf : fs[i]? = some f) (hy : xs[i]? = some y) : Wok f.type y.1 := fun n hn => by
 refine h n ?_
 simp only [DataW.weights, hu]
 exact DataW.weights_mem_each (j := i) (by rw [List.getElem?_map, Array.getElem?_toList, hf]; rfl) (by rw [List.getElem?_map, hy]; rfl) n hn
theorem rows_w {α : Type} (d0 : α) {H : Type} {enc : TypeId × Value -> H} {W : World} {TS T : TypeId} {n fuel : Nat} {v : Value} {x : DataW H × List MemPlace} (hu : Tryz.prog.underlying TS = some (.slice T)) (hc : Tryz.prog.cellsOf T = n) (hn : 0 < n) (Q : α -> List Value -> Prop)
 (hP : ∀ (f : Nat) (cs : List Value) (y : DataW H × List MemPlace), f < fuel -> DataW.trod enc Tryz.prog W 0 (fun _ => true) true f T cs = some y -> Wok T y.1 -> ∃ x, Q x cs) (hw : Wok TS x.1) (h : DataW.trod enc Tryz.prog W 0 (fun _ => true) true fuel TS [v] = some x) :
 ∃ (a : Option Addr) (cap : Nat) (l : List α), v = .slice a l.length cap /\ l.length * Tryz.prog.bytesOf T <= reachBytes /\ ∀ (i : Nat) (y : α), l[i]? = some y -> ∃ (b o : Nat) (cs : List Value), a = some ⟨b, o, none⟩ /\ b < W.heap.size /\ Q y cs /\ cs.length = n /\ ∀ (j : Nat) (u : Value), cs[j]? = some u -> W.cell? ⟨b, o + i * n + j, none⟩ = some u := by
 rcases DataW.trod_slice hu h with ⟨e, _⟩ | ⟨a, len, cap, elems, rest, m, hm, e, ex, _, hl1, hl2, hl3, hel, _⟩
 · simp at e
   subst e
   exact ⟨none, 0, [], rfl, by simp, fun i y hy => by simp at hy⟩
 · simp at e
   subst e
   have key : ∀ i, i < len -> ∃ (y : α) (b o : Nat) (cs : List Value), some a = some ⟨b, o, none⟩ /\ b < W.heap.size /\ Q y cs /\ cs.length = n /\ ∀ (j : Nat) (u : Value), cs[j]? = some u -> W.cell? ⟨b, o + i * n + j, none⟩ = some u := fun i hi => by
    have h9 := hel i hi
    rw [List.getElem?_eq_getElem (show i < elems.length by omega), hc] at h9
    cases hcs : W.cells? 0 (a.add (i * n)) n with
    | none => rw [hcs] at h9; cases h9
    | some cs =>
     rw [hcs] at h9
     obtain ⟨y, hy⟩ := hP m cs _ (by omega) h9 (wok_elem hu (by rw [ex] at hw; exact hw) (List.getElem?_eq_getElem (show i < elems.length by omega)))
     have hlen := cells_len hcs
     have hcell : ∀ k, k < n -> W.cell? (a.add (i * n + k)) = cs[k]? := fun k hk => by
      rw [← cells_at hcs k hk, Go.Deep.add_add]
     obtain ⟨c0, hc0⟩ : ∃ c, cs[0]? = some c := ⟨_, List.getElem?_eq_getElem (by omega)⟩
     obtain ⟨b, off, spot⟩ := a
     have hspot : spot = none := by
      have h8 := hel 0 (by omega)
      rw [List.getElem?_eq_getElem (show 0 < elems.length by omega), hc] at h8
      cases hz : W.cells? 0 ((Addr.mk b off spot).add (0 * n)) n with
      | none => rw [hz] at h8; cases h8
      | some zs =>
       have h7 := cells_at hz 0 hn
       rw [List.getElem?_eq_getElem (show 0 < zs.length by rw [cells_len hz]; exact hn)] at h7
       simpa [Addr.add] using World.cell?_spot h7
     subst hspot
     have h0 := (hcell 0 hn).trans hc0
     rw [add_plain] at h0
     refine ⟨y, b, off, cs, rfl, block_lt h0, hy, hlen, fun j u hu => ?_⟩
     have hj := (G_ hu)
     have := (hcell j (by omega)).trans hu
     rw [add_plain] at this
     rw [Nat.add_assoc]
     exact this
   have hch : ∃ fn : Nat -> α, ∀ i, i < len -> ∃ (b o : Nat) (cs : List Value), some a = some ⟨b, o, none⟩ /\ b < W.heap.size /\ Q (fn i) cs /\ cs.length = n /\ ∀ (j : Nat) (u : Value), cs[j]? = some u -> W.cell? ⟨b, o + i * n + j, none⟩ = some u :=
    ⟨fun i => if h : i < len then Classical.choose (key i h) else d0, fun i hi => by dsimp only; rw [dif_pos hi]; exact Classical.choose_spec (key i hi)⟩
   obtain ⟨fn, hfn⟩ := hch
   refine ⟨some a, cap, (List.range len).map fn, by simp, ?_, fun i y hy => ?_⟩
   · have h8 := hw ((elems.length + rest.length) * Tryz.prog.bytesOf T) (by rw [ex]; simp [DataW.weights, hu])
     simp only [List.length_map, List.length_range]
     exact Nat.le_trans (Nat.mul_le_mul_right _ (by omega)) h8
   obtain ⟨hj1, hj2⟩ := List.getElem?_eq_some_iff.1 hy
   simp at hj1 hj2
   rw [← hj2]
   exact hfn i hj1
def ArgU (w : World) (va : Value) : Prop := ∃ (a : Option Addr) (n c : Nat), va = .slice a n c /\ n <= 140737488351232 /\ (n <= 2000 -> ArgC w va)
def WSrcU (w : World) (v : Value) (l : List Wt) : Prop := ∃ (a : Option Addr) (c : Nat), v = .slice a l.length c /\ l.length <= 140737488351232 /\ ∀ (j : Nat) (x : Wt), l[j]? = some x -> ∃ (b o : Nat) (va : Value), a = some ⟨b, o, none⟩ /\ b < w.heap.size /\ (∀ (q : Nat) (u : Value), (wcs x va)[q]? = some u -> w.cell? ⟨b, o + j * 7 + q, none⟩ = some u) /\ ArgU w va
def SSrcU (w : World) (v : Value) (S : List (List Wt)) : Prop := ∃ (a : Option Addr) (c : Nat), v = .slice a S.length c /\ S.length <= 140737488351232 /\ ∀ (i : Nat) (l : List Wt), S[i]? = some l -> ∃ (b o : Nat) (vi : Value), a = some ⟨b, o, none⟩ /\ b < w.heap.size /\ w.cell? ⟨b, o + i, none⟩ = some vi /\ WSrcU w vi l
theorem ArgU.bel {w w' : World} {va : Value} (h : ArgU w va) (hb : Below w.heap.size w w') : ArgU w' va := by
 obtain ⟨a, n, c, h1, h2, h3⟩ := h
 exact ⟨a, n, c, h1, h2, fun h => (h3 h).bel hb⟩
theorem WSrcU.bel {w w' : World} {v : Value} {l : List Wt} (h : WSrcU w v l) (hb : Below w.heap.size w w') : WSrcU w' v l := by
 obtain ⟨a, c, h1, h2, h3⟩ := h
 refine ⟨a, c, h1, h2, fun j x hx => ?_⟩
 obtain ⟨b, o, va, e1, e2, e3, e4⟩ := h3 j x hx
 exact ⟨b, o, va, e1, Nat.lt_of_lt_of_le e2 hb.size, fun q u hu => (hb.cell (p := ⟨b, o + j * 7 + q, none⟩) e2).trans (e3 q u hu), e4.bel hb⟩
theorem SSrcU.bel {w w' : World} {v : Value} {S : List (List Wt)} (h : SSrcU w v S) (hb : Below w.heap.size w w') : SSrcU w' v S := by
 obtain ⟨a, c, h1, h2, h3⟩ := h
 refine ⟨a, c, h1, h2, fun i l hl => ?_⟩
 obtain ⟨b, o, vi, e1, e2, e3, e4⟩ := h3 i l hl
 exact ⟨b, o, vi, e1, Nat.lt_of_lt_of_le e2 hb.size, (hb.cell (p := ⟨b, o + i, none⟩) e2).trans e3, e4.bel hb⟩
def v3c (x : V3) : List Value := [I_ x.1, I_ x.2.1, .int .u64 x.2.2]
theorem vcs_get : ∀ (l : List V3) (j : Nat) (u : Value), (vcs l)[j]? = some u -> ∃ (i : Nat) (y : V3) (r : Nat), l[i]? = some y /\ j = i * 3 + r /\ (v3c y)[r]? = some u
 | [], j, u, h => by simp [vcs] at h
 | y :: l, 0, u, h => ⟨0, y, 0, rfl, rfl, h⟩
 | y :: l, 1, u, h => ⟨0, y, 1, rfl, rfl, h⟩
 | y :: l, 2, u, h => ⟨0, y, 2, rfl, rfl, h⟩
 | y :: l, j + 3, u, h => by
  obtain ⟨i, z, r, h1, h2, h3⟩ := vcs_get l j u (by simpa [vcs] using h)
  exact ⟨i + 1, z, r, by simpa using h1, by omega, h3⟩
section
variable {H : Type} {enc : TypeId × Value → H} {W : World} {fuel : Nat} {v : Value} {cs : List Value} {x : DataW H × List MemPlace}
theorem args_of (h : DataW.trod enc Tryz.prog W 0 (fun _ => true) true fuel 65 [v] = some x) (hw : Wok 65 x.1) : ArgU W v := by
  obtain ⟨a, cap, l, e, h1, h3⟩ := rows_w ((0, 0, 0) : V3) Tryz.underlying65 cellsValue (by omega) (fun (c : V3) cs => cs = v3c c) (fun f cs y _ hy _ => by
    obtain ⟨t, n, b, e, _⟩ := val_of hy
    exact ⟨(t, n, b), e⟩) hw h
  rw [show Tryz.prog.bytesOf 64 = 24 by kernel_rfl, show reachBytes = 140737488351232 from rfl] at h1
  refine ⟨a, l.length, cap, e, by omega, fun hn => ⟨a, l.length, cap, vcs l, e, hn, Yt l, fun w' hb => ?_⟩⟩
  subst e
  refine cloneA (vcs_len l) (fun ha => ?_) (fun ad ha j u hj => ?_) hn (Yt l)
  · cases l with
    | nil => rfl
    | cons y l =>
      obtain ⟨b, o, cs, ea, _⟩ := h3 0 y rfl
      rw [ha] at ea
      cases ea
  · obtain ⟨i, y, r, h4, h5, h6⟩ := vcs_get l j u hj
    obtain ⟨b, o, cs, ea, hbl, rfl, _, hc⟩ := h3 i y h4
    rw [ha] at ea
    cases ea
    rw [add_plain, h5, ← Nat.add_assoc]
    exact ⟨(hb.cell (p := ⟨b, o + i * 3 + r, none⟩) hbl).trans (hc r u h6), Nat.lt_of_lt_of_le hbl hb.size⟩
theorem wait_of (h : DataW.trod enc Tryz.prog W 0 (fun _ => true) true fuel 67 cs = some x) (hw : Wok 67 x.1) : ∃ y : Wt × Value, cs = wcs y.1 y.2 /\ ArgU W y.2 := by
 obtain ⟨xs, f, hfu, ex, hl, hlen, hf⟩ := DataW.trod_struct Tryz.underlying67 h
 rw [show Tryz.prog.cellsOf 67 = 7 by kernel_rfl] at hl
 clear h
 have hx : xs.length = 5 := hlen
 match cs, hl with
 | [c0, c1, c2, c3, c4, c5, c6], _ =>
  have h0 : DataW.trod enc Tryz.prog W 0 (fun _ => true) true f 3 (([c0, c1, c2, c3, c4, c5, c6].drop 0).take (Tryz.prog.cellsOf 3)) = xs[0]? := hf 0 _ rfl
  have h1 : DataW.trod enc Tryz.prog W 0 (fun _ => true) true f 3 (([c0, c1, c2, c3, c4, c5, c6].drop 1).take (Tryz.prog.cellsOf 3)) = xs[1]? := hf 1 _ rfl
  have h2 : DataW.trod enc Tryz.prog W 0 (fun _ => true) true f 3 (([c0, c1, c2, c3, c4, c5, c6].drop 2).take (Tryz.prog.cellsOf 3)) = xs[2]? := hf 2 _ rfl
  have h3 : DataW.trod enc Tryz.prog W 0 (fun _ => true) true f 64 (([c0, c1, c2, c3, c4, c5, c6].drop 3).take (Tryz.prog.cellsOf 64)) = xs[3]? := hf 3 _ rfl
  have h4 : DataW.trod enc Tryz.prog W 0 (fun _ => true) true f 65 (([c0, c1, c2, c3, c4, c5, c6].drop 6).take (Tryz.prog.cellsOf 65)) = xs[4]? := hf 4 _ rfl
  clear hf
  simp only [cells1, cellsValue, show Tryz.prog.cellsOf 65 = 1 by kernel_rfl, List.drop_zero, List.drop_succ_cons, List.take_succ_cons, List.take_zero] at h0 h1 h2 h3 h4
  rw [List.getElem?_eq_getElem (by omega)] at h0 h1 h2 h3 h4
  obtain ⟨z0, q0, _⟩ := DataW.trod_int Tryz.underlying3 h0
  obtain ⟨z1, q1, _⟩ := DataW.trod_int Tryz.underlying3 h1
  obtain ⟨z2, q2, _⟩ := DataW.trod_int Tryz.underlying3 h2
  obtain ⟨t, n, b, q3, _⟩ := val_of h3
  simp at q0 q1 q2 q3
  obtain ⟨rfl, rfl, rfl⟩ := q3
  subst q0 q1 q2
  exact ⟨(⟨z0, z1, z2, (t, n, b)⟩, c6), rfl, args_of h4 (wok_field (i := 4) Tryz.underlying67 (by rw [ex] at hw; exact hw) rfl (List.getElem?_eq_getElem (by omega)))⟩
theorem script_of (h : DataW.trod enc Tryz.prog W 0 (fun _ => true) true fuel 68 [v] = some x) (hw : Wok 68 x.1) : ∃ l, WSrcU W v l := by
 obtain ⟨a, cap, l, e, h1, h3⟩ := rows_w ((⟨0, 0, 0, (0, 0, 0)⟩, .slice none 0 0) : Wt × Value) Tryz.underlying68 (show Tryz.prog.cellsOf 67 = 7 by kernel_rfl) (by omega) (fun (c : Wt × Value) cs => cs = wcs c.1 c.2 /\ ArgU W c.2) (fun f cs y _ hy hz => wait_of hy hz) hw h
 rw [show Tryz.prog.bytesOf 67 = 72 by kernel_rfl, show reachBytes = 140737488351232 from rfl] at h1
 refine ⟨l.map Prod.fst, a, cap, by rw [List.length_map]; exact e, by rw [List.length_map]; omega, fun j y hy => ?_⟩
 rw [List.getElem?_map] at hy
 obtain ⟨z, hz, rfl⟩ := Option.map_eq_some_iff.1 hy
 obtain ⟨b, o, cs, ea, hb, ⟨rfl, ha⟩, _, hc⟩ := h3 j z hz
 exact ⟨b, o, z.2, ea, hb, hc, ha⟩
theorem scripts_of (h : DataW.trod enc Tryz.prog W 0 (fun _ => true) true fuel 24 [v] = some x) (hw : Wok 24 x.1) : ∃ S, SSrcU W v S := by
  obtain ⟨a, cap, l, e, h1, h3⟩ := rows_w ([] : List Wt) Tryz.underlying24 (show Tryz.prog.cellsOf 68 = 1 by kernel_rfl) (by omega) (fun (l : List Wt) cs => ∃ vi, cs = [vi] /\ WSrcU W vi l) (fun f cs y _ hy hz => by
    have hcs : ∃ vi, cs = [vi] := by
      rcases DataW.trod_slice Tryz.underlying68 hy with ⟨e, _⟩ | ⟨a, len, cap, elems, rest, m, hm, e, _⟩
      · exact ⟨_, e⟩
      · exact ⟨_, e⟩
    obtain ⟨vi, rfl⟩ := hcs
    obtain ⟨l, hl⟩ := script_of hy hz
    exact ⟨l, vi, rfl, hl⟩) hw h
  rw [show Tryz.prog.bytesOf 68 = 24 by kernel_rfl, show reachBytes = 140737488351232 from rfl] at h1
  refine ⟨l, a, cap, e, by omega, fun i y hy => ?_⟩
  obtain ⟨b, o, cs, ea, hb, ⟨vi, rfl, hw⟩, _, hc⟩ := h3 i y hy
  refine ⟨b, o, vi, ea, hb, ?_, hw⟩
  have := hc 0 vi rfl
  rw [Nat.mul_one] at this
  exact this
theorem len_of {TS T : TypeId} {l c n : Nat} {a : Option Addr} (hu : Tryz.prog.underlying TS = some (.slice T)) (hb : Tryz.prog.bytesOf T = n) (hn : 0 < n) (h : DataW.trod enc Tryz.prog W 0 (fun _ => true) true fuel TS [.slice a l c] = some x) (hw : Wok TS x.1) : l <= 140737488351232 := by
 rcases DataW.trod_slice hu h with ⟨e, _⟩ | ⟨a', len, cap, elems, rest, m, hm, e, ex, _, hl1, hl2, hl3, hel, _⟩
 · simp at e
   omega
 · simp at e
   obtain ⟨rfl, rfl, rfl⟩ := e
   have h8 := hw ((elems.length + rest.length) * Tryz.prog.bytesOf T) (by rw [ex]; simp [DataW.weights, hu])
   rw [hb, show reachBytes = 140737488351232 from rfl] at h8
   have := Nat.le_mul_of_pos_right (elems.length + rest.length) hn
   omega
theorem case_of (h : DataW.trod enc Tryz.prog W 0 (fun _ => true) true fuel 26 cs = some x) (hw : Wok 26 x.1) :
 ∃ vP m a vC vS fn ps qs S, cs = [vP, I_ m, I_ a, vC, vS, I_ fn] /\ (Sl W vP ps /\ ps.length <= 140737488351232) /\ (SlC W vC qs /\ qs.length <= 140737488351232) /\ SSrcU W vS S := by
 obtain ⟨xs, f, hfu, ex, hl, hlen, hf⟩ := DataW.trod_struct Tryz.underlying26 h
 rw [show Tryz.prog.cellsOf 26 = 6 by kernel_rfl] at hl
 clear h
 have hx : xs.length = 6 := hlen
 match cs, hl with
 | [c0, c1, c2, c3, c4, c5], _ =>
  have h0 : DataW.trod enc Tryz.prog W 0 (fun _ => true) true f 22 (([c0, c1, c2, c3, c4, c5].drop 0).take (Tryz.prog.cellsOf 22)) = xs[0]? := hf 0 _ rfl
  have h1 : DataW.trod enc Tryz.prog W 0 (fun _ => true) true f 3 (([c0, c1, c2, c3, c4, c5].drop 1).take (Tryz.prog.cellsOf 3)) = xs[1]? := hf 1 _ rfl
  have h2 : DataW.trod enc Tryz.prog W 0 (fun _ => true) true f 3 (([c0, c1, c2, c3, c4, c5].drop 2).take (Tryz.prog.cellsOf 3)) = xs[2]? := hf 2 _ rfl
  have h3 : DataW.trod enc Tryz.prog W 0 (fun _ => true) true f 23 (([c0, c1, c2, c3, c4, c5].drop 3).take (Tryz.prog.cellsOf 23)) = xs[3]? := hf 3 _ rfl
  have h4 : DataW.trod enc Tryz.prog W 0 (fun _ => true) true f 24 (([c0, c1, c2, c3, c4, c5].drop 4).take (Tryz.prog.cellsOf 24)) = xs[4]? := hf 4 _ rfl
  have h5 : DataW.trod enc Tryz.prog W 0 (fun _ => true) true f 3 (([c0, c1, c2, c3, c4, c5].drop 5).take (Tryz.prog.cellsOf 3)) = xs[5]? := hf 5 _ rfl
  clear hf
  simp only [cells1, show Tryz.prog.cellsOf 22 = 1 by kernel_rfl, show Tryz.prog.cellsOf 23 = 1 by kernel_rfl, show Tryz.prog.cellsOf 24 = 1 by kernel_rfl, List.drop_zero, List.drop_succ_cons, List.take_succ_cons, List.take_zero] at h0 h1 h2 h3 h4 h5
  rw [List.getElem?_eq_getElem (by omega)] at h0 h1 h2 h3 h4 h5
  obtain ⟨z1, q1, _⟩ := DataW.trod_int Tryz.underlying3 h1
  obtain ⟨z2, q2, _⟩ := DataW.trod_int Tryz.underlying3 h2
  obtain ⟨z5, q5, _⟩ := DataW.trod_int Tryz.underlying3 h5
  simp at q1 q2 q5
  subst q1 q2 q5
  obtain ⟨ps, hp⟩ := sl_of h0
  obtain ⟨qs, hc⟩ := chans_of h3
  rw [ex] at hw
  obtain ⟨S, hS⟩ := scripts_of h4 (wok_field (i := 4) Tryz.underlying26 hw rfl (List.getElem?_eq_getElem (by omega)))
  have w0 := wok_field (i := 0) Tryz.underlying26 hw rfl (List.getElem?_eq_getElem (show 0 < xs.length by omega))
  have w3 := wok_field (i := 3) Tryz.underlying26 hw rfl (List.getElem?_eq_getElem (show 3 < xs.length by omega))
  refine ⟨c0, z1, z2, c3, c4, z5, ps, qs, S, rfl, ⟨hp, ?_⟩, ⟨hc, ?_⟩, hS⟩
  · obtain ⟨aP, lP, cP, e, hlP⟩ := hp.slice
    subst e
    have := len_of Tryz.underlying22 (show Tryz.prog.bytesOf 3 = 8 by kernel_rfl) (by omega) h0 w0
    omega
  · obtain ⟨aC, cC, e, _⟩ := hc
    subst e
    exact len_of Tryz.underlying23 (show Tryz.prog.bytesOf 94 = 16 by kernel_rfl) (by omega) h3 w3
end
theorem case_open {H : Type} {enc : TypeId × Value -> H} {W : World} {c : Array Value} {d : DataW H} {p : List MemPlace} (h : DataW.Trod enc Tryz.prog W 0 (fun _ => true) true 26 (.agg c) d p) (hw : Wok 26 d) :
 ∃ vP m a vC vS fn ps qs S, Value.agg c = .agg #[vP, I_ m, I_ a, vC, vS, I_ fn] /\ (Sl W vP ps /\ ps.length <= 140737488351232) /\ (SlC W vC qs /\ qs.length <= 140737488351232) /\ SSrcU W vS S := by
 obtain ⟨fuel, h⟩ := h
 obtain ⟨vP, m, a, vC, vS, fn, ps, qs, S, e, h1, h2, h3⟩ := case_of h hw
 refine ⟨vP, m, a, vC, vS, fn, ps, qs, S, ?_, h1, h2, h3⟩
 congr 1
 have e' : c.toList = [vP, I_ m, I_ a, vC, vS, I_ fn] := e
 rw [← Array.toArray_toList (xs := c), e']
theorem wok_arg {H : Type} {ts : List TypeId} {ds : List (DataW H)} {j : Nat} {t : TypeId} {d : DataW H} (h : (DataW.weightsEach Tryz.prog ts ds).all (· <= reachBytes) = true) (ht : ts[j]? = some t) (hd : ds[j]? = some d) : Wok t d := fun n hn => by
 simpa using List.all_eq_true.1 h n (DataW.weights_mem_each ht hd n hn)
theorem Off.mk {G : Nat -> Prop} {N : Nat} (h : ∀ k, G k -> N <= k) {w : World} {p : List Addr} (h17 : E3 w p) (hN : w.heap.size <= N) : Off G :=
 ⟨fun e => absurd (h _ e) (by have := h17.e2.l0; omega), fun e => absurd (h _ e) (by have := h17.e2.l4; omega), fun e => absurd (h _ e) (by have := h17.l9; omega)⟩
theorem alive12 {w : World} {p : List Addr} (h17 : E3 w p) : Calls Tryz.prog 5 #[] w (Vb w (.bool true)) := by
  have NW := Za (new_ok (.slice none 0 0) (.slice none 0 0) [] [] 1 0 (Sl.nilS w) (SlC.nilS w) rfl)
  have H7 := Za h17
  have hf := enf0
  clear h17
  go_enter Tryz.func5, Tryz.ntmps5
  go_wp2_with fail
  refine NW.out.mono ?_
  rintro e w1 ⟨gs, F, rfl, hs, hl, hb⟩
  have S1 : Hid (Stt w1 F gs s0 /\ (∀ k, F k -> w.heap.size <= k) /\ Below w.heap.size w w1) := Za ⟨hs, hl, hb⟩
  clear hs hl hb NW
  have SC := Za (scripted_any (src0 w1))
  have B3 : Hid (Below w1.heap.size w1 (((w1.alloc (.cells #[I_ 10, I_ 1, I_ 0, I_ 0, I_ 0, .int .u64 0, .slice none 0 0, I_ 3, I_ 0, I_ 0, I_ 0, I_ 0, .int .u64 0, .slice none 0 0, I_ 4, I_ 0, I_ 0, I_ 0, I_ 0, .int .u64 0, .slice none 0 0] 67)).alloc (.cells #[I_ 3, I_ 0, I_ 0, I_ 0, I_ 0, .int .u64 0, .slice none 0 0] 67)).alloc (.cells #[.slice (some ⟨w1.heap.size, 0, none⟩) 3 3, .slice (some ⟨w1.heap.size + 1, 0, none⟩) 1 1] 68))) := Za (Zu (Zu (Zd w1 _) _) _)
  go_wp2_with fail
  generalize ((w1.alloc _).alloc _).alloc _ = W3 at *
  refine SC.out.mono ?_
  rintro e w5 ⟨vB, R, rfl, bg, hR, hb5⟩
  have PR : Hid (Pre w5 F R gs s0 vB S0) := Za ⟨(S1.out.1.bel B3.out).bel hb5, fun q hq => (by cases hq), bg, fun k hk hF => (by
    have h1 := S1.out.1.fb k hF
    have h2 := (hR k hk).1
    have h3 := B3.out.size
    omega), fun k hk => (hR k hk).2⟩
  have B5 := Za (Zg (Zg S1.out.2.2 B3.out) hb5)
  have LO : Hid (∀ k, (F k ∨ R k) -> w.heap.size <= k) := Za (fun k hk => hk.elim (S1.out.2.1 k) (fun h => by
    have h1 := (hR k h).1
    have h2 := B3.out.size
    have h3 := S1.out.2.2.size
    omega))
  have E5 := Za (And.intro (H7.out.below (Nat.le_refl _) B5.out) (Off.mk LO.out H7.out (Nat.le_refl _)))
  clear bg hR hb5 SC S1 B3
  have ST := Za (start_any PR.out E5.out.1 E5.out.2 0)
  rw [show startR S0 s0 0 = r0 from rfl] at ST
  go_wp2_with fail
  refine ST.out.mono ?_
  rintro e w6 ⟨g, G6, rfl, rn, ch⟩
  have R6 := Za (And.intro rn (And.intro (E5.out.1.ch E5.out.2 ch) ch))
  clear rn ch ST PR
  have DO := Za (Do_ok R6.out.1 R6.out.2.1.1 R6.out.2.1.2 0 (show runs r0 = true by decide +kernel) (show can r0 ((0 : Nat) : Int) = true by decide +kernel) (show r0.ev.length <= 90000 by decide +kernel))
  rw [show doR S0 r0 0 = r1 from rfl] at DO
  simp only [Int.ofNat_zero] at DO
  go_wp2_with fail
  refine DO.out.mono ?_
  rintro e w7 ⟨rfl, G7, rn, ch⟩
  have R7 := Za (And.intro rn (And.intro (R6.out.2.1.1.ch R6.out.2.1.2 ch) (R6.out.2.2.trans ch)))
  clear rn ch DO R6
  have DO := Za (Do_ok R7.out.1 R7.out.2.1.1 R7.out.2.1.2 1 (show runs r1 = true by decide +kernel) (show can r1 ((1 : Nat) : Int) = true by decide +kernel) (show r1.ev.length <= 90000 by decide +kernel))
  rw [show doR S0 r1 1 = r2 from rfl] at DO
  go_wp2_with fail
  refine DO.out.mono ?_
  rintro e w8 ⟨rfl, G8, rn, ch⟩
  have R8 := Za (And.intro rn (And.intro (R7.out.2.1.1.ch R7.out.2.1.2 ch) (R7.out.2.2.trans ch)))
  clear rn ch DO R7
  have DO := Za (Do_ok R8.out.1 R8.out.2.1.1 R8.out.2.1.2 1 (show runs r2 = true by decide +kernel) (show can r2 ((1 : Nat) : Int) = true by decide +kernel) (show r2.ev.length <= 90000 by decide +kernel))
  rw [show doR S0 r2 1 = r3 from rfl] at DO
  go_wp2_with fail
  refine DO.out.mono ?_
  rintro e w9 ⟨rfl, G9, rn, ch⟩
  have R9 := Za (And.intro rn (And.intro (R8.out.2.1.1.ch R8.out.2.1.2 ch) (R8.out.2.2.trans ch)))
  clear rn ch DO R8
  have EN := Za (End_any R9.out.1 R9.out.2.1.1.e2)
  rw [show Ys r3 = ⟨2, 0, 0, 0, 0⟩ from by kernel_rfl] at EN
  unfold EnV at EN
  simp only at EN
  go_wp2_with fail
  refine EN.out.mono ?_
  rintro e w10 ⟨rfl, hb⟩
  have R10 := Za (And.intro (R9.out.1.bel hb) (And.intro (R9.out.2.1.1.below (Nat.le_refl _) hb) (R9.out.2.2.trans (Ch.of_bel hb))))
  clear hb EN R9
  have RU := Za (Runnable_any R10.out.1 R10.out.2.1.e2)
  rw [show Ye r3 = [] by decide +kernel] at RU
  go_wp2_with fail
  refine RU.out.mono ?_
  rintro e w11 ⟨a, c, rfl, _, hb⟩
  have R11 := Za (And.intro (R10.out.1.bel hb) (R10.out.2.2.trans (Ch.of_bel hb)))
  clear hb RU R10
  have CO := Za (Count_any R11.out.1)
  rw [show r3.ev.length = 3 by decide +kernel] at CO
  go_wp2_with fail
  refine CO.out.mono ?_
  rintro e w12 ⟨rfl, rfl⟩
  go_wp2_with fail
  go_ret
  exact Vb.mk rfl (B5.out.trans (R11.out.2.bel LO.out B5.out.size))
def MadeP (w : World) (ok : Bool) (S : List (List Wt)) (s : St) (fn : Int) (e : Ending) (w' : World) : Prop := (ok = false /\ e = .returned (.tuple #[.pointer none, .pointer none, .bool false]) /\ Below w.heap.size w w') ∨
 (ok = true /\ ∃ g gm G Gm, e = .returned (.tuple #[P_ g, P_ gm, .bool true]) /\ Rn w' G g S (startR S s fn) /\ Rr w' Gm 0 gm S (startZ S s fn) /\ (∀ k, G k -> ¬ Gm k) /\ (∀ k, G k ∨ Gm k -> w.heap.size <= k) /\ Below w.heap.size w w')
theorem new_ty {ps : List Int} {m a : Int} {qs : List (Int × Int)} (h : okN ps m qs a = true) : ∀ q ∈ (newS ps m qs a).C, 1 <= q.t /\ q.t <= 3 := fun q hq => by
 unfold okN at h
 simp only [Bool.and_eq_true] at h
 obtain ⟨_, _, _, _, _, h6⟩ := h
 simp only [newS, List.mem_map] at hq
 obtain ⟨c, hc, rfl⟩ := hq
 have := h6
 simp only [Bool.not_eq_true', List.any_eq_false] at this
 have h7 := this c hc
 show 1 <= c.1 /\ c.1 <= 3
 unfold badC chanB Yj at h7
 by_cases h8 : c.1 = 1 ∨ c.1 = 2 ∨ c.1 = 3
 · omega
 · rw [if_neg h8] at h7
   simp at h7
theorem errV_form (p : List Addr) (n : Nat) : ∃ a, errV p n = .iface 203 (.pointer (some a)) := ⟨_, rfl⟩
theorem made_bad {w : World} {aP aC aS : Option Addr} {lP cP lC cC nS cS : Nat} {ps : List Int} {qs : List (Int × Int)} {S : List (List Wt)} {p : List Addr} (h17 : E3 w p) (m a fn : Int) (hP : Sl w (.slice aP lP cP) ps) (hC : SlC w (.slice aC lC cC) qs) (hok : okN ps m qs a = false) : Calls Tryz.prog 7 #[.agg #[.slice aP lP cP, I_ m, I_ a, .slice aC lC cC, .slice aS nS cS, I_ fn]] w (MadeP w false S (newS ps m qs a) fn) := by
 have AB := Za (Zd w (.cells #[.slice aP lP cP, I_ m, I_ a, .slice aC lC cC, .slice aS nS cS, I_ fn] 26))
 have N2 := Za (fun w3 (h3 : Below w.heap.size w w3) => rnew_any (.slice aP lP cP) (.slice aC lC cC) ps qs m a (hP.below (Nat.le_refl _) h3) (hC.below h3))
 have BX := Za (B_ w (.cells #[.slice aP lP cP, I_ m, I_ a, .slice aC lC cC, .slice aS nS cS, I_ fn] 26))
 have N1 := Za (new_bad (.slice aP lP cP) (.slice aC lC cC) ps qs m a (h17.e2.below (Nat.le_refl _) AB.out) (hP.below (Nat.le_refl _) AB.out) (hC.below AB.out) hok)
 obtain ⟨ea, hea⟩ := errV_form p 0
 rw [hea] at N1
 rw [hok] at N2
 clear h17 hP hC hok hea
 go_enter Tryz.func7, Tryz.ntmps7
 go_wp2_with fail
 generalize w.alloc _ = w1 at *
 obtain ⟨bx, hbx⟩ : ∃ b, b = w.heap.size := ⟨_, rfl⟩
 rw [← hbx] at BX ⊢
 refine N1.out.mono ?_
 rintro e w2 ⟨rfl, hb2⟩
 replace BX := Za ((hb2.block bx (Ze BX.out)).trans BX.out)
 have x0 := Zb BX.out 0 _ rfl
 have x1 := Zb BX.out 1 _ rfl
 have x2 := Zb BX.out 2 _ rfl
 have x3 := Zb BX.out 3 _ rfl
 have x4 := Zb BX.out 4 _ rfl
 have x5 := Zb BX.out 5 _ rfl
 have B2 := Za (Zg AB.out hb2)
 clear hb2 hbx AB N1
 go_wp2_with fail
 refine (N2.out _ B2.out).mono ?_
 rintro e w3 (⟨_, rfl, hb3⟩ | ⟨h, _⟩)
 · have B3 := Za (Zg B2.out hb3)
   clear hb3 N2
   go_wp2_with fail
   refine bodyPost_ret (v := .tuple #[.pointer none, .pointer none, .bool false]) (by simp [results, Tryz.results7, go_sem]) rfl ?_
   exact .inl ⟨rfl, rfl, B3.out⟩
 · cases h
end Go.Proofs.YtfojninaginnoaaGreatDoor.Ck
