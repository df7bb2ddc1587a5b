/- Package proofread: operators on a stack; a function's local. -/
import Derived.Test.YtlheflkdapckbaaDoorPd
import Derived.BigQuiet
namespace Go.Proofs.YtlheflkdapckbaaDoor.Ck
open Go.RowKit

/-- a call that turns nothing below B: the stack that it leaves, or that it gives up -/
def GkP (p : List Addr) (w : World) (b B : Nat) (o : Option (List Int)) (e : Ending) (w' : World) : Prop := Below B w w' ∧ match o with
  | some s' => e = .returned (.tuple #[]) ∧ ∃ v', Sk w' b B v' s'
  | none => e = codeStop p
theorem GkP.of {p : List Addr} {w w' : World} {b B : Nat} {o : Option (List Int)} {e : Ending} (h : TkP p w b B o e w') (hB : B ≤ b) (hw : B ≤ w.heap.size) : GkP p w b B o e w' := ⟨h.1.bel hB hw, h.2⟩
theorem GkP.from {p : List Addr} {w w1 w' : World} {b B : Nat} {o : Option (List Int)} {e : Ending} (h : GkP p w1 b B o e w') (hb : Below B w w1) : GkP p w b B o e w' := ⟨hb.trans h.1, h.2⟩
theorem GkP.both {p : List Addr} {w w' : World} {b B : Nat} {o : Option (List Int)} {e : Ending} (h : GkP p w b B o e w') : (∃ s' v', o = some s' ∧ e = .returned (.tuple #[]) ∧ Sk w' b B v' s' ∧ Below B w w') ∨ (o = none ∧ e = codeStop p ∧ Below B w w') := by
  obtain ⟨h1, h2⟩ := h
  cases o with
  | some s' => exact .inl ⟨s', _, rfl, h2.1, h2.2.choose_spec, h1⟩
  | none => exact .inr ⟨rfl, h2, h1⟩
theorem GkP.yes {p : List Addr} {w w' : World} {b B : Nat} {o : Option (List Int)} {s : List Int} {v : Value} (ho : o = some s) (hk : Sk w' b B v s) (hb : Below B w w') : GkP p w b B o (.returned (.tuple #[])) w' := by
  subst ho
  exact ⟨hb, rfl, v, hk⟩
theorem GkP.no {p : List Addr} {w w' : World} {b B : Nat} {o : Option (List Int)} (ho : o = none) (hb : Below B w w') : GkP p w b B o (codeStop p) w' := by
  subst ho
  exact ⟨hb, rfl⟩
theorem Sk.low {w : World} {b B : Nat} {v : Value} {s : List Int} (h : Sk w b B v s) : B ≤ w.heap.size := by
  have := lt_of_blk h.at_
  have := h.hb
  omega
theorem Ec.low {w w' : World} {p : List Addr} {B : Nat} (h : Ec w p) (hb : Below B w w') (hB : 8 < B) : Ec w' p := (hb.cell (p := ⟨8, 0, none⟩) hB).trans h
theorem snoc_or (s : List Int) : s = [] ∨ ∃ s' t, s = s' ++ [t] := by
  rcases List.eq_nil_or_concat s with h | ⟨s', t, h⟩
  · exact .inl h
  · exact .inr ⟨s', t, by simpa using h⟩
set_option maxRecDepth 20000 in
set_option maxHeartbeats 2000000 in
theorem unary_stk {w : World} {p : List Addr} {b B : Nat} {v : Value} {s : List Int} (hc : Ec w p) (hg : 8 < B) (h : Sk w b B v s) (a : Int) (h1 : 1 ≤ a) (h4 : a ≤ 4) (hs : s.length ≤ 900) : Calls Tryd.prog 56 #[.pointer (some ⟨b, 0, none⟩), .string (opN 10 a)] w (GkP p w b B (unS a s)) := by
  have HL := hide h.low
  have HB := hide h.hb
  rcases snoc_or s with rfl | ⟨s1, t, rfl⟩
  · have PN := hide (pop_none hc h)
    obtain ⟨z, hz⟩ : ∃ z, opN 10 a = z := ⟨_, rfl⟩
    rw [hz]
    clear hc h hz
    go_enter Tryd.func56, Tryd.ntmps56
    go_wp2_with fail
    refine PN.out.mono ?_
    rintro e w1 ⟨rfl, rfl⟩
    exact ⟨rfl, GkP.no rfl (Below.refl _ _)⟩
  · have HS : Hid (s1.length ≤ 900) := hide (by simp at hs; omega)
    have PN := hide (pop_some h)
    have PU := hide (fun w1 (hb : Below B w w1) => punary_any (hc.low hb hg) a t h1 h4)
    have EU : Hid (unS a (s1 ++ [t]) = (unM a t).map fun r => s1 ++ [r]) := hide (by unfold unS; rw [popM_snoc]; rfl)
    generalize unS a (s1 ++ [t]) = o at *
    obtain ⟨z, hz⟩ : ∃ z, opN 10 a = z := ⟨_, rfl⟩
    rw [hz] at PU ⊢
    clear hc h hs hz
    go_enter Tryd.func56, Tryd.ntmps56
    go_wp2_with fail
    refine PN.out.mono ?_
    rintro e w1 ⟨rfl, ⟨v1, k1⟩, t1⟩
    have B1 := hide (t1.bel HB.out HL.out)
    have K1 := hide k1
    have P1 := hide (PU.out w1 B1.out)
    clear k1 t1 PU PN
    cases hu : unM a t with
    | none =>
      rw [hu] at P1
      have HU := hide hu
      clear hu
      go_wp2_with fail
      refine P1.out.mono ?_
      rintro e w2 ⟨rfl, rfl⟩
      exact ⟨rfl, GkP.no (by rw [EU.out, HU.out]; rfl) B1.out⟩
    | some r =>
      rw [hu] at P1
      have HU := hide hu
      have PS := hide (push_stk K1.out r HS.out)
      clear hu
      go_wp2_with fail
      refine P1.out.mono ?_
      rintro e w2 ⟨rfl, rfl⟩
      go_wp2_with fail
      refine PS.out.mono ?_
      rintro e w3 ⟨rfl, ⟨v3, k3⟩, b3⟩
      go_wp2_with fail
      go_end0
      exact GkP.yes (by rw [EU.out, HU.out]; rfl) k3 (B1.out.trans b3)
set_option maxRecDepth 20000 in
set_option maxHeartbeats 2000000 in
theorem binary_stk {w : World} {p : List Addr} {b B : Nat} {v : Value} {s : List Int} (hc : Ec w p) (hg : 8 < B) (h : Sk w b B v s) (a : Int) (h1 : 1 ≤ a) (h4 : a ≤ 11) (hs : s.length ≤ 900) : Calls Tryd.prog 58 #[.pointer (some ⟨b, 0, none⟩), .string (opN 11 a)] w (GkP p w b B (binS a s)) := by
  have HL := hide h.low
  have HB := hide h.hb
  obtain ⟨z, hz⟩ : ∃ z, opN 11 a = z := ⟨_, rfl⟩
  rcases snoc_or s with rfl | ⟨s1, t, rfl⟩
  · have PN := hide (pop_none hc h)
    rw [hz]
    clear hc h hz
    go_enter Tryd.func58, Tryd.ntmps58
    go_wp2_with fail
    refine PN.out.mono ?_
    rintro e w1 ⟨rfl, rfl⟩
    exact ⟨rfl, GkP.no rfl (Below.refl _ _)⟩
  · have PN := hide (pop_some h)
    have HC := hide hc
    have EU : Hid (binS a (s1 ++ [t]) = (popM s1).bind fun q => (binM a q.1 t).map fun r => q.2 ++ [r]) := hide (by unfold binS; rw [popM_snoc]; rfl)
    generalize binS a (s1 ++ [t]) = o at *
    have PU := hide (fun w1 (hb : Below B w w1) (f : Int) => pbinary_any (hc.low hb hg) a f t h1 h4)
    have HS : Hid (s1.length ≤ 900) := hide (by simp at hs; omega)
    rw [hz] at PU ⊢
    have HG := hide hg
    clear hc h hs hz hg
    go_enter Tryd.func58, Tryd.ntmps58
    go_wp2_with fail
    refine PN.out.mono ?_
    rintro e w1 ⟨rfl, ⟨v1, k1⟩, t1⟩
    have B1 := hide (t1.bel HB.out HL.out)
    have K1 := hide k1
    clear k1 t1 PN
    rcases snoc_or s1 with rfl | ⟨s2, t2, rfl⟩
    · have PN := hide (pop_none (HC.out.low B1.out HG.out) K1.out)
      go_wp2_with fail
      refine PN.out.mono ?_
      rintro e w2 ⟨rfl, rfl⟩
      exact ⟨rfl, GkP.no (by rw [EU.out]; rfl) B1.out⟩
    · have PN := hide (pop_some K1.out)
      have EU2 : Hid (o = (binM a t2 t).map fun r => s2 ++ [r]) := hide (by rw [EU.out, popM_snoc]; rfl)
      have HS2 : Hid (s2.length ≤ 900) := hide (by have := HS.out; simp at this; omega)
      have L1 := hide K1.out.low
      clear EU HS
      go_wp2_with fail
      refine PN.out.mono ?_
      rintro e w2 ⟨rfl, ⟨v2, k2⟩, t2'⟩
      have B2 := hide (B1.out.trans (t2'.bel HB.out L1.out))
      have K2 := hide k2
      have P2 := hide (PU.out w2 B2.out t2)
      clear k2 t2' PN K1
      cases hu : binM a t2 t with
      | none =>
        rw [hu] at P2
        have HU := hide hu
        clear hu
        go_wp2_with fail
        refine P2.out.mono ?_
        rintro e w3 ⟨rfl, rfl⟩
        exact ⟨rfl, GkP.no (by rw [EU2.out, HU.out]; rfl) B2.out⟩
      | some r =>
        rw [hu] at P2
        have HU := hide hu
        have PS := hide (push_stk K2.out r HS2.out)
        clear hu
        go_wp2_with fail
        refine P2.out.mono ?_
        rintro e w3 ⟨rfl, rfl⟩
        go_wp2_with fail
        refine PS.out.mono ?_
        rintro e w4 ⟨rfl, ⟨v4, k4⟩, b4⟩
        go_wp2_with fail
        go_end0
        exact GkP.yes (by rw [EU2.out, HU.out]; rfl) k4 (B2.out.trans b4)
/-- a reader in memory: its code, its function; what is gone through -/
structure Rdv (w : World) (g : Nat) (vP vC vF vB : Value) (c : Cd) (f : Fn3) (vLo : Value) (hi : Int) (vM vS vL : Value) : Prop where
  at_ : w.heap[g]? = some (.cells #[vP, .int .i64 c.M, .int .i64 c.A, vC, vF, .int .i64 c.mn, vB, .int .i64 f.st, .int .i64 f.pa, vLo, .int .i64 hi, vM, vS, vL] 71 (0, 0))
  cv : Cv w vP vC vF vB c
  lo : Sl w vLo f.lo
theorem Rdv.low {w w' : World} {g : Nat} {vP vC vF vB vLo vM vS vL : Value} {c : Cd} {f : Fn3} {hi : Int} (h : Rdv w g vP vC vF vB c f vLo hi vM vS vL) (hb : Below w.heap.size w w') : Rdv w' g vP vC vF vB c f vLo hi vM vS vL := ⟨(hb.block g (lt_of_blk h.at_)).trans h.at_, h.cv.bel hb, h.lo.bel hb⟩
set_option maxRecDepth 20000 in
set_option maxHeartbeats 2000000 in
theorem local_any {w : World} {p : List Addr} {g : Nat} {vP vC vF vB vLo vM vS vL : Value} {c : Cd} {f : Fn3} {hi : Int} (hc : Ec w p) (h : Rdv w g vP vC vF vB c f vLo hi vM vS vL) (n : Nat) : Calls Tryd.prog 55 #[.pointer (some ⟨g, 0, none⟩), .int .i64 (n : Nat)] w (TyP p w (if (n : Int) < f.lo.length then some (f.lo.getD n 0) else none)) := by
  obtain ⟨a, cc, rfl, h1, h2⟩ := h.lo.form
  have x9 := blk_cell h.at_ 9 _ rfl
  have MN := hide (pmust_no hc)
  obtain ⟨m, hm⟩ : ∃ m, m = f.lo.length := ⟨_, rfl⟩
  have HL := hide (fun hn => h.lo.at n hn)
  rw [← hm] at x9 HL ⊢
  by_cases hn : n < m
  · obtain ⟨b, o, rfl, _, hc1⟩ := HL.out hn
    have hn1 : (n : Int) < (m : Int) := by omega
    rw [if_pos hn1]
    generalize f.lo.getD n 0 = t at *
    clear h h1 h2 hm HL MN
    go_enter Tryd.func55, Tryd.ntmps55
    go_wp2_with fail
    refine (pmust_yes _).mono ?_
    rintro e w1 ⟨rfl, rfl⟩
    go_wp2_with fail
    go_ret
    exact ⟨rfl, rfl⟩
  · have hn1 : ¬ (n : Int) < (m : Int) := by omega
    rw [if_neg hn1]
    have hd : decide ((n : Int) < (m : Int)) = false := decide_eq_false hn1
    clear h h1 h2 hm HL hn
    go_enter Tryd.func55, Tryd.ntmps55
    go_wp2_with fail
    refine MN.out.mono ?_
    rintro e w1 ⟨rfl, rfl⟩
    exact ⟨rfl, rfl, rfl⟩
end Go.Proofs.YtlheflkdapckbaaDoor.Ck
