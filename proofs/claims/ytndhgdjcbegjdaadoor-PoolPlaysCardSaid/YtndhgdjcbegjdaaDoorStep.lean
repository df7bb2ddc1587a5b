/- What one call on an arena answers (the statements' own 'step'), as a relation that leaves no choice. -/
import Derived.Test.YtndhgdjcbegjdaaDoorFact
namespace Go.Proofs.YtndhgdjcbegjdaaDoor.Ck
open Go.RowKit

def FreeRes (p : List Addr) (R V : Nat → Int) (n : Nat) (at_ : Int) (ev : Value) (R' V' : Nat → Int) : Prop :=
  ∃ f t : Nat, RunOf R n at_ f t ∧ ev = (if f < t then .nilIface else errV p 7) ∧ R' = (fun k => if f ≤ k ∧ k < t then 0 else R k) ∧ V' = fun k => if 16 * f ≤ k ∧ k < 16 * t then 0 else V k
def GetRes (p : List Addr) (R V : Nat → Int) (n : Nat) (at_ x : Int) (ev : Value) : Prop :=
  (InRun R n at_ ∧ x = V at_.toNat ∧ ev = .nilIface) ∨ (¬ InRun R n at_ ∧ x = 0 ∧ ev = errV p 0)
def SetRes (p : List Addr) (R V : Nat → Int) (n : Nat) (at_ v : Int) (ev : Value) (V' : Nat → Int) : Prop :=
  (InRun R n at_ ∧ ev = .nilIface ∧ V' = fun k => if k = at_.toNat then v else V k) ∨ (¬ InRun R n at_ ∧ ev = errV p 0 ∧ V' = V)
def StepRes (p : List Addr) (R V : Nat → Int) (n : Nat) (K at_ v x : Int) (ev : Value) (R' V' : Nat → Int) : Prop :=
  (K = 1 ∧ AllocRes R n v p x ev R' ∧ V' = V) ∨ (K = 2 ∧ x = 0 ∧ FreeRes p R V n at_ ev R' V') ∨ (K = 3 ∧ R' = R ∧ V' = V ∧ GetRes p R V n at_ x ev) ∨
  (K = 4 ∧ x = 0 ∧ R' = R ∧ SetRes p R V n at_ v ev V') ∨ (K = 5 ∧ x = 0 ∧ ev = .nilIface ∧ R' = (fun _ => 0) ∧ V' = fun _ => 0) ∨
  ((K < 1 ∨ 5 < K) ∧ x = 0 ∧ ev = .nilIface ∧ R' = R ∧ V' = V)

theorem AllocRes.uniq {R R1 R2 : Nat → Int} {n : Nat} {z x y : Int} {p : List Addr} {e1 e2 : Value} (h : AllocRes R n z p x e1 R1) (k : AllocRes R n z p y e2 R2) : x = y ∧ e1 = e2 ∧ R1 = R2 := by
  rcases h with ⟨h0, h1, h2, h3⟩ | ⟨h0, hg, h1, h2, h3⟩ | ⟨h0, f, hg, h1, h2, h3⟩
  · rcases k with ⟨k0, k1, k2, k3⟩ | ⟨k0, kg, k1, k2, k3⟩ | ⟨k0, g, kg, k1, k2, k3⟩
    · exact ⟨h1.trans k1.symm, h2.trans k2.symm, h3.trans k3.symm⟩
    · omega
    · omega
  · obtain ⟨k1, k2, k3⟩ := k.no h0 hg
    exact ⟨h1.trans k1.symm, h2.trans k2.symm, h3.trans k3.symm⟩
  · obtain ⟨k1, k2, k3⟩ := k.ok h0 hg
    exact ⟨h1.trans k1.symm, h2.trans k2.symm, h3.trans k3.symm⟩
theorem FreeRes.uniq {p : List Addr} {R V R1 V1 R2 V2 : Nat → Int} {n : Nat} {at_ : Int} {e1 e2 : Value} (h : FreeRes p R V n at_ e1 R1 V1) (k : FreeRes p R V n at_ e2 R2 V2) : e1 = e2 ∧ R1 = R2 ∧ V1 = V2 := by
  obtain ⟨f, t, h1, rfl, rfl, rfl⟩ := h
  obtain ⟨g, u, k1, rfl, rfl, rfl⟩ := k
  by_cases e : f < t
  · obtain ⟨ha, he⟩ : at_ = 16 * (f : Int) ∧ IsEnd R n f t := by
      rcases h1 with h | ⟨h, _⟩
      · exact h
      · omega
    obtain ⟨rfl, rfl⟩ := k1.ok ha he
    exact ⟨rfl, rfl, rfl⟩
  · have hfe : f = t := by have := h1.le; omega
    have hge : g = u := by
      rcases k1 with ⟨ha, he⟩ | ⟨h, _⟩
      · have := h1.ok ha he
        have := he.1
        omega
      · exact h
    subst hfe hge
    refine ⟨by rw [if_neg (by omega), if_neg (by omega)], ?_, ?_⟩
    · funext k
      rw [if_neg (by omega), if_neg (by omega)]
    · funext k
      rw [if_neg (by omega), if_neg (by omega)]
theorem StepRes.uniq {p : List Addr} {R V R1 V1 R2 V2 : Nat → Int} {n : Nat} {K at_ v x y : Int} {e1 e2 : Value} (h : StepRes p R V n K at_ v x e1 R1 V1) (k : StepRes p R V n K at_ v y e2 R2 V2) : x = y ∧ e1 = e2 ∧ R1 = R2 ∧ V1 = V2 := by
  rcases h with ⟨hK, h1, h2⟩ | ⟨hK, h1, h2⟩ | ⟨hK, h1, h2, h3⟩ | ⟨hK, h1, h2, h3⟩ | ⟨hK, h1, h2, h3, h4⟩ | ⟨hK, h1, h2, h3, h4⟩ <;>
  rcases k with ⟨kK, k1, k2⟩ | ⟨kK, k1, k2⟩ | ⟨kK, k1, k2, k3⟩ | ⟨kK, k1, k2, k3⟩ | ⟨kK, k1, k2, k3, k4⟩ | ⟨kK, k1, k2, k3, k4⟩ <;> first | (exfalso; omega) | skip
  · obtain ⟨a, b, c⟩ := h1.uniq k1
    exact ⟨a, b, c, h2.trans k2.symm⟩
  · obtain ⟨b, c, d⟩ := h2.uniq k2
    exact ⟨h1.trans k1.symm, b, c, d⟩
  · refine ⟨?_, ?_, h1.trans k1.symm, h2.trans k2.symm⟩ <;> (rcases h3 with ⟨a, b, c⟩ | ⟨a, b, c⟩ <;> rcases k3 with ⟨a', b', c'⟩ | ⟨a', b', c'⟩ <;> first | exact absurd a a' | exact absurd a' a | exact b.trans b'.symm | exact c.trans c'.symm)
  · refine ⟨h1.trans k1.symm, ?_, h2.trans k2.symm, ?_⟩ <;> (rcases h3 with ⟨a, b, c⟩ | ⟨a, b, c⟩ <;> rcases k3 with ⟨a', b', c'⟩ | ⟨a', b', c'⟩ <;> first | exact absurd a a' | exact absurd a' a | exact b.trans b'.symm | exact c.trans c'.symm)
  · exact ⟨h1.trans k1.symm, h2.trans k2.symm, h3.trans k3.symm, h4.trans k4.symm⟩
  · exact ⟨h1.trans k1.symm, h2.trans k2.symm, h3.trans k3.symm, h4.trans k4.symm⟩

theorem get_u (L : Lay) (R V : Nat → Int) (at_ : Int) (w : World) (p : List Addr) (h : Ar w L R V) (hp : Errs17 w p) :
    Calls Tryd.prog 29 #[L.ptr, .int .i64 at_] w fun e w' => ∃ x ev, e = .returned (.tuple #[.int .i64 x, ev]) ∧ GetRes p R V L.n at_ x ev ∧ Ar w' L R V ∧ Upd L w w' := by
  by_cases hin : InRun R L.n at_
  · obtain ⟨q, r, ha, hq, hr, hne⟩ := id hin
    exact (get_in_u L R V at_ q r w h ha hq hr hne).mono fun e w' ⟨h1, h2, h3⟩ => ⟨_, _, h1, .inl ⟨hin, by rw [show at_.toNat = 16 * q + r by omega], rfl⟩, h2, h3⟩
  · exact (get_not_u L R V at_ w p h hp hin).mono fun e w' ⟨h1, h2, h3⟩ => ⟨_, _, h1, .inr ⟨hin, rfl, rfl⟩, h2, h3⟩
theorem set_u (L : Lay) (R V : Nat → Int) (at_ v : Int) (w : World) (p : List Addr) (h : Ar w L R V) (hp : Errs17 w p) :
    Calls Tryd.prog 28 #[L.ptr, .int .i64 at_, .int .i64 v] w fun e w' => ∃ ev V', e = .returned ev ∧ SetRes p R V L.n at_ v ev V' ∧ Ar w' L R V' ∧ Upd L w w' := by
  by_cases hin : InRun R L.n at_
  · obtain ⟨q, r, ha, hq, hr, hne⟩ := id hin
    exact (set_in_u L R V at_ q r v w h ha hq hr hne).mono fun e w' ⟨h1, h2, h3⟩ => ⟨_, _, h1, .inl ⟨hin, rfl, by rw [show at_.toNat = 16 * q + r by omega]⟩, h2, h3⟩
  · exact (set_not_u L R V at_ v w p h hp hin).mono fun e w' ⟨h1, h2, h3⟩ => ⟨_, _, h1, .inr ⟨hin, rfl, rfl⟩, h2, h3⟩
theorem free_u (L : Lay) (R V : Nat → Int) (at_ : Int) (w : World) (p : List Addr) (h : Ar w L R V) (hp : Errs17 w p) :
    Calls Tryd.prog 22 #[L.ptr, .int .i64 at_] w fun e w' => ∃ ev R' V', e = .returned ev ∧ FreeRes p R V L.n at_ ev R' V' ∧ Ar w' L R' V' ∧ Upd L w w' :=
  (free_any L R V at_ w p h hp).mono fun _ _ ⟨f, t, h1, h2, h3, h4⟩ => ⟨_, _, _, h2, ⟨f, t, h1, rfl, rfl, rfl⟩, h3, h4⟩


end Go.Proofs.YtndhgdjcbegjdaaDoor.Ck
