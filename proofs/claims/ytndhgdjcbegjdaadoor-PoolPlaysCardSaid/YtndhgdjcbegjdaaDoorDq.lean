/- Free of an arena and of its model, in any order: what they answer is known ahead; no text of the statement is walked here. -/
import Derived.Test.YtndhgdjcbegjdaaDoorDp
namespace Go.Proofs.YtndhgdjcbegjdaaDoor.Ck
open Go.RowKit

/-- what is known ahead of a Free of an arena and its model -/
structure FM (p : List Addr) (w : World) (L : Lay) (R V : Nat → Int) (gm : Nat) (v : Value) (H : List Rn) (at_ : Int) (ev : Value) (k : Int) (R0 V0 : Nat → Int) : Prop where
  free : ∀ w2, Ar w2 L R V → Errs17 w2 p → Calls Tryd.prog 22 #[L.ptr, .int .i64 at_] w2 fun e w3 => e = .returned ev ∧ Ar w3 L R0 V0 ∧ Upd L w2 w3
  num : EvN p ev k
  rfree : ∀ w2, Rm w2 gm L.n v H V → Calls Tryd.prog 26 #[.pointer (some ⟨gm, 0, none⟩), .int .i64 at_] w2 fun e w3 => e = .returned (.int .i64 k) ∧
    ∃ v' H', Rm w3 gm L.n v' H' V0 ∧ WR L.n H' R0 V0 ∧ Ef (blks gm v H) w2 w3 ∧ ∀ b ∈ blks gm v' H', b ∈ blks gm v H ∨ w2.heap.size ≤ b
  fits : ∀ i, fit (V0 i)

section
variable {w : World} {L : Lay} {R V : Nat → Int} {gm : Nat} {v : Value} {H : List Rn}

theorem mem_rat {x : Rn} (hx : x ∈ H) : ∃ j, j < H.length ∧ rat H j = x := by
  obtain ⟨j, hj, rfl⟩ := List.mem_iff_getElem.1 hx
  have e2 := rat_at H j hj
  rw [List.getElem?_eq_getElem hj] at e2
  exact ⟨j, hj, (Option.some.inj e2).symm⟩

theorem fm_any (P : Pr w L R V gm v H) (at_ : Int) (p : List Addr) : ∃ ev k R0 V0, FM p w L R V gm v H at_ ev k R0 V0 := by
  have hb : ∀ b ∈ blks gm v H, b ∈ blks gm v H ∨ w.heap.size ≤ b := fun b h => .inl h
  by_cases hx : ∃ x ∈ H, 16 * (x.f : Int) = at_
  · obtain ⟨x, hx, hat⟩ := hx
    have hp := P.wr.pos _ hx
    have hF : FreeRes p R V L.n at_ .nilIface (fun k => if x.f ≤ k ∧ k < x.f + x.c then 0 else R k) (fun k => if 16 * x.f ≤ k ∧ k < 16 * (x.f + x.c) then 0 else V k) :=
      ⟨x.f, x.f + x.c, .inl ⟨hat.symm, P.wr.isEnd hx⟩, by rw [if_pos (by omega)], rfl, rfl⟩
    refine ⟨.nilIface, 0, fun k => if x.f ≤ k ∧ k < x.f + x.c then 0 else R k, fun k => if 16 * x.f ≤ k ∧ k < 16 * (x.f + x.c) then 0 else V k, fun w2 hA hE => (free_u L R V at_ w2 p hA hE).mono ?_, .inl ⟨rfl, rfl⟩, fun w2 hM => (rfree_any hM at_).mono ?_, fun i => ?_⟩
    · rintro e w3 ⟨ev, R1, V1, rfl, hr, hA3, u⟩
      obtain ⟨rfl, rfl, rfl⟩ := hF.uniq hr
      exact ⟨rfl, hA3, u⟩
    · rintro e w3 (⟨rfl, hno, hb3⟩ | ⟨k, v', hk, rfl, hat2, hM3, hEf, hB⟩)
      · obtain ⟨j, hj, rfl⟩ := mem_rat hx
        exact absurd hat (hno j hj)
      · have hx2 : rat H k ∈ H := List.mem_of_getElem? (rat_at H k hk)
        have hxe : rat H k = x := nd_inj Rn.f P.wr.nd hx2 hx (by omega)
        have hsp : H = H.take k ++ x :: H.drop (k + 1) := by
          have e := rat_at H k hk
          rw [List.getElem?_eq_getElem hk, hxe] at e
          rw [← Option.some.inj e, ← List.drop_eq_getElem_cons hk, List.take_append_drop]
        have hW := P.wr
        rw [hsp] at hW
        have hsub : ∀ y ∈ H.take k ++ H.drop (k + 1), y ∈ H := fun y hy => by
          rw [hsp]
          rcases List.mem_append.1 hy with h | h
          · exact List.mem_append_left _ h
          · exact List.mem_append_right _ (List.mem_cons_of_mem _ h)
        have hnd : ∀ y ∈ H.take k ++ H.drop (k + 1), y.f ≠ x.f := fun y hy e => by
          have hnd := hW.nd
          rw [List.map_append, List.map_cons, List.nodup_append] at hnd
          rcases List.mem_append.1 hy with hy | hy
          · exact hnd.2.2 y.f (List.mem_map.2 ⟨y, hy, rfl⟩) x.f (by simp) e
          · exact (List.nodup_cons.1 hnd.2.1).1 (List.mem_map.2 ⟨y, hy, e⟩)
        refine ⟨rfl, v', _, hM3.congr (fun y hy i h1 h2 => ?_), hW.drop, hEf, hB⟩
        rw [if_neg]
        intro h3
        exact hnd y hy (by rw [P.wr.uniqW hx (hsub y hy) (i := i) h3.1 h3.2 h1 h2])
    · split
      · unfold fit; omega
      · exact P.fits i
  · have hno0 : ∀ f' : Nat, at_ = 16 * (f' : Int) → f' < L.n → R f' ≠ (f' : Int) + 1 := fun f' h1 h2 e => by
      obtain ⟨x, hx', rfl⟩ := P.wr.first h2 e
      exact hx ⟨x, hx', h1.symm⟩
    have hF : FreeRes p R V L.n at_ (errV p 7) R V :=
      ⟨0, 0, .inr ⟨rfl, Nat.zero_le _, hno0⟩, by rw [if_neg (by omega)], by funext k; rw [if_neg (by omega)], by funext k; rw [if_neg (by omega)]⟩
    refine ⟨errV p 7, 8, R, V, fun w2 hA hE => (free_u L R V at_ w2 p hA hE).mono ?_, .inr ⟨7, by omega, rfl, rfl⟩, fun w2 hM => (rfree_any hM at_).mono ?_, P.fits⟩
    · rintro e w3 ⟨ev, R1, V1, rfl, hr, hA3, u⟩
      obtain ⟨rfl, rfl, rfl⟩ := hF.uniq hr
      exact ⟨rfl, hA3, u⟩
    · rintro e w3 (⟨rfl, hno, hb3⟩ | ⟨k, v', hk, rfl, hat2, hM3, hEf, hB⟩)
      · exact ⟨rfl, v, H, hM.below hb3, P.wr, Ef.of_bel hb3, fun b h => .inl h⟩
      · exact absurd ⟨rat H k, List.mem_of_getElem? (rat_at H k hk), hat2⟩ hx

/-- the arena and its model, of which each is freed or isn't yet -/
structure S7 (w wi : World) (L : Lay) (R V : Nat → Int) (gm : Nat) (v : Value) (H : List Rn) (R0 V0 : Nat → Int) (a m : Bool) : Prop where
  ed : Ed L (blks gm v H) w wi
  ar : Ar wi L (if a then R0 else R) (if a then V0 else V)
  rm : if m then ∃ v' H', Rm wi gm L.n v' H' V0 ∧ WR L.n H' R0 V0 ∧ ∀ b ∈ blks gm v' H', b ∈ blks gm v H ∨ w.heap.size ≤ b else Rm wi gm L.n v H V

variable {p : List Addr} {at_ : Int} {ev : Value} {k : Int} {R0 V0 : Nat → Int} {wi : World} {a m : Bool}

theorem S7.start (P : Pr w L R V gm v H) (hb : Below w.heap.size w wi) : S7 w wi L R V gm v H R0 V0 false false := ⟨Ed.of_bel hb, P.ar.below hb, P.rm.below hb⟩
theorem S7.below (h : S7 w wi L R V gm v H R0 V0 a m) {w' : World} (hb : Below wi.heap.size wi w') : S7 w w' L R V gm v H R0 V0 a m := by
  refine ⟨h.ed.trans (Ed.of_bel hb), h.ar.below hb, ?_⟩
  have := h.rm
  cases m
  · exact Rm.below this hb
  · obtain ⟨v', H', h1, h2⟩ := this
    exact ⟨v', H', h1.below hb, h2⟩
theorem S7.free (P : Pr w L R V gm v H) (F : FM p w L R V gm v H at_ ev k R0 V0) (hN : ∀ w', Ed L (blks gm v H) w w' → Errs17 w' p) (h : S7 w wi L R V gm v H R0 V0 false m) :
    Calls Tryd.prog 22 #[L.ptr, .int .i64 at_] wi fun e w3 => e = .returned ev ∧ S7 w w3 L R V gm v H R0 V0 true m := by
  refine (F.free wi h.ar (hN _ h.ed)).mono ?_
  rintro e w3 ⟨rfl, hA, u⟩
  refine ⟨rfl, h.ed.trans (Ed.of_upd u), hA, ?_⟩
  have := h.rm
  cases m
  · exact Rm.upd this P.sep u
  · obtain ⟨v', H', h1, h2, h3⟩ := this
    refine ⟨v', H', h1.upd (L := L) (fun b hb => ?_) u, h2, h3⟩
    rcases h3 b hb with h4 | h4
    · exact P.sep b h4
    · have := P.ar.lt1
      have := P.ar.lt2
      have := P.ar.lt3
      omega
theorem S7.rfree (P : Pr w L R V gm v H) (F : FM p w L R V gm v H at_ ev k R0 V0) (h : S7 w wi L R V gm v H R0 V0 a false) :
    Calls Tryd.prog 26 #[.pointer (some ⟨gm, 0, none⟩), .int .i64 at_] wi fun e w3 => e = .returned (.int .i64 k) ∧ S7 w w3 L R V gm v H R0 V0 a true := by
  refine (F.rfree wi h.rm).mono ?_
  rintro e w3 ⟨rfl, v', H', hM, hW, hE, hB⟩
  exact ⟨rfl, h.ed.trans (Ed.of_ef hE), h.ar.ef P.notin hE, v', H', hM, hW, fun b hb => (hB b hb).imp id (Nat.le_trans h.ed.size)⟩
theorem S7.num (F : FM p w L R V gm v H at_ ev k R0 V0) (hN : ∀ w', Ed L (blks gm v H) w w' → Errs17 w' p) (h : S7 w wi L R V gm v H R0 V0 a m) :
    Calls Tryd.prog 8 #[ev] wi fun e w3 => e = .returned (.int .i64 k) ∧ S7 w w3 L R V gm v H R0 V0 a m :=
  (F.num.num wi (hN _ h.ed)).mono fun _ _ ⟨h1, h2⟩ => ⟨h1, h.below h2⟩
theorem S7.kept (P : Pr w L R V gm v H) (F : FM p w L R V gm v H at_ ev k R0 V0) (h : S7 w wi L R V gm v H R0 V0 true true) : Kept L gm (blks gm v H) w wi := by
  obtain ⟨v', H', h1, h2, h3⟩ := h.rm
  exact ⟨⟨R0, V0, v', H', P.mk' h.ar h1 h2 F.fits h3, h3⟩, h.ed⟩
end

end Go.Proofs.YtndhgdjcbegjdaaDoor.Ck
