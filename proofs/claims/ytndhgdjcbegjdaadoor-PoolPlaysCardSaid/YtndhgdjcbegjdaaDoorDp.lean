/- A call on an arena and on its model: what they answer is alike, and so they stay; no text of the statement is walked here. -/
import Derived.Test.YtndhgdjcbegjdaaDoorZs
import Derived.Test.YtndhgdjcbegjdaaDoorRg
namespace Go.Proofs.YtndhgdjcbegjdaaDoor.Ck
open Go.RowKit

/-- a value as an error's number -/
def EvN (p : List Addr) (ev : Value) (k : Int) : Prop := (ev = .nilIface ∧ k = 0) ∨ ∃ i : Nat, i < 17 ∧ ev = errV p i ∧ k = i + 1
theorem EvN.num {p : List Addr} {ev : Value} {k : Int} (h : EvN p ev k) (w : World) (hw : Errs17 w p) : Calls Tryd.prog 8 #[ev] w fun e w' => e = .returned (.int .i64 k) ∧ Below w.heap.size w w' := by
  rcases h with ⟨rfl, rfl⟩ | ⟨i, hi, rfl, rfl⟩
  · exact (num_nil w).mono fun _ _ ⟨h1, h2⟩ => ⟨h1, by rw [← h2]; exact Below.refl _ _⟩
  · exact num_err p i w hw hi

theorem Ar.ef {w w' : World} {L : Lay} {S : List Nat} {R V : Nat → Int} (h : Ar w L R V) (hS : L.ab ∉ S ∧ L.rb ∉ S ∧ L.pb ∉ S) (e : Ef S w w') : Ar w' L R V :=
  { small := h.small, ne1 := h.ne1, ne2 := h.ne2, ne3 := h.ne3,
    pages := (World.cell?_of_block (w := w) (a := ⟨L.ab, L.ao, none⟩) (e.blk L.ab h.lt1 hS.1)).trans h.pages,
    runs := (World.cell?_of_block (w := w) (a := ⟨L.ab, L.ao + 1, none⟩) (e.blk L.ab h.lt1 hS.1)).trans h.runs,
    run := fun i hi => (World.cell?_of_block (w := w) (a := ⟨L.rb, i, none⟩) (e.blk L.rb h.lt2 hS.2.1)).trans (h.run i hi),
    runF := fun i hi => (World.frozen?_of_block (w := w) (a := ⟨L.rb, i, none⟩) (e.blk L.rb h.lt2 hS.2.1)).trans (h.runF i hi),
    word := fun i hi => (World.cell?_of_block (w := w) (a := ⟨L.pb, L.po + i, none⟩) (e.blk L.pb h.lt3 hS.2.2)).trans (h.word i hi),
    wordF := fun i hi => (World.frozen?_of_block (w := w) (a := ⟨L.pb, L.po + i, none⟩) (e.blk L.pb h.lt3 hS.2.2)).trans (h.wordF i hi),
    lt1 := Nat.lt_of_lt_of_le h.lt1 e.size, lt2 := Nat.lt_of_lt_of_le h.lt2 e.size, lt3 := Nat.lt_of_lt_of_le h.lt3 e.size }

theorem PoolIs.ed {w : World} {B pp pb qb m pages : Nat} {s : List Int} {rb : Nat → Nat} {k : Nat} {R V : Nat → Nat → Int} (h : PoolIs w B pp pb qb m pages s rb k R V) {w' : World} {S : List Nat} {j : Nat} (hj : j < k) {R' V' : Nat → Int} (hA : Ar w' (lay qb pb s rb j) R' V')
    (hS : pp ∉ S ∧ pb ∉ S ∧ qb ∉ S ∧ ∀ i, i < k → rb i ∉ S) (u : Ed (lay qb pb s rb j) S w w') :
    PoolIs w' B pp pb qb m pages s rb k (fun i => if i = j then R' else R i) (fun i => if i = j then V' else V i) := by
  have hr := h.rbs j hj
  refine {
    ph := (u.cell ⟨pp, 0, none⟩ h.lt.1 (fun e => hr.2.2.1 e.symm) hS.1 (fun e => h.d1 e.1)).trans h.ph,
    pa := (u.cell ⟨pp, 1, none⟩ h.lt.1 (fun e => hr.2.2.1 e.symm) hS.1 (fun e => h.d1 e.1)).trans h.pa,
    row := by obtain ⟨g, hrow⟩ := h.row; exact ⟨g, hrow.of_block (u.blk qb h.lt.2.2 (fun e => hr.2.2.2.2 e.symm) (fun e => h.d3 e.symm) hS.2.2.1)⟩,
    ar := fun i hi => ?_,
    word0 := fun i h1 h2 => ?_,
    wordF := fun i h1 => (u.froz _ h.lt.2.1 hS.2.1).trans (h.wordF i h1),
    d1 := h.d1, d2 := h.d2, d3 := h.d3,
    rbs := fun i hi => by have := h.rbs i hi; have := u.size; omega,
    rbd := h.rbd, own := h.own, lt := by have := h.lt; have := u.size; omega, le := h.le }
  · by_cases e : i = j
    · simp only [if_pos e]
      rw [e]
      exact hA
    · simp only [if_neg e]
      exact (h.ar i hi).ed (h.apart hj hi (Ne.symm e)) ⟨hS.2.2.1, hS.2.2.2 i hi, hS.2.1⟩ u
  · refine (u.cell ⟨pb, i, none⟩ h.lt.2.1 (fun e => hr.2.2.2.1 e.symm) hS.2.1 (fun e => ?_)).trans (h.word0 i h1 h2)
    obtain ⟨_, e1, e2⟩ := e
    simp only [lay] at e1 e2
    have hst := pre_step s hj
    by_cases ez : sh s j = 0
    · rw [ez] at e2
      simp only [if_pos] at e1 e2
      omega
    · rw [if_neg ez] at e1 e2
      omega

/-- what a call on an arena and its model leaves -/
structure Kept (L : Lay) (gm : Nat) (S : List Nat) (w w' : World) : Prop where
  pr : ∃ R V v H, Pr w' L R V gm v H ∧ ∀ b ∈ blks gm v H, b ∈ S ∨ w.heap.size ≤ b
  ed : Ed L S w w'

section
variable {w w' : World} {L : Lay} {R V : Nat → Int} {gm : Nat} {v : Value} {H : List Rn} {S : List Nat}

theorem Rm.upd {n : Nat} (h : Rm w gm n v H V) (hs : ∀ b ∈ blks gm v H, b ≠ L.ab ∧ b ≠ L.rb ∧ b ≠ L.pb) (u : Upd L w w') : Rm w' gm n v H V := h.keep fun b hb => u.blk b (hs b hb).2.1 (hs b hb).2.2
theorem Pr.below (h : Pr w L R V gm v H) (hb : Below w.heap.size w w') : Pr w' L R V gm v H := ⟨h.ar.below hb, h.rm.below hb, h.wr, h.sep, h.fits⟩
theorem Pr.notin (h : Pr w L R V gm v H) : L.ab ∉ blks gm v H ∧ L.rb ∉ blks gm v H ∧ L.pb ∉ blks gm v H :=
  ⟨fun hb => (h.sep _ hb).1 rfl, fun hb => (h.sep _ hb).2.1 rfl, fun hb => (h.sep _ hb).2.2 rfl⟩
theorem Pr.mk' (h : Pr w L R V gm v H) {R' V' : Nat → Int} {v' : Value} {H' : List Rn} (hA : Ar w' L R' V') (hM : Rm w' gm L.n v' H' V') (hW : WR L.n H' R' V') (hf : ∀ i, fit (V' i)) (hb : ∀ b ∈ blks gm v' H', b ∈ blks gm v H ∨ w.heap.size ≤ b) : Pr w' L R' V' gm v' H' :=
  ⟨hA, hM, hW, fun b hb' => by
    rcases hb b hb' with h1 | h1
    · exact h.sep b h1
    · have := h.ar.lt1
      have := h.ar.lt2
      have := h.ar.lt3
      omega, hf⟩
theorem Kept.below {w2 : World} (h : Kept L gm S w w') (hb : Below w'.heap.size w' w2) : Kept L gm S w w2 := by
  obtain ⟨⟨R, V, v, H, hP, hB⟩, hE⟩ := h
  exact ⟨⟨R, V, v, H, hP.below hb, hB⟩, hE.trans (Ed.of_bel hb)⟩
theorem Kept.pre {w0 : World} (h : Kept L gm S w w') (hb : Below w0.heap.size w0 w) : Kept L gm S w0 w' := by
  obtain ⟨⟨R, V, v, H, hP, hB⟩, hE⟩ := h
  exact ⟨⟨R, V, v, H, hP, fun b hb' => (hB b hb').imp id (Nat.le_trans hb.size)⟩, (Ed.of_bel hb).trans hE⟩

theorem uc_lt (R : Nat → Int) (n k : Nat) (hk : k < n) (h : R k = 0) : uc R n < n := by
  induction n with
  | zero => omega
  | succ n ih =>
    rw [uc]
    by_cases e : k = n
    · subst e
      rw [if_pos h]
      have := uc_le R k
      omega
    · have := ih (by omega)
      split <;> omega

theorem ralloc_pr (P : Pr w L R V gm v H) {z x : Int} {p : List Addr} {ev : Value} {R' : Nat → Int} (hA : AllocRes R L.n z p x ev R') {w2 : World} (hAr : Ar w2 L R' V) (hM : Rm w2 gm L.n v H V) (hE : Ed L (blks gm v H) w w2) :
    Calls Tryd.prog 25 #[.pointer (some ⟨gm, 0, none⟩), .int .i64 z] w2 fun e w3 => ∃ k : Int, e = .returned (.tuple #[.int .i64 x, .int .i64 k]) ∧ EvN p ev k ∧ Kept L gm (blks gm v H) w w3 := by
  have hb : ∀ b ∈ blks gm v H, b ∈ blks gm v H ∨ w.heap.size ≤ b := fun b h => .inl h
  have hc : z < 1 ∨ (1 ≤ z ∧ 16 * (L.n : Int) < z) ∨ (1 ≤ z ∧ z ≤ 16 * (L.n : Int)) := by omega
  rcases hc with hz | ⟨hz1, hz⟩ | ⟨hz1, hz⟩
  · obtain ⟨rfl, rfl, rfl⟩ : x = 0 ∧ ev = errV p 0 ∧ R' = R := by
      rcases hA with ⟨_, h1, h2, h3⟩ | ⟨h, _⟩ | ⟨h, _⟩
      · exact ⟨h1, h2, h3⟩
      · omega
      · omega
    refine (ralloc_no w2 gm z hz).mono ?_
    rintro e w3 ⟨rfl, rfl⟩
    exact ⟨1, rfl, .inr ⟨0, by omega, rfl, rfl⟩, ⟨_, _, _, _, P.mk' hAr hM P.wr P.fits hb, hb⟩, hE⟩
  · have hng : NoGap R L.n (need z) := fun f' hf => by unfold need at hf; omega
    obtain ⟨rfl, rfl, rfl⟩ := hA.no hz1 hng
    refine (ralloc_much hM z hz).mono ?_
    rintro e w3 ⟨rfl, rfl⟩
    exact ⟨14, rfl, .inr ⟨13, by omega, rfl, rfl⟩, ⟨_, _, _, _, P.mk' hAr hM P.wr P.fits hb, hb⟩, hE⟩
  · have hc1 : 1 ≤ need z := by unfold need; omega
    have hn := P.ar.small
    refine (ralloc_in gm L.n v H V z (need z) rfl w2 hM hz1 hz (fun f hf hF => ?_)).mono ?_
    · have h0 := (P.wr.free_iff hf).1 hF f (Nat.le_refl _) (by omega)
      have := uc_lt R L.n f (by omega) h0
      have := P.wr.len
      exact ⟨by omega, fun i hi => P.wr.zeroF hf hF i hi⟩
    · rintro e w3 (⟨f, b, v', rfl, hf, hF, hmin, hM3, hEf, hB⟩ | ⟨rfl, hno, hb3⟩)
      · have hg : IsGap R L.n (need z) f := ⟨hf, (P.wr.free_iff hf).1 hF, fun f' h1 h2 => hmin f' h1 ((P.wr.free_iff (by omega)).2 h2)⟩
        obtain ⟨rfl, rfl, rfl⟩ := hA.ok hz1 hg
        have hB2 : ∀ b' ∈ blks gm v' (H ++ [⟨f, need z, b⟩]), b' ∈ blks gm v H ∨ w.heap.size ≤ b' := fun b' h => (hB b' h).imp id (Nat.le_trans hE.size)
        exact ⟨0, rfl, .inl ⟨rfl, rfl⟩, ⟨_, _, _, _, P.mk' (hAr.ef P.notin hEf) hM3 (P.wr.alloc b hg (by omega)) P.fits hB2, hB2⟩, hE.trans (Ed.of_ef hEf)⟩
      · have hng : NoGap R L.n (need z) := fun f' hf h => hno f' hf ((P.wr.free_iff hf).2 h)
        obtain ⟨rfl, rfl, rfl⟩ := hA.no hz1 hng
        exact ⟨14, rfl, .inr ⟨13, by omega, rfl, rfl⟩, ⟨_, _, _, _, P.mk' (hAr.below hb3) (hM.below hb3) P.wr P.fits hb, hb⟩, hE.trans (Ed.of_bel hb3)⟩

theorem rfree_pr (P : Pr w L R V gm v H) {at_ : Int} {p : List Addr} {ev : Value} {R' V' : Nat → Int} (hF : FreeRes p R V L.n at_ ev R' V') :
    ∃ k : Int, EvN p ev k ∧ ∀ w2, Ar w2 L R' V' → Rm w2 gm L.n v H V → Ed L (blks gm v H) w w2 → Calls Tryd.prog 26 #[.pointer (some ⟨gm, 0, none⟩), .int .i64 at_] w2 fun e w3 => e = .returned (.int .i64 k) ∧ Kept L gm (blks gm v H) w w3 := by
  have hb : ∀ b ∈ blks gm v H, b ∈ blks gm v H ∨ w.heap.size ≤ b := fun b h => .inl h
  obtain ⟨f, t, hr, rfl, rfl, rfl⟩ := hF
  refine ⟨if f < t then 0 else 8, ?_, fun w2 hAr hM hE => (rfree_any hM at_).mono ?_⟩
  · by_cases e : f < t
    · rw [if_pos e, if_pos e]; exact .inl ⟨rfl, rfl⟩
    · rw [if_neg e, if_neg e]; exact .inr ⟨7, by omega, rfl, rfl⟩
  · rintro e w3 (⟨rfl, hno, hb3⟩ | ⟨k, v', hk, rfl, hat, hM3, hEf, hB⟩)
    · have hft : f = t := hr.no fun f' hf' hlt e => by
        obtain ⟨x, hx, rfl⟩ := P.wr.first hlt e
        obtain ⟨j, hj, rfl⟩ := List.mem_iff_getElem.1 hx
        have e2 := rat_at H j hj
        rw [List.getElem?_eq_getElem hj] at e2
        exact hno j hj (by rw [← Option.some.inj e2]; exact hf'.symm)
      subst hft
      rw [if_neg (by omega)]
      refine ⟨rfl, ⟨R, V, v, H, P.mk' (R' := R) (V' := V) ((hAr.below hb3).congr (fun i _ => by rw [if_neg (by omega)]) (fun i _ => by rw [if_neg (by omega)])) (hM.below hb3) P.wr P.fits hb, hb⟩, hE.trans (Ed.of_bel hb3)⟩
    · have hx : rat H k ∈ H := List.mem_of_getElem? (rat_at H k hk)
      have hp := P.wr.pos _ hx
      obtain ⟨rfl, rfl⟩ := hr.ok hat.symm (P.wr.isEnd hx)
      rw [if_pos (by omega)]
      have hsp : H = H.take k ++ rat H k :: H.drop (k + 1) := by
        have e := rat_at H k hk
        rw [List.getElem?_eq_getElem hk] at e
        rw [← Option.some.inj e, ← List.drop_eq_getElem_cons hk, List.take_append_drop]
      have hW := P.wr
      generalize rat H k = x at *
      rw [hsp] at hW
      have hW2 := hW.drop
      have hB2 : ∀ b ∈ blks gm v' (H.take k ++ H.drop (k + 1)), b ∈ blks gm v H ∨ w.heap.size ≤ b := fun b h => (hB b h).imp id (Nat.le_trans hE.size)
      have hsub : ∀ y ∈ H.take k ++ H.drop (k + 1), y ∈ H := fun y hy => by
        rw [hsp]
        rcases List.mem_append.1 hy with h | h
        · exact List.mem_append_left _ h
        · exact List.mem_append_right _ (List.mem_cons_of_mem _ h)
      have hnd : ∀ y ∈ H.take k ++ H.drop (k + 1), y.f ≠ x.f := fun y hy e => by
        have hnd := hW.nd
        rw [List.map_append, List.map_cons, List.nodup_append] at hnd
        rcases List.mem_append.1 hy with hy | hy
        · exact hnd.2.2 y.f (List.mem_map.2 ⟨y, hy, rfl⟩) x.f (by simp) e
        · exact (List.nodup_cons.1 hnd.2.1).1 (List.mem_map.2 ⟨y, hy, e⟩)
      have hM4 := hM3.congr (V' := fun i => if 16 * x.f ≤ i ∧ i < 16 * (x.f + x.c) then 0 else V i) (fun y hy i h1 h2 => by
        rw [if_neg]
        intro h3
        exact hnd y hy (by rw [P.wr.uniqW hx (hsub y hy) (i := i) h3.1 h3.2 h1 h2]))
      refine ⟨rfl, ⟨_, _, _, _, P.mk' (hAr.ef P.notin hEf) hM4 hW2 (fun i => ?_) hB2, hB2⟩, hE.trans (Ed.of_ef hEf)⟩
      split
      · unfold fit; omega
      · exact P.fits i
end

end Go.Proofs.YtndhgdjcbegjdaaDoor.Ck
