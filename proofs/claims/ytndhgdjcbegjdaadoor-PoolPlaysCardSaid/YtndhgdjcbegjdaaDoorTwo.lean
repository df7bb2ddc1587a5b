/- Two pools beside one another. -/
import Derived.Test.YtndhgdjcbegjdaaDoorDump
import Derived.Test.YtndhgdjcbegjdaaDoorMayC
namespace Go.Proofs.YtndhgdjcbegjdaaDoor.Ck
open Go.RowKit

def fit (z : Int) : Prop := -9223372036854775808 ≤ z ∧ z ≤ 9223372036854775807

theorem StepRes.fits {p : List Addr} {R V R' V' : Nat → Int} {n : Nat} {K at_ v x : Int} {ev : Value} (h : StepRes p R V n K at_ v x ev R' V') (hV : ∀ i, fit (V i)) (hv : fit v) (i : Nat) : fit (V' i) := by
  have f0 : fit 0 := by unfold fit; omega
  rcases h with ⟨_, _, rfl⟩ | ⟨_, _, f, t, _, _, _, rfl⟩ | ⟨_, _, rfl, _⟩ | ⟨_, _, _, ⟨_, _, rfl⟩ | ⟨_, _, rfl⟩⟩ | ⟨_, _, _, _, rfl⟩ | ⟨_, _, _, _, rfl⟩
  · exact hV i
  · show fit (if _ then _ else _)
    split
    · exact f0
    · exact hV i
  · exact hV i
  · show fit (if _ then _ else _)
    split
    · exact hv
    · exact hV i
  · exact hV i
  · exact f0
  · exact hV i

/-- the errors that a call on an arena answers have numbers -/
theorem StepRes.num {p : List Addr} {R V R' V' : Nat → Int} {n : Nat} {K at_ v x : Int} {ev : Value} (h : StepRes p R V n K at_ v x ev R' V') :
    ∃ z : Int, ∀ w, Errs17 w p → Calls Tryd.prog 8 #[ev] w fun e w' => e = .returned (.int .i64 z) ∧ Below w.heap.size w w' := by
  have hnil : ev = .nilIface → ∃ z : Int, ∀ w, Errs17 w p → Calls Tryd.prog 8 #[ev] w fun e w' => e = .returned (.int .i64 z) ∧ Below w.heap.size w w' := fun e => ⟨0, fun w _ => by
    rw [e]
    exact (num_nil w).mono fun _ _ ⟨h1, h2⟩ => ⟨h1, by rw [← h2]; exact Below.refl _ _⟩⟩
  have herr : ∀ j : Nat, j < 17 → ev = errV p j → ∃ z : Int, ∀ w, Errs17 w p → Calls Tryd.prog 8 #[ev] w fun e w' => e = .returned (.int .i64 z) ∧ Below w.heap.size w w' := fun j hj e => ⟨(j : Int) + 1, fun w hw => by
    rw [e]
    exact num_err p j w hw hj⟩
  rcases h with ⟨_, h1, _⟩ | ⟨_, _, f, t, _, h1, _⟩ | ⟨_, _, _, ⟨_, _, h1⟩ | ⟨_, _, h1⟩⟩ | ⟨_, _, _, ⟨_, h1, _⟩ | ⟨_, h1, _⟩⟩ | ⟨_, _, h1, _⟩ | ⟨_, _, h1, _⟩
  · rcases h1 with ⟨_, _, h1, _⟩ | ⟨_, _, _, h1, _⟩ | ⟨_, f, _, _, h1, _⟩
    · exact herr 0 (by omega) h1
    · exact herr 13 (by omega) h1
    · exact hnil h1
  · split at h1
    · exact hnil h1
    · exact herr 7 (by omega) h1
  · exact hnil h1
  · exact herr 0 (by omega) h1
  · exact hnil h1
  · exact herr 0 (by omega) h1
  · exact hnil h1
  · exact hnil h1

section
variable {w : World} {B pp pb qb m pages : Nat} {s : List Int} {rb : Nat → Nat} {k : Nat} {R V : Nat → Nat → Int}

theorem Ar.keepB {L M : Lay} {R V : Nat → Int} {w w' : World} (h : Ar w M R V) (u : Upd L w w') (h1 : M.ab ≠ L.rb ∧ M.ab ≠ L.pb) (h2 : M.rb ≠ L.rb ∧ M.rb ≠ L.pb) (h3 : M.pb ≠ L.rb ∧ M.pb ≠ L.pb) : Ar w' M R V :=
  h.other ⟨h1.1, h2.1, h3.1, h1.2, h2.2, fun e => absurd e h3.2⟩ u

/-- a pool that another one's arena shares no block with stays as it is -/
theorem PoolIs.keep (h : PoolIs w B pp pb qb m pages s rb k R V) {L : Lay} {w' : World} (u : Upd L w w') (h1 : pp ≠ L.rb ∧ pp ≠ L.pb) (h2 : pb ≠ L.rb ∧ pb ≠ L.pb) (h3 : qb ≠ L.rb ∧ qb ≠ L.pb) (h4 : ∀ j, j < k → rb j ≠ L.rb ∧ rb j ≠ L.pb) :
    PoolIs w' B pp pb qb m pages s rb k R V :=
  { ph := (World.cell?_of_block (w := w) (a := ⟨pp, 0, none⟩) (u.blk pp h1.1 h1.2)).trans h.ph,
    pa := (World.cell?_of_block (w := w) (a := ⟨pp, 1, none⟩) (u.blk pp h1.1 h1.2)).trans h.pa,
    row := by obtain ⟨g, hr⟩ := h.row; exact ⟨g, hr.of_block (u.blk qb h3.1 h3.2)⟩,
    ar := fun j hj => (h.ar j hj).keepB u h3 (h4 j hj) h2,
    word0 := fun i a b => (World.cell?_of_block (w := w) (a := ⟨pb, i, none⟩) (u.blk pb h2.1 h2.2)).trans (h.word0 i a b),
    wordF := fun i a => (u.froz _).trans (h.wordF i a),
    d1 := h.d1, d2 := h.d2, d3 := h.d3,
    rbs := fun j hj => by have := h.rbs j hj; have := u.size; omega,
    rbd := h.rbd, own := h.own, lt := by have := h.lt; have := u.size; omega, le := h.le }
end

/-- a pool's numbers -/
structure Pn where
  B : Nat
  U : Nat
  pp : Nat
  pb : Nat
  qb : Nat
  rb : Nat → Nat

/-- the pool of these numbers, all of whose blocks lie from B on and below U -/
structure PI (w : World) (s : List Int) (c : Pn) (R V : Nat → Nat → Int) : Prop where
  is : PoolIs w c.B c.pp c.pb c.qb s.length 256 s c.rb s.length R V
  up : c.pp < c.U ∧ c.pb < c.U ∧ c.qb < c.U ∧ ∀ j, j < s.length → c.rb j < c.U
  fits : ∀ j i, fit (V j i)

abbrev Pn.lay (c : Pn) (s : List Int) (j : Nat) : Lay := Ck.lay c.qb c.pb s c.rb j

theorem PI.grow {w w' : World} {s : List Int} {c : Pn} {R V : Nat → Nat → Int} (h : PI w s c R V) (hb : Below w.heap.size w w') : PI w' s c R V := ⟨h.is.grow hb, h.up, h.fits⟩
theorem PI.upd {w w' : World} {s : List Int} {c : Pn} {R V : Nat → Nat → Int} (h : PI w s c R V) {j : Nat} (hj : j < s.length) {R' V' : Nat → Int} (hA : Ar w' (c.lay s j) R' V') (u : Upd (c.lay s j) w w') (hf : ∀ i, fit (V' i)) :
    PI w' s c (fun i => if i = j then R' else R i) (fun i => if i = j then V' else V i) :=
  ⟨h.is.upd hj hA u, h.up, fun i k => by
    by_cases e : i = j
    · simp only [if_pos e]; exact hf k
    · simp only [if_neg e]; exact h.fits i k⟩
/-- what is done to an arena of a pool below leaves a pool above -/
theorem PI.above {w w' : World} {s t : List Int} {c d : Pn} {R V RD VD : Nat → Nat → Int} (h : PI w s c R V) (k : PI w t d RD VD) (hcd : d.U ≤ c.B) {j : Nat} (hj : j < t.length) (u : Upd (d.lay t j) w w') : PI w' s c R V := by
  have ho := h.is.own
  have hu := k.up
  have h1 := hu.2.2.2 j hj
  have e1 : (d.lay t j).rb = d.rb j := rfl
  have e2 : (d.lay t j).pb = d.pb := rfl
  exact ⟨h.is.keep u (by omega) (by omega) (by omega) (fun i hi => by have := (h.is.rbs i hi).1; omega), h.up, h.fits⟩
theorem PI.under {w w' : World} {s t : List Int} {c d : Pn} {R V RD VD : Nat → Nat → Int} (h : PI w s c R V) (k : PI w t d RD VD) (hcd : c.U ≤ d.B) {j : Nat} (hj : j < t.length) (u : Upd (d.lay t j) w w') : PI w' s c R V := by
  have ho := k.is.own
  have hu := h.up
  have h1 := (k.is.rbs j hj).1
  have e1 : (d.lay t j).rb = d.rb j := rfl
  have e2 : (d.lay t j).pb = d.pb := rfl
  exact ⟨h.is.keep u (by omega) (by omega) (by omega) (fun i hi => by have := hu.2.2.2 i hi; omega), h.up, h.fits⟩

theorem PI.made {w0 w : World} {s : List Int} {v : Value} (h : NewRes w0 w 256 s v) : ∃ c : Pn, c.B = w0.heap.size ∧ c.U = w.heap.size ∧ v = .pointer (some ⟨c.pp, 0, none⟩) ∧ PI w s c (fun _ _ => 0) (fun _ _ => 0) := by
  obtain ⟨pp, pb, qb, rb, rfl, hP⟩ := h
  exact ⟨⟨w0.heap.size, w.heap.size, pp, pb, qb, rb⟩, rfl, rfl, rfl, hP, ⟨hP.lt.1, hP.lt.2.1, hP.lt.2.2, fun j hj => (hP.rbs j hj).2.1⟩, fun _ _ => by unfold fit; omega⟩

theorem fit_pw (s : List Int) (V : Nat → Nat → Int) (h : ∀ j i, fit (V j i)) (k i : Nat) : fit (pw s V k i) := by
  induction k with
  | zero => show fit 0; unfold fit; omega
  | succ k ih =>
    rw [pw]
    split
    · exact h _ _
    · exact ih

theorem dump_u {w : World} {s : List Int} {c : Pn} {R V : Nat → Nat → Int} (h : PI w s c R V) :
    Calls Tryd.prog 20 #[.pointer (some ⟨c.pp, 0, none⟩)] w fun e w' => (∃ g, e = .returned (.slice (some ⟨g, 0, none⟩) 4096 4096) ∧ Sl w' (.slice (some ⟨g, 0, none⟩) 4096 4096) ((List.range 4096).map (pw s V s.length))) ∧ Below w.heap.size w w' :=
  dump_row (pw s V s.length) c.pp c.pb 256 w (by omega) h.is.lt.1 h.is.lt.2.1 h.is.ph h.is.words (fun i => fit_pw s V h.fits s.length i)

theorem Sl.cut {w : World} {b off n c : Nat} {zs : List Int} (h : Sl w (.slice (some ⟨b, off, none⟩) n c) zs) (l t : Nat) (hlt : l ≤ t) (ht : t ≤ n) :
    Sl w (.slice (some ⟨b, if c = l then off else off + l, none⟩) (t - l) (c - l)) ((zs.drop l).take (t - l)) := by
  have hn := h.len
  obtain ⟨hf, a', c', e, h1, h2, h3⟩ := h
  cases e
  have e2 : ((zs.drop l).take (t - l)).length = t - l := by rw [List.length_take, List.length_drop]; omega
  refine ⟨fun z hz => hf z (List.mem_of_mem_drop (List.mem_of_mem_take hz)), _, _, by rw [e2], by omega, by omega, fun i hi => ?_⟩
  rw [e2] at hi
  obtain ⟨b', off', e3, hlt', hc⟩ := h3 (l + i) (by omega)
  cases e3
  refine ⟨b, _, rfl, hlt', ?_⟩
  rw [if_neg (by omega), Nat.add_assoc, hc]
  simp only [List.getD, List.getElem?_take_of_lt hi, List.getElem?_drop]

/-- an arena's words, out of the words of the whole pool -/
theorem own_words (s : List Int) (V : Nat → Nat → Int) (k j : Nat) (hj : j < k) (hp : 16 * (pre s j + sh s j) ≤ 4096) :
    (((List.range 4096).map (pw s V k)).drop (16 * pre s j)).take (16 * sh s j) = (List.range (16 * sh s j)).map (V j) := by
  apply List.ext_getElem
  · simp; omega
  · intro i h1 h2
    have hi : i < 16 * sh s j := by simpa using h2
    simp only [List.getElem_take, List.getElem_drop, List.getElem_map, List.getElem_range]
    rw [pw_in s V k j _ hj (by omega) (by omega), show 16 * pre s j + i - 16 * pre s j = i by omega]

end Go.Proofs.YtndhgdjcbegjdaaDoor.Ck
