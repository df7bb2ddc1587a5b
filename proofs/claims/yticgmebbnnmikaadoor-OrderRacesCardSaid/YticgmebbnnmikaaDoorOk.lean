/- Package order: the walk in memory. No Go text is walked here. -/
import Derived.Test.YticgmebbnnmikaaDoorOj
namespace Go.Proofs.YticgmebbnnmikaaDoor.Ck
open Go.RowKit

/-- a map of what is known -/
def MSn (w : World) (b n : Nat) (f : Int → Sn) : Prop := ∃ L, VMap w b n (snV sn0) L ∧ ∀ x, (L x).getD (snV sn0) = snV (f x)
theorem sn0_zero (w : World) : (zeroValue 58).run Tryd.prog w = .ok (snV sn0) w := by kernel_rfl
theorem MSn.made (w : World) : MSn (w.alloc (.map #[] 0)) w.heap.size 0 (fun _ => sn0) := ⟨_, VMap.made w _, fun _ => rfl⟩
theorem MSn.keep {w w' : World} {b n : Nat} {f : Int → Sn} (h : MSn w b n f) (hb : w'.heap[b]? = w.heap[b]?) : MSn w' b n f := by
  obtain ⟨L, h1, h2⟩ := h
  exact ⟨L, h1.keep hb, h2⟩
theorem MSn.more {w : World} {b n : Nat} {f : Int → Sn} (h : MSn w b n f) : MSn w b (n + 1) f := by
  obtain ⟨L, ⟨D, h1, h3⟩, h2⟩ := h
  exact ⟨L, ⟨D, h1.mono (Nat.le_succ _), h3⟩, h2⟩
theorem MSn.blk {w : World} {b n : Nat} {f : Int → Sn} (h : MSn w b n f) : ∃ es c, w.heap[b]? = some (.map es c) := by
  obtain ⟨L, h1, h2⟩ := h
  exact h1.blk
theorem MSn.look {w : World} {b n : Nat} {f : Int → Sn} (h : MSn w b n f) {x : Int} (hx : wfI x) : (Instr.lookup 71 (.map (some b)) (.int .i64 x) false).run Tryd.prog w = .ok (snV (f x)) w := by
  obtain ⟨L, h1, h2⟩ := h
  rw [← h2 x]
  exact h1.look Tryd.underlying71 (sn0_zero w) hx
theorem MSn.put {w : World} {b n : Nat} {f : Int → Sn} (h : MSn w b n f) (hn : n < maxLen) {x : Int} (hx : wfI x) (s : Sn) : ∃ w', (Instr.mapUpdate 71 (.map (some b)) (.int .i64 x) (snV s)).run Tryd.prog w = .ok () w' ∧ MSn w' b (n + 1) (up f x s) ∧ w.grownBy w' (some b) := by
  obtain ⟨L, h1, h2⟩ := h
  obtain ⟨w', r1, r2, r3⟩ := h1.put hn Tryd.underlying71 hx (snV s)
  refine ⟨w', r1, ⟨_, r2, fun y => ?_⟩, r3⟩
  unfold up
  split
  · rfl
  · exact h2 y
/-- a channel's two rows -/
def chV (a b : Value) : Value := .agg #[a, b]
def chZ : Value := chV (.slice none 0 0) (.slice none 0 0)
theorem chZ_zero (w : World) : (zeroValue 101).run Tryd.prog w = .ok chZ w := by kernel_rfl
def rowL (ss rs : Int → List Int) (o : Int) (c : Bool) : List Int := if c = true then rs o else ss o
/-- the channels, as a map in memory; v: their rows -/
structure MCh (w : World) (B b n : Nat) (ss rs : Int → List Int) (v : Int → Bool → Value) : Prop where
  map : ∃ L, VMap w b n chZ L ∧ ∀ x, (L x).getD chZ = chV (v x false) (v x true)
  row : ∀ x c, w.ownsRow B 3 1 (v x c) (rowL ss rs x c).length (nts (rowL ss rs x c))
  apart : ∀ x c y d, ¬ (x = y ∧ c = d) → ∀ k, (v x c).ownBlock = some k → (v y d).ownBlock ≠ some k
theorem MCh.made (w : World) (B : Nat) : MCh (w.alloc (.map #[] 0)) B w.heap.size 0 (fun _ => []) (fun _ => []) (fun _ _ => .slice none 0 0) := by
  refine ⟨⟨_, VMap.made w _, fun _ => rfl⟩, fun x c => ?_, fun x c y d _ k hk => by cases hk⟩
  have e : rowL (fun _ => []) (fun _ => []) x c = [] := by unfold rowL; split <;> rfl
  rw [e]
  exact ⟨rfl, .inl ⟨rfl, rfl⟩⟩
theorem MCh.blk {w : World} {B b n : Nat} {ss rs : Int → List Int} {v : Int → Bool → Value} (h : MCh w B b n ss rs v) : ∃ es c, w.heap[b]? = some (.map es c) := by
  obtain ⟨L, h1, h2⟩ := h.map
  exact h1.blk
theorem MCh.keep {w w' : World} {B b n : Nat} {ss rs : Int → List Int} {v : Int → Bool → Value} (h : MCh w B b n ss rs v) (hb : w'.heap[b]? = w.heap[b]?) (hr : ∀ x c k, (v x c).ownBlock = some k → w'.heap[k]? = w.heap[k]?) : MCh w' B b n ss rs v := by
  obtain ⟨L, h1, h2⟩ := h.map
  exact ⟨⟨L, h1.keep hb, h2⟩, fun x c => own_keep (h.row x c) (hr x c), h.apart⟩
theorem MCh.more {w : World} {B b n : Nat} {ss rs : Int → List Int} {v : Int → Bool → Value} (h : MCh w B b n ss rs v) : MCh w B b (n + 1) ss rs v := by
  obtain ⟨L, ⟨D, h1, h3⟩, h2⟩ := h.map
  exact ⟨⟨L, ⟨D, h1.mono (Nat.le_succ _), h3⟩, h2⟩, h.row, h.apart⟩
theorem MCh.look {w : World} {B b n : Nat} {ss rs : Int → List Int} {v : Int → Bool → Value} (h : MCh w B b n ss rs v) {x : Int} (hx : wfI x) : (Instr.lookup 72 (.map (some b)) (.int .i64 x) false).run Tryd.prog w = .ok (.agg #[v x false, v x true]) w := by
  obtain ⟨L, h1, h2⟩ := h.map
  have := h1.look Tryd.underlying72 (chZ_zero w) hx
  rw [h2 x] at this
  exact this
def upS (v : Int → Bool → Value) (o : Int) (c : Bool) (u : Value) : Int → Bool → Value := fun x d => if x = o ∧ d = c then u else v x d
/-- a row of a channel grew, and then it is put into the map -/
theorem MCh.put {w w1 : World} {B b n : Nat} {ss rs : Int → List Int} {v : Int → Bool → Value} (h : MCh w B b n ss rs v) (hn : n < maxLen) {o : Int} (ho : wfI o) (c : Bool) {u : Value} {l : List Int} (hg : w.grownBy w1 (v o c).ownBlock) (hu : w1.ownsRow B 3 1 u l.length (nts l)) (hu2 : ∀ k, u.ownBlock = some k → (v o c).ownBlock = some k ∨ w.heap.size ≤ k) {w2 : World} {xb ox nx : Nat} {cx : Array Value} (hx : w.heap[xb]? = some (.cells cx 101 (0, 0))) (hb : Tn w1 w2 xb ox nx) :
    ∃ w3, (Instr.mapUpdate 72 (.map (some b)) (.int .i64 o) (.agg #[upS v o c u o false, upS v o c u o true])).run Tryd.prog w2 = .ok () w3 ∧ MCh w3 B b (n + 1) (if c = true then ss else up ss o l) (if c = true then up rs o l else rs) (upS v o c u) ∧ w2.grownBy w3 (some b) := by
  obtain ⟨L, h1, h2⟩ := h.map
  obtain ⟨es, cl, hbm⟩ := h1.blk
  have hbl := lt_of_blk hbm
  have hne : ∀ x d k, (v x d).ownBlock = some k → k ≠ b := fun x d k hk e => by
    obtain ⟨_, _, cc, hc⟩ := own_type (h.row x d) hk
    rw [e, hbm] at hc
    injection hc with hc
    cases hc
  have hxb : b ≠ xb := fun e => by
    rw [e, hx] at hbm
    injection hbm with hbm
    cases hbm
  have hxr : ∀ y d k, (v y d).ownBlock = some k → k ≠ xb := fun y d k hk e => own_at (h.row y d) hx (by decide) (by rw [hk, e])
  have hxu : ∀ k, u.ownBlock = some k → k ≠ xb := fun k hk => by
    rcases hu2 k hk with e | e
    · exact hxr o c k e
    · have := lt_of_blk hx
      omega
  have k1 : w1.heap[b]? = w.heap[b]? := hg.block b hbl (fun e => hne o c b e.symm rfl)
  have k2 : w2.heap[b]? = w.heap[b]? := (hb.oth b (Nat.lt_of_lt_of_le hbl hg.size) hxb).trans k1
  obtain ⟨w3, r1, r2, r3⟩ := (h1.keep k2).put hn Tryd.underlying72 ho (.agg #[upS v o c u o false, upS v o c u o true])
  have lu : ∀ k, u.ownBlock = some k → k < w1.heap.size := fun k hk => (own_type hu hk).2.1
  have nb : ∀ k, u.ownBlock = some k → k ≠ b := fun k hk => by
    rcases hu2 k hk with e | e
    · exact hne o c k e
    · omega
  refine ⟨w3, r1, ⟨⟨_, r2, fun x => ?_⟩, fun x d => ?_, fun x d y f hxy k hk => ?_⟩, r3⟩
  · unfold up
    by_cases e : x = o
    · subst e
      rw [if_pos rfl]
      rfl
    · rw [if_neg e]
      unfold upS
      rw [if_neg (fun q => e q.1), if_neg (fun q => e q.1)]
      exact h2 x
  · by_cases e : x = o ∧ d = c
    · obtain ⟨rfl, rfl⟩ := e
      have e1 : upS v x d u x d = u := by unfold upS; rw [if_pos ⟨rfl, rfl⟩]
      have e2 : rowL (if d = true then ss else up ss x l) (if d = true then up rs x l else rs) x d = l := by
        unfold rowL up
        cases d <;> simp
      rw [e1, e2]
      exact own_keep hu (fun k hk => (r3.block k (Nat.lt_of_lt_of_le (lu k hk) hb.size) (fun e => nb k hk (Option.some.inj e))).trans (hb.oth k (lu k hk) (hxu k hk)))
    · have e1 : upS v o c u x d = v x d := by unfold upS; rw [if_neg e]
      have e2 : rowL (if c = true then ss else up ss o l) (if c = true then up rs o l else rs) x d = rowL ss rs x d := by
        unfold rowL up
        cases c <;> cases d <;> simp at e ⊢ <;> (intro q; exact absurd q e)
      rw [e1, e2]
      refine own_keep (h.row x d) (fun k hk => ?_)
      have hl := (own_type (h.row x d) hk).2.1
      exact (r3.block k (Nat.lt_of_lt_of_le hl (Nat.le_trans hg.size hb.size)) (fun e => hne x d k hk (Option.some.inj e))).trans ((hb.oth k (Nat.lt_of_lt_of_le hl hg.size) (hxr _ _ k hk)).trans (hg.block k hl (fun q => h.apart x d o c e k hk q.symm)))
  · by_cases e : x = o ∧ d = c
    · by_cases e' : y = o ∧ f = c
      · exact absurd ⟨e.1.trans e'.1.symm, e.2.trans e'.2.symm⟩ hxy
      · have e1 : upS v o c u x d = u := by unfold upS; rw [if_pos e]
        have e2 : upS v o c u y f = v y f := by unfold upS; rw [if_neg e']
        rw [e1] at hk
        rw [e2]
        intro q
        rcases hu2 k hk with g | g
        · exact h.apart y f o c e' k q g
        · have := (own_type (h.row y f) q).2.1
          omega
    · have e1 : upS v o c u x d = v x d := by unfold upS; rw [if_neg e]
      rw [e1] at hk
      by_cases e' : y = o ∧ f = c
      · have e2 : upS v o c u y f = u := by unfold upS; rw [if_pos e']
        rw [e2]
        intro q
        rcases hu2 k q with g | g
        · exact h.apart x d o c e k hk g
        · have := (own_type (h.row x d) hk).2.1
          omega
      · have e2 : upS v o c u y f = v y f := by unfold upS; rw [if_neg e']
        rw [e2]
        exact h.apart x d y f hxy k hk
end Go.Proofs.YticgmebbnnmikaaDoor.Ck
