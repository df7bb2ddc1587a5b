/- What a state (sync.State) is in memory; no Go text is walked here. -/
import Derived.Test.YtghfjnnmpmfboaaDoorYa
import Derived.Maps.AppendAt
import Derived.OwnWalk
namespace Go.Proofs.YtghfjnnmpmfboaaDoor.Ck
open Go.RowKit

abbrev V3 := Int × Int × Int
/-- values' cells, one behind the other -/
def vcs : List V3 → List Value
  | [] => []
  | v :: l => .int .i64 v.1 :: .int .i64 v.2.1 :: .int .u64 v.2.2 :: vcs l
structure Qu where
  t : Int
  room : Int
  l : List V3
/-- what a state holds -/
structure St where
  P : List V3
  M : List Bool
  C : List Qu
  A : List Int
def qcs : List Qu → List Value → List Value
  | q :: C, v :: vs => .int .i64 q.t :: .int .i64 q.room :: v :: qcs C vs
  | _, _ => []
def bls (l : List Bool) : List Value := l.map Value.bool
def nts (l : List Int) : List Value := l.map (Value.int .i64)

theorem vcs_len : ∀ l, (vcs l).length = l.length * 3
  | [] => rfl
  | v :: l => by
    simp only [vcs, List.length_cons, vcs_len l]
    omega
theorem vcs_app : ∀ a b, vcs (a ++ b) = vcs a ++ vcs b
  | [], b => rfl
  | v :: a, b => by simp [vcs, vcs_app a b]
theorem vcs_at : ∀ (l : List V3) (i : Nat) (v : V3), l[i]? = some v → (vcs l)[3 * i]? = some (.int .i64 v.1) ∧ (vcs l)[3 * i + 1]? = some (.int .i64 v.2.1) ∧ (vcs l)[3 * i + 2]? = some (.int .u64 v.2.2)
  | [], i, v, h => by simp at h
  | x :: l, 0, v, h => by
    simp at h
    subst h
    exact ⟨rfl, rfl, rfl⟩
  | x :: l, i + 1, v, h => vcs_at l i v (by simpa using h)
theorem vcs_set : ∀ (l : List V3) (i : Nat) (v : V3), vcs (l.set i v) = (((vcs l).set (3 * i) (.int .i64 v.1)).set (3 * i + 1) (.int .i64 v.2.1)).set (3 * i + 2) (.int .u64 v.2.2)
  | [], i, v => by simp [vcs]
  | x :: l, 0, v => by simp [vcs]
  | x :: l, i + 1, v => by
    rw [show 3 * (i + 1) + 2 = 3 * i + 2 + 1 + 1 + 1 by omega, show 3 * (i + 1) + 1 = 3 * i + 1 + 1 + 1 + 1 by omega, show 3 * (i + 1) = 3 * i + 1 + 1 + 1 by omega]
    simp only [List.set_cons_succ, vcs, vcs_set l i v]
theorem vcs_inj : ∀ (a b : List V3), vcs a = vcs b → a = b
  | [], [], _ => rfl
  | [], y :: b, h => by simp [vcs] at h
  | x :: a, [], h => by simp [vcs] at h
  | x :: a, y :: b, h => by
    simp only [vcs, List.cons.injEq, Value.int.injEq, true_and] at h
    obtain ⟨h1, h2, h3, h4⟩ := h
    rw [vcs_inj a b h4]
    congr 1
    exact Prod.ext h1 (Prod.ext h2 h3)
theorem vcs_one (l : List V3) : ∀ u ∈ vcs l, u.oneCell' = true := by
  induction l with
  | nil => intro u h; simp [vcs] at h
  | cons v l ih =>
    intro u h
    simp only [vcs, List.mem_cons] at h
    rcases h with rfl | rfl | rfl | h
    · rfl
    · rfl
    · rfl
    · exact ih u h
theorem qcs_len : ∀ (C : List Qu) (vs : List Value), vs.length = C.length → (qcs C vs).length = C.length * 3
  | [], [], _ => rfl
  | q :: C, v :: vs, h => by
    simp only [qcs, List.length_cons, qcs_len C vs (by simpa using h)]
    omega
theorem qcs_app : ∀ (C : List Qu) (vs : List Value) (q : Qu) (v : Value), vs.length = C.length → qcs (C ++ [q]) (vs ++ [v]) = qcs C vs ++ [.int .i64 q.t, .int .i64 q.room, v]
  | [], [], q, v, _ => rfl
  | x :: C, y :: vs, q, v, h => by simp [qcs, qcs_app C vs q v (by simpa using h)]
theorem qcs_at : ∀ (C : List Qu) (vs : List Value) (i : Nat) (q : Qu) (v : Value), C[i]? = some q → vs[i]? = some v → (qcs C vs)[3 * i]? = some (.int .i64 q.t) ∧ (qcs C vs)[3 * i + 1]? = some (.int .i64 q.room) ∧ (qcs C vs)[3 * i + 2]? = some v
  | [], vs, i, q, v, h, _ => by simp at h
  | q :: C, [], i, q', v, _, h => by simp at h
  | q :: C, x :: vs, 0, q', v, h, h' => by
    simp at h h'
    subst h h'
    exact ⟨rfl, rfl, rfl⟩
  | q :: C, x :: vs, i + 1, q', v, h, h' => qcs_at C vs i q' v (by simpa using h) (by simpa using h')
theorem qcs_set : ∀ (C : List Qu) (vs : List Value) (i : Nat) (q q' : Qu) (v : Value), vs.length = C.length → C[i]? = some q → q'.t = q.t → q'.room = q.room → qcs (C.set i q') (vs.set i v) = (qcs C vs).set (3 * i + 2) v
  | [], [], i, q, q', v, _, h, _, _ => by simp at h
  | x :: C, y :: vs, 0, q, q', v, _, h, h1, h2 => by
    simp at h
    subst h
    simp [qcs, h1, h2]
  | x :: C, y :: vs, i + 1, q, q', v, hl, h, h1, h2 => by
    have e : 3 * (i + 1) + 2 = 3 * i + 2 + 1 + 1 + 1 := by omega
    simp only [List.set_cons_succ, qcs, e, qcs_set C vs i q q' v (by simpa using hl) (by simpa using h) h1 h2]

theorem lt_of_blk {w : World} {g : Nat} {o : Obj} (h : w.heap[g]? = some o) : g < w.heap.size := (Array.getElem?_eq_some_iff.1 h).1
theorem blk_frz {w : World} {g : Nat} {c : Array Value} {T : TypeId} (h : w.heap[g]? = some (.cells c T (0, 0))) (i : Nat) : w.frozen? ⟨g, i, none⟩ = false := frozen_of_row w g i _ T h
theorem size_setCell (w : World) (a : Addr) (v : Value) : (w.setCell a v).heap.size = w.heap.size := by
  simp only [World.setCell]
  split <;> simp
section
variable {w w' : World} {B : Nat} {T : TypeId} {n : Nat} {v : Value} {len : Nat} {xs : List Value}
theorem own_type (h : w.ownsRow B T n v len xs) {k : Nat} (hk : v.ownBlock = some k) : B ≤ k ∧ k < w.heap.size ∧ ∃ c, w.heap[k]? = some (.cells c T (0, 0)) := by
  obtain ⟨hl, h0 | ⟨gb, cap, cur, rfl, hB, hg, r⟩⟩ := h
  · rw [h0.1] at hk
    cases hk
  · have e : gb = k := Option.some.inj hk
    subst e
    exact ⟨hB, lt_of_blk hg, cur, hg⟩
theorem own_keep (h : w.ownsRow B T n v len xs) (hb : ∀ k, v.ownBlock = some k → w'.heap[k]? = w.heap[k]?) : w'.ownsRow B T n v len xs := by
  obtain ⟨hl, h0 | ⟨gb, cap, cur, rfl, hB, hg, r⟩⟩ := h
  · exact ⟨hl, .inl h0⟩
  · exact ⟨hl, .inr ⟨gb, cap, cur, rfl, hB, (hb gb rfl).trans hg, r⟩⟩
theorem own_form (h : w.ownsRow B T n v len xs) : (v = .slice none 0 0 ∧ len = 0) ∨ ∃ b c, v = .slice (some ⟨b, 0, none⟩) len c ∧ len ≤ c ∧ c ≤ maxLen := by
  obtain ⟨hl, h0 | ⟨gb, cap, cur, rfl, hB, hg, h1, h2, r⟩⟩ := h
  · exact .inl h0
  · exact .inr ⟨_, _, rfl, h1, h2⟩
theorem own_slice (h : w.ownsRow B T n v len xs) : ∃ a c, v = .slice a len c ∧ len ≤ c ∧ c ≤ maxLen := by
  rcases own_form h with ⟨rfl, rfl⟩ | ⟨b, c, rfl, h1, h2⟩
  · exact ⟨_, _, rfl, by omega, by unfold maxLen; omega⟩
  · exact ⟨_, _, rfl, h1, h2⟩
theorem own_some (h : w.ownsRow B T n v len xs) (hl : 0 < len) : ∃ b c, v = .slice (some ⟨b, 0, none⟩) len c ∧ len ≤ c ∧ c ≤ maxLen := by
  rcases own_form h with ⟨_, e⟩ | h
  · omega
  · exact h
theorem own_cell {b m c : Nat} (h : w.ownsRow B T n (.slice (some ⟨b, 0, none⟩) m c) len xs) (j : Nat) (u : Value) (hu : xs[j]? = some u) : w.cell? ⟨b, j, none⟩ = some u ∧ w.frozen? ⟨b, j, none⟩ = false := by
  obtain ⟨hl, ⟨h0, _⟩ | ⟨gb, cap, cur, e, hB, hg, h1, h2, h3, h4⟩⟩ := h
  · cases h0
  · simp only [Value.slice.injEq, Option.some.injEq, Addr.mk.injEq, and_true] at e
    obtain ⟨rfl, rfl, rfl⟩ := e
    refine ⟨?_, blk_frz hg j⟩
    have hj : j < xs.length := (List.getElem?_eq_some_iff.1 hu).1
    have e2 : (cur.toList.take (m * n))[j]? = xs[j]? := by rw [h4]
    rw [List.getElem?_take_of_lt (by omega), hu] at e2
    exact blk_cell hg j u (by rw [← Array.getElem?_toList]; exact e2)
theorem own_set {b m c : Nat} (h : w.ownsRow B T n (.slice (some ⟨b, 0, none⟩) m c) len xs) (j : Nat) (u : Value) : (w.setCell ⟨b, j, none⟩ u).ownsRow B T n (.slice (some ⟨b, 0, none⟩) m c) len (xs.set j u) := by
  obtain ⟨hl, ⟨h0, _⟩ | ⟨gb, cap, cur, e, hB, hg, h1, h2, h3, h4⟩⟩ := h
  · cases h0
  · simp only [Value.slice.injEq, Option.some.injEq, Addr.mk.injEq, and_true] at e
    obtain ⟨rfl, rfl, rfl⟩ := e
    refine ⟨by simpa using hl, .inr ⟨b, c, cur.setIfInBounds j u, rfl, hB, heap_setCell_same w b j _ T _ hg, h1, h2, by simpa using h3, ?_⟩⟩
    rw [Array.toList_setIfInBounds, List.take_set, h4]
end
theorem own_apart {w : World} {B B' : Nat} {T T' : TypeId} {n n' : Nat} {v v' : Value} {len len' : Nat} {xs xs' : List Value} (h : w.ownsRow B T n v len xs) (h' : w.ownsRow B' T' n' v' len' xs') (hT : T ≠ T') : ∀ k, v.ownBlock = some k → v'.ownBlock ≠ some k := fun k hk hk' => by
  obtain ⟨_, _, c, hc⟩ := own_type h hk
  obtain ⟨_, _, c', hc'⟩ := own_type h' hk'
  rw [hc] at hc'
  have := Option.some.inj hc'
  injection this with _ h2 _
  exact hT h2
theorem own_at {w : World} {B : Nat} {T T' : TypeId} {n : Nat} {v : Value} {len : Nat} {xs : List Value} (h : w.ownsRow B T n v len xs) {g : Nat} {c : Array Value} (hg : w.heap[g]? = some (.cells c T' (0, 0))) (hT : T ≠ T') : v.ownBlock ≠ some g := fun e => by
  obtain ⟨_, _, c', hc⟩ := own_type h e
  rw [hg] at hc
  have := Option.some.inj hc
  injection this with _ h2 _
  exact hT h2.symm

/-- from w to w' only blocks of F, and what is new, have turned; F' has none but of F and new ones -/
structure Ch (F F' : Nat → Prop) (w w' : World) : Prop where
  os : w'.os = w.os
  tape : w'.tape = w.tape
  output : w'.output = w.output
  size : w.heap.size ≤ w'.heap.size
  blk : ∀ k, k < w.heap.size → ¬ F k → w'.heap[k]? = w.heap[k]?
  grow : ∀ k, F' k → F k ∨ w.heap.size ≤ k
theorem Ch.refl (F : Nat → Prop) (w : World) : Ch F F w w := ⟨rfl, rfl, rfl, Nat.le_refl _, fun _ _ _ => rfl, fun _ h => .inl h⟩
theorem Ch.trans {F F' F'' : Nat → Prop} {a b c : World} (h : Ch F F' a b) (k : Ch F' F'' b c) : Ch F F'' a c :=
  ⟨k.os.trans h.os, k.tape.trans h.tape, k.output.trans h.output, Nat.le_trans h.size k.size, fun i hi hF => (k.blk i (Nat.lt_of_lt_of_le hi h.size) (fun hF' => by
    rcases h.grow i hF' with h1 | h1
    · exact hF h1
    · omega)).trans (h.blk i hi hF), fun i hi => by
    rcases k.grow i hi with h1 | h1
    · exact h.grow i h1
    · exact .inr (Nat.le_trans h.size h1)⟩
theorem Ch.of_bel {F : Nat → Prop} {w w' : World} (h : Below w.heap.size w w') : Ch F F w w' := ⟨h.os, h.tape, h.output, h.size, fun k hk _ => h.block k hk, fun _ h => .inl h⟩
theorem Ch.bel {F F' : Nat → Prop} {w w' : World} {B : Nat} (h : Ch F F' w w') (hF : ∀ k, F k → B ≤ k) (hB : B ≤ w.heap.size) : Below B w w' :=
  ⟨h.os, h.tape, h.output, h.size, fun k hk => h.blk k (by omega) (fun e => by have := hF k e; omega)⟩
theorem Ch.drew {F F' : Nat → Prop} {w w' : World} (h : Ch F F' w w') : Ch F F' w w'.drew := ⟨h.os, h.tape, h.output, h.size, h.blk, h.grow⟩
theorem Ch.below {F F' : Nat → Prop} {w wa wb : World} (h : Ch F F' w wa) (k : Below w.heap.size wa wb) : Ch F F' w wb :=
  ⟨k.os.trans h.os, k.tape.trans h.tape, k.output.trans h.output, Nat.le_trans h.size k.size, fun i hi hF => (k.block i hi).trans (h.blk i hi hF), h.grow⟩
theorem Ch.low {F F' : Nat → Prop} {w w' : World} {B : Nat} (h : Ch F F' w w') (hF : ∀ k, F k → B ≤ k) (hB : B ≤ w.heap.size) : ∀ k, F' k → B ≤ k := fun k hk => by
  rcases h.grow k hk with h1 | h1
  · exact hF k h1
  · omega

/-- a state in memory: g its block, F all that it may write -/
structure Sv (w : World) (F : Nat → Prop) (g : Nat) (s : St) (vP vM vC vA : Value) (vs : List Value) : Prop where
  at_ : w.heap[g]? = some (.cells #[vP, vM, vC, vA] 96 (0, 0))
  pl : w.ownsRow 0 41 3 vP s.P.length (vcs s.P)
  mu : w.ownsRow 0 4 1 vM s.M.length (bls s.M)
  ch : w.ownsRow 0 98 3 vC s.C.length (qcs s.C vs)
  ato : w.ownsRow 0 3 1 vA s.A.length (nts s.A)
  len : vs.length = s.C.length
  q : ∀ (i : Nat) (q : Qu) (v : Value), s.C[i]? = some q → vs[i]? = some v → w.ownsRow 0 41 3 v q.l.length (vcs q.l) ∧ ∀ k, v.ownBlock = some k → F k ∧ vP.ownBlock ≠ some k
  ne : ∀ (i j : Nat) (v v' : Value) (k : Nat), i ≠ j → vs[i]? = some v → vs[j]? = some v' → v.ownBlock = some k → v'.ownBlock ≠ some k
  fg : F g
  fP : ∀ k, vP.ownBlock = some k → F k
  fM : ∀ k, vM.ownBlock = some k → F k
  fC : ∀ k, vC.ownBlock = some k → F k
  fA : ∀ k, vA.ownBlock = some k → F k
  fb : ∀ k, F k → k < w.heap.size
  small : s.P.length ≤ 128 ∧ s.M.length ≤ 32 ∧ s.C.length ≤ 32 ∧ s.A.length ≤ 32
  rooms : ∀ q ∈ s.C, 0 ≤ q.room ∧ q.room ≤ 8 ∧ (q.l.length : Int) ≤ q.room
def Stt (w : World) (F : Nat → Prop) (g : Nat) (s : St) : Prop := ∃ vP vM vC vA vs, Sv w F g s vP vM vC vA vs
section
variable {w w' : World} {F F' G : Nat → Prop} {g : Nat} {s : St} {vP vM vC vA : Value} {vs : List Value}
theorem Sv.keep (h : Sv w F g s vP vM vC vA vs) (hb : ∀ k, F k → w'.heap[k]? = w.heap[k]?) (hs : w.heap.size ≤ w'.heap.size) : Sv w' F g s vP vM vC vA vs :=
  { h with
    at_ := (hb g h.fg).trans h.at_
    pl := own_keep h.pl fun k hk => hb k (h.fP k hk)
    mu := own_keep h.mu fun k hk => hb k (h.fM k hk)
    ch := own_keep h.ch fun k hk => hb k (h.fC k hk)
    ato := own_keep h.ato fun k hk => hb k (h.fA k hk)
    q := fun i q v hq hv => ⟨own_keep (h.q i q v hq hv).1 fun k hk => hb k ((h.q i q v hq hv).2 k hk).1, (h.q i q v hq hv).2⟩
    fb := fun k hk => Nat.lt_of_lt_of_le (h.fb k hk) hs }
theorem Sv.bel (h : Sv w F g s vP vM vC vA vs) (hb : Below w.heap.size w w') : Sv w' F g s vP vM vC vA vs := h.keep (fun k hk => hb.block k (h.fb k hk)) hb.size
theorem Sv.var (h : Sv w F g s vP vM vC vA vs) {k : Nat} (hk : ¬ F k) (x y z : Value) : Sv (((w.setCell ⟨k, 0, none⟩ x).setCell ⟨k, 1, none⟩ y).setCell ⟨k, 2, none⟩ z) F g s vP vM vC vA vs :=
  h.keep (fun j hj => by
    have hn : j ≠ k := fun e => hk (e ▸ hj)
    exact (Below.heap_setCell _ _ _ _ hn).trans ((Below.heap_setCell _ _ _ _ hn).trans (Below.heap_setCell _ _ _ _ hn))) (by rw [size_setCell, size_setCell, size_setCell]; exact Nat.le_refl _)
theorem Sv.cells (h : Sv w F g s vP vM vC vA vs) : w.cell? ⟨g, 0, none⟩ = some vP ∧ w.cell? ⟨g, 1, none⟩ = some vM ∧ w.cell? ⟨g, 2, none⟩ = some vC ∧ w.cell? ⟨g, 3, none⟩ = some vA :=
  ⟨blk_cell h.at_ 0 _ rfl, blk_cell h.at_ 1 _ rfl, blk_cell h.at_ 2 _ rfl, blk_cell h.at_ 3 _ rfl⟩
theorem Stt.bel (h : Stt w F g s) (hb : Below w.heap.size w w') : Stt w' F g s := by
  obtain ⟨vP, vM, vC, vA, vs, h⟩ := h
  exact ⟨_, _, _, _, _, h.bel hb⟩
/-- another state's blocks turn -/
theorem Stt.ch (h : Stt w G g s) (hc : Ch F F' w w') (hd : ∀ k, G k → ¬ F k) : Stt w' G g s ∧ ∀ k, G k → ¬ F' k := by
  obtain ⟨vP, vM, vC, vA, vs, h⟩ := h
  refine ⟨⟨_, _, _, _, _, h.keep (fun k hk => hc.blk k (h.fb k hk) (hd k hk)) hc.size⟩, fun k hk hF => ?_⟩
  rcases hc.grow k hF with h1 | h1
  · exact hd k hk h1
  · have := h.fb k hk
    omega
theorem Stt.lt (h : Stt w F g s) : g < w.heap.size := by
  obtain ⟨vP, vM, vC, vA, vs, h⟩ := h
  exact h.fb g h.fg
theorem Stt.fb (h : Stt w F g s) : ∀ k, F k → k < w.heap.size := by
  obtain ⟨vP, vM, vC, vA, vs, h⟩ := h
  exact h.fb
/-- only block b, of F, has turned -/
theorem ch_set {b j : Nat} (hb : F b) (u : Value) : Ch F F w (w.setCell ⟨b, j, none⟩ u) :=
  ⟨rfl, rfl, rfl, by rw [size_setCell]; exact Nat.le_refl _, fun k _ hk => Below.heap_setCell _ _ _ _ (fun e => hk (by rw [e]; exact hb)), fun _ h => .inl h⟩

theorem Sv.setM {b n c : Nat} (h : Sv w F g s vP (.slice (some ⟨b, 0, none⟩) n c) vC vA vs) (hn : n = s.M.length) (i : Nat) (x : Bool) :
    Sv (w.setCell ⟨b, i, none⟩ (.bool x)) F g { s with M := s.M.set i x } vP (.slice (some ⟨b, 0, none⟩) n c) vC vA vs ∧ Ch F F w (w.setCell ⟨b, i, none⟩ (.bool x)) := by
  subst hn
  have hF := h.fM b rfl
  have ho : ∀ k, k ≠ b → (w.setCell ⟨b, i, none⟩ (.bool x)).heap[k]? = w.heap[k]? := fun k hk => Below.heap_setCell _ _ _ _ hk
  have hap : ∀ {T : TypeId} {n : Nat} {v : Value} {len : Nat} {xs : List Value}, w.ownsRow 0 T n v len xs → T ≠ 4 → (w.setCell ⟨b, i, none⟩ (.bool x)).ownsRow 0 T n v len xs := fun hr hT =>
    own_keep hr fun k hk => ho k (fun e => by subst e; exact own_apart hr h.mu hT k hk rfl)
  refine ⟨?_, ch_set hF _⟩
  exact { h with
    at_ := (ho g (fun e => own_at h.mu h.at_ (by decide) (by rw [e]; rfl))).trans h.at_
    pl := hap h.pl (by decide)
    mu := by
      have := own_set h.mu i (.bool x)
      simp only [bls, List.length_set, List.map_set] at this ⊢
      exact this
    ch := hap h.ch (by decide)
    ato := hap h.ato (by decide)
    q := fun i q v hq hv => ⟨hap (h.q i q v hq hv).1 (by decide), (h.q i q v hq hv).2⟩
    fb := fun k hk => by rw [size_setCell]; exact h.fb k hk
    small := by simpa using h.small }
theorem Sv.setA {b n c : Nat} (h : Sv w F g s vP vM vC (.slice (some ⟨b, 0, none⟩) n c) vs) (hn : n = s.A.length) (i : Nat) (x : Int) :
    Sv (w.setCell ⟨b, i, none⟩ (.int .i64 x)) F g { s with A := s.A.set i x } vP vM vC (.slice (some ⟨b, 0, none⟩) n c) vs ∧ Ch F F w (w.setCell ⟨b, i, none⟩ (.int .i64 x)) := by
  subst hn
  have hF := h.fA b rfl
  have ho : ∀ k, k ≠ b → (w.setCell ⟨b, i, none⟩ (.int .i64 x)).heap[k]? = w.heap[k]? := fun k hk => Below.heap_setCell _ _ _ _ hk
  have hap : ∀ {T : TypeId} {n : Nat} {v : Value} {len : Nat} {xs : List Value}, w.ownsRow 0 T n v len xs → T ≠ 3 → (w.setCell ⟨b, i, none⟩ (.int .i64 x)).ownsRow 0 T n v len xs := fun hr hT =>
    own_keep hr fun k hk => ho k (fun e => by subst e; exact own_apart hr h.ato hT k hk rfl)
  refine ⟨?_, ch_set hF _⟩
  exact { h with
    at_ := (ho g (fun e => own_at h.ato h.at_ (by decide) (by rw [e]; rfl))).trans h.at_
    pl := hap h.pl (by decide)
    mu := hap h.mu (by decide)
    ch := hap h.ch (by decide)
    ato := by
      have := own_set h.ato i (.int .i64 x)
      simp only [nts, List.length_set, List.map_set] at this ⊢
      exact this
    q := fun i q v hq hv => ⟨hap (h.q i q v hq hv).1 (by decide), (h.q i q v hq hv).2⟩
    fb := fun k hk => by rw [size_setCell]; exact h.fb k hk
    small := by simpa using h.small }
theorem Sv.setP {b n c : Nat} (h : Sv w F g s (.slice (some ⟨b, 0, none⟩) n c) vM vC vA vs) (hn : n = s.P.length) (i : Nat) (x : V3) :
    Sv (((w.setCell ⟨b, 3 * i, none⟩ (.int .i64 x.1)).setCell ⟨b, 3 * i + 1, none⟩ (.int .i64 x.2.1)).setCell ⟨b, 3 * i + 2, none⟩ (.int .u64 x.2.2)) F g { s with P := s.P.set i x } (.slice (some ⟨b, 0, none⟩) n c) vM vC vA vs ∧
      Ch F F w (((w.setCell ⟨b, 3 * i, none⟩ (.int .i64 x.1)).setCell ⟨b, 3 * i + 1, none⟩ (.int .i64 x.2.1)).setCell ⟨b, 3 * i + 2, none⟩ (.int .u64 x.2.2)) := by
  subst hn
  have hF := h.fP b rfl
  generalize hw : ((w.setCell ⟨b, 3 * i, none⟩ (.int .i64 x.1)).setCell ⟨b, 3 * i + 1, none⟩ (.int .i64 x.2.1)).setCell ⟨b, 3 * i + 2, none⟩ (.int .u64 x.2.2) = w'
  have ho : ∀ k, k ≠ b → w'.heap[k]? = w.heap[k]? := fun k hk => by
    rw [← hw]
    exact (Below.heap_setCell _ _ _ _ hk).trans ((Below.heap_setCell _ _ _ _ hk).trans (Below.heap_setCell _ _ _ _ hk))
  have hap : ∀ {T : TypeId} {n : Nat} {v : Value} {len : Nat} {xs : List Value}, w.ownsRow 0 T n v len xs → v.ownBlock ≠ some b → w'.ownsRow 0 T n v len xs := fun hr hT =>
    own_keep hr fun k hk => ho k (fun e => by subst e; exact hT hk)
  have hne : ∀ {T : TypeId} {n : Nat} {v : Value} {len : Nat} {xs : List Value}, w.ownsRow 0 T n v len xs → T ≠ 41 → v.ownBlock ≠ some b := fun hr hT e => own_apart hr h.pl hT b e rfl
  refine ⟨?_, by rw [← hw]; exact (ch_set hF _).trans ((ch_set hF _).trans (ch_set hF _))⟩
  exact { h with
    at_ := (ho g (fun e => own_at h.pl h.at_ (by decide) (by rw [e]; rfl))).trans h.at_
    pl := by
      have := own_set (own_set (own_set h.pl (3 * i) (.int .i64 x.1)) (3 * i + 1) (.int .i64 x.2.1)) (3 * i + 2) (.int .u64 x.2.2)
      rw [hw] at this
      simp only [List.length_set, vcs_set]
      exact this
    mu := hap h.mu (hne h.mu (by decide))
    ch := hap h.ch (hne h.ch (by decide))
    ato := hap h.ato (hne h.ato (by decide))
    q := fun i q v hq hv => ⟨hap (h.q i q v hq hv).1 (fun e => ((h.q i q v hq hv).2 b e).2 rfl), (h.q i q v hq hv).2⟩
    fb := fun k hk => by rw [← hw, size_setCell, size_setCell, size_setCell]; exact h.fb k hk
    small := by simpa using h.small }
/-- a channel's values have turned, and the queue is told where they lie now -/
theorem Sv.chan {b n c : Nat} (h : Sv w F g s vP vM (.slice (some ⟨b, 0, none⟩) n c) vA vs) (hn : n = s.C.length) (i : Nat) {q : Qu} {vq v' : Value} {l' : List V3} {w2 : World} (hq : s.C[i]? = some q) (hv : vs[i]? = some vq)
    (hg : w.grownBy w2 vq.ownBlock) (ho : w2.ownsRow 0 41 3 v' l'.length (vcs l')) (hb : ∀ k, v'.ownBlock = some k → vq.ownBlock = some k ∨ w.heap.size ≤ k) (hl : (l'.length : Int) ≤ q.room) :
    Sv (w2.setCell ⟨b, 3 * i + 2, none⟩ v') (fun k => F k ∨ v'.ownBlock = some k) g { s with C := s.C.set i { q with l := l' } } vP vM (.slice (some ⟨b, 0, none⟩) n c) vA (vs.set i v') ∧ Ch F (fun k => F k ∨ v'.ownBlock = some k) w (w2.setCell ⟨b, 3 * i + 2, none⟩ v') := by
  subst hn
  have hF := h.fC b rfl
  obtain ⟨oq, fq⟩ := h.q i q vq hq hv
  have hi : i < s.C.length := (List.getElem?_eq_some_iff.1 hq).1
  have hsz : (w2.setCell ⟨b, 3 * i + 2, none⟩ v').heap.size = w2.heap.size := size_setCell _ _ _
  have ho2 : ∀ k, k ≠ b → (w2.setCell ⟨b, 3 * i + 2, none⟩ v').heap[k]? = w2.heap[k]? := fun k hk => Below.heap_setCell _ _ _ _ hk
  have hlt : ∀ {T : TypeId} {n : Nat} {v : Value} {len : Nat} {xs : List Value}, w.ownsRow 0 T n v len xs → ∀ k, v.ownBlock = some k → k < w.heap.size := fun hr k hk => (own_type hr hk).2.1
  have hk2 : ∀ {T : TypeId} {n : Nat} {v : Value} {len : Nat} {xs : List Value}, w.ownsRow 0 T n v len xs → (∀ k, v.ownBlock = some k → vq.ownBlock ≠ some k) → w2.ownsRow 0 T n v len xs := fun hr hne =>
    own_keep hr fun k hk => hg.block k (hlt hr k hk) (fun e => hne k hk e.symm)
  have hk3 : ∀ {T : TypeId} {n : Nat} {v : Value} {len : Nat} {xs : List Value}, w.ownsRow 0 T n v len xs → (∀ k, v.ownBlock = some k → vq.ownBlock ≠ some k) → v.ownBlock ≠ some b → (w2.setCell ⟨b, 3 * i + 2, none⟩ v').ownsRow 0 T n v len xs := fun hr hne hb' =>
    own_keep (hk2 hr hne) fun k hk => ho2 k (fun e => by subst e; exact hb' hk)
  have bq : vq.ownBlock ≠ some b := fun e => own_apart oq h.ch (by decide) b e rfl
  have bv : v'.ownBlock ≠ some b := fun e => by
    rcases hb b e with h1 | h1
    · exact bq h1
    · have := hlt h.ch b rfl
      omega
  refine ⟨?_, ⟨hg.os, hg.tape, hg.output, by rw [hsz]; exact hg.size, fun k hk hFk => (ho2 k (fun e => hFk (by rw [e]; exact hF))).trans (hg.block k hk (fun e => hFk (fq k e.symm).1)), fun k hk => ?_⟩⟩
  · exact { h with
      at_ := (ho2 g (fun e => own_at h.ch h.at_ (by decide) (by rw [e]; rfl))).trans ((hg.block g (lt_of_blk h.at_) (fun e => own_at oq h.at_ (by decide) e.symm)).trans h.at_)
      pl := hk3 h.pl (fun k hk e => (fq k e).2 hk) (fun e => own_apart h.pl h.ch (by decide) b e rfl)
      mu := hk3 h.mu (fun k hk => own_apart h.mu oq (by decide) k hk) (fun e => own_apart h.mu h.ch (by decide) b e rfl)
      ch := by
        have h1 := own_set (hk2 h.ch (fun k hk => own_apart h.ch oq (by decide) k hk)) (3 * i + 2) v'
        rw [← qcs_set s.C vs i q { q with l := l' } v' h.len hq rfl rfl] at h1
        simpa using h1
      ato := hk3 h.ato (fun k hk => own_apart h.ato oq (by decide) k hk) (fun e => own_apart h.ato h.ch (by decide) b e rfl)
      len := by simpa using h.len
      q := fun j q' v hq' hv' => by
        by_cases e : i = j
        · subst e
          rw [List.getElem?_set_self (by omega)] at hq'
          rw [List.getElem?_set_self (by rw [h.len]; omega)] at hv'
          cases hq'
          cases hv'
          refine ⟨own_keep ho fun k hk => ho2 k (fun e => by subst e; exact bv hk), fun k hk => ⟨.inr hk, fun e => ?_⟩⟩
          rcases hb k hk with h1 | h1
          · exact (fq k h1).2 e
          · have := hlt h.pl k e
            omega
        · rw [List.getElem?_set_ne e] at hq' hv'
          obtain ⟨o1, o2⟩ := h.q j q' v hq' hv'
          exact ⟨hk3 o1 (fun k hk e2 => h.ne i j vq v k e hv hv' e2 hk) (fun e2 => own_apart o1 h.ch (by decide) b e2 rfl), fun k hk => ⟨.inl (o2 k hk).1, (o2 k hk).2⟩⟩
      ne := fun a c x y k hac hx hy hk => by
        have old : ∀ j u, i ≠ j → vs[j]? = some u → ∀ k, u.ownBlock = some k → v'.ownBlock ≠ some k := fun j u hij hu k hk e => by
          have hj : j < s.C.length := by rw [← h.len]; exact (List.getElem?_eq_some_iff.1 hu).1
          rcases hb k e with h1 | h1
          · exact h.ne i j vq u k hij hv hu h1 hk
          · have := hlt (h.q j s.C[j] u (List.getElem?_eq_getElem hj) hu).1 k hk
            omega
        by_cases e1 : i = a
        · subst e1
          rw [List.getElem?_set_self (by rw [h.len]; omega)] at hx
          rw [List.getElem?_set_ne hac] at hy
          cases hx
          exact fun e2 => old c y hac hy k e2 hk
        · rw [List.getElem?_set_ne e1] at hx
          by_cases e2 : i = c
          · subst e2
            rw [List.getElem?_set_self (by rw [h.len]; omega)] at hy
            cases hy
            exact old a x e1 hx k hk
          · rw [List.getElem?_set_ne e2] at hy
            exact h.ne a c x y k hac hx hy hk
      fg := .inl h.fg
      fP := fun k hk => .inl (h.fP k hk)
      fM := fun k hk => .inl (h.fM k hk)
      fC := fun k hk => .inl (h.fC k hk)
      fA := fun k hk => .inl (h.fA k hk)
      fb := fun k hk => by
        rw [hsz]
        rcases hk with hk | hk
        · exact Nat.lt_of_lt_of_le (h.fb k hk) hg.size
        · exact (own_type ho hk).2.1
      small := by simpa using h.small
      rooms := fun q' hq' => by
        rcases List.mem_or_eq_of_mem_set hq' with h1 | h1
        · exact h.rooms q' h1
        · subst h1
          have := h.rooms q (List.mem_of_getElem? hq)
          exact ⟨this.1, this.2.1, hl⟩ }
  · rcases hk with hk | hk
    · exact .inl hk
    · rcases hb k hk with h1 | h1
      · exact .inl (fq k h1).1
      · exact .inr h1
end
end Go.Proofs.YtghfjnnmpmfboaaDoor.Ck
