/- Texts of this proof, packed: contracts of the program's functions, and the plain model that they are held against. -/
import Derived.Test.YtbiilnpblnjliaaDoorQaa
import Derived.Maps.AppendAt
import Derived.OwnWalk
/- What a state (sync.State) is in memory; no Go text is walked here. -/
namespace Go.Proofs.YtbiilnpblnjliaaDoor.Ck
open Go.RowKit

abbrev V3 := Int × Int × Int
/-- values' cells, one behind the other -/
def vcs : List V3 → List Value
  | [] => []
  | v :: l => .int .i64 v.1 :: .int .i64 v.2.1 :: .int .u64 v.2.2 :: vcs l
structure Qu where
  t : Int
  room : Int
  l : List V3
/-- what a state holds -/
structure St where
  P : List V3
  M : List Bool
  C : List Qu
  A : List Int
def qcs : List Qu → List Value → List Value
  | q :: C, v :: vs => .int .i64 q.t :: .int .i64 q.room :: v :: qcs C vs
  | _, _ => []
def bls (l : List Bool) : List Value := l.map Value.bool
def nts (l : List Int) : List Value := l.map (Value.int .i64)

theorem vcs_len : ∀ l, (vcs l).length = l.length * 3
  | [] => rfl
  | v :: l => by
    simp only [vcs, List.length_cons, vcs_len l]
    omega
theorem vcs_app : ∀ a b, vcs (a ++ b) = vcs a ++ vcs b
  | [], b => rfl
  | v :: a, b => by simp [vcs, vcs_app a b]
theorem vcs_at : ∀ (l : List V3) (i : Nat) (v : V3), l[i]? = some v → (vcs l)[3 * i]? = some (.int .i64 v.1) ∧ (vcs l)[3 * i + 1]? = some (.int .i64 v.2.1) ∧ (vcs l)[3 * i + 2]? = some (.int .u64 v.2.2)
  | [], i, v, h => by simp at h
  | x :: l, 0, v, h => by
    simp at h
    subst h
    exact ⟨rfl, rfl, rfl⟩
  | x :: l, i + 1, v, h => vcs_at l i v (by simpa using h)
theorem vcs_set : ∀ (l : List V3) (i : Nat) (v : V3), vcs (l.set i v) = (((vcs l).set (3 * i) (.int .i64 v.1)).set (3 * i + 1) (.int .i64 v.2.1)).set (3 * i + 2) (.int .u64 v.2.2)
  | [], i, v => by simp [vcs]
  | x :: l, 0, v => by simp [vcs]
  | x :: l, i + 1, v => by
    rw [show 3 * (i + 1) + 2 = 3 * i + 2 + 1 + 1 + 1 by omega, show 3 * (i + 1) + 1 = 3 * i + 1 + 1 + 1 + 1 by omega, show 3 * (i + 1) = 3 * i + 1 + 1 + 1 by omega]
    simp only [List.set_cons_succ, vcs, vcs_set l i v]
theorem vcs_inj : ∀ (a b : List V3), vcs a = vcs b → a = b
  | [], [], _ => rfl
  | [], y :: b, h => by simp [vcs] at h
  | x :: a, [], h => by simp [vcs] at h
  | x :: a, y :: b, h => by
    simp only [vcs, List.cons.injEq, Value.int.injEq, true_and] at h
    obtain ⟨h1, h2, h3, h4⟩ := h
    rw [vcs_inj a b h4]
    congr 1
    exact Prod.ext h1 (Prod.ext h2 h3)
theorem vcs_one (l : List V3) : ∀ u ∈ vcs l, u.oneCell' = true := by
  induction l with
  | nil => intro u h; simp [vcs] at h
  | cons v l ih =>
    intro u h
    simp only [vcs, List.mem_cons] at h
    rcases h with rfl | rfl | rfl | h
    · rfl
    · rfl
    · rfl
    · exact ih u h
theorem qcs_len : ∀ (C : List Qu) (vs : List Value), vs.length = C.length → (qcs C vs).length = C.length * 3
  | [], [], _ => rfl
  | q :: C, v :: vs, h => by
    simp only [qcs, List.length_cons, qcs_len C vs (by simpa using h)]
    omega
theorem qcs_app : ∀ (C : List Qu) (vs : List Value) (q : Qu) (v : Value), vs.length = C.length → qcs (C ++ [q]) (vs ++ [v]) = qcs C vs ++ [.int .i64 q.t, .int .i64 q.room, v]
  | [], [], q, v, _ => rfl
  | x :: C, y :: vs, q, v, h => by simp [qcs, qcs_app C vs q v (by simpa using h)]
theorem qcs_at : ∀ (C : List Qu) (vs : List Value) (i : Nat) (q : Qu) (v : Value), C[i]? = some q → vs[i]? = some v → (qcs C vs)[3 * i]? = some (.int .i64 q.t) ∧ (qcs C vs)[3 * i + 1]? = some (.int .i64 q.room) ∧ (qcs C vs)[3 * i + 2]? = some v
  | [], vs, i, q, v, h, _ => by simp at h
  | q :: C, [], i, q', v, _, h => by simp at h
  | q :: C, x :: vs, 0, q', v, h, h' => by
    simp at h h'
    subst h h'
    exact ⟨rfl, rfl, rfl⟩
  | q :: C, x :: vs, i + 1, q', v, h, h' => qcs_at C vs i q' v (by simpa using h) (by simpa using h')
theorem qcs_set : ∀ (C : List Qu) (vs : List Value) (i : Nat) (q q' : Qu) (v : Value), vs.length = C.length → C[i]? = some q → q'.t = q.t → q'.room = q.room → qcs (C.set i q') (vs.set i v) = (qcs C vs).set (3 * i + 2) v
  | [], [], i, q, q', v, _, h, _, _ => by simp at h
  | x :: C, y :: vs, 0, q, q', v, _, h, h1, h2 => by
    simp at h
    subst h
    simp [qcs, h1, h2]
  | x :: C, y :: vs, i + 1, q, q', v, hl, h, h1, h2 => by
    have e : 3 * (i + 1) + 2 = 3 * i + 2 + 1 + 1 + 1 := by omega
    simp only [List.set_cons_succ, qcs, e, qcs_set C vs i q q' v (by simpa using hl) (by simpa using h) h1 h2]

theorem lt_of_blk {w : World} {g : Nat} {o : Obj} (h : w.heap[g]? = some o) : g < w.heap.size := (Array.getElem?_eq_some_iff.1 h).1
theorem blk_frz {w : World} {g : Nat} {c : Array Value} {T : TypeId} (h : w.heap[g]? = some (.cells c T (0, 0))) (i : Nat) : w.frozen? ⟨g, i, none⟩ = false := frozen_of_row w g i _ T h
theorem size_setCell (w : World) (a : Addr) (v : Value) : (w.setCell a v).heap.size = w.heap.size := by
  simp only [World.setCell]
  split <;> simp
section
variable {w w' : World} {B : Nat} {T : TypeId} {n : Nat} {v : Value} {len : Nat} {xs : List Value}
theorem own_type (h : w.ownsRow B T n v len xs) {k : Nat} (hk : v.ownBlock = some k) : B ≤ k ∧ k < w.heap.size ∧ ∃ c, w.heap[k]? = some (.cells c T (0, 0)) := by
  obtain ⟨hl, h0 | ⟨gb, cap, cur, rfl, hB, hg, r⟩⟩ := h
  · rw [h0.1] at hk
    cases hk
  · have e : gb = k := Option.some.inj hk
    subst e
    exact ⟨hB, lt_of_blk hg, cur, hg⟩
theorem own_keep (h : w.ownsRow B T n v len xs) (hb : ∀ k, v.ownBlock = some k → w'.heap[k]? = w.heap[k]?) : w'.ownsRow B T n v len xs := by
  obtain ⟨hl, h0 | ⟨gb, cap, cur, rfl, hB, hg, r⟩⟩ := h
  · exact ⟨hl, .inl h0⟩
  · exact ⟨hl, .inr ⟨gb, cap, cur, rfl, hB, (hb gb rfl).trans hg, r⟩⟩
theorem own_form (h : w.ownsRow B T n v len xs) : (v = .slice none 0 0 ∧ len = 0) ∨ ∃ b c, v = .slice (some ⟨b, 0, none⟩) len c ∧ len ≤ c ∧ c ≤ maxLen := by
  obtain ⟨hl, h0 | ⟨gb, cap, cur, rfl, hB, hg, h1, h2, r⟩⟩ := h
  · exact .inl h0
  · exact .inr ⟨_, _, rfl, h1, h2⟩
theorem own_slice (h : w.ownsRow B T n v len xs) : ∃ a c, v = .slice a len c ∧ len ≤ c ∧ c ≤ maxLen := by
  rcases own_form h with ⟨rfl, rfl⟩ | ⟨b, c, rfl, h1, h2⟩
  · exact ⟨_, _, rfl, by omega, by unfold maxLen; omega⟩
  · exact ⟨_, _, rfl, h1, h2⟩
theorem own_some (h : w.ownsRow B T n v len xs) (hl : 0 < len) : ∃ b c, v = .slice (some ⟨b, 0, none⟩) len c ∧ len ≤ c ∧ c ≤ maxLen := by
  rcases own_form h with ⟨_, e⟩ | h
  · omega
  · exact h
theorem own_cell {b m c : Nat} (h : w.ownsRow B T n (.slice (some ⟨b, 0, none⟩) m c) len xs) (j : Nat) (u : Value) (hu : xs[j]? = some u) : w.cell? ⟨b, j, none⟩ = some u ∧ w.frozen? ⟨b, j, none⟩ = false := by
  obtain ⟨hl, ⟨h0, _⟩ | ⟨gb, cap, cur, e, hB, hg, h1, h2, h3, h4⟩⟩ := h
  · cases h0
  · simp only [Value.slice.injEq, Option.some.injEq, Addr.mk.injEq, and_true] at e
    obtain ⟨rfl, rfl, rfl⟩ := e
    refine ⟨?_, blk_frz hg j⟩
    have hj : j < xs.length := (List.getElem?_eq_some_iff.1 hu).1
    have e2 : (cur.toList.take (m * n))[j]? = xs[j]? := by rw [h4]
    rw [List.getElem?_take_of_lt (by omega), hu] at e2
    exact blk_cell hg j u (by rw [← Array.getElem?_toList]; exact e2)
theorem own_set {b m c : Nat} (h : w.ownsRow B T n (.slice (some ⟨b, 0, none⟩) m c) len xs) (j : Nat) (u : Value) : (w.setCell ⟨b, j, none⟩ u).ownsRow B T n (.slice (some ⟨b, 0, none⟩) m c) len (xs.set j u) := by
  obtain ⟨hl, ⟨h0, _⟩ | ⟨gb, cap, cur, e, hB, hg, h1, h2, h3, h4⟩⟩ := h
  · cases h0
  · simp only [Value.slice.injEq, Option.some.injEq, Addr.mk.injEq, and_true] at e
    obtain ⟨rfl, rfl, rfl⟩ := e
    refine ⟨by simpa using hl, .inr ⟨b, c, cur.setIfInBounds j u, rfl, hB, heap_setCell_same w b j _ T _ hg, h1, h2, by simpa using h3, ?_⟩⟩
    rw [Array.toList_setIfInBounds, List.take_set, h4]
end
theorem own_apart {w : World} {B B' : Nat} {T T' : TypeId} {n n' : Nat} {v v' : Value} {len len' : Nat} {xs xs' : List Value} (h : w.ownsRow B T n v len xs) (h' : w.ownsRow B' T' n' v' len' xs') (hT : T ≠ T') : ∀ k, v.ownBlock = some k → v'.ownBlock ≠ some k := fun k hk hk' => by
  obtain ⟨_, _, c, hc⟩ := own_type h hk
  obtain ⟨_, _, c', hc'⟩ := own_type h' hk'
  rw [hc] at hc'
  have := Option.some.inj hc'
  injection this with _ h2 _
  exact hT h2
theorem own_at {w : World} {B : Nat} {T T' : TypeId} {n : Nat} {v : Value} {len : Nat} {xs : List Value} (h : w.ownsRow B T n v len xs) {g : Nat} {c : Array Value} (hg : w.heap[g]? = some (.cells c T' (0, 0))) (hT : T ≠ T') : v.ownBlock ≠ some g := fun e => by
  obtain ⟨_, _, c', hc⟩ := own_type h e
  rw [hg] at hc
  have := Option.some.inj hc
  injection this with _ h2 _
  exact hT h2.symm

/-- from w to w' only blocks of F, and what is new, have turned; F' has none but of F and new ones -/
structure Ch (F F' : Nat → Prop) (w w' : World) : Prop where
  os : w'.os = w.os
  tape : w'.tape = w.tape
  output : w'.output = w.output
  size : w.heap.size ≤ w'.heap.size
  blk : ∀ k, k < w.heap.size → ¬ F k → w'.heap[k]? = w.heap[k]?
  grow : ∀ k, F' k → F k ∨ w.heap.size ≤ k
theorem Ch.refl (F : Nat → Prop) (w : World) : Ch F F w w := ⟨rfl, rfl, rfl, Nat.le_refl _, fun _ _ _ => rfl, fun _ h => .inl h⟩
theorem Ch.trans {F F' F'' : Nat → Prop} {a b c : World} (h : Ch F F' a b) (k : Ch F' F'' b c) : Ch F F'' a c :=
  ⟨k.os.trans h.os, k.tape.trans h.tape, k.output.trans h.output, Nat.le_trans h.size k.size, fun i hi hF => (k.blk i (Nat.lt_of_lt_of_le hi h.size) (fun hF' => by
    rcases h.grow i hF' with h1 | h1
    · exact hF h1
    · omega)).trans (h.blk i hi hF), fun i hi => by
    rcases k.grow i hi with h1 | h1
    · exact h.grow i h1
    · exact .inr (Nat.le_trans h.size h1)⟩
theorem Ch.of_bel {F : Nat → Prop} {w w' : World} (h : Below w.heap.size w w') : Ch F F w w' := ⟨h.os, h.tape, h.output, h.size, fun k hk _ => h.block k hk, fun _ h => .inl h⟩
theorem Ch.bel {F F' : Nat → Prop} {w w' : World} {B : Nat} (h : Ch F F' w w') (hF : ∀ k, F k → B ≤ k) (hB : B ≤ w.heap.size) : Below B w w' :=
  ⟨h.os, h.tape, h.output, h.size, fun k hk => h.blk k (by omega) (fun e => by have := hF k e; omega)⟩
theorem Ch.drew {F F' : Nat → Prop} {w w' : World} (h : Ch F F' w w') : Ch F F' w w'.drew := ⟨h.os, h.tape, h.output, h.size, h.blk, h.grow⟩
theorem Ch.below {F F' : Nat → Prop} {w wa wb : World} (h : Ch F F' w wa) (k : Below w.heap.size wa wb) : Ch F F' w wb :=
  ⟨k.os.trans h.os, k.tape.trans h.tape, k.output.trans h.output, Nat.le_trans h.size k.size, fun i hi hF => (k.block i hi).trans (h.blk i hi hF), h.grow⟩
theorem Ch.low {F F' : Nat → Prop} {w w' : World} {B : Nat} (h : Ch F F' w w') (hF : ∀ k, F k → B ≤ k) (hB : B ≤ w.heap.size) : ∀ k, F' k → B ≤ k := fun k hk => by
  rcases h.grow k hk with h1 | h1
  · exact hF k h1
  · omega

/-- a state in memory: g its block, F all that it may write -/
structure Sv (w : World) (F : Nat → Prop) (g : Nat) (s : St) (vP vM vC vA : Value) (vs : List Value) : Prop where
  at_ : w.heap[g]? = some (.cells #[vP, vM, vC, vA] 95 (0, 0))
  pl : w.ownsRow 0 41 3 vP s.P.length (vcs s.P)
  mu : w.ownsRow 0 4 1 vM s.M.length (bls s.M)
  ch : w.ownsRow 0 97 3 vC s.C.length (qcs s.C vs)
  ato : w.ownsRow 0 3 1 vA s.A.length (nts s.A)
  len : vs.length = s.C.length
  q : ∀ (i : Nat) (q : Qu) (v : Value), s.C[i]? = some q → vs[i]? = some v → w.ownsRow 0 41 3 v q.l.length (vcs q.l) ∧ ∀ k, v.ownBlock = some k → F k ∧ vP.ownBlock ≠ some k
  ne : ∀ (i j : Nat) (v v' : Value) (k : Nat), i ≠ j → vs[i]? = some v → vs[j]? = some v' → v.ownBlock = some k → v'.ownBlock ≠ some k
  fg : F g
  fP : ∀ k, vP.ownBlock = some k → F k
  fM : ∀ k, vM.ownBlock = some k → F k
  fC : ∀ k, vC.ownBlock = some k → F k
  fA : ∀ k, vA.ownBlock = some k → F k
  fb : ∀ k, F k → k < w.heap.size
  small : s.P.length ≤ 128 ∧ s.M.length ≤ 32 ∧ s.C.length ≤ 32 ∧ s.A.length ≤ 32
  rooms : ∀ q ∈ s.C, 0 ≤ q.room ∧ q.room ≤ 8 ∧ (q.l.length : Int) ≤ q.room
def Stt (w : World) (F : Nat → Prop) (g : Nat) (s : St) : Prop := ∃ vP vM vC vA vs, Sv w F g s vP vM vC vA vs
section
variable {w w' : World} {F F' G : Nat → Prop} {g : Nat} {s : St} {vP vM vC vA : Value} {vs : List Value}
theorem Sv.keep (h : Sv w F g s vP vM vC vA vs) (hb : ∀ k, F k → w'.heap[k]? = w.heap[k]?) (hs : w.heap.size ≤ w'.heap.size) : Sv w' F g s vP vM vC vA vs :=
  { h with
    at_ := (hb g h.fg).trans h.at_
    pl := own_keep h.pl fun k hk => hb k (h.fP k hk)
    mu := own_keep h.mu fun k hk => hb k (h.fM k hk)
    ch := own_keep h.ch fun k hk => hb k (h.fC k hk)
    ato := own_keep h.ato fun k hk => hb k (h.fA k hk)
    q := fun i q v hq hv => ⟨own_keep (h.q i q v hq hv).1 fun k hk => hb k ((h.q i q v hq hv).2 k hk).1, (h.q i q v hq hv).2⟩
    fb := fun k hk => Nat.lt_of_lt_of_le (h.fb k hk) hs }
theorem Sv.bel (h : Sv w F g s vP vM vC vA vs) (hb : Below w.heap.size w w') : Sv w' F g s vP vM vC vA vs := h.keep (fun k hk => hb.block k (h.fb k hk)) hb.size
theorem Sv.var (h : Sv w F g s vP vM vC vA vs) {k : Nat} (hk : ¬ F k) (x y z : Value) : Sv (((w.setCell ⟨k, 0, none⟩ x).setCell ⟨k, 1, none⟩ y).setCell ⟨k, 2, none⟩ z) F g s vP vM vC vA vs :=
  h.keep (fun j hj => by
    have hn : j ≠ k := fun e => hk (e ▸ hj)
    exact (Below.heap_setCell _ _ _ _ hn).trans ((Below.heap_setCell _ _ _ _ hn).trans (Below.heap_setCell _ _ _ _ hn))) (by rw [size_setCell, size_setCell, size_setCell]; exact Nat.le_refl _)
theorem Sv.cells (h : Sv w F g s vP vM vC vA vs) : w.cell? ⟨g, 0, none⟩ = some vP ∧ w.cell? ⟨g, 1, none⟩ = some vM ∧ w.cell? ⟨g, 2, none⟩ = some vC ∧ w.cell? ⟨g, 3, none⟩ = some vA :=
  ⟨blk_cell h.at_ 0 _ rfl, blk_cell h.at_ 1 _ rfl, blk_cell h.at_ 2 _ rfl, blk_cell h.at_ 3 _ rfl⟩
theorem Stt.bel (h : Stt w F g s) (hb : Below w.heap.size w w') : Stt w' F g s := by
  obtain ⟨vP, vM, vC, vA, vs, h⟩ := h
  exact ⟨_, _, _, _, _, h.bel hb⟩
/-- another state's blocks turn -/
theorem Stt.ch (h : Stt w G g s) (hc : Ch F F' w w') (hd : ∀ k, G k → ¬ F k) : Stt w' G g s ∧ ∀ k, G k → ¬ F' k := by
  obtain ⟨vP, vM, vC, vA, vs, h⟩ := h
  refine ⟨⟨_, _, _, _, _, h.keep (fun k hk => hc.blk k (h.fb k hk) (hd k hk)) hc.size⟩, fun k hk hF => ?_⟩
  rcases hc.grow k hF with h1 | h1
  · exact hd k hk h1
  · have := h.fb k hk
    omega
theorem Stt.lt (h : Stt w F g s) : g < w.heap.size := by
  obtain ⟨vP, vM, vC, vA, vs, h⟩ := h
  exact h.fb g h.fg
theorem Stt.fb (h : Stt w F g s) : ∀ k, F k → k < w.heap.size := by
  obtain ⟨vP, vM, vC, vA, vs, h⟩ := h
  exact h.fb
/-- only block b, of F, has turned -/
theorem ch_set {b j : Nat} (hb : F b) (u : Value) : Ch F F w (w.setCell ⟨b, j, none⟩ u) :=
  ⟨rfl, rfl, rfl, by rw [size_setCell]; exact Nat.le_refl _, fun k _ hk => Below.heap_setCell _ _ _ _ (fun e => hk (by rw [e]; exact hb)), fun _ h => .inl h⟩

theorem Sv.setM {b n c : Nat} (h : Sv w F g s vP (.slice (some ⟨b, 0, none⟩) n c) vC vA vs) (hn : n = s.M.length) (i : Nat) (x : Bool) :
    Sv (w.setCell ⟨b, i, none⟩ (.bool x)) F g { s with M := s.M.set i x } vP (.slice (some ⟨b, 0, none⟩) n c) vC vA vs ∧ Ch F F w (w.setCell ⟨b, i, none⟩ (.bool x)) := by
  subst hn
  have hF := h.fM b rfl
  have ho : ∀ k, k ≠ b → (w.setCell ⟨b, i, none⟩ (.bool x)).heap[k]? = w.heap[k]? := fun k hk => Below.heap_setCell _ _ _ _ hk
  have hap : ∀ {T : TypeId} {n : Nat} {v : Value} {len : Nat} {xs : List Value}, w.ownsRow 0 T n v len xs → T ≠ 4 → (w.setCell ⟨b, i, none⟩ (.bool x)).ownsRow 0 T n v len xs := fun hr hT =>
    own_keep hr fun k hk => ho k (fun e => by subst e; exact own_apart hr h.mu hT k hk rfl)
  refine ⟨?_, ch_set hF _⟩
  exact { h with
    at_ := (ho g (fun e => own_at h.mu h.at_ (by decide) (by rw [e]; rfl))).trans h.at_
    pl := hap h.pl (by decide)
    mu := by
      have := own_set h.mu i (.bool x)
      simp only [bls, List.length_set, List.map_set] at this ⊢
      exact this
    ch := hap h.ch (by decide)
    ato := hap h.ato (by decide)
    q := fun i q v hq hv => ⟨hap (h.q i q v hq hv).1 (by decide), (h.q i q v hq hv).2⟩
    fb := fun k hk => by rw [size_setCell]; exact h.fb k hk
    small := by simpa using h.small }
theorem Sv.setA {b n c : Nat} (h : Sv w F g s vP vM vC (.slice (some ⟨b, 0, none⟩) n c) vs) (hn : n = s.A.length) (i : Nat) (x : Int) :
    Sv (w.setCell ⟨b, i, none⟩ (.int .i64 x)) F g { s with A := s.A.set i x } vP vM vC (.slice (some ⟨b, 0, none⟩) n c) vs ∧ Ch F F w (w.setCell ⟨b, i, none⟩ (.int .i64 x)) := by
  subst hn
  have hF := h.fA b rfl
  have ho : ∀ k, k ≠ b → (w.setCell ⟨b, i, none⟩ (.int .i64 x)).heap[k]? = w.heap[k]? := fun k hk => Below.heap_setCell _ _ _ _ hk
  have hap : ∀ {T : TypeId} {n : Nat} {v : Value} {len : Nat} {xs : List Value}, w.ownsRow 0 T n v len xs → T ≠ 3 → (w.setCell ⟨b, i, none⟩ (.int .i64 x)).ownsRow 0 T n v len xs := fun hr hT =>
    own_keep hr fun k hk => ho k (fun e => by subst e; exact own_apart hr h.ato hT k hk rfl)
  refine ⟨?_, ch_set hF _⟩
  exact { h with
    at_ := (ho g (fun e => own_at h.ato h.at_ (by decide) (by rw [e]; rfl))).trans h.at_
    pl := hap h.pl (by decide)
    mu := hap h.mu (by decide)
    ch := hap h.ch (by decide)
    ato := by
      have := own_set h.ato i (.int .i64 x)
      simp only [nts, List.length_set, List.map_set] at this ⊢
      exact this
    q := fun i q v hq hv => ⟨hap (h.q i q v hq hv).1 (by decide), (h.q i q v hq hv).2⟩
    fb := fun k hk => by rw [size_setCell]; exact h.fb k hk
    small := by simpa using h.small }
theorem Sv.setP {b n c : Nat} (h : Sv w F g s (.slice (some ⟨b, 0, none⟩) n c) vM vC vA vs) (hn : n = s.P.length) (i : Nat) (x : V3) :
    Sv (((w.setCell ⟨b, 3 * i, none⟩ (.int .i64 x.1)).setCell ⟨b, 3 * i + 1, none⟩ (.int .i64 x.2.1)).setCell ⟨b, 3 * i + 2, none⟩ (.int .u64 x.2.2)) F g { s with P := s.P.set i x } (.slice (some ⟨b, 0, none⟩) n c) vM vC vA vs ∧
      Ch F F w (((w.setCell ⟨b, 3 * i, none⟩ (.int .i64 x.1)).setCell ⟨b, 3 * i + 1, none⟩ (.int .i64 x.2.1)).setCell ⟨b, 3 * i + 2, none⟩ (.int .u64 x.2.2)) := by
  subst hn
  have hF := h.fP b rfl
  generalize hw : ((w.setCell ⟨b, 3 * i, none⟩ (.int .i64 x.1)).setCell ⟨b, 3 * i + 1, none⟩ (.int .i64 x.2.1)).setCell ⟨b, 3 * i + 2, none⟩ (.int .u64 x.2.2) = w'
  have ho : ∀ k, k ≠ b → w'.heap[k]? = w.heap[k]? := fun k hk => by
    rw [← hw]
    exact (Below.heap_setCell _ _ _ _ hk).trans ((Below.heap_setCell _ _ _ _ hk).trans (Below.heap_setCell _ _ _ _ hk))
  have hap : ∀ {T : TypeId} {n : Nat} {v : Value} {len : Nat} {xs : List Value}, w.ownsRow 0 T n v len xs → v.ownBlock ≠ some b → w'.ownsRow 0 T n v len xs := fun hr hT =>
    own_keep hr fun k hk => ho k (fun e => by subst e; exact hT hk)
  have hne : ∀ {T : TypeId} {n : Nat} {v : Value} {len : Nat} {xs : List Value}, w.ownsRow 0 T n v len xs → T ≠ 41 → v.ownBlock ≠ some b := fun hr hT e => own_apart hr h.pl hT b e rfl
  refine ⟨?_, by rw [← hw]; exact (ch_set hF _).trans ((ch_set hF _).trans (ch_set hF _))⟩
  exact { h with
    at_ := (ho g (fun e => own_at h.pl h.at_ (by decide) (by rw [e]; rfl))).trans h.at_
    pl := by
      have := own_set (own_set (own_set h.pl (3 * i) (.int .i64 x.1)) (3 * i + 1) (.int .i64 x.2.1)) (3 * i + 2) (.int .u64 x.2.2)
      rw [hw] at this
      simp only [List.length_set, vcs_set]
      exact this
    mu := hap h.mu (hne h.mu (by decide))
    ch := hap h.ch (hne h.ch (by decide))
    ato := hap h.ato (hne h.ato (by decide))
    q := fun i q v hq hv => ⟨hap (h.q i q v hq hv).1 (fun e => ((h.q i q v hq hv).2 b e).2 rfl), (h.q i q v hq hv).2⟩
    fb := fun k hk => by rw [← hw, size_setCell, size_setCell, size_setCell]; exact h.fb k hk
    small := by simpa using h.small }
/-- a channel's values have turned, and the queue is told where they lie now -/
theorem Sv.chan {b n c : Nat} (h : Sv w F g s vP vM (.slice (some ⟨b, 0, none⟩) n c) vA vs) (hn : n = s.C.length) (i : Nat) {q : Qu} {vq v' : Value} {l' : List V3} {w2 : World} (hq : s.C[i]? = some q) (hv : vs[i]? = some vq)
    (hg : w.grownBy w2 vq.ownBlock) (ho : w2.ownsRow 0 41 3 v' l'.length (vcs l')) (hb : ∀ k, v'.ownBlock = some k → vq.ownBlock = some k ∨ w.heap.size ≤ k) (hl : (l'.length : Int) ≤ q.room) :
    Sv (w2.setCell ⟨b, 3 * i + 2, none⟩ v') (fun k => F k ∨ v'.ownBlock = some k) g { s with C := s.C.set i { q with l := l' } } vP vM (.slice (some ⟨b, 0, none⟩) n c) vA (vs.set i v') ∧ Ch F (fun k => F k ∨ v'.ownBlock = some k) w (w2.setCell ⟨b, 3 * i + 2, none⟩ v') := by
  subst hn
  have hF := h.fC b rfl
  obtain ⟨oq, fq⟩ := h.q i q vq hq hv
  have hi : i < s.C.length := (List.getElem?_eq_some_iff.1 hq).1
  have hsz : (w2.setCell ⟨b, 3 * i + 2, none⟩ v').heap.size = w2.heap.size := size_setCell _ _ _
  have ho2 : ∀ k, k ≠ b → (w2.setCell ⟨b, 3 * i + 2, none⟩ v').heap[k]? = w2.heap[k]? := fun k hk => Below.heap_setCell _ _ _ _ hk
  have hlt : ∀ {T : TypeId} {n : Nat} {v : Value} {len : Nat} {xs : List Value}, w.ownsRow 0 T n v len xs → ∀ k, v.ownBlock = some k → k < w.heap.size := fun hr k hk => (own_type hr hk).2.1
  have hk2 : ∀ {T : TypeId} {n : Nat} {v : Value} {len : Nat} {xs : List Value}, w.ownsRow 0 T n v len xs → (∀ k, v.ownBlock = some k → vq.ownBlock ≠ some k) → w2.ownsRow 0 T n v len xs := fun hr hne =>
    own_keep hr fun k hk => hg.block k (hlt hr k hk) (fun e => hne k hk e.symm)
  have hk3 : ∀ {T : TypeId} {n : Nat} {v : Value} {len : Nat} {xs : List Value}, w.ownsRow 0 T n v len xs → (∀ k, v.ownBlock = some k → vq.ownBlock ≠ some k) → v.ownBlock ≠ some b → (w2.setCell ⟨b, 3 * i + 2, none⟩ v').ownsRow 0 T n v len xs := fun hr hne hb' =>
    own_keep (hk2 hr hne) fun k hk => ho2 k (fun e => by subst e; exact hb' hk)
  have bq : vq.ownBlock ≠ some b := fun e => own_apart oq h.ch (by decide) b e rfl
  have bv : v'.ownBlock ≠ some b := fun e => by
    rcases hb b e with h1 | h1
    · exact bq h1
    · have := hlt h.ch b rfl
      omega
  refine ⟨?_, ⟨hg.os, hg.tape, hg.output, by rw [hsz]; exact hg.size, fun k hk hFk => (ho2 k (fun e => hFk (by rw [e]; exact hF))).trans (hg.block k hk (fun e => hFk (fq k e.symm).1)), fun k hk => ?_⟩⟩
  · exact { h with
      at_ := (ho2 g (fun e => own_at h.ch h.at_ (by decide) (by rw [e]; rfl))).trans ((hg.block g (lt_of_blk h.at_) (fun e => own_at oq h.at_ (by decide) e.symm)).trans h.at_)
      pl := hk3 h.pl (fun k hk e => (fq k e).2 hk) (fun e => own_apart h.pl h.ch (by decide) b e rfl)
      mu := hk3 h.mu (fun k hk => own_apart h.mu oq (by decide) k hk) (fun e => own_apart h.mu h.ch (by decide) b e rfl)
      ch := by
        have h1 := own_set (hk2 h.ch (fun k hk => own_apart h.ch oq (by decide) k hk)) (3 * i + 2) v'
        rw [← qcs_set s.C vs i q { q with l := l' } v' h.len hq rfl rfl] at h1
        simpa using h1
      ato := hk3 h.ato (fun k hk => own_apart h.ato oq (by decide) k hk) (fun e => own_apart h.ato h.ch (by decide) b e rfl)
      len := by simpa using h.len
      q := fun j q' v hq' hv' => by
        by_cases e : i = j
        · subst e
          rw [List.getElem?_set_self (by omega)] at hq'
          rw [List.getElem?_set_self (by rw [h.len]; omega)] at hv'
          cases hq'
          cases hv'
          refine ⟨own_keep ho fun k hk => ho2 k (fun e => by subst e; exact bv hk), fun k hk => ⟨.inr hk, fun e => ?_⟩⟩
          rcases hb k hk with h1 | h1
          · exact (fq k h1).2 e
          · have := hlt h.pl k e
            omega
        · rw [List.getElem?_set_ne e] at hq' hv'
          obtain ⟨o1, o2⟩ := h.q j q' v hq' hv'
          exact ⟨hk3 o1 (fun k hk e2 => h.ne i j vq v k e hv hv' e2 hk) (fun e2 => own_apart o1 h.ch (by decide) b e2 rfl), fun k hk => ⟨.inl (o2 k hk).1, (o2 k hk).2⟩⟩
      ne := fun a c x y k hac hx hy hk => by
        have old : ∀ j u, i ≠ j → vs[j]? = some u → ∀ k, u.ownBlock = some k → v'.ownBlock ≠ some k := fun j u hij hu k hk e => by
          have hj : j < s.C.length := by rw [← h.len]; exact (List.getElem?_eq_some_iff.1 hu).1
          rcases hb k e with h1 | h1
          · exact h.ne i j vq u k hij hv hu h1 hk
          · have := hlt (h.q j s.C[j] u (List.getElem?_eq_getElem hj) hu).1 k hk
            omega
        by_cases e1 : i = a
        · subst e1
          rw [List.getElem?_set_self (by rw [h.len]; omega)] at hx
          rw [List.getElem?_set_ne hac] at hy
          cases hx
          exact fun e2 => old c y hac hy k e2 hk
        · rw [List.getElem?_set_ne e1] at hx
          by_cases e2 : i = c
          · subst e2
            rw [List.getElem?_set_self (by rw [h.len]; omega)] at hy
            cases hy
            exact old a x e1 hx k hk
          · rw [List.getElem?_set_ne e2] at hy
            exact h.ne a c x y k hac hx hy hk
      fg := .inl h.fg
      fP := fun k hk => .inl (h.fP k hk)
      fM := fun k hk => .inl (h.fM k hk)
      fC := fun k hk => .inl (h.fC k hk)
      fA := fun k hk => .inl (h.fA k hk)
      fb := fun k hk => by
        rw [hsz]
        rcases hk with hk | hk
        · exact Nat.lt_of_lt_of_le (h.fb k hk) hg.size
        · exact (own_type ho hk).2.1
      small := by simpa using h.small
      rooms := fun q' hq' => by
        rcases List.mem_or_eq_of_mem_set hq' with h1 | h1
        · exact h.rooms q' h1
        · subst h1
          have := h.rooms q (List.mem_of_getElem? hq)
          exact ⟨this.1, this.2.1, hl⟩ }
  · rcases hk with hk | hk
    · exact .inl hk
    · rcases hb k hk with h1 | h1
      · exact .inl (fq k h1).1
      · exact .inr h1
end
end Go.Proofs.YtbiilnpblnjliaaDoor.Ck

/- Package sync: an element of a list. (Written by mk_y.py.) -/
namespace Go.Proofs.YtbiilnpblnjliaaDoor.Ck
open Go.RowKit

set_option maxRecDepth 20000 in
theorem in_syncelementbool (b n c i : Nat) (w : World) (hi : i < n) : Calls Tryd.prog 56 #[.slice (some ⟨b, 0, none⟩) n c, .int .i64 (i : Nat)] w fun e w' => e = .returned (.tuple #[.pointer (some ⟨b, i, none⟩), .nilIface]) ∧ w = w' := by
  go_enter Tryd.func56, Tryd.ntmps56
  go_wp2_with fail
  go_ret2
  exact ⟨rfl, rfl⟩
set_option maxRecDepth 20000 in
theorem in_syncelementint (b n c i : Nat) (w : World) (hi : i < n) : Calls Tryd.prog 86 #[.slice (some ⟨b, 0, none⟩) n c, .int .i64 (i : Nat)] w fun e w' => e = .returned (.tuple #[.pointer (some ⟨b, i, none⟩), .nilIface]) ∧ w = w' := by
  go_enter Tryd.func86, Tryd.ntmps86
  go_wp2_with fail
  go_ret2
  exact ⟨rfl, rfl⟩
set_option maxRecDepth 20000 in
theorem in_syncelementapiValue (b n c i o : Nat) (w : World) (hi : i < n) (ho : Hid (o = 3 * i)) : Calls Tryd.prog 83 #[.slice (some ⟨b, 0, none⟩) n c, .int .i64 (i : Nat)] w fun e w' => e = .returned (.tuple #[.pointer (some ⟨b, o, none⟩), .nilIface]) ∧ w = w' := by
  go_enter Tryd.func83, Tryd.ntmps83
  go_wp2_with fail
  go_ret2
  exact ⟨by rw [ho.out, Nat.mul_comm 3 i]; rfl, rfl⟩
set_option maxRecDepth 20000 in
theorem in_syncelementsyncqueue (b n c i o : Nat) (w : World) (hi : i < n) (ho : Hid (o = 3 * i)) : Calls Tryd.prog 57 #[.slice (some ⟨b, 0, none⟩) n c, .int .i64 (i : Nat)] w fun e w' => e = .returned (.tuple #[.pointer (some ⟨b, o, none⟩), .nilIface]) ∧ w = w' := by
  go_enter Tryd.func57, Tryd.ntmps57
  go_wp2_with fail
  go_ret2
  exact ⟨by rw [ho.out, Nat.mul_comm 3 i]; rfl, rfl⟩
set_option maxRecDepth 20000 in
theorem out_syncelementbool (a : Option Addr) (n c : Nat) (i : Int) (w : World) {p : List Addr} (h17 : E2 w p) (hi : i < 0 ∨ (n : Int) ≤ i) : Calls Tryd.prog 56 #[.slice a n c, .int .i64 i] w (Vb w (.tuple #[.pointer none, errV p 0])) := by
  have x0 : w.cell? ⟨0, 0, none⟩ = some (errV p 0) := h17.c0
  clear h17
  generalize errV p 0 = ev at *
  by_cases h0 : i < 0
  · clear hi
    go_enter Tryd.func56, Tryd.ntmps56
    go_wp2_with fail
    go_quiet (fail)
    go_wp2_with fail
    go_ret2
    exact Vb.mk rfl (below_drewN (Below.refl _ _) _)
  · have h1 : (n : Int) ≤ i := by omega
    have h2 : 0 ≤ i := by omega
    clear hi h0
    go_enter Tryd.func56, Tryd.ntmps56
    go_wp2_with fail
    go_quiet (fail)
    go_wp2_with fail
    go_ret2
    exact Vb.mk rfl (below_drewN (Below.refl _ _) _)
set_option maxRecDepth 20000 in
theorem out_syncelementint (a : Option Addr) (n c : Nat) (i : Int) (w : World) {p : List Addr} (h17 : E2 w p) (hi : i < 0 ∨ (n : Int) ≤ i) : Calls Tryd.prog 86 #[.slice a n c, .int .i64 i] w (Vb w (.tuple #[.pointer none, errV p 0])) := by
  have x0 : w.cell? ⟨0, 0, none⟩ = some (errV p 0) := h17.c0
  clear h17
  generalize errV p 0 = ev at *
  by_cases h0 : i < 0
  · clear hi
    go_enter Tryd.func86, Tryd.ntmps86
    go_wp2_with fail
    go_quiet (fail)
    go_wp2_with fail
    go_ret2
    exact Vb.mk rfl (below_drewN (Below.refl _ _) _)
  · have h1 : (n : Int) ≤ i := by omega
    have h2 : 0 ≤ i := by omega
    clear hi h0
    go_enter Tryd.func86, Tryd.ntmps86
    go_wp2_with fail
    go_quiet (fail)
    go_wp2_with fail
    go_ret2
    exact Vb.mk rfl (below_drewN (Below.refl _ _) _)
set_option maxRecDepth 20000 in
theorem out_syncelementapiValue (a : Option Addr) (n c : Nat) (i : Int) (w : World) {p : List Addr} (h17 : E2 w p) (hi : i < 0 ∨ (n : Int) ≤ i) : Calls Tryd.prog 83 #[.slice a n c, .int .i64 i] w (Vb w (.tuple #[.pointer none, errV p 0])) := by
  have x0 : w.cell? ⟨0, 0, none⟩ = some (errV p 0) := h17.c0
  clear h17
  generalize errV p 0 = ev at *
  by_cases h0 : i < 0
  · clear hi
    go_enter Tryd.func83, Tryd.ntmps83
    go_wp2_with fail
    go_quiet (fail)
    go_wp2_with fail
    go_ret2
    exact Vb.mk rfl (below_drewN (Below.refl _ _) _)
  · have h1 : (n : Int) ≤ i := by omega
    have h2 : 0 ≤ i := by omega
    clear hi h0
    go_enter Tryd.func83, Tryd.ntmps83
    go_wp2_with fail
    go_quiet (fail)
    go_wp2_with fail
    go_ret2
    exact Vb.mk rfl (below_drewN (Below.refl _ _) _)
set_option maxRecDepth 20000 in
theorem out_syncelementsyncqueue (a : Option Addr) (n c : Nat) (i : Int) (w : World) {p : List Addr} (h17 : E2 w p) (hi : i < 0 ∨ (n : Int) ≤ i) : Calls Tryd.prog 57 #[.slice a n c, .int .i64 i] w (Vb w (.tuple #[.pointer none, errV p 0])) := by
  have x0 : w.cell? ⟨0, 0, none⟩ = some (errV p 0) := h17.c0
  clear h17
  generalize errV p 0 = ev at *
  by_cases h0 : i < 0
  · clear hi
    go_enter Tryd.func57, Tryd.ntmps57
    go_wp2_with fail
    go_quiet (fail)
    go_wp2_with fail
    go_ret2
    exact Vb.mk rfl (below_drewN (Below.refl _ _) _)
  · have h1 : (n : Int) ≤ i := by omega
    have h2 : 0 ≤ i := by omega
    clear hi h0
    go_enter Tryd.func57, Tryd.ntmps57
    go_wp2_with fail
    go_quiet (fail)
    go_wp2_with fail
    go_ret2
    exact Vb.mk rfl (below_drewN (Below.refl _ _) _)
end Go.Proofs.YtbiilnpblnjliaaDoor.Ck

/- Package sync: mutexes. (Written by mk_y.py.) -/
namespace Go.Proofs.YtbiilnpblnjliaaDoor.Ck
open Go.RowKit

/-- a call on a state: what it answers, and the state behind it -/
def Sp (w : World) (F : Nat → Prop) (g : Nat) (s' : St) (v : Value) (e : Ending) (w' : World) : Prop := e = .returned v ∧ ∃ F', Stt w' F' g s' ∧ Ch F F' w w'
theorem Sp.mk {w w' : World} {F F' : Nat → Prop} {g : Nat} {s' : St} {v v' : Value} (hv : v = v') (h : Stt w' F' g s') (hc : Ch F F' w w') : Sp w F g s' v' (.returned v) w' := ⟨by rw [hv], F', h, hc⟩
theorem set_same {α : Type} : ∀ (l : List α) (i : Nat) (x : α), l[i]? = some x → l.set i x = l
  | [], i, x, h => by simp at h
  | y :: l, 0, x, h => by simp at h; simp [h]
  | y :: l, i + 1, x, h => by rw [List.set_cons_succ, set_same l i x (by simpa using h)]
theorem bls_at {l : List Bool} {i : Nat} {x : Bool} (h : l[i]? = some x) : (bls l)[i]? = some (.bool x) := by simp [bls, h]
theorem nts_at {l : List Int} {i : Nat} {x : Int} (h : l[i]? = some x) : (nts l)[i]? = some (.int .i64 x) := by simp [nts, h]
set_option maxRecDepth 20000 in
set_option maxHeartbeats 1000000 in
theorem turn_in {w : World} {F : Nat → Prop} {g : Nat} {s : St} (h : Stt w F g s) (i : Nat) (x y : Bool) (hx : s.M[i]? = some x) : Calls Tryd.prog 85 #[.pointer (some ⟨g, 0, none⟩), .int .i64 (i : Nat), .bool y] w (Sp w F g { s with M := s.M.set i y } (.tuple #[.bool (x != y), .nilIface])) := by
  obtain ⟨vP, vM, vC, vA, vs, h⟩ := h
  have hi : i < s.M.length := (List.getElem?_eq_some_iff.1 hx).1
  obtain ⟨b, c, e, hc, hm⟩ := own_some h.mu (by omega)
  have hsm := h.small
  obtain ⟨n, hn⟩ : ∃ n, n = s.M.length := ⟨_, rfl⟩
  rw [← hn] at e hi hc
  have hn32 : n ≤ 32 := by omega
  subst e
  have HN := hide hn
  have c1 := h.cells.2.1
  obtain ⟨d1, d2⟩ := own_cell h.mu i _ (bls_at hx)
  have SM := hide (h.setM hn i y)
  have S0 := hide h
  have hl := (h.fb b (h.fM b rfl))
  clear h hsm hc hm hn
  by_cases e : x = y
  · subst e
    have hse : Hid (s.M.set i x = s.M) := set_same _ _ _ hx
    go_enter Tryd.func85, Tryd.ntmps85
    go_wp2_with fail
    refine (in_syncelementbool b n c i _ hi).mono ?_
    rintro e w1 ⟨rfl, rfl⟩
    go_wp2_with fail
    go_ret2
    exact Sp.mk (by simp) ⟨_, _, _, _, _, by rw [hse.out]; exact S0.out⟩ (Ch.refl _ _)
  · have e2 : (x == y) = false := by simp [e]
    have E := hide e
    clear e
    go_enter Tryd.func85, Tryd.ntmps85
    go_wp2_with fail
    refine (in_syncelementbool b n c i _ hi).mono ?_
    rintro e w1 ⟨rfl, rfl⟩
    go_wp2_with fail
    go_ret2
    exact Sp.mk (by simp [bne, e2]) ⟨_, _, _, _, _, SM.out.1⟩ SM.out.2
set_option maxRecDepth 20000 in
set_option maxHeartbeats 1000000 in
theorem turn_out {w : World} {F : Nat → Prop} {g : Nat} {s : St} (h : Stt w F g s) {p : List Addr} (h17 : E2 w p) (i : Int) (y : Bool) (hi : i < 0 ∨ (s.M.length : Int) ≤ i) : Calls Tryd.prog 85 #[.pointer (some ⟨g, 0, none⟩), .int .i64 i, .bool y] w (Vb w (.tuple #[.bool false, errV p 0])) := by
  obtain ⟨vP, vM, vC, vA, vs, h⟩ := h
  obtain ⟨a, c, e, hc, hm⟩ := own_slice h.mu
  subst e
  obtain ⟨n, hn⟩ : ∃ n, n = s.M.length := ⟨_, rfl⟩
  rw [← hn] at hi
  have c1 := h.cells.2.1
  rw [← hn] at c1
  have EO := hide (fun w' (h17 : E2 w' p) => out_syncelementbool a n c i w' h17 hi)
  have H7 := hide h17
  unfold errV at *
  generalize adr p 0 = ad at *
  clear h hc hm hi hn h17
  go_enter Tryd.func85, Tryd.ntmps85
  go_wp2_with fail
  refine (EO.out _ H7.out).mono ?_
  rintro e w1 ⟨rfl, hb⟩
  go_wp2_with fail
  go_ret2
  exact Vb.mk rfl hb
set_option maxRecDepth 20000 in
set_option maxHeartbeats 1000000 in
theorem Lock_in {w : World} {F : Nat → Prop} {g : Nat} {s : St} (h : Stt w F g s) (i : Nat) (x : Bool) (hx : s.M[i]? = some x) : Calls Tryd.prog 49 #[.pointer (some ⟨g, 0, none⟩), .int .i64 (i : Nat)] w (Sp w F g { s with M := s.M.set i true } (.tuple #[.bool (!x), .nilIface])) := by
  have T := hide (turn_in h i x true hx)
  clear h hx
  go_enter Tryd.func49, Tryd.ntmps49
  go_wp2_with fail
  refine T.out.mono ?_
  rintro e w1 ⟨rfl, hs⟩
  go_wp2_with fail
  go_ret2
  exact ⟨rfl, hs⟩
theorem Lock_out {w : World} {F : Nat → Prop} {g : Nat} {s : St} (h : Stt w F g s) {p : List Addr} (h17 : E2 w p) (i : Int) (hi : i < 0 ∨ (s.M.length : Int) ≤ i) : Calls Tryd.prog 49 #[.pointer (some ⟨g, 0, none⟩), .int .i64 i] w (Vb w (.tuple #[.bool false, errV p 0])) := by
  have T := hide (turn_out h h17 i true hi)
  clear h hi h17
  unfold errV at *
  generalize adr p 0 = ad at *
  go_enter Tryd.func49, Tryd.ntmps49
  go_wp2_with fail
  refine T.out.mono ?_
  rintro e w1 ⟨rfl, hb⟩
  go_wp2_with fail
  go_ret2
  exact Vb.mk rfl hb
set_option maxRecDepth 20000 in
set_option maxHeartbeats 1000000 in
theorem Unlock_in {w : World} {F : Nat → Prop} {g : Nat} {s : St} (h : Stt w F g s) (i : Nat) (x : Bool) (hx : s.M[i]? = some x) : Calls Tryd.prog 50 #[.pointer (some ⟨g, 0, none⟩), .int .i64 (i : Nat)] w (Sp w F g { s with M := s.M.set i false } (.tuple #[.bool x, .nilIface])) := by
  have T := hide (turn_in h i x false hx)
  clear h hx
  go_enter Tryd.func50, Tryd.ntmps50
  go_wp2_with fail
  refine T.out.mono ?_
  rintro e w1 ⟨rfl, hs⟩
  go_wp2_with fail
  go_ret2
  exact ⟨rfl, hs⟩
theorem Unlock_out {w : World} {F : Nat → Prop} {g : Nat} {s : St} (h : Stt w F g s) {p : List Addr} (h17 : E2 w p) (i : Int) (hi : i < 0 ∨ (s.M.length : Int) ≤ i) : Calls Tryd.prog 50 #[.pointer (some ⟨g, 0, none⟩), .int .i64 i] w (Vb w (.tuple #[.bool false, errV p 0])) := by
  have T := hide (turn_out h h17 i false hi)
  clear h hi h17
  unfold errV at *
  generalize adr p 0 = ad at *
  go_enter Tryd.func50, Tryd.ntmps50
  go_wp2_with fail
  refine T.out.mono ?_
  rintro e w1 ⟨rfl, hb⟩
  go_wp2_with fail
  go_ret2
  exact Vb.mk rfl hb
set_option maxRecDepth 20000 in
set_option maxHeartbeats 1000000 in
theorem Locked_in {w : World} {F : Nat → Prop} {g : Nat} {s : St} (h : Stt w F g s) (i : Nat) (x : Bool) (hx : s.M[i]? = some x) : Calls Tryd.prog 15 #[.pointer (some ⟨g, 0, none⟩), .int .i64 (i : Nat)] w fun e w' => e = .returned (.bool x) ∧ w = w' := by
  obtain ⟨vP, vM, vC, vA, vs, h⟩ := h
  have hi : i < s.M.length := (List.getElem?_eq_some_iff.1 hx).1
  obtain ⟨b, c, e, hc, hm⟩ := own_some h.mu (by omega)
  have hsm := h.small
  obtain ⟨n, hn⟩ : ∃ n, n = s.M.length := ⟨_, rfl⟩
  rw [← hn] at e hi hc
  have hn32 : n ≤ 32 := by omega
  subst e
  have HN := hide hn
  have c1 := h.cells.2.1
  obtain ⟨d1, d2⟩ := own_cell h.mu i _ (bls_at hx)
  clear h hsm hc hm hn
  go_enter Tryd.func15, Tryd.ntmps15
  go_wp2_with fail
  refine (in_syncelementbool b n c i _ hi).mono ?_
  rintro e w1 ⟨rfl, rfl⟩
  go_wp2_with fail
  go_ret
  exact ⟨by simp, rfl⟩
set_option maxRecDepth 20000 in
set_option maxHeartbeats 1000000 in
theorem Locked_out {w : World} {F : Nat → Prop} {g : Nat} {s : St} (h : Stt w F g s) {p : List Addr} (h17 : E2 w p) (i : Int) (hi : i < 0 ∨ (s.M.length : Int) ≤ i) : Calls Tryd.prog 15 #[.pointer (some ⟨g, 0, none⟩), .int .i64 i] w (Vb w (.bool false)) := by
  obtain ⟨vP, vM, vC, vA, vs, h⟩ := h
  obtain ⟨a, c, e, hc, hm⟩ := own_slice h.mu
  subst e
  obtain ⟨n, hn⟩ : ∃ n, n = s.M.length := ⟨_, rfl⟩
  rw [← hn] at hi
  have c1 := h.cells.2.1
  rw [← hn] at c1
  have EO := hide (fun w' (h17 : E2 w' p) => out_syncelementbool a n c i w' h17 hi)
  have H7 := hide h17
  unfold errV at *
  generalize adr p 0 = ad at *
  clear h hc hm hi hn h17
  go_enter Tryd.func15, Tryd.ntmps15
  go_wp2_with fail
  refine (EO.out _ H7.out).mono ?_
  rintro e w1 ⟨rfl, hb⟩
  go_wp2_with fail
  go_ret
  exact Vb.mk rfl hb
end Go.Proofs.YtbiilnpblnjliaaDoor.Ck

/- Package sync: atomics. (Written by mk_y.py.) -/
namespace Go.Proofs.YtbiilnpblnjliaaDoor.Ck
open Go.RowKit

set_option maxRecDepth 20000 in
set_option maxHeartbeats 1000000 in
theorem Get_in {w : World} {F : Nat → Prop} {g : Nat} {s : St} (h : Stt w F g s) (i : Nat) (x : Int) (hx : s.A[i]? = some x) : Calls Tryd.prog 53 #[.pointer (some ⟨g, 0, none⟩), .int .i64 (i : Nat)] w fun e w' => e = .returned (.tuple #[.int .i64 x, .nilIface]) ∧ w = w' := by
  obtain ⟨vP, vM, vC, vA, vs, h⟩ := h
  have hi : i < s.A.length := (List.getElem?_eq_some_iff.1 hx).1
  obtain ⟨b, c, e, hc, hm⟩ := own_some h.ato (by omega)
  have hsm := h.small
  obtain ⟨n, hn⟩ : ∃ n, n = s.A.length := ⟨_, rfl⟩
  rw [← hn] at e hi hc
  have hn32 : n ≤ 32 := by omega
  subst e
  have HN := hide hn
  have c1 := h.cells.2.2.2
  obtain ⟨d1, d2⟩ := own_cell h.ato i _ (nts_at hx)
  clear h hsm hc hm hn
  go_enter Tryd.func53, Tryd.ntmps53
  go_wp2_with fail
  refine (in_syncelementint b n c i _ hi).mono ?_
  rintro e w1 ⟨rfl, rfl⟩
  go_wp2_with fail
  go_ret2
  exact ⟨rfl, rfl⟩
set_option maxRecDepth 20000 in
set_option maxHeartbeats 1000000 in
theorem Get_out {w : World} {F : Nat → Prop} {g : Nat} {s : St} (h : Stt w F g s) {p : List Addr} (h17 : E2 w p) (i : Int) (hi : i < 0 ∨ (s.A.length : Int) ≤ i) : Calls Tryd.prog 53 #[.pointer (some ⟨g, 0, none⟩), .int .i64 i] w (Vb w (.tuple #[.int .i64 0, errV p 0])) := by
  obtain ⟨vP, vM, vC, vA, vs, h⟩ := h
  obtain ⟨a, c, e, hc, hm⟩ := own_slice h.ato
  subst e
  obtain ⟨n, hn⟩ : ∃ n, n = s.A.length := ⟨_, rfl⟩
  rw [← hn] at hi
  have c1 := h.cells.2.2.2
  rw [← hn] at c1
  have EO := hide (fun w' (h17 : E2 w' p) => out_syncelementint a n c i w' h17 hi)
  have H7 := hide h17
  unfold errV at *
  generalize adr p 0 = ad at *
  clear h hc hm hi hn h17
  go_enter Tryd.func53, Tryd.ntmps53
  go_wp2_with fail
  refine (EO.out _ H7.out).mono ?_
  rintro e w1 ⟨rfl, hb⟩
  go_wp2_with fail
  go_ret2
  exact Vb.mk rfl hb
set_option maxRecDepth 20000 in
set_option maxHeartbeats 1000000 in
theorem Put_in {w : World} {F : Nat → Prop} {g : Nat} {s : St} (h : Stt w F g s) (i : Nat) (x y : Int) (hx : s.A[i]? = some x) : Calls Tryd.prog 54 #[.pointer (some ⟨g, 0, none⟩), .int .i64 (i : Nat), .int .i64 y] w (Sp w F g { s with A := s.A.set i y } .nilIface) := by
  obtain ⟨vP, vM, vC, vA, vs, h⟩ := h
  have hi : i < s.A.length := (List.getElem?_eq_some_iff.1 hx).1
  obtain ⟨b, c, e, hc, hm⟩ := own_some h.ato (by omega)
  have hsm := h.small
  obtain ⟨n, hn⟩ : ∃ n, n = s.A.length := ⟨_, rfl⟩
  rw [← hn] at e hi hc
  have hn32 : n ≤ 32 := by omega
  subst e
  have HN := hide hn
  have c1 := h.cells.2.2.2
  obtain ⟨d1, d2⟩ := own_cell h.ato i _ (nts_at hx)
  have SM := hide (h.setA hn i y)
  have hl := (h.fb b (h.fA b rfl))
  clear h hsm hc hm hn
  go_enter Tryd.func54, Tryd.ntmps54
  go_wp2_with fail
  refine (in_syncelementint b n c i _ hi).mono ?_
  rintro e w1 ⟨rfl, rfl⟩
  go_wp2_with fail
  go_ret
  exact Sp.mk rfl ⟨_, _, _, _, _, SM.out.1⟩ SM.out.2
set_option maxRecDepth 20000 in
set_option maxHeartbeats 1000000 in
theorem Put_out {w : World} {F : Nat → Prop} {g : Nat} {s : St} (h : Stt w F g s) {p : List Addr} (h17 : E2 w p) (i : Int) (y : Int) (hi : i < 0 ∨ (s.A.length : Int) ≤ i) : Calls Tryd.prog 54 #[.pointer (some ⟨g, 0, none⟩), .int .i64 i, .int .i64 y] w (Vb w (errV p 0)) := by
  obtain ⟨vP, vM, vC, vA, vs, h⟩ := h
  obtain ⟨a, c, e, hc, hm⟩ := own_slice h.ato
  subst e
  obtain ⟨n, hn⟩ : ∃ n, n = s.A.length := ⟨_, rfl⟩
  rw [← hn] at hi
  have c1 := h.cells.2.2.2
  rw [← hn] at c1
  have EO := hide (fun w' (h17 : E2 w' p) => out_syncelementint a n c i w' h17 hi)
  have H7 := hide h17
  unfold errV at *
  generalize adr p 0 = ad at *
  clear h hc hm hi hn h17
  go_enter Tryd.func54, Tryd.ntmps54
  go_wp2_with fail
  refine (EO.out _ H7.out).mono ?_
  rintro e w1 ⟨rfl, hb⟩
  go_wp2_with fail
  go_ret
  exact Vb.mk rfl hb
set_option maxRecDepth 20000 in
set_option maxHeartbeats 1000000 in
theorem Add_in {w : World} {F : Nat → Prop} {g : Nat} {s : St} (h : Stt w F g s) (i : Nat) (x y : Int) (hx : s.A[i]? = some x) : Calls Tryd.prog 55 #[.pointer (some ⟨g, 0, none⟩), .int .i64 (i : Nat), .int .i64 y] w (Sp w F g { s with A := s.A.set i (wrap64 (x + y)) } .nilIface) := by
  obtain ⟨vP, vM, vC, vA, vs, h⟩ := h
  have hi : i < s.A.length := (List.getElem?_eq_some_iff.1 hx).1
  obtain ⟨b, c, e, hc, hm⟩ := own_some h.ato (by omega)
  have hsm := h.small
  obtain ⟨n, hn⟩ : ∃ n, n = s.A.length := ⟨_, rfl⟩
  rw [← hn] at e hi hc
  have hn32 : n ≤ 32 := by omega
  subst e
  have HN := hide hn
  have c1 := h.cells.2.2.2
  obtain ⟨d1, d2⟩ := own_cell h.ato i _ (nts_at hx)
  have SM := hide (h.setA hn i (wrap64 (x + y)))
  have hl := (h.fb b (h.fA b rfl))
  clear h hsm hc hm hn
  go_enter Tryd.func55, Tryd.ntmps55
  go_wp2_with fail
  refine (in_syncelementint b n c i _ hi).mono ?_
  rintro e w1 ⟨rfl, rfl⟩
  go_wp2_with fail
  go_ret
  exact Sp.mk rfl ⟨_, _, _, _, _, SM.out.1⟩ SM.out.2
set_option maxRecDepth 20000 in
set_option maxHeartbeats 1000000 in
theorem Add_out {w : World} {F : Nat → Prop} {g : Nat} {s : St} (h : Stt w F g s) {p : List Addr} (h17 : E2 w p) (i : Int) (y : Int) (hi : i < 0 ∨ (s.A.length : Int) ≤ i) : Calls Tryd.prog 55 #[.pointer (some ⟨g, 0, none⟩), .int .i64 i, .int .i64 y] w (Vb w (errV p 0)) := by
  obtain ⟨vP, vM, vC, vA, vs, h⟩ := h
  obtain ⟨a, c, e, hc, hm⟩ := own_slice h.ato
  subst e
  obtain ⟨n, hn⟩ : ∃ n, n = s.A.length := ⟨_, rfl⟩
  rw [← hn] at hi
  have c1 := h.cells.2.2.2
  rw [← hn] at c1
  have EO := hide (fun w' (h17 : E2 w' p) => out_syncelementint a n c i w' h17 hi)
  have H7 := hide h17
  unfold errV at *
  generalize adr p 0 = ad at *
  clear h hc hm hi hn h17
  go_enter Tryd.func55, Tryd.ntmps55
  go_wp2_with fail
  refine (EO.out _ H7.out).mono ?_
  rintro e w1 ⟨rfl, hb⟩
  go_wp2_with fail
  go_ret
  exact Vb.mk rfl hb
end Go.Proofs.YtbiilnpblnjliaaDoor.Ck

/- Package sync: looking at channels. (Written by mk_y.py.) -/
namespace Go.Proofs.YtbiilnpblnjliaaDoor.Ck
open Go.RowKit

set_option maxRecDepth 20000 in
set_option maxHeartbeats 1000000 in
theorem Len_in {w : World} {F : Nat → Prop} {g : Nat} {s : St} (h : Stt w F g s) (i : Nat) (q : Qu) (hx : s.C[i]? = some q) : Calls Tryd.prog 16 #[.pointer (some ⟨g, 0, none⟩), .int .i64 (i : Nat)] w fun e w' => e = .returned (.int .i64 (q.l.length : Nat)) ∧ w = w' := by
  obtain ⟨vP, vM, vC, vA, vs, h⟩ := h
  have hi : i < s.C.length := (List.getElem?_eq_some_iff.1 hx).1
  obtain ⟨b, c, e, hc, hm⟩ := own_some h.ch (by omega)
  have hsm := h.small
  obtain ⟨n, hn⟩ : ∃ n, n = s.C.length := ⟨_, rfl⟩
  rw [← hn] at e hi hc
  have hn32 : n ≤ 32 := by omega
  subst e
  have HN := hide hn
  have c1 := h.cells.2.2.1
  have hvi : i < vs.length := by rw [h.len]; omega
  obtain ⟨vq, hv⟩ : ∃ v, vs[i]? = some v := ⟨_, List.getElem?_eq_getElem hvi⟩
  obtain ⟨oq, fq⟩ := h.q i q vq hx hv
  obtain ⟨aq, cq, eq, hcq, hmq⟩ := own_slice oq
  obtain ⟨o, ho⟩ : ∃ o, o = 3 * i := ⟨_, rfl⟩
  obtain ⟨q0, q1, q2⟩ := qcs_at _ _ _ _ _ hx hv
  rw [← ho] at q0 q1 q2
  obtain ⟨d0, f0⟩ := own_cell h.ch _ _ q0
  obtain ⟨d1, f1⟩ := own_cell h.ch _ _ q1
  obtain ⟨d2, f2⟩ := own_cell h.ch _ _ q2
  have HO := hide ho
  have hl := h.fb b (h.fC b rfl)
  have hgl := h.fb g h.fg
  rw [eq] at d2
  clear h hsm hc hm hn eq oq fq hv hvi q0 q1 q2 ho
  go_enter Tryd.func16, Tryd.ntmps16
  go_wp2_with fail
  refine (in_syncelementsyncqueue b n c i o _ hi HO).mono ?_
  rintro e w1 ⟨rfl, rfl⟩
  go_wp2_with fail
  go_ret
  exact ⟨rfl, rfl⟩
set_option maxRecDepth 20000 in
set_option maxHeartbeats 1000000 in
theorem Len_out {w : World} {F : Nat → Prop} {g : Nat} {s : St} (h : Stt w F g s) {p : List Addr} (h17 : E2 w p) (i : Int) (hi : i < 0 ∨ (s.C.length : Int) ≤ i) : Calls Tryd.prog 16 #[.pointer (some ⟨g, 0, none⟩), .int .i64 i] w (Vb w (.int .i64 0)) := by
  obtain ⟨vP, vM, vC, vA, vs, h⟩ := h
  obtain ⟨a, c, e, hc, hm⟩ := own_slice h.ch
  subst e
  obtain ⟨n, hn⟩ : ∃ n, n = s.C.length := ⟨_, rfl⟩
  rw [← hn] at hi
  have c1 := h.cells.2.2.1
  rw [← hn] at c1
  have EO := hide (fun w' (h17 : E2 w' p) => out_syncelementsyncqueue a n c i w' h17 hi)
  have H7 := hide h17
  unfold errV at *
  generalize adr p 0 = ad at *
  clear h hc hm hi hn h17
  go_enter Tryd.func16, Tryd.ntmps16
  go_wp2_with fail
  refine (EO.out _ H7.out).mono ?_
  rintro e w1 ⟨rfl, hb⟩
  go_wp2_with fail
  go_ret
  exact Vb.mk rfl hb
set_option maxRecDepth 20000 in
set_option maxHeartbeats 1000000 in
theorem Room_in {w : World} {F : Nat → Prop} {g : Nat} {s : St} (h : Stt w F g s) (i : Nat) (q : Qu) (hx : s.C[i]? = some q) : Calls Tryd.prog 18 #[.pointer (some ⟨g, 0, none⟩), .int .i64 (i : Nat)] w fun e w' => e = .returned (.int .i64 q.room) ∧ w = w' := by
  obtain ⟨vP, vM, vC, vA, vs, h⟩ := h
  have hi : i < s.C.length := (List.getElem?_eq_some_iff.1 hx).1
  obtain ⟨b, c, e, hc, hm⟩ := own_some h.ch (by omega)
  have hsm := h.small
  obtain ⟨n, hn⟩ : ∃ n, n = s.C.length := ⟨_, rfl⟩
  rw [← hn] at e hi hc
  have hn32 : n ≤ 32 := by omega
  subst e
  have HN := hide hn
  have c1 := h.cells.2.2.1
  have hvi : i < vs.length := by rw [h.len]; omega
  obtain ⟨vq, hv⟩ : ∃ v, vs[i]? = some v := ⟨_, List.getElem?_eq_getElem hvi⟩
  obtain ⟨oq, fq⟩ := h.q i q vq hx hv
  obtain ⟨aq, cq, eq, hcq, hmq⟩ := own_slice oq
  obtain ⟨o, ho⟩ : ∃ o, o = 3 * i := ⟨_, rfl⟩
  obtain ⟨q0, q1, q2⟩ := qcs_at _ _ _ _ _ hx hv
  rw [← ho] at q0 q1 q2
  obtain ⟨d0, f0⟩ := own_cell h.ch _ _ q0
  obtain ⟨d1, f1⟩ := own_cell h.ch _ _ q1
  obtain ⟨d2, f2⟩ := own_cell h.ch _ _ q2
  have HO := hide ho
  have hl := h.fb b (h.fC b rfl)
  have hgl := h.fb g h.fg
  clear h hsm hc hm hn eq oq fq hv hvi q0 q1 q2 ho
  go_enter Tryd.func18, Tryd.ntmps18
  go_wp2_with fail
  refine (in_syncelementsyncqueue b n c i o _ hi HO).mono ?_
  rintro e w1 ⟨rfl, rfl⟩
  go_wp2_with fail
  go_ret
  exact ⟨rfl, rfl⟩
set_option maxRecDepth 20000 in
set_option maxHeartbeats 1000000 in
theorem Room_out {w : World} {F : Nat → Prop} {g : Nat} {s : St} (h : Stt w F g s) {p : List Addr} (h17 : E2 w p) (i : Int) (hi : i < 0 ∨ (s.C.length : Int) ≤ i) : Calls Tryd.prog 18 #[.pointer (some ⟨g, 0, none⟩), .int .i64 i] w (Vb w (.int .i64 0)) := by
  obtain ⟨vP, vM, vC, vA, vs, h⟩ := h
  obtain ⟨a, c, e, hc, hm⟩ := own_slice h.ch
  subst e
  obtain ⟨n, hn⟩ : ∃ n, n = s.C.length := ⟨_, rfl⟩
  rw [← hn] at hi
  have c1 := h.cells.2.2.1
  rw [← hn] at c1
  have EO := hide (fun w' (h17 : E2 w' p) => out_syncelementsyncqueue a n c i w' h17 hi)
  have H7 := hide h17
  unfold errV at *
  generalize adr p 0 = ad at *
  clear h hc hm hi hn h17
  go_enter Tryd.func18, Tryd.ntmps18
  go_wp2_with fail
  refine (EO.out _ H7.out).mono ?_
  rintro e w1 ⟨rfl, hb⟩
  go_wp2_with fail
  go_ret
  exact Vb.mk rfl hb
end Go.Proofs.YtbiilnpblnjliaaDoor.Ck

/- Package sync: reading a place. (Written by mk_y.py.) -/
namespace Go.Proofs.YtbiilnpblnjliaaDoor.Ck
open Go.RowKit

theorem ret_ve {fn : Func} {R : Ending → World → Prop} {a : Act} {w : World} {p q : Tmp} (g : Nat) {t n b : Int} {ev : Value} (hf : fn.results = #[.cell p 41, .tmp q]) (hp : a.tmps.getD p undef = .pointer (some ⟨g, 0, none⟩)) (hq : a.tmps.getD q undef = ev)
    (h : Val w g t n b) (hdf : a.defers = []) (hR : R (.returned (.tuple #[.agg #[.int .i64 t, .int .i64 n, .int .u64 b], ev])) w) : bodyPost Tryd.prog fn R .ret a w :=
  bodyPost_ret (by
    have hp' : a.tmps[p]?.getD undef = .pointer (some ⟨g, 0, none⟩) := by simpa using hp
    have hq' : a.tmps[q]?.getD undef = ev := by simpa using hq
    obtain ⟨_, c0, c1, c2⟩ := h.all
    simp [results, hf, hp', hq', go_sem, c0, c1, c2]) hdf hR
set_option maxRecDepth 20000 in
set_option maxHeartbeats 1000000 in
theorem Read_in {w : World} {F : Nat → Prop} {g : Nat} {s : St} (h : Stt w F g s) (i : Nat) (x : V3) (hx : s.P[i]? = some x) : Calls Tryd.prog 45 #[.pointer (some ⟨g, 0, none⟩), .int .i64 (i : Nat)] w (Vb w (.tuple #[.agg #[.int .i64 x.1, .int .i64 x.2.1, .int .u64 x.2.2], .nilIface])) := by
  obtain ⟨vP, vM, vC, vA, vs, h⟩ := h
  have hi : i < s.P.length := (List.getElem?_eq_some_iff.1 hx).1
  obtain ⟨b, c, e, hc, hm⟩ := own_some h.pl (by omega)
  have hsm := h.small
  obtain ⟨n, hn⟩ : ∃ n, n = s.P.length := ⟨_, rfl⟩
  rw [← hn] at e hi hc
  have hn32 : n ≤ 128 := by omega
  subst e
  have HN := hide hn
  have c1 := h.cells.1
  obtain ⟨x0, x1, x2⟩ := x
  obtain ⟨o, ho⟩ : ∃ o, o = 3 * i := ⟨_, rfl⟩
  obtain ⟨q0, q1, q2⟩ := vcs_at _ _ _ hx
  rw [← ho] at q0 q1 q2
  obtain ⟨d0, f0⟩ := own_cell h.pl _ _ q0
  obtain ⟨d1, f1⟩ := own_cell h.pl _ _ q1
  obtain ⟨d2, f2⟩ := own_cell h.pl _ _ q2
  have HO := hide ho
  have hl := h.fb b (h.fP b rfl)
  have hgl := h.fb g h.fg
  simp only at d0 d1 d2
  clear h hsm hc hm hn q0 q1 q2 ho
  go_enter Tryd.func45, Tryd.ntmps45
  go_wp2_with fail
  refine (in_syncelementapiValue b n c i o _ hi HO).mono ?_
  rintro e w1 ⟨rfl, rfl⟩
  go_wp2_with fail
  exact ret_ve w.heap.size rfl rfl rfl (Val.new w _ _ _) rfl (Vb.mk rfl (bel_new _ _))
set_option maxRecDepth 20000 in
set_option maxHeartbeats 1000000 in
theorem Read_out {w : World} {F : Nat → Prop} {g : Nat} {s : St} (h : Stt w F g s) {p : List Addr} (h17 : E2 w p) (i : Int) (hi : i < 0 ∨ (s.P.length : Int) ≤ i) : Calls Tryd.prog 45 #[.pointer (some ⟨g, 0, none⟩), .int .i64 i] w (Vb w (.tuple #[.agg #[.int .i64 0, .int .i64 0, .int .u64 0], errV p 0])) := by
  obtain ⟨vP, vM, vC, vA, vs, h⟩ := h
  obtain ⟨a, c, e, hc, hm⟩ := own_slice h.pl
  subst e
  obtain ⟨n, hn⟩ : ∃ n, n = s.P.length := ⟨_, rfl⟩
  rw [← hn] at hi
  have c1 := h.cells.1
  rw [← hn] at c1
  have EO := hide (fun w' (h17 : E2 w' p) => out_syncelementapiValue a n c i w' h17 hi)
  have H7 := hide h17
  unfold errV at *
  generalize adr p 0 = ad at *
  have HGL := hide (h.fb g h.fg)
  clear h hc hm hi hn h17
  have H7a := hide (H7.out.below (Nat.le_refl _) (bel_new w (.cells #[.int .i64 0, .int .i64 0, .int .u64 0] 41)))
  have hgl := HGL.out
  have V0 := hide (Val.new w 0 0 0)
  go_enter Tryd.func45, Tryd.ntmps45
  go_wp2_with fail
  refine (EO.out _ H7a.out).mono ?_
  rintro e w1 ⟨rfl, hb⟩
  have V1 := V0.out.al hb
  obtain ⟨⟨f0, f1, f2⟩, v0, v1, v2⟩ := V1.all
  go_wp2_with fail
  exact ret_ve w.heap.size rfl rfl rfl (V1.set 0 0 0) rfl (Vb.mk rfl (bel_set (bel_trans (bel_new _ _) hb) (Nat.le_refl _) _ _ _))
end Go.Proofs.YtbiilnpblnjliaaDoor.Ck
