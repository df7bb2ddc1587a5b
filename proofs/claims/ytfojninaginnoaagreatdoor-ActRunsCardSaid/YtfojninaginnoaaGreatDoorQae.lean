/- Texts of this proof, packed: contracts of the program's functions, and the plain model that they are held against. -/
import Derived.Test.YtfojninaginnoaaGreatDoorQad
import Derived.StillTailTactics
set_option maxRecDepth 20000
set_option maxHeartbeats 4000000
namespace Go.Proofs.YtfojninaginnoaaGreatDoor.Ck
open Go.RowKit
def Qs2 (w : World) (b : Nat) (t room : Int) (v : Value) : Prop := w.heap[b]? = some (.cells #[I_ t, I_ room, v] 113 (0, 0)) /\ b < w.heap.size
theorem Qs2.cells {w : World} {b : Nat} {t room : Int} {v : Value} (h : Qs2 w b t room v) : w.cell? ⟨b, 0, none⟩ = some (I_ t) /\ w.cell? ⟨b, 1, none⟩ = some (I_ room) /\ w.cell? ⟨b, 2, none⟩ = some v := ⟨Zb h.1 0 _ rfl, Zb h.1 1 _ rfl, Zb h.1 2 _ rfl⟩
theorem Qs2.al {w w' : World} {b : Nat} {t room : Int} {v : Value} (h : Qs2 w b t room v) (hb : Below w.heap.size w w') : Qs2 w' b t room v := ⟨(hb.block b h.2).trans h.1, Nat.lt_of_lt_of_le h.2 hb.size⟩
theorem Qs2.set {w : World} {b : Nat} {t room : Int} {v : Value} (h : Qs2 w b t room v) {g : Nat} (hg : b ≠ g) (x y z : Value) : Qs2 (((w.setCell ⟨g, 0, none⟩ x).setCell ⟨g, 1, none⟩ y).setCell ⟨g, 2, none⟩ z) b t room v :=
 ⟨((Below.heap_setCell _ _ _ _ hg).trans ((Below.heap_setCell _ _ _ _ hg).trans (Below.heap_setCell _ _ _ _ hg))).trans h.1, by rw [Zi, Zi, Zi]; exact h.2⟩
theorem Qs2.mk3 {w : World} {g : Nat} {c0 c1 c2 x y z : Value} (h : w.heap[g]? = some (.cells #[c0, c1, c2] 113 (0, 0))) : (((w.setCell ⟨g, 0, none⟩ x).setCell ⟨g, 1, none⟩ y).setCell ⟨g, 2, none⟩ z).heap[g]? = some (.cells #[x, y, z] 113 (0, 0)) :=
 heap_setCell_same _ _ _ _ _ _ (heap_setCell_same _ _ _ _ _ _ (heap_setCell_same _ _ _ _ _ _ h))
theorem own_low {w : World} {B B' : Nat} {T : TypeId} {n : Nat} {v : Value} {len : Nat} {xs : List Value} (h : w.ownsRow B T n v len xs) (hB : B' <= B) : w.ownsRow B' T n v len xs := by
 obtain ⟨hl, h0 | ⟨gb, cap, cur, e, hB2, r⟩⟩ := h
 · exact ⟨hl, .inl h0⟩
 · exact ⟨hl, .inr ⟨gb, cap, cur, e, Nat.le_trans hB hB2, r⟩⟩
theorem ret_q {fn : Func} {R : Ending -> World -> Prop} {a : Act} {w : World} {p : Tmp} (g : Nat) {x y z : Value} (hf : fn.results = #[.cell p 113]) (hp : a.tmps.getD p undef = P_ g)
    (h : w.heap[g]? = some (.cells #[x, y, z] 113 (0, 0))) (hdf : a.defers = []) (hR : R (.returned (.agg #[x, y, z])) w) : bodyPost Tryz.prog fn R .ret a w :=
  bodyPost_ret (by
    have hp' : a.tmps[p]?.getD undef = P_ g := by simpa using hp
    have c0 := Zb h 0 _ rfl
    have c1 := Zb h 1 _ rfl
    have c2 := Zb h 2 _ rfl
    simp [results, hf, hp', go_sem, c0, c1, c2]) hdf hR
def ClP (w : World) (T : TypeId) (sz n : Nat) (xs : List Value) (e : Ending) (w' : World) : Prop := ∃ a c, e = .returned (.slice a n c) /\ w'.ownsRow w.heap.size T sz (.slice a n c) n xs /\ Below w.heap.size w w'
theorem cloneV {w : World} {src : Value} {n : Nat} {xs : List Value} (hs : w.ownsRow 0 64 3 src n xs) (hn : n <= 1000) (h1 : ∀ u ∈ xs, u.oneCell' = true) : Calls Tryz.prog 85 #[src] w (ClP w 64 3 n xs) := by
 rcases own_form hs with ⟨rfl, rfl⟩ | ⟨b, c, rfl, _⟩
 · have e : xs = [] := by have := hs.1; simpa using this
   subst e
   clear hs
   have hE : ∀ w, (binOp .eql 65 (.slice none 0 0) (.slice none 0 0)).run Tryz.prog w = .ok (.bool true) w := fun w => by kernel_rfl
   go_enter Tryz.func85, Tryz.ntmps85
   go_wp2_with fail
   go_ret
   exact ⟨_, _, rfl, World.ownsRow_nil _ _ _ _, Below.refl _ _⟩
 · have hb := Zd w (.cells #[] 64)
   have AP := Za (fun ty => Yq (B := w.heap.size) Tryz.underlying65 Ym rfl (by decide) (B_ w (.cells #[] 64)) (Nat.le_refl _) (Zj hs (fun k hk => hb.block k (Zf hs hk).2.1)) (by omega) h1 hb.size ty)
   have HB := Za hb
   clear hs hb h1
   have hE : ∀ w, (binOp .eql 65 (.slice (some ⟨b, 0, none⟩) n c) (.slice none 0 0)).run Tryz.prog w = .ok (.bool false) w := fun w => by kernel_rfl
   go_enter Tryz.func85, Tryz.ntmps85
   go_wp2_with (first | (at_builtin; refine ZU (TS := 65) rfl (.tmp 5) (.tmp 6) rfl _ _ rfl rfl _ (AP.out _) ?_; rintro v9 w9 ⟨⟨a9, c9, rfl⟩, o9, b9, _⟩; have R9 := Za (And.intro o9 b9); clear o9 b9))
   go_ret
   exact ⟨_, _, rfl, R9.out.1, Zg HB.out R9.out.2⟩
theorem cloneB {w : World} {src : Value} {n : Nat} {xs : List Value} (hs : w.ownsRow 0 4 1 src n xs) (hn : n <= 1000) (h1 : ∀ u ∈ xs, u.oneCell' = true) : Calls Tryz.prog 100 #[src] w (ClP w 4 1 n xs) := by
 rcases own_form hs with ⟨rfl, rfl⟩ | ⟨b, c, rfl, _⟩
 · have e : xs = [] := by have := hs.1; simpa using this
   subst e
   clear hs
   have hE : ∀ w, (binOp .eql 88 (.slice none 0 0) (.slice none 0 0)).run Tryz.prog w = .ok (.bool true) w := fun w => by kernel_rfl
   go_enter Tryz.func100, Tryz.ntmps100
   go_wp2_with fail
   go_ret
   exact ⟨_, _, rfl, World.ownsRow_nil _ _ _ _, Below.refl _ _⟩
 · have hb := Zd w (.cells #[] 4)
   have AP := Za (fun ty => Yq (B := w.heap.size) Tryz.underlying88 info_bool rfl (by decide) (B_ w (.cells #[] 4)) (Nat.le_refl _) (Zj hs (fun k hk => hb.block k (Zf hs hk).2.1)) (by omega) h1 hb.size ty)
   have HB := Za hb
   clear hs hb h1
   have hE : ∀ w, (binOp .eql 88 (.slice (some ⟨b, 0, none⟩) n c) (.slice none 0 0)).run Tryz.prog w = .ok (.bool false) w := fun w => by kernel_rfl
   go_enter Tryz.func100, Tryz.ntmps100
   go_wp2_with (first | (at_builtin; refine ZU (TS := 88) rfl (.tmp 5) (.tmp 6) rfl _ _ rfl rfl _ (AP.out _) ?_; rintro v9 w9 ⟨⟨a9, c9, rfl⟩, o9, b9, _⟩; have R9 := Za (And.intro o9 b9); clear o9 b9))
   go_ret
   exact ⟨_, _, rfl, R9.out.1, Zg HB.out R9.out.2⟩
theorem cloneI {w : World} {src : Value} {n : Nat} {xs : List Value} (hs : w.ownsRow 0 3 1 src n xs) (hn : n <= 1000) (h1 : ∀ u ∈ xs, u.oneCell' = true) : Calls Tryz.prog 44 #[src] w (ClP w 3 1 n xs) := by
 rcases own_form hs with ⟨rfl, rfl⟩ | ⟨b, c, rfl, _⟩
 · have e : xs = [] := by have := hs.1; simpa using this
   subst e
   clear hs
   have hE : ∀ w, (binOp .eql 22 (.slice none 0 0) (.slice none 0 0)).run Tryz.prog w = .ok (.bool true) w := fun w => by kernel_rfl
   go_enter Tryz.func44, Tryz.ntmps44
   go_wp2_with fail
   go_ret
   exact ⟨_, _, rfl, World.ownsRow_nil _ _ _ _, Below.refl _ _⟩
 · have hb := Zd w (.cells #[] 3)
   have AP := Za (fun ty => Yq (B := w.heap.size) Tryz.underlying22 info3 rfl (by decide) (B_ w (.cells #[] 3)) (Nat.le_refl _) (Zj hs (fun k hk => hb.block k (Zf hs hk).2.1)) (by omega) h1 hb.size ty)
   have HB := Za hb
   clear hs hb h1
   have hE : ∀ w, (binOp .eql 22 (.slice (some ⟨b, 0, none⟩) n c) (.slice none 0 0)).run Tryz.prog w = .ok (.bool false) w := fun w => by kernel_rfl
   go_enter Tryz.func44, Tryz.ntmps44
   go_wp2_with (first | (at_builtin; refine ZU (TS := 22) rfl (.tmp 5) (.tmp 6) rfl _ _ rfl rfl _ (AP.out _) ?_; rintro v9 w9 ⟨⟨a9, c9, rfl⟩, o9, b9, _⟩; have R9 := Za (And.intro o9 b9); clear o9 b9))
   go_ret
   exact ⟨_, _, rfl, R9.out.1, Zg HB.out R9.out.2⟩
theorem qclone {w : World} {b : Nat} {t room : Int} {a : Option Addr} {n c : Nat} {l : List V3} (hb : w.heap[b]? = some (.cells #[I_ t, I_ room, .slice a n c] 113 (0, 0))) (ho : w.ownsRow 0 64 3 (.slice a n c) n (vcs l)) (hn : n <= 1000) :
 Calls Tryz.prog 101 #[P_ b] w fun e w' => ∃ a' c', e = .returned (.agg #[I_ t, I_ room, .slice a' n c']) /\ w'.ownsRow w.heap.size 64 3 (.slice a' n c') n (vcs l) /\ Below w.heap.size w w' := by
 have hbl := Ze hb
 have HB := Za hb
 have HO := Za ho
 clear hb ho
 go_enter Tryz.func101, Tryz.ntmps101
 go_wp2_with fail
 have B1 := Za (Zd w (.cells #[I_ 0, I_ 0, .slice none 0 0] 113))
 have X1 : Hid ((w.alloc (.cells #[I_ 0, I_ 0, .slice none 0 0] 113)).heap[w.heap.size]? = some (.cells #[I_ 0, I_ 0, .slice none 0 0] 113 (0, 0))) := Za (B_ w _)
 generalize w.alloc _ = w1 at *
 refine wp_region_held_drew (S := fun w' => Qs2 w' b t room (.slice a n c)) ZK (by exact ⟨((B1.out.block b hbl).trans HB.out), Nat.lt_of_lt_of_le hbl B1.out.size⟩) (fun hH => ?_)
 have B2 := Za (Zp B1.out)
 have X2 : Hid (w1.drew.heap[w.heap.size]? = some (.cells #[I_ 0, I_ 0, .slice none 0 0] 113 (0, 0))) := X1
 clear B1 X1
 generalize w1.drew = w2 at *
 refine H2_ 0 hH ?_
 simp only [Act.put, S_]
 refine H2_ 1 hH ?_
 simp only [Act.put, S_]
 refine H2_ 2 hH ?_
 simp only [Act.put, S_]
 refine H_ 3 (v := ?_) ?_ hH ?_
 rotate_left 1
 · (intro w hSw; have q := hSw.cells; clear hSw; go_simp <;> with_reducible rfl)
 simp only [Act.put, S_]
 refine H2_ 4 hH ?_
 simp only [Act.put, S_]
 refine H2_ 5 hH ?_
 simp only [Act.put, S_]
 refine H2_ 6 hH ?_
 simp only [Act.put, S_]
 refine H_ 7 (v := ?_) ?_ hH ?_
 rotate_left 1
 · (intro w hSw; have q := hSw.cells; clear hSw; go_simp <;> with_reducible rfl)
 simp only [Act.put, S_]
 refine RH_ 8 (fun K1 hK1 => ?_)
 go_simp
 refine (cloneV (Zj HO.out (fun k hk => B2.out.block k (Zf HO.out hk).2.1)) hn (Yt _)).mono ?_
 rintro e w3 ⟨a3, c3, rfl, o3, b3⟩
 have O3 := Za o3
 have B3 := Za (Zg B2.out b3)
 have X3 := Za ((b3.block _ (Ze X2.out)).trans X2.out)
 have Z3 := Za B2.out.size
 refine hK1.out _ _ (hH.al b3) (fun hH => ?_)
 clear hK1 K1 o3 b3 B2 X2
 refine H2_ 9 hH ?_
 simp only [Act.put, S_]
 refine RH_ 10 (fun K1 hK1 => ?_)
 have q0 := Zb X3.out 0 _ rfl
 have q1 := Zb X3.out 1 _ rfl
 have q2 := Zb X3.out 2 _ rfl
 have p0 := Zc X3.out 0
 have p1 := Zc X3.out 1
 have p2 := Zc X3.out 2
 go_simp
 refine hK1.out _ _ (hH.set (by omega) _ _ _) (fun hH => ?_)
 clear hK1 K1 q0 q1 q2 p0 p1 p2
 refine wpAnyH_done (by kernel_rfl) ?_ _
 clear hH
 go_wp2_with fail
 refine ret_q w.heap.size rfl rfl (Qs2.mk3 X3.out) rfl ⟨a3, c3, rfl, ?_, ?_⟩
 · refine Zj (own_low O3.out Z3.out) (fun k hk => ?_)
   have hne : k ≠ w.heap.size := fun e => Zv O3.out X3.out (by decide) (by rw [hk, e])
   exact (Below.heap_setCell _ _ _ _ hne).trans ((Below.heap_setCell _ _ _ _ hne).trans (Below.heap_setCell _ _ _ _ hne))
 · exact Zt B3.out (Nat.le_refl _) _ _ _
def wcs (x : Wt) (va : Value) : List Value := [I_ x.k, I_ x.o, I_ x.a, I_ x.v.1, I_ x.v.2.1, .int .u64 x.v.2.2, va]
def pts (l : List Nat) : List Value := l.map fun b => P_ b
def ecs : List Evt -> List Value
 | [] => []
 | e :: l => .int .i64 e.g :: .int .i64 e.k :: .int .i64 e.o :: .int .i64 e.a :: ecs l
theorem ecs_app : ∀ a b, ecs (a ++ b) = ecs a ++ ecs b
 | [], b => rfl
 | e :: a, b => by simp [ecs, ecs_app a b]
theorem pts_at {l : List Nat} {i b : Nat} (h : l[i]? = some b) : (pts l)[i]? = some (P_ b) := by simp [pts, h]
def YN (w : World) (R : Nat -> Prop) (v : Value) : Prop := ∃ (n : Nat) (xs : List Value), n <= 2000 /\ w.ownsRow 0 64 3 v n xs /\ (∀ u ∈ xs, u.oneCell' = true) /\ ∀ k, v.ownBlock = some k -> R k
def WRow (w : World) (R : Nat -> Prop) (v : Value) (l : List Wt) : Prop := ∃ (a : Option Addr) (c : Nat), v = .slice a l.length c /\ l.length <= c /\ c <= maxLen ∧
 ∀ (i : Nat) (x : Wt), l[i]? = some x -> ∃ (b o : Nat) (va : Value), a = some ⟨b, o, none⟩ /\ R b /\ (∀ (j : Nat) (u : Value), (wcs x va)[j]? = some u -> w.cell? ⟨b, o + 7 * i + j, none⟩ = some u) /\ YN w R va
def Gor (w : World) (R : Nat -> Prop) (b t : Nat) (x : Gr) : Prop := ∃ va vw,
 w.heap[b]? = some (.cells #[.iface 126 (P_ t), I_ x.w.k, I_ x.w.o, I_ x.w.a, I_ x.w.v.1, I_ x.w.v.2.1, .int .u64 x.w.v.2.2, va] 136 (0, 0)) /\ YN w R va ∧
 w.heap[t]? = some (.cells #[vw] 128 (0, 0)) /\ WRow w R vw x.rest
def Beg (w : World) (R : Nat -> Prop) (vB : Value) (S : List (List Wt)) : Prop := ∃ (c : Nat) (vS : Value) (vs : List Value), vB = .func (.func 59) #[] #[P_ c] /\ R c ∧
 w.heap[c]? = some (.cells #[vS] 24 (0, 0)) /\ w.ownsRow 0 68 1 vS S.length vs /\ (∀ k, vS.ownBlock = some k -> R k) /\ S.length <= 2000 /\ ∀ (i : Nat) (l : List Wt) (v : Value), S[i]? = some l -> vs[i]? = some v -> WRow w R v l
section
variable {w w' : World} {R R' : Nat → Prop}
theorem Yh {b i : Nat} {u : Value} (hk : w'.heap[b]? = w.heap[b]?) (h : w.cell? ⟨b, i, none⟩ = some u) : w'.cell? ⟨b, i, none⟩ = some u := by
 unfold World.cell? at h ⊢
 rw [hk]
 exact h
theorem YN.keep {v : Value} (h : YN w R v) (hk : ∀ k, R k -> w'.heap[k]? = w.heap[k]?) (hR : ∀ k, R k -> R' k) : YN w' R' v := by
 obtain ⟨n, xs, h1, h2, h3, h4⟩ := h
 exact ⟨n, xs, h1, Zj h2 fun k hk' => hk k (h4 k hk'), h3, fun k hk' => hR k (h4 k hk')⟩
theorem YN.nilS : YN w R (.slice none 0 0) := ⟨0, [], by omega, Yl _ _ _, fun _ h => (by cases h), fun _ h => (by cases h)⟩
theorem YN.form {v : Value} (h : YN w R v) : ∃ a n c, v = .slice a n c := by
 obtain ⟨n, xs, h1, h2, h3, h4⟩ := h
 obtain ⟨a, c, e, _⟩ := Zl h2
 exact ⟨a, n, c, e⟩
theorem WRow.keep {v : Value} {l : List Wt} (h : WRow w R v l) (hk : ∀ k, R k -> w'.heap[k]? = w.heap[k]?) (hR : ∀ k, R k -> R' k) : WRow w' R' v l := by
 obtain ⟨a, c, h1, h2, h3, h4⟩ := h
 refine ⟨a, c, h1, h2, h3, fun i x hx => ?_⟩
 obtain ⟨b, o, va, e1, e2, e3, e4⟩ := h4 i x hx
 exact ⟨b, o, va, e1, hR b e2, fun j u hu => Yh (hk b e2) (e3 j u hu), e4.keep hk hR⟩
theorem WRow.tail {a : Option Addr} {c b o : Nat} {x : Wt} {l : List Wt} (h : WRow w R (.slice a (l.length + 1) c) (x :: l)) (ha : a = some ⟨b, o, none⟩) (a' : Option Addr) (ha' : 0 < l.length -> a' = some ⟨b, o + 7, none⟩) : WRow w R (.slice a' l.length (c - 1)) l := by
 obtain ⟨a0, c0, h1, h2, h3, h4⟩ := h
 cases h1
 simp only [List.length_cons] at h2
 refine ⟨a', c - 1, rfl, by omega, by omega, fun i y hy => ?_⟩
 have hl : 0 < l.length := by
  have := (G_ hy)
  omega
 obtain ⟨b2, o2, va, e1, e2, e3, e4⟩ := h4 (i + 1) y (by simpa using hy)
 rw [ha] at e1
 cases e1
 refine ⟨b, o + 7, va, ha' hl, e2, fun j u hu => ?_, e4⟩
 rw [show o + 7 + 7 * i + j = o + 7 * (i + 1) + j by omega]
 exact e3 j u hu
theorem Gor.keep {b t : Nat} {x : Gr} (h : Gor w R b t x) (hb : w'.heap[b]? = w.heap[b]?) (ht : w'.heap[t]? = w.heap[t]?) (hk : ∀ k, R k -> w'.heap[k]? = w.heap[k]?) (hR : ∀ k, R k -> R' k) : Gor w' R' b t x := by
 obtain ⟨va, vw, h1, h2, h3, h4⟩ := h
 exact ⟨va, vw, hb.trans h1, h2.keep hk hR, ht.trans h3, h4.keep hk hR⟩
theorem Beg.keep {vB : Value} {S : List (List Wt)} (h : Beg w R vB S) (hk : ∀ k, R k -> w'.heap[k]? = w.heap[k]?) (hR : ∀ k, R k -> R' k) : Beg w' R' vB S := by
 obtain ⟨c, vS, vs, h1, h2, h3, h4, h5, h6, h7⟩ := h
 exact ⟨c, vS, vs, h1, hR c h2, (hk c h2).trans h3, Zj h4 fun k hk' => hk k (h5 k hk'), fun k hk' => hR k (h5 k hk'), h6, fun i l v hl hv => (h7 i l v hl hv).keep hk hR⟩
end
structure Ru (w : World) (Fs Fo R : Nat -> Prop) (g gs : Nat) (S : List (List Wt)) (r : Rm) (vC vB vG vE : Value) (ps ts : List Nat) : Prop where
 at_ : w.heap[g]? = some (.cells #[.pointer (some ⟨gs, 0, none⟩), vC, vB, vG, vE, .int .i64 r.e.o, .int .i64 r.e.f, .int .i64 r.e.g, .int .i64 r.e.n, .int .i64 r.e.a] 117 (0, 0))
 st : Stt w Fs gs r.s
 ch : w.ownsRow 0 3 1 vC r.s.C.length (nts (r.s.C.map Qu.t))
 bg : Beg w R vB S
 go : w.ownsRow 0 134 1 vG r.gs.length (pts ps)
 ev : w.ownsRow 0 132 4 vE r.ev.length (ecs r.ev)
 tl : ts.length = r.gs.length
 gr : ∀ (i : Nat) (x : Gr) (b t : Nat), r.gs[i]? = some x -> ps[i]? = some b -> ts[i]? = some t -> Gor w R b t x /\ Fo b /\ Fo t
 np : ps.Nodup
 nt : ts.Nodup
 fg : Fo g
 fC : ∀ k, vC.ownBlock = some k -> Fo k
 fG : ∀ k, vG.ownBlock = some k -> Fo k
 fE : ∀ k, vE.ownBlock = some k -> Fo k
 so : ∀ k, Fs k -> ¬ Fo k
 rs : ∀ k, R k -> ¬ Fs k
 ro : ∀ k, R k -> ¬ Fo k
 fb : ∀ k, Fo k -> k < w.heap.size
 rb : ∀ k, R k -> k < w.heap.size
 n8 : r.gs.length <= 8
def Rn (w : World) (G : Nat -> Prop) (g : Nat) (S : List (List Wt)) (r : Rm) : Prop := ∃ Fs Fo R gs vC vB vG vE ps ts, Ru w Fs Fo R g gs S r vC vB vG vE ps ts /\ ∀ k, G k ↔ Fs k ∨ Fo k ∨ R k
section
variable {w w' : World} {G G' Fs Fs' Fo Fo' R R' F F' : Nat → Prop} {g gs : Nat} {S : List (List Wt)} {r : Rm} {vC vB vG vE : Value} {ps ts : List Nat}
theorem Stt.keep {s : St} (h : Stt w F g s) (hb : ∀ k, F k -> w'.heap[k]? = w.heap[k]?) (hs : w.heap.size <= w'.heap.size) : Stt w' F g s := by
 obtain ⟨vP, vM, vC, vA, vs, h⟩ := h
 exact ⟨_, _, _, _, _, h.keep hb hs⟩
theorem Ru.pl (h : Ru w Fs Fo R g gs S r vC vB vG vE ps ts) : ps.length = r.gs.length := by
 have := h.go.1
 simp [pts] at this
 omega
theorem Ru.keep (h : Ru w Fs Fo R g gs S r vC vB vG vE ps ts) (hb : ∀ k, Fs k ∨ Fo k ∨ R k -> w'.heap[k]? = w.heap[k]?) (hs : w.heap.size <= w'.heap.size) : Ru w' Fs Fo R g gs S r vC vB vG vE ps ts :=
 { h with
  at_ := (hb g (.inr (.inl h.fg))).trans h.at_
  st := h.st.keep (fun k hk => hb k (.inl hk)) hs
  ch := Zj h.ch fun k hk => hb k (.inr (.inl (h.fC k hk)))
  bg := h.bg.keep (fun k hk => hb k (.inr (.inr hk))) (fun _ h => h)
  go := Zj h.go fun k hk => hb k (.inr (.inl (h.fG k hk)))
  ev := Zj h.ev fun k hk => hb k (.inr (.inl (h.fE k hk)))
  gr := fun i x b t hx hp ht => by
   obtain ⟨h1, h2, h3⟩ := h.gr i x b t hx hp ht
   exact ⟨h1.keep (hb b (.inr (.inl h2))) (hb t (.inr (.inl h3))) (fun k hk => hb k (.inr (.inr hk))) (fun _ h => h), h2, h3⟩
  fb := fun k hk => Nat.lt_of_lt_of_le (h.fb k hk) hs
  rb := fun k hk => Nat.lt_of_lt_of_le (h.rb k hk) hs }
theorem Ru.lt (h : Ru w Fs Fo R g gs S r vC vB vG vE ps ts) {k : Nat} (hk : Fs k ∨ Fo k ∨ R k) : k < w.heap.size := by
 rcases hk with hk | hk | hk
 · exact h.st.fb k hk
 · exact h.fb k hk
 · exact h.rb k hk
theorem Ru.bel (h : Ru w Fs Fo R g gs S r vC vB vG vE ps ts) (hb : Below w.heap.size w w') : Ru w' Fs Fo R g gs S r vC vB vG vE ps ts := h.keep (fun k hk => hb.block k (h.lt hk)) hb.size
theorem Rn.fb (h : Rn w G g S r) : ∀ k, G k -> k < w.heap.size := by
 obtain ⟨Fs, Fo, R, gs, vC, vB, vG, vE, ps, ts, h, hG⟩ := h
 exact fun k hk => h.lt ((hG k).1 hk)
theorem Rn.keep (h : Rn w G g S r) (hb : ∀ k, G k -> w'.heap[k]? = w.heap[k]?) (hs : w.heap.size <= w'.heap.size) : Rn w' G g S r := by
 obtain ⟨Fs, Fo, R, gs, vC, vB, vG, vE, ps, ts, h, hG⟩ := h
 exact ⟨Fs, Fo, R, gs, vC, vB, vG, vE, ps, ts, h.keep (fun k hk => hb k ((hG k).2 hk)) hs, hG⟩
theorem Rn.bel (h : Rn w G g S r) (hb : Below w.heap.size w w') : Rn w' G g S r := h.keep (fun k hk => hb.block k (h.fb k hk)) hb.size
theorem Rn.ch (h : Rn w G g S r) (hc : Ch F F' w w') (hd : ∀ k, G k -> ¬ F k) : Rn w' G g S r /\ ∀ k, G k -> ¬ F' k :=
 ⟨h.keep (fun k hk => hc.blk k (h.fb k hk) (hd k hk)) hc.size, fun k hk hF => by
  rcases hc.grow k hF with h1 | h1
  · exact hd k hk h1
  · have := h.fb k hk
    omega⟩
theorem Rn.lt (h : Rn w G g S r) : g < w.heap.size := by
 obtain ⟨Fs, Fo, R, gs, vC, vB, vG, vE, ps, ts, h, hG⟩ := h
 exact h.fb g h.fg
theorem Ru.cells (h : Ru w Fs Fo R g gs S r vC vB vG vE ps ts) : (w.cell? ⟨g, 0, none⟩ = some (P_ gs) /\ w.cell? ⟨g, 1, none⟩ = some vC /\ w.cell? ⟨g, 2, none⟩ = some vB /\ w.cell? ⟨g, 3, none⟩ = some vG /\ w.cell? ⟨g, 4, none⟩ = some vE) ∧
 w.cell? ⟨g, 5, none⟩ = some (I_ r.e.o) /\ w.cell? ⟨g, 6, none⟩ = some (I_ r.e.f) /\ w.cell? ⟨g, 7, none⟩ = some (I_ r.e.g) /\ w.cell? ⟨g, 8, none⟩ = some (I_ r.e.n) /\ w.cell? ⟨g, 9, none⟩ = some (I_ r.e.a) :=
 ⟨⟨Zb h.at_ 0 _ rfl, Zb h.at_ 1 _ rfl, Zb h.at_ 2 _ rfl, Zb h.at_ 3 _ rfl, Zb h.at_ 4 _ rfl⟩, Zb h.at_ 5 _ rfl, Zb h.at_ 6 _ rfl, Zb h.at_ 7 _ rfl, Zb h.at_ 8 _ rfl, Zb h.at_ 9 _ rfl⟩
theorem Ru.see (h : Ru w Fs Fo R g gs S r vC vB vG vE ps ts) {i : Nat} {x : Gr} (hx : r.gs[i]? = some x) :
 ∃ bG c b t va, vG = .slice (some ⟨bG, 0, none⟩) r.gs.length c /\ ps[i]? = some b /\ ts[i]? = some t /\ Fo b /\ Fo t /\ Gor w R b t x /\ YN w R va ∧
  (w.cell? ⟨bG, i, none⟩ = some (P_ b) /\ bG < w.heap.size /\ b < w.heap.size) ∧
  w.heap[b]? = some (.cells #[.iface 126 (P_ t), I_ x.w.k, I_ x.w.o, I_ x.w.a, I_ x.w.v.1, I_ x.w.v.2.1, .int .u64 x.w.v.2.2, va] 136 (0, 0)) := by
 have hi := (G_ hx)
 obtain ⟨bG, c, e, _⟩ := Zq h.go (by omega)
 subst e
 obtain ⟨b, hb⟩ : ∃ b, ps[i]? = some b := ⟨_, List.getElem?_eq_getElem (by rw [h.pl]; exact hi)⟩
 obtain ⟨t, ht⟩ : ∃ t, ts[i]? = some t := ⟨_, List.getElem?_eq_getElem (by rw [h.tl]; exact hi)⟩
 obtain ⟨h1, h2, h3⟩ := h.gr i x b t hx hb ht
 obtain ⟨va, vw, q1, q2, q3, q4⟩ := id h1
 exact ⟨bG, c, b, t, va, rfl, hb, ht, h2, h3, h1, q2, ⟨(Zk h.go i _ (pts_at hb)).1, h.fb _ (h.fG bG rfl), h.fb b h2⟩, q1⟩
end
theorem ZD {α : Type} {l : List α} {i : Int} {x : α} (h : lk l i = some x) : ∃ k : Nat, i = k /\ l[k]? = some x := by
 unfold lk at h
 split at h
 · rename_i h0
   exact ⟨i.toNat, by omega, h⟩
 · cases h
theorem YJ {α : Type} {l : List α} {i : Int} (h : lk l i = none) : i < 0 ∨ (l.length : Int) <= i := by
 unfold lk at h
 split at h
 · rename_i h0
   have := List.getElem?_eq_none_iff.1 h
   omega
 · omega
theorem lk_nat {α : Type} {l : List α} {k : Nat} : lk l (k : Int) = l[k]? := by simp [lk]
section
variable {w : World} {F : Nat → Prop} {g : Nat} {s : St} {p : List Addr}
theorem Locked_any (h : Stt w F g s) (h17 : E2 w p) (i : Int) : Calls Tryz.prog 64 #[P_ g, I_ i] w (Vb w (.bool ((lk s.M i).getD false))) := by
 cases hl : lk s.M i with
 | some b =>
  obtain ⟨k, rfl, hk⟩ := ZD hl
  exact (Locked_in h k b hk).mono fun e w' ⟨he, hw⟩ => ⟨he, hw ▸ Below.refl _ _⟩
 | none => exact Locked_out h h17 i (YJ hl)
def lenC (s : St) (i : Int) : Int := match lk s.C i with
 | some q => q.l.length
 | none => 0
theorem Len_any (h : Stt w F g s) (h17 : E2 w p) (i : Int) : Calls Tryz.prog 66 #[P_ g, I_ i] w (Vb w (I_ (lenC s i))) := by
 unfold lenC
 cases hl : lk s.C i with
 | some q =>
  obtain ⟨k, rfl, hk⟩ := ZD hl
  exact (Len_in h k q hk).mono fun e w' ⟨he, hw⟩ => ⟨he, hw ▸ Below.refl _ _⟩
 | none => exact Len_out h h17 i (YJ hl)
end
section
variable {w : World} {F : Nat → Prop} {g : Nat} {s : St} {p : List Addr}
theorem turn_same (h : Stt w F g s) (i : Nat) (x : Bool) (hx : s.M[i]? = some x) : Calls Tryz.prog 104 #[P_ g, I_ (i : Nat), .bool x] w fun e w' => e = .returned (.tuple #[.bool false, .nilIface]) /\ w = w' := by
 obtain ⟨vP, vM, vC, vA, vs, h⟩ := h
 have hi : i < s.M.length := (G_ hx)
 obtain ⟨b, c, e, hc, hm⟩ := Zq h.mu (by omega)
 have hsm := h.small
 obtain ⟨n, hn⟩ : ∃ n, n = s.M.length := ⟨_, rfl⟩
 rw [← hn] at e hi hc
 have hn32 : n <= 32 := by omega
 subst e
 have HN := Za hn
 have c1 := h.cells.2.1
 obtain ⟨d1, d2⟩ := Zk h.mu i _ (bls_at hx)
 have hl := (h.fb b (h.fM b rfl))
 clear h hsm hc hm hn
 go_enter Tryz.func104, Tryz.ntmps104
 go_wp2_with fail
 refine (Yu b n c i _ hi).mono ?_
 rintro e w1 ⟨rfl, rfl⟩
 go_wp2_with fail
 go_ret2
 exact ⟨rfl, rfl⟩
theorem Unlock_same (h : Stt w F g s) (i : Nat) (hx : s.M[i]? = some false) : Calls Tryz.prog 88 #[P_ g, I_ (i : Nat)] w fun e w' => e = .returned (.tuple #[.bool false, .nilIface]) /\ w = w' := by
 have T := Za (turn_same h i false hx)
 clear h hx
 go_enter Tryz.func88, Tryz.ntmps88
 go_wp2_with fail
 refine T.out.mono ?_
 rintro e w1 ⟨rfl, rfl⟩
 go_wp2_with fail
 go_ret2
 exact ⟨rfl, rfl⟩
end
theorem aisOf_any (t n b ty : Int) (w : World) : Calls Tryz.prog 87 #[.agg #[I_ t, I_ n, .int .u64 b], I_ ty] w (Vb w (.bool (isB t n b ty))) := by
 have HB := Za (Zd w (.cells #[I_ t, I_ n, .int .u64 b] 64))
 have V0 := Val.new w t n b
 obtain ⟨z, hz⟩ : ∃ z, Yn t n b = z := ⟨_, rfl⟩
 have GA : ∀ w, Calls Tryz.prog 103 #[.agg #[I_ t, I_ n, .int .u64 b]] w (Vb w (.bool z)) := fun w => by
  have := good_any t n b w
  rw [hz] at this
  exact this
 obtain ⟨g, hg⟩ : ∃ g, isB t n b ty = g := ⟨_, rfl⟩
 rw [hg]
 unfold isB at hg
 rw [hz] at hg
 have HG := Za hg
 clear hg hz
 cases z with
 | true =>
  go_enter Tryz.func87, Tryz.ntmps87
  go_wp2_with fail
  refine (GA _).mono ?_
  rintro e w1 ⟨rfl, hb⟩
  obtain ⟨_, c0, _, _⟩ := (V0.al hb).all
  go_wp2_with fail
  go_ret
  exact Vb.mk (congrArg Value.bool (by rw [← HG.out]; simp)) (Zg HB.out hb)
 | false =>
  go_enter Tryz.func87, Tryz.ntmps87
  go_wp2_with fail
  refine (GA _).mono ?_
  rintro e w1 ⟨rfl, hb⟩
  go_wp2_with fail
  go_ret
  exact Vb.mk (congrArg Value.bool (by rw [← HG.out]; simp)) (Zg HB.out hb)
def Wv (w : World) (b : Nat) (k o a : Int) (v : V3) (va : Value) : Prop := w.heap[b]? = some (.cells #[I_ k, I_ o, I_ a, I_ v.1, I_ v.2.1, .int .u64 v.2.2, va] 67 (0, 0))
theorem Wv.new (w : World) (k o a v0 v1 v2 : Int) (va : Value) : Wv (w.alloc (.cells #[I_ k, I_ o, I_ a, I_ v0, I_ v1, .int .u64 v2, va] 67)) w.heap.size k o a (v0, v1, v2) va := B_ _ _
theorem Wv.lt {w : World} {b : Nat} {k o a : Int} {v : V3} {va : Value} (h : Wv w b k o a v va) : b < w.heap.size := Ze h
theorem Wv.al {w w' : World} {b : Nat} {k o a : Int} {v : V3} {va : Value} (h : Wv w b k o a v va) (hb : Below w.heap.size w w') : Wv w' b k o a v va := (hb.block b h.lt).trans h
theorem Wv.all {w : World} {b : Nat} {k o a v0 v1 v2 : Int} {va : Value} (h : Wv w b k o a (v0, v1, v2) va) : w.cell? ⟨b, 0, none⟩ = some (I_ k) /\ w.cell? ⟨b, 1, none⟩ = some (I_ o) /\ w.cell? ⟨b, 2, none⟩ = some (I_ a) /\ w.cell? ⟨b, 3, none⟩ = some (I_ v0) /\ w.cell? ⟨b, 4, none⟩ = some (I_ v1) /\ w.cell? ⟨b, 5, none⟩ = some (.int .u64 v2) /\ w.cell? ⟨b, 6, none⟩ = some va :=
 ⟨Zb h 0 _ rfl, Zb h 1 _ rfl, Zb h 2 _ rfl, Zb h 3 _ rfl, Zb h 4 _ rfl, Zb h 5 _ rfl, Zb h 6 _ rfl⟩
theorem hasMutex_any {w : World} {F : Nat -> Prop} {g : Nat} {s : St} {p : List Addr} (h : Stt w F g s) (h17 : E2 w p) (i : Int) : Calls Tryz.prog 63 #[P_ g, I_ i] w (Vb w (.bool (lk s.M i).isSome)) := by
 have L := Za (Locked_any h h17 i)
 have hgl := h.lt
 cases hl : lk s.M i with
 | some b =>
  cases b with
  | true =>
   rw [hl] at L
   clear h h17 hl
   go_enter Tryz.func63, Tryz.ntmps63
   go_wp2_with fail
   refine L.out.mono ?_
   rintro e w1 ⟨rfl, hb⟩
   go_wp2_with fail
   go_ret
   exact Vb.mk rfl hb
  | false =>
   rw [hl] at L
   obtain ⟨k, rfl, hk⟩ := ZD hl
   have U := Za (fun (w1 : World) (hb : Below w.heap.size w w1) => Unlock_same (h.bel hb) k hk)
   clear h h17 hl hk
   go_enter Tryz.func63, Tryz.ntmps63
   go_wp2_with fail
   refine L.out.mono ?_
   rintro e w1 ⟨rfl, hb⟩
   go_wp2_with fail
   refine (U.out w1 hb).mono ?_
   rintro e w2 ⟨rfl, rfl⟩
   go_wp2_with fail
   go_ret
   exact Vb.mk rfl hb
 | none =>
  rw [hl] at L
  have U := Za (fun (w1 : World) (hb : Below w.heap.size w w1) => Unlock_out (h.bel hb) (h17.below (Nat.le_refl _) hb) i (YJ hl))
  clear h h17 hl
  unfold errV at *
  generalize adr p 0 = ad at *
  go_enter Tryz.func63, Tryz.ntmps63
  go_wp2_with fail
  refine L.out.mono ?_
  rintro e w1 ⟨rfl, hb⟩
  go_wp2_with fail
  refine (U.out w1 hb).mono ?_
  rintro e w2 ⟨rfl, hb2⟩
  go_wp2_with fail
  go_ret
  exact Vb.mk rfl (Zg hb hb2)
theorem canAccess_any {w : World} {F : Nat -> Prop} {g : Nat} {s : St} {p : List Addr} (h : Stt w F g s) (h17 : E2 w p) (k o a v0 v1 v2 : Int) (va : Value) :
 Calls Tryz.prog 62 #[P_ g, .agg #[I_ k, I_ o, I_ a, I_ v0, I_ v1, .int .u64 v2, va]] w (Vb w (.bool (canA s ⟨k, o, a, (v0, v1, v2)⟩))) := by
 have B0 := Za (Zd w (.cells #[I_ k, I_ o, I_ a, I_ v0, I_ v1, .int .u64 v2, va] 67))
 have V0 := Za (Wv.new w k o a v0 v1 v2 va)
 obtain ⟨z, hz⟩ : ∃ z, canA s ⟨k, o, a, (v0, v1, v2)⟩ = z := ⟨_, rfl⟩
 rw [hz]
 unfold canA at hz
 simp only at hz
 cases hl : lk s.P o with
 | none =>
  rw [hl] at hz
  subst hz
  have U := Za (Read_out (h.bel B0.out) (h17.below (Nat.le_refl _) B0.out) o (YJ hl))
  clear h h17 hl
  unfold errV at *
  generalize adr p 0 = ad at *
  go_enter Tryz.func62, Tryz.ntmps62
  go_wp2_with fail
  refine U.out.mono ?_
  rintro e w1 ⟨rfl, hb⟩
  have B1 := Za (Zu (Zg B0.out hb) (.cells #[I_ 0, I_ 0, .int .u64 0] 64))
  clear hb U
  go_wp2_with fail
  go_ret
  exact Vb.mk rfl B1.out
 | some x =>
  obtain ⟨x0, x1, x2⟩ := x
  rw [hl] at hz
  simp only at hz
  obtain ⟨n, rfl, hn⟩ := ZD hl
  have U := Za (Read_in (h.bel B0.out) n (x0, x1, x2) hn)
  have HZ := Za hz
  clear h h17 hl hn hz
  by_cases hk : k = 1
  · subst hk
    have hzt : z = true := by rw [← HZ.out]; rfl
    subst hzt
    clear HZ
    go_enter Tryz.func62, Tryz.ntmps62
    go_wp2_with fail
    refine U.out.mono ?_
    rintro e w1 ⟨rfl, hb⟩
    have B1 := Za (Zu (Zg B0.out hb) (.cells #[I_ x0, I_ x1, .int .u64 x2] 64))
    have V1 := V0.out.al hb
    obtain ⟨q0, q1, q2, q3, q4, q5, q6⟩ := V1.all
    have hwl := V1.lt
    clear hb U V0 V1
    go_wp2_with fail
    go_ret
    exact Vb.mk rfl B1.out
  · have hzt : z = isB v0 v1 v2 x0 := by rw [← HZ.out]; simp [hk, isV]
    have hkb : (k == 1) = false := by simp [hk]
    clear HZ
    have Iq := fun w => aisOf_any v0 v1 v2 x0 w
    rw [← hzt] at Iq
    clear hzt
    go_enter Tryz.func62, Tryz.ntmps62
    go_wp2_with fail
    refine U.out.mono ?_
    rintro e w1 ⟨rfl, hb⟩
    have B1 := Za (Zu (Zg B0.out hb) (.cells #[I_ x0, I_ x1, .int .u64 x2] 64))
    have V1 := V0.out.al hb
    obtain ⟨q0, q1, q2, q3, q4, q5, q6⟩ := V1.all
    have hwl := V1.lt
    clear hb U V0 V1
    go_wp2_with fail
    refine (Iq _).mono ?_
    rintro e w3 ⟨rfl, hb⟩
    have B2 := Za (Zg B1.out hb)
    clear hb
    go_wp2_with fail
    go_ret
    exact Vb.mk rfl B2.out
theorem canCount_any {w : World} {F : Nat -> Prop} {g : Nat} {s : St} {p : List Addr} (h : Stt w F g s) (h17 : E2 w p) (k o a v0 v1 v2 : Int) (va : Value) :
 Calls Tryz.prog 67 #[P_ g, .agg #[I_ k, I_ o, I_ a, I_ v0, I_ v1, .int .u64 v2, va]] w (Vb w (.bool (canC s ⟨k, o, a, (v0, v1, v2)⟩))) := by
 have B0 := Za (Zd w (.cells #[I_ k, I_ o, I_ a, I_ v0, I_ v1, .int .u64 v2, va] 67))
 have V0 := Za (Wv.new w k o a v0 v1 v2 va)
 obtain ⟨z, hz⟩ : ∃ z, canC s ⟨k, o, a, (v0, v1, v2)⟩ = z := ⟨_, rfl⟩
 rw [hz]
 unfold canC at hz
 simp only at hz
 cases hl : lk s.A o with
 | none =>
  rw [hl] at hz
  subst hz
  have U := Za (Get_out (h.bel B0.out) (h17.below (Nat.le_refl _) B0.out) o (YJ hl))
  clear h h17 hl
  unfold errV at *
  generalize adr p 0 = ad at *
  go_enter Tryz.func67, Tryz.ntmps67
  go_wp2_with fail
  refine U.out.mono ?_
  rintro e w1 ⟨rfl, hb⟩
  have B1 := Za (Zg B0.out hb)
  clear hb U
  go_wp2_with fail
  go_ret
  exact Vb.mk rfl B1.out
 | some x =>
  rw [hl] at hz
  simp only at hz
  obtain ⟨n, rfl, hn⟩ := ZD hl
  have U := Za (Get_in (h.bel B0.out) n x hn)
  have HZ := Za hz
  clear h h17 hl hn hz
  by_cases hk : k = 7
  · subst hk
    have hzt : z = true := by rw [← HZ.out]; rfl
    subst hzt
    clear HZ
    go_enter Tryz.func67, Tryz.ntmps67
    go_wp2_with fail
    refine U.out.mono ?_
    rintro e w1 ⟨rfl, rfl⟩
    clear U
    generalize w.alloc _ = w2 at *
    obtain ⟨q0, q1, q2, q3, q4, q5, q6⟩ := V0.out.all
    go_wp2_with fail
    go_ret
    exact Vb.mk rfl B0.out
  · have hzt : z = isB v0 v1 v2 1 := by rw [← HZ.out]; simp [hk, isV]
    have hkb : (k == 7) = false := by simp [hk]
    clear HZ
    have Iq := fun w => aisOf_any v0 v1 v2 1 w
    rw [← hzt] at Iq
    clear hzt
    go_enter Tryz.func67, Tryz.ntmps67
    go_wp2_with fail
    refine U.out.mono ?_
    rintro e w1 ⟨rfl, rfl⟩
    clear U
    generalize w.alloc _ = w2 at *
    obtain ⟨q0, q1, q2, q3, q4, q5, q6⟩ := V0.out.all
    go_wp2_with fail
    refine (Iq _).mono ?_
    rintro e w3 ⟨rfl, hb⟩
    have B2 := Za (Zg B0.out hb)
    clear hb
    go_wp2_with fail
    go_ret
    exact Vb.mk rfl B2.out
theorem still_of_quiet {P : Program} {ops : Array Oper} {w : World} {Q : Act -> Prop} : ∀ (l : List Oper) (a : Act), wpQuiet P ops (fun w' => w' = w) Q l a -> wpStill P ops w Q l a
 | [], _, h => h
 | o :: rest, a, h => by
  unfold wpQuiet at h
  unfold wpStill
  split
  · rename_i hw
    rw [if_pos hw] at h
    obtain ⟨v, hv, hn⟩ := h
    have hv := hv w rfl
    have hn := still_of_quiet rest _ hn
    unfold Oper.quietAt at hv
    unfold Oper.still
    generalize (execOp a.eval o).run P w = r at *
    cases r with
    | ok n w' =>
     cases n <;> simp only [Oper.quietUpon, Oper.stillUpon] at hv ⊢
     case enter f args => exact ⟨hv.1, v, hv.2, hn⟩
     case value u => exact ⟨hv.1, by rw [hv.2]; exact hn⟩
     case skip => exact ⟨hv.1, by rw [← hv.2]; exact hn⟩
    | halt x w' => simp only [Oper.quietUpon] at hv
  · rename_i hw
    rw [if_neg hw] at h
    exact still_of_quiet rest _ h
theorem ZW {P : Program} {id : Nat} {Q : Exit -> Act -> World -> Prop} {a : Act} {w : World} {l : List Oper} (n : Nat) (hm : P.follows .mixedOrders = true) (hB : Region.lexTailB .any l.toArray n = true)
 (h : wpQuiet P l.toArray (fun w' => w' = w.drew) (fun a' => wpList P l.toArray Q (l.drop n) a' w.drew) (l.take n) a) : (Code.region id l.toArray true).wp P Q a w :=
 wp_region_still_tail n hm hB (still_of_quiet _ _ h)
theorem idx_none {α : Type} {f : α -> Bool} {d : α} : ∀ {l : List α}, (∀ j, j < l.length -> f (l.getD j d) = false) -> l.findIdx? f = none
 | [], _ => rfl
 | x :: l, h => by
  have h0 : f x = false := h 0 (by simp)
  have h1 := idx_none (f := f) (d := d) (l := l) fun j hj => by simpa using h (j + 1) (by simpa using hj)
  rw [List.findIdx?_cons, h0, h1]
  rfl
theorem idx_some {α : Type} {f : α -> Bool} {d : α} : ∀ {l : List α} {k : Nat}, k < l.length -> (∀ j, j < k -> f (l.getD j d) = false) -> f (l.getD k d) = true -> l.findIdx? f = some k
 | [], k, hk, _, _ => by simp at hk
 | x :: l, 0, _, _, hf => by
  have h0 : f x = true := hf
  rw [List.findIdx?_cons, h0]
  rfl
 | x :: l, k + 1, hk, h, hf => by
  have h0 : f x = false := h 0 (by omega)
  have h1 := idx_some (f := f) (d := d) (l := l) (k := k) (by simpa using hk) (fun j hj => by simpa using h (j + 1) (by omega)) (by simpa using hf)
  rw [List.findIdx?_cons, h0, h1]
  rfl
def recvI (gs : List Gr) (c : Int) : Int := match recvR gs c with
 | some t => t
 | none => -1
def dG : Gr := ⟨[], zW⟩
theorem recv1_any (b cb : Nat) (k o c : Int) {w : World} (hk : w.cell? ⟨b, 1, none⟩ = some (I_ k)) (ho : w.cell? ⟨b, 2, none⟩ = some (I_ o)) (hc : w.cell? ⟨cb, 0, none⟩ = some (I_ c)) :
 Calls Tryz.prog 106 #[P_ b, P_ cb] w (Vb w (.bool (k == 6 && o == c))) := by
 by_cases h6 : k = 6
 · subst h6
   obtain ⟨z, hz⟩ : ∃ z, ((6 : Int) == 6 && o == c) = z := ⟨_, rfl⟩
   rw [hz]
   have HZ := Za hz
   clear hz
   go_enter Tryz.func106, Tryz.ntmps106
   go_wp2_with fail
   go_quiet (fail)
   go_wp2_with fail
   go_ret
   exact Vb.mk (by rw [← HZ.out]; simp) (below_drewN (Below.refl _ _) _)
 · have e : (k == 6) = false := by simp [h6]
   rw [e]
   go_enter Tryz.func106, Tryz.ntmps106
   go_wp2_with fail
   go_quiet (fail)
   go_wp2_with fail
   go_ret
   exact Vb.mk rfl (below_drewN (Below.refl _ _) _)
theorem index_go (a : Option Addr) (n cG cb : Nat) (c : Int) (gs : List Gr) {w : World} (hn : n = gs.length) (hn8 : n <= 8) (hcb : w.cell? ⟨cb, 0, none⟩ = some (I_ c)) (hcl : cb < w.heap.size)
 (hac : ∀ i, i < n -> ∃ bG b, a = some ⟨bG, 0, none⟩ /\ bG < w.heap.size /\ b < w.heap.size /\ w.cell? ⟨bG, i, none⟩ = some (P_ b) /\ w.cell? ⟨b, 1, none⟩ = some (I_ (gs.getD i dG).w.k) /\ w.cell? ⟨b, 2, none⟩ = some (I_ (gs.getD i dG).w.o)) :
 Calls Tryz.prog 105 #[.slice a n cG, .func (.func 106) #[] #[P_ cb]] w (Vb w (I_ (recvI gs c))) := by
 have hs : Hid ((∀ j, j < n -> recvs c (gs.getD j dG) = false) -> recvI gs c = -1) := fun h => by
  unfold recvI recvR
  rw [idx_none (fun j hj => h j (by omega))]
 have hs2 : Hid (∀ k, k < n -> (∀ j, j < k -> recvs c (gs.getD j dG) = false) -> recvs c (gs.getD k dG) = true -> recvI gs c = k) := fun k hk h1 h2 => by
  unfold recvI recvR
  rw [idx_some (by omega) h1 h2]
 clear hn
 generalize recvI gs c = r at *
 go_enter Tryz.func105, Tryz.ntmps105
 go_wp2_with fail
 go_loopw [5, 8] (fun u i wr => ∃ k : Nat, k <= n /\ i = I_ k /\ Hid (∀ j, j < k -> recvs c (gs.getD j dG) = false) /\ Hid (Below w.heap.size w wr)) (fun u i _ => n - (intOf i).toNat)
 case atStart => exact ⟨0, Nat.zero_le _, rfl, fun j hj => absurd hj (Nat.not_lt_zero _), Below.refl _ _⟩
 case round =>
  obtain ⟨k, hk, rfl, hall, hbel⟩ := hrel
  by_cases hlt : k < n
  · obtain ⟨bG, b, rfl, hbG, hb, hc1, hc2, hc3⟩ := hac k hlt
    have RC := Za (recv1_any b cb _ _ c ((hbel.out.cell (p := ⟨b, 1, none⟩) hb).trans hc2) ((hbel.out.cell (p := ⟨b, 2, none⟩) hb).trans hc3) ((hbel.out.cell (p := ⟨cb, 0, none⟩) hcl).trans hcb))
    rw [← hbel.out.cell (p := ⟨bG, k, none⟩) hbG] at hc1
    have h1 : (k : Int) < (n : Int) := by omega
    have hne := Za (hs2.out k hlt hall.out)
    have hstep : Hid (recvs c (gs.getD k dG) = false -> ∀ j, j < k + 1 -> recvs c (gs.getD j dG) = false) := fun e j hj => by
     by_cases ej : j = k
     · rw [ej]; exact e
     · exact hall.out j (by omega)
    have hrc : recvs c (gs.getD k dG) = ((gs.getD k dG).w.k == 6 && (gs.getD k dG).w.o == c) := rfl
    rw [← hrc] at RC
    have hbl := Nat.lt_of_lt_of_le hb hbel.out.size
    clear hac hs hs2 hall hc2 hc3 hrc
    generalize recvs c (gs.getD k dG) = x at *
    go_wp2_with fail
    refine RC.out.mono ?_
    rintro e w1 ⟨rfl, hb1⟩
    have hbel2 := Za (Zg hbel.out hb1)
    cases x with
    | true =>
     have hr := Za (hne.out rfl)
     clear hne hstep
     go_wp2_with fail
     go_ret
     exact Vb.mk (by rw [hr.out]; rfl) hbel2.out
    | false =>
     have hr := Za (hstep.out rfl)
     clear hne hstep
     go_wp2_with fail
     go_roundw
     case rel => exact ⟨k + 1, by omega, by go_num, hr, hbel2⟩
     case measure => simp [intOf]; omega
  · have e : k = n := by omega
    subst e
    have hs3 := Za (hs.out hall.out)
    clear hac hs hs2 hall
    go_wp2_with fail
    go_ret
    exact Vb.mk (by rw [hs3.out]; rfl) hbel.out
theorem getD_of_some {α : Type} {l : List α} {i : Nat} {x d : α} (h : l[i]? = some x) : l.getD i d = x := by rw [List.getD_eq_getElem?_getD, h]; rfl
theorem receiver_any {w : World} {G : Nat -> Prop} {g : Nat} {S : List (List Wt)} {r : Rm} (h : Rn w G g S r) (c : Int) : Calls Tryz.prog 90 #[P_ g, I_ c] w (Vb w (I_ (recvI r.gs c))) := by
  obtain ⟨Fs, Fo, R, gs, vC, vB, vG, vE, ps, ts, h, hG⟩ := h
  have B0 := Zd w (.cells #[I_ c] 3)
  have h1 := h.bel B0
  obtain ⟨a, cG, e, _⟩ := Zl h.go
  subst e
  have c3 := h.cells.1.2.2.2.1
  have hgl := h.fb g h.fg
  obtain ⟨n, hn⟩ : ∃ n, n = r.gs.length := ⟨_, rfl⟩
  have IX := Za (index_go a n cG w.heap.size c r.gs hn (by have := h.n8; omega) (Zb (B_ w (.cells #[I_ c] 3)) 0 _ rfl) (by have := Ze (B_ w (.cells #[I_ c] 3)); exact this) (fun i hi => by
    obtain ⟨x, hx⟩ : ∃ x, r.gs[i]? = some x := ⟨_, List.getElem?_eq_getElem (by omega)⟩
    obtain ⟨bG, c', b, t, va, e1, _, _, _, _, _, _, ⟨q1, q2, q3⟩, q4⟩ := h1.see hx
    cases e1
    rw [getD_of_some hx]
    exact ⟨bG, b, rfl, q2, q3, q1, Zb q4 1 _ rfl, Zb q4 2 _ rfl⟩))
  rw [← hn] at c3
  have HB := Za B0
  have hmf : ∀ (fn : Fn) (first cap : Array Value) (w : World), (Instr.makeFunc fn first cap).run Tryz.prog w = .ok (.func fn first cap) w := fun _ _ _ _ => rfl
  clear h h1 B0 hn hG
  go_enter Tryz.func90, Tryz.ntmps90
  go_wp2_with fail
  refine IX.out.mono ?_
  rintro e w1 ⟨rfl, hb⟩
  go_wp2_with fail
  go_ret
  exact Vb.mk rfl (Zg HB.out hb)
theorem calls_flip {P : Program} {f : FuncId} {args : Array Value} {w : World} {v : Ending} (h : Calls P f args w fun e w' => e = v /\ w = w') : Calls P f args w fun e w' => e = v /\ w' = w := h.mono fun _ _ h => ⟨h.1, h.2.symm⟩
theorem canSend_out {w : World} {G : Nat -> Prop} {g : Nat} {S : List (List Wt)} {r : Rm} (h : Rn w G g S r) (k o a v0 v1 v2 : Int) (va : Value) (ho : o < 0 ∨ (r.s.C.length : Int) <= o) :
 Calls Tryz.prog 65 #[P_ g, .agg #[I_ k, I_ o, I_ a, I_ v0, I_ v1, .int .u64 v2, va]] w (Vb w (.bool false)) := by
 have B0 := Za (Zd w (.cells #[I_ k, I_ o, I_ a, I_ v0, I_ v1, .int .u64 v2, va] 67))
 have V0 := Za (Wv.new w k o a v0 v1 v2 va)
 obtain ⟨Fs, Fo, R, gs, vC, vB, vG, vE, ps, ts, h, hG⟩ := h
 have h1 := h.bel B0.out
 have HC := Za h1.cells
 obtain ⟨aC, cC, eC, _⟩ := Zl h.ch
 subst eC
 obtain ⟨n, hn⟩ : ∃ n, n = r.s.C.length := ⟨_, rfl⟩
 rw [← hn] at ho HC
 clear h h1 hn hG
 by_cases h0 : o < 0
 · clear ho
   go_enter Tryz.func65, Tryz.ntmps65
   go_wp2_with fail
   generalize w.alloc _ = w1 at *
   obtain ⟨q0, q1, q2, q3, q4, q5, q6⟩ := V0.out.all
   obtain ⟨⟨c0, c1, c2, c3, c4⟩, _⟩ := HC.out
   go_quiet (fail)
   go_wp2_with fail
   go_ret
   exact Vb.mk rfl (below_drewN B0.out _)
 · have h2 : (n : Int) <= o := by omega
   have h3 : 0 <= o := by omega
   have hd0 : decide (o < 0) = false := by simp; omega
   have hd1 : decide ((n : Int) <= o) = true := by simp [h2]
   clear ho h0
   go_enter Tryz.func65, Tryz.ntmps65
   go_wp2_with fail
   generalize w.alloc _ = w1 at *
   obtain ⟨q0, q1, q2, q3, q4, q5, q6⟩ := V0.out.all
   obtain ⟨⟨c0, c1, c2, c3, c4⟩, _⟩ := HC.out
   go_quiet (fail)
   go_wp2_with fail
   go_ret
   exact Vb.mk rfl (below_drewN B0.out _)
theorem canSend_in {w : World} {G : Nat -> Prop} {g : Nat} {S : List (List Wt)} {r : Rm} (h : Rn w G g S r) (k a v0 v1 v2 : Int) (va : Value) (i : Nat) (q : Qu) (hq : r.s.C[i]? = some q) :
 Calls Tryz.prog 65 #[P_ g, .agg #[I_ k, I_ (i : Nat), I_ a, I_ v0, I_ v1, .int .u64 v2, va]] w (Vb w (.bool (isB v0 v1 v2 q.t && (if q.room = 0 then decide (0 <= recvI r.gs i) else decide ((q.l.length : Int) < q.room))))) := by
 have B0 := Za (Zd w (.cells #[I_ k, I_ (i : Nat), I_ a, I_ v0, I_ v1, .int .u64 v2, va] 67))
 have V0 := Za (Wv.new w k i a v0 v1 v2 va)
 have RC := Za (fun (w' : World) (hb : Below w.heap.size w w') => receiver_any (h.bel hb) (i : Int))
 obtain ⟨Fs, Fo, R, gs, vC, vB, vG, vE, ps, ts, h, hG⟩ := h
 have h1 := h.bel B0.out
 have HC := Za h1.cells
 have hi : i < r.s.C.length := (G_ hq)
 obtain ⟨bC, cC, eC, _⟩ := Zq h.ch (by omega)
 subst eC
 have D1 := Za (And.intro (Zk h1.ch i (I_ q.t) (by simp [nts, hq])).1 (Zf h1.ch (k := bC) rfl).2.1)
 have RM := Za (fun (w' : World) (hb : Below w.heap.size w w') => calls_flip (Room_in (h.st.bel hb) i q hq))
 have LN := Za (fun (w' : World) (hb : Below w.heap.size w w') => calls_flip (Len_in (h.st.bel hb) i q hq))
 have hgl := h1.fb g h1.fg
 have HGL := Za hgl
 have hsl := h.st.lt
 obtain ⟨n, hn⟩ : ∃ n, n = r.s.C.length := ⟨_, rfl⟩
 have hn32 : n <= 32 := by
  obtain ⟨_, _, _, _, _, hS⟩ := h.st
  have := hS.small
  omega
 rw [← hn] at HC hi
 have Iq := fun w => aisOf_any v0 v1 v2 q.t w
 obtain ⟨z, hz⟩ : ∃ z, isB v0 v1 v2 q.t = z := ⟨_, rfl⟩
 rw [hz] at Iq
 obtain ⟨y, hy⟩ : ∃ y, (if q.room = 0 then decide (0 <= recvI r.gs i) else decide ((q.l.length : Int) < q.room)) = y := ⟨_, rfl⟩
 rw [hz, hy]
 have HY := Za hy
 clear h h1 hn hG hz hy hq
 obtain ⟨qt, qr, ql⟩ := q
 simp only at *
 obtain ⟨m, hm⟩ : ∃ m, m = ql.length := ⟨_, rfl⟩
 rw [← hm] at LN HY
 clear hm
 have hi1 : (i : Int) < (n : Int) := by omega
 have hi0 : (0 : Int) <= (i : Int) := by omega
 have hd0 : decide ((i : Int) < 0) = false := by simp
 have hd1 : decide ((n : Int) <= (i : Int)) = false := by simp; omega
 have hd2 : decide (n <= i) = false := by simp; omega
 go_enter Tryz.func65, Tryz.ntmps65
 go_wp2_with fail
 generalize w.alloc _ = w1 at *
 obtain ⟨q0, q1, q2, q3, q4, q5, q6⟩ := V0.out.all
 obtain ⟨⟨c0, c1, c2, c3, c4⟩, _⟩ := HC.out
 obtain ⟨d1, hbl⟩ := D1.out
 refine ZW 24 ZK (by kernel_rfl) ?_
 simp only [List.take_succ_cons, List.take_zero, List.drop_succ_cons, List.drop_zero]
 repeat (first | go_big_quiet_skip | (go_big_quiet_want; go_big_quiet_op; go_big_quiet_on))
 refine wpQuiet_nil ?_
 go_wp2_with fail
 refine (Iq _).mono ?_
 rintro e w2 ⟨rfl, hb⟩
 replace hb : Below w1.heap.size w1 w2 := ⟨hb.os, hb.tape, hb.output, hb.size, hb.block⟩
 have B2 := Za (Zg B0.out hb)
 have V2 := Za (V0.out.al hb)
 obtain ⟨p0, p1, p2, p3, p4, p5, p6⟩ := V2.out.all
 have e0 : w2.cell? ⟨g, 0, none⟩ = some (P_ gs) := (hb.cell (p := ⟨g, 0, none⟩) hgl).trans c0
 have S2 := Za hb.size
 clear c0 c1 c2 c3 c4 d1 q0 q1 q2 q3 q4 q5 q6
 cases z with
 | false =>
  go_wp2_with fail
  go_ret
  exact Vb.mk rfl B2.out
 | true =>
  by_cases hr : qr = 0
  · subst hr
    go_wp2_with fail
    go_quiet (first | (go_at_call 69; exact Calls.quiet_of_same (RM.out _ (below_drewN B2.out _))))
    have HY2 : Hid (y = decide (0 <= recvI r.gs i)) := by
     have := HY.out
     rw [if_pos trivial] at this
     exact this.symm
    clear HY
    go_wp2_with fail
    refine (RC.out _ (below_drewN B2.out _)).mono ?_
    rintro e w3 ⟨rfl, hb3⟩
    have B3 := Za (Zg (below_drewN B2.out _) hb3)
    clear hb3
    go_wp2_with fail
    go_ret
    exact Vb.mk (by rw [HY2.out]; rfl) B3.out
  · have hrb : (qr == 0) = false := by simp [hr]
    have HY2 : Hid (y = decide ((m : Int) < qr)) := by
     have := HY.out
     rw [if_neg hr] at this
     exact this.symm
    clear HY
    go_wp2_with fail
    go_quiet (first | (go_at_call 69; exact Calls.quiet_of_same (RM.out _ (below_drewN B2.out _))))
    have B3 := Za (below_drewN B2.out nq)
    have e0' : (w2.drewN nq).cell? ⟨g, 0, none⟩ = some (P_ gs) := e0
    have p1' : (w2.drewN nq).cell? ⟨w.heap.size, 1, none⟩ = some (I_ (i : Nat)) := p1
    go_wp2_with fail
    generalize w2.drewN nq = w3 at *
    go_quiet (first | (go_at_call 66; exact Calls.quiet_of_same (LN.out _ (below_drewN B3.out _))) | (go_at_call 69; exact Calls.quiet_of_same (RM.out _ (below_drewN B3.out _))))
    go_wp2_with fail
    go_ret
    exact Vb.mk (by rw [HY2.out]; rfl) (below_drewN B3.out _)
theorem outq_bool (a : Option Addr) (n c : Nat) (i : Int) (w : World) {p : List Addr} (h17 : E2 w p) (hi : i < 0 ∨ (n : Int) <= i) : Calls Tryz.prog 89 #[.slice a n c, I_ i] w fun e w' => e = .returned (.tuple #[.pointer none, errV p 0]) /\ ∃ k, w' = w.drewN k := by
 have x0 : w.cell? ⟨1, 0, none⟩ = some (errV p 0) := h17.c0
 clear h17
 generalize errV p 0 = ev at *
 by_cases h0 : i < 0
 · clear hi
   go_enter Tryz.func89, Tryz.ntmps89
   go_wp2_with fail
   go_quiet (fail)
   go_wp2_with fail
   go_ret2
   exact ⟨rfl, _, rfl⟩
 · have h1 : (n : Int) <= i := by omega
   have h2 : 0 <= i := by omega
   clear hi h0
   go_enter Tryz.func89, Tryz.ntmps89
   go_wp2_with fail
   go_quiet (fail)
   go_wp2_with fail
   go_ret2
   exact ⟨rfl, _, rfl⟩
theorem lockedq {w : World} {F : Nat -> Prop} {g : Nat} {s : St} (h : Stt w F g s) {p : List Addr} (h17 : E2 w p) (i : Int) (hi : i < 0 ∨ (s.M.length : Int) <= i) : Calls Tryz.prog 64 #[P_ g, I_ i] w fun e w' => e = .returned (.bool false) /\ ∃ k, w' = w.drewN k := by
 obtain ⟨vP, vM, vC, vA, vs, h⟩ := h
 obtain ⟨a, c, e, hc, hm⟩ := Zl h.mu
 subst e
 obtain ⟨n, hn⟩ : ∃ n, n = s.M.length := ⟨_, rfl⟩
 rw [← hn] at hi
 have c1 := h.cells.2.1
 rw [← hn] at c1
 have EO := Za (fun w' (h17 : E2 w' p) => outq_bool a n c i w' h17 hi)
 have H7 := Za h17
 unfold errV at *
 generalize adr p 0 = ad at *
 clear h hc hm hi hn h17
 go_enter Tryz.func64, Tryz.ntmps64
 go_wp2_with fail
 refine (EO.out _ H7.out).mono ?_
 rintro e w1 ⟨rfl, k, rfl⟩
 go_wp2_with fail
 go_ret
 exact ⟨rfl, _, rfl⟩
theorem turnq {w : World} {F : Nat -> Prop} {g : Nat} {s : St} (h : Stt w F g s) {p : List Addr} (h17 : E2 w p) (i : Int) (hi : i < 0 ∨ (s.M.length : Int) <= i) : Calls Tryz.prog 104 #[P_ g, I_ i, .bool false] w fun e w' => e = .returned (.tuple #[.bool false, errV p 0]) /\ ∃ k, w' = w.drewN k := by
 obtain ⟨vP, vM, vC, vA, vs, h⟩ := h
 obtain ⟨a, c, e, hc, hm⟩ := Zl h.mu
 subst e
 obtain ⟨n, hn⟩ : ∃ n, n = s.M.length := ⟨_, rfl⟩
 rw [← hn] at hi
 have c1 := h.cells.2.1
 rw [← hn] at c1
 have EO := Za (fun w' (h17 : E2 w' p) => outq_bool a n c i w' h17 hi)
 have H7 := Za h17
 unfold errV at *
 generalize adr p 0 = ad at *
 clear h hc hm hi hn h17
 go_enter Tryz.func104, Tryz.ntmps104
 go_wp2_with fail
 refine (EO.out _ H7.out).mono ?_
 rintro e w1 ⟨rfl, k, rfl⟩
 go_wp2_with fail
 go_ret2
 exact ⟨rfl, _, rfl⟩
theorem unlockq {w : World} {F : Nat -> Prop} {g : Nat} {s : St} (h : Stt w F g s) {p : List Addr} (h17 : E2 w p) (i : Int) (hi : i < 0 ∨ (s.M.length : Int) <= i) : Calls Tryz.prog 88 #[P_ g, I_ i] w fun e w' => e = .returned (.tuple #[.bool false, errV p 0]) /\ ∃ k, w' = w.drewN k := by
 have T := Za (turnq h h17 i hi)
 clear h hi h17
 unfold errV at *
 generalize adr p 0 = ad at *
 go_enter Tryz.func88, Tryz.ntmps88
 go_wp2_with fail
 refine T.out.mono ?_
 rintro e w1 ⟨rfl, k, rfl⟩
 go_wp2_with fail
 go_ret2
 exact ⟨rfl, _, rfl⟩
theorem Locked_q {w : World} {F : Nat -> Prop} {g : Nat} {s : St} {p : List Addr} (h : Stt w F g s) (h17 : E2 w p) (i : Int) : Calls Tryz.prog 64 #[P_ g, I_ i] w fun e w' => e = .returned (.bool ((lk s.M i).getD false)) /\ ∃ k, w' = w.drewN k := by
 cases hl : lk s.M i with
 | some b =>
  obtain ⟨k, rfl, hk⟩ := ZD hl
  exact (Locked_in h k b hk).mono fun e w' ⟨he, hw⟩ => ⟨he, 0, hw ▸ rfl⟩
 | none => exact lockedq h h17 i (YJ hl)
theorem hasMutex_q {w : World} {F : Nat -> Prop} {g : Nat} {s : St} {p : List Addr} (h : Stt w F g s) (h17 : E2 w p) (i : Int) : Calls Tryz.prog 63 #[P_ g, I_ i] w fun e w' => e = .returned (.bool (lk s.M i).isSome) /\ ∃ k, w' = w.drewN k := by
 have L := Za (Locked_q h h17 i)
 have hgl := h.lt
 cases hl : lk s.M i with
 | some b =>
  cases b with
  | true =>
   rw [hl] at L
   clear h h17 hl
   go_enter Tryz.func63, Tryz.ntmps63
   go_wp2_with fail
   refine L.out.mono ?_
   rintro e w1 ⟨rfl, n, rfl⟩
   go_wp2_with fail
   go_ret
   exact ⟨rfl, _, rfl⟩
  | false =>
   rw [hl] at L
   obtain ⟨k, rfl, hk⟩ := ZD hl
   have U := Za (fun (n : Nat) => Unlock_same (w := w.drewN n) (h.bel (below_drewN (Below.refl _ _) n)) k hk)
   clear h h17 hl hk
   go_enter Tryz.func63, Tryz.ntmps63
   go_wp2_with fail
   refine L.out.mono ?_
   rintro e w1 ⟨rfl, n, rfl⟩
   go_wp2_with fail
   refine (U.out n).mono ?_
   rintro e w2 ⟨rfl, rfl⟩
   go_wp2_with fail
   go_ret
   exact ⟨rfl, _, rfl⟩
 | none =>
  rw [hl] at L
  have U := Za (fun (n : Nat) => unlockq (w := w.drewN n) (h.bel (below_drewN (Below.refl _ _) n)) (h17.below (Nat.le_refl _) (below_drewN (Below.refl _ _) n)) i (YJ hl))
  clear h h17 hl
  unfold errV at *
  generalize adr p 0 = ad at *
  go_enter Tryz.func63, Tryz.ntmps63
  go_wp2_with fail
  refine L.out.mono ?_
  rintro e w1 ⟨rfl, n, rfl⟩
  go_wp2_with fail
  refine (U.out n).mono ?_
  rintro e w2 ⟨rfl, m, rfl⟩
  go_wp2_with fail
  go_ret
  exact ⟨rfl, n + m, by simp⟩
theorem can_1 {w : World} {G : Nat -> Prop} {g : Nat} {S : List (List Wt)} {r : Rm} {p : List Addr} (h : Rn w G g S r) (h17 : E2 w p) (i : Nat) (x : Gr) (hx : r.gs[i]? = some x) (hk : x.w.k = 1) : Calls Tryz.prog 30 #[P_ g, I_ (i : Nat)] w (Vb w (.bool (ZY r x.w))) := by
 have HR := Za h
 obtain ⟨Fs, Fo, R, gs, vC, vB, vG, vE, ps, ts, h, hG⟩ := h
 obtain ⟨bG, cG, b, t, va, eG, _, _, _, _, _, hA, ⟨s1, s2, s3⟩, s4⟩ := h.see hx
 subst eG
 obtain ⟨aa, na, ca, rfl⟩ := hA.form
 clear hA
 have hi : i < r.gs.length := (G_ hx)
 have hn8 := h.n8
 obtain ⟨⟨c0, c1, c2, c3, c4⟩, c5, c6, c7, c8, c9⟩ := h.cells
 have hgl := h.fb g h.fg
 obtain ⟨rest, ⟨k, o, a, v0, v1, v2⟩⟩ := x
 simp only at s4
 have b1 := Zb s4 1 _ rfl
 have b2 := Zb s4 2 _ rfl
 have b3 := Zb s4 3 _ rfl
 have b4 := Zb s4 4 _ rfl
 have b5 := Zb s4 5 _ rfl
 have b6 := Zb s4 6 _ rfl
 have b7 := Zb s4 7 _ rfl
 obtain ⟨n, hn⟩ : ∃ n, n = r.gs.length := ⟨_, rfl⟩
 rw [← hn] at hi hn8 c3
 have HN := Za hn
 have hi1 : (i : Int) < (n : Int) := by omega
 have hi0 : (0 : Int) <= (i : Int) := by omega
 have hd0 : decide ((i : Int) < 0) = false := by simp
 have hd1 : decide ((n : Int) <= (i : Int)) = false := by simp; omega
 clear hn
 have HS := Za h.st
 have hsl := h.st.lt
 have H7 := Za h17
 clear h hG h17
 simp only at hk
 subst hk
 have B0 := Za (Zd w (.cells #[I_ 1, I_ o, I_ a, I_ v0, I_ v1, .int .u64 v2, .slice aa na ca] 67))
 have V0 := Za (Wv.new w 1 o a v0 v1 v2 (.slice aa na ca))
 have u0 := Za ((B0.out.cell (p := ⟨g, 0, none⟩) hgl).trans c0)
 obtain ⟨z, hz⟩ : ∃ z, ZY r ⟨1, o, a, (v0, v1, v2)⟩ = z := ⟨_, rfl⟩
 rw [hz]
 have HZ := Za hz
 clear hz
 have CA := Za (canAccess_any ((HS.out.bel B0.out).bel (below_drewN (Below.refl _ _) 1)) ((H7.out.below (Nat.le_refl _) B0.out).below (Nat.le_refl _) (below_drewN (Below.refl _ _) 1)) 1 o a v0 v1 v2 (.slice aa na ca))
 clear HS H7 HR
 go_enter Tryz.func30, Tryz.ntmps30
 go_wp2_with fail
 generalize w.alloc _ = w1 at *
 obtain ⟨q0, q1, q2, q3, q4, q5, q6⟩ := V0.out.all
 have u0 := u0.out
 refine ZW 5 ZK (by kernel_rfl) ?_
 simp only [List.take_succ_cons, List.take_zero, List.drop_succ_cons, List.drop_zero]
 repeat (first | go_big_quiet_skip | (go_big_quiet_want; go_big_quiet_op; go_big_quiet_on))
 refine wpQuiet_nil ?_
 go_wp2_with fail
 refine (CA.out).mono ?_
 rintro e w2 ⟨rfl, hb⟩
 replace hb : Below w1.heap.size w1 w2 := ⟨hb.os, hb.tape, hb.output, hb.size, hb.block⟩
 have B2 := Za (Zg B0.out hb)
 clear hb
 go_wp2_with fail
 go_ret
 exact Vb.mk (by rw [← HZ.out]; rfl) B2.out
theorem can_2 {w : World} {G : Nat -> Prop} {g : Nat} {S : List (List Wt)} {r : Rm} {p : List Addr} (h : Rn w G g S r) (h17 : E2 w p) (i : Nat) (x : Gr) (hx : r.gs[i]? = some x) (hk : x.w.k = 2) : Calls Tryz.prog 30 #[P_ g, I_ (i : Nat)] w (Vb w (.bool (ZY r x.w))) := by
 have HR := Za h
 obtain ⟨Fs, Fo, R, gs, vC, vB, vG, vE, ps, ts, h, hG⟩ := h
 obtain ⟨bG, cG, b, t, va, eG, _, _, _, _, _, hA, ⟨s1, s2, s3⟩, s4⟩ := h.see hx
 subst eG
 obtain ⟨aa, na, ca, rfl⟩ := hA.form
 clear hA
 have hi : i < r.gs.length := (G_ hx)
 have hn8 := h.n8
 obtain ⟨⟨c0, c1, c2, c3, c4⟩, c5, c6, c7, c8, c9⟩ := h.cells
 have hgl := h.fb g h.fg
 obtain ⟨rest, ⟨k, o, a, v0, v1, v2⟩⟩ := x
 simp only at s4
 have b1 := Zb s4 1 _ rfl
 have b2 := Zb s4 2 _ rfl
 have b3 := Zb s4 3 _ rfl
 have b4 := Zb s4 4 _ rfl
 have b5 := Zb s4 5 _ rfl
 have b6 := Zb s4 6 _ rfl
 have b7 := Zb s4 7 _ rfl
 obtain ⟨n, hn⟩ : ∃ n, n = r.gs.length := ⟨_, rfl⟩
 rw [← hn] at hi hn8 c3
 have HN := Za hn
 have hi1 : (i : Int) < (n : Int) := by omega
 have hi0 : (0 : Int) <= (i : Int) := by omega
 have hd0 : decide ((i : Int) < 0) = false := by simp
 have hd1 : decide ((n : Int) <= (i : Int)) = false := by simp; omega
 clear hn
 have HS := Za h.st
 have hsl := h.st.lt
 have H7 := Za h17
 clear h hG h17
 simp only at hk
 subst hk
 have B0 := Za (Zd w (.cells #[I_ 2, I_ o, I_ a, I_ v0, I_ v1, .int .u64 v2, .slice aa na ca] 67))
 have V0 := Za (Wv.new w 2 o a v0 v1 v2 (.slice aa na ca))
 have u0 := Za ((B0.out.cell (p := ⟨g, 0, none⟩) hgl).trans c0)
 obtain ⟨z, hz⟩ : ∃ z, ZY r ⟨2, o, a, (v0, v1, v2)⟩ = z := ⟨_, rfl⟩
 rw [hz]
 have HZ := Za hz
 clear hz
 have CA := Za (canAccess_any ((HS.out.bel B0.out).bel (below_drewN (Below.refl _ _) 1)) ((H7.out.below (Nat.le_refl _) B0.out).below (Nat.le_refl _) (below_drewN (Below.refl _ _) 1)) 2 o a v0 v1 v2 (.slice aa na ca))
 clear HS H7 HR
 go_enter Tryz.func30, Tryz.ntmps30
 go_wp2_with fail
 generalize w.alloc _ = w1 at *
 obtain ⟨q0, q1, q2, q3, q4, q5, q6⟩ := V0.out.all
 have u0 := u0.out
 refine ZW 5 ZK (by kernel_rfl) ?_
 simp only [List.take_succ_cons, List.take_zero, List.drop_succ_cons, List.drop_zero]
 repeat (first | go_big_quiet_skip | (go_big_quiet_want; go_big_quiet_op; go_big_quiet_on))
 refine wpQuiet_nil ?_
 go_wp2_with fail
 refine (CA.out).mono ?_
 rintro e w2 ⟨rfl, hb⟩
 replace hb : Below w1.heap.size w1 w2 := ⟨hb.os, hb.tape, hb.output, hb.size, hb.block⟩
 have B2 := Za (Zg B0.out hb)
 clear hb
 go_wp2_with fail
 go_ret
 exact Vb.mk (by rw [← HZ.out]; rfl) B2.out
theorem can_3 {w : World} {G : Nat -> Prop} {g : Nat} {S : List (List Wt)} {r : Rm} {p : List Addr} (h : Rn w G g S r) (h17 : E2 w p) (i : Nat) (x : Gr) (hx : r.gs[i]? = some x) (hk : x.w.k = 3) : Calls Tryz.prog 30 #[P_ g, I_ (i : Nat)] w (Vb w (.bool (ZY r x.w))) := by
 have HR := Za h
 obtain ⟨Fs, Fo, R, gs, vC, vB, vG, vE, ps, ts, h, hG⟩ := h
 obtain ⟨bG, cG, b, t, va, eG, _, _, _, _, _, hA, ⟨s1, s2, s3⟩, s4⟩ := h.see hx
 subst eG
 obtain ⟨aa, na, ca, rfl⟩ := hA.form
 clear hA
 have hi : i < r.gs.length := (G_ hx)
 have hn8 := h.n8
 obtain ⟨⟨c0, c1, c2, c3, c4⟩, c5, c6, c7, c8, c9⟩ := h.cells
 have hgl := h.fb g h.fg
 obtain ⟨rest, ⟨k, o, a, v0, v1, v2⟩⟩ := x
 simp only at s4
 have b1 := Zb s4 1 _ rfl
 have b2 := Zb s4 2 _ rfl
 have b3 := Zb s4 3 _ rfl
 have b4 := Zb s4 4 _ rfl
 have b5 := Zb s4 5 _ rfl
 have b6 := Zb s4 6 _ rfl
 have b7 := Zb s4 7 _ rfl
 obtain ⟨n, hn⟩ : ∃ n, n = r.gs.length := ⟨_, rfl⟩
 rw [← hn] at hi hn8 c3
 have HN := Za hn
 have hi1 : (i : Int) < (n : Int) := by omega
 have hi0 : (0 : Int) <= (i : Int) := by omega
 have hd0 : decide ((i : Int) < 0) = false := by simp
 have hd1 : decide ((n : Int) <= (i : Int)) = false := by simp; omega
 clear hn
 have HS := Za h.st
 have hsl := h.st.lt
 have H7 := Za h17
 clear h hG h17
 simp only at hk
 subst hk
 have B0 := Za (Zd w (.cells #[I_ 3, I_ o, I_ a, I_ v0, I_ v1, .int .u64 v2, .slice aa na ca] 67))
 have V0 := Za (Wv.new w 3 o a v0 v1 v2 (.slice aa na ca))
 have u0 := Za ((B0.out.cell (p := ⟨g, 0, none⟩) hgl).trans c0)
 obtain ⟨z, hz⟩ : ∃ z, ZY r ⟨3, o, a, (v0, v1, v2)⟩ = z := ⟨_, rfl⟩
 rw [hz]
 have HZ := Za hz
 clear hz
 have HM := Za (fun n => hasMutex_q ((HS.out.bel B0.out).bel (below_drewN (Below.refl _ _) n)) ((H7.out.below (Nat.le_refl _) B0.out).below (Nat.le_refl _) (below_drewN (Below.refl _ _) n)) o)
 have LO := Za (fun n => Locked_q ((HS.out.bel B0.out).bel (below_drewN (Below.refl _ _) n)) ((H7.out.below (Nat.le_refl _) B0.out).below (Nat.le_refl _) (below_drewN (Below.refl _ _) n)) o)
 obtain ⟨hm, ehm⟩ : ∃ hm, (lk r.s.M o).isSome = hm := ⟨_, rfl⟩
 obtain ⟨lo, elo⟩ : ∃ lo, (lk r.s.M o).getD false = lo := ⟨_, rfl⟩
 have HZ2 : Hid (z = (hm && !lo)) := by
  rw [← HZ.out, ← ehm, ← elo]
  show canL r.s _ = _
  unfold canL
  cases lk r.s.M o <;> simp
 rw [ehm] at HM
 rw [elo] at LO
 clear ehm elo HZ HS H7 HR
 cases hm with
 | true =>
  go_enter Tryz.func30, Tryz.ntmps30
  go_wp2_with fail
  generalize w.alloc _ = w1 at *
  obtain ⟨q0, q1, q2, q3, q4, q5, q6⟩ := V0.out.all
  have u0 := u0.out
  go_quiet (first | (go_at_call 63; exact Calls.quiet_of (HM.out _)) | (go_at_call 64; exact Calls.quiet_of (LO.out _)))
  go_wp2_with fail
  go_ret
  exact Vb.mk (by rw [HZ2.out]; simp) (below_drewN B0.out _)
 | false =>
  go_enter Tryz.func30, Tryz.ntmps30
  go_wp2_with fail
  generalize w.alloc _ = w1 at *
  obtain ⟨q0, q1, q2, q3, q4, q5, q6⟩ := V0.out.all
  have u0 := u0.out
  go_quiet (first | (go_at_call 63; exact Calls.quiet_of (HM.out _)))
  go_wp2_with fail
  go_ret
  exact Vb.mk (by rw [HZ2.out]; simp) (below_drewN B0.out _)
theorem can_4 {w : World} {G : Nat -> Prop} {g : Nat} {S : List (List Wt)} {r : Rm} {p : List Addr} (h : Rn w G g S r) (h17 : E2 w p) (i : Nat) (x : Gr) (hx : r.gs[i]? = some x) (hk : x.w.k = 4) : Calls Tryz.prog 30 #[P_ g, I_ (i : Nat)] w (Vb w (.bool (ZY r x.w))) := by
 have HR := Za h
 obtain ⟨Fs, Fo, R, gs, vC, vB, vG, vE, ps, ts, h, hG⟩ := h
 obtain ⟨bG, cG, b, t, va, eG, _, _, _, _, _, hA, ⟨s1, s2, s3⟩, s4⟩ := h.see hx
 subst eG
 obtain ⟨aa, na, ca, rfl⟩ := hA.form
 clear hA
 have hi : i < r.gs.length := (G_ hx)
 have hn8 := h.n8
 obtain ⟨⟨c0, c1, c2, c3, c4⟩, c5, c6, c7, c8, c9⟩ := h.cells
 have hgl := h.fb g h.fg
 obtain ⟨rest, ⟨k, o, a, v0, v1, v2⟩⟩ := x
 simp only at s4
 have b1 := Zb s4 1 _ rfl
 have b2 := Zb s4 2 _ rfl
 have b3 := Zb s4 3 _ rfl
 have b4 := Zb s4 4 _ rfl
 have b5 := Zb s4 5 _ rfl
 have b6 := Zb s4 6 _ rfl
 have b7 := Zb s4 7 _ rfl
 obtain ⟨n, hn⟩ : ∃ n, n = r.gs.length := ⟨_, rfl⟩
 rw [← hn] at hi hn8 c3
 have HN := Za hn
 have hi1 : (i : Int) < (n : Int) := by omega
 have hi0 : (0 : Int) <= (i : Int) := by omega
 have hd0 : decide ((i : Int) < 0) = false := by simp
 have hd1 : decide ((n : Int) <= (i : Int)) = false := by simp; omega
 clear hn
 have HS := Za h.st
 have hsl := h.st.lt
 have H7 := Za h17
 clear h hG h17
 simp only at hk
 subst hk
 have B0 := Za (Zd w (.cells #[I_ 4, I_ o, I_ a, I_ v0, I_ v1, .int .u64 v2, .slice aa na ca] 67))
 have V0 := Za (Wv.new w 4 o a v0 v1 v2 (.slice aa na ca))
 have u0 := Za ((B0.out.cell (p := ⟨g, 0, none⟩) hgl).trans c0)
 obtain ⟨z, hz⟩ : ∃ z, ZY r ⟨4, o, a, (v0, v1, v2)⟩ = z := ⟨_, rfl⟩
 rw [hz]
 have HZ := Za hz
 clear hz
 have CA := Za (hasMutex_any ((HS.out.bel B0.out).bel (below_drewN (Below.refl _ _) 1)) ((H7.out.below (Nat.le_refl _) B0.out).below (Nat.le_refl _) (below_drewN (Below.refl _ _) 1)) o)
 clear HS H7 HR
 go_enter Tryz.func30, Tryz.ntmps30
 go_wp2_with fail
 generalize w.alloc _ = w1 at *
 obtain ⟨q0, q1, q2, q3, q4, q5, q6⟩ := V0.out.all
 have u0 := u0.out
 refine ZW 6 ZK (by kernel_rfl) ?_
 simp only [List.take_succ_cons, List.take_zero, List.drop_succ_cons, List.drop_zero]
 repeat (first | go_big_quiet_skip | (go_big_quiet_want; go_big_quiet_op; go_big_quiet_on))
 refine wpQuiet_nil ?_
 go_wp2_with fail
 refine (CA.out).mono ?_
 rintro e w2 ⟨rfl, hb⟩
 replace hb : Below w1.heap.size w1 w2 := ⟨hb.os, hb.tape, hb.output, hb.size, hb.block⟩
 have B2 := Za (Zg B0.out hb)
 clear hb
 go_wp2_with fail
 go_ret
 exact Vb.mk (by rw [← HZ.out]; rfl) B2.out
theorem recvI_some (gs : List Gr) (c : Int) : decide (0 <= recvI gs c) = (recvR gs c).isSome := by
 unfold recvI
 cases recvR gs c with
 | none => rfl
 | some t => simp
theorem canSend_any {w : World} {G : Nat -> Prop} {g : Nat} {S : List (List Wt)} {r : Rm} (h : Rn w G g S r) (k o a v0 v1 v2 : Int) (va : Value) :
 Calls Tryz.prog 65 #[P_ g, .agg #[I_ k, I_ o, I_ a, I_ v0, I_ v1, .int .u64 v2, va]] w (Vb w (.bool (canS r ⟨k, o, a, (v0, v1, v2)⟩))) := by
 unfold canS
 simp only
 cases hl : lk r.s.C o with
 | none => exact canSend_out h k o a v0 v1 v2 va (YJ hl)
 | some q =>
  obtain ⟨i, rfl, hi⟩ := ZD hl
  have := canSend_in h k a v0 v1 v2 va i q hi
  rw [recvI_some] at this
  exact this
theorem can_5 {w : World} {G : Nat -> Prop} {g : Nat} {S : List (List Wt)} {r : Rm} {p : List Addr} (h : Rn w G g S r) (h17 : E2 w p) (i : Nat) (x : Gr) (hx : r.gs[i]? = some x) (hk : x.w.k = 5) : Calls Tryz.prog 30 #[P_ g, I_ (i : Nat)] w (Vb w (.bool (ZY r x.w))) := by
 have HR := Za h
 obtain ⟨Fs, Fo, R, gs, vC, vB, vG, vE, ps, ts, h, hG⟩ := h
 obtain ⟨bG, cG, b, t, va, eG, _, _, _, _, _, hA, ⟨s1, s2, s3⟩, s4⟩ := h.see hx
 subst eG
 obtain ⟨aa, na, ca, rfl⟩ := hA.form
 clear hA
 have hi : i < r.gs.length := (G_ hx)
 have hn8 := h.n8
 obtain ⟨⟨c0, c1, c2, c3, c4⟩, c5, c6, c7, c8, c9⟩ := h.cells
 have hgl := h.fb g h.fg
 obtain ⟨rest, ⟨k, o, a, v0, v1, v2⟩⟩ := x
 simp only at s4
 have b1 := Zb s4 1 _ rfl
 have b2 := Zb s4 2 _ rfl
 have b3 := Zb s4 3 _ rfl
 have b4 := Zb s4 4 _ rfl
 have b5 := Zb s4 5 _ rfl
 have b6 := Zb s4 6 _ rfl
 have b7 := Zb s4 7 _ rfl
 obtain ⟨n, hn⟩ : ∃ n, n = r.gs.length := ⟨_, rfl⟩
 rw [← hn] at hi hn8 c3
 have HN := Za hn
 have hi1 : (i : Int) < (n : Int) := by omega
 have hi0 : (0 : Int) <= (i : Int) := by omega
 have hd0 : decide ((i : Int) < 0) = false := by simp
 have hd1 : decide ((n : Int) <= (i : Int)) = false := by simp; omega
 clear hn
 have HS := Za h.st
 have hsl := h.st.lt
 have H7 := Za h17
 clear h hG h17
 simp only at hk
 subst hk
 have B0 := Za (Zd w (.cells #[I_ 5, I_ o, I_ a, I_ v0, I_ v1, .int .u64 v2, .slice aa na ca] 67))
 have V0 := Za (Wv.new w 5 o a v0 v1 v2 (.slice aa na ca))
 obtain ⟨z, hz⟩ : ∃ z, ZY r ⟨5, o, a, (v0, v1, v2)⟩ = z := ⟨_, rfl⟩
 rw [hz]
 have HZ := Za hz
 clear hz
 have CA := Za (canSend_any (HR.out.bel B0.out) 5 o a v0 v1 v2 (.slice aa na ca))
 clear HS H7 HR
 go_enter Tryz.func30, Tryz.ntmps30
 go_wp2_with fail
 refine (CA.out).mono ?_
 rintro e w2 ⟨rfl, hb⟩
 have B2 := Za (Zg B0.out hb)
 clear hb
 go_wp2_with fail
 go_ret
 exact Vb.mk (by rw [← HZ.out]; rfl) B2.out
theorem can_6 {w : World} {G : Nat -> Prop} {g : Nat} {S : List (List Wt)} {r : Rm} {p : List Addr} (h : Rn w G g S r) (h17 : E2 w p) (i : Nat) (x : Gr) (hx : r.gs[i]? = some x) (hk : x.w.k = 6) : Calls Tryz.prog 30 #[P_ g, I_ (i : Nat)] w (Vb w (.bool (ZY r x.w))) := by
 have HR := Za h
 obtain ⟨Fs, Fo, R, gs, vC, vB, vG, vE, ps, ts, h, hG⟩ := h
 obtain ⟨bG, cG, b, t, va, eG, _, _, _, _, _, hA, ⟨s1, s2, s3⟩, s4⟩ := h.see hx
 subst eG
 obtain ⟨aa, na, ca, rfl⟩ := hA.form
 clear hA
 have hi : i < r.gs.length := (G_ hx)
 have hn8 := h.n8
 obtain ⟨⟨c0, c1, c2, c3, c4⟩, c5, c6, c7, c8, c9⟩ := h.cells
 have hgl := h.fb g h.fg
 obtain ⟨rest, ⟨k, o, a, v0, v1, v2⟩⟩ := x
 simp only at s4
 have b1 := Zb s4 1 _ rfl
 have b2 := Zb s4 2 _ rfl
 have b3 := Zb s4 3 _ rfl
 have b4 := Zb s4 4 _ rfl
 have b5 := Zb s4 5 _ rfl
 have b6 := Zb s4 6 _ rfl
 have b7 := Zb s4 7 _ rfl
 obtain ⟨n, hn⟩ : ∃ n, n = r.gs.length := ⟨_, rfl⟩
 rw [← hn] at hi hn8 c3
 have HN := Za hn
 have hi1 : (i : Int) < (n : Int) := by omega
 have hi0 : (0 : Int) <= (i : Int) := by omega
 have hd0 : decide ((i : Int) < 0) = false := by simp
 have hd1 : decide ((n : Int) <= (i : Int)) = false := by simp; omega
 clear hn
 have HS := Za h.st
 have hsl := h.st.lt
 have H7 := Za h17
 clear h hG h17
 simp only at hk
 subst hk
 have B0 := Za (Zd w (.cells #[I_ 6, I_ o, I_ a, I_ v0, I_ v1, .int .u64 v2, .slice aa na ca] 67))
 have V0 := Za (Wv.new w 6 o a v0 v1 v2 (.slice aa na ca))
 have u0 := Za ((B0.out.cell (p := ⟨g, 0, none⟩) hgl).trans c0)
 obtain ⟨z, hz⟩ : ∃ z, ZY r ⟨6, o, a, (v0, v1, v2)⟩ = z := ⟨_, rfl⟩
 rw [hz]
 have HZ := Za hz
 clear hz
 have CA := Za (Len_any ((HS.out.bel B0.out).bel (below_drewN (Below.refl _ _) 1)) ((H7.out.below (Nat.le_refl _) B0.out).below (Nat.le_refl _) (below_drewN (Below.refl _ _) 1)) o)
 obtain ⟨m, hm⟩ : ∃ m, lenC r.s o = m := ⟨_, rfl⟩
 have HZ2 : Hid (z = decide (0 < m)) := by
  rw [← HZ.out, ← hm]
  show canR r.s _ = _
  unfold canR lenC
  cases lk r.s.C o <;> simp
 rw [hm] at CA
 clear HS H7 HR HZ hm
 go_enter Tryz.func30, Tryz.ntmps30
 go_wp2_with fail
 generalize w.alloc _ = w1 at *
 obtain ⟨q0, q1, q2, q3, q4, q5, q6⟩ := V0.out.all
 have u0 := u0.out
 refine ZW 6 ZK (by kernel_rfl) ?_
 simp only [List.take_succ_cons, List.take_zero, List.drop_succ_cons, List.drop_zero]
 repeat (first | go_big_quiet_skip | (go_big_quiet_want; go_big_quiet_op; go_big_quiet_on))
 refine wpQuiet_nil ?_
 go_wp2_with fail
 refine (CA.out).mono ?_
 rintro e w2 ⟨rfl, hb⟩
 replace hb : Below w1.heap.size w1 w2 := ⟨hb.os, hb.tape, hb.output, hb.size, hb.block⟩
 have B2 := Za (Zg B0.out hb)
 clear hb
 go_wp2_with fail
 go_ret
 exact Vb.mk (by rw [HZ2.out]; rfl) B2.out
theorem can_7 {w : World} {G : Nat -> Prop} {g : Nat} {S : List (List Wt)} {r : Rm} {p : List Addr} (h : Rn w G g S r) (h17 : E2 w p) (i : Nat) (x : Gr) (hx : r.gs[i]? = some x) (hk : x.w.k = 7) : Calls Tryz.prog 30 #[P_ g, I_ (i : Nat)] w (Vb w (.bool (ZY r x.w))) := by
 have HR := Za h
 obtain ⟨Fs, Fo, R, gs, vC, vB, vG, vE, ps, ts, h, hG⟩ := h
 obtain ⟨bG, cG, b, t, va, eG, _, _, _, _, _, hA, ⟨s1, s2, s3⟩, s4⟩ := h.see hx
 subst eG
 obtain ⟨aa, na, ca, rfl⟩ := hA.form
 clear hA
 have hi : i < r.gs.length := (G_ hx)
 have hn8 := h.n8
 obtain ⟨⟨c0, c1, c2, c3, c4⟩, c5, c6, c7, c8, c9⟩ := h.cells
 have hgl := h.fb g h.fg
 obtain ⟨rest, ⟨k, o, a, v0, v1, v2⟩⟩ := x
 simp only at s4
 have b1 := Zb s4 1 _ rfl
 have b2 := Zb s4 2 _ rfl
 have b3 := Zb s4 3 _ rfl
 have b4 := Zb s4 4 _ rfl
 have b5 := Zb s4 5 _ rfl
 have b6 := Zb s4 6 _ rfl
 have b7 := Zb s4 7 _ rfl
 obtain ⟨n, hn⟩ : ∃ n, n = r.gs.length := ⟨_, rfl⟩
 rw [← hn] at hi hn8 c3
 have HN := Za hn
 have hi1 : (i : Int) < (n : Int) := by omega
 have hi0 : (0 : Int) <= (i : Int) := by omega
 have hd0 : decide ((i : Int) < 0) = false := by simp
 have hd1 : decide ((n : Int) <= (i : Int)) = false := by simp; omega
 clear hn
 have HS := Za h.st
 have hsl := h.st.lt
 have H7 := Za h17
 clear h hG h17
 simp only at hk
 subst hk
 have B0 := Za (Zd w (.cells #[I_ 7, I_ o, I_ a, I_ v0, I_ v1, .int .u64 v2, .slice aa na ca] 67))
 have V0 := Za (Wv.new w 7 o a v0 v1 v2 (.slice aa na ca))
 have u0 := Za ((B0.out.cell (p := ⟨g, 0, none⟩) hgl).trans c0)
 obtain ⟨z, hz⟩ : ∃ z, ZY r ⟨7, o, a, (v0, v1, v2)⟩ = z := ⟨_, rfl⟩
 rw [hz]
 have HZ := Za hz
 clear hz
 have CA := Za (canCount_any ((HS.out.bel B0.out).bel (below_drewN (Below.refl _ _) 1)) ((H7.out.below (Nat.le_refl _) B0.out).below (Nat.le_refl _) (below_drewN (Below.refl _ _) 1)) 7 o a v0 v1 v2 (.slice aa na ca))
 clear HS H7 HR
 go_enter Tryz.func30, Tryz.ntmps30
 go_wp2_with fail
 generalize w.alloc _ = w1 at *
 obtain ⟨q0, q1, q2, q3, q4, q5, q6⟩ := V0.out.all
 have u0 := u0.out
 refine ZW 5 ZK (by kernel_rfl) ?_
 simp only [List.take_succ_cons, List.take_zero, List.drop_succ_cons, List.drop_zero]
 repeat (first | go_big_quiet_skip | (go_big_quiet_want; go_big_quiet_op; go_big_quiet_on))
 refine wpQuiet_nil ?_
 go_wp2_with fail
 refine (CA.out).mono ?_
 rintro e w2 ⟨rfl, hb⟩
 replace hb : Below w1.heap.size w1 w2 := ⟨hb.os, hb.tape, hb.output, hb.size, hb.block⟩
 have B2 := Za (Zg B0.out hb)
 clear hb
 go_wp2_with fail
 go_ret
 exact Vb.mk (by rw [← HZ.out]; rfl) B2.out
theorem can_8 {w : World} {G : Nat -> Prop} {g : Nat} {S : List (List Wt)} {r : Rm} {p : List Addr} (h : Rn w G g S r) (h17 : E2 w p) (i : Nat) (x : Gr) (hx : r.gs[i]? = some x) (hk : x.w.k = 8) : Calls Tryz.prog 30 #[P_ g, I_ (i : Nat)] w (Vb w (.bool (ZY r x.w))) := by
 have HR := Za h
 obtain ⟨Fs, Fo, R, gs, vC, vB, vG, vE, ps, ts, h, hG⟩ := h
 obtain ⟨bG, cG, b, t, va, eG, _, _, _, _, _, hA, ⟨s1, s2, s3⟩, s4⟩ := h.see hx
 subst eG
 obtain ⟨aa, na, ca, rfl⟩ := hA.form
 clear hA
 have hi : i < r.gs.length := (G_ hx)
 have hn8 := h.n8
 obtain ⟨⟨c0, c1, c2, c3, c4⟩, c5, c6, c7, c8, c9⟩ := h.cells
 have hgl := h.fb g h.fg
 obtain ⟨rest, ⟨k, o, a, v0, v1, v2⟩⟩ := x
 simp only at s4
 have b1 := Zb s4 1 _ rfl
 have b2 := Zb s4 2 _ rfl
 have b3 := Zb s4 3 _ rfl
 have b4 := Zb s4 4 _ rfl
 have b5 := Zb s4 5 _ rfl
 have b6 := Zb s4 6 _ rfl
 have b7 := Zb s4 7 _ rfl
 obtain ⟨n, hn⟩ : ∃ n, n = r.gs.length := ⟨_, rfl⟩
 rw [← hn] at hi hn8 c3
 have HN := Za hn
 have hi1 : (i : Int) < (n : Int) := by omega
 have hi0 : (0 : Int) <= (i : Int) := by omega
 have hd0 : decide ((i : Int) < 0) = false := by simp
 have hd1 : decide ((n : Int) <= (i : Int)) = false := by simp; omega
 clear hn
 have HS := Za h.st
 have hsl := h.st.lt
 have H7 := Za h17
 clear h hG h17
 simp only at hk
 subst hk
 have B0 := Za (Zd w (.cells #[I_ 8, I_ o, I_ a, I_ v0, I_ v1, .int .u64 v2, .slice aa na ca] 67))
 have V0 := Za (Wv.new w 8 o a v0 v1 v2 (.slice aa na ca))
 have u0 := Za ((B0.out.cell (p := ⟨g, 0, none⟩) hgl).trans c0)
 obtain ⟨z, hz⟩ : ∃ z, ZY r ⟨8, o, a, (v0, v1, v2)⟩ = z := ⟨_, rfl⟩
 rw [hz]
 have HZ := Za hz
 clear hz
 have CA := Za (canCount_any ((HS.out.bel B0.out).bel (below_drewN (Below.refl _ _) 1)) ((H7.out.below (Nat.le_refl _) B0.out).below (Nat.le_refl _) (below_drewN (Below.refl _ _) 1)) 8 o a v0 v1 v2 (.slice aa na ca))
 clear HS H7 HR
 go_enter Tryz.func30, Tryz.ntmps30
 go_wp2_with fail
 generalize w.alloc _ = w1 at *
 obtain ⟨q0, q1, q2, q3, q4, q5, q6⟩ := V0.out.all
 have u0 := u0.out
 refine ZW 5 ZK (by kernel_rfl) ?_
 simp only [List.take_succ_cons, List.take_zero, List.drop_succ_cons, List.drop_zero]
 repeat (first | go_big_quiet_skip | (go_big_quiet_want; go_big_quiet_op; go_big_quiet_on))
 refine wpQuiet_nil ?_
 go_wp2_with fail
 refine (CA.out).mono ?_
 rintro e w2 ⟨rfl, hb⟩
 replace hb : Below w1.heap.size w1 w2 := ⟨hb.os, hb.tape, hb.output, hb.size, hb.block⟩
 have B2 := Za (Zg B0.out hb)
 clear hb
 go_wp2_with fail
 go_ret
 exact Vb.mk (by rw [← HZ.out]; rfl) B2.out
theorem can_9 {w : World} {G : Nat -> Prop} {g : Nat} {S : List (List Wt)} {r : Rm} {p : List Addr} (h : Rn w G g S r) (h17 : E2 w p) (i : Nat) (x : Gr) (hx : r.gs[i]? = some x) (hk : x.w.k = 9) : Calls Tryz.prog 30 #[P_ g, I_ (i : Nat)] w (Vb w (.bool (ZY r x.w))) := by
 have HR := Za h
 obtain ⟨Fs, Fo, R, gs, vC, vB, vG, vE, ps, ts, h, hG⟩ := h
 obtain ⟨bG, cG, b, t, va, eG, _, _, _, _, _, hA, ⟨s1, s2, s3⟩, s4⟩ := h.see hx
 subst eG
 obtain ⟨aa, na, ca, rfl⟩ := hA.form
 clear hA
 have hi : i < r.gs.length := (G_ hx)
 have hn8 := h.n8
 obtain ⟨⟨c0, c1, c2, c3, c4⟩, c5, c6, c7, c8, c9⟩ := h.cells
 have hgl := h.fb g h.fg
 obtain ⟨rest, ⟨k, o, a, v0, v1, v2⟩⟩ := x
 simp only at s4
 have b1 := Zb s4 1 _ rfl
 have b2 := Zb s4 2 _ rfl
 have b3 := Zb s4 3 _ rfl
 have b4 := Zb s4 4 _ rfl
 have b5 := Zb s4 5 _ rfl
 have b6 := Zb s4 6 _ rfl
 have b7 := Zb s4 7 _ rfl
 obtain ⟨n, hn⟩ : ∃ n, n = r.gs.length := ⟨_, rfl⟩
 rw [← hn] at hi hn8 c3
 have HN := Za hn
 have hi1 : (i : Int) < (n : Int) := by omega
 have hi0 : (0 : Int) <= (i : Int) := by omega
 have hd0 : decide ((i : Int) < 0) = false := by simp
 have hd1 : decide ((n : Int) <= (i : Int)) = false := by simp; omega
 clear hn
 have HS := Za h.st
 have hsl := h.st.lt
 have H7 := Za h17
 clear h hG h17
 simp only at hk
 subst hk
 have B0 := Za (Zd w (.cells #[I_ 9, I_ o, I_ a, I_ v0, I_ v1, .int .u64 v2, .slice aa na ca] 67))
 have V0 := Za (Wv.new w 9 o a v0 v1 v2 (.slice aa na ca))
 have u0 := Za ((B0.out.cell (p := ⟨g, 0, none⟩) hgl).trans c0)
 obtain ⟨z, hz⟩ : ∃ z, ZY r ⟨9, o, a, (v0, v1, v2)⟩ = z := ⟨_, rfl⟩
 rw [hz]
 have HZ := Za hz
 clear hz
 have CA := Za (canCount_any ((HS.out.bel B0.out).bel (below_drewN (Below.refl _ _) 1)) ((H7.out.below (Nat.le_refl _) B0.out).below (Nat.le_refl _) (below_drewN (Below.refl _ _) 1)) 9 o a v0 v1 v2 (.slice aa na ca))
 clear HS H7 HR
 go_enter Tryz.func30, Tryz.ntmps30
 go_wp2_with fail
 generalize w.alloc _ = w1 at *
 obtain ⟨q0, q1, q2, q3, q4, q5, q6⟩ := V0.out.all
 have u0 := u0.out
 refine ZW 5 ZK (by kernel_rfl) ?_
 simp only [List.take_succ_cons, List.take_zero, List.drop_succ_cons, List.drop_zero]
 repeat (first | go_big_quiet_skip | (go_big_quiet_want; go_big_quiet_op; go_big_quiet_on))
 refine wpQuiet_nil ?_
 go_wp2_with fail
 refine (CA.out).mono ?_
 rintro e w2 ⟨rfl, hb⟩
 replace hb : Below w1.heap.size w1 w2 := ⟨hb.os, hb.tape, hb.output, hb.size, hb.block⟩
 have B2 := Za (Zg B0.out hb)
 clear hb
 go_wp2_with fail
 go_ret
 exact Vb.mk (by rw [← HZ.out]; rfl) B2.out
theorem can_10 {w : World} {G : Nat -> Prop} {g : Nat} {S : List (List Wt)} {r : Rm} {p : List Addr} (h : Rn w G g S r) (h17 : E2 w p) (i : Nat) (x : Gr) (hx : r.gs[i]? = some x) (hk : x.w.k = 10) : Calls Tryz.prog 30 #[P_ g, I_ (i : Nat)] w (Vb w (.bool (ZY r x.w))) := by
 have HR := Za h
 obtain ⟨Fs, Fo, R, gs, vC, vB, vG, vE, ps, ts, h, hG⟩ := h
 obtain ⟨bG, cG, b, t, va, eG, _, _, _, _, _, hA, ⟨s1, s2, s3⟩, s4⟩ := h.see hx
 subst eG
 obtain ⟨aa, na, ca, rfl⟩ := hA.form
 clear hA
 have hi : i < r.gs.length := (G_ hx)
 have hn8 := h.n8
 obtain ⟨⟨c0, c1, c2, c3, c4⟩, c5, c6, c7, c8, c9⟩ := h.cells
 have hgl := h.fb g h.fg
 obtain ⟨rest, ⟨k, o, a, v0, v1, v2⟩⟩ := x
 simp only at s4
 have b1 := Zb s4 1 _ rfl
 have b2 := Zb s4 2 _ rfl
 have b3 := Zb s4 3 _ rfl
 have b4 := Zb s4 4 _ rfl
 have b5 := Zb s4 5 _ rfl
 have b6 := Zb s4 6 _ rfl
 have b7 := Zb s4 7 _ rfl
 obtain ⟨n, hn⟩ : ∃ n, n = r.gs.length := ⟨_, rfl⟩
 rw [← hn] at hi hn8 c3
 have HN := Za hn
 have hi1 : (i : Int) < (n : Int) := by omega
 have hi0 : (0 : Int) <= (i : Int) := by omega
 have hd0 : decide ((i : Int) < 0) = false := by simp
 have hd1 : decide ((n : Int) <= (i : Int)) = false := by simp; omega
 clear hn
 have HS := Za h.st
 have hsl := h.st.lt
 have H7 := Za h17
 clear h hG h17
 simp only at hk
 subst hk
 have B0 := Za (Zd w (.cells #[I_ 10, I_ o, I_ a, I_ v0, I_ v1, .int .u64 v2, .slice aa na ca] 67))
 have V0 := Za (Wv.new w 10 o a v0 v1 v2 (.slice aa na ca))
 obtain ⟨z, hz⟩ : ∃ z, ZY r ⟨10, o, a, (v0, v1, v2)⟩ = z := ⟨_, rfl⟩
 rw [hz]
 have HZ := Za hz
 clear hz
 clear HS H7 HR
 go_enter Tryz.func30, Tryz.ntmps30
 go_wp2_with fail
 go_ret
 exact Vb.mk (by rw [← HZ.out]; rfl) B0.out
theorem can_11 {w : World} {G : Nat -> Prop} {g : Nat} {S : List (List Wt)} {r : Rm} {p : List Addr} (h : Rn w G g S r) (h17 : E2 w p) (i : Nat) (x : Gr) (hx : r.gs[i]? = some x) (hk : x.w.k = 11) : Calls Tryz.prog 30 #[P_ g, I_ (i : Nat)] w (Vb w (.bool (ZY r x.w))) := by
 have HR := Za h
 obtain ⟨Fs, Fo, R, gs, vC, vB, vG, vE, ps, ts, h, hG⟩ := h
 obtain ⟨bG, cG, b, t, va, eG, _, _, _, _, _, hA, ⟨s1, s2, s3⟩, s4⟩ := h.see hx
 subst eG
 obtain ⟨aa, na, ca, rfl⟩ := hA.form
 clear hA
 have hi : i < r.gs.length := (G_ hx)
 have hn8 := h.n8
 obtain ⟨⟨c0, c1, c2, c3, c4⟩, c5, c6, c7, c8, c9⟩ := h.cells
 have hgl := h.fb g h.fg
 obtain ⟨rest, ⟨k, o, a, v0, v1, v2⟩⟩ := x
 simp only at s4
 have b1 := Zb s4 1 _ rfl
 have b2 := Zb s4 2 _ rfl
 have b3 := Zb s4 3 _ rfl
 have b4 := Zb s4 4 _ rfl
 have b5 := Zb s4 5 _ rfl
 have b6 := Zb s4 6 _ rfl
 have b7 := Zb s4 7 _ rfl
 obtain ⟨n, hn⟩ : ∃ n, n = r.gs.length := ⟨_, rfl⟩
 rw [← hn] at hi hn8 c3
 have HN := Za hn
 have hi1 : (i : Int) < (n : Int) := by omega
 have hi0 : (0 : Int) <= (i : Int) := by omega
 have hd0 : decide ((i : Int) < 0) = false := by simp
 have hd1 : decide ((n : Int) <= (i : Int)) = false := by simp; omega
 clear hn
 have HS := Za h.st
 have hsl := h.st.lt
 have H7 := Za h17
 clear h hG h17
 simp only at hk
 subst hk
 have B0 := Za (Zd w (.cells #[I_ 11, I_ o, I_ a, I_ v0, I_ v1, .int .u64 v2, .slice aa na ca] 67))
 have V0 := Za (Wv.new w 11 o a v0 v1 v2 (.slice aa na ca))
 obtain ⟨z, hz⟩ : ∃ z, ZY r ⟨11, o, a, (v0, v1, v2)⟩ = z := ⟨_, rfl⟩
 rw [hz]
 have HZ := Za hz
 clear hz
 clear HS H7 HR
 go_enter Tryz.func30, Tryz.ntmps30
 go_wp2_with fail
 go_ret
 exact Vb.mk (by rw [← HZ.out]; rfl) B0.out
theorem can_12 {w : World} {G : Nat -> Prop} {g : Nat} {S : List (List Wt)} {r : Rm} {p : List Addr} (h : Rn w G g S r) (h17 : E2 w p) (i : Nat) (x : Gr) (hx : r.gs[i]? = some x) (hk : x.w.k = 12) : Calls Tryz.prog 30 #[P_ g, I_ (i : Nat)] w (Vb w (.bool (ZY r x.w))) := by
 have HR := Za h
 obtain ⟨Fs, Fo, R, gs, vC, vB, vG, vE, ps, ts, h, hG⟩ := h
 obtain ⟨bG, cG, b, t, va, eG, _, _, _, _, _, hA, ⟨s1, s2, s3⟩, s4⟩ := h.see hx
 subst eG
 obtain ⟨aa, na, ca, rfl⟩ := hA.form
 clear hA
 have hi : i < r.gs.length := (G_ hx)
 have hn8 := h.n8
 obtain ⟨⟨c0, c1, c2, c3, c4⟩, c5, c6, c7, c8, c9⟩ := h.cells
 have hgl := h.fb g h.fg
 obtain ⟨rest, ⟨k, o, a, v0, v1, v2⟩⟩ := x
 simp only at s4
 have b1 := Zb s4 1 _ rfl
 have b2 := Zb s4 2 _ rfl
 have b3 := Zb s4 3 _ rfl
 have b4 := Zb s4 4 _ rfl
 have b5 := Zb s4 5 _ rfl
 have b6 := Zb s4 6 _ rfl
 have b7 := Zb s4 7 _ rfl
 obtain ⟨n, hn⟩ : ∃ n, n = r.gs.length := ⟨_, rfl⟩
 rw [← hn] at hi hn8 c3
 have HN := Za hn
 have hi1 : (i : Int) < (n : Int) := by omega
 have hi0 : (0 : Int) <= (i : Int) := by omega
 have hd0 : decide ((i : Int) < 0) = false := by simp
 have hd1 : decide ((n : Int) <= (i : Int)) = false := by simp; omega
 clear hn
 have HS := Za h.st
 have hsl := h.st.lt
 have H7 := Za h17
 clear h hG h17
 simp only at hk
 subst hk
 have B0 := Za (Zd w (.cells #[I_ 12, I_ o, I_ a, I_ v0, I_ v1, .int .u64 v2, .slice aa na ca] 67))
 have V0 := Za (Wv.new w 12 o a v0 v1 v2 (.slice aa na ca))
 obtain ⟨z, hz⟩ : ∃ z, ZY r ⟨12, o, a, (v0, v1, v2)⟩ = z := ⟨_, rfl⟩
 rw [hz]
 have HZ := Za hz
 clear hz
 clear HS H7 HR
 go_enter Tryz.func30, Tryz.ntmps30
 go_wp2_with fail
 go_ret
 exact Vb.mk (by rw [← HZ.out]; rfl) B0.out
theorem can_none {w : World} {G : Nat -> Prop} {g : Nat} {S : List (List Wt)} {r : Rm} {p : List Addr} (h : Rn w G g S r) (h17 : E2 w p) (i : Nat) (x : Gr) (hx : r.gs[i]? = some x) (hk : x.w.k < 1 ∨ 12 < x.w.k) : Calls Tryz.prog 30 #[P_ g, I_ (i : Nat)] w (Vb w (.bool (ZY r x.w))) := by
 have HR := Za h
 obtain ⟨Fs, Fo, R, gs, vC, vB, vG, vE, ps, ts, h, hG⟩ := h
 obtain ⟨bG, cG, b, t, va, eG, _, _, _, _, _, hA, ⟨s1, s2, s3⟩, s4⟩ := h.see hx
 subst eG
 obtain ⟨aa, na, ca, rfl⟩ := hA.form
 clear hA
 have hi : i < r.gs.length := (G_ hx)
 have hn8 := h.n8
 obtain ⟨⟨c0, c1, c2, c3, c4⟩, c5, c6, c7, c8, c9⟩ := h.cells
 have hgl := h.fb g h.fg
 obtain ⟨rest, ⟨k, o, a, v0, v1, v2⟩⟩ := x
 simp only at s4
 have b1 := Zb s4 1 _ rfl
 have b2 := Zb s4 2 _ rfl
 have b3 := Zb s4 3 _ rfl
 have b4 := Zb s4 4 _ rfl
 have b5 := Zb s4 5 _ rfl
 have b6 := Zb s4 6 _ rfl
 have b7 := Zb s4 7 _ rfl
 obtain ⟨n, hn⟩ : ∃ n, n = r.gs.length := ⟨_, rfl⟩
 rw [← hn] at hi hn8 c3
 have HN := Za hn
 have hi1 : (i : Int) < (n : Int) := by omega
 have hi0 : (0 : Int) <= (i : Int) := by omega
 have hd0 : decide ((i : Int) < 0) = false := by simp
 have hd1 : decide ((n : Int) <= (i : Int)) = false := by simp; omega
 clear hn
 have HS := Za h.st
 have hsl := h.st.lt
 have H7 := Za h17
 clear h hG h17
 have B0 := Za (Zd w (.cells #[I_ k, I_ o, I_ a, I_ v0, I_ v1, .int .u64 v2, .slice aa na ca] 67))
 have V0 := Za (Wv.new w k o a v0 v1 v2 (.slice aa na ca))
 simp only at hk
 obtain ⟨z, hz⟩ : ∃ z, ZY r ⟨k, o, a, (v0, v1, v2)⟩ = z := ⟨_, rfl⟩
 rw [hz]
 have HZ := Za hz
 clear hz
 have hk1 : (k == 1) = false := by simp; omega
 have hk2 : (k == 2) = false := by simp; omega
 have hk3 : (k == 3) = false := by simp; omega
 have hk4 : (k == 4) = false := by simp; omega
 have hk5 : (k == 5) = false := by simp; omega
 have hk6 : (k == 6) = false := by simp; omega
 have hk7 : (k == 7) = false := by simp; omega
 have hk8 : (k == 8) = false := by simp; omega
 have hk9 : (k == 9) = false := by simp; omega
 have hk10 : (k == 10) = false := by simp; omega
 have hk11 : (k == 11) = false := by simp; omega
 have hk12 : (k == 12) = false := by simp; omega
 have hz2 : z = false := by
  rw [← HZ.out]
  simp only [ZY, beq_eq_false_iff_ne] at *
  simp [*]
 have HZ2 := Za hz2
 clear hz2
 clear HS H7 HR HZ hk
 go_enter Tryz.func30, Tryz.ntmps30
 go_wp2_with fail
 go_ret
 exact Vb.mk (by rw [HZ2.out]; rfl) B0.out
theorem can_out {w : World} {G : Nat -> Prop} {g : Nat} {S : List (List Wt)} {r : Rm} (h : Rn w G g S r) (i : Int) (hi : i < 0 ∨ (r.gs.length : Int) <= i) : Calls Tryz.prog 30 #[P_ g, I_ i] w (Vb w (.bool false)) := by
 obtain ⟨Fs, Fo, R, gs, vC, vB, vG, vE, ps, ts, h, hG⟩ := h
 have c3 := h.cells.1.2.2.2.1
 obtain ⟨a, cG, e, _⟩ := Zl h.go
 subst e
 have hgl := h.fb g h.fg
 obtain ⟨n, hn⟩ : ∃ n, n = r.gs.length := ⟨_, rfl⟩
 rw [← hn] at c3 hi
 clear h hn hG
 by_cases h0 : i < 0
 · have hd0 : decide (i < 0) = true := by simp [h0]
   clear hi
   go_enter Tryz.func30, Tryz.ntmps30
   go_wp2_with fail
   go_ret
   exact Vb.mk rfl (Below.refl _ _)
 · have h1 : (n : Int) <= i := by omega
   have h2 : 0 <= i := by omega
   have hd0 : decide (i < 0) = false := by simp; omega
   have hd1 : decide ((n : Int) <= i) = true := by simp [h1]
   clear hi h0
   go_enter Tryz.func30, Tryz.ntmps30
   go_wp2_with fail
   go_ret
   exact Vb.mk rfl (Below.refl _ _)
theorem canRun_any {w : World} {G : Nat -> Prop} {g : Nat} {S : List (List Wt)} {r : Rm} {p : List Addr} (h : Rn w G g S r) (h17 : E2 w p) (i : Int) : Calls Tryz.prog 30 #[P_ g, I_ i] w (Vb w (.bool (can r i))) := by
 unfold can
 cases hl : lk r.gs i with
 | none => exact can_out h i (YJ hl)
 | some x =>
  obtain ⟨i, rfl, hx⟩ := ZD hl
  simp only
  by_cases h0 : x.w.k < 1 ∨ 12 < x.w.k
  · exact can_none h h17 i x hx h0
  have hk : x.w.k = 1 ∨ x.w.k = 2 ∨ x.w.k = 3 ∨ x.w.k = 4 ∨ x.w.k = 5 ∨ x.w.k = 6 ∨ x.w.k = 7 ∨ x.w.k = 8 ∨ x.w.k = 9 ∨ x.w.k = 10 ∨ x.w.k = 11 ∨ x.w.k = 12 := by omega
  rcases hk with hk | hk | hk | hk | hk | hk | hk | hk | hk | hk | hk | hk
  · exact can_1 h h17 i x hx hk
  · exact can_2 h h17 i x hx hk
  · exact can_3 h h17 i x hx hk
  · exact can_4 h h17 i x hx hk
  · exact can_5 h h17 i x hx hk
  · exact can_6 h h17 i x hx hk
  · exact can_7 h h17 i x hx hk
  · exact can_8 h h17 i x hx hk
  · exact can_9 h h17 i x hx hk
  · exact can_10 h h17 i x hx hk
  · exact can_11 h h17 i x hx hk
  · exact can_12 h h17 i x hx hk
end Go.Proofs.YtfojninaginnoaaGreatDoor.Ck
