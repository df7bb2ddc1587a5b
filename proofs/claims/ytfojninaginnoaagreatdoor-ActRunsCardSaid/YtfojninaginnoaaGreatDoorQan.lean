/- Texts of this proof, packed: contracts of the program's functions, and the plain model that they are held against. -/
import Derived.Test.YtfojninaginnoaaGreatDoorQam
set_option maxRecDepth 20000
set_option maxHeartbeats 4000000
namespace Go.Proofs.YtfojninaginnoaaGreatDoor.Ck
open Go.RowKit
structure Pq (w : World) (Fs Rs R : Nat -> Prop) (B gs gt : Nat) (s : St) (S : List (List Wt)) (vL : Value) (vs : List Value) : Prop where
 st : Rt w Fs Rs B gs s
 tt : w.heap[gt]? = some (.cells #[vL, .slice none 0 0, .slice none 0 0] 79 (0, 0))
 al : w.ownsRow 0 39 1 vL S.length vs
 row : ∀ (i : Nat) (l : List Wt) (v : Value), S[i]? = some l -> vs[i]? = some v -> w.ownsRow 0 76 6 v l.length (w6s l) /\ ∀ k, v.ownBlock = some k -> R k
 fL : ∀ k, vL.ownBlock = some k -> R k
 ft : ¬ Fs gt /\ ¬ Rs gt /\ ¬ R gt
 ro : ∀ k, R k -> ¬ Fs k
 rb : ∀ k, R k -> k < w.heap.size
 sz : S.length <= 2000 /\ ∀ l ∈ S, l.length <= 2000
theorem Pq.rq {w w' : World} {Fs Rs R : Nat -> Prop} {B gs gt g : Nat} {s : St} {S : List (List Wt)} {vL : Value} {vs : List Value} (h : Pq w Fs Rs R B gs gt s S vL vs) (hb : Below w.heap.size w w') (hg : w'.heap[g]? = some (.cells #[P_ gs, .slice none 0 0, .slice none 0 0, I_ 0, I_ 0, I_ 0, I_ 0, I_ 0, P_ gt] 45 (0, 0))) (hn : w.heap.size <= g) :
 Rq w' Fs Rs (fun k => k = g ∨ k = gt) R B g gs gt S ⟨s, [], [], zE, []⟩ (.slice none 0 0) (.slice none 0 0) vL (.slice none 0 0) (.slice none 0 0) vs [] [] where
 at_ := hg
 st := h.st.bel hb
 wa := Yl _ _ _
 ev := Yl _ _ _
 tt := (hb.block gt (Ze h.tt)).trans h.tt
 al := Zj h.al fun k hk => hb.block k (h.rb k (h.fL k hk))
 row := fun i l v hl hv => ⟨Zj (h.row i l v hl hv).1 fun k hk => hb.block k (h.rb k ((h.row i l v hl hv).2 k hk)), (h.row i l v hl hv).2⟩
 of := Yl _ _ _
 at' := Yl _ _ _
 pos := fun i x o a hx => by simp at hx
 ne := fun k hk => by cases hk
 fg := .inl rfl
 ft := .inr rfl
 fW := fun k hk => by cases hk
 fE := fun k hk => by cases hk
 fO := fun k hk => by cases hk
 fA := fun k hk => by cases hk
 fL := h.fL
 so := fun k hk => by
  rcases hk with rfl | rfl
  · exact ⟨fun e => by have := h.st.fb k e; omega, fun e => by have := h.st.rb k e; omega⟩
  · exact ⟨h.ft.1, h.ft.2.1⟩
 ro := fun k hk => ⟨h.ro k hk, fun e => by
  rcases e with rfl | rfl
  · have := h.rb k hk
    omega
  · exact h.ft.2.2 hk⟩
 fb := fun k hk => by
  rcases hk with rfl | rfl
  · exact Ze hg
  · exact Nat.lt_of_lt_of_le (Ze h.tt) hb.size
 rb := fun k hk => Nat.lt_of_lt_of_le (h.rb k hk) hb.size
 n8 := ⟨by simp, by simp⟩
 sz := h.sz
theorem Rq.newW {w : World} {Fs Rs Fo R : Nat -> Prop} {B g gs gt : Nat} {S : List (List Wt)} {r : Rz} {vW vE vL vO vA : Value} {vs : List Value} {os as_ : List Nat} (h : Rq w Fs Rs Fo R B g gs gt S r vW vE vL vO vA vs os as_) {w2 : World} {v' : Value} (ws : List Wt) (hw : w2.ownsRow 0 76 6 v' ws.length (w6s ws)) (hb : Below w.heap.size w w2) (hv : ∀ k, v'.ownBlock = some k -> w.heap.size <= k) (h8 : ws.length <= 8) :
 Rq (w2.setCell ⟨g, 1, none⟩ v') Fs Rs (fun k => Fo k ∨ v'.ownBlock = some k) R B g gs gt S { r with ws := ws } v' vE vL vO vA vs os as_ /\ Ch Fo (fun k => Fo k ∨ v'.ownBlock = some k) w (w2.setCell ⟨g, 1, none⟩ v') := by
 have h1 := h.bel hb
 have ho : ∀ k, k ≠ g -> (w2.setCell ⟨g, 1, none⟩ v').heap[k]? = w2.heap[k]? := fun k hk => Below.heap_setCell _ _ _ _ hk
 have hs : (w2.setCell ⟨g, 1, none⟩ v').heap.size = w2.heap.size := Zi _ _ _
 obtain ⟨p1, p2, hk⟩ := h1.part h1.fg (fun k hk _ => ho k hk) (Nat.le_of_eq hs.symm)
 obtain ⟨⟨n1, n2, n3, n4⟩, _, n5⟩ := h1.rowne
 have hgl := h.fb g h.fg
 refine ⟨{ h1 with
  at_ := heap_setCell_same _ _ 1 _ _ v' h1.at_
  st := p1
  wa := Zj hw fun k hk' => ho k (fun e => by have := hv k hk'; omega)
  ev := hk h1.ev n2
  tt := (ho gt (fun e => n5 e.symm)).trans h1.tt
  al := p2.1
  row := p2.2
  of := hk h1.of n3
  at' := hk h1.at' n4
  fg := .inl h.fg
  ft := .inl h.ft
  fW := fun k hk => .inr hk
  fE := fun k hk => .inl (h.fE k hk)
  fO := fun k hk => .inl (h.fO k hk)
  fA := fun k hk => .inl (h.fA k hk)
  so := fun k hk => ?_
  ro := fun k hk => ⟨(h.ro k hk).1, fun e => ?_⟩
  fb := fun k hk => ?_
  rb := fun k hk => by rw [hs]; exact h1.rb k hk
  n8 := ⟨h8, h.n8.2⟩ }, ⟨hb.os, hb.tape, hb.output, by rw [hs]; exact hb.size, fun k hk hF => (ho k (fun e => hF (by rw [e]; exact h.fg))).trans (hb.block k hk), fun k hk => hk.imp id (hv k)⟩⟩
 · rcases hk with q | q
   · exact h.so k q
   · have := hv k q
     exact ⟨fun e => by have := h.st.fb k e; omega, fun e => by have := h.st.rb k e; omega⟩
 · rcases e with q | q
   · exact (h.ro k hk).2 q
   · have := hv k q
     have := h.rb k hk
     omega
 · rw [hs]
   rcases hk with q | q
   · exact h1.fb k q
   · exact (Zf hw q).2.1
def startZ (S : List (List Wt)) (s : St) (fn : Int) : Rz := match lk S fn with
 | some l => Yz (Yo ⟨s, [zW], [], zE, [l]⟩ [0] 1)
 | none => ⟨s, [], [], ⟨3, 5, 0, 0, 0⟩, []⟩
def StartQ (w : World) (F : Nat -> Prop) (B : Nat) (S : List (List Wt)) (r : Rz) (e : Ending) (w' : World) : Prop := ∃ g G', e = .returned (P_ g) /\ Rr w' G' B g S r /\ Ch F G' w w'
theorem own_w0 (w : World) : (w.alloc (.cells #[I_ 0, I_ 0, I_ 0, I_ 0, I_ 0, .int .u64 0] 76)).ownsRow 0 76 6 (.slice (some ⟨w.heap.size, 0, none⟩) 1 1) 1 (w6s [zW]) :=
 ⟨rfl, .inr ⟨w.heap.size, 1, _, rfl, Nat.zero_le _, B_ _ _, Nat.le_refl _, by unfold maxLen; omega, rfl, rfl⟩⟩
theorem rStart_any {w : World} {Fs Rs R : Nat -> Prop} {B gs gt : Nat} {s : St} {S : List (List Wt)} {vL : Value} {vs : List Value} (h : Pq w Fs Rs R B gs gt s S vL vs) (hB : B <= 1000000) (fn : Int) : Calls Tryz.prog 23 #[P_ gs, P_ gt, I_ fn] w (StartQ w (fun k => Fs k ∨ Rs k ∨ k = gt ∨ R k) B S (startZ S s fn)) := by
  have AB := Za (Zd w (.cells #[P_ gs, .slice none 0 0, .slice none 0 0, I_ 0, I_ 0, I_ 0, I_ 0, I_ 0, P_ gt] 45))
  have hq := h.rq AB.out (B_ w (.cells #[P_ gs, .slice none 0 0, .slice none 0 0, I_ 0, I_ 0, I_ 0, I_ 0, I_ 0, P_ gt] 45)) (Nat.le_refl _)
  have C0 : Hid (Ch (fun k => Fs k ∨ Rs k ∨ k = gt ∨ R k) (fun k => Fs k ∨ Rs k ∨ (k = w.heap.size ∨ k = gt) ∨ R k) w (w.alloc (.cells #[P_ gs, .slice none 0 0, .slice none 0 0, I_ 0, I_ 0, I_ 0, I_ 0, I_ 0, P_ gt] 45))) := Za (Ch.wide (Ch.of_bel (F := fun _ => False) AB.out) (fun _ h => h.elim) (fun k hk => by
    rcases hk with q | q | (q | q) | q
    · exact .inl (.inl q)
    · exact .inl (.inr (.inl q))
    · exact .inr (by omega)
    · exact .inl (.inr (.inr (.inl q)))
    · exact .inl (.inr (.inr (.inr q)))))
  obtain ⟨g, hg⟩ : ∃ g, g = w.heap.size := ⟨_, rfl⟩
  rw [← hg] at hq C0
  cases hl : lk S fn with
  | none =>
    have BN := Za (begin_no hq fn hl)
    have FA := Za (rFault_any hq.rr 0 5 0 0)
    have hst : Hid (startZ S s fn = ⟨s, [], [], ⟨3, 5, 0, 0, 0⟩, []⟩) := Za (by unfold startZ; rw [hl])
    unfold h3V at FA
    simp only at FA
    clear h hq hl
    go_enter Tryz.func23, Tryz.ntmps23
    go_wp2_with fail
    generalize w.alloc _ = w1 at *
    rw [← hg]
    clear hg AB
    refine BN.out.mono ?_
    rintro e w2 ⟨rfl, rfl⟩
    go_wp2_with fail
    refine FA.out.mono ?_
    rintro e w3 ⟨rfl, G', rn, ch⟩
    have Z := Za (And.intro rn ch)
    clear rn ch
    go_wp2_with fail
    go_ret
    exact ⟨g, G', rfl, by rw [hst.out]; exact Z.out.1, C0.out.trans Z.out.2⟩
  | some l =>
    obtain ⟨k, rfl, hk⟩ := ZD hl
    have BO := Za (begin_ok hq (fun _ => Iff.rfl) k l hk (by simp))
    have hst : Hid (startZ S s (k : Nat) = Yz (Yo ⟨s, [zW], [], zE, [l]⟩ [0] 1)) := Za (by unfold startZ; rw [hl])
    clear h hq hl hk
    go_enter Tryz.func23, Tryz.ntmps23
    go_wp2_with fail
    generalize w.alloc _ = w1 at *
    rw [← hg]
    clear hg AB
    refine BO.out.mono ?_
    rintro e w2 ⟨rfl, G2, rn, ch⟩
    have C2 := Za (C0.out.trans ch)
    clear ch C0 BO
    obtain ⟨Fs2, Rs2, Fo2, R2, gs2, gt2, vW, vE, vL2, vO, vA, vs2, os, as_, q2, hG2⟩ := rn
    have BA := Za (Zd w2 (.cells #[I_ 0, I_ 0, I_ 0, I_ 0, I_ 0, .int .u64 0] 76))
    have NW := q2.newW [zW] (own_w0 w2) BA.out (fun k hk => by cases hk; exact Nat.le_refl _) (by simp)
    have c1 := Zb (q2.bel BA.out).at_ 1 _ rfl
    have f1 := Zc (q2.bel BA.out).at_ 1
    have HW := Za (And.intro NW.1.rr (C2.out.trans (NW.2.wide (G' := fun k => Fs2 k ∨ Rs2 k ∨ (Fo2 k ∨ (Value.slice (some ⟨w2.heap.size, 0, none⟩) 1 1).ownBlock = some k) ∨ R2 k) (fun k hk => (hG2 k).2 (.inr (.inr (.inl hk)))) (fun k hk => by
      rcases hk with q | q | q | q
      · exact .inl ((hG2 k).2 (.inl q))
      · exact .inl ((hG2 k).2 (.inr (.inl q)))
      · exact (NW.2.grow k q).imp (fun q => (hG2 k).2 (.inr (.inr (.inl q)))) id
      · exact .inl ((hG2 k).2 (.inr (.inr (.inr q))))))))
    clear NW q2 hG2 C2
    go_upto_region 6 with fail
    generalize (w2.alloc _).setCell ⟨g, 1, none⟩ (.slice (some ⟨w2.heap.size, 0, none⟩) 1 1) = w3 at *
    obtain ⟨h3, c3⟩ := HW.out
    generalize (fun k => Fs2 k ∨ Rs2 k ∨ (Fo2 k ∨ (Value.slice (some ⟨w2.heap.size, 0, none⟩) 1 1).ownBlock = some k) ∨ R2 k) = G3 at *
    have KN := Kb.new h3 #[I_ 0, I_ 0, I_ 0, .int .u64 0] 130
    have AK := Za (rask_any (v := .slice (some ⟨w3.heap.size, 0, none⟩) 1 1) (lx := [(0, 0, 0, 0)]) (h3.bel (Zd w3 (.cells #[I_ 0, I_ 0, I_ 0, .int .u64 0] 130))) hB ⟨some ⟨w3.heap.size, 0, none⟩, 1, rfl, by simp, fun j x hx => by
      cases j with
      | zero =>
        simp at hx
        subst hx
        exact ⟨_, _, rfl, KN, Zb KN.1 0 _ rfl, Zb KN.1 1 _ rfl, Zb KN.1 2 _ rfl, Zb KN.1 3 _ rfl⟩
      | succ j => simp at hx⟩ (fun x hx => by simp at hx; subst hx; simp))
    have C3 := Za (c3.trans (Ch.of_bel (Zd w3 (.cells #[I_ 0, I_ 0, I_ 0, .int .u64 0] 130))))
    clear h3 c3 KN HW c1 f1 BA
    go_wp2_with fail
    refine AK.out.mono ?_
    rintro e w4 ⟨rfl, G4, rn, ch⟩
    have Z := Za (And.intro rn ch)
    clear rn ch AK
    go_wp2_with fail
    go_ret
    exact ⟨g, G4, rfl, by rw [hst.out]; exact Z.out.1, C3.out.trans Z.out.2⟩
section
variable {w : World} {G Fs Rs Fo R : Nat → Prop} {B g gs gt : Nat} {S : List (List Wt)} {r : Rz} {vW vE vL vO vA : Value} {vs : List Value} {os as_ : List Nat}
theorem Rq.noted (h : Rq w Fs Rs Fo R B g gs gt S r vW vE vL vO vA vs os as_) {w2 : World} {v' : Value} (x : Evt) (ho : w2.ownsRow 0 132 4 v' (r.ev ++ [x]).length (ecs (r.ev ++ [x]))) (hg : w.grownBy w2 vE.ownBlock) (hb : ∀ k, v'.ownBlock = some k -> vE.ownBlock = some k ∨ w.heap.size <= k) :
 Rq (w2.setCell ⟨g, 2, none⟩ v') Fs Rs (fun k => Fo k ∨ v'.ownBlock = some k) R B g gs gt S { r with ev := r.ev ++ [x] } vW v' vL vO vA vs os as_ /\ Ch Fo (fun k => Fo k ∨ v'.ownBlock = some k) w (w2.setCell ⟨g, 2, none⟩ v') := by
 have hsz : (w2.setCell ⟨g, 2, none⟩ v').heap.size = w2.heap.size := Zi _ _ _
 have hne : ∀ {k : Nat}, k < w.heap.size -> vE.ownBlock ≠ some k -> k ≠ g -> (w2.setCell ⟨g, 2, none⟩ v').heap[k]? = w.heap[k]? := fun {k} hk h1 h2 => (Below.heap_setCell _ _ _ _ h2).trans (hg.block k hk (fun e => h1 e.symm))
 obtain ⟨⟨n1, n2, n3, n4⟩, ⟨n6, n7, n8, n9⟩, n5⟩ := h.rowne
 have gne : vE.ownBlock ≠ some g := n2
 have tne : vE.ownBlock ≠ some gt := n7
 have fX : ∀ k, vE.ownBlock = some k -> Fo k := h.fE
 have hown : ∀ {T : TypeId} {n : Nat} {v : Value} {len : Nat} {xs : List Value}, w.ownsRow 0 T n v len xs -> T ≠ 132 -> T ≠ 45 -> (w2.setCell ⟨g, 2, none⟩ v').ownsRow 0 T n v len xs := fun {T n v len xs} hr h1 h2 => Zj hr fun k hk => hne (Zf hr hk).2.1 (fun e => Zo hr h.ev h1 k hk e) (fun e => Zv hr h.at_ h2 (by rw [hk, e]))
 have hR : ∀ k, R k -> (w2.setCell ⟨g, 2, none⟩ v').heap[k]? = w.heap[k]? := fun k hk => hne (h.rb k hk) (fun e => (h.ro k hk).2 (fX k e)) (fun e => (h.ro k hk).2 (by rw [e]; exact h.fg))
 have hS : ∀ k, Fs k ∨ Rs k -> (w2.setCell ⟨g, 2, none⟩ v').heap[k]? = w.heap[k]? := fun k hk => hne (hk.elim (h.st.fb k) (h.st.rb k)) (fun e => hk.elim (fun q => (h.so k (fX k e)).1 q) (fun q => (h.so k (fX k e)).2 q)) (fun e => hk.elim (fun q => (h.so g h.fg).1 (by rw [← e]; exact q)) (fun q => (h.so g h.fg).2 (by rw [← e]; exact q)))
 have hle : w.heap.size <= (w2.setCell ⟨g, 2, none⟩ v').heap.size := by rw [hsz]; exact hg.size
 have hnew : ∀ k, v'.ownBlock = some k -> Fo k ∨ w.heap.size <= k := fun k hk => (hb k hk).imp (fX k) id
 have hnv : ∀ k, v'.ownBlock = some k -> k ≠ g := fun k hk e => by
  subst e
  rcases hb k hk with h1 | h1
  · exact gne h1
  · have := h.fb k h.fg
    omega
 refine ⟨{ h with
  at_ := heap_setCell_same _ _ _ _ _ _ ((hg.block g (Ze h.at_) (fun e => gne e.symm)).trans h.at_)
  st := h.st.keep hS hle
  wa := hown h.wa (by decide) (by decide)
  ev := Zj ho fun k hk => Below.heap_setCell _ _ _ _ (hnv k hk)
  tt := (hne (Ze h.tt) tne (fun e => n5 e.symm)).trans h.tt
  al := Zj h.al fun k hk => hR k (h.fL k hk)
  row := fun i l v hl hv => ⟨Zj (h.row i l v hl hv).1 fun k hk => hR k ((h.row i l v hl hv).2 k hk), (h.row i l v hl hv).2⟩
  of := hown h.of (by decide) (by decide)
  at' := hown h.at' (by decide) (by decide)
  fg := .inl h.fg
  ft := .inl h.ft
  fW := fun k hk => .inl (h.fW k hk)
  fE := fun k hk => .inr hk
  fO := fun k hk => .inl (h.fO k hk)
  fA := fun k hk => .inl (h.fA k hk)
  so := fun k hk => by
   rcases hk with h1 | h1
   · exact h.so k h1
   · rcases hnew k h1 with h2 | h2
     · exact h.so k h2
     · exact ⟨fun e => by have := h.st.fb k e; omega, fun e => by have := h.st.rb k e; omega⟩
  ro := fun k hk => ⟨(h.ro k hk).1, fun e => by
   rcases e with h1 | h1
   · exact (h.ro k hk).2 h1
   · rcases hnew k h1 with h2 | h2
     · exact (h.ro k hk).2 h2
     · have := h.rb k hk
       omega⟩
  fb := fun k hk => by
   rw [hsz]
   rcases hk with h1 | h1
   · exact Nat.lt_of_lt_of_le (h.fb k h1) hg.size
   · exact (Zf ho h1).2.1
  rb := fun k hk => Nat.lt_of_lt_of_le (h.rb k hk) hle }, ⟨hg.os, hg.tape, hg.output, hle, fun k hk hF => hne hk (fun e => hF (fX k e)) (fun e => hF (by rw [e]; exact h.fg)), fun k hk => ?_⟩⟩
 rcases hk with h1 | h1
 · exact .inl h1
 · exact hnew k h1
theorem Rq.grown (h : Rq w Fs Rs Fo R B g gs gt S r vW vE vL vO vA vs os as_) {w2 : World} {v' : Value} (x : Wt) (ho : w2.ownsRow 0 76 6 v' (r.ws ++ [x]).length (w6s (r.ws ++ [x]))) (hg : w.grownBy w2 vW.ownBlock) (hb : ∀ k, v'.ownBlock = some k -> vW.ownBlock = some k ∨ w.heap.size <= k) (h8 : r.ws.length + 1 <= 8) :
 Rq (w2.setCell ⟨g, 1, none⟩ v') Fs Rs (fun k => Fo k ∨ v'.ownBlock = some k) R B g gs gt S { r with ws := r.ws ++ [x] } v' vE vL vO vA vs os as_ /\ Ch Fo (fun k => Fo k ∨ v'.ownBlock = some k) w (w2.setCell ⟨g, 1, none⟩ v') := by
 have hsz : (w2.setCell ⟨g, 1, none⟩ v').heap.size = w2.heap.size := Zi _ _ _
 have hne : ∀ {k : Nat}, k < w.heap.size -> vW.ownBlock ≠ some k -> k ≠ g -> (w2.setCell ⟨g, 1, none⟩ v').heap[k]? = w.heap[k]? := fun {k} hk h1 h2 => (Below.heap_setCell _ _ _ _ h2).trans (hg.block k hk (fun e => h1 e.symm))
 obtain ⟨⟨n1, n2, n3, n4⟩, ⟨n6, n7, n8, n9⟩, n5⟩ := h.rowne
 have gne : vW.ownBlock ≠ some g := n1
 have tne : vW.ownBlock ≠ some gt := n6
 have fX : ∀ k, vW.ownBlock = some k -> Fo k := h.fW
 have hown : ∀ {T : TypeId} {n : Nat} {v : Value} {len : Nat} {xs : List Value}, w.ownsRow 0 T n v len xs -> T ≠ 76 -> T ≠ 45 -> (w2.setCell ⟨g, 1, none⟩ v').ownsRow 0 T n v len xs := fun {T n v len xs} hr h1 h2 => Zj hr fun k hk => hne (Zf hr hk).2.1 (fun e => Zo hr h.wa h1 k hk e) (fun e => Zv hr h.at_ h2 (by rw [hk, e]))
 have hR : ∀ k, R k -> (w2.setCell ⟨g, 1, none⟩ v').heap[k]? = w.heap[k]? := fun k hk => hne (h.rb k hk) (fun e => (h.ro k hk).2 (fX k e)) (fun e => (h.ro k hk).2 (by rw [e]; exact h.fg))
 have hS : ∀ k, Fs k ∨ Rs k -> (w2.setCell ⟨g, 1, none⟩ v').heap[k]? = w.heap[k]? := fun k hk => hne (hk.elim (h.st.fb k) (h.st.rb k)) (fun e => hk.elim (fun q => (h.so k (fX k e)).1 q) (fun q => (h.so k (fX k e)).2 q)) (fun e => hk.elim (fun q => (h.so g h.fg).1 (by rw [← e]; exact q)) (fun q => (h.so g h.fg).2 (by rw [← e]; exact q)))
 have hle : w.heap.size <= (w2.setCell ⟨g, 1, none⟩ v').heap.size := by rw [hsz]; exact hg.size
 have hnew : ∀ k, v'.ownBlock = some k -> Fo k ∨ w.heap.size <= k := fun k hk => (hb k hk).imp (fX k) id
 have hnv : ∀ k, v'.ownBlock = some k -> k ≠ g := fun k hk e => by
  subst e
  rcases hb k hk with h1 | h1
  · exact gne h1
  · have := h.fb k h.fg
    omega
 refine ⟨{ h with
  at_ := heap_setCell_same _ _ _ _ _ _ ((hg.block g (Ze h.at_) (fun e => gne e.symm)).trans h.at_)
  st := h.st.keep hS hle
  wa := Zj ho fun k hk => Below.heap_setCell _ _ _ _ (hnv k hk)
  ev := hown h.ev (by decide) (by decide)
  tt := (hne (Ze h.tt) tne (fun e => n5 e.symm)).trans h.tt
  al := Zj h.al fun k hk => hR k (h.fL k hk)
  row := fun i l v hl hv => ⟨Zj (h.row i l v hl hv).1 fun k hk => hR k ((h.row i l v hl hv).2 k hk), (h.row i l v hl hv).2⟩
  of := hown h.of (by decide) (by decide)
  at' := hown h.at' (by decide) (by decide)
  fg := .inl h.fg
  ft := .inl h.ft
  fW := fun k hk => .inr hk
  fE := fun k hk => .inl (h.fE k hk)
  fO := fun k hk => .inl (h.fO k hk)
  fA := fun k hk => .inl (h.fA k hk)
  so := fun k hk => by
   rcases hk with h1 | h1
   · exact h.so k h1
   · rcases hnew k h1 with h2 | h2
     · exact h.so k h2
     · exact ⟨fun e => by have := h.st.fb k e; omega, fun e => by have := h.st.rb k e; omega⟩
  ro := fun k hk => ⟨(h.ro k hk).1, fun e => by
   rcases e with h1 | h1
   · exact (h.ro k hk).2 h1
   · rcases hnew k h1 with h2 | h2
     · exact (h.ro k hk).2 h2
     · have := h.rb k hk
       omega⟩
  fb := fun k hk => by
   rw [hsz]
   rcases hk with h1 | h1
   · exact Nat.lt_of_lt_of_le (h.fb k h1) hg.size
   · exact (Zf ho h1).2.1
  rb := fun k hk => Nat.lt_of_lt_of_le (h.rb k hk) hle
  n8 := ⟨by simpa using h8, h.n8.2⟩ }, ⟨hg.os, hg.tape, hg.output, hle, fun k hk hF => hne hk (fun e => hF (fX k e)) (fun e => hF (by rw [e]; exact h.fg)), fun k hk => ?_⟩⟩
 rcases hk with h1 | h1
 · exact .inl h1
 · exact hnew k h1
theorem Rq.pushE (h : Rq w Fs Rs Fo R B g gs gt S r vW vE vL vO vA vs os as_) (hl : r.ev.length <= 100000) (e : Evt) (ty : TypeId) :
 ∃ v' w', (Builtin.append_ #[40, 40] ty #[vE, .slice (some ⟨w.heap.size, 0, none⟩) 1 1]).run Tryz.prog (w.alloc (.cells #[I_ e.g, I_ e.k, I_ e.o, I_ e.a] 132)) = .ok v' w' ∧
  ((∃ a l c, v' = .slice a l c) /\ w'.frozen? ⟨g, 2, none⟩ = false /\ w'.cell? ⟨g, 2, none⟩ = some vE /\ ∃ Fo', Rq (w'.setCell ⟨g, 2, none⟩ v') Fs Rs Fo' R B g gs gt S { r with ev := r.ev ++ [e] } vW v' vL vO vA vs os as_ /\ Ch Fo Fo' w (w'.setCell ⟨g, 2, none⟩ v')) := by
 obtain ⟨v', w', hr, ho, hg, hf⟩ := push_e rfl h.ev hl e ty
 have hgb : w'.heap[g]? = w.heap[g]? := hg.block g (Ze h.at_) (fun e => Zv h.ev h.at_ (by decide) e.symm)
 obtain ⟨a, c, e', _⟩ := Zl ho
 have hn := h.noted e (by rw [List.length_append]; exact ho) hg hf
 exact ⟨v', w', hr, ⟨_, _, _, e'⟩, Zc (hgb.trans h.at_) _, Zb (hgb.trans h.at_) 2 _ rfl, _, hn.1, hn.2⟩
theorem info_w6 : (Tryz.prog.info? 76).map (fun i => (i.zero, i.size, i.bytes)) = some (some (.agg #[I_ 0, I_ 0, I_ 0, I_ 0, I_ 0, .int .u64 0]), 6, 48) := by kernel_rfl
theorem Rq.pushW (h : Rq w Fs Rs Fo R B g gs gt S r vW vE vL vO vA vs os as_) (h8 : r.ws.length + 1 <= 8) (ty : TypeId) :
 ∃ v' w', (Builtin.append_ #[39, 39] ty #[vW, .slice (some ⟨w.heap.size, 0, none⟩) 1 1]).run Tryz.prog (w.alloc (.cells #[I_ 0, I_ 0, I_ 0, I_ 0, I_ 0, .int .u64 0] 76)) = .ok v' w' ∧
  ((∃ a l c, v' = .slice a l c) /\ w'.frozen? ⟨g, 1, none⟩ = false /\ w'.cell? ⟨g, 1, none⟩ = some vW /\ ∃ Fo', Rq (w'.setCell ⟨g, 1, none⟩ v') Fs Rs Fo' R B g gs gt S { r with ws := r.ws ++ [zW] } v' vE vL vO vA vs os as_ /\ Ch Fo Fo' w (w'.setCell ⟨g, 1, none⟩ v')) := by
 obtain ⟨ie, hi, hz0, hz1, hz2⟩ := info_parts info_w6
 have hb := Zd w (.cells #[I_ 0, I_ 0, I_ 0, I_ 0, I_ 0, .int .u64 0] 76)
 have o1 := Zj h.wa (fun k hk => hb.block k (Zf h.wa hk).2.1)
 have hc : ∀ (j : Nat) (u : Value), (w6s [zW])[j]? = some u -> (w.alloc (.cells #[I_ 0, I_ 0, I_ 0, I_ 0, I_ 0, .int .u64 0] 76)).cell? ((⟨w.heap.size, 0, none⟩ : Addr).add j) = some u := fun j u hu => by
  rw [show (⟨w.heap.size, 0, none⟩ : Addr).add j = ⟨w.heap.size, j, none⟩ by unfold Addr.add; by_cases h : j = 0 <;> simp [h]]
  exact Zb (B_ w _) j u (by simpa [w6s, zW, z3] using hu)
 obtain ⟨v', w', hr, ho, hg, _, hat⟩ := run_append_own_at (P := Tryz.prog) (w.alloc (.cells #[I_ 0, I_ 0, I_ 0, I_ 0, I_ 0, .int .u64 0] 76)) 0 39 ty 76 ie _ 6 48 Tryz.underlying39 hi hz0 hz1 hz2 rfl (by decide) vW r.ws.length (w6s r.ws) o1 ⟨w.heap.size, 0, none⟩ 1 1 (w6s [zW]) rfl hc (fun u hu => w6s_one _ u hu) (by unfold maxLen; omega) (by omega) (Nat.zero_le _)
 have hg2 : w.grownBy w' vW.ownBlock := ⟨hg.os, hg.tape, hg.output, Nat.le_trans hb.size hg.size, fun k hk hne => (hg.block k (Nat.lt_of_lt_of_le hk hb.size) hne).trans (hb.block k hk)⟩
 have hf : ∀ k, v'.ownBlock = some k -> vW.ownBlock = some k ∨ w.heap.size <= k := fun k hk => by
  rcases hat with e | e
  · exact .inl (e.symm.trans hk)
  · rw [e] at hk
    right
    have := Option.some.inj hk
    simp at this
    omega
 have hgb : w'.heap[g]? = w.heap[g]? := hg2.block g (Ze h.at_) (fun e => Zv h.wa h.at_ (by decide) e.symm)
 obtain ⟨a, c, e', _⟩ := Zl ho
 have hn := h.grown zW (by rw [List.length_append, w6s_app]; exact ho) hg2 hf h8
 exact ⟨v', w', hr, ⟨_, _, _, e'⟩, Zc (hgb.trans h.at_) _, Zb (hgb.trans h.at_) 1 _ rfl, _, hn.1, hn.2⟩
end
theorem rr_new {w wa w' : World} {G Fs Rs Fo Fo' R : Nat -> Prop} {B g gs gt : Nat} {S : List (List Wt)} {r' : Rz} {vW vE vL vO vA : Value} {vs : List Value} {os as_ : List Nat} (hb : Below w.heap.size w wa) (hG : ∀ k, G k ↔ Fs k ∨ Rs k ∨ Fo k ∨ R k) (h : Rq w' Fs Rs Fo' R B g gs gt S r' vW vE vL vO vA vs os as_) (c : Ch Fo Fo' wa w') : Rr w' (fun k => Fs k ∨ Rs k ∨ Fo' k ∨ R k) B g S r' /\ Ch G (fun k => Fs k ∨ Rs k ∨ Fo' k ∨ R k) w w' := by
 refine ⟨h.rr, (Ch.of_bel hb).trans ⟨c.os, c.tape, c.output, c.size, fun k hk hn => c.blk k hk (fun e => hn ((hG k).2 (.inr (.inr (.inl e))))), fun k hk => ?_⟩⟩
 rcases hk with q | q | q | q
 · exact .inl ((hG k).2 (.inl q))
 · exact .inl ((hG k).2 (.inr (.inl q)))
 · exact (c.grow k q).imp (fun e => (hG k).2 (.inr (.inr (.inl e)))) id
 · exact .inl ((hG k).2 (.inr (.inr (.inr q))))
theorem Yc {w : World} {G : Nat -> Prop} {B g : Nat} {S : List (List Wt)} {r : Rz} (h : Rr w G B g S r) (i : Nat) (x : Wt) (ob : Int) (hl : r.ev.length <= 100000) : Calls Tryz.prog 80 #[P_ g, I_ (i : Nat), w6V x, I_ ob] w (RrP w G B g S { r with ev := r.ev ++ [⟨i, x.k, ob, x.a⟩] } (.tuple #[])) := by
 obtain ⟨k, o, a, v0, v1, v2⟩ := x
 unfold w6V
 simp only
 obtain ⟨Fs, Rs, Fo, R, gs, gt, vW, vE, vL, vO, vA, vs, os, as_, h, hG⟩ := h
 obtain ⟨aE, cE, eE, _⟩ := Zl h.ev
 subst eE
 have nb := Zd w (.cells #[I_ k, I_ o, I_ a, I_ v0, I_ v1, .int .u64 v2] 76)
 have BX := Za (B_ w (.cells #[I_ k, I_ o, I_ a, I_ v0, I_ v1, .int .u64 v2] 76))
 have H1 := Za (h.bel nb)
 have HD := Za (H1.out.bel (w' := (w.alloc (.cells #[I_ k, I_ o, I_ a, I_ v0, I_ v1, .int .u64 v2] 76)).drew) (below_drewN (Below.refl _ _) 1))
 have BD := Za (Zp nb)
 have HL := Za hl
 have HG := Za hG
 have HGL : Hid (g < (w.alloc (.cells #[I_ k, I_ o, I_ a, I_ v0, I_ v1, .int .u64 v2] 76)).drew.heap.size) := Za (HD.out.fb g HD.out.fg)
 have HBL : Hid (w.heap.size < (w.alloc (.cells #[I_ k, I_ o, I_ a, I_ v0, I_ v1, .int .u64 v2] 76)).drew.heap.size) := Za (Ze BX.out)
 have NG : Hid (w.heap.size ≠ g) := Za (by have := h.fb g h.fg; omega)
 have NF : Hid (¬ Fo w.heap.size) := Za (fun e => by have := h.fb _ e; omega)
 have S0 : Hid ((fun wz => wz.cell? ⟨g, 2, none⟩ = some (.slice aE r.ev.length cE) /\ wz.cell? ⟨w.heap.size, 0, none⟩ = some (I_ k) /\ wz.cell? ⟨w.heap.size, 2, none⟩ = some (I_ a)) (w.alloc (.cells #[I_ k, I_ o, I_ a, I_ v0, I_ v1, .int .u64 v2] 76)).drew) := Za ⟨HD.out.cells.1.2.2.1, Zb BX.out 0 _ rfl, Zb BX.out 2 _ rfl⟩
 have PU := Za (fun ty => HD.out.pushE HL.out ⟨i, k, ob, a⟩ ty)
 simp only at PU
 clear h hG nb BX H1 hl
 go_enter Tryz.func80, Tryz.ntmps80
 go_upto_region 1 with fail
 refine ZE (S := fun wz => wz.cell? ⟨g, 2, none⟩ = some (.slice aE r.ev.length cE) /\ wz.cell? ⟨w.heap.size, 0, none⟩ = some (I_ k) /\ wz.cell? ⟨w.heap.size, 2, none⟩ = some (I_ a)) (fun j => decide (j < 16)) ZK S0.out (fun hH => ?_)
 clear S0
 generalize World.drew _ = wd at *
 refine M_ 0 ?_
 simp only [Act.put, S_]
 refine M_ 1 ?_
 simp only [Act.put, S_]
 refine M_ 2 ?_
 simp only [Act.put, S_]
 refine M_ 3 ?_
 simp only [Act.put, S_]
 refine L_ 4 (v := ?_) ?_ hH ?_
 rotate_left 1
 · (intro w hSw; have q := hSw.1; clear hSw; go_simp <;> with_reducible rfl)
 simp only [Act.put, S_]
 refine M_ 5 ?_
 simp only [Act.put, S_]
 refine M_ 6 ?_
 simp only [Act.put, S_]
 refine L_ 7 (v := ?_) ?_ hH ?_
 rotate_left 1
 · (intro w hSw; have q := hSw.2.1; clear hSw; go_simp <;> with_reducible rfl)
 simp only [Act.put, S_]
 refine M_ 8 ?_
 simp only [Act.put, S_]
 refine M_ 9 ?_
 simp only [Act.put, S_]
 refine L_ 10 (v := ?_) ?_ hH ?_
 rotate_left 1
 · (intro w hSw; have q := hSw.2.2; clear hSw; go_simp <;> with_reducible rfl)
 simp only [Act.put, S_]
 refine M_ 11 ?_
 simp only [Act.put, S_]
 refine RT_ 12 (fun K1 hK1 => ?_)
 go_simp
 refine hK1.out _ _ (fun _ => ⟨((Zd _ _).cell (p := ⟨g, 2, none⟩) HGL.out).trans hH.1, ((Zd _ _).cell (p := ⟨w.heap.size, 0, none⟩) HBL.out).trans hH.2.1, ((Zd _ _).cell (p := ⟨w.heap.size, 2, none⟩) HBL.out).trans hH.2.2⟩) (fun _ => ?_)
 clear hK1 K1
 refine RT_ 13 (fun K1 hK1 => ?_)
 refine Zr (TS := 40) (.tmp 12) (.tmp 20) _ _ _ (fun ty => PU.out ty) rfl rfl rfl rfl ?_
 rintro v9 w9 ⟨⟨a9, l9, c9, rfl⟩, z9, y9, Fo9, q9, ch9⟩
 have hb9 : w9.heap[w.heap.size]? = wd.heap[w.heap.size]? := (Below.heap_setCell _ _ _ _ NG.out).symm.trans (ch9.blk _ HBL.out NF.out)
 refine hK1.out _ _ (fun _ => ⟨y9, (World.cell?_of_block (a := ⟨w.heap.size, 0, none⟩) hb9).trans hH.2.1, (World.cell?_of_block (a := ⟨w.heap.size, 2, none⟩) hb9).trans hH.2.2⟩) (fun _ => ?_)
 have Q9 := Za q9
 have C9 := Za ch9
 clear hK1 K1 PU q9 ch9 hH hb9
 refine M_ 14 ?_
 simp only [Act.put, S_]
 refine M_ 15 ?_
 simp only [Act.put, S_]
 refine RT_ 16 (fun K1 hK1 => ?_)
 go_simp
 refine hK1.out _ _ (fun h => absurd h (by decide)) (fun _ => ?_)
 clear hK1 K1 z9 y9
 refine ZX (by kernel_rfl) ?_ _
 go_wp2_with fail
 go_end0
 have RW := rr_new (BD.out) HG.out Q9.out C9.out
 exact ⟨rfl, _, RW.1, RW.2⟩
structure Pre (w : World) (Fs R : Nat -> Prop) (gs : Nat) (s : St) (vB : Value) (S : List (List Wt)) : Prop where
 st : Stt w Fs gs s
 ty : ∀ q ∈ s.C, 1 <= q.t /\ q.t <= 3
 bg : Beg w R vB S
 rs : ∀ k, R k -> ¬ Fs k
 rb : ∀ k, R k -> k < w.heap.size
theorem Pre.bel {w w' : World} {Fs R : Nat -> Prop} {gs : Nat} {s : St} {vB : Value} {S : List (List Wt)} (h : Pre w Fs R gs s vB S) (hb : Below w.heap.size w w') : Pre w' Fs R gs s vB S :=
 ⟨h.st.bel hb, h.ty, h.bg.keep (fun k hk => hb.block k (h.rb k hk)) (fun _ h => h), h.rs, fun k hk => Nat.lt_of_lt_of_le (h.rb k hk) hb.size⟩
theorem ru_new {w : World} {Fs R : Nat -> Prop} {gs : Nat} {s : St} {vB vC : Value} {S : List (List Wt)} (h : Pre w Fs R gs s vB S) (g : Nat) {w' : World} (hb : Below w.heap.size w w') (hg : w'.heap[g]? = some (.cells #[P_ gs, vC, vB, .slice none 0 0, .slice none 0 0, I_ 0, I_ 0, I_ 0, I_ 0, I_ 0] 117 (0, 0))) (hgn : w.heap.size <= g)
    (hC : w'.ownsRow w.heap.size 3 1 vC s.C.length (nts (s.C.map Qu.t))) : Ru w' Fs (fun k => k = g ∨ vC.ownBlock = some k) R g gs S ⟨s, [], [], zE⟩ vC vB (.slice none 0 0) (.slice none 0 0) [] [] := by
  have h' := h.bel hb
  exact { at_ := hg, st := h'.st, ch := Yf hC, bg := h'.bg, go := Yl _ _ _, ev := Yl _ _ _, tl := rfl, gr := fun i x b t hx => (by simp at hx), np := List.nodup_nil, nt := List.nodup_nil, fg := .inl rfl, fC := fun k hk => .inr hk, fG := fun k hk => (by cases hk), fE := fun k hk => (by cases hk)
          so := fun k hk hF => (by
            have h1 := h.st.fb k hk
            rcases hF with rfl | hF
            · omega
            · have := (Zf hC hF).1
              omega)
          rs := h.rs
          ro := fun k hk hF => (by
            have h1 := h.rb k hk
            rcases hF with rfl | hF
            · omega
            · have := (Zf hC hF).1
              omega)
          fb := fun k hk => (by
            rcases hk with rfl | hk
            · exact Ze hg
            · exact (Zf hC hk).2.1)
          rb := h'.rb, n8 := (by simp) }
theorem start_ch {w w1 w2 : World} {Fs Fo R G : Nat -> Prop} {g gs : Nat} {S : List (List Wt)} {r : Rm} {vC vB vG vE : Value} {ps ts : List Nat} (_h : Ru w1 Fs Fo R g gs S r vC vB vG vE ps ts) (hb : Below w.heap.size w w1) (c : Ch (fun k => Fs k ∨ Fo k ∨ R k) G w1 w2) (hF : ∀ k, Fo k -> w.heap.size <= k) : Ch (fun k => Fs k ∨ R k) G w w2 :=
  ⟨c.os.trans hb.os, c.tape.trans hb.tape, c.output.trans hb.output, Nat.le_trans hb.size c.size, fun k hk hn => (c.blk k (Nat.lt_of_lt_of_le hk hb.size) (fun hG => by
    rcases hG with h1 | h1 | h1
    · exact hn (.inl h1)
    · have := hF k h1
      omega
    · exact hn (.inr h1))).trans (hb.block k hk), fun k hk => by
    rcases c.grow k hk with h1 | h1
    · rcases h1 with h1 | h1 | h1
      · exact .inl (.inl h1)
      · exact .inr (hF k h1)
      · exact .inl (.inr h1)
    · exact .inr (Nat.le_trans hb.size h1)⟩
def StartP (w : World) (G : Nat -> Prop) (S : List (List Wt)) (r : Rm) (e : Ending) (w' : World) : Prop := ∃ g G', e = .returned (P_ g) /\ Rn w' G' g S r /\ Ch G G' w w'
theorem start_any {w : World} {Fs R : Nat -> Prop} {gs : Nat} {s : St} {vB : Value} {S : List (List Wt)} {p : List Addr} (h : Pre w Fs R gs s vB S) (h17 : E3 w p) (hO : Off (fun k => Fs k ∨ R k)) (fn : Int) :
    Calls Tryz.prog 17 #[P_ gs, vB, I_ fn] w (StartP w (fun k => Fs k ∨ R k) S (startR S s fn)) := by
  have CT := Za (chanTypes_any h.st h17.e2 h.ty)
  obtain ⟨cB, vS, vs, eB, _⟩ := id h.bg
  subst eB
  have HP := Za h
  have H7 := Za (And.intro h17 hO)
  obtain ⟨nC, hnC⟩ : ∃ nC, nC = s.C.length := ⟨_, rfl⟩
  rw [← hnC] at CT
  have HN := Za hnC
  unfold startR enterR
  clear h h17 hO hnC
  cases hl : lk S fn with
  | none =>
    simp only
    have HL := Za hl
    clear hl
    go_enter Tryz.func17, Tryz.ntmps17
    go_wp2_with fail
    refine CT.out.mono ?_
    rintro e w1 ⟨aC, cC, rfl, oC, hb⟩
    have U1 := Za (ru_new HP.out w1.heap.size (Zu hb (.cells #[P_ gs, .slice aC nC cC, .func (.func 59) #[] #[P_ cB], .slice none 0 0, .slice none 0 0, I_ 0, I_ 0, I_ 0, I_ 0, I_ 0] 117)) (B_ w1 _) hb.size (by rw [← HN.out]; exact Zj oC (fun k hk => (Zd w1 _).block k (Zf oC hk).2.1)))
    have B1 := Za (Zu hb (.cells #[P_ gs, .slice aC nC cC, .func (.func 59) #[] #[P_ cB], .slice none 0 0, .slice none 0 0, I_ 0, I_ 0, I_ 0, I_ 0, I_ 0] 117))
    have NB : Hid (∀ k, (k = w1.heap.size ∨ (Value.slice aC nC cC).ownBlock = some k) -> w.heap.size <= k) := Za (fun k hk => by
      rcases hk with rfl | hk
      · exact hb.size
      · exact (Zf oC hk).1)
    clear oC hb CT
    have EN := Za (enter_none U1.out.rn fn (R0 := fun _ => True) YN.nilS HL.out)
    go_wp2_with fail
    refine EN.out.mono ?_
    rintro e w2 ⟨rfl, G2, rn2, c2⟩
    have FA := Za (fault_any rn2 0 5 0 0)
    have C2 := Za c2
    clear rn2 c2 EN
    go_wp2_with fail
    refine FA.out.mono ?_
    rintro e w3 ⟨rfl, G3, rn3, c3⟩
    have C3 := Za (start_ch U1.out B1.out (C2.out.trans c3) NB.out)
    have SE := Za (settle_any rn3 (H7.out.1.ch H7.out.2 C3.out).1.e2)
    clear rn3 c3 FA
    go_wp2_with fail
    refine SE.out.mono ?_
    rintro e w4 ⟨rfl, G4, rn4, c4⟩
    have Z := Za (And.intro rn4 (C3.out.trans c4))
    clear rn4 c4 SE
    go_wp2_with fail
    go_ret
    exact ⟨_, _, rfl, Z.out.1, Z.out.2⟩
  | some l =>
    simp only [List.nil_append]
    have HL := Za hl
    clear hl
    go_enter Tryz.func17, Tryz.ntmps17
    go_wp2_with fail
    refine CT.out.mono ?_
    rintro e w1 ⟨aC, cC, rfl, oC, hb⟩
    have U1 := Za (ru_new HP.out w1.heap.size (Zu hb (.cells #[P_ gs, .slice aC nC cC, .func (.func 59) #[] #[P_ cB], .slice none 0 0, .slice none 0 0, I_ 0, I_ 0, I_ 0, I_ 0, I_ 0] 117)) (B_ w1 _) hb.size (by rw [← HN.out]; exact Zj oC (fun k hk => (Zd w1 _).block k (Zf oC hk).2.1)))
    have B1 := Za (Zu hb (.cells #[P_ gs, .slice aC nC cC, .func (.func 59) #[] #[P_ cB], .slice none 0 0, .slice none 0 0, I_ 0, I_ 0, I_ 0, I_ 0, I_ 0] 117))
    have NB : Hid (∀ k, (k = w1.heap.size ∨ (Value.slice aC nC cC).ownBlock = some k) -> w.heap.size <= k) := Za (fun k hk => by
      rcases hk with rfl | hk
      · exact hb.size
      · exact (Zf oC hk).1)
    clear oC hb CT
    have EN := Za (enter_some U1.out.rn fn (R0 := fun _ => True) YN.nilS l HL.out (by simp))
    simp only [List.nil_append] at EN
    go_wp2_with fail
    refine EN.out.mono ?_
    rintro e w2 ⟨rfl, G2, rn2, c2⟩
    have AK := Za (ask_any rn2 0 ⟨l, zW⟩ rfl 0 0 0)
    have C2 := Za c2
    clear rn2 c2 EN
    go_wp2_with fail
    refine AK.out.mono ?_
    rintro e w3 ⟨rfl, G3, rn3, c3⟩
    have C3 := Za (start_ch U1.out B1.out (C2.out.trans c3) NB.out)
    have SE := Za (settle_any rn3 (H7.out.1.ch H7.out.2 C3.out).1.e2)
    clear rn3 c3 AK
    go_wp2_with fail
    refine SE.out.mono ?_
    rintro e w4 ⟨rfl, G4, rn4, c4⟩
    have Z := Za (And.intro rn4 (C3.out.trans c4))
    clear rn4 c4 SE
    go_wp2_with fail
    go_ret
    exact ⟨_, _, rfl, Z.out.1, Z.out.2⟩
def ints (zs : List Int) : List Value := zs.map (Value.int .i64)
theorem ints_len (zs : List Int) : (ints zs).length = zs.length := by simp [ints]
theorem ints_app (zs ms : List Int) : ints zs ++ ints ms = ints (zs ++ ms) := by simp [ints]
theorem ints_one (zs : List Int) : ∀ u ∈ ints zs, u.oneCell' = true := fun u hu => by
 obtain ⟨z, _, rfl⟩ := List.mem_map.1 hu
 rfl
theorem ints_at (zs : List Int) (j : Nat) (u : Value) (h : (ints zs)[j]? = some u) : j < zs.length /\ u = I_ (zs.getD j 0) := by
 unfold ints at h
 rw [List.getElem?_map] at h
 cases hz : zs[j]? with
 | none => rw [hz] at h; cases h
 | some z =>
  rw [hz] at h
  have hl : j < zs.length := (G_ hz)
  cases h
  exact ⟨hl, by simp [List.getD, hz]⟩
def Own (w : World) (B g cap : Nat) (zs : List Int) : Prop := w.ownsRow B 3 1 (.slice (some ⟨g, 0, none⟩) zs.length cap) zs.length (ints zs)
theorem Own.parts {w : World} {B g cap : Nat} {zs : List Int} (h : Own w B g cap zs) :
 ∃ cur : Array Value, B <= g /\ w.heap[g]? = some (.cells cur 3 (0, 0)) /\ zs.length <= cap /\ cap <= maxLen /\ cur.size = cap /\ cur.toList.take zs.length = ints zs := by
 rcases h.2 with ⟨h, _⟩ | ⟨g', cap', cur, h, hbg, hg, hnc, hcm, hcs, htake⟩
 · simp at h
 · simp only [Value.slice.injEq, Option.some.injEq, Addr.mk.injEq, and_true, true_and] at h
   obtain ⟨rfl, rfl⟩ := h
   exact ⟨cur, hbg, hg, hnc, hcm, by simpa using hcs, by simpa using htake⟩
theorem Own.mk {w : World} {B g cap : Nat} {zs : List Int} (cur : Array Value) (h1 : B <= g) (h2 : w.heap[g]? = some (.cells cur 3 (0, 0))) (h3 : zs.length <= cap) (h4 : cap <= maxLen) (h5 : cur.size = cap) (h6 : cur.toList.take zs.length = ints zs) : Own w B g cap zs :=
 ⟨by rw [ints_len]; simp, .inr ⟨g, cap, cur, rfl, h1, h2, h3, h4, by simpa using h5, by simpa using h6⟩⟩
theorem app_src {w : World} {vx : Value} {ms : List Int} (h : Sl w vx ms) :
 (∃ ad c, vx = .slice (some ad) ms.length c /\ ∀ j u, (ints ms)[j]? = some u -> w.cell? (ad.add j) = some u) ∨ (∃ c, vx = .slice none 0 c /\ ms = []) := by
 obtain ⟨_, a, c, rfl, _, _, hc⟩ := h
 cases a with
 | none =>
  right
  cases ms with
  | nil => exact ⟨c, rfl, rfl⟩
  | cons m ms => obtain ⟨b, off, e, _⟩ := hc 0 (by simp); cases e
 | some ad =>
  left
  refine ⟨ad, c, rfl, fun j u hu => ?_⟩
  obtain ⟨hj, rfl⟩ := ints_at ms j u hu
  obtain ⟨b, off, e, _, hcell⟩ := hc j hj
  cases e
  have e2 : (Addr.mk b off none).add j = ⟨b, off + j, none⟩ := by unfold Addr.add; by_cases h : j = 0 <;> simp [h]
  rw [e2]
  exact hcell
theorem app_fits {w : World} {B g cap : Nat} {zs ms : List Int} {vx : Value} (ty : TypeId) (h : Own w B g cap zs) (hx : Sl w vx ms) (hroom : zs.length + ms.length <= cap) :
 ∃ w', (Builtin.append_ #[22, 22] ty #[.slice (some ⟨g, 0, none⟩) zs.length cap, vx]).run Tryz.prog w = .ok (.slice (some ⟨g, 0, none⟩) (zs.length + ms.length) cap) w' /\ Own w' B g cap (zs ++ ms) /\ w.grownBy w' (some g) := by
 obtain ⟨i, hi, hz0, hz1, hz2⟩ := info_parts info3
 rcases app_src hx with ⟨ad, c, rfl, hnews⟩ | ⟨c, rfl, rfl⟩
 · obtain ⟨w', hr, ho, hg⟩ := run_append_fits (P := Tryz.prog) w B 22 ty 3 i 1 Tryz.underlying22 hi hz1 g zs.length cap (ints zs) h ad ms.length c (ints ms) (by rw [ints_len]; simp) hnews (ints_one ms) hroom
   refine ⟨w', hr, ?_, hg⟩
   unfold Own
   rw [List.length_append, ← ints_app]
   exact ho
 · have hs := Src.ofNil (P := Tryz.prog) w (size := i.size) Tryz.underlying22 c
   have hr := run_append_room_src (P := Tryz.prog) w 22 22 ty 3 i Tryz.underlying22 hi g 0 zs.length cap (.slice none 0 c) 0 [] hs hroom (fun j hj => absurd hj (Nat.not_lt_zero _)) (fun j hj => absurd hj (Nat.not_lt_zero _))
   refine ⟨w, hr, by rw [List.append_nil]; exact h, ⟨rfl, rfl, rfl, Nat.le_refl _, fun _ _ _ => rfl⟩⟩
theorem app_own {w : World} {B g cap : Nat} {zs ms : List Int} {vx : Value} (ty : TypeId) (h : Own w B g cap zs) (hx : Sl w vx ms) (hlen : zs.length + ms.length <= 2000000) (hB : B <= w.heap.size) :
 ∃ v' w', (Builtin.append_ #[22, 22] ty #[.slice (some ⟨g, 0, none⟩) zs.length cap, vx]).run Tryz.prog w = .ok v' w' /\ (∃ g' cap', v' = .slice (some ⟨g', 0, none⟩) (zs ++ ms).length cap' /\ Own w' B g' cap' (zs ++ ms)) /\ w.grownBy w' (some g) := by
 obtain ⟨i, hi, hz0, hz1, hz2⟩ := info_parts info3
 rcases app_src hx with ⟨ad, c, rfl, hnews⟩ | ⟨c, rfl, rfl⟩
 · obtain ⟨v', w', hr, ho, hg, hn⟩ := run_append_own (P := Tryz.prog) w B 22 ty 3 i (I_ 0) 1 8 Tryz.underlying22 hi hz0 hz1 hz2 rfl (by decide) _ zs.length (ints zs) h ad ms.length c (ints ms) (by rw [ints_len]; simp) hnews (ints_one ms) (by unfold maxLen; omega) (by omega) hB
   refine ⟨v', w', hr, ?_, hg⟩
   have ho2 := ho
   rcases ho.2 with ⟨h1, _⟩ | ⟨g', cap', cur, h1, _⟩
   · have := hn.1 h1
     simp at this
   · refine ⟨g', cap', by rw [h1, List.length_append], ?_⟩
     unfold Own
     rw [List.length_append, ← ints_app]
     rw [h1] at ho2
     exact ho2
 · obtain ⟨_, _, _, hnc, _⟩ := h.parts
   obtain ⟨w', hr, ho, hg⟩ := app_fits (ms := []) ty h hx (by simpa using hnc)
   exact ⟨_, w', hr, ⟨g, cap, by simp, ho⟩, hg⟩
theorem cloneS {w : World} {v : Value} {zs : List Int} (h : Sl w v zs) (hn : zs.length <= 100000) : Calls Tryz.prog 44 #[v] w fun e w' => ∃ v', e = .returned v' /\ (∃ a c, v' = .slice a zs.length c) /\ w'.ownsRow w.heap.size 3 1 v' zs.length (nts zs) /\ Below w.heap.size w w' := by
 obtain ⟨a, n, c, rfl, en⟩ := h.slice
 cases a with
 | none =>
  have hz : zs = [] := by
   cases zs with
   | nil => rfl
   | cons z l =>
    obtain ⟨_, a', c', e, _, _, h3⟩ := h
    obtain ⟨b, o, e', _⟩ := h3 0 (by simp)
    cases e
    cases e'
  subst hz
  have e0 : n = 0 := en
  subst e0
  clear h hn en
  have hE : ∀ w, (binOp .eql 22 (.slice none 0 c) (.slice none 0 0)).run Tryz.prog w = .ok (.bool true) w := fun w => by kernel_rfl
  go_enter Tryz.func44, Tryz.ntmps44
  go_wp2_with fail
  go_ret
  exact ⟨_, rfl, ⟨_, _, rfl⟩, World.ownsRow_nil _ _ _ _, Below.refl _ _⟩
 | some ad =>
  have hb := Zd w (.cells #[] 3)
  have ho : Own (w.alloc (.cells #[] 3)) w.heap.size w.heap.size 0 [] := Own.mk #[] (Nat.le_refl _) (B_ w _) (Nat.le_refl _) (Nat.zero_le _) rfl rfl
  have AP := Za (fun ty => app_own ty ho (h.below (Nat.le_refl _) hb) (by simp; omega) hb.size)
  have HB := Za hb
  simp only [List.length_nil, List.nil_append] at AP
  clear h hb ho
  have EN := Za en
  have hE : ∀ w, (binOp .eql 22 (.slice (some ad) n c) (.slice none 0 0)).run Tryz.prog w = .ok (.bool false) w := fun w => by kernel_rfl
  clear en hn
  go_enter Tryz.func44, Tryz.ntmps44
  go_wp2_with (first | (at_builtin; refine ZU (TS := 22) rfl (.tmp 5) (.tmp 6) rfl _ _ rfl rfl _ (AP.out _) ?_; rintro v9 w9 ⟨⟨g9, c9, rfl, o9⟩, b9⟩; have R9 := Za (And.intro o9 b9); clear o9 b9))
  go_ret
  exact ⟨_, rfl, ⟨_, _, rfl⟩, R9.out.1, HB.out.grown R9.out.2 HB.out.size (fun k hk => by cases hk; exact Nat.le_refl _)⟩
structure Pk (w : World) (F : Nat -> Prop) (v : Value) (l : List Int) (n : Nat) (ob nb : Nat) (vS : Value) : Prop where
 is : v = .func (.func 45) #[] #[.pointer (some ⟨ob, 0, none⟩), .pointer (some ⟨nb, 0, none⟩)]
 own : w.heap[ob]? = some (.cells #[vS] 22 (0, 0))
 nxt : w.heap[nb]? = some (.cells #[.int .i64 (n : Nat)] 3 (0, 0))
 row : w.ownsRow 0 3 1 vS l.length (nts l)
 ne : vS.ownBlock ≠ some nb
 fo : F ob
 fn : F nb
 fr : ∀ k, vS.ownBlock = some k -> F k
 fb : ∀ k, F k -> k < w.heap.size
 sm : l.length <= 100000
 nl : n < l.length ∨ l.length = 0
def Pks (w : World) (F : Nat -> Prop) (v : Value) (l : List Int) (n : Nat) : Prop := ∃ ob nb vS, Pk w F v l n ob nb vS
section
variable {w w' : World} {F G G' : Nat → Prop} {v : Value} {l : List Int} {n : Nat}
theorem Pks.fb (h : Pks w F v l n) : ∀ k, F k -> k < w.heap.size := by
 obtain ⟨ob, nb, vS, h⟩ := h
 exact h.fb
theorem Pks.keep (h : Pks w F v l n) (hb : ∀ k, F k -> w'.heap[k]? = w.heap[k]?) (hs : w.heap.size <= w'.heap.size) : Pks w' F v l n := by
 obtain ⟨ob, nb, vS, h⟩ := h
 exact ⟨ob, nb, vS, { h with own := (hb ob h.fo).trans h.own, nxt := (hb nb h.fn).trans h.nxt, row := Zj h.row fun k hk => hb k (h.fr k hk), fb := fun k hk => Nat.lt_of_lt_of_le (h.fb k hk) hs }⟩
theorem Pks.bel (h : Pks w F v l n) (hb : Below w.heap.size w w') : Pks w' F v l n := h.keep (fun k hk => hb.block k (h.fb k hk)) hb.size
theorem Pks.ch (h : Pks w F v l n) (hc : Ch G G' w w') (hd : ∀ k, F k -> ¬ G k) : Pks w' F v l n /\ ∀ k, F k -> ¬ G' k :=
 ⟨h.keep (fun k hk => hc.blk k (h.fb k hk) (hd k hk)) hc.size, fun k hk hG => by
  rcases hc.grow k hG with h1 | h1
  · exact hd k hk h1
  · have := h.fb k hk
    omega⟩
end
def ListP (w : World) (l : List Int) (e : Ending) (w' : World) : Prop := ∃ v F, e = .returned v /\ Pks w' F v l 0 /\ (∀ k, F k -> w.heap.size <= k) /\ Below w.heap.size w w'
theorem listed_any {w : World} {v : Value} {zs : List Int} (h : Sl w v zs) (hn : zs.length <= 100000) : Calls Tryz.prog 14 #[v] w (ListP w zs) := by
 have CL := Za (cloneS h hn)
 obtain ⟨a, n, c, rfl, en⟩ := h.slice
 have hmf : ∀ (fn : Fn) (first cap : Array Value) (w : World), (Instr.makeFunc fn first cap).run Tryz.prog w = .ok (.func fn first cap) w := fun _ _ _ _ => rfl
 have HN := Za hn
 clear h en hn
 go_enter Tryz.func14, Tryz.ntmps14
 go_wp2_with fail
 refine CL.out.mono ?_
 rintro e w1 ⟨v1, rfl, ⟨a1, c1, rfl⟩, o1, hb1⟩
 have O1 := Za (And.intro o1 hb1)
 clear CL o1 hb1
 obtain ⟨m, hm⟩ : ∃ m, zs.length = m := ⟨_, rfl⟩
 rw [hm] at O1 HN ⊢
 have HM := Za hm
 clear hm
 go_wp2_with fail
 have e1 := B_ w1 (.cells #[.slice a1 m c1] 22)
 have e2 := B_ (w1.alloc (.cells #[.slice a1 m c1] 22)) (.cells #[.int .i64 0] 3)
 have hs : (w1.alloc (.cells #[.slice a1 m c1] 22)).heap.size = w1.heap.size + 1 := by simp
 rw [hs] at e2
 have b2 := Zu (Zd w1 (.cells #[.slice a1 m c1] 22)) (.cells #[.int .i64 0] 3)
 go_ret
 have ok : ∀ k, (Value.slice a1 m c1).ownBlock = some k -> w.heap.size <= k /\ k < w1.heap.size := fun k hk => ⟨(Zf O1.out.1 hk).1, (Zf O1.out.1 hk).2.1⟩
 have hm := HM.out
 subst hm
 refine ⟨_, fun k => k = w1.heap.size ∨ k = w1.heap.size + 1 ∨ (Value.slice a1 zs.length c1).ownBlock = some k, rfl, ⟨w1.heap.size, w1.heap.size + 1, .slice a1 zs.length c1, { is := rfl, own := ((Zd _ _).block _ (Ze e1)).trans e1, nxt := e2, row := Zj (Yf O1.out.1) (fun k hk => b2.block k (ok k hk).2), ne := fun e => by have := ok _ e; omega, fo := .inl rfl, fn := .inr (.inl rfl), fr := fun k hk => .inr (.inr hk), fb := fun k hk => ?_, sm := HN.out, nl := by omega }⟩, fun k hk => ?_, Zg O1.out.2 b2⟩
 · have h2 := Ze e2
   rcases hk with h1 | h1 | h1
   · omega
   · omega
   · have := ok k h1
     omega
 · have := O1.out.2.size
   rcases hk with h1 | h1 | h1
   · omega
   · omega
   · exact (ok k h1).1
theorem mod_nat (n m : Nat) : ((n : Int) + 1).tmod (m : Int) = (((n + 1) % m : Nat) : Int) := by
 have e : ((n : Int) + 1) = ((n + 1 : Nat) : Int) := by omega
 rw [e, Int.tmod_eq_emod_of_nonneg (by omega)]
 rfl
theorem Pk.turn {w : World} {F : Nat -> Prop} {v : Value} {l : List Int} {n ob nb : Nat} {vS : Value} (h : Pk w F v l n ob nb vS) (m : Nat) (hm : m < l.length) : Pk (w.setCell ⟨nb, 0, none⟩ (.int .i64 (m : Nat))) F v l m ob nb vS /\ Ch F F w (w.setCell ⟨nb, 0, none⟩ (.int .i64 (m : Nat))) := by
 have hne : ∀ k, k ≠ nb -> (w.setCell ⟨nb, 0, none⟩ (.int .i64 (m : Nat))).heap[k]? = w.heap[k]? := fun k hk => Below.heap_setCell _ _ _ _ hk
 exact ⟨{ h with own := (hne ob (Zm h.own h.nxt (by decide))).trans h.own, nxt := heap_setCell_same _ _ _ _ _ _ h.nxt, row := Zj h.row fun k hk => hne k (fun e => h.ne (e ▸ hk)), fb := fun k hk => by rw [Zi]; exact h.fb k hk, nl := .inl hm }, ZJ h.fn _⟩
def PickP (w : World) (F : Nat -> Prop) (v : Value) (l : List Int) (n : Nat) (e : Ending) (w' : World) : Prop := e = .returned (.int .i64 (pickR l n).1) /\ Pks w' F v l (pickR l n).2 /\ Ch F F w w'
theorem pick_any {w : World} {F : Nat -> Prop} {ob nb : Nat} {l : List Int} {n : Nat} (h : Pks w F (.func (.func 45) #[] #[.pointer (some ⟨ob, 0, none⟩), .pointer (some ⟨nb, 0, none⟩)]) l n) (k : Int) :
 Calls Tryz.prog 45 #[.int .i64 k, .pointer (some ⟨ob, 0, none⟩), .pointer (some ⟨nb, 0, none⟩)] w (PickP w F (.func (.func 45) #[] #[.pointer (some ⟨ob, 0, none⟩), .pointer (some ⟨nb, 0, none⟩)]) l n) := by
 obtain ⟨ob', nb', vS, h⟩ := h
 obtain ⟨rfl, rfl⟩ : ob' = ob /\ nb' = nb := by
  have := h.is
  injection this with _ _ h3
  simp at h3
  exact ⟨h3.1.symm, h3.2.symm⟩
 obtain ⟨a, c, rfl, _⟩ := Zl h.row
 have c0 : w.cell? ⟨ob', 0, none⟩ = some (.slice a l.length c) := Zb h.own 0 _ rfl
 have c1 : w.cell? ⟨nb', 0, none⟩ = some (.int .i64 (n : Nat)) := Zb h.nxt 0 _ rfl
 have f1 := Zc h.nxt 0
 have hol := Ze h.own
 have hnl := Ze h.nxt
 by_cases h0 : l.length = 0
 · have hl : l = [] := List.length_eq_zero_iff.1 h0
   have hp : Hid (pickR l n = (0, n)) := Za (by subst hl; rfl)
   rw [h0] at c0
   have H := Za h
   clear h h0 hl
   go_enter Tryz.func45, Tryz.ntmps45
   go_wp2_with fail
   go_ret
   exact ⟨by rw [hp.out]; rfl, by rw [hp.out]; exact ⟨_, _, _, H.out⟩, Ch.refl _ _⟩
 · have hn : n < l.length := by
    rcases h.nl with h1 | h1
    · exact h1
    · exact absurd h1 h0
   obtain ⟨b, c', e, _⟩ := Zq h.row (by omega)
   cases e
   obtain ⟨x, hx⟩ : ∃ x, l[n]? = some x := ⟨_, List.getElem?_eq_getElem hn⟩
   have hp : Hid (pickR l n = (x, (n + 1) % l.length)) := Za (by unfold pickR; rw [hx])
   have d1 := (Zk h.row n _ (nts_at hx)).1
   have hbl := (Zf h.row (k := b) rfl).2.1
   have hsm := h.sm
   obtain ⟨m, hm⟩ : ∃ m, l.length = m := ⟨_, rfl⟩
   have T := Za (h.turn ((n + 1) % l.length) (Nat.mod_lt _ (by omega)))
   have hmd := mod_nat n m
   have hml : (n + 1) % m < m := Nat.mod_lt _ (by omega)
   rw [hm] at c0 hn hsm hp T
   have hmb : ((m : Int) == 0) = false := by simp; omega
   obtain ⟨q, hq⟩ : ∃ q, (n + 1) % m = q := ⟨_, rfl⟩
   rw [hq] at T hmd hp hml
   clear h h0 hx hm hq
   go_enter Tryz.func45, Tryz.ntmps45
   go_wp2_with fail
   go_ret
   exact ⟨by rw [hp.out]; rfl, by rw [hp.out]; exact ⟨_, _, _, T.out.1⟩, T.out.2⟩
def YL : List Wt -> List Value -> List Value
 | x :: l, va :: vas => wcs x va ++ YL l vas
 | _, _ => []
theorem wrows_snoc : ∀ (l : List Wt) (vas : List Value) (x : Wt) (va : Value), vas.length = l.length -> YL (l ++ [x]) (vas ++ [va]) = YL l vas ++ wcs x va
 | [], [], x, va, _ => by simp [YL]
 | y :: l, vy :: vas, x, va, h => by simp [YL, wrows_snoc l vas x va (by simpa using h)]
theorem wrows_at : ∀ (l : List Wt) (vas : List Value) (i j : Nat) (x : Wt) (va u : Value), l[i]? = some x -> vas[i]? = some va -> (wcs x va)[j]? = some u -> (YL l vas)[7 * i + j]? = some u
 | [], vas, i, j, x, va, u, h, _, _ => by simp at h
 | y :: l, [], i, j, x, va, u, _, h, _ => by simp at h
 | y :: l, vy :: vas, 0, j, x, va, u, h, h', hu => by
  simp at h h'
  subst h h'
  have hj : j < (wcs y vy).length := (G_ hu)
  simp only [YL]
  rw [List.getElem?_append_left (by omega)]
  simpa using hu
 | y :: l, vy :: vas, i + 1, j, x, va, u, h, h', hu => by
  have := wrows_at l vas i j x va u (by simpa using h) (by simpa using h') hu
  simp only [YL]
  rw [List.getElem?_append_right (by simp [wcs]; omega)]
  rw [show 7 * (i + 1) + j - (wcs y vy).length = 7 * i + j by simp [wcs]; omega]
  exact this
theorem info_wt : (Tryz.prog.info? 67).map (fun i => (i.zero, i.size, i.bytes)) = some (some (.agg #[I_ 0, I_ 0, I_ 0, I_ 0, I_ 0, .int .u64 0, .slice none 0 0]), 7, 72) := by kernel_rfl
theorem info_sw : (Tryz.prog.info? 68).map (fun i => (i.zero, i.size, i.bytes)) = some (some (.slice none 0 0), 1, 24) := by kernel_rfl
theorem run_mkS (n : Nat) (hn : n <= 2000) (w : World) : (Instr.makeSlice 24 (I_ (n : Nat)) (I_ (n : Nat))).run Tryz.prog w = .ok (.slice (some ⟨w.heap.size, 0, none⟩) n n) (w.alloc (.cells (madeCells #[.slice none 0 0] n) 68)) := by
 obtain ⟨i, hi, hz0, hz1, hz2⟩ := info_parts info_sw
 have hr := run_make (P := Tryz.prog) w 24 68 i (.slice none 0 0) Tryz.underlying24 hi hz0 .i64 .i64 n n (by omega) (by omega) (by rw [hz2]; omega) (by omega)
 simp only [Int.toNat_natCast, hz1, Nat.mul_one] at hr
 exact hr
theorem own_madeS (w : World) (n : Nat) (hn : n <= 2000) : (w.alloc (.cells (madeCells #[.slice none 0 0] n) 68)).ownsRow 0 68 1 (.slice (some ⟨w.heap.size, 0, none⟩) n n) n (List.replicate n (.slice none 0 0)) :=
 ⟨by simp, .inr ⟨w.heap.size, n, _, rfl, Nat.zero_le _, B_ _ _, Nat.le_refl _, by unfold maxLen; omega, by simp [madeCells], by
  rw [List.take_of_length_le]
  · apply List.ext_getElem?
    intro m
    by_cases hm : m < n
    · simp [madeCells, Nat.mod_one, hm]
    · simp [madeCells, Nat.mod_one, hm]
  · simp [madeCells]⟩⟩
theorem push_w {w : World} {B : Nat} {v : Value} {l : List Wt} {vas : List Value} {n : Nat} (hn : n = l.length) (hv : vas.length = l.length) (ho : w.ownsRow B 67 7 v n (YL l vas)) (hl : l.length <= 2000) (hB : B <= w.heap.size) (x : Wt) (va : Value) (hva : va.oneCell' = true) (ty : TypeId) :
    ∃ v' w', (Builtin.append_ #[68, 68] ty #[v, .slice (some ⟨w.heap.size, 0, none⟩) 1 1]).run Tryz.prog (w.alloc (.cells #[I_ x.k, I_ x.o, I_ x.a, I_ x.v.1, I_ x.v.2.1, .int .u64 x.v.2.2, va] 67)) = .ok v' w' ∧
      ((∃ a c, v' = .slice a (n + 1) c) /\ w'.ownsRow B 67 7 v' (n + 1) (YL (l ++ [x]) (vas ++ [va])) /\ w.grownBy w' v.ownBlock /\ (∀ k, v'.ownBlock = some k -> v.ownBlock = some k ∨ w.heap.size <= k)) := by
  obtain ⟨ie, hi, hz0, hz1, hz2⟩ := info_parts info_wt
  have hb := Zd w (.cells #[I_ x.k, I_ x.o, I_ x.a, I_ x.v.1, I_ x.v.2.1, .int .u64 x.v.2.2, va] 67)
  have o1 := Zj ho (fun k hk => hb.block k (Zf ho hk).2.1)
  have hc : ∀ (j : Nat) (u : Value), (wcs x va)[j]? = some u -> (w.alloc (.cells #[I_ x.k, I_ x.o, I_ x.a, I_ x.v.1, I_ x.v.2.1, .int .u64 x.v.2.2, va] 67)).cell? ((⟨w.heap.size, 0, none⟩ : Addr).add j) = some u := fun j u hu => by
    rw [show (⟨w.heap.size, 0, none⟩ : Addr).add j = ⟨w.heap.size, j, none⟩ by unfold Addr.add; by_cases h : j = 0 <;> simp [h]]
    exact Zb (B_ w _) j u (by simpa [wcs] using hu)
  obtain ⟨v', w', hr, ho', hg, _, hat⟩ := run_append_own_at (P := Tryz.prog) (w.alloc (.cells #[I_ x.k, I_ x.o, I_ x.a, I_ x.v.1, I_ x.v.2.1, .int .u64 x.v.2.2, va] 67)) B 68 ty 67 ie _ 7 72 Tryz.underlying68 hi hz0 hz1 hz2 rfl (by decide) v n (YL l vas) o1 ⟨w.heap.size, 0, none⟩ 1 1 (wcs x va) rfl hc (fun u hu => by
      simp only [wcs, List.mem_cons, List.mem_nil_iff, or_false] at hu
      rcases hu with rfl | rfl | rfl | rfl | rfl | rfl | rfl
      all_goals first | rfl | exact hva) (by unfold maxLen; omega) (by omega) (Nat.le_trans hB hb.size)
  obtain ⟨a9, c9, e9, _⟩ := Zl ho'
  refine ⟨v', w', hr, ⟨_, _, e9⟩, by rw [wrows_snoc _ _ _ _ hv]; exact ho', ⟨hg.os, hg.tape, hg.output, Nat.le_trans hb.size hg.size, fun k hk hne => (hg.block k (Nat.lt_of_lt_of_le hk hb.size) hne).trans (hb.block k hk)⟩, fun k hk => ?_⟩
  rcases hat with e | e
  · exact .inl (e.symm.trans hk)
  · rw [e] at hk
    right
    have := Option.some.inj hk
    simp at this
    omega
def ArgC (w : World) (va : Value) : Prop := ∃ (a : Option Addr) (n c : Nat) (xs : List Value), va = .slice a n c /\ n <= 2000 /\ (∀ u ∈ xs, u.oneCell' = true) /\ ∀ w', Below w.heap.size w w' -> Calls Tryz.prog 85 #[va] w' (ClP w' 64 3 n xs)
theorem ArgC.bel {w w' : World} {va : Value} (h : ArgC w va) (hb : Below w.heap.size w w') : ArgC w' va := by
 obtain ⟨a, n, c, xs, h1, h2, h3, h4⟩ := h
 exact ⟨a, n, c, xs, h1, h2, h3, fun w'' h => h4 w'' (Zg hb h)⟩
theorem ArgC.nilS (w : World) : ArgC w (.slice none 0 0) := ⟨none, 0, 0, [], rfl, (by omega), (fun _ h => by cases h), (fun w' _ => cloneV2 (Yl _ _ _) (by omega) (fun _ h => by cases h))⟩
def WSrc (w : World) (v : Value) (l : List Wt) : Prop := ∃ (a : Option Addr) (c : Nat), v = .slice a l.length c /\ l.length <= 2000 /\ ∀ (j : Nat) (x : Wt), l[j]? = some x -> ∃ (b o : Nat) (va : Value), a = some ⟨b, o, none⟩ /\ b < w.heap.size /\ (∀ (q : Nat) (u : Value), (wcs x va)[q]? = some u -> w.cell? ⟨b, o + j * 7 + q, none⟩ = some u) /\ ArgC w va
def SSrc (w : World) (v : Value) (S : List (List Wt)) : Prop := ∃ (a : Option Addr) (c : Nat), v = .slice a S.length c /\ S.length <= 2000 /\ ∀ (i : Nat) (l : List Wt), S[i]? = some l -> ∃ (b o : Nat) (vi : Value), a = some ⟨b, o, none⟩ /\ b < w.heap.size /\ w.cell? ⟨b, o + i, none⟩ = some vi /\ WSrc w vi l
theorem WSrc.bel {w w' : World} {v : Value} {l : List Wt} (h : WSrc w v l) (hb : Below w.heap.size w w') : WSrc w' v l := by
 obtain ⟨a, c, h1, h2, h3⟩ := h
 refine ⟨a, c, h1, h2, fun j x hx => ?_⟩
 obtain ⟨b, o, va, e1, e2, e3, e4⟩ := h3 j x hx
 exact ⟨b, o, va, e1, Nat.lt_of_lt_of_le e2 hb.size, fun q u hu => (hb.cell (p := ⟨b, o + j * 7 + q, none⟩) e2).trans (e3 q u hu), e4.bel hb⟩
theorem SSrc.bel {w w' : World} {v : Value} {S : List (List Wt)} (h : SSrc w v S) (hb : Below w.heap.size w w') : SSrc w' v S := by
 obtain ⟨a, c, h1, h2, h3⟩ := h
 refine ⟨a, c, h1, h2, fun i l hl => ?_⟩
 obtain ⟨b, o, vi, e1, e2, e3, e4⟩ := h3 i l hl
 exact ⟨b, o, vi, e1, Nat.lt_of_lt_of_le e2 hb.size, (hb.cell (p := ⟨b, o + i, none⟩) e2).trans e3, e4.bel hb⟩
structure Sc (w wr : World) (vb ob n : Nat) (R : Nat -> Prop) (S : List (List Wt)) (i j : Nat) (vs : List Value) : Prop where
 var : wr.heap[vb]? = some (.cells #[.slice (some ⟨ob, 0, none⟩) n n] 24 (0, 0))
 row : wr.ownsRow 0 68 1 (.slice (some ⟨ob, 0, none⟩) n n) n vs
 old : ∀ (m : Nat) (l : List Wt) (v : Value), m < i -> S[m]? = some l -> vs[m]? = some v -> WRow wr R v l
 cur : ∀ (l : List Wt) (v : Value), S[i]? = some l -> vs[i]? = some v -> ∃ vas : List Value, vas.length = j /\ (∀ va ∈ vas, YN wr R va) /\ wr.ownsRow w.heap.size 67 7 v j (YL (l.take j) vas) /\ ∀ k, v.ownBlock = some k -> ¬ R k
 new : ∀ (m : Nat) (v : Value), i < m -> vs[m]? = some v -> v = .slice none 0 0
 rr : ∀ k, R k -> w.heap.size <= k /\ k < wr.heap.size /\ k ≠ ob /\ k ≠ vb
 lo : w.heap.size <= ob /\ w.heap.size <= vb
 bel : Below w.heap.size w wr
section
variable {w wr wr' : World} {vb ob n : Nat} {R : Nat → Prop} {S : List (List Wt)} {i j : Nat} {vs : List Value}
theorem Sc.al (h : Sc w wr vb ob n R S i j vs) (hb : Below wr.heap.size wr wr') : Sc w wr' vb ob n R S i j vs := by
 have hR : ∀ k, R k -> wr'.heap[k]? = wr.heap[k]? := fun k hk => hb.block k (h.rr k hk).2.1
 exact { h with
  var := (hb.block vb (Ze h.var)).trans h.var
  row := Zj h.row fun k hk => hb.block k (Zf h.row hk).2.1
  old := fun m l v hm hl hv => (h.old m l v hm hl hv).keep hR fun _ h => h
  cur := fun l v hl hv => by
   obtain ⟨vas, h1, h2, h3, h4⟩ := h.cur l v hl hv
   exact ⟨vas, h1, fun va hva => (h2 va hva).keep hR fun _ h => h, Zj h3 fun k hk => hb.block k (Zf h3 hk).2.1, h4⟩
  rr := fun k hk => ⟨(h.rr k hk).1, Nat.lt_of_lt_of_le (h.rr k hk).2.1 hb.size, (h.rr k hk).2.2⟩
  bel := Zg h.bel hb }
theorem Sc.next (h : Sc w wr vb ob n R S i j vs) {l : List Wt} (hl : S[i]? = some l) (hj : j = l.length) (hn : n = S.length) : ∃ R', Sc w wr vb ob n R' S (i + 1) 0 vs := by
 have hi : i < n := by rw [hn]; exact (G_ hl)
 have hvl : vs.length = n := by have := h.row.1; omega
 obtain ⟨v, hv⟩ : ∃ v, vs[i]? = some v := ⟨_, List.getElem?_eq_getElem (by omega)⟩
 obtain ⟨vas, c1, c2, c3, c4⟩ := h.cur l v hl hv
 rw [hj, List.take_length] at c3
 have hblk : ∀ k, v.ownBlock = some k -> w.heap.size <= k /\ k < wr.heap.size /\ k ≠ ob /\ k ≠ vb := fun k hk => ⟨(Zf c3 hk).1, (Zf c3 hk).2.1, fun e => Zo c3 h.row (by decide) k hk (by rw [e]; rfl), fun e => Zv c3 h.var (by decide) (by rw [hk, e])⟩
 refine ⟨fun k => R k ∨ v.ownBlock = some k, { h with
  old := fun m l' v' hm hl' hv' => ?_
  cur := fun l' v' hl' hv' => ?_
  new := fun m v' hm hv' => h.new m v' (by omega) hv'
  rr := fun k hk => hk.elim (h.rr k) (hblk k) }⟩
 · by_cases e : m = i
   · subst e
     rw [hl] at hl'
     rw [hv] at hv'
     cases hl'
     cases hv'
     obtain ⟨a, c, e1, e2, e3⟩ := Zl c3
     refine ⟨a, c, e1, e2, e3, fun q x hx => ?_⟩
     have hq : q < l.length := (G_ hx)
     obtain ⟨va, hva⟩ : ∃ va, vas[q]? = some va := ⟨_, List.getElem?_eq_getElem (by omega)⟩
     obtain ⟨b, c', eb, _⟩ := Zq c3 (by omega)
     rw [e1] at eb
     cases eb
     subst e1
     refine ⟨b, 0, va, rfl, .inr rfl, fun p u hu => ?_, (c2 va (List.mem_of_getElem? hva)).keep (fun _ _ => rfl) fun _ h => .inl h⟩
     rw [Nat.zero_add]
     exact (Zk c3 _ _ (wrows_at l vas q p x va u hx hva hu)).1
   · exact (h.old m l' v' (by omega) hl' hv').keep (fun _ _ => rfl) fun _ h => .inl h
 · have := h.new (i + 1) v' (by omega) hv'
   subst this
   exact ⟨[], rfl, fun _ h => (by cases h), (by simp [YL]; exact World.ownsRow_nil _ _ _ _), fun k hk => (by cases hk)⟩
theorem Sc.push (h : Sc w wr vb ob n R S i j vs) {l : List Wt} {x : Wt} (hl : S[i]? = some l) (hx : l[j]? = some x) (hin : i < n) {v va v' : Value} {w3 w9 : World} {vas : List Value} (hv : vs[i]? = some v) (c1 : vas.length = j) (c2 : ∀ va ∈ vas, YN wr R va) (c4 : ∀ k, v.ownBlock = some k -> ¬ R k /\ k < wr.heap.size)
    (hb3 : Below wr.heap.size wr w3) (ha : YD wr.heap.size w3 va) (ho : w9.ownsRow w.heap.size 67 7 v' (j + 1) (YL (l.take j ++ [x]) (vas ++ [va]))) (hg : w3.grownBy w9 v.ownBlock) (hb : ∀ k, v'.ownBlock = some k -> v.ownBlock = some k ∨ w3.heap.size <= k) (hvt : ∀ k, v.ownBlock = some k -> ∃ c, wr.heap[k]? = some (.cells c 67 (0, 0))) :
    ∃ R', Sc w (w9.setCell ⟨ob, i, none⟩ v') vb ob n R' S i (j + 1) (vs.set i v') := by
  have hne : ∀ {k : Nat}, k < wr.heap.size -> v.ownBlock ≠ some k -> k ≠ ob -> (w9.setCell ⟨ob, i, none⟩ v').heap[k]? = wr.heap[k]? := fun {k} hk h1 h2 => (Below.heap_setCell _ _ _ _ h2).trans ((hg.block k (Nat.lt_of_lt_of_le hk hb3.size) (fun e => h1 e.symm)).trans (hb3.block k hk))
  have hsz : (w9.setCell ⟨ob, i, none⟩ v').heap.size = w9.heap.size := Zi _ _ _
  have hvv : v.ownBlock ≠ some vb := fun e => by
    obtain ⟨c, hc⟩ := hvt vb e
    exact absurd rfl (Zm hc h.var (by decide))
  have hvo : v.ownBlock ≠ some ob := fun e => by
    obtain ⟨c, hc⟩ := hvt ob e
    exact Zv h.row hc (by decide) rfl
  have hvb : vb ≠ ob := fun e => Zv h.row h.var (by decide) (by rw [e]; rfl)
  have hobl : ob < wr.heap.size := (Zf h.row (k := ob) rfl).2.1
  have hR : ∀ k, R k -> (w9.setCell ⟨ob, i, none⟩ v').heap[k]? = wr.heap[k]? := fun k hk => hne (h.rr k hk).2.1 (fun e => (c4 k e).1 hk) (h.rr k hk).2.2.1
  have hva : ∀ k, va.ownBlock = some k -> wr.heap.size <= k /\ k < w3.heap.size := fun k hk => ha.at hk
  have hrow9 : w9.ownsRow 0 68 1 (.slice (some ⟨ob, 0, none⟩) n n) n vs := Zj h.row fun k hk => (hg.block k (Nat.lt_of_lt_of_le (Zf h.row hk).2.1 hb3.size) (fun e => hvo (by cases hk; exact e.symm))).trans (hb3.block k (Zf h.row hk).2.1)
  have hbel : Below w.heap.size w (w9.setCell ⟨ob, i, none⟩ v') := ((Zg h.bel hb3).grown hg (Nat.le_trans h.bel.size hb3.size) (fun k hk => by
    obtain ⟨vas', q1, q2, q3, q4⟩ := h.cur l v hl hv
    exact (Zf q3 hk).1)).setCell (p := ⟨ob, i, none⟩) h.lo.1 _
  refine ⟨fun k => R k ∨ va.ownBlock = some k, { var := (hne (Ze h.var) hvv hvb).trans h.var, row := ZT hrow9 i v', old := fun m l' v0 hm hl' hv0 => ?_, cur := fun l' v0 hl' hv0 => ?_, new := fun m v0 hm hv0 => ?_, rr := fun k hk => ?_, lo := h.lo, bel := hbel }⟩
  · rw [List.getElem?_set_ne (by omega)] at hv0
    exact (h.old m l' v0 hm hl' hv0).keep hR fun _ h => .inl h
  · rw [hl] at hl'
    cases hl'
    rw [List.getElem?_set_self (by have := h.row.1; omega)] at hv0
    cases hv0
    refine ⟨vas ++ [va], by simp [c1], fun u hu => ?_, ?_, fun k hk hR' => ?_⟩
    · rcases List.mem_append.1 hu with h1 | h1
      · exact (c2 u h1).keep hR fun _ h => .inl h
      · simp at h1
        subst h1
        refine YN.keep (w := w3) (R := fun k => u.ownBlock = some k) (ha.args (fun _ h => h)) (fun k hk => ?_) (fun _ h => .inr h)
        have h2 := hva k hk
        refine (Below.heap_setCell _ _ _ _ (by show k ≠ ob; omega)).trans (hg.block k h2.2 (fun e => ?_))
        have := (c4 k e.symm).2
        omega
    · have e : l.take (j + 1) = l.take j ++ [x] := by rw [List.take_add_one, hx]; rfl
      rw [e]
      exact Zj ho fun k hk => Below.heap_setCell _ _ _ _ (fun e => Zo ho hrow9 (by decide) k hk (by have e' : k = ob := e; rw [e']; rfl))
    · rcases hb k hk with h1 | h1
      · rcases hR' with h2 | h2
        · exact (c4 k h1).1 h2
        · have := (c4 k h1).2
          have := hva k h2
          omega
      · rcases hR' with h2 | h2
        · have := (h.rr k h2).2.1
          have := hb3.size
          omega
        · have := hva k h2
          omega
  · rw [List.getElem?_set_ne (by omega)] at hv0
    exact h.new m v0 hm hv0
  · have h9 := hg.size
    have h3 := hb3.size
    rw [hsz]
    rcases hk with h1 | h1
    · have := h.rr k h1
      exact ⟨this.1, by omega, this.2.2⟩
    · have h2 := hva k h1
      have h4 := h.bel.size
      have h5 := Ze h.var
      exact ⟨by omega, by omega, by omega, by omega⟩
end
theorem wclone_c {w : World} (k o a v0 v1 v2 : Int) (va : Value) (hA : ArgC w va) : Calls Tryz.prog 58 #[.agg #[I_ k, I_ o, I_ a, I_ v0, I_ v1, .int .u64 v2, va]] w (WclP w k o a v0 v1 v2) := by
 obtain ⟨aa, n, ca, xs, rfl, hn, h1, hC⟩ := hA
 have B0 := Za (Zu (Zd w (.cells #[I_ k, I_ o, I_ a, I_ v0, I_ v1, .int .u64 v2, .slice aa n ca] 67)) (.cells #[I_ 0, I_ 0, I_ 0, I_ 0, I_ 0, .int .u64 0, .slice none 0 0] 67))
 have V0 := Za ((Wv.new w k o a v0 v1 v2 (.slice aa n ca)).al (Zd _ (.cells #[I_ 0, I_ 0, I_ 0, I_ 0, I_ 0, .int .u64 0, .slice none 0 0] 67)))
 have V1 := Za (Wv.new (w.alloc (.cells #[I_ k, I_ o, I_ a, I_ v0, I_ v1, .int .u64 v2, .slice aa n ca] 67)) 0 0 0 0 0 0 (.slice none 0 0))
 have hsz : (w.alloc (.cells #[I_ k, I_ o, I_ a, I_ v0, I_ v1, .int .u64 v2, .slice aa n ca] 67)).heap.size = w.heap.size + 1 := by simp
 rw [hsz] at V1
 have CL := Za (hC _ B0.out)
 have H1 := Za h1
 clear h1 hC hsz
 go_enter Tryz.func58, Tryz.ntmps58
 go_wp2_with fail
 generalize (w.alloc _).alloc _ = w1 at *
 refine CL.out.mono ?_
 rintro e w2 ⟨a2, c2, rfl, o2, hb⟩
 have X1 := V0.out.al hb
 have X2 := V1.out.al hb
 obtain ⟨q0, q1, q2, q3, q4, q5, q6⟩ := X1.all
 obtain ⟨r0, r1, r2, r3, r4, r5, r6⟩ := X2.all
 have f6 := X1.frz 6
 have g0 := X2.frz 0
 have g1 := X2.frz 1
 have g2 := X2.frz 2
 have g3 := X2.frz 3
 have g4 := X2.frz 4
 have g5 := X2.frz 5
 have g6 := X2.frz 6
 have HX2 := Za X2
 have V1' := Za V1.out
 have B2 := Za (Zg B0.out hb)
 have O2 := Za (And.intro o2 B0.out.size)
 clear V0 V1 CL hb X1 X2 o2
 go_wp2_with fail
 have Y := ZR ((Below.heap_setCell w2 ⟨w.heap.size, 6, none⟩ (.slice a2 n c2) (w.heap.size + 1) (by simp)).trans HX2.out) (I_ k) (I_ o) (I_ a) (I_ v0) (I_ v1) (.int .u64 v2) (.slice a2 n c2)
 refine ret_wt (w.heap.size + 1) (v := (v0, v1, v2)) rfl rfl ⟨_, _, _, rfl⟩ Y rfl ⟨_, rfl, ⟨_, _, _, xs, rfl, hn, ?_, ?_⟩, ?_⟩
 · have hne : ∀ b, b = w.heap.size ∨ b = w.heap.size + 1 -> (Value.slice a2 n c2).ownBlock ≠ some b := fun b hb e => by
    have h1 := (Zf O2.out.1 e).1
    have h2 := Ze HX2.out
    have h3 := Ze V1'.out
    omega
   exact Zj (own_low O2.out.1 O2.out.2) fun k hk => (Zy (o := 0) (fun e => hne k (.inr e) hk)).trans (Below.heap_setCell _ _ _ _ (fun e => hne k (.inl e) hk))
 · exact H1.out
 · exact ZM (o := 0) (B2.out.setCell (p := ⟨w.heap.size, 6, none⟩) (Nat.le_refl _) _) (Nat.le_succ _)
def ScriptP (w : World) (S : List (List Wt)) (e : Ending) (w' : World) : Prop := ∃ vB R, e = .returned vB /\ Beg w' R vB S /\ (∀ k, R k -> w.heap.size <= k /\ k < w'.heap.size) /\ Below w.heap.size w w'
theorem Sc.beg {w wr : World} {vb ob n : Nat} {R : Nat -> Prop} {S : List (List Wt)} {vs : List Value} (h : Sc w wr vb ob n R S n 0 vs) (hn : n = S.length) (h2 : S.length <= 2000) : ∃ R', Beg wr R' (.func (.func 59) #[] #[P_ vb]) S /\ ∀ k, R' k -> w.heap.size <= k /\ k < wr.heap.size := by
 refine ⟨fun k => R k ∨ k = vb ∨ k = ob, ⟨vb, _, vs, rfl, .inr (.inl rfl), h.var, by rw [← hn]; exact h.row, fun k hk => by cases hk; exact .inr (.inr rfl), h2, fun i l v hl hv => (h.old i l v (by rw [hn]; exact (G_ hl)) hl hv).keep (fun _ _ => rfl) fun _ h => .inl h⟩, fun k hk => ?_⟩
 rcases hk with h1 | rfl | rfl
 · exact ⟨(h.rr k h1).1, (h.rr k h1).2.1⟩
 · exact ⟨h.lo.2, Ze h.var⟩
 · exact ⟨h.lo.1, (Zf h.row rfl).2.1⟩
theorem scripted_any {w : World} {v : Value} {S : List (List Wt)} (h : SSrc w v S) : Calls Tryz.prog 18 #[v] w (ScriptP w S) := by
  have HS := Za h
  obtain ⟨a, c, rfl, h2, h3⟩ := h
  have H2 := Za h2
  obtain ⟨n, hn⟩ : ∃ n, n = S.length := ⟨_, rfl⟩
  rw [← hn] at h2 ⊢
  have HN := Za hn
  have hmk := run_mkS n h2
  have hmf : ∀ (fn : Fn) (first cap : Array Value) (w : World), (Instr.makeFunc fn first cap).run Tryz.prog w = .ok (.func fn first cap) w := fun _ _ _ _ => rfl
  have I0 : Hid (∃ R vs, Sc w ((w.alloc (.cells (madeCells #[.slice none 0 0] n) 68)).alloc (.cells #[.slice (some ⟨w.heap.size, 0, none⟩) n n] 24)) (w.heap.size + 1) w.heap.size n R S 0 0 vs) := Za (by
    have e1 := B_ (w.alloc (.cells (madeCells #[.slice none 0 0] n) 68)) (.cells #[.slice (some ⟨w.heap.size, 0, none⟩) n n] 24)
    have hs : (w.alloc (.cells (madeCells #[.slice none 0 0] n) 68)).heap.size = w.heap.size + 1 := by simp
    rw [hs] at e1
    have o1 := own_madeS w n h2
    refine ⟨fun _ => False, List.replicate n (.slice none 0 0), { var := e1, row := Zj o1 (fun k hk => (Zd _ _).block k (Zf o1 hk).2.1), old := fun m l v hm => absurd hm (Nat.not_lt_zero _), cur := fun l v hl hv => ?_, new := fun m v hm hv => ?_, rr := fun k hk => hk.elim, lo := ⟨Nat.le_refl _, Nat.le_succ _⟩, bel := Zu (Zd _ _) _ }⟩
    · have := List.eq_of_mem_replicate (List.mem_of_getElem? hv)
      subst this
      exact ⟨[], rfl, fun _ h => (by cases h), (by simp [YL]; exact World.ownsRow_nil _ _ _ _), fun k hk => (by cases hk)⟩
    · exact List.eq_of_mem_replicate (List.mem_of_getElem? hv))
  clear h3 hn
  go_enter Tryz.func18, Tryz.ntmps18
  go_wp2_with fail
  generalize (w.alloc (.cells (madeCells #[.slice none 0 0] n) 68)).alloc _ = W0 at *
  have OB : Hid (w.heap.size < w.heap.size + 1) := Za (Nat.lt_succ_self _)
  obtain ⟨ob, hob⟩ : ∃ ob, ob = w.heap.size := ⟨_, rfl⟩
  obtain ⟨vb, hvb⟩ : ∃ vb, vb = w.heap.size + 1 := ⟨_, rfl⟩
  rw [← hvb] at I0 ⊢
  rw [← hob] at I0
  clear OB hmk hob hvb
  go_loopw [4, 5, 7, 13] (fun x4 x5 x7 i wr => ∃ (k : Nat), k <= n /\ i = I_ k /\ Hid (∃ R vs, Sc w wr vb ob n R S k 0 vs)) (fun x4 x5 x7 i _ => n - (intOf i).toNat)
  case atStart => exact ⟨0, Nat.zero_le _, rfl, I0⟩
  case round =>
    obtain ⟨k, hk, rfl, HI⟩ := hrel
    by_cases hlt : k < n
    · have hlt' : (k : Int) < (n : Int) := by omega
      obtain ⟨l, hl⟩ : ∃ l, S[k]? = some l := ⟨_, List.getElem?_eq_getElem (by rw [← HN.out]; exact hlt)⟩
      have HW : Hid (∃ b o vi, a = some ⟨b, o, none⟩ /\ b < wr.heap.size /\ wr.cell? ⟨b, o + k, none⟩ = some vi /\ WSrc w vi l) := Za (by
        obtain ⟨R, vs, sc⟩ := HI.out
        obtain ⟨a', c', e', _, h3⟩ := HS.out
        cases e'
        obtain ⟨b, o, vi, e1, e2, e3, e4⟩ := h3 k l hl
        exact ⟨b, o, vi, e1, Nat.lt_of_lt_of_le e2 sc.bel.size, (sc.bel.cell (p := ⟨b, o + k, none⟩) e2).trans e3, e4⟩)
      obtain ⟨b, o, vi, rfl, hbl, hc1, hws⟩ := HW.out
      have HWS := Za hws
      obtain ⟨ai, ci, rfl, hm2, hws3⟩ := hws
      obtain ⟨m, hm⟩ : ∃ m, m = l.length := ⟨_, rfl⟩
      rw [← hm] at hc1 hm2 HWS
      have HM := Za hm
      have HL := Za hl
      clear HW hws3 hl hm
      go_wp2_with fail
      go_loopw [7, 20] (fun x7 i2 wr => ∃ (j : Nat), j <= m /\ i2 = I_ j /\ Hid (∃ R vs, Sc w wr vb ob n R S k j vs)) (fun x7 i2 _ => m - (intOf i2).toNat)
      case atStart => exact ⟨0, Nat.zero_le _, rfl, HI⟩
      case round =>
        obtain ⟨j, hj, rfl, HJ⟩ := hrel
        by_cases hjt : j < m
        · have hjt' : (j : Int) < (m : Int) := by omega
          obtain ⟨R, vs, sc⟩ := HJ.out
          obtain ⟨x, hxj⟩ : ∃ x, l[j]? = some x := ⟨_, List.getElem?_eq_getElem (by rw [← HM.out]; exact hjt)⟩
          have HQ := HWS.out.bel sc.bel
          obtain ⟨ai', ci', ei', hq2, hq3⟩ := HQ
          cases ei'
          obtain ⟨b2, o2, va, rfl, hb2, hcl, hac⟩ := hq3 j x hxj
          obtain ⟨ax, nx, cx, xs, rfl, _⟩ := id hac
          obtain ⟨xk, xo, xa, x0, x1, x2⟩ := x
          have e0 : wr.cell? ⟨b2, o2 + j * 7, none⟩ = some (I_ xk) := hcl 0 _ rfl
          have e1 : wr.cell? ⟨b2, o2 + j * 7 + 1, none⟩ = some (I_ xo) := hcl 1 _ rfl
          have e2 : wr.cell? ⟨b2, o2 + j * 7 + 2, none⟩ = some (I_ xa) := hcl 2 _ rfl
          have e3 : wr.cell? ⟨b2, o2 + j * 7 + 3, none⟩ = some (I_ x0) := hcl 3 _ rfl
          have e4 : wr.cell? ⟨b2, o2 + j * 7 + 4, none⟩ = some (I_ x1) := hcl 4 _ rfl
          have e5 : wr.cell? ⟨b2, o2 + j * 7 + 5, none⟩ = some (.int .u64 x2) := hcl 5 _ rfl
          have e6 : wr.cell? ⟨b2, o2 + j * 7 + 6, none⟩ = some (.slice ax nx cx) := hcl 6 _ rfl
          obtain ⟨v, hv⟩ : ∃ v, vs[k]? = some v := ⟨_, List.getElem?_eq_getElem (by have := sc.row.1; omega)⟩
          obtain ⟨vas0, d1, d2, d3, d4⟩ := sc.cur l v HL.out hv
          obtain ⟨av, cv, ev, _⟩ := Zl d3
          subst ev
          have HXJ := Za hxj
          have HV := Za hv
          have VL0 := Za (fun (q : Nat) (hq : (Value.slice av j cv).ownBlock = some q) => (Zf d3 hq).2.1)
          have AC := Za (hac.bel (Zd wr (.cells #[I_ xk, I_ xo, I_ xa, I_ x0, I_ x1, .int .u64 x2, .slice ax nx cx] 67)))
          have SC := Za (sc.al (Zd wr (.cells #[I_ xk, I_ xo, I_ xa, I_ x0, I_ x1, .int .u64 x2, .slice ax nx cx] 67)))
          have V7 := Za (Wv.new wr xk xo xa x0 x1 x2 (.slice ax nx cx))
          have OB : Hid (ob ≠ vb /\ ob < wr.heap.size /\ vb < wr.heap.size) := Za ⟨fun e => Zv sc.row sc.var (by decide) (by rw [e]; rfl), (Zf sc.row (k := ob) rfl).2.1, Ze sc.var⟩
          have KL0 : Hid (∀ q ∈ [vb, wr.heap.size], q < (wr.alloc (.cells #[I_ xk, I_ xo, I_ xa, I_ x0, I_ x1, .int .u64 x2, .slice ax nx cx] 67)).drew.heap.size) := Za (fun q hq => by
            have h1 := V7.out.lt
            have h2 := OB.out
            show q < (wr.alloc (.cells #[I_ xk, I_ xo, I_ xa, I_ x0, I_ x1, .int .u64 x2, .slice ax nx cx] 67)).heap.size
            simp only [List.mem_cons, List.mem_nil_iff, or_false] at hq
            rcases hq with rfl | rfl <;> omega)
          clear hq3 hcl hac hxj hv d1 d2 d3 d4 sc HJ
          go_upto_region 8 with fail
          obtain ⟨lw, hlw⟩ : ∃ lw, wr.heap.size = lw := ⟨_, rfl⟩
          rw [hlw] at V7 OB KL0 VL0 ⊢
          have VL := VL0
          generalize wr.alloc _ = W1 at *
          clear e0 e1 e2 e3 e4 e5 e6 hlw VL0
          refine wp_region_held_drew (S := fun w' => Yr [vb, lw] W1.drew w') ZK (Yr.refl KL0.out) (fun hH => ?_)
          have SC' := Za (SC.out.al (wr' := W1.drew) (below_drewN (Below.refl _ _) 1))
          clear SC
          have SC := SC'
          clear SC'
          have V7' : Hid (Wv W1.drew lw xk xo xa (x0, x1, x2) (.slice ax nx cx)) := V7
          clear V7
          have V7 := V7'
          clear V7'
          have CL := Za (wclone_c (w := W1.drew) xk xo xa x0 x1 x2 (.slice ax nx cx) (AC.out.bel (w' := W1.drew) (below_drewN (Below.refl _ _) 1)))
          obtain ⟨vas, cc1, cc2, cc3, cc4⟩ := SC.out.cur l _ HL.out HV.out
          have HC : Hid (vas.length = j /\ (∀ va ∈ vas, YN W1.drew R va) /\ W1.drew.ownsRow w.heap.size 67 7 (.slice av j cv) j (YL (l.take j) vas) /\ ∀ k, (Value.slice av j cv).ownBlock = some k -> ¬ R k) := Za ⟨cc1, cc2, cc3, cc4⟩
          clear cc1 cc2 cc3 cc4
          have VN : Hid (∀ q ∈ [vb, lw], (Value.slice av j cv).ownBlock ≠ some q) := Za (fun q hq => by
            simp only [List.mem_cons, List.mem_nil_iff, or_false] at hq
            rcases hq with rfl | rfl
            · exact Zv HC.out.2.2.1 SC.out.var (by decide)
            · exact fun e => absurd (VL.out _ e) (by omega))
          have VO : Hid ((Value.slice av j cv).ownBlock ≠ some ob) := Za (fun e => Zo HC.out.2.2.1 SC.out.row (by decide) ob e rfl)
          have C0 : Hid (W1.drew.cell? ⟨vb, 0, none⟩ = some (.slice (some ⟨ob, 0, none⟩) n n)) := Za (Zb SC.out.var 0 _ rfl)
          generalize W1.drew = Y0 at *
          refine H_ 0 (v := ?_) ?_ hH ?_
          rotate_left 1
          · (intro w hSw; have q := hSw.cell (by simp) C0.out; clear hSw; go_simp <;> with_reducible rfl)
          simp only [Act.put, S_]
          refine H2_ 1 hH ?_
          simp only [Act.put, S_]
          refine H_ 2 (v := ?_) ?_ hH ?_
          rotate_left 1
          · (intro w hSw; have q := hSw.cell (by simp) C0.out; clear hSw; go_simp <;> with_reducible rfl)
          simp only [Act.put, S_]
          refine H2_ 3 hH ?_
          simp only [Act.put, S_]
          refine H2_ 4 hH ?_
          simp only [Act.put, S_]
          refine H_ 6 (v := ?_) ?_ hH ?_
          rotate_left 1
          · (intro w hSw; obtain ⟨z0, z1, z2, z3, z4, z5, z6⟩ := V7.out.all; have q0 := hSw.cell (by simp) z0; have q1 := hSw.cell (by simp) z1; have q2 := hSw.cell (by simp) z2; have q3 := hSw.cell (by simp) z3; have q4 := hSw.cell (by simp) z4; have q5 := hSw.cell (by simp) z5; have q6 := hSw.cell (by simp) z6; clear hSw; go_simp <;> with_reducible rfl)
          simp only [Act.put, S_]
          refine wpAnyH_ready (rs := [5, 7]) (by kernel_rfl) (by decide) ?_
          refine AllReadyH.cons rfl (fun K1 hK1 => ?_) (AllReadyH.cons rfl (fun K1 hK1 => ?_) AllReadyH.nil)
          · have q := (show Y0.cell? ⟨ob, k, none⟩ = some (.slice av j cv) from (Zk SC.out.row k _ HV.out).1)
            go_simp
            refine hK1.out _ _ hH (fun hH => ?_)
            clear hK1 K1 q
            refine RH_ 7 (fun K1 hK1 => ?_)
            go_simp
            refine CL.out.mono ?_
            rintro e w3 ⟨v3, rfl, a3, b3⟩
            obtain ⟨a5, n5, c5, x5, rfl, _⟩ := id a3
            refine hK1.out _ _ (hH.al b3) (fun hH => ?_)
            clear hK1 K1
            have SC3 := Za (SC.out.al b3)
            have A3 := Za (And.intro a3 b3)
            clear a3 b3
            have PU := Za (fun ty => push_w (w := w3) (n := j) (l := l.take j) (vas := vas) (by simp; omega) (by simp; have := HC.out.1; omega) (Zj HC.out.2.2.1 (fun k hk => A3.out.2.block k (Zf HC.out.2.2.1 hk).2.1)) (by simp; omega) (Nat.le_trans SC.out.bel.size A3.out.2.size) ⟨xk, xo, xa, (x0, x1, x2)⟩ (.slice a5 n5 c5) rfl ty)
            refine RH_ 8 (fun K1 hK1 => ?_)
            go_simp
            refine hK1.out _ _ (hH.al (Zd w3 _)) (fun hH => ?_)
            clear hK1 K1
            refine RH_ 9 (fun K1 hK1 => ?_)
            refine Zr (TS := 68) (.tmp 29) (.tmp 32) _ _ _ (fun ty => PU.out ty) rfl rfl rfl rfl ?_
            rintro v9 w9 ⟨⟨a9, c9, rfl⟩, o9, g9, b9⟩
            refine hK1.out _ _ ⟨Nat.le_trans A3.out.2.size g9.size, hH.2.1, fun q hq => (g9.block q (Nat.lt_of_lt_of_le (hH.2.1 q hq) A3.out.2.size) (fun e => VN.out q hq e.symm)).trans (A3.out.2.block q (hH.2.1 q hq))⟩ (fun hH => ?_)
            clear hK1 K1
            have R9 := Za (And.intro o9 (And.intro g9 b9))
            clear o9 g9 b9
            refine H2_ 10 hH ?_
            simp only [Act.put, S_]
            refine RH_ 11 (fun K1 hK1 => ?_)
            have OR : w9.ownsRow 0 68 1 (.slice (some ⟨ob, 0, none⟩) n n) n vs := Zj SC3.out.row (fun q hq => R9.out.2.1.block q (Zf SC3.out.row hq).2.1 (fun e => VO.out (by cases hq; exact e.symm)))
            obtain ⟨z1, z2⟩ := Zk OR k _ HV.out
            go_simp
            refine hK1.out _ _ (hH.turn (t := ob) (by rw [Zi]; exact Nat.le_refl _) (fun q _ hq => Below.heap_setCell _ _ _ _ hq) (fun hm => by have := OB.out; simp at hm; omega)) (fun hH => ?_)
            clear hK1 K1 z1 z2 OR
            refine wpAnyH_done (by kernel_rfl) ?_ _
            clear hH
            go_wp2_with fail
            go_roundw
            case rel =>
              obtain ⟨R', s9⟩ := SC.out.push HL.out HXJ.out (by omega) HV.out HC.out.1 HC.out.2.1 (fun q hq => ⟨HC.out.2.2.2 q hq, (Zf HC.out.2.2.1 hq).2.1⟩) A3.out.2 A3.out.1 (by have := R9.out.1; exact this) R9.out.2.1 R9.out.2.2 (fun q hq => (Zf HC.out.2.2.1 hq).2.2)
              exact ⟨j + 1, by omega, by go_num, Za ⟨R', _, s9⟩⟩
            case measure => simp [intOf]; omega
          · go_simp
            refine CL.out.mono ?_
            rintro e w3 ⟨v3, rfl, a3, b3⟩
            obtain ⟨a5, n5, c5, x5, rfl, _⟩ := id a3
            refine hK1.out _ _ (hH.al b3) (fun hH => ?_)
            clear hK1 K1
            have SC3 := Za (SC.out.al b3)
            have A3 := Za (And.intro a3 b3)
            clear a3 b3
            have PU := Za (fun ty => push_w (w := w3) (n := j) (l := l.take j) (vas := vas) (by simp; omega) (by simp; have := HC.out.1; omega) (Zj HC.out.2.2.1 (fun k hk => A3.out.2.block k (Zf HC.out.2.2.1 hk).2.1)) (by simp; omega) (Nat.le_trans SC.out.bel.size A3.out.2.size) ⟨xk, xo, xa, (x0, x1, x2)⟩ (.slice a5 n5 c5) rfl ty)
            refine wpAnyH_ready (rs := [5, 8]) (by kernel_rfl) (by decide) ?_
            refine AllReadyH.cons rfl (fun K1 hK1 => ?_) (AllReadyH.cons rfl (fun K1 hK1 => ?_) AllReadyH.nil)
            · have q := (show w3.cell? ⟨ob, k, none⟩ = some (.slice av j cv) from (Zk SC3.out.row k _ HV.out).1)
              go_simp
              refine hK1.out _ _ hH (fun hH => ?_)
              clear hK1 K1 q
              refine RH_ 8 (fun K1 hK1 => ?_)
              go_simp
              refine hK1.out _ _ (hH.al (Zd w3 _)) (fun hH => ?_)
              clear hK1 K1
              refine RH_ 9 (fun K1 hK1 => ?_)
              refine Zr (TS := 68) (.tmp 29) (.tmp 32) _ _ _ (fun ty => PU.out ty) rfl rfl rfl rfl ?_
              rintro v9 w9 ⟨⟨a9, c9, rfl⟩, o9, g9, b9⟩
              refine hK1.out _ _ ⟨Nat.le_trans A3.out.2.size g9.size, hH.2.1, fun q hq => (g9.block q (Nat.lt_of_lt_of_le (hH.2.1 q hq) A3.out.2.size) (fun e => VN.out q hq e.symm)).trans (A3.out.2.block q (hH.2.1 q hq))⟩ (fun hH => ?_)
              clear hK1 K1
              have R9 := Za (And.intro o9 (And.intro g9 b9))
              clear o9 g9 b9
              refine H2_ 10 hH ?_
              simp only [Act.put, S_]
              refine RH_ 11 (fun K1 hK1 => ?_)
              have OR : w9.ownsRow 0 68 1 (.slice (some ⟨ob, 0, none⟩) n n) n vs := Zj SC3.out.row (fun q hq => R9.out.2.1.block q (Zf SC3.out.row hq).2.1 (fun e => VO.out (by cases hq; exact e.symm)))
              obtain ⟨z1, z2⟩ := Zk OR k _ HV.out
              go_simp
              refine hK1.out _ _ (hH.turn (t := ob) (by rw [Zi]; exact Nat.le_refl _) (fun q _ hq => Below.heap_setCell _ _ _ _ hq) (fun hm => by have := OB.out; simp at hm; omega)) (fun hH => ?_)
              clear hK1 K1 z1 z2 OR
              refine wpAnyH_done (by kernel_rfl) ?_ _
              clear hH
              go_wp2_with fail
              go_roundw
              case rel =>
                obtain ⟨R', s9⟩ := SC.out.push HL.out HXJ.out (by omega) HV.out HC.out.1 HC.out.2.1 (fun q hq => ⟨HC.out.2.2.2 q hq, (Zf HC.out.2.2.1 hq).2.1⟩) A3.out.2 A3.out.1 (by have := R9.out.1; exact this) R9.out.2.1 R9.out.2.2 (fun q hq => (Zf HC.out.2.2.1 hq).2.2)
                exact ⟨j + 1, by omega, by go_num, Za ⟨R', _, s9⟩⟩
              case measure => simp [intOf]; omega
            · go_simp
              refine hK1.out _ _ (hH.al (Zd w3 _)) (fun hH => ?_)
              clear hK1 K1
              refine RH_ 5 (fun K1 hK1 => ?_)
              have q := (show (w3.alloc (.cells #[I_ xk, I_ xo, I_ xa, I_ x0, I_ x1, .int .u64 x2, .slice a5 n5 c5] 67)).cell? ⟨ob, k, none⟩ = some (.slice av j cv) from (Zk (SC3.out.al (Zd w3 (.cells #[I_ xk, I_ xo, I_ xa, I_ x0, I_ x1, .int .u64 x2, .slice a5 n5 c5] 67))).row k _ HV.out).1)
              go_simp
              refine hK1.out _ _ hH (fun hH => ?_)
              clear hK1 K1 q
              refine RH_ 9 (fun K1 hK1 => ?_)
              refine Zr (TS := 68) (.tmp 29) (.tmp 32) _ _ _ (fun ty => PU.out ty) rfl rfl rfl rfl ?_
              rintro v9 w9 ⟨⟨a9, c9, rfl⟩, o9, g9, b9⟩
              refine hK1.out _ _ ⟨Nat.le_trans A3.out.2.size g9.size, hH.2.1, fun q hq => (g9.block q (Nat.lt_of_lt_of_le (hH.2.1 q hq) A3.out.2.size) (fun e => VN.out q hq e.symm)).trans (A3.out.2.block q (hH.2.1 q hq))⟩ (fun hH => ?_)
              clear hK1 K1
              have R9 := Za (And.intro o9 (And.intro g9 b9))
              clear o9 g9 b9
              refine H2_ 10 hH ?_
              simp only [Act.put, S_]
              refine RH_ 11 (fun K1 hK1 => ?_)
              have OR : w9.ownsRow 0 68 1 (.slice (some ⟨ob, 0, none⟩) n n) n vs := Zj SC3.out.row (fun q hq => R9.out.2.1.block q (Zf SC3.out.row hq).2.1 (fun e => VO.out (by cases hq; exact e.symm)))
              obtain ⟨z1, z2⟩ := Zk OR k _ HV.out
              go_simp
              refine hK1.out _ _ (hH.turn (t := ob) (by rw [Zi]; exact Nat.le_refl _) (fun q _ hq => Below.heap_setCell _ _ _ _ hq) (fun hm => by have := OB.out; simp at hm; omega)) (fun hH => ?_)
              clear hK1 K1 z1 z2 OR
              refine wpAnyH_done (by kernel_rfl) ?_ _
              clear hH
              go_wp2_with fail
              go_roundw
              case rel =>
                obtain ⟨R', s9⟩ := SC.out.push HL.out HXJ.out (by omega) HV.out HC.out.1 HC.out.2.1 (fun q hq => ⟨HC.out.2.2.2 q hq, (Zf HC.out.2.2.1 hq).2.1⟩) A3.out.2 A3.out.1 (by have := R9.out.1; exact this) R9.out.2.1 R9.out.2.2 (fun q hq => (Zf HC.out.2.2.1 hq).2.2)
                exact ⟨j + 1, by omega, by go_num, Za ⟨R', _, s9⟩⟩
              case measure => simp [intOf]; omega
        · have ej : j = m := by omega
          subst ej
          have HJ2 : Hid (∃ R vs, Sc w wr vb ob n R S (k + 1) 0 vs) := Za (by
            obtain ⟨R, vs, sc⟩ := HJ.out
            obtain ⟨R', sc'⟩ := sc.next HL.out HM.out HN.out
            exact ⟨R', vs, sc'⟩)
          clear HJ
          go_wp2_with fail
          go_roundw
          case rel => exact ⟨k + 1, by omega, by go_num, HJ2⟩
          case measure => simp [intOf]; omega
    · have ek : k = n := by omega
      subst ek
      go_wp2_with fail
      go_ret
      obtain ⟨R, vs, sc⟩ := HI.out
      obtain ⟨R', b1, b2⟩ := sc.beg HN.out H2.out
      exact ⟨_, R', rfl, b1, b2, sc.bel⟩
end Go.Proofs.YtfojninaginnoaaGreatDoor.Ck
