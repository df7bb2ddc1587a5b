/- Texts of this proof, packed: contracts of the program's functions, and the plain model that they are held against. -/
import Derived.Test.YtfojninaginnoaaGreatDoorVai
set_option maxRecDepth 20000
set_option maxHeartbeats 4000000
namespace Go.Proofs.YtfojninaginnoaaGreatDoor.Ck
open Go.RowKit
theorem push_n {w : World} {v : Value} {l : List Nat} {n gx : Nat} (hn : n = l.length) (hl : n <= 1000) (ho : w.ownsRow 0 3 1 v n (nns l)) (x : Nat) (hx : w.cell? ⟨gx, 0, none⟩ = some (I_ (x : Nat))) (ty : TypeId) :
 ∃ v' w', (Builtin.append_ #[22, 22] ty #[v, .slice (some ⟨gx, 0, none⟩) 1 1]).run Tryz.prog w = .ok v' w' /\ ((∃ a c, v' = .slice a (n + 1) c) /\ w'.ownsRow 0 3 1 v' (n + 1) (nns (l ++ [x])) /\ w.grownBy w' v.ownBlock /\ (∀ k, v'.ownBlock = some k -> v.ownBlock = some k ∨ w.heap.size <= k)) := by
 obtain ⟨ie, hi, hz0, hz1, hz2⟩ := info_parts info3
 have hc : ∀ (j : Nat) (u : Value), (nns [x])[j]? = some u -> w.cell? ((⟨gx, 0, none⟩ : Addr).add j) = some u := fun j u hu => by
  cases j with
  | zero =>
   simp [nns] at hu
   subst hu
   exact hx
  | succ j => simp [nns] at hu
 obtain ⟨v', w', hr, ho', hg, _, hat⟩ := run_append_own_at (P := Tryz.prog) w 0 22 ty 3 ie _ 1 8 Tryz.underlying22 hi hz0 hz1 hz2 rfl (by decide) v n (nns l) ho ⟨gx, 0, none⟩ 1 1 (nns [x]) rfl hc (fun u hu => by simp [nns] at hu; subst hu; rfl) (by unfold maxLen; omega) (by omega) (Nat.zero_le _)
 obtain ⟨a9, c9, e9, _⟩ := Zl ho'
 refine ⟨v', w', hr, ⟨_, _, e9⟩, by rw [show nns (l ++ [x]) = nns l ++ nns [x] by simp [nns]]; exact ho', hg, fun k hk => ?_⟩
 rcases hat with e | e
 · exact .inl (e.symm.trans hk)
 · rw [e] at hk
   right
   have := Option.some.inj hk
   omega
section
variable {w : World} {G Fs Rs Fo R : Nat → Prop} {B g gs gt : Nat} {S : List (List Wt)} {r : Rz} {vW vE vL vO vA : Value} {vs : List Value} {os as_ : List Nat}
theorem Rq.begun (h : Rq w Fs Rs Fo R B g gs gt S r vW vE vL vO vA vs os as_) {w2 : World} {v1 v2 : Value} (fn : Nat) (l : List Wt) (hl : S[fn]? = some l) (hp : r.pe.length <= 8)
 (h1 : w2.ownsRow 0 3 1 v1 (r.pe.length + 1) (nns (os ++ [fn]))) (h2 : w2.ownsRow 0 3 1 v2 (r.pe.length + 1) (nns (as_ ++ [0]))) (hne : ∀ k, v1.ownBlock = some k -> v2.ownBlock ≠ some k)
 (c : Ch (fun k => vO.ownBlock = some k ∨ vA.ownBlock = some k) (fun k => v1.ownBlock = some k ∨ v2.ownBlock = some k) w w2) :
 Rq ((w2.setCell ⟨gt, 1, none⟩ v1).setCell ⟨gt, 2, none⟩ v2) Fs Rs (fun k => Fo k ∨ v1.ownBlock = some k ∨ v2.ownBlock = some k) R B g gs gt S { r with pe := r.pe ++ [l] } vW vE vL v1 v2 vs (os ++ [fn]) (as_ ++ [0]) /\ Ch Fo (fun k => Fo k ∨ v1.ownBlock = some k ∨ v2.ownBlock = some k) w ((w2.setCell ⟨gt, 1, none⟩ v1).setCell ⟨gt, 2, none⟩ v2) := by
 have hsz : ((w2.setCell ⟨gt, 1, none⟩ v1).setCell ⟨gt, 2, none⟩ v2).heap.size = w2.heap.size := by rw [Zi, Zi]
 have hk2 : ∀ {k : Nat}, k ≠ gt -> ((w2.setCell ⟨gt, 1, none⟩ v1).setCell ⟨gt, 2, none⟩ v2).heap[k]? = w2.heap[k]? := fun {k} hk => (Below.heap_setCell _ _ _ _ hk).trans (Below.heap_setCell _ _ _ _ hk)
 obtain ⟨⟨n1, n2, n3, n4⟩, ⟨n6, n7, n8, n9⟩, n5⟩ := h.rowne
 have hk0 : ∀ {k : Nat}, k < w.heap.size -> vO.ownBlock ≠ some k -> vA.ownBlock ≠ some k -> k ≠ gt -> ((w2.setCell ⟨gt, 1, none⟩ v1).setCell ⟨gt, 2, none⟩ v2).heap[k]? = w.heap[k]? := fun {k} a b c' d => (hk2 d).trans (c.blk k a (fun e => e.elim b c'))
 have hA : ∀ {T : TypeId} {n : Nat} {v : Value} {len : Nat} {xs : List Value}, w.ownsRow 0 T n v len xs -> T ≠ 3 -> T ≠ 79 -> ((w2.setCell ⟨gt, 1, none⟩ v1).setCell ⟨gt, 2, none⟩ v2).ownsRow 0 T n v len xs := fun hr h1 h2 => Zj hr fun k hk => hk0 (Zf hr hk).2.1 (fun e => Zo hr h.of h1 k hk e) (fun e => Zo hr h.at' h1 k hk e) (fun e => Zu hr h.tt h2 (by rw [hk, e]))
 have hR : ∀ k, R k -> ((w2.setCell ⟨gt, 1, none⟩ v1).setCell ⟨gt, 2, none⟩ v2).heap[k]? = w.heap[k]? := fun k hk => hk0 (h.rb k hk) (fun e => (h.ro k hk).2 (h.fO k e)) (fun e => (h.ro k hk).2 (h.fA k e)) (fun e => (h.ro k hk).2 (by rw [e]; exact h.ft))
 have hnew : ∀ k, v1.ownBlock = some k ∨ v2.ownBlock = some k -> Fo k ∨ w.heap.size <= k := fun k hk => (c.grow k hk).imp (fun e => e.elim (h.fO k) (h.fA k)) id
 have hgt := h.fb gt h.ft
 have hv1 : v1.ownBlock ≠ some gt := fun e => by
  rcases c.grow gt (.inl e) with h3 | h3
  · exact h3.elim n8 n9
  · omega
 have hv2 : v2.ownBlock ≠ some gt := fun e => by
  rcases c.grow gt (.inr e) with h3 | h3
  · exact h3.elim n8 n9
  · omega
 have hle : w.heap.size <= ((w2.setCell ⟨gt, 1, none⟩ v1).setCell ⟨gt, 2, none⟩ v2).heap.size := by rw [hsz]; exact c.size
 obtain ⟨ol, al, _⟩ := h.ol
 refine ⟨{ h with
  at_ := (hk0 (h.fb g h.fg) n3 n4 n5).trans h.at_
  st := h.st.keep (fun k hk => ?_) hle
  wa := hA h.wa (by decide) (by decide)
  ev := hA h.ev (by decide) (by decide)
  tt := heap_setCell_same _ _ _ _ _ _ (heap_setCell_same _ _ _ _ _ _ ((c.blk gt hgt (fun e => e.elim n8 n9)).trans h.tt))
  al := Zj h.al fun k hk => hR k (h.fL k hk)
  row := fun i l v hl hv => ⟨Zj (h.row i l v hl hv).1 fun k hk => hR k ((h.row i l v hl hv).2 k hk), (h.row i l v hl hv).2⟩
  of := by
   show World.ownsRow _ 0 3 1 _ (r.pe ++ [l]).length _
   rw [List.length_append]
   exact Zj h1 fun k hk => hk2 (fun e => hv1 (by rw [hk, e]))
  at' := by
   show World.ownsRow _ 0 3 1 _ (r.pe ++ [l]).length _
   rw [List.length_append]
   exact Zj h2 fun k hk => hk2 (fun e => hv2 (by rw [hk, e]))
  pos := fun j y o' a' hy hj hj' => ?_
  ne := hne
  fg := .inl h.fg
  ft := .inl h.ft
  fW := fun k hk => .inl (h.fW k hk)
  fE := fun k hk => .inl (h.fE k hk)
  fO := fun k hk => .inr (.inl hk)
  fA := fun k hk => .inr (.inr hk)
  so := fun k hk => ?_
  ro := fun k hk => ⟨(h.ro k hk).1, fun e => ?_⟩
  fb := fun k hk => ?_
  rb := fun k hk => Nat.lt_of_lt_of_le (h.rb k hk) hle
  n8 := ⟨h.n8.1, by rw [List.length_append]; simp; omega⟩ }, ⟨c.os, c.tape, c.output, hle, fun k hk hF => hk0 hk (fun e => hF (h.fO k e)) (fun e => hF (h.fA k e)) (fun e => hF (by rw [e]; exact h.ft)), fun k hk => ?_⟩⟩
 · have hF : ∀ j, Fo j -> k ≠ j := fun j hj e => hk.elim (fun q => (h.so j hj).1 (by rw [← e]; exact q)) (fun q => (h.so j hj).2 (by rw [← e]; exact q))
   exact hk0 (hk.elim (h.st.fb k) (h.st.rb k)) (fun e => hF k (h.fO k e) rfl) (fun e => hF k (h.fA k e) rfl) (hF gt h.ft)
 · by_cases e : j < r.pe.length
   · rw [List.getElem?_append_left e] at hy
     rw [List.getElem?_append_left (by omega)] at hj hj'
     exact h.pos j y o' a' hy hj hj'
   · obtain rfl : j = r.pe.length := by
      have := (G_ hy)
      simp at this
      omega
     rw [List.getElem?_append_right (by omega)] at hy hj hj'
     simp [ol, al] at hy hj hj'
     subst hy hj hj'
     exact ⟨l, hl, Nat.zero_le _, rfl⟩
 · rcases hk with h3 | h3
   · exact h.so k h3
   · rcases hnew k h3 with h4 | h4
     · exact h.so k h4
     · exact ⟨fun e => by have := h.st.fb k e; omega, fun e => by have := h.st.rb k e; omega⟩
 · rcases e with h3 | h3
   · exact (h.ro k hk).2 h3
   · rcases hnew k h3 with h4 | h4
     · exact (h.ro k hk).2 h4
     · have := h.rb k hk
       omega
 · rw [hsz]
   rcases hk with h3 | h3 | h3
   · exact Nat.lt_of_lt_of_le (h.fb k h3) c.size
   · exact (Zf h1 h3).2.1
   · exact (Zf h2 h3).2.1
 · rcases hk with h3 | h3
   · exact .inl h3
   · exact hnew k h3
end
structure Bgn (w wz : World) (gt : Nat) (ob : Obj) (vO vA v1 v2 : Value) (k1 k2 : Nat) (l1 l2 : List Nat) : Prop where
 o1 : wz.ownsRow 0 3 1 v1 k1 (nns l1)
 o2 : wz.ownsRow 0 3 1 v2 k2 (nns l2)
 ne : ∀ k, v1.ownBlock = some k -> v2.ownBlock ≠ some k
 n1 : v1.ownBlock ≠ some gt
 n2 : v2.ownBlock ≠ some gt
 tt : wz.heap[gt]? = some ob
 c : Ch (fun k => vO.ownBlock = some k ∨ vA.ownBlock = some k) (fun k => v1.ownBlock = some k ∨ v2.ownBlock = some k) w wz
section
variable {w wz wy : World} {gt : Nat} {ob : Obj} {vO vA v1 v2 v' : Value} {k1 k2 : Nat} {l1 l2 : List Nat}
theorem Bgn.al (h : Bgn w wz gt ob vO vA v1 v2 k1 k2 l1 l2) (hb : Below wz.heap.size wz wy) : Bgn w wy gt ob vO vA v1 v2 k1 k2 l1 l2 :=
 { h with
  o1 := Zj h.o1 fun k hk => hb.block k (Zf h.o1 hk).2.1
  o2 := Zj h.o2 fun k hk => hb.block k (Zf h.o2 hk).2.1
  tt := (hb.block gt (Ze h.tt)).trans h.tt
  c := h.c.trans (Ch.of_bel hb) }
theorem Bgn.push1 (h : Bgn w wz gt ob vO vA v1 v2 k1 k2 l1 l2) {x : Nat} (ho : wy.ownsRow 0 3 1 v' (k1 + 1) (nns (l1 ++ [x]))) (hg : wz.grownBy wy v1.ownBlock) (hb : ∀ k, v'.ownBlock = some k -> v1.ownBlock = some k ∨ wz.heap.size <= k) : Bgn w wy gt ob vO vA v' v2 (k1 + 1) k2 (l1 ++ [x]) l2 :=
 { h with
  o1 := ho
  o2 := Zj h.o2 fun k hk => hg.block k (Zf h.o2 hk).2.1 (fun e => h.ne k e.symm hk)
  ne := fun k hk e => by
   rcases hb k hk with h1 | h1
   · exact h.ne k h1 e
   · have := (Zf h.o2 e).2.1
     omega
  n1 := fun e => by
   rcases hb gt e with h1 | h1
   · exact h.n1 h1
   · have := Ze h.tt
     omega
  tt := (hg.block gt (Ze h.tt) (fun e => h.n1 e.symm)).trans h.tt
  c := h.c.trans ⟨hg.os, hg.tape, hg.output, hg.size, fun k hk hn => hg.block k hk (fun e => hn (.inl e.symm)), fun k hk => hk.elim (fun e => (hb k e).imp .inl id) (fun e => .inl (.inr e))⟩ }
theorem Bgn.push2 (h : Bgn w wz gt ob vO vA v1 v2 k1 k2 l1 l2) {x : Nat} (ho : wy.ownsRow 0 3 1 v' (k2 + 1) (nns (l2 ++ [x]))) (hg : wz.grownBy wy v2.ownBlock) (hb : ∀ k, v'.ownBlock = some k -> v2.ownBlock = some k ∨ wz.heap.size <= k) : Bgn w wy gt ob vO vA v1 v' k1 (k2 + 1) l1 (l2 ++ [x]) :=
 { h with
  o2 := ho
  o1 := Zj h.o1 fun k hk => hg.block k (Zf h.o1 hk).2.1 (fun e => h.ne k hk e.symm)
  ne := fun k hk e => by
   rcases hb k e with h1 | h1
   · exact h.ne k hk h1
   · have := (Zf h.o1 hk).2.1
     omega
  n2 := fun e => by
   rcases hb gt e with h1 | h1
   · exact h.n2 h1
   · have := Ze h.tt
     omega
  tt := (hg.block gt (Ze h.tt) (fun e => h.n2 e.symm)).trans h.tt
  c := h.c.trans ⟨hg.os, hg.tape, hg.output, hg.size, fun k hk hn => hg.block k hk (fun e => hn (.inr e.symm)), fun k hk => hk.elim (fun e => .inl (.inl e)) (fun e => (hb k e).imp .inr id)⟩ }
end
theorem begin_no {w : World} {Fs Rs Fo R : Nat -> Prop} {B g gs gt : Nat} {S : List (List Wt)} {r : Rz} {vW vE vL vO vA : Value} {vs : List Value} {os as_ : List Nat} (h : Rq w Fs Rs Fo R B g gs gt S r vW vE vL vO vA vs os as_) (fn : Int) (hf : lk S fn = none) : Calls Tryz.prog 40 #[P_ gt, I_ fn] w fun e w' => e = .returned (.bool false) /\ w = w' := by
 have hn := YE hf
 have c0 := h.cells.2.2.1
 obtain ⟨aL, cL, eL, _⟩ := Zl h.al
 subst eL
 generalize S.length = nS at *
 clear h hf
 by_cases h0 : fn < 0
 · clear hn
   go_enter Tryz.func40, Tryz.ntmps40
   go_wp2_with fail
   go_ret
   exact ⟨by simp, rfl⟩
 · have h1 : (nS : Int) <= fn := by omega
   have h2 : 0 <= fn := by omega
   clear hn h0
   go_enter Tryz.func40, Tryz.ntmps40
   go_wp2_with fail
   go_ret
   exact ⟨by simp, rfl⟩
theorem begin_ok {w : World} {G Fs Rs Fo R : Nat -> Prop} {B g gs gt : Nat} {S : List (List Wt)} {r : Rz} {vW vE vL vO vA : Value} {vs : List Value} {os as_ : List Nat} (h : Rq w Fs Rs Fo R B g gs gt S r vW vE vL vO vA vs os as_) (hG : ∀ k, G k ↔ Fs k ∨ Rs k ∨ Fo k ∨ R k) (fn : Nat) (l : List Wt) (hl : S[fn]? = some l) (hp : r.pe.length <= 8) : Calls Tryz.prog 40 #[P_ gt, I_ (fn : Nat)] w (RrP w G B g S { r with pe := r.pe ++ [l] } (.bool true)) := by
  obtain ⟨n, hn⟩ : ∃ n, n = r.pe.length := ⟨_, rfl⟩
  obtain ⟨hol, hal, _⟩ := h.ol
  obtain ⟨aO, cO, eO, _⟩ := Zl h.of
  obtain ⟨aA, cA, eA, _⟩ := Zl h.at'
  obtain ⟨aL, cL, eL, _⟩ := Zl h.al
  rw [← hn] at eO eA
  subst eO eA eL
  have hfS := (G_ hl)
  obtain ⟨nS, hnS⟩ : ∃ n, n = S.length := ⟨_, rfl⟩
  have hlt : (fn : Int) < (nS : Int) := by omega
  have c0 := h.cells.2.2.1
  rw [← hnS] at c0
  have hd := h.bel (Zp (Below.refl _ _))
  have HQ := Za hd
  have HG := Za hG
  have HL := Za hl
  have HLN : Hid (n = os.length /\ n = as_.length /\ n <= 1000) := Za ⟨by omega, by omega, by omega⟩
  have HPN : Hid (r.pe.length = n) := Za hn.symm
  have HP8 : Hid (n <= 8) := Za (by omega)
  have HBD : Hid (Below w.heap.size w w.drew) := Za (Zp (Below.refl _ _))
  obtain ⟨_, ⟨m6, m7, m8, m9⟩, _⟩ := hd.rowne
  have X : Hid (Bgn w.drew w.drew gt (.cells #[.slice aL nS cL, .slice aO n cO, .slice aA n cA] 79 (0, 0)) (.slice aO n cO) (.slice aA n cA) (.slice aO n cO) (.slice aA n cA) n n os as_) := Za ⟨by have := hd.of; rw [← hn] at this; exact this, by have := hd.at'; rw [← hn] at this; exact this, hd.ne, m8, m9, by rw [hnS]; exact hd.tt, Ch.refl _ _⟩
  have HLO : Hid (∀ k, (Value.slice aO n cO).ownBlock = some k -> k < w.drew.heap.size) := Za (fun k hk => (Zf hd.of hk).2.1)
  clear h hd hG hl hp hn hol hal hfS hnS m6 m7 m8 m9
  go_enter Tryz.func40, Tryz.ntmps40
  go_upto_region 3 with fail
  refine ZD (S := fun w' => w'.heap[gt]? = some (.cells #[.slice aL nS cL, .slice aO n cO, .slice aA n cA] 79 (0, 0))) (fun j => decide (j < 15)) ZJ X.out.tt (fun hH => ?_)
  generalize w.drew = wd at *
  refine M_ 0 ?_
  simp only [Act.put, S_]
  refine M_ 1 ?_
  simp only [Act.put, S_]
  refine M_ 2 ?_
  simp only [Act.put, S_]
  refine M_ 3 ?_
  simp only [Act.put, S_]
  refine M_ 4 ?_
  simp only [Act.put, S_]
  refine L_ 5 (v := ?_) ?_ hH ?_
  rotate_left 1
  · (intro w hSw; have q := Zb hSw 1 _ rfl; clear hSw; go_simp <;> with_reducible rfl)
  simp only [Act.put, S_]
  refine M_ 6 ?_
  simp only [Act.put, S_]
  refine M_ 9 ?_
  simp only [Act.put, S_]
  refine M_ 10 ?_
  simp only [Act.put, S_]
  refine M_ 11 ?_
  simp only [Act.put, S_]
  refine L_ 12 (v := ?_) ?_ hH ?_
  rotate_left 1
  · (intro w hSw; have q := Zb hSw 2 _ rfl; clear hSw; go_simp <;> with_reducible rfl)
  simp only [Act.put, S_]
  clear hH
  refine ZS (rs := [7, 13]) (by kernel_rfl) (by decide) ?_
  refine Zn.cons rfl (fun K1 hK1 => ?_) (Zn.cons rfl (fun K1 hK1 => ?_) Zn.nil)
  · go_simp
    refine hK1.out _ _ (fun _ => ((Zd _ _).block gt (Ze X.out.tt)).trans X.out.tt) (fun _ => ?_)
    have E1 : Hid ((wd.alloc (.cells #[I_ (fn : Nat)] 3)).cell? ⟨wd.heap.size, 0, none⟩ = some (I_ (fn : Nat))) := Za (by
      have e1 := Zb (B_ wd (.cells #[I_ (fn : Nat)] 3)) 0 _ rfl
      exact e1)
    have X9 := Za (X.out.al (Zd wd (.cells #[I_ (fn : Nat)] 3)))
    clear hK1 K1 X
    have X := X9
    clear X9
    refine ZS (rs := [8, 13]) (by kernel_rfl) (by decide) ?_
    refine Zn.cons rfl (fun K1 hK1 => ?_) (Zn.cons rfl (fun K1 hK1 => ?_) Zn.nil)
    · have PU := Za (fun ty => push_n (n := n) (l := os) (HLN.out.1) (HLN.out.2.2) X.out.o1 fn (E1.out) ty)
      refine Zr (TS := 22) (.tmp 21) (.tmp 23) _ _ _ (fun ty => PU.out ty) rfl rfl rfl rfl ?_
      rintro v1 w8 ⟨⟨a1, c1, rfl⟩, o9, g9, b9⟩
      have X9 := Za (X.out.push1 o9 g9 b9)
      refine hK1.out _ _ (fun _ => X9.out.tt) (fun _ => ?_)
      have G9 := Za g9
      clear hK1 K1 X PU o9 g9 b9
      have X := X9
      clear X9
      clear E1 G9
      refine RT_ 13 (fun K1 hK1 => ?_)
      go_simp
      refine hK1.out _ _ (fun _ => ((Zd _ _).block gt (Ze X.out.tt)).trans X.out.tt) (fun _ => ?_)
      have E2 : Hid ((w8.alloc (.cells #[I_ 0] 3)).cell? ⟨w8.heap.size, 0, none⟩ = some (I_ 0)) := Za (by
        have e1 := Zb (B_ w8 (.cells #[I_ 0] 3)) 0 _ rfl
        exact e1)
      have X9 := Za (X.out.al (Zd w8 (.cells #[I_ 0] 3)))
      clear hK1 K1 X
      have X := X9
      clear X9
      refine RT_ 14 (fun K1 hK1 => ?_)
      have PU := Za (fun ty => push_n (n := n) (l := as_) (HLN.out.2.1) (HLN.out.2.2) X.out.o2 0 (E2.out) ty)
      refine Zr (TS := 22) (.tmp 28) (.tmp 29) _ _ _ (fun ty => PU.out ty) rfl rfl rfl rfl ?_
      rintro v2 w14 ⟨⟨a2, c2, rfl⟩, o9, g9, b9⟩
      have X9 := Za (X.out.push2 o9 g9 b9)
      refine hK1.out _ _ (fun _ => X9.out.tt) (fun _ => ?_)
      have G9 := Za g9
      clear hK1 K1 X PU o9 g9 b9
      have X := X9
      clear X9
      clear E2 G9
      refine M_ 15 ?_
      simp only [Act.put, S_]
      refine M_ 16 ?_
      simp only [Act.put, S_]
      refine RT_ 17 (fun K1 hK1 => ?_)
      have n1 := Zb X.out.tt 1 _ rfl
      have m1 := Zc X.out.tt 1
      go_simp
      refine hK1.out _ _ (fun h => absurd h (by decide)) (fun _ => ?_)
      clear hK1 K1 n1 m1
      have T2 : Hid ((w14.setCell ⟨gt, 1, none⟩ (.slice a1 (n + 1) c1)).heap[gt]? = some (.cells #[.slice aL nS cL, .slice a1 (n + 1) c1, .slice aA n cA] 79 (0, 0))) := Za (heap_setCell_same _ _ _ _ _ _ X.out.tt)
      refine M_ 18 ?_
      simp only [Act.put, S_]
      refine M_ 19 ?_
      simp only [Act.put, S_]
      refine RT_ 20 (fun K1 hK1 => ?_)
      have n1 := Zb T2.out 2 _ rfl
      have m1 := Zc T2.out 2
      go_simp
      refine hK1.out _ _ (fun h => absurd h (by decide)) (fun _ => ?_)
      clear hK1 K1 n1 m1
      refine ZW (by kernel_rfl) ?_ _
      go_wp2_with fail
      go_ret
      have RB := HQ.out.begun fn l HL.out (by have := HLN.out.2.2; rw [HPN.out]; exact HP8.out) (by rw [HPN.out]; exact X.out.o1) (by rw [HPN.out]; exact X.out.o2) X.out.ne X.out.c
      refine ⟨rfl, _, RB.1.rr, (Ch.of_bel HBD.out).trans (RB.2.wide (fun k hk => (HG.out k).2 (.inr (.inr (.inl hk)))) (fun k hk => ?_))⟩
      rcases hk with hk | hk | hk | hk
      · exact .inl ((HG.out k).2 (.inl hk))
      · exact .inl ((HG.out k).2 (.inr (.inl hk)))
      · exact (RB.2.grow k hk).imp (fun q => (HG.out k).2 (.inr (.inr (.inl q)))) id
      · exact .inl ((HG.out k).2 (.inr (.inr (.inr hk))))
    · go_simp
      refine hK1.out _ _ (fun _ => ((Zd _ _).block gt (Ze X.out.tt)).trans X.out.tt) (fun _ => ?_)
      have E2 : Hid (((wd.alloc (.cells #[I_ (fn : Nat)] 3)).alloc (.cells #[I_ 0] 3)).cell? ⟨wd.heap.size + 1, 0, none⟩ = some (I_ 0)) := Za (by
        have e1 := Zb (B_ (wd.alloc (.cells #[I_ (fn : Nat)] 3)) (.cells #[I_ 0] 3)) 0 _ rfl
        have hs : (wd.alloc (.cells #[I_ (fn : Nat)] 3)).heap.size = wd.heap.size + 1 := by simp
        rw [hs] at e1
        exact e1)
      have X9 := Za (X.out.al (Zd (wd.alloc (.cells #[I_ (fn : Nat)] 3)) (.cells #[I_ 0] 3)))
      clear hK1 K1 X
      have X := X9
      clear X9
      replace E1 := Za (((Zd (wd.alloc (.cells #[I_ (fn : Nat)] 3)) (.cells #[I_ 0] 3)).cell (p := ⟨wd.heap.size, 0, none⟩) (by simp <;> omega)).trans E1.out)
      refine RT_ 8 (fun K1 hK1 => ?_)
      have PU := Za (fun ty => push_n (n := n) (l := os) (HLN.out.1) (HLN.out.2.2) X.out.o1 fn (E1.out) ty)
      refine Zr (TS := 22) (.tmp 21) (.tmp 23) _ _ _ (fun ty => PU.out ty) rfl rfl rfl rfl ?_
      rintro v1 w8 ⟨⟨a1, c1, rfl⟩, o9, g9, b9⟩
      have X9 := Za (X.out.push1 o9 g9 b9)
      refine hK1.out _ _ (fun _ => X9.out.tt) (fun _ => ?_)
      have G9 := Za g9
      clear hK1 K1 X PU o9 g9 b9
      have X := X9
      clear X9
      have E29 := Za ((World.cell?_of_block (a := ⟨wd.heap.size + 1, 0, none⟩) (G9.out.block (wd.heap.size + 1) (by simp <;> omega) (fun e => absurd (HLO.out _ e.symm) (by omega)))).trans E2.out)
      clear E1 E2 G9
      have E2 := E29
      clear E29
      refine RT_ 14 (fun K1 hK1 => ?_)
      have PU := Za (fun ty => push_n (n := n) (l := as_) (HLN.out.2.1) (HLN.out.2.2) X.out.o2 0 (E2.out) ty)
      refine Zr (TS := 22) (.tmp 28) (.tmp 29) _ _ _ (fun ty => PU.out ty) rfl rfl rfl rfl ?_
      rintro v2 w14 ⟨⟨a2, c2, rfl⟩, o9, g9, b9⟩
      have X9 := Za (X.out.push2 o9 g9 b9)
      refine hK1.out _ _ (fun _ => X9.out.tt) (fun _ => ?_)
      have G9 := Za g9
      clear hK1 K1 X PU o9 g9 b9
      have X := X9
      clear X9
      clear E2 G9
      refine M_ 15 ?_
      simp only [Act.put, S_]
      refine M_ 16 ?_
      simp only [Act.put, S_]
      refine RT_ 17 (fun K1 hK1 => ?_)
      have n1 := Zb X.out.tt 1 _ rfl
      have m1 := Zc X.out.tt 1
      go_simp
      refine hK1.out _ _ (fun h => absurd h (by decide)) (fun _ => ?_)
      clear hK1 K1 n1 m1
      have T2 : Hid ((w14.setCell ⟨gt, 1, none⟩ (.slice a1 (n + 1) c1)).heap[gt]? = some (.cells #[.slice aL nS cL, .slice a1 (n + 1) c1, .slice aA n cA] 79 (0, 0))) := Za (heap_setCell_same _ _ _ _ _ _ X.out.tt)
      refine M_ 18 ?_
      simp only [Act.put, S_]
      refine M_ 19 ?_
      simp only [Act.put, S_]
      refine RT_ 20 (fun K1 hK1 => ?_)
      have n1 := Zb T2.out 2 _ rfl
      have m1 := Zc T2.out 2
      go_simp
      refine hK1.out _ _ (fun h => absurd h (by decide)) (fun _ => ?_)
      clear hK1 K1 n1 m1
      refine ZW (by kernel_rfl) ?_ _
      go_wp2_with fail
      go_ret
      have RB := HQ.out.begun fn l HL.out (by have := HLN.out.2.2; rw [HPN.out]; exact HP8.out) (by rw [HPN.out]; exact X.out.o1) (by rw [HPN.out]; exact X.out.o2) X.out.ne X.out.c
      refine ⟨rfl, _, RB.1.rr, (Ch.of_bel HBD.out).trans (RB.2.wide (fun k hk => (HG.out k).2 (.inr (.inr (.inl hk)))) (fun k hk => ?_))⟩
      rcases hk with hk | hk | hk | hk
      · exact .inl ((HG.out k).2 (.inl hk))
      · exact .inl ((HG.out k).2 (.inr (.inl hk)))
      · exact (RB.2.grow k hk).imp (fun q => (HG.out k).2 (.inr (.inr (.inl q)))) id
      · exact .inl ((HG.out k).2 (.inr (.inr (.inr hk))))
  · go_simp
    refine hK1.out _ _ (fun _ => ((Zd _ _).block gt (Ze X.out.tt)).trans X.out.tt) (fun _ => ?_)
    have E2 : Hid ((wd.alloc (.cells #[I_ 0] 3)).cell? ⟨wd.heap.size, 0, none⟩ = some (I_ 0)) := Za (by
      have e1 := Zb (B_ wd (.cells #[I_ 0] 3)) 0 _ rfl
      exact e1)
    have X9 := Za (X.out.al (Zd wd (.cells #[I_ 0] 3)))
    clear hK1 K1 X
    have X := X9
    clear X9
    refine RT_ 7 (fun K1 hK1 => ?_)
    go_simp
    refine hK1.out _ _ (fun _ => ((Zd _ _).block gt (Ze X.out.tt)).trans X.out.tt) (fun _ => ?_)
    have E1 : Hid (((wd.alloc (.cells #[I_ 0] 3)).alloc (.cells #[I_ (fn : Nat)] 3)).cell? ⟨wd.heap.size + 1, 0, none⟩ = some (I_ (fn : Nat))) := Za (by
      have e1 := Zb (B_ (wd.alloc (.cells #[I_ 0] 3)) (.cells #[I_ (fn : Nat)] 3)) 0 _ rfl
      have hs : (wd.alloc (.cells #[I_ 0] 3)).heap.size = wd.heap.size + 1 := by simp
      rw [hs] at e1
      exact e1)
    have X9 := Za (X.out.al (Zd (wd.alloc (.cells #[I_ 0] 3)) (.cells #[I_ (fn : Nat)] 3)))
    clear hK1 K1 X
    have X := X9
    clear X9
    replace E2 := Za (((Zd (wd.alloc (.cells #[I_ 0] 3)) (.cells #[I_ (fn : Nat)] 3)).cell (p := ⟨wd.heap.size, 0, none⟩) (by simp <;> omega)).trans E2.out)
    refine RT_ 8 (fun K1 hK1 => ?_)
    have PU := Za (fun ty => push_n (n := n) (l := os) (HLN.out.1) (HLN.out.2.2) X.out.o1 fn (E1.out) ty)
    refine Zr (TS := 22) (.tmp 21) (.tmp 23) _ _ _ (fun ty => PU.out ty) rfl rfl rfl rfl ?_
    rintro v1 w8 ⟨⟨a1, c1, rfl⟩, o9, g9, b9⟩
    have X9 := Za (X.out.push1 o9 g9 b9)
    refine hK1.out _ _ (fun _ => X9.out.tt) (fun _ => ?_)
    have G9 := Za g9
    clear hK1 K1 X PU o9 g9 b9
    have X := X9
    clear X9
    have E29 := Za ((World.cell?_of_block (a := ⟨wd.heap.size, 0, none⟩) (G9.out.block (wd.heap.size) (by simp <;> omega) (fun e => absurd (HLO.out _ e.symm) (by omega)))).trans E2.out)
    clear E1 E2 G9
    have E2 := E29
    clear E29
    refine RT_ 14 (fun K1 hK1 => ?_)
    have PU := Za (fun ty => push_n (n := n) (l := as_) (HLN.out.2.1) (HLN.out.2.2) X.out.o2 0 (E2.out) ty)
    refine Zr (TS := 22) (.tmp 28) (.tmp 29) _ _ _ (fun ty => PU.out ty) rfl rfl rfl rfl ?_
    rintro v2 w14 ⟨⟨a2, c2, rfl⟩, o9, g9, b9⟩
    have X9 := Za (X.out.push2 o9 g9 b9)
    refine hK1.out _ _ (fun _ => X9.out.tt) (fun _ => ?_)
    have G9 := Za g9
    clear hK1 K1 X PU o9 g9 b9
    have X := X9
    clear X9
    clear E2 G9
    refine M_ 15 ?_
    simp only [Act.put, S_]
    refine M_ 16 ?_
    simp only [Act.put, S_]
    refine RT_ 17 (fun K1 hK1 => ?_)
    have n1 := Zb X.out.tt 1 _ rfl
    have m1 := Zc X.out.tt 1
    go_simp
    refine hK1.out _ _ (fun h => absurd h (by decide)) (fun _ => ?_)
    clear hK1 K1 n1 m1
    have T2 : Hid ((w14.setCell ⟨gt, 1, none⟩ (.slice a1 (n + 1) c1)).heap[gt]? = some (.cells #[.slice aL nS cL, .slice a1 (n + 1) c1, .slice aA n cA] 79 (0, 0))) := Za (heap_setCell_same _ _ _ _ _ _ X.out.tt)
    refine M_ 18 ?_
    simp only [Act.put, S_]
    refine M_ 19 ?_
    simp only [Act.put, S_]
    refine RT_ 20 (fun K1 hK1 => ?_)
    have n1 := Zb T2.out 2 _ rfl
    have m1 := Zc T2.out 2
    go_simp
    refine hK1.out _ _ (fun h => absurd h (by decide)) (fun _ => ?_)
    clear hK1 K1 n1 m1
    refine ZW (by kernel_rfl) ?_ _
    go_wp2_with fail
    go_ret
    have RB := HQ.out.begun fn l HL.out (by have := HLN.out.2.2; rw [HPN.out]; exact HP8.out) (by rw [HPN.out]; exact X.out.o1) (by rw [HPN.out]; exact X.out.o2) X.out.ne X.out.c
    refine ⟨rfl, _, RB.1.rr, (Ch.of_bel HBD.out).trans (RB.2.wide (fun k hk => (HG.out k).2 (.inr (.inr (.inl hk)))) (fun k hk => ?_))⟩
    rcases hk with hk | hk | hk | hk
    · exact .inl ((HG.out k).2 (.inl hk))
    · exact .inl ((HG.out k).2 (.inr (.inl hk)))
    · exact (RB.2.grow k hk).imp (fun q => (HG.out k).2 (.inr (.inr (.inl q)))) id
    · exact .inl ((HG.out k).2 (.inr (.inr (.inr hk))))
structure Pq (w : World) (Fs Rs R : Nat -> Prop) (B gs gt : Nat) (s : St) (S : List (List Wt)) (vL : Value) (vs : List Value) : Prop where
 st : Rt w Fs Rs B gs s
 tt : w.heap[gt]? = some (.cells #[vL, .slice none 0 0, .slice none 0 0] 79 (0, 0))
 al : w.ownsRow 0 39 1 vL S.length vs
 row : ∀ (i : Nat) (l : List Wt) (v : Value), S[i]? = some l -> vs[i]? = some v -> w.ownsRow 0 76 6 v l.length (w6s l) /\ ∀ k, v.ownBlock = some k -> R k
 fL : ∀ k, vL.ownBlock = some k -> R k
 ft : ¬ Fs gt /\ ¬ Rs gt /\ ¬ R gt
 ro : ∀ k, R k -> ¬ Fs k
 rb : ∀ k, R k -> k < w.heap.size
 sz : S.length <= 2000 /\ ∀ l ∈ S, l.length <= 2000
theorem Pq.rq {w w' : World} {Fs Rs R : Nat -> Prop} {B gs gt g : Nat} {s : St} {S : List (List Wt)} {vL : Value} {vs : List Value} (h : Pq w Fs Rs R B gs gt s S vL vs) (hb : Below w.heap.size w w') (hg : w'.heap[g]? = some (.cells #[P_ gs, .slice none 0 0, .slice none 0 0, I_ 0, I_ 0, I_ 0, I_ 0, I_ 0, P_ gt] 45 (0, 0))) (hn : w.heap.size <= g) :
 Rq w' Fs Rs (fun k => k = g ∨ k = gt) R B g gs gt S ⟨s, [], [], zE, []⟩ (.slice none 0 0) (.slice none 0 0) vL (.slice none 0 0) (.slice none 0 0) vs [] [] where
 at_ := hg
 st := h.st.bel hb
 wa := Yi _ _ _
 ev := Yi _ _ _
 tt := (hb.block gt (Ze h.tt)).trans h.tt
 al := Zj h.al fun k hk => hb.block k (h.rb k (h.fL k hk))
 row := fun i l v hl hv => ⟨Zj (h.row i l v hl hv).1 fun k hk => hb.block k (h.rb k ((h.row i l v hl hv).2 k hk)), (h.row i l v hl hv).2⟩
 of := Yi _ _ _
 at' := Yi _ _ _
 pos := fun i x o a hx => by simp at hx
 ne := fun k hk => by cases hk
 fg := .inl rfl
 ft := .inr rfl
 fW := fun k hk => by cases hk
 fE := fun k hk => by cases hk
 fO := fun k hk => by cases hk
 fA := fun k hk => by cases hk
 fL := h.fL
 so := fun k hk => by
  rcases hk with rfl | rfl
  · exact ⟨fun e => by have := h.st.fb k e; omega, fun e => by have := h.st.rb k e; omega⟩
  · exact ⟨h.ft.1, h.ft.2.1⟩
 ro := fun k hk => ⟨h.ro k hk, fun e => by
  rcases e with rfl | rfl
  · have := h.rb k hk
    omega
  · exact h.ft.2.2 hk⟩
 fb := fun k hk => by
  rcases hk with rfl | rfl
  · exact Ze hg
  · exact Nat.lt_of_lt_of_le (Ze h.tt) hb.size
 rb := fun k hk => Nat.lt_of_lt_of_le (h.rb k hk) hb.size
 n8 := ⟨by simp, by simp⟩
 sz := h.sz
theorem Rq.newW {w : World} {Fs Rs Fo R : Nat -> Prop} {B g gs gt : Nat} {S : List (List Wt)} {r : Rz} {vW vE vL vO vA : Value} {vs : List Value} {os as_ : List Nat} (h : Rq w Fs Rs Fo R B g gs gt S r vW vE vL vO vA vs os as_) {w2 : World} {v' : Value} (ws : List Wt) (hw : w2.ownsRow 0 76 6 v' ws.length (w6s ws)) (hb : Below w.heap.size w w2) (hv : ∀ k, v'.ownBlock = some k -> w.heap.size <= k) (h8 : ws.length <= 8) :
 Rq (w2.setCell ⟨g, 1, none⟩ v') Fs Rs (fun k => Fo k ∨ v'.ownBlock = some k) R B g gs gt S { r with ws := ws } v' vE vL vO vA vs os as_ /\ Ch Fo (fun k => Fo k ∨ v'.ownBlock = some k) w (w2.setCell ⟨g, 1, none⟩ v') := by
 have h1 := h.bel hb
 have ho : ∀ k, k ≠ g -> (w2.setCell ⟨g, 1, none⟩ v').heap[k]? = w2.heap[k]? := fun k hk => Below.heap_setCell _ _ _ _ hk
 have hs : (w2.setCell ⟨g, 1, none⟩ v').heap.size = w2.heap.size := Zi _ _ _
 obtain ⟨p1, p2, hk⟩ := h1.part h1.fg (fun k hk _ => ho k hk) (Nat.le_of_eq hs.symm)
 obtain ⟨⟨n1, n2, n3, n4⟩, _, n5⟩ := h1.rowne
 have hgl := h.fb g h.fg
 refine ⟨{ h1 with
  at_ := heap_setCell_same _ _ 1 _ _ v' h1.at_
  st := p1
  wa := Zj hw fun k hk' => ho k (fun e => by have := hv k hk'; omega)
  ev := hk h1.ev n2
  tt := (ho gt (fun e => n5 e.symm)).trans h1.tt
  al := p2.1
  row := p2.2
  of := hk h1.of n3
  at' := hk h1.at' n4
  fg := .inl h.fg
  ft := .inl h.ft
  fW := fun k hk => .inr hk
  fE := fun k hk => .inl (h.fE k hk)
  fO := fun k hk => .inl (h.fO k hk)
  fA := fun k hk => .inl (h.fA k hk)
  so := fun k hk => ?_
  ro := fun k hk => ⟨(h.ro k hk).1, fun e => ?_⟩
  fb := fun k hk => ?_
  rb := fun k hk => by rw [hs]; exact h1.rb k hk
  n8 := ⟨h8, h.n8.2⟩ }, ⟨hb.os, hb.tape, hb.output, by rw [hs]; exact hb.size, fun k hk hF => (ho k (fun e => hF (by rw [e]; exact h.fg))).trans (hb.block k hk), fun k hk => hk.imp id (hv k)⟩⟩
 · rcases hk with q | q
   · exact h.so k q
   · have := hv k q
     exact ⟨fun e => by have := h.st.fb k e; omega, fun e => by have := h.st.rb k e; omega⟩
 · rcases e with q | q
   · exact (h.ro k hk).2 q
   · have := hv k q
     have := h.rb k hk
     omega
 · rw [hs]
   rcases hk with q | q
   · exact h1.fb k q
   · exact (Zf hw q).2.1
def startZ (S : List (List Wt)) (s : St) (fn : Int) : Rz := match lk S fn with
 | some l => Yw (Yn ⟨s, [zW], [], zE, [l]⟩ [0] 1)
 | none => ⟨s, [], [], ⟨3, 5, 0, 0, 0⟩, []⟩
def StartQ (w : World) (F : Nat -> Prop) (B : Nat) (S : List (List Wt)) (r : Rz) (e : Ending) (w' : World) : Prop := ∃ g G', e = .returned (P_ g) /\ Rr w' G' B g S r /\ Ch F G' w w'
theorem own_w0 (w : World) : (w.alloc (.cells #[I_ 0, I_ 0, I_ 0, I_ 0, I_ 0, .int .u64 0] 76)).ownsRow 0 76 6 (.slice (some ⟨w.heap.size, 0, none⟩) 1 1) 1 (w6s [zW]) :=
 ⟨rfl, .inr ⟨w.heap.size, 1, _, rfl, Nat.zero_le _, B_ _ _, Nat.le_refl _, by unfold maxLen; omega, rfl, rfl⟩⟩
theorem rStart_any {w : World} {Fs Rs R : Nat -> Prop} {B gs gt : Nat} {s : St} {S : List (List Wt)} {vL : Value} {vs : List Value} (h : Pq w Fs Rs R B gs gt s S vL vs) (hB : B <= 1000000) (fn : Int) : Calls Tryz.prog 23 #[P_ gs, P_ gt, I_ fn] w (StartQ w (fun k => Fs k ∨ Rs k ∨ k = gt ∨ R k) B S (startZ S s fn)) := by
  have AB := Za (Zd w (.cells #[P_ gs, .slice none 0 0, .slice none 0 0, I_ 0, I_ 0, I_ 0, I_ 0, I_ 0, P_ gt] 45))
  have hq := h.rq AB.out (B_ w (.cells #[P_ gs, .slice none 0 0, .slice none 0 0, I_ 0, I_ 0, I_ 0, I_ 0, I_ 0, P_ gt] 45)) (Nat.le_refl _)
  have C0 : Hid (Ch (fun k => Fs k ∨ Rs k ∨ k = gt ∨ R k) (fun k => Fs k ∨ Rs k ∨ (k = w.heap.size ∨ k = gt) ∨ R k) w (w.alloc (.cells #[P_ gs, .slice none 0 0, .slice none 0 0, I_ 0, I_ 0, I_ 0, I_ 0, I_ 0, P_ gt] 45))) := Za (Ch.wide (Ch.of_bel (F := fun _ => False) AB.out) (fun _ h => h.elim) (fun k hk => by
    rcases hk with q | q | (q | q) | q
    · exact .inl (.inl q)
    · exact .inl (.inr (.inl q))
    · exact .inr (by omega)
    · exact .inl (.inr (.inr (.inl q)))
    · exact .inl (.inr (.inr (.inr q)))))
  obtain ⟨g, hg⟩ : ∃ g, g = w.heap.size := ⟨_, rfl⟩
  rw [← hg] at hq C0
  cases hl : lk S fn with
  | none =>
    have BN := Za (begin_no hq fn hl)
    have FA := Za (rFault_any hq.rr 0 5 0 0)
    have hst : Hid (startZ S s fn = ⟨s, [], [], ⟨3, 5, 0, 0, 0⟩, []⟩) := Za (by unfold startZ; rw [hl])
    unfold h3V at FA
    simp only at FA
    clear h hq hl
    go_enter Tryz.func23, Tryz.ntmps23
    go_wp2_with fail
    generalize w.alloc _ = w1 at *
    rw [← hg]
    clear hg AB
    refine BN.out.mono ?_
    rintro e w2 ⟨rfl, rfl⟩
    go_wp2_with fail
    refine FA.out.mono ?_
    rintro e w3 ⟨rfl, G', rn, ch⟩
    have Z := Za (And.intro rn ch)
    clear rn ch
    go_wp2_with fail
    go_ret
    exact ⟨g, G', rfl, by rw [hst.out]; exact Z.out.1, C0.out.trans Z.out.2⟩
  | some l =>
    obtain ⟨k, rfl, hk⟩ := ZC hl
    have BO := Za (begin_ok hq (fun _ => Iff.rfl) k l hk (by simp))
    have hst : Hid (startZ S s (k : Nat) = Yw (Yn ⟨s, [zW], [], zE, [l]⟩ [0] 1)) := Za (by unfold startZ; rw [hl])
    clear h hq hl hk
    go_enter Tryz.func23, Tryz.ntmps23
    go_wp2_with fail
    generalize w.alloc _ = w1 at *
    rw [← hg]
    clear hg AB
    refine BO.out.mono ?_
    rintro e w2 ⟨rfl, G2, rn, ch⟩
    have C2 := Za (C0.out.trans ch)
    clear ch C0 BO
    obtain ⟨Fs2, Rs2, Fo2, R2, gs2, gt2, vW, vE, vL2, vO, vA, vs2, os, as_, q2, hG2⟩ := rn
    have BA := Za (Zd w2 (.cells #[I_ 0, I_ 0, I_ 0, I_ 0, I_ 0, .int .u64 0] 76))
    have NW := q2.newW [zW] (own_w0 w2) BA.out (fun k hk => by cases hk; exact Nat.le_refl _) (by simp)
    have c1 := Zb (q2.bel BA.out).at_ 1 _ rfl
    have f1 := Zc (q2.bel BA.out).at_ 1
    have HW := Za (And.intro NW.1.rr (C2.out.trans (NW.2.wide (G' := fun k => Fs2 k ∨ Rs2 k ∨ (Fo2 k ∨ (Value.slice (some ⟨w2.heap.size, 0, none⟩) 1 1).ownBlock = some k) ∨ R2 k) (fun k hk => (hG2 k).2 (.inr (.inr (.inl hk)))) (fun k hk => by
      rcases hk with q | q | q | q
      · exact .inl ((hG2 k).2 (.inl q))
      · exact .inl ((hG2 k).2 (.inr (.inl q)))
      · exact (NW.2.grow k q).imp (fun q => (hG2 k).2 (.inr (.inr (.inl q)))) id
      · exact .inl ((hG2 k).2 (.inr (.inr (.inr q))))))))
    clear NW q2 hG2 C2
    go_upto_region 6 with fail
    generalize (w2.alloc _).setCell ⟨g, 1, none⟩ (.slice (some ⟨w2.heap.size, 0, none⟩) 1 1) = w3 at *
    obtain ⟨h3, c3⟩ := HW.out
    generalize (fun k => Fs2 k ∨ Rs2 k ∨ (Fo2 k ∨ (Value.slice (some ⟨w2.heap.size, 0, none⟩) 1 1).ownBlock = some k) ∨ R2 k) = G3 at *
    have KN := Kb.new h3 #[I_ 0, I_ 0, I_ 0, .int .u64 0] 130
    have AK := Za (rask_any (v := .slice (some ⟨w3.heap.size, 0, none⟩) 1 1) (lx := [(0, 0, 0, 0)]) (h3.bel (Zd w3 (.cells #[I_ 0, I_ 0, I_ 0, .int .u64 0] 130))) hB ⟨some ⟨w3.heap.size, 0, none⟩, 1, rfl, by simp, fun j x hx => by
      cases j with
      | zero =>
        simp at hx
        subst hx
        exact ⟨_, _, rfl, KN, Zb KN.1 0 _ rfl, Zb KN.1 1 _ rfl, Zb KN.1 2 _ rfl, Zb KN.1 3 _ rfl⟩
      | succ j => simp at hx⟩ (fun x hx => by simp at hx; subst hx; simp))
    have C3 := Za (c3.trans (Ch.of_bel (Zd w3 (.cells #[I_ 0, I_ 0, I_ 0, .int .u64 0] 130))))
    clear h3 c3 KN HW c1 f1 BA
    go_wp2_with fail
    refine AK.out.mono ?_
    rintro e w4 ⟨rfl, G4, rn, ch⟩
    have Z := Za (And.intro rn ch)
    clear rn ch AK
    go_wp2_with fail
    go_ret
    exact ⟨g, G4, rfl, by rw [hst.out]; exact Z.out.1, C3.out.trans Z.out.2⟩
section
variable {w : World} {G Fs Rs Fo R : Nat → Prop} {B g gs gt : Nat} {S : List (List Wt)} {r : Rz} {vW vE vL vO vA : Value} {vs : List Value} {os as_ : List Nat}
theorem Rq.noted (h : Rq w Fs Rs Fo R B g gs gt S r vW vE vL vO vA vs os as_) {w2 : World} {v' : Value} (x : Evt) (ho : w2.ownsRow 0 132 4 v' (r.ev ++ [x]).length (ecs (r.ev ++ [x]))) (hg : w.grownBy w2 vE.ownBlock) (hb : ∀ k, v'.ownBlock = some k -> vE.ownBlock = some k ∨ w.heap.size <= k) :
 Rq (w2.setCell ⟨g, 2, none⟩ v') Fs Rs (fun k => Fo k ∨ v'.ownBlock = some k) R B g gs gt S { r with ev := r.ev ++ [x] } vW v' vL vO vA vs os as_ /\ Ch Fo (fun k => Fo k ∨ v'.ownBlock = some k) w (w2.setCell ⟨g, 2, none⟩ v') := by
 have hsz : (w2.setCell ⟨g, 2, none⟩ v').heap.size = w2.heap.size := Zi _ _ _
 have hne : ∀ {k : Nat}, k < w.heap.size -> vE.ownBlock ≠ some k -> k ≠ g -> (w2.setCell ⟨g, 2, none⟩ v').heap[k]? = w.heap[k]? := fun {k} hk h1 h2 => (Below.heap_setCell _ _ _ _ h2).trans (hg.block k hk (fun e => h1 e.symm))
 obtain ⟨⟨n1, n2, n3, n4⟩, ⟨n6, n7, n8, n9⟩, n5⟩ := h.rowne
 have gne : vE.ownBlock ≠ some g := n2
 have tne : vE.ownBlock ≠ some gt := n7
 have fX : ∀ k, vE.ownBlock = some k -> Fo k := h.fE
 have hown : ∀ {T : TypeId} {n : Nat} {v : Value} {len : Nat} {xs : List Value}, w.ownsRow 0 T n v len xs -> T ≠ 132 -> T ≠ 45 -> (w2.setCell ⟨g, 2, none⟩ v').ownsRow 0 T n v len xs := fun {T n v len xs} hr h1 h2 => Zj hr fun k hk => hne (Zf hr hk).2.1 (fun e => Zo hr h.ev h1 k hk e) (fun e => Zu hr h.at_ h2 (by rw [hk, e]))
 have hR : ∀ k, R k -> (w2.setCell ⟨g, 2, none⟩ v').heap[k]? = w.heap[k]? := fun k hk => hne (h.rb k hk) (fun e => (h.ro k hk).2 (fX k e)) (fun e => (h.ro k hk).2 (by rw [e]; exact h.fg))
 have hS : ∀ k, Fs k ∨ Rs k -> (w2.setCell ⟨g, 2, none⟩ v').heap[k]? = w.heap[k]? := fun k hk => hne (hk.elim (h.st.fb k) (h.st.rb k)) (fun e => hk.elim (fun q => (h.so k (fX k e)).1 q) (fun q => (h.so k (fX k e)).2 q)) (fun e => hk.elim (fun q => (h.so g h.fg).1 (by rw [← e]; exact q)) (fun q => (h.so g h.fg).2 (by rw [← e]; exact q)))
 have hle : w.heap.size <= (w2.setCell ⟨g, 2, none⟩ v').heap.size := by rw [hsz]; exact hg.size
 have hnew : ∀ k, v'.ownBlock = some k -> Fo k ∨ w.heap.size <= k := fun k hk => (hb k hk).imp (fX k) id
 have hnv : ∀ k, v'.ownBlock = some k -> k ≠ g := fun k hk e => by
  subst e
  rcases hb k hk with h1 | h1
  · exact gne h1
  · have := h.fb k h.fg
    omega
 refine ⟨{ h with
  at_ := heap_setCell_same _ _ _ _ _ _ ((hg.block g (Ze h.at_) (fun e => gne e.symm)).trans h.at_)
  st := h.st.keep hS hle
  wa := hown h.wa (by decide) (by decide)
  ev := Zj ho fun k hk => Below.heap_setCell _ _ _ _ (hnv k hk)
  tt := (hne (Ze h.tt) tne (fun e => n5 e.symm)).trans h.tt
  al := Zj h.al fun k hk => hR k (h.fL k hk)
  row := fun i l v hl hv => ⟨Zj (h.row i l v hl hv).1 fun k hk => hR k ((h.row i l v hl hv).2 k hk), (h.row i l v hl hv).2⟩
  of := hown h.of (by decide) (by decide)
  at' := hown h.at' (by decide) (by decide)
  fg := .inl h.fg
  ft := .inl h.ft
  fW := fun k hk => .inl (h.fW k hk)
  fE := fun k hk => .inr hk
  fO := fun k hk => .inl (h.fO k hk)
  fA := fun k hk => .inl (h.fA k hk)
  so := fun k hk => by
   rcases hk with h1 | h1
   · exact h.so k h1
   · rcases hnew k h1 with h2 | h2
     · exact h.so k h2
     · exact ⟨fun e => by have := h.st.fb k e; omega, fun e => by have := h.st.rb k e; omega⟩
  ro := fun k hk => ⟨(h.ro k hk).1, fun e => by
   rcases e with h1 | h1
   · exact (h.ro k hk).2 h1
   · rcases hnew k h1 with h2 | h2
     · exact (h.ro k hk).2 h2
     · have := h.rb k hk
       omega⟩
  fb := fun k hk => by
   rw [hsz]
   rcases hk with h1 | h1
   · exact Nat.lt_of_lt_of_le (h.fb k h1) hg.size
   · exact (Zf ho h1).2.1
  rb := fun k hk => Nat.lt_of_lt_of_le (h.rb k hk) hle }, ⟨hg.os, hg.tape, hg.output, hle, fun k hk hF => hne hk (fun e => hF (fX k e)) (fun e => hF (by rw [e]; exact h.fg)), fun k hk => ?_⟩⟩
 rcases hk with h1 | h1
 · exact .inl h1
 · exact hnew k h1
theorem Rq.grown (h : Rq w Fs Rs Fo R B g gs gt S r vW vE vL vO vA vs os as_) {w2 : World} {v' : Value} (x : Wt) (ho : w2.ownsRow 0 76 6 v' (r.ws ++ [x]).length (w6s (r.ws ++ [x]))) (hg : w.grownBy w2 vW.ownBlock) (hb : ∀ k, v'.ownBlock = some k -> vW.ownBlock = some k ∨ w.heap.size <= k) (h8 : r.ws.length + 1 <= 8) :
 Rq (w2.setCell ⟨g, 1, none⟩ v') Fs Rs (fun k => Fo k ∨ v'.ownBlock = some k) R B g gs gt S { r with ws := r.ws ++ [x] } v' vE vL vO vA vs os as_ /\ Ch Fo (fun k => Fo k ∨ v'.ownBlock = some k) w (w2.setCell ⟨g, 1, none⟩ v') := by
 have hsz : (w2.setCell ⟨g, 1, none⟩ v').heap.size = w2.heap.size := Zi _ _ _
 have hne : ∀ {k : Nat}, k < w.heap.size -> vW.ownBlock ≠ some k -> k ≠ g -> (w2.setCell ⟨g, 1, none⟩ v').heap[k]? = w.heap[k]? := fun {k} hk h1 h2 => (Below.heap_setCell _ _ _ _ h2).trans (hg.block k hk (fun e => h1 e.symm))
 obtain ⟨⟨n1, n2, n3, n4⟩, ⟨n6, n7, n8, n9⟩, n5⟩ := h.rowne
 have gne : vW.ownBlock ≠ some g := n1
 have tne : vW.ownBlock ≠ some gt := n6
 have fX : ∀ k, vW.ownBlock = some k -> Fo k := h.fW
 have hown : ∀ {T : TypeId} {n : Nat} {v : Value} {len : Nat} {xs : List Value}, w.ownsRow 0 T n v len xs -> T ≠ 76 -> T ≠ 45 -> (w2.setCell ⟨g, 1, none⟩ v').ownsRow 0 T n v len xs := fun {T n v len xs} hr h1 h2 => Zj hr fun k hk => hne (Zf hr hk).2.1 (fun e => Zo hr h.wa h1 k hk e) (fun e => Zu hr h.at_ h2 (by rw [hk, e]))
 have hR : ∀ k, R k -> (w2.setCell ⟨g, 1, none⟩ v').heap[k]? = w.heap[k]? := fun k hk => hne (h.rb k hk) (fun e => (h.ro k hk).2 (fX k e)) (fun e => (h.ro k hk).2 (by rw [e]; exact h.fg))
 have hS : ∀ k, Fs k ∨ Rs k -> (w2.setCell ⟨g, 1, none⟩ v').heap[k]? = w.heap[k]? := fun k hk => hne (hk.elim (h.st.fb k) (h.st.rb k)) (fun e => hk.elim (fun q => (h.so k (fX k e)).1 q) (fun q => (h.so k (fX k e)).2 q)) (fun e => hk.elim (fun q => (h.so g h.fg).1 (by rw [← e]; exact q)) (fun q => (h.so g h.fg).2 (by rw [← e]; exact q)))
 have hle : w.heap.size <= (w2.setCell ⟨g, 1, none⟩ v').heap.size := by rw [hsz]; exact hg.size
 have hnew : ∀ k, v'.ownBlock = some k -> Fo k ∨ w.heap.size <= k := fun k hk => (hb k hk).imp (fX k) id
 have hnv : ∀ k, v'.ownBlock = some k -> k ≠ g := fun k hk e => by
  subst e
  rcases hb k hk with h1 | h1
  · exact gne h1
  · have := h.fb k h.fg
    omega
 refine ⟨{ h with
  at_ := heap_setCell_same _ _ _ _ _ _ ((hg.block g (Ze h.at_) (fun e => gne e.symm)).trans h.at_)
  st := h.st.keep hS hle
  wa := Zj ho fun k hk => Below.heap_setCell _ _ _ _ (hnv k hk)
  ev := hown h.ev (by decide) (by decide)
  tt := (hne (Ze h.tt) tne (fun e => n5 e.symm)).trans h.tt
  al := Zj h.al fun k hk => hR k (h.fL k hk)
  row := fun i l v hl hv => ⟨Zj (h.row i l v hl hv).1 fun k hk => hR k ((h.row i l v hl hv).2 k hk), (h.row i l v hl hv).2⟩
  of := hown h.of (by decide) (by decide)
  at' := hown h.at' (by decide) (by decide)
  fg := .inl h.fg
  ft := .inl h.ft
  fW := fun k hk => .inr hk
  fE := fun k hk => .inl (h.fE k hk)
  fO := fun k hk => .inl (h.fO k hk)
  fA := fun k hk => .inl (h.fA k hk)
  so := fun k hk => by
   rcases hk with h1 | h1
   · exact h.so k h1
   · rcases hnew k h1 with h2 | h2
     · exact h.so k h2
     · exact ⟨fun e => by have := h.st.fb k e; omega, fun e => by have := h.st.rb k e; omega⟩
  ro := fun k hk => ⟨(h.ro k hk).1, fun e => by
   rcases e with h1 | h1
   · exact (h.ro k hk).2 h1
   · rcases hnew k h1 with h2 | h2
     · exact (h.ro k hk).2 h2
     · have := h.rb k hk
       omega⟩
  fb := fun k hk => by
   rw [hsz]
   rcases hk with h1 | h1
   · exact Nat.lt_of_lt_of_le (h.fb k h1) hg.size
   · exact (Zf ho h1).2.1
  rb := fun k hk => Nat.lt_of_lt_of_le (h.rb k hk) hle
  n8 := ⟨by simpa using h8, h.n8.2⟩ }, ⟨hg.os, hg.tape, hg.output, hle, fun k hk hF => hne hk (fun e => hF (fX k e)) (fun e => hF (by rw [e]; exact h.fg)), fun k hk => ?_⟩⟩
 rcases hk with h1 | h1
 · exact .inl h1
 · exact hnew k h1
theorem Rq.pushE (h : Rq w Fs Rs Fo R B g gs gt S r vW vE vL vO vA vs os as_) (hl : r.ev.length <= 100000) (e : Evt) (ty : TypeId) :
 ∃ v' w', (Builtin.append_ #[40, 40] ty #[vE, .slice (some ⟨w.heap.size, 0, none⟩) 1 1]).run Tryz.prog (w.alloc (.cells #[I_ e.g, I_ e.k, I_ e.o, I_ e.a] 132)) = .ok v' w' ∧
  ((∃ a l c, v' = .slice a l c) /\ w'.frozen? ⟨g, 2, none⟩ = false /\ w'.cell? ⟨g, 2, none⟩ = some vE /\ ∃ Fo', Rq (w'.setCell ⟨g, 2, none⟩ v') Fs Rs Fo' R B g gs gt S { r with ev := r.ev ++ [e] } vW v' vL vO vA vs os as_ /\ Ch Fo Fo' w (w'.setCell ⟨g, 2, none⟩ v')) := by
 obtain ⟨v', w', hr, ho, hg, hf⟩ := push_e rfl h.ev hl e ty
 have hgb : w'.heap[g]? = w.heap[g]? := hg.block g (Ze h.at_) (fun e => Zu h.ev h.at_ (by decide) e.symm)
 obtain ⟨a, c, e', _⟩ := Zl ho
 have hn := h.noted e (by rw [List.length_append]; exact ho) hg hf
 exact ⟨v', w', hr, ⟨_, _, _, e'⟩, Zc (hgb.trans h.at_) _, Zb (hgb.trans h.at_) 2 _ rfl, _, hn.1, hn.2⟩
theorem info_w6 : (Tryz.prog.info? 76).map (fun i => (i.zero, i.size, i.bytes)) = some (some (.agg #[I_ 0, I_ 0, I_ 0, I_ 0, I_ 0, .int .u64 0]), 6, 48) := by kernel_rfl
theorem Rq.pushW (h : Rq w Fs Rs Fo R B g gs gt S r vW vE vL vO vA vs os as_) (h8 : r.ws.length + 1 <= 8) (ty : TypeId) :
 ∃ v' w', (Builtin.append_ #[39, 39] ty #[vW, .slice (some ⟨w.heap.size, 0, none⟩) 1 1]).run Tryz.prog (w.alloc (.cells #[I_ 0, I_ 0, I_ 0, I_ 0, I_ 0, .int .u64 0] 76)) = .ok v' w' ∧
  ((∃ a l c, v' = .slice a l c) /\ w'.frozen? ⟨g, 1, none⟩ = false /\ w'.cell? ⟨g, 1, none⟩ = some vW /\ ∃ Fo', Rq (w'.setCell ⟨g, 1, none⟩ v') Fs Rs Fo' R B g gs gt S { r with ws := r.ws ++ [zW] } v' vE vL vO vA vs os as_ /\ Ch Fo Fo' w (w'.setCell ⟨g, 1, none⟩ v')) := by
 obtain ⟨ie, hi, hz0, hz1, hz2⟩ := info_parts info_w6
 have hb := Zd w (.cells #[I_ 0, I_ 0, I_ 0, I_ 0, I_ 0, .int .u64 0] 76)
 have o1 := Zj h.wa (fun k hk => hb.block k (Zf h.wa hk).2.1)
 have hc : ∀ (j : Nat) (u : Value), (w6s [zW])[j]? = some u -> (w.alloc (.cells #[I_ 0, I_ 0, I_ 0, I_ 0, I_ 0, .int .u64 0] 76)).cell? ((⟨w.heap.size, 0, none⟩ : Addr).add j) = some u := fun j u hu => by
  rw [show (⟨w.heap.size, 0, none⟩ : Addr).add j = ⟨w.heap.size, j, none⟩ by unfold Addr.add; by_cases h : j = 0 <;> simp [h]]
  exact Zb (B_ w _) j u (by simpa [w6s, zW, z3] using hu)
 obtain ⟨v', w', hr, ho, hg, _, hat⟩ := run_append_own_at (P := Tryz.prog) (w.alloc (.cells #[I_ 0, I_ 0, I_ 0, I_ 0, I_ 0, .int .u64 0] 76)) 0 39 ty 76 ie _ 6 48 Tryz.underlying39 hi hz0 hz1 hz2 rfl (by decide) vW r.ws.length (w6s r.ws) o1 ⟨w.heap.size, 0, none⟩ 1 1 (w6s [zW]) rfl hc (fun u hu => w6s_one _ u hu) (by unfold maxLen; omega) (by omega) (Nat.zero_le _)
 have hg2 : w.grownBy w' vW.ownBlock := ⟨hg.os, hg.tape, hg.output, Nat.le_trans hb.size hg.size, fun k hk hne => (hg.block k (Nat.lt_of_lt_of_le hk hb.size) hne).trans (hb.block k hk)⟩
 have hf : ∀ k, v'.ownBlock = some k -> vW.ownBlock = some k ∨ w.heap.size <= k := fun k hk => by
  rcases hat with e | e
  · exact .inl (e.symm.trans hk)
  · rw [e] at hk
    right
    have := Option.some.inj hk
    simp at this
    omega
 have hgb : w'.heap[g]? = w.heap[g]? := hg2.block g (Ze h.at_) (fun e => Zu h.wa h.at_ (by decide) e.symm)
 obtain ⟨a, c, e', _⟩ := Zl ho
 have hn := h.grown zW (by rw [List.length_append, w6s_app]; exact ho) hg2 hf h8
 exact ⟨v', w', hr, ⟨_, _, _, e'⟩, Zc (hgb.trans h.at_) _, Zb (hgb.trans h.at_) 1 _ rfl, _, hn.1, hn.2⟩
end
theorem rr_new {w wa w' : World} {G Fs Rs Fo Fo' R : Nat -> Prop} {B g gs gt : Nat} {S : List (List Wt)} {r' : Rz} {vW vE vL vO vA : Value} {vs : List Value} {os as_ : List Nat} (hb : Below w.heap.size w wa) (hG : ∀ k, G k ↔ Fs k ∨ Rs k ∨ Fo k ∨ R k) (h : Rq w' Fs Rs Fo' R B g gs gt S r' vW vE vL vO vA vs os as_) (c : Ch Fo Fo' wa w') : Rr w' (fun k => Fs k ∨ Rs k ∨ Fo' k ∨ R k) B g S r' /\ Ch G (fun k => Fs k ∨ Rs k ∨ Fo' k ∨ R k) w w' := by
 refine ⟨h.rr, (Ch.of_bel hb).trans ⟨c.os, c.tape, c.output, c.size, fun k hk hn => c.blk k hk (fun e => hn ((hG k).2 (.inr (.inr (.inl e))))), fun k hk => ?_⟩⟩
 rcases hk with q | q | q | q
 · exact .inl ((hG k).2 (.inl q))
 · exact .inl ((hG k).2 (.inr (.inl q)))
 · exact (c.grow k q).imp (fun e => (hG k).2 (.inr (.inr (.inl e)))) id
 · exact .inl ((hG k).2 (.inr (.inr (.inr q))))
theorem ZZ {w : World} {G : Nat -> Prop} {B g : Nat} {S : List (List Wt)} {r : Rz} (h : Rr w G B g S r) (i : Nat) (x : Wt) (ob : Int) (hl : r.ev.length <= 100000) : Calls Tryz.prog 80 #[P_ g, I_ (i : Nat), w6V x, I_ ob] w (RrP w G B g S { r with ev := r.ev ++ [⟨i, x.k, ob, x.a⟩] } (.tuple #[])) := by
 obtain ⟨k, o, a, v0, v1, v2⟩ := x
 unfold w6V
 simp only
 obtain ⟨Fs, Rs, Fo, R, gs, gt, vW, vE, vL, vO, vA, vs, os, as_, h, hG⟩ := h
 obtain ⟨aE, cE, eE, _⟩ := Zl h.ev
 subst eE
 have nb := Zd w (.cells #[I_ k, I_ o, I_ a, I_ v0, I_ v1, .int .u64 v2] 76)
 have BX := Za (B_ w (.cells #[I_ k, I_ o, I_ a, I_ v0, I_ v1, .int .u64 v2] 76))
 have H1 := Za (h.bel nb)
 have HD := Za (H1.out.bel (w' := (w.alloc (.cells #[I_ k, I_ o, I_ a, I_ v0, I_ v1, .int .u64 v2] 76)).drew) (below_drewN (Below.refl _ _) 1))
 have BD := Za (Zp nb)
 have HL := Za hl
 have HG := Za hG
 have HGL : Hid (g < (w.alloc (.cells #[I_ k, I_ o, I_ a, I_ v0, I_ v1, .int .u64 v2] 76)).drew.heap.size) := Za (HD.out.fb g HD.out.fg)
 have HBL : Hid (w.heap.size < (w.alloc (.cells #[I_ k, I_ o, I_ a, I_ v0, I_ v1, .int .u64 v2] 76)).drew.heap.size) := Za (Ze BX.out)
 have NG : Hid (w.heap.size ≠ g) := Za (by have := h.fb g h.fg; omega)
 have NF : Hid (¬ Fo w.heap.size) := Za (fun e => by have := h.fb _ e; omega)
 have S0 : Hid ((fun wz => wz.cell? ⟨g, 2, none⟩ = some (.slice aE r.ev.length cE) /\ wz.cell? ⟨w.heap.size, 0, none⟩ = some (I_ k) /\ wz.cell? ⟨w.heap.size, 2, none⟩ = some (I_ a)) (w.alloc (.cells #[I_ k, I_ o, I_ a, I_ v0, I_ v1, .int .u64 v2] 76)).drew) := Za ⟨HD.out.cells.1.2.2.1, Zb BX.out 0 _ rfl, Zb BX.out 2 _ rfl⟩
 have PU := Za (fun ty => HD.out.pushE HL.out ⟨i, k, ob, a⟩ ty)
 simp only at PU
 clear h hG nb BX H1 hl
 go_enter Tryz.func80, Tryz.ntmps80
 go_upto_region 1 with fail
 refine ZD (S := fun wz => wz.cell? ⟨g, 2, none⟩ = some (.slice aE r.ev.length cE) /\ wz.cell? ⟨w.heap.size, 0, none⟩ = some (I_ k) /\ wz.cell? ⟨w.heap.size, 2, none⟩ = some (I_ a)) (fun j => decide (j < 16)) ZJ S0.out (fun hH => ?_)
 clear S0
 generalize World.drew _ = wd at *
 refine M_ 0 ?_
 simp only [Act.put, S_]
 refine M_ 1 ?_
 simp only [Act.put, S_]
 refine M_ 2 ?_
 simp only [Act.put, S_]
 refine M_ 3 ?_
 simp only [Act.put, S_]
 refine L_ 4 (v := ?_) ?_ hH ?_
 rotate_left 1
 · (intro w hSw; have q := hSw.1; clear hSw; go_simp <;> with_reducible rfl)
 simp only [Act.put, S_]
 refine M_ 5 ?_
 simp only [Act.put, S_]
 refine M_ 6 ?_
 simp only [Act.put, S_]
 refine L_ 7 (v := ?_) ?_ hH ?_
 rotate_left 1
 · (intro w hSw; have q := hSw.2.1; clear hSw; go_simp <;> with_reducible rfl)
 simp only [Act.put, S_]
 refine M_ 8 ?_
 simp only [Act.put, S_]
 refine M_ 9 ?_
 simp only [Act.put, S_]
 refine L_ 10 (v := ?_) ?_ hH ?_
 rotate_left 1
 · (intro w hSw; have q := hSw.2.2; clear hSw; go_simp <;> with_reducible rfl)
 simp only [Act.put, S_]
 refine M_ 11 ?_
 simp only [Act.put, S_]
 refine RT_ 12 (fun K1 hK1 => ?_)
 go_simp
 refine hK1.out _ _ (fun _ => ⟨((Zd _ _).cell (p := ⟨g, 2, none⟩) HGL.out).trans hH.1, ((Zd _ _).cell (p := ⟨w.heap.size, 0, none⟩) HBL.out).trans hH.2.1, ((Zd _ _).cell (p := ⟨w.heap.size, 2, none⟩) HBL.out).trans hH.2.2⟩) (fun _ => ?_)
 clear hK1 K1
 refine RT_ 13 (fun K1 hK1 => ?_)
 refine Zr (TS := 40) (.tmp 12) (.tmp 20) _ _ _ (fun ty => PU.out ty) rfl rfl rfl rfl ?_
 rintro v9 w9 ⟨⟨a9, l9, c9, rfl⟩, z9, y9, Fo9, q9, ch9⟩
 have hb9 : w9.heap[w.heap.size]? = wd.heap[w.heap.size]? := (Below.heap_setCell _ _ _ _ NG.out).symm.trans (ch9.blk _ HBL.out NF.out)
 refine hK1.out _ _ (fun _ => ⟨y9, (World.cell?_of_block (a := ⟨w.heap.size, 0, none⟩) hb9).trans hH.2.1, (World.cell?_of_block (a := ⟨w.heap.size, 2, none⟩) hb9).trans hH.2.2⟩) (fun _ => ?_)
 have Q9 := Za q9
 have C9 := Za ch9
 clear hK1 K1 PU q9 ch9 hH hb9
 refine M_ 14 ?_
 simp only [Act.put, S_]
 refine M_ 15 ?_
 simp only [Act.put, S_]
 refine RT_ 16 (fun K1 hK1 => ?_)
 go_simp
 refine hK1.out _ _ (fun h => absurd h (by decide)) (fun _ => ?_)
 clear hK1 K1 z9 y9
 refine ZW (by kernel_rfl) ?_ _
 go_wp2_with fail
 go_end0
 have RW := rr_new (BD.out) HG.out Q9.out C9.out
 exact ⟨rfl, _, RW.1, RW.2⟩
theorem next_wait {w : World} {G Fs Fo R : Nat -> Prop} {g gs : Nat} {S : List (List Wt)} {r : Rm} {vC vB vG vE : Value} {ps ts : List Nat} (h : Ru w Fs Fo R g gs S r vC vB vG vE ps ts) (hG : ∀ k, G k ↔ Fs k ∨ Fo k ∨ R k) (i t : Nat) (x : Gr) (hx : r.gs[i]? = some x) (ht : ts[i]? = some t) (y : Wt) (l : List Wt) (hr : x.rest = y :: l) (hk : y.k ≠ 0) (j0 j1 j2 : Int) : Calls Tryz.prog 127 #[P_ t, .agg #[I_ j0, I_ j1, .int .u64 j2]] w (NextP w G g t S { r with gs := r.gs.set i ⟨l, x.w⟩ } y 0 0 0) := by
  obtain ⟨b, hb⟩ : ∃ b, ps[i]? = some b := ⟨_, List.getElem?_eq_getElem (by rw [h.pl]; exact (G_ hx))⟩
  obtain ⟨⟨va, vw, q1, q2, q3, q4⟩, q5, q6⟩ := h.gr i x b t hx hb ht
  rw [hr] at q4
  have q4' := q4
  obtain ⟨a, c, rfl, hac, hcm, hel⟩ := q4
  obtain ⟨b2, o2, vy, rfl, hRb, hcl, hAy⟩ := hel 0 y rfl
  obtain ⟨ay, ny, cy, rfl⟩ := hAy.form
  obtain ⟨yk, yo, ya, y0, y1, y2⟩ := y
  simp only [List.length_cons] at hac q4' q3
  simp only at hk
  obtain ⟨n, hn⟩ : ∃ n, n = l.length := ⟨_, rfl⟩
  rw [← hn] at hac q4' q3
  have c0 : w.cell? ⟨t, 0, none⟩ = some (.slice (some ⟨b2, o2, none⟩) (n + 1) c) := Zb q3 0 _ rfl
  have HT := Za (Ze q3)
  have e0 : w.cell? ⟨b2, o2, none⟩ = some (I_ yk) := hcl 0 _ rfl
  have e1 : w.cell? ⟨b2, o2 + 1, none⟩ = some (I_ yo) := hcl 1 _ rfl
  have e2 : w.cell? ⟨b2, o2 + 2, none⟩ = some (I_ ya) := hcl 2 _ rfl
  have e3 : w.cell? ⟨b2, o2 + 3, none⟩ = some (I_ y0) := hcl 3 _ rfl
  have e4 : w.cell? ⟨b2, o2 + 4, none⟩ = some (I_ y1) := hcl 4 _ rfl
  have e5 : w.cell? ⟨b2, o2 + 5, none⟩ = some (.int .u64 y2) := hcl 5 _ rfl
  have e6 : w.cell? ⟨b2, o2 + 6, none⟩ = some (.slice ay ny cy) := hcl 6 _ rfl
  have EE := Za (And.intro e0 (And.intro e1 (And.intro e2 (And.intro e3 (And.intro e4 (And.intro e5 e6))))))
  have HB2 := Za (h.rb b2 hRb)
  have HA := Za hAy
  have HQ := Za q4'
  have HN := Za hn
  have HU := Za h
  have HG := Za hG
  have HX := Za (And.intro hx ht)
  have C0 := Za c0
  unfold maxLen at hcm
  clear h hG q1 q2 q3 q4' q5 q6 hx ht hb hr c0 hcl hAy hn e0 e1 e2 e3 e4 e5 e6 hel hRb
  have B1 : Hid (Below w.heap.size w (((w.alloc (.cells #[I_ j0, I_ j1, .int .u64 j2] 64)).alloc (.cells #[I_ 0, I_ 0, I_ 0, I_ 0, I_ 0, .int .u64 0, .slice none 0 0] 67)).alloc (.cells #[I_ 0, I_ 0, I_ 0] 122))) := Za (Zv (Zv (Zd w _) _) _)
  have Y1 : Hid ((((w.alloc (.cells #[I_ j0, I_ j1, .int .u64 j2] 64)).alloc (.cells #[I_ 0, I_ 0, I_ 0, I_ 0, I_ 0, .int .u64 0, .slice none 0 0] 67)).alloc (.cells #[I_ 0, I_ 0, I_ 0] 122)).heap[w.heap.size + 1]? = some (.cells #[I_ 0, I_ 0, I_ 0, I_ 0, I_ 0, .int .u64 0, .slice none 0 0] 67 (0, 0))) := Za (by
    have e1 := B_ (w.alloc (.cells #[I_ j0, I_ j1, .int .u64 j2] 64)) (.cells #[I_ 0, I_ 0, I_ 0, I_ 0, I_ 0, .int .u64 0, .slice none 0 0] 67)
    have hs : (w.alloc (.cells #[I_ j0, I_ j1, .int .u64 j2] 64)).heap.size = w.heap.size + 1 := by simp
    rw [hs] at e1
    exact ((Zd _ _).block _ (Ze e1)).trans e1)
  have Y2 : Hid ((((w.alloc (.cells #[I_ j0, I_ j1, .int .u64 j2] 64)).alloc (.cells #[I_ 0, I_ 0, I_ 0, I_ 0, I_ 0, .int .u64 0, .slice none 0 0] 67)).alloc (.cells #[I_ 0, I_ 0, I_ 0] 122)).heap[w.heap.size + 1 + 1]? = some (.cells #[I_ 0, I_ 0, I_ 0] 122 (0, 0))) := Za (by
    have e1 := B_ ((w.alloc (.cells #[I_ j0, I_ j1, .int .u64 j2] 64)).alloc (.cells #[I_ 0, I_ 0, I_ 0, I_ 0, I_ 0, .int .u64 0, .slice none 0 0] 67)) (.cells #[I_ 0, I_ 0, I_ 0] 122)
    have hs : ((w.alloc (.cells #[I_ j0, I_ j1, .int .u64 j2] 64)).alloc (.cells #[I_ 0, I_ 0, I_ 0, I_ 0, I_ 0, .int .u64 0, .slice none 0 0] 67)).heap.size = w.heap.size + 1 + 1 := by simp
    rw [hs] at e1
    exact e1)
  go_enter Tryz.func127, Tryz.ntmps127
  go_upto_region 1 with fail
  generalize ((w.alloc _).alloc _).alloc _ = W1 at *
  have c1 := (B1.out.cell (p := ⟨t, 0, none⟩) HT.out).trans C0.out
  obtain ⟨e0, e1, e2, e3, e4, e5, e6⟩ := EE.out
  have e0 := (B1.out.cell (p := ⟨b2, o2, none⟩) HB2.out).trans e0
  have e1 := (B1.out.cell (p := ⟨b2, o2 + 1, none⟩) HB2.out).trans e1
  have e2 := (B1.out.cell (p := ⟨b2, o2 + 2, none⟩) HB2.out).trans e2
  have e3 := (B1.out.cell (p := ⟨b2, o2 + 3, none⟩) HB2.out).trans e3
  have e4 := (B1.out.cell (p := ⟨b2, o2 + 4, none⟩) HB2.out).trans e4
  have e5 := (B1.out.cell (p := ⟨b2, o2 + 5, none⟩) HB2.out).trans e5
  have e6 := (B1.out.cell (p := ⟨b2, o2 + 6, none⟩) HB2.out).trans e6
  have hnn : ((n : Int) + 1 == 0) = false := by simp; omega
  go_upto_region 4 with fail
  have B2 : Hid (Below w.heap.size w (W1.alloc (.cells #[I_ yk, I_ yo, I_ ya, I_ y0, I_ y1, .int .u64 y2, .slice ay ny cy] 67))) := Za (Zv B1.out _)
  have X1 := Za (((Zd W1 (.cells #[I_ yk, I_ yo, I_ ya, I_ y0, I_ y1, .int .u64 y2, .slice ay ny cy] 67)).block _ (Ze Y1.out)).trans Y1.out)
  have X2 := Za (((Zd W1 (.cells #[I_ yk, I_ yo, I_ ya, I_ y0, I_ y1, .int .u64 y2, .slice ay ny cy] 67)).block _ (Ze Y2.out)).trans Y2.out)
  have X3 := Za (Wv.new W1 yk yo ya y0 y1 y2 (.slice ay ny cy))
  have c2 := ((Zd W1 (.cells #[I_ yk, I_ yo, I_ ya, I_ y0, I_ y1, .int .u64 y2, .slice ay ny cy] 67)).cell (p := ⟨t, 0, none⟩) (Nat.lt_of_lt_of_le HT.out B1.out.size)).trans c1
  have SZ := Za (And.intro (Ze Y2.out) B1.out.size)
  obtain ⟨bl, hbl⟩ : ∃ bl, W1.heap.size = bl := ⟨_, rfl⟩
  rw [hbl] at X3 SZ ⊢
  clear e0 e1 e2 e3 e4 e5 e6 c1 Y1 Y2 B1 hbl
  generalize W1.alloc _ = W2 at *
  by_cases hc1 : c = 1
  · have hn0 : n = 0 := by omega
    subst hn0
    subst hc1
    have HF := Za (HU.out.bel B2.out)
    have f0 : W2.frozen? ⟨t, 0, none⟩ = false := by
      obtain ⟨b', hb'⟩ : ∃ b', ps[i]? = some b' := ⟨_, List.getElem?_eq_getElem (by rw [HU.out.pl]; exact (G_ HX.out.1))⟩
      obtain ⟨⟨va', vw', q1, q2, q3, q4⟩, q5, q6⟩ := HF.out.gr i x b' t HX.out.1 hb' HX.out.2
      exact Zc q3 0
    have WR : WRow W2 R (.slice (some ⟨b2, o2, none⟩) 0 (1 - 1)) l := by
      have hq := HQ.out
      rw [HN.out] at hq ⊢
      exact (hq.tail rfl (some ⟨b2, o2, none⟩) (fun hl => absurd hl (by have := HN.out; omega))).keep (fun k hk => B2.out.block k (HU.out.rb k hk)) (fun _ h => h)
    simp only [Nat.sub_self] at WR
    have MV := Za (HF.out.moveT HX.out.1 HX.out.2 (.slice (some ⟨b2, o2, none⟩) 0 0) l WR)
    have HTW := Za (Nat.lt_of_lt_of_le HT.out B2.out.size)
    clear WR HF
    go_upto_region 5 with fail
    have Z1 := Za ((Below.heap_setCell W2 ⟨t, 0, none⟩ (.slice (some ⟨b2, o2, none⟩) 0 0) _ (by have := HT.out; simp; omega)).trans X1.out)
    have Z2 := Za ((Below.heap_setCell W2 ⟨t, 0, none⟩ (.slice (some ⟨b2, o2, none⟩) 0 0) _ (by have := HT.out; simp; omega)).trans X2.out)
    have Z3 : Hid (Wv (W2.setCell ⟨t, 0, none⟩ (.slice (some ⟨b2, o2, none⟩) 0 0)) bl yk yo ya (y0, y1, y2) (.slice ay ny cy)) := Za ((Below.heap_setCell W2 ⟨t, 0, none⟩ (.slice (some ⟨b2, o2, none⟩) 0 0) _ (by have := HT.out; have := SZ.out; simp; omega)).trans X3.out)
    have RN := Za (Yh HG.out MV.out.1 MV.out.2)
    have AR : Hid (YK (W2.setCell ⟨t, 0, none⟩ (.slice (some ⟨b2, o2, none⟩) 0 0)) R (.slice ay ny cy)) := Za (HA.out.keep (fun k hk => (Below.heap_setCell _ _ _ _ (fun e => by
      obtain ⟨b', hb'⟩ : ∃ b', ps[i]? = some b' := ⟨_, List.getElem?_eq_getElem (by rw [HU.out.pl]; exact (G_ HX.out.1))⟩
      obtain ⟨_, q5, q6⟩ := HU.out.gr i x b' t HX.out.1 hb' HX.out.2
      have e' : k = t := e
      subst e'
      exact HU.out.ro _ hk q6)).trans (B2.out.block k (HU.out.rb k hk))) (fun _ h => h))
    have B3 := Za (And.intro ((Ch.of_bel B2.out).trans RN.out.2) RN.out.1)
    have K3 : Hid (∀ k, k < w.heap.size -> k ≠ t -> (W2.setCell ⟨t, 0, none⟩ (.slice (some ⟨b2, o2, none⟩) 0 0)).heap[k]? = w.heap[k]?) := Za (fun k hk hne => (Below.heap_setCell _ _ _ _ hne).trans (B2.out.block k hk))
    have S3 := Za (And.intro B2.out.size (by rw [Zi]; exact Nat.le_refl _ : W2.heap.size <= (W2.setCell ⟨t, 0, none⟩ (.slice (some ⟨b2, o2, none⟩) 0 0)).heap.size))
    have GL : Hid (∀ k, (Fs k ∨ Fo k ∨ R k) -> k < w.heap.size) := Za (fun k hk => HU.out.lt hk)
    clear MV RN X1 X2 X3 f0 c2 HU HQ HN HX HA
    generalize W2.setCell ⟨t, 0, none⟩ (.slice (some ⟨b2, o2, none⟩) 0 0) = W3 at *
    obtain ⟨q0, q1, q2, q3, q4, q5, q6⟩ := Z3.out.all
    have hkb : (yk == 0) = false := by simp [hk]
    have CL := Za (wclone_any yk yo ya y0 y1 y2 (.slice ay ny cy) AR.out)
    go_wp2_with fail
    refine CL.out.mono ?_
    rintro e w4 ⟨v4, rfl, a4, hb4⟩
    obtain ⟨a5, n5, c5, x5, rfl, _⟩ := id a4
    have Y9 := Za ((hb4.block _ (Ze Z1.out)).trans Z1.out)
    have YH := Za ((hb4.block _ (Ze Z2.out)).trans Z2.out)
    have A4 := Za a4
    have B4 := Za hb4
    have S4 := Za (And.intro (Ze Z1.out) (Ze Z2.out))
    clear a4 hb4 CL q0 q1 q2 q3 q4 q5 q6
    have p0 := Zb Y9.out 0 _ rfl
    have p1 := Zb Y9.out 1 _ rfl
    have p2 := Zb Y9.out 2 _ rfl
    have p3 := Zb Y9.out 3 _ rfl
    have p4 := Zb Y9.out 4 _ rfl
    have p5 := Zb Y9.out 5 _ rfl
    have p6 := Zb Y9.out 6 _ rfl
    have f0 := Zc Y9.out 0
    have f1 := Zc Y9.out 1
    have f2 := Zc Y9.out 2
    have f3 := Zc Y9.out 3
    have f4 := Zc Y9.out 4
    have f5 := Zc Y9.out 5
    have f6 := Zc Y9.out 6
    have n0 := Zb YH.out 0 _ rfl
    have n1 := Zb YH.out 1 _ rfl
    have n2 := Zb YH.out 2 _ rfl
    have m0 := Zc YH.out 0
    have m1 := Zc YH.out 1
    have m2 := Zc YH.out 2
    go_wp2_with fail
    have BB : Below w.heap.size w4 ((((set7 w4 (w.heap.size + 1) 0 (I_ yk) (I_ yo) (I_ ya) (I_ y0) (I_ y1) (.int .u64 y2) (.slice a5 n5 c5)).setCell ⟨w.heap.size + 1 + 1, 0, none⟩ (I_ 0)).setCell ⟨w.heap.size + 1 + 1, 1, none⟩ (I_ 0)).setCell ⟨w.heap.size + 1 + 1, 2, none⟩ (I_ 0)) := Zt (ZL (o := 0) (Below.refl _ _) (by omega)) (by omega) _ _ _
    refine YF (w.heap.size + 1) (w.heap.size + 1 + 1) rfl rfl rfl ⟨_, _, _, rfl⟩ ((ne3 (by omega)).trans (ZR Y9.out _ _ _ _ _ _ _)) (Yx ((Zy (o := 0) (by omega)).trans YH.out) _ _ _) rfl ⟨_, rfl, ?_, fun k hk hne => ((BB.block k hk).trans (B4.out.block k (by have := S3.out; omega))).trans (K3.out k hk hne), _, (B3.out.2.bel B4.out).low (N := w.heap.size) GL.out BB, ?_⟩
    · refine (A4.out.low (Nat.zero_le _)).keep fun k _ _ hk => ?_
      have hk1 := (A4.out.at hk).1
      have h1 := S4.out
      exact (ne3 (by omega)).trans (Zy (o := 0) (by omega))
    · exact (B3.out.1.trans (Ch.of_bel B4.out)).below BB
  · skip
    have HF := Za (HU.out.bel B2.out)
    have f0 : W2.frozen? ⟨t, 0, none⟩ = false := by
      obtain ⟨b', hb'⟩ : ∃ b', ps[i]? = some b' := ⟨_, List.getElem?_eq_getElem (by rw [HU.out.pl]; exact (G_ HX.out.1))⟩
      obtain ⟨⟨va', vw', q1, q2, q3, q4⟩, q5, q6⟩ := HF.out.gr i x b' t HX.out.1 hb' HX.out.2
      exact Zc q3 0
    have WR : WRow W2 R (.slice (some ⟨b2, o2 + 7, none⟩) n (c - 1)) l := by
      have hq := HQ.out
      rw [HN.out] at hq ⊢
      exact (hq.tail rfl (some ⟨b2, o2 + 7, none⟩) (fun hl => rfl)).keep (fun k hk => B2.out.block k (HU.out.rb k hk)) (fun _ h => h)
    have MV := Za (HF.out.moveT HX.out.1 HX.out.2 (.slice (some ⟨b2, o2 + 7, none⟩) n (c - 1)) l WR)
    have HTW := Za (Nat.lt_of_lt_of_le HT.out B2.out.size)
    clear WR HF
    go_upto_region 5 with fail
    have Z1 := Za ((Below.heap_setCell W2 ⟨t, 0, none⟩ (.slice (some ⟨b2, o2 + 7, none⟩) n (c - 1)) _ (by have := HT.out; simp; omega)).trans X1.out)
    have Z2 := Za ((Below.heap_setCell W2 ⟨t, 0, none⟩ (.slice (some ⟨b2, o2 + 7, none⟩) n (c - 1)) _ (by have := HT.out; simp; omega)).trans X2.out)
    have Z3 : Hid (Wv (W2.setCell ⟨t, 0, none⟩ (.slice (some ⟨b2, o2 + 7, none⟩) n (c - 1))) bl yk yo ya (y0, y1, y2) (.slice ay ny cy)) := Za ((Below.heap_setCell W2 ⟨t, 0, none⟩ (.slice (some ⟨b2, o2 + 7, none⟩) n (c - 1)) _ (by have := HT.out; have := SZ.out; simp; omega)).trans X3.out)
    have RN := Za (Yh HG.out MV.out.1 MV.out.2)
    have AR : Hid (YK (W2.setCell ⟨t, 0, none⟩ (.slice (some ⟨b2, o2 + 7, none⟩) n (c - 1))) R (.slice ay ny cy)) := Za (HA.out.keep (fun k hk => (Below.heap_setCell _ _ _ _ (fun e => by
      obtain ⟨b', hb'⟩ : ∃ b', ps[i]? = some b' := ⟨_, List.getElem?_eq_getElem (by rw [HU.out.pl]; exact (G_ HX.out.1))⟩
      obtain ⟨_, q5, q6⟩ := HU.out.gr i x b' t HX.out.1 hb' HX.out.2
      have e' : k = t := e
      subst e'
      exact HU.out.ro _ hk q6)).trans (B2.out.block k (HU.out.rb k hk))) (fun _ h => h))
    have B3 := Za (And.intro ((Ch.of_bel B2.out).trans RN.out.2) RN.out.1)
    have K3 : Hid (∀ k, k < w.heap.size -> k ≠ t -> (W2.setCell ⟨t, 0, none⟩ (.slice (some ⟨b2, o2 + 7, none⟩) n (c - 1))).heap[k]? = w.heap[k]?) := Za (fun k hk hne => (Below.heap_setCell _ _ _ _ hne).trans (B2.out.block k hk))
    have S3 := Za (And.intro B2.out.size (by rw [Zi]; exact Nat.le_refl _ : W2.heap.size <= (W2.setCell ⟨t, 0, none⟩ (.slice (some ⟨b2, o2 + 7, none⟩) n (c - 1))).heap.size))
    have GL : Hid (∀ k, (Fs k ∨ Fo k ∨ R k) -> k < w.heap.size) := Za (fun k hk => HU.out.lt hk)
    clear MV RN X1 X2 X3 f0 c2 HU HQ HN HX HA
    generalize W2.setCell ⟨t, 0, none⟩ (.slice (some ⟨b2, o2 + 7, none⟩) n (c - 1)) = W3 at *
    obtain ⟨q0, q1, q2, q3, q4, q5, q6⟩ := Z3.out.all
    have hkb : (yk == 0) = false := by simp [hk]
    have CL := Za (wclone_any yk yo ya y0 y1 y2 (.slice ay ny cy) AR.out)
    go_wp2_with fail
    refine CL.out.mono ?_
    rintro e w4 ⟨v4, rfl, a4, hb4⟩
    obtain ⟨a5, n5, c5, x5, rfl, _⟩ := id a4
    have Y9 := Za ((hb4.block _ (Ze Z1.out)).trans Z1.out)
    have YH := Za ((hb4.block _ (Ze Z2.out)).trans Z2.out)
    have A4 := Za a4
    have B4 := Za hb4
    have S4 := Za (And.intro (Ze Z1.out) (Ze Z2.out))
    clear a4 hb4 CL q0 q1 q2 q3 q4 q5 q6
    have p0 := Zb Y9.out 0 _ rfl
    have p1 := Zb Y9.out 1 _ rfl
    have p2 := Zb Y9.out 2 _ rfl
    have p3 := Zb Y9.out 3 _ rfl
    have p4 := Zb Y9.out 4 _ rfl
    have p5 := Zb Y9.out 5 _ rfl
    have p6 := Zb Y9.out 6 _ rfl
    have f0 := Zc Y9.out 0
    have f1 := Zc Y9.out 1
    have f2 := Zc Y9.out 2
    have f3 := Zc Y9.out 3
    have f4 := Zc Y9.out 4
    have f5 := Zc Y9.out 5
    have f6 := Zc Y9.out 6
    have n0 := Zb YH.out 0 _ rfl
    have n1 := Zb YH.out 1 _ rfl
    have n2 := Zb YH.out 2 _ rfl
    have m0 := Zc YH.out 0
    have m1 := Zc YH.out 1
    have m2 := Zc YH.out 2
    go_wp2_with fail
    have BB : Below w.heap.size w4 ((((set7 w4 (w.heap.size + 1) 0 (I_ yk) (I_ yo) (I_ ya) (I_ y0) (I_ y1) (.int .u64 y2) (.slice a5 n5 c5)).setCell ⟨w.heap.size + 1 + 1, 0, none⟩ (I_ 0)).setCell ⟨w.heap.size + 1 + 1, 1, none⟩ (I_ 0)).setCell ⟨w.heap.size + 1 + 1, 2, none⟩ (I_ 0)) := Zt (ZL (o := 0) (Below.refl _ _) (by omega)) (by omega) _ _ _
    refine YF (w.heap.size + 1) (w.heap.size + 1 + 1) rfl rfl rfl ⟨_, _, _, rfl⟩ ((ne3 (by omega)).trans (ZR Y9.out _ _ _ _ _ _ _)) (Yx ((Zy (o := 0) (by omega)).trans YH.out) _ _ _) rfl ⟨_, rfl, ?_, fun k hk hne => ((BB.block k hk).trans (B4.out.block k (by have := S3.out; omega))).trans (K3.out k hk hne), _, (B3.out.2.bel B4.out).low (N := w.heap.size) GL.out BB, ?_⟩
    · refine (A4.out.low (Nat.zero_le _)).keep fun k _ _ hk => ?_
      have hk1 := (A4.out.at hk).1
      have h1 := S4.out
      exact (ne3 (by omega)).trans (Zy (o := 0) (by omega))
    · exact (B3.out.1.trans (Ch.of_bel B4.out)).below BB
end Go.Proofs.YtfojninaginnoaaGreatDoor.Ck
