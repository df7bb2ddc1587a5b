/- Texts of this proof, packed: contracts of the program's functions, and the plain model that they are held against. -/
import Derived.Test.YtghfjnnmpmfboaaDoorQan
import Derived.ProofKit
import Derived.OpenShut
import Derived.ChangeOld
import Derived.Below
import Derived.Deep.Slices
import Derived.ChangeArms
import Derived.Carry
set_option maxRecDepth 20000
set_option maxHeartbeats 4000000
namespace Go.Proofs.YtghfjnnmpmfboaaDoor.Ck
open Go.RowKit
theorem begin_ok {w : World} {G Fs Rs Fo R : Nat -> Prop} {B g gs gt : Nat} {S : List (List Wt)} {r : Rz} {vW vE vL vO vA : Value} {vs : List Value} {os as_ : List Nat} (h : Rq w Fs Rs Fo R B g gs gt S r vW vE vL vO vA vs os as_) (hG : ∀ k, G k ↔ Fs k ∨ Rs k ∨ Fo k ∨ R k) (fn : Nat) (l : List Wt) (hl : S[fn]? = some l) (hp : r.pe.length <= 8) : Calls Tryd.prog 96 #[.pointer (some ⟨gt, 0, none⟩), .int .i64 (fn : Nat)] w (RrP w G B g S { r with pe := r.pe ++ [l] } (.bool true)) := by
  obtain ⟨n, hn⟩ : ∃ n, n = r.pe.length := ⟨_, rfl⟩
  obtain ⟨hol, hal, _⟩ := h.ol
  obtain ⟨aO, cO, eO, _⟩ := Zo h.of
  obtain ⟨aA, cA, eA, _⟩ := Zo h.at'
  obtain ⟨aL, cL, eL, _⟩ := Zo h.al
  rw [← hn] at eO eA
  subst eO eA eL
  have hfS := (List.getElem?_eq_some_iff.1 hl).1
  obtain ⟨nS, hnS⟩ : ∃ n, n = S.length := ⟨_, rfl⟩
  have hlt : (fn : Int) < (nS : Int) := by omega
  have c0 := h.cells.2.2.1
  rw [← hnS] at c0
  have hd := h.bel (Zs (Below.refl _ _))
  have HQ := Za hd
  have HG := Za hG
  have HL := Za hl
  have HLN : Hid (n = os.length /\ n = as_.length /\ n <= 1000) := Za ⟨by omega, by omega, by omega⟩
  have HPN : Hid (r.pe.length = n) := Za hn.symm
  have HP8 : Hid (n <= 8) := Za (by omega)
  have HBD : Hid (Below w.heap.size w w.drew) := Za (Zs (Below.refl _ _))
  obtain ⟨_, ⟨m6, m7, m8, m9⟩, _⟩ := hd.rowne
  have X : Hid (Bgn w.drew w.drew gt (.cells #[.slice aL nS cL, .slice aO n cO, .slice aA n cA] 145 (0, 0)) (.slice aO n cO) (.slice aA n cA) (.slice aO n cO) (.slice aA n cA) n n os as_) := Za ⟨by have := hd.of; rw [← hn] at this; exact this, by have := hd.at'; rw [← hn] at this; exact this, hd.ne, m8, m9, by rw [hnS]; exact hd.tt, Ch.refl _ _⟩
  have HLO : Hid (∀ k, (Value.slice aO n cO).ownBlock = some k -> k < w.drew.heap.size) := Za (fun k hk => (Zf hd.of hk).2.1)
  clear h hd hG hl hp hn hol hal hfS hnS m6 m7 m8 m9
  go_enter Tryd.func96, Tryd.ntmps96
  go_upto_region 3 with fail
  refine wp_region_T (S := fun w' => w'.heap[gt]? = some (.cells #[.slice aL nS cL, .slice aO n cO, .slice aA n cA] 145 (0, 0))) (fun j => decide (j < 15)) ZU X.out.tt (fun hH => ?_)
  generalize w.drew = wd at *
  refine Zr (i := 0) (v := ?_) rfl (by kernel_rfl) (by kernel_rfl) (by kernel_rfl) (fun _ _ _ h => h) (Or.inl ⟨by rfl, ?_⟩) ?_
  rotate_left 1
  · (intro w _; go_simp <;> with_reducible rfl)
  simp only [Act.put, S_]
  refine Zr (i := 1) (v := ?_) rfl (by kernel_rfl) (by kernel_rfl) (by kernel_rfl) (fun _ _ _ h => h) (Or.inl ⟨by rfl, ?_⟩) ?_
  rotate_left 1
  · (intro w _; go_simp <;> with_reducible rfl)
  simp only [Act.put, S_]
  refine Zr (i := 2) (v := ?_) rfl (by kernel_rfl) (by kernel_rfl) (by kernel_rfl) (fun _ _ _ h => h) (Or.inl ⟨by rfl, ?_⟩) ?_
  rotate_left 1
  · (intro w _; go_simp <;> with_reducible rfl)
  simp only [Act.put, S_]
  refine Zr (i := 3) (v := ?_) rfl (by kernel_rfl) (by kernel_rfl) (by kernel_rfl) (fun _ _ _ h => h) (Or.inl ⟨by rfl, ?_⟩) ?_
  rotate_left 1
  · (intro w _; go_simp <;> with_reducible rfl)
  simp only [Act.put, S_]
  refine Zr (i := 4) (v := ?_) rfl (by kernel_rfl) (by kernel_rfl) (by kernel_rfl) (fun _ _ _ h => h) (Or.inl ⟨by rfl, ?_⟩) ?_
  rotate_left 1
  · (intro w _; go_simp <;> with_reducible rfl)
  simp only [Act.put, S_]
  refine Yo (i := 5) (v := ?_) rfl (by kernel_rfl) (by kernel_rfl) (by kernel_rfl) (by kernel_rfl) (fun _ _ _ h => h) (Or.inl ⟨by rfl, ?_⟩) hH ?_
  rotate_left 1
  · (intro w hSw; have q := Zb hSw 1 _ rfl; clear hSw; go_simp <;> with_reducible rfl)
  simp only [Act.put, S_]
  refine Zr (i := 6) (v := ?_) rfl (by kernel_rfl) (by kernel_rfl) (by kernel_rfl) (fun _ _ _ h => h) (Or.inl ⟨by rfl, ?_⟩) ?_
  rotate_left 1
  · (intro w _; go_simp <;> with_reducible rfl)
  simp only [Act.put, S_]
  refine Zr (i := 9) (v := ?_) rfl (by kernel_rfl) (by kernel_rfl) (by kernel_rfl) (fun _ _ _ h => h) (Or.inl ⟨by rfl, ?_⟩) ?_
  rotate_left 1
  · (intro w _; go_simp <;> with_reducible rfl)
  simp only [Act.put, S_]
  refine Zr (i := 10) (v := ?_) rfl (by kernel_rfl) (by kernel_rfl) (by kernel_rfl) (fun _ _ _ h => h) (Or.inl ⟨by rfl, ?_⟩) ?_
  rotate_left 1
  · (intro w _; go_simp <;> with_reducible rfl)
  simp only [Act.put, S_]
  refine Zr (i := 11) (v := ?_) rfl (by kernel_rfl) (by kernel_rfl) (by kernel_rfl) (fun _ _ _ h => h) (Or.inl ⟨by rfl, ?_⟩) ?_
  rotate_left 1
  · (intro w _; go_simp <;> with_reducible rfl)
  simp only [Act.put, S_]
  refine Yo (i := 12) (v := ?_) rfl (by kernel_rfl) (by kernel_rfl) (by kernel_rfl) (by kernel_rfl) (fun _ _ _ h => h) (Or.inl ⟨by rfl, ?_⟩) hH ?_
  rotate_left 1
  · (intro w hSw; have q := Zb hSw 2 _ rfl; clear hSw; go_simp <;> with_reducible rfl)
  simp only [Act.put, S_]
  clear hH
  refine Zy (rs := [7, 13]) (by kernel_rfl) (by decide) ?_
  refine Zl.cons rfl (fun K1 hK1 => ?_) (Zl.cons rfl (fun K1 hK1 => ?_) Zl.nil)
  · go_simp
    refine hK1.out _ _ (fun _ => ((Zd _ _).block gt (Ze X.out.tt)).trans X.out.tt) (fun _ => ?_)
    have E1 : Hid ((wd.alloc (.cells #[.int .i64 (fn : Nat)] 3)).cell? ⟨wd.heap.size, 0, none⟩ = some (.int .i64 (fn : Nat))) := Za (by
      have e1 := Zb (B_ wd (.cells #[.int .i64 (fn : Nat)] 3)) 0 _ rfl
      exact e1)
    have X9 := Za (X.out.al (Zd wd (.cells #[.int .i64 (fn : Nat)] 3)))
    clear hK1 K1 X
    have X := X9
    clear X9
    refine Zy (rs := [8, 13]) (by kernel_rfl) (by decide) ?_
    refine Zl.cons rfl (fun K1 hK1 => ?_) (Zl.cons rfl (fun K1 hK1 => ?_) Zl.nil)
    · have PU := Za (fun ty => push_n (n := n) (l := os) (HLN.out.1) (HLN.out.2.2) X.out.o1 fn (E1.out) ty)
      refine Zz (TS := 22) (.tmp 21) (.tmp 23) _ _ _ (fun ty => PU.out ty) rfl rfl rfl rfl ?_
      rintro v1 w8 ⟨⟨a1, c1, rfl⟩, o9, g9, b9⟩
      have X9 := Za (X.out.push1 o9 g9 b9)
      refine hK1.out _ _ (fun _ => X9.out.tt) (fun _ => ?_)
      have G9 := Za g9
      clear hK1 K1 X PU o9 g9 b9
      have X := X9
      clear X9
      clear E1 G9
      refine Zy (rs := [13]) (by kernel_rfl) (by decide) ?_
      refine Zl.cons rfl (fun K1 hK1 => ?_) Zl.nil
      go_simp
      refine hK1.out _ _ (fun _ => ((Zd _ _).block gt (Ze X.out.tt)).trans X.out.tt) (fun _ => ?_)
      have E2 : Hid ((w8.alloc (.cells #[.int .i64 0] 3)).cell? ⟨w8.heap.size, 0, none⟩ = some (.int .i64 0)) := Za (by
        have e1 := Zb (B_ w8 (.cells #[.int .i64 0] 3)) 0 _ rfl
        exact e1)
      have X9 := Za (X.out.al (Zd w8 (.cells #[.int .i64 0] 3)))
      clear hK1 K1 X
      have X := X9
      clear X9
      refine Zy (rs := [14]) (by kernel_rfl) (by decide) ?_
      refine Zl.cons rfl (fun K1 hK1 => ?_) Zl.nil
      have PU := Za (fun ty => push_n (n := n) (l := as_) (HLN.out.2.1) (HLN.out.2.2) X.out.o2 0 (E2.out) ty)
      refine Zz (TS := 22) (.tmp 28) (.tmp 29) _ _ _ (fun ty => PU.out ty) rfl rfl rfl rfl ?_
      rintro v2 w14 ⟨⟨a2, c2, rfl⟩, o9, g9, b9⟩
      have X9 := Za (X.out.push2 o9 g9 b9)
      refine hK1.out _ _ (fun _ => X9.out.tt) (fun _ => ?_)
      have G9 := Za g9
      clear hK1 K1 X PU o9 g9 b9
      have X := X9
      clear X9
      clear E2 G9
      refine Zr (i := 15) (v := ?_) rfl (by kernel_rfl) (by kernel_rfl) (by kernel_rfl) (fun _ _ _ h => h) (Or.inl ⟨by rfl, ?_⟩) ?_
      rotate_left 1
      · (intro w _; go_simp <;> with_reducible rfl)
      simp only [Act.put, S_]
      refine Zr (i := 16) (v := ?_) rfl (by kernel_rfl) (by kernel_rfl) (by kernel_rfl) (fun _ _ _ h => h) (Or.inl ⟨by rfl, ?_⟩) ?_
      rotate_left 1
      · (intro w _; go_simp <;> with_reducible rfl)
      simp only [Act.put, S_]
      refine Zy (rs := [17]) (by kernel_rfl) (by decide) ?_
      refine Zl.cons rfl (fun K1 hK1 => ?_) Zl.nil
      have n1 := Zb X.out.tt 1 _ rfl
      have m1 := Zc X.out.tt 1
      go_simp
      refine hK1.out _ _ (fun h => absurd h (by decide)) (fun _ => ?_)
      clear hK1 K1 n1 m1
      have T2 : Hid ((w14.setCell ⟨gt, 1, none⟩ (.slice a1 (n + 1) c1)).heap[gt]? = some (.cells #[.slice aL nS cL, .slice a1 (n + 1) c1, .slice aA n cA] 145 (0, 0))) := Za (heap_setCell_same _ _ _ _ _ _ X.out.tt)
      refine Zr (i := 18) (v := ?_) rfl (by kernel_rfl) (by kernel_rfl) (by kernel_rfl) (fun _ _ _ h => h) (Or.inl ⟨by rfl, ?_⟩) ?_
      rotate_left 1
      · (intro w _; go_simp <;> with_reducible rfl)
      simp only [Act.put, S_]
      refine Zr (i := 19) (v := ?_) rfl (by kernel_rfl) (by kernel_rfl) (by kernel_rfl) (fun _ _ _ h => h) (Or.inl ⟨by rfl, ?_⟩) ?_
      rotate_left 1
      · (intro w _; go_simp <;> with_reducible rfl)
      simp only [Act.put, S_]
      refine Zy (rs := [20]) (by kernel_rfl) (by decide) ?_
      refine Zl.cons rfl (fun K1 hK1 => ?_) Zl.nil
      have n1 := Zb T2.out 2 _ rfl
      have m1 := Zc T2.out 2
      go_simp
      refine hK1.out _ _ (fun h => absurd h (by decide)) (fun _ => ?_)
      clear hK1 K1 n1 m1
      refine T_done (by kernel_rfl) ?_ _
      go_wp2_with fail
      go_ret
      have RB := HQ.out.begun fn l HL.out (by have := HLN.out.2.2; rw [HPN.out]; exact HP8.out) (by rw [HPN.out]; exact X.out.o1) (by rw [HPN.out]; exact X.out.o2) X.out.ne X.out.c
      refine ⟨rfl, _, RB.1.rr, (Ch.of_bel HBD.out).trans (RB.2.wide (fun k hk => (HG.out k).2 (.inr (.inr (.inl hk)))) (fun k hk => ?_))⟩
      rcases hk with hk | hk | hk | hk
      · exact .inl ((HG.out k).2 (.inl hk))
      · exact .inl ((HG.out k).2 (.inr (.inl hk)))
      · exact (RB.2.grow k hk).imp (fun q => (HG.out k).2 (.inr (.inr (.inl q)))) id
      · exact .inl ((HG.out k).2 (.inr (.inr (.inr hk))))
    · go_simp
      refine hK1.out _ _ (fun _ => ((Zd _ _).block gt (Ze X.out.tt)).trans X.out.tt) (fun _ => ?_)
      have E2 : Hid (((wd.alloc (.cells #[.int .i64 (fn : Nat)] 3)).alloc (.cells #[.int .i64 0] 3)).cell? ⟨wd.heap.size + 1, 0, none⟩ = some (.int .i64 0)) := Za (by
        have e1 := Zb (B_ (wd.alloc (.cells #[.int .i64 (fn : Nat)] 3)) (.cells #[.int .i64 0] 3)) 0 _ rfl
        have hs : (wd.alloc (.cells #[.int .i64 (fn : Nat)] 3)).heap.size = wd.heap.size + 1 := by simp
        rw [hs] at e1
        exact e1)
      have X9 := Za (X.out.al (Zd (wd.alloc (.cells #[.int .i64 (fn : Nat)] 3)) (.cells #[.int .i64 0] 3)))
      clear hK1 K1 X
      have X := X9
      clear X9
      have E19 := Za (((Zd (wd.alloc (.cells #[.int .i64 (fn : Nat)] 3)) (.cells #[.int .i64 0] 3)).cell (p := ⟨wd.heap.size, 0, none⟩) (by simp <;> omega)).trans E1.out)
      clear E1
      have E1 := E19
      clear E19
      refine Zy (rs := [8]) (by kernel_rfl) (by decide) ?_
      refine Zl.cons rfl (fun K1 hK1 => ?_) Zl.nil
      have PU := Za (fun ty => push_n (n := n) (l := os) (HLN.out.1) (HLN.out.2.2) X.out.o1 fn (E1.out) ty)
      refine Zz (TS := 22) (.tmp 21) (.tmp 23) _ _ _ (fun ty => PU.out ty) rfl rfl rfl rfl ?_
      rintro v1 w8 ⟨⟨a1, c1, rfl⟩, o9, g9, b9⟩
      have X9 := Za (X.out.push1 o9 g9 b9)
      refine hK1.out _ _ (fun _ => X9.out.tt) (fun _ => ?_)
      have G9 := Za g9
      clear hK1 K1 X PU o9 g9 b9
      have X := X9
      clear X9
      have E29 := Za ((World.cell?_of_block (a := ⟨wd.heap.size + 1, 0, none⟩) (G9.out.block (wd.heap.size + 1) (by simp <;> omega) (fun e => absurd (HLO.out _ e.symm) (by omega)))).trans E2.out)
      clear E1 E2 G9
      have E2 := E29
      clear E29
      refine Zy (rs := [14]) (by kernel_rfl) (by decide) ?_
      refine Zl.cons rfl (fun K1 hK1 => ?_) Zl.nil
      have PU := Za (fun ty => push_n (n := n) (l := as_) (HLN.out.2.1) (HLN.out.2.2) X.out.o2 0 (E2.out) ty)
      refine Zz (TS := 22) (.tmp 28) (.tmp 29) _ _ _ (fun ty => PU.out ty) rfl rfl rfl rfl ?_
      rintro v2 w14 ⟨⟨a2, c2, rfl⟩, o9, g9, b9⟩
      have X9 := Za (X.out.push2 o9 g9 b9)
      refine hK1.out _ _ (fun _ => X9.out.tt) (fun _ => ?_)
      have G9 := Za g9
      clear hK1 K1 X PU o9 g9 b9
      have X := X9
      clear X9
      clear E2 G9
      refine Zr (i := 15) (v := ?_) rfl (by kernel_rfl) (by kernel_rfl) (by kernel_rfl) (fun _ _ _ h => h) (Or.inl ⟨by rfl, ?_⟩) ?_
      rotate_left 1
      · (intro w _; go_simp <;> with_reducible rfl)
      simp only [Act.put, S_]
      refine Zr (i := 16) (v := ?_) rfl (by kernel_rfl) (by kernel_rfl) (by kernel_rfl) (fun _ _ _ h => h) (Or.inl ⟨by rfl, ?_⟩) ?_
      rotate_left 1
      · (intro w _; go_simp <;> with_reducible rfl)
      simp only [Act.put, S_]
      refine Zy (rs := [17]) (by kernel_rfl) (by decide) ?_
      refine Zl.cons rfl (fun K1 hK1 => ?_) Zl.nil
      have n1 := Zb X.out.tt 1 _ rfl
      have m1 := Zc X.out.tt 1
      go_simp
      refine hK1.out _ _ (fun h => absurd h (by decide)) (fun _ => ?_)
      clear hK1 K1 n1 m1
      have T2 : Hid ((w14.setCell ⟨gt, 1, none⟩ (.slice a1 (n + 1) c1)).heap[gt]? = some (.cells #[.slice aL nS cL, .slice a1 (n + 1) c1, .slice aA n cA] 145 (0, 0))) := Za (heap_setCell_same _ _ _ _ _ _ X.out.tt)
      refine Zr (i := 18) (v := ?_) rfl (by kernel_rfl) (by kernel_rfl) (by kernel_rfl) (fun _ _ _ h => h) (Or.inl ⟨by rfl, ?_⟩) ?_
      rotate_left 1
      · (intro w _; go_simp <;> with_reducible rfl)
      simp only [Act.put, S_]
      refine Zr (i := 19) (v := ?_) rfl (by kernel_rfl) (by kernel_rfl) (by kernel_rfl) (fun _ _ _ h => h) (Or.inl ⟨by rfl, ?_⟩) ?_
      rotate_left 1
      · (intro w _; go_simp <;> with_reducible rfl)
      simp only [Act.put, S_]
      refine Zy (rs := [20]) (by kernel_rfl) (by decide) ?_
      refine Zl.cons rfl (fun K1 hK1 => ?_) Zl.nil
      have n1 := Zb T2.out 2 _ rfl
      have m1 := Zc T2.out 2
      go_simp
      refine hK1.out _ _ (fun h => absurd h (by decide)) (fun _ => ?_)
      clear hK1 K1 n1 m1
      refine T_done (by kernel_rfl) ?_ _
      go_wp2_with fail
      go_ret
      have RB := HQ.out.begun fn l HL.out (by have := HLN.out.2.2; rw [HPN.out]; exact HP8.out) (by rw [HPN.out]; exact X.out.o1) (by rw [HPN.out]; exact X.out.o2) X.out.ne X.out.c
      refine ⟨rfl, _, RB.1.rr, (Ch.of_bel HBD.out).trans (RB.2.wide (fun k hk => (HG.out k).2 (.inr (.inr (.inl hk)))) (fun k hk => ?_))⟩
      rcases hk with hk | hk | hk | hk
      · exact .inl ((HG.out k).2 (.inl hk))
      · exact .inl ((HG.out k).2 (.inr (.inl hk)))
      · exact (RB.2.grow k hk).imp (fun q => (HG.out k).2 (.inr (.inr (.inl q)))) id
      · exact .inl ((HG.out k).2 (.inr (.inr (.inr hk))))
  · go_simp
    refine hK1.out _ _ (fun _ => ((Zd _ _).block gt (Ze X.out.tt)).trans X.out.tt) (fun _ => ?_)
    have E2 : Hid ((wd.alloc (.cells #[.int .i64 0] 3)).cell? ⟨wd.heap.size, 0, none⟩ = some (.int .i64 0)) := Za (by
      have e1 := Zb (B_ wd (.cells #[.int .i64 0] 3)) 0 _ rfl
      exact e1)
    have X9 := Za (X.out.al (Zd wd (.cells #[.int .i64 0] 3)))
    clear hK1 K1 X
    have X := X9
    clear X9
    refine Zy (rs := [7]) (by kernel_rfl) (by decide) ?_
    refine Zl.cons rfl (fun K1 hK1 => ?_) Zl.nil
    go_simp
    refine hK1.out _ _ (fun _ => ((Zd _ _).block gt (Ze X.out.tt)).trans X.out.tt) (fun _ => ?_)
    have E1 : Hid (((wd.alloc (.cells #[.int .i64 0] 3)).alloc (.cells #[.int .i64 (fn : Nat)] 3)).cell? ⟨wd.heap.size + 1, 0, none⟩ = some (.int .i64 (fn : Nat))) := Za (by
      have e1 := Zb (B_ (wd.alloc (.cells #[.int .i64 0] 3)) (.cells #[.int .i64 (fn : Nat)] 3)) 0 _ rfl
      have hs : (wd.alloc (.cells #[.int .i64 0] 3)).heap.size = wd.heap.size + 1 := by simp
      rw [hs] at e1
      exact e1)
    have X9 := Za (X.out.al (Zd (wd.alloc (.cells #[.int .i64 0] 3)) (.cells #[.int .i64 (fn : Nat)] 3)))
    clear hK1 K1 X
    have X := X9
    clear X9
    have E29 := Za (((Zd (wd.alloc (.cells #[.int .i64 0] 3)) (.cells #[.int .i64 (fn : Nat)] 3)).cell (p := ⟨wd.heap.size, 0, none⟩) (by simp <;> omega)).trans E2.out)
    clear E2
    have E2 := E29
    clear E29
    refine Zy (rs := [8]) (by kernel_rfl) (by decide) ?_
    refine Zl.cons rfl (fun K1 hK1 => ?_) Zl.nil
    have PU := Za (fun ty => push_n (n := n) (l := os) (HLN.out.1) (HLN.out.2.2) X.out.o1 fn (E1.out) ty)
    refine Zz (TS := 22) (.tmp 21) (.tmp 23) _ _ _ (fun ty => PU.out ty) rfl rfl rfl rfl ?_
    rintro v1 w8 ⟨⟨a1, c1, rfl⟩, o9, g9, b9⟩
    have X9 := Za (X.out.push1 o9 g9 b9)
    refine hK1.out _ _ (fun _ => X9.out.tt) (fun _ => ?_)
    have G9 := Za g9
    clear hK1 K1 X PU o9 g9 b9
    have X := X9
    clear X9
    have E29 := Za ((World.cell?_of_block (a := ⟨wd.heap.size, 0, none⟩) (G9.out.block (wd.heap.size) (by simp <;> omega) (fun e => absurd (HLO.out _ e.symm) (by omega)))).trans E2.out)
    clear E1 E2 G9
    have E2 := E29
    clear E29
    refine Zy (rs := [14]) (by kernel_rfl) (by decide) ?_
    refine Zl.cons rfl (fun K1 hK1 => ?_) Zl.nil
    have PU := Za (fun ty => push_n (n := n) (l := as_) (HLN.out.2.1) (HLN.out.2.2) X.out.o2 0 (E2.out) ty)
    refine Zz (TS := 22) (.tmp 28) (.tmp 29) _ _ _ (fun ty => PU.out ty) rfl rfl rfl rfl ?_
    rintro v2 w14 ⟨⟨a2, c2, rfl⟩, o9, g9, b9⟩
    have X9 := Za (X.out.push2 o9 g9 b9)
    refine hK1.out _ _ (fun _ => X9.out.tt) (fun _ => ?_)
    have G9 := Za g9
    clear hK1 K1 X PU o9 g9 b9
    have X := X9
    clear X9
    clear E2 G9
    refine Zr (i := 15) (v := ?_) rfl (by kernel_rfl) (by kernel_rfl) (by kernel_rfl) (fun _ _ _ h => h) (Or.inl ⟨by rfl, ?_⟩) ?_
    rotate_left 1
    · (intro w _; go_simp <;> with_reducible rfl)
    simp only [Act.put, S_]
    refine Zr (i := 16) (v := ?_) rfl (by kernel_rfl) (by kernel_rfl) (by kernel_rfl) (fun _ _ _ h => h) (Or.inl ⟨by rfl, ?_⟩) ?_
    rotate_left 1
    · (intro w _; go_simp <;> with_reducible rfl)
    simp only [Act.put, S_]
    refine Zy (rs := [17]) (by kernel_rfl) (by decide) ?_
    refine Zl.cons rfl (fun K1 hK1 => ?_) Zl.nil
    have n1 := Zb X.out.tt 1 _ rfl
    have m1 := Zc X.out.tt 1
    go_simp
    refine hK1.out _ _ (fun h => absurd h (by decide)) (fun _ => ?_)
    clear hK1 K1 n1 m1
    have T2 : Hid ((w14.setCell ⟨gt, 1, none⟩ (.slice a1 (n + 1) c1)).heap[gt]? = some (.cells #[.slice aL nS cL, .slice a1 (n + 1) c1, .slice aA n cA] 145 (0, 0))) := Za (heap_setCell_same _ _ _ _ _ _ X.out.tt)
    refine Zr (i := 18) (v := ?_) rfl (by kernel_rfl) (by kernel_rfl) (by kernel_rfl) (fun _ _ _ h => h) (Or.inl ⟨by rfl, ?_⟩) ?_
    rotate_left 1
    · (intro w _; go_simp <;> with_reducible rfl)
    simp only [Act.put, S_]
    refine Zr (i := 19) (v := ?_) rfl (by kernel_rfl) (by kernel_rfl) (by kernel_rfl) (fun _ _ _ h => h) (Or.inl ⟨by rfl, ?_⟩) ?_
    rotate_left 1
    · (intro w _; go_simp <;> with_reducible rfl)
    simp only [Act.put, S_]
    refine Zy (rs := [20]) (by kernel_rfl) (by decide) ?_
    refine Zl.cons rfl (fun K1 hK1 => ?_) Zl.nil
    have n1 := Zb T2.out 2 _ rfl
    have m1 := Zc T2.out 2
    go_simp
    refine hK1.out _ _ (fun h => absurd h (by decide)) (fun _ => ?_)
    clear hK1 K1 n1 m1
    refine T_done (by kernel_rfl) ?_ _
    go_wp2_with fail
    go_ret
    have RB := HQ.out.begun fn l HL.out (by have := HLN.out.2.2; rw [HPN.out]; exact HP8.out) (by rw [HPN.out]; exact X.out.o1) (by rw [HPN.out]; exact X.out.o2) X.out.ne X.out.c
    refine ⟨rfl, _, RB.1.rr, (Ch.of_bel HBD.out).trans (RB.2.wide (fun k hk => (HG.out k).2 (.inr (.inr (.inl hk)))) (fun k hk => ?_))⟩
    rcases hk with hk | hk | hk | hk
    · exact .inl ((HG.out k).2 (.inl hk))
    · exact .inl ((HG.out k).2 (.inr (.inl hk)))
    · exact (RB.2.grow k hk).imp (fun q => (HG.out k).2 (.inr (.inr (.inl q)))) id
    · exact .inl ((HG.out k).2 (.inr (.inr (.inr hk))))
structure Pq (w : World) (Fs Rs R : Nat -> Prop) (B gs gt : Nat) (s : St) (S : List (List Wt)) (vL : Value) (vs : List Value) : Prop where
 st : Rt w Fs Rs B gs s
 tt : w.heap[gt]? = some (.cells #[vL, .slice none 0 0, .slice none 0 0] 145 (0, 0))
 al : w.ownsRow 0 139 1 vL S.length vs
 row : ∀ (i : Nat) (l : List Wt) (v : Value), S[i]? = some l -> vs[i]? = some v -> w.ownsRow 0 141 6 v l.length (w6s l) /\ ∀ k, v.ownBlock = some k -> R k
 fL : ∀ k, vL.ownBlock = some k -> R k
 ft : ¬ Fs gt /\ ¬ Rs gt /\ ¬ R gt
 ro : ∀ k, R k -> ¬ Fs k
 rb : ∀ k, R k -> k < w.heap.size
 sz : S.length <= 2000 /\ ∀ l ∈ S, l.length <= 2000
theorem Pq.rq {w w' : World} {Fs Rs R : Nat -> Prop} {B gs gt g : Nat} {s : St} {S : List (List Wt)} {vL : Value} {vs : List Value} (h : Pq w Fs Rs R B gs gt s S vL vs) (hb : Below w.heap.size w w') (hg : w'.heap[g]? = some (.cells #[.pointer (some ⟨gs, 0, none⟩), .slice none 0 0, .slice none 0 0, .int .i64 0, .int .i64 0, .int .i64 0, .int .i64 0, .int .i64 0, .pointer (some ⟨gt, 0, none⟩)] 187 (0, 0))) (hn : w.heap.size <= g) :
 Rq w' Fs Rs (fun k => k = g ∨ k = gt) R B g gs gt S ⟨s, [], [], zE, []⟩ (.slice none 0 0) (.slice none 0 0) vL (.slice none 0 0) (.slice none 0 0) vs [] [] where
 at_ := hg
 st := h.st.bel hb
 wa := Yf _ _ _
 ev := Yf _ _ _
 tt := (hb.block gt (Ze h.tt)).trans h.tt
 al := Zk h.al fun k hk => hb.block k (h.rb k (h.fL k hk))
 row := fun i l v hl hv => ⟨Zk (h.row i l v hl hv).1 fun k hk => hb.block k (h.rb k ((h.row i l v hl hv).2 k hk)), (h.row i l v hl hv).2⟩
 of := Yf _ _ _
 at' := Yf _ _ _
 pos := fun i x o a hx => by simp at hx
 ne := fun k hk => by cases hk
 fg := .inl rfl
 ft := .inr rfl
 fW := fun k hk => by cases hk
 fE := fun k hk => by cases hk
 fO := fun k hk => by cases hk
 fA := fun k hk => by cases hk
 fL := h.fL
 so := fun k hk => by
  rcases hk with rfl | rfl
  · exact ⟨fun e => by have := h.st.fb k e; omega, fun e => by have := h.st.rb k e; omega⟩
  · exact ⟨h.ft.1, h.ft.2.1⟩
 ro := fun k hk => ⟨h.ro k hk, fun e => by
  rcases e with rfl | rfl
  · have := h.rb k hk
    omega
  · exact h.ft.2.2 hk⟩
 fb := fun k hk => by
  rcases hk with rfl | rfl
  · exact Ze hg
  · exact Nat.lt_of_lt_of_le (Ze h.tt) hb.size
 rb := fun k hk => Nat.lt_of_lt_of_le (h.rb k hk) hb.size
 n8 := ⟨by simp, by simp⟩
 sz := h.sz
theorem Rq.newW {w : World} {Fs Rs Fo R : Nat -> Prop} {B g gs gt : Nat} {S : List (List Wt)} {r : Rz} {vW vE vL vO vA : Value} {vs : List Value} {os as_ : List Nat} (h : Rq w Fs Rs Fo R B g gs gt S r vW vE vL vO vA vs os as_) {w2 : World} {v' : Value} (ws : List Wt) (hw : w2.ownsRow 0 141 6 v' ws.length (w6s ws)) (hb : Below w.heap.size w w2) (hv : ∀ k, v'.ownBlock = some k -> w.heap.size <= k) (h8 : ws.length <= 8) :
 Rq (w2.setCell ⟨g, 1, none⟩ v') Fs Rs (fun k => Fo k ∨ v'.ownBlock = some k) R B g gs gt S { r with ws := ws } v' vE vL vO vA vs os as_ /\ Ch Fo (fun k => Fo k ∨ v'.ownBlock = some k) w (w2.setCell ⟨g, 1, none⟩ v') := by
 have h1 := h.bel hb
 have ho : ∀ k, k ≠ g -> (w2.setCell ⟨g, 1, none⟩ v').heap[k]? = w2.heap[k]? := fun k hk => Below.heap_setCell _ _ _ _ hk
 have hs : (w2.setCell ⟨g, 1, none⟩ v').heap.size = w2.heap.size := Zg _ _ _
 obtain ⟨p1, p2, hk⟩ := h1.part h1.fg (fun k hk _ => ho k hk) (Nat.le_of_eq hs.symm)
 obtain ⟨⟨n1, n2, n3, n4⟩, _, n5⟩ := h1.rowne
 have hgl := h.fb g h.fg
 refine ⟨{ h1 with
  at_ := heap_setCell_same _ _ 1 _ _ v' h1.at_
  st := p1
  wa := Zk hw fun k hk' => ho k (fun e => by have := hv k hk'; omega)
  ev := hk h1.ev n2
  tt := (ho gt (fun e => n5 e.symm)).trans h1.tt
  al := p2.1
  row := p2.2
  of := hk h1.of n3
  at' := hk h1.at' n4
  fg := .inl h.fg
  ft := .inl h.ft
  fW := fun k hk => .inr hk
  fE := fun k hk => .inl (h.fE k hk)
  fO := fun k hk => .inl (h.fO k hk)
  fA := fun k hk => .inl (h.fA k hk)
  so := fun k hk => ?_
  ro := fun k hk => ⟨(h.ro k hk).1, fun e => ?_⟩
  fb := fun k hk => ?_
  rb := fun k hk => by rw [hs]; exact h1.rb k hk
  n8 := ⟨h8, h.n8.2⟩ }, ⟨hb.os, hb.tape, hb.output, by rw [hs]; exact hb.size, fun k hk hF => (ho k (fun e => hF (by rw [e]; exact h.fg))).trans (hb.block k hk), fun k hk => hk.imp id (hv k)⟩⟩
 · rcases hk with q | q
   · exact h.so k q
   · have := hv k q
     exact ⟨fun e => by have := h.st.fb k e; omega, fun e => by have := h.st.rb k e; omega⟩
 · rcases e with q | q
   · exact (h.ro k hk).2 q
   · have := hv k q
     have := h.rb k hk
     omega
 · rw [hs]
   rcases hk with q | q
   · exact h1.fb k q
   · exact (Zf hw q).2.1
def startZ (S : List (List Wt)) (s : St) (fn : Int) : Rz := match lk S fn with
 | some l => lookZ (asksZ ⟨s, [zW], [], zE, [l]⟩ [0] 1)
 | none => ⟨s, [], [], ⟨3, 5, 0, 0, 0⟩, []⟩
def StartQ (w : World) (F : Nat -> Prop) (B : Nat) (S : List (List Wt)) (r : Rz) (e : Ending) (w' : World) : Prop := ∃ g G', e = .returned (.pointer (some ⟨g, 0, none⟩)) /\ Rr w' G' B g S r /\ Ch F G' w w'
theorem own_w0 (w : World) : (w.alloc (.cells #[.int .i64 0, .int .i64 0, .int .i64 0, .int .i64 0, .int .i64 0, .int .u64 0] 141)).ownsRow 0 141 6 (.slice (some ⟨w.heap.size, 0, none⟩) 1 1) 1 (w6s [zW]) :=
 ⟨rfl, .inr ⟨w.heap.size, 1, _, rfl, Nat.zero_le _, B_ _ _, Nat.le_refl _, by unfold maxLen; omega, rfl, rfl⟩⟩
theorem rStart_any {w : World} {Fs Rs R : Nat -> Prop} {B gs gt : Nat} {s : St} {S : List (List Wt)} {vL : Value} {vs : List Value} (h : Pq w Fs Rs R B gs gt s S vL vs) (hB : B <= 1000000) (fn : Int) : Calls Tryd.prog 70 #[.pointer (some ⟨gs, 0, none⟩), .pointer (some ⟨gt, 0, none⟩), .int .i64 fn] w (StartQ w (fun k => Fs k ∨ Rs k ∨ k = gt ∨ R k) B S (startZ S s fn)) := by
  have AB := Za (Zd w (.cells #[.pointer (some ⟨gs, 0, none⟩), .slice none 0 0, .slice none 0 0, .int .i64 0, .int .i64 0, .int .i64 0, .int .i64 0, .int .i64 0, .pointer (some ⟨gt, 0, none⟩)] 187))
  have hq := h.rq AB.out (B_ w (.cells #[.pointer (some ⟨gs, 0, none⟩), .slice none 0 0, .slice none 0 0, .int .i64 0, .int .i64 0, .int .i64 0, .int .i64 0, .int .i64 0, .pointer (some ⟨gt, 0, none⟩)] 187)) (Nat.le_refl _)
  have C0 : Hid (Ch (fun k => Fs k ∨ Rs k ∨ k = gt ∨ R k) (fun k => Fs k ∨ Rs k ∨ (k = w.heap.size ∨ k = gt) ∨ R k) w (w.alloc (.cells #[.pointer (some ⟨gs, 0, none⟩), .slice none 0 0, .slice none 0 0, .int .i64 0, .int .i64 0, .int .i64 0, .int .i64 0, .int .i64 0, .pointer (some ⟨gt, 0, none⟩)] 187))) := Za (Ch.wide (Ch.of_bel (F := fun _ => False) AB.out) (fun _ h => h.elim) (fun k hk => by
    rcases hk with q | q | (q | q) | q
    · exact .inl (.inl q)
    · exact .inl (.inr (.inl q))
    · exact .inr (by omega)
    · exact .inl (.inr (.inr (.inl q)))
    · exact .inl (.inr (.inr (.inr q)))))
  obtain ⟨g, hg⟩ : ∃ g, g = w.heap.size := ⟨_, rfl⟩
  rw [← hg] at hq C0
  cases hl : lk S fn with
  | none =>
    have BN := Za (begin_no hq fn hl)
    have FA := Za (rFault_any hq.rr 0 5 0 0)
    have hst : Hid (startZ S s fn = ⟨s, [], [], ⟨3, 5, 0, 0, 0⟩, []⟩) := Za (by unfold startZ; rw [hl])
    unfold h3V at FA
    simp only at FA
    clear h hq hl
    go_enter Tryd.func70, Tryd.ntmps70
    go_wp2_with fail
    generalize w.alloc _ = w1 at *
    rw [← hg]
    clear hg AB
    refine BN.out.mono ?_
    rintro e w2 ⟨rfl, rfl⟩
    go_wp2_with fail
    refine FA.out.mono ?_
    rintro e w3 ⟨rfl, G', rn, ch⟩
    have Z := Za (And.intro rn ch)
    clear rn ch
    go_wp2_with fail
    go_ret
    exact ⟨g, G', rfl, by rw [hst.out]; exact Z.out.1, C0.out.trans Z.out.2⟩
  | some l =>
    obtain ⟨k, rfl, hk⟩ := ZI hl
    have BO := Za (begin_ok hq (fun _ => Iff.rfl) k l hk (by simp))
    have hst : Hid (startZ S s (k : Nat) = lookZ (asksZ ⟨s, [zW], [], zE, [l]⟩ [0] 1)) := Za (by unfold startZ; rw [hl])
    clear h hq hl hk
    go_enter Tryd.func70, Tryd.ntmps70
    go_wp2_with fail
    generalize w.alloc _ = w1 at *
    rw [← hg]
    clear hg AB
    refine BO.out.mono ?_
    rintro e w2 ⟨rfl, G2, rn, ch⟩
    have C2 := Za (C0.out.trans ch)
    clear ch C0 BO
    obtain ⟨Fs2, Rs2, Fo2, R2, gs2, gt2, vW, vE, vL2, vO, vA, vs2, os, as_, q2, hG2⟩ := rn
    have BA := Za (Zd w2 (.cells #[.int .i64 0, .int .i64 0, .int .i64 0, .int .i64 0, .int .i64 0, .int .u64 0] 141))
    have NW := q2.newW [zW] (own_w0 w2) BA.out (fun k hk => by cases hk; exact Nat.le_refl _) (by simp)
    have c1 := Zb (q2.bel BA.out).at_ 1 _ rfl
    have f1 := Zc (q2.bel BA.out).at_ 1
    have HW := Za (And.intro NW.1.rr (C2.out.trans (NW.2.wide (G' := fun k => Fs2 k ∨ Rs2 k ∨ (Fo2 k ∨ (Value.slice (some ⟨w2.heap.size, 0, none⟩) 1 1).ownBlock = some k) ∨ R2 k) (fun k hk => (hG2 k).2 (.inr (.inr (.inl hk)))) (fun k hk => by
      rcases hk with q | q | q | q
      · exact .inl ((hG2 k).2 (.inl q))
      · exact .inl ((hG2 k).2 (.inr (.inl q)))
      · exact (NW.2.grow k q).imp (fun q => (hG2 k).2 (.inr (.inr (.inl q)))) id
      · exact .inl ((hG2 k).2 (.inr (.inr (.inr q))))))))
    clear NW q2 hG2 C2
    go_upto_region 6 with fail
    generalize (w2.alloc _).setCell ⟨g, 1, none⟩ (.slice (some ⟨w2.heap.size, 0, none⟩) 1 1) = w3 at *
    obtain ⟨h3, c3⟩ := HW.out
    generalize (fun k => Fs2 k ∨ Rs2 k ∨ (Fo2 k ∨ (Value.slice (some ⟨w2.heap.size, 0, none⟩) 1 1).ownBlock = some k) ∨ R2 k) = G3 at *
    have KN := Kb.new h3 #[.int .i64 0, .int .i64 0, .int .i64 0, .int .u64 0] 192
    have AK := Za (rask_any (v := .slice (some ⟨w3.heap.size, 0, none⟩) 1 1) (lx := [(0, 0, 0, 0)]) (h3.bel (Zd w3 (.cells #[.int .i64 0, .int .i64 0, .int .i64 0, .int .u64 0] 192))) hB ⟨some ⟨w3.heap.size, 0, none⟩, 1, rfl, by simp, fun j x hx => by
      cases j with
      | zero =>
        simp at hx
        subst hx
        exact ⟨_, _, rfl, KN, Zb KN.1 0 _ rfl, Zb KN.1 1 _ rfl, Zb KN.1 2 _ rfl, Zb KN.1 3 _ rfl⟩
      | succ j => simp at hx⟩ (fun x hx => by simp at hx; subst hx; simp))
    have C3 := Za (c3.trans (Ch.of_bel (Zd w3 (.cells #[.int .i64 0, .int .i64 0, .int .i64 0, .int .u64 0] 192))))
    clear h3 c3 KN HW c1 f1 BA
    go_wp2_with fail
    refine AK.out.mono ?_
    rintro e w4 ⟨rfl, G4, rn, ch⟩
    have Z := Za (And.intro rn ch)
    clear rn ch AK
    go_wp2_with fail
    go_ret
    exact ⟨g, G4, rfl, by rw [hst.out]; exact Z.out.1, C3.out.trans Z.out.2⟩
theorem info_rw : (Tryd.prog.info? 141).map (fun i => (i.zero, i.size, i.bytes)) = some (some (.agg #[.int .i64 0, .int .i64 0, .int .i64 0, .int .i64 0, .int .i64 0, .int .u64 0]), 6, 48) := by kernel_rfl
theorem info_rsw : (Tryd.prog.info? 139).map (fun i => (i.zero, i.size, i.bytes)) = some (some (.slice none 0 0), 1, 24) := by kernel_rfl
theorem pushR {w : World} {T TS : TypeId} {sz bytes : Nat} {z v : Value} {n gx : Nat} {xs ys : List Value} (hu : Tryd.prog.underlying TS = some (.slice T)) (hinfo : (Tryd.prog.info? T).map (fun i => (i.zero, i.size, i.bytes)) = some (some z, sz, bytes)) (hz : z.cells.size = sz) (hsz : 0 < sz) (hby : bytes <= 100)
    (ho : w.ownsRow 0 T sz v n xs) (hn : n <= 2000) (hl : ys.length = 1 * sz) (hy : ∀ (j : Nat) (u : Value), ys[j]? = some u -> w.cell? ⟨gx, j, none⟩ = some u) (h1 : ∀ u ∈ ys, u.oneCell' = true) (ty : TypeId) :
    ∃ v' w', (Builtin.append_ #[TS, TS] ty #[v, .slice (some ⟨gx, 0, none⟩) 1 1]).run Tryd.prog w = .ok v' w' /\ ((∃ a c, v' = .slice a (n + 1) c) /\ w'.ownsRow 0 T sz v' (n + 1) (xs ++ ys) /\ w.grownBy w' v.ownBlock /\ (∀ k, v'.ownBlock = some k -> v.ownBlock = some k ∨ w.heap.size <= k)) := by
  obtain ⟨i, hi, hz0, hz1, hz2⟩ := info_parts hinfo
  obtain ⟨v', w', hr, ho', hg, _, hat⟩ := run_append_own_at (P := Tryd.prog) w 0 TS ty T i z sz bytes hu hi hz0 hz1 hz2 hz hsz v n xs ho ⟨gx, 0, none⟩ 1 1 ys hl (fun j u hu => by
    rw [show (⟨gx, 0, none⟩ : Addr).add j = ⟨gx, j, none⟩ by unfold Addr.add; by_cases h : j = 0 <;> simp [h]]
    exact hy j u hu) h1 (by unfold maxLen; omega) (by have : (n + 1) * bytes <= 2001 * 100 := Nat.mul_le_mul (by omega) hby; omega) (Nat.zero_le _)
  obtain ⟨a9, c9, e9, _⟩ := Zo ho'
  refine ⟨v', w', hr, ⟨_, _, e9⟩, ho', hg, fun k hk => ?_⟩
  rcases hat with e | e
  · exact .inl (e.symm.trans hk)
  · rw [e] at hk
    right
    have := Option.some.inj hk
    omega
structure Cq (w0 wr : World) (S : List (List Wt)) (i : Nat) (va : Value) (vs : List Value) : Prop where
 al : wr.ownsRow 0 139 1 va i vs
 row : ∀ (m : Nat) (l : List Wt) (v : Value), S[m]? = some l -> vs[m]? = some v -> wr.ownsRow 0 141 6 v l.length (w6s l)
 lo : ∀ k, va.ownBlock = some k -> w0.heap.size <= k
 lr : ∀ v ∈ vs, ∀ k, v.ownBlock = some k -> w0.heap.size <= k /\ k < wr.heap.size
 bel : Below w0.heap.size w0 wr
structure Ci (w0 wr : World) (l : List Wt) (j : Nat) (vx : Value) (vs : List Value) : Prop where
 own : wr.ownsRow 0 141 6 vx j (w6s (l.take j))
 lo : ∀ k, vx.ownBlock = some k -> w0.heap.size <= k
 ap : ∀ v ∈ vs, ∀ k, v.ownBlock = some k -> vx.ownBlock ≠ some k
section
variable {w0 wr wy : World} {S : List (List Wt)} {i j : Nat} {va vx v' : Value} {vs : List Value} {l : List Wt}
theorem Cq.low (h : Cq w0 wr S i va vs) (hb : Below wr.heap.size wr wy) : Cq w0 wy S i va vs where
 al := Zk h.al fun k hk => hb.block k (Zf h.al hk).2.1
 row := fun m l v hl hv => Zk (h.row m l v hl hv) fun k hk => hb.block k (Zf (h.row m l v hl hv) hk).2.1
 lo := h.lo
 lr := fun v hv k hk => ⟨(h.lr v hv k hk).1, Nat.lt_of_lt_of_le (h.lr v hv k hk).2 hb.size⟩
 bel := Zi h.bel hb
theorem Ci.low (h : Ci w0 wr l j vx vs) (hb : Below wr.heap.size wr wy) : Ci w0 wy l j vx vs := { h with own := Zk h.own fun k hk => hb.block k (Zf h.own hk).2.1 }
theorem Cq.start (w0 : World) : Cq w0 (w0.alloc (.cells #[] 139)) S 0 (.slice (some ⟨w0.heap.size, 0, none⟩) 0 0) [] where
 al := ⟨rfl, .inr ⟨w0.heap.size, 0, _, rfl, Nat.zero_le _, B_ _ _, Nat.le_refl _, by unfold maxLen; omega, rfl, rfl⟩⟩
 row := fun m l v _ hv => by simp at hv
 lo := fun k hk => by cases hk; exact Nat.le_refl _
 lr := fun v hv => by cases hv
 bel := Zd _ _
theorem Ci.start (h : Cq w0 wr S i va vs) : Ci w0 (wr.alloc (.cells #[] 141)) l 0 (.slice (some ⟨wr.heap.size, 0, none⟩) 0 0) vs where
 own := ⟨rfl, .inr ⟨wr.heap.size, 0, _, rfl, Nat.zero_le _, B_ _ _, Nat.le_refl _, by unfold maxLen; omega, rfl, rfl⟩⟩
 lo := fun k hk => by cases hk; exact h.bel.size
 ap := fun v hv k hk e => by
  have e2 : wr.heap.size = k := Option.some.inj e
  have := (h.lr v hv k hk).2
  omega
theorem Cq.step (h : Cq w0 wr S i va vs) (c : Ci w0 wr l j vx vs) {x : Wt} (hx : l[j]? = some x) (ho : wy.ownsRow 0 141 6 v' (j + 1) (w6s (l.take j) ++ w6s [x])) (hg : wr.grownBy wy vx.ownBlock) (hb : ∀ k, v'.ownBlock = some k -> vx.ownBlock = some k ∨ wr.heap.size <= k) : Cq w0 wy S i va vs /\ Ci w0 wy l (j + 1) v' vs := by
 refine ⟨{ al := Zk h.al fun k hk => hg.block k (Zf h.al hk).2.1 (fun e => Zp h.al c.own (by decide) k hk e.symm), row := fun m l v hl hv => Zk (h.row m l v hl hv) fun k hk => hg.block k (Zf (h.row m l v hl hv) hk).2.1 (fun e => c.ap v (List.mem_of_getElem? hv) k hk e.symm), lo := h.lo, lr := fun v hv k hk => ⟨(h.lr v hv k hk).1, Nat.lt_of_lt_of_le (h.lr v hv k hk).2 hg.size⟩, bel := h.bel.grown hg h.bel.size (fun k hk => c.lo k hk) }, { own := ?_, lo := fun k hk => ?_, ap := fun v hv k hk e => ?_ }⟩
 · rw [List.take_add_one, hx, w6s_app]
   exact ho
 · rcases hb k hk with h1 | h1
   · exact c.lo k h1
   · have := h.bel.size
     omega
 · rcases hb k e with h1 | h1
   · exact c.ap v hv k hk h1
   · have := (h.lr v hv k hk).2
     omega
theorem Cq.push (h : Cq w0 wr S i va vs) (c : Ci w0 wr l j vx vs) (hl : S[i]? = some l) (hj : j = l.length) (ho : wy.ownsRow 0 139 1 v' (i + 1) (vs ++ [vx])) (hg : wr.grownBy wy va.ownBlock) (hb : ∀ k, v'.ownBlock = some k -> va.ownBlock = some k ∨ wr.heap.size <= k) : Cq w0 wy S (i + 1) v' (vs ++ [vx]) := by
 have hvl : vs.length = i := by have := h.al.1; omega
 have co := c.own
 rw [hj, List.take_length] at co
 refine { al := ho, row := fun m l' v hl' hv => ?_, lo := fun k hk => ?_, lr := fun v hv k hk => ?_, bel := h.bel.grown hg h.bel.size h.lo }
 · by_cases e : m < i
   · rw [List.getElem?_append_left (by omega)] at hv
     exact Zk (h.row m l' v hl' hv) fun k hk => hg.block k (Zf (h.row m l' v hl' hv) hk).2.1 (fun e => Zp h.al (h.row m l' v hl' hv) (by decide) k e.symm hk)
   · have hm : m = i := by
      have := (List.getElem?_eq_some_iff.1 hv).1
      simp at this
      omega
     subst hm
     rw [List.getElem?_append_right (by omega), hvl] at hv
     simp at hv
     rw [hl] at hl'
     cases hl'
     subst hv
     exact Zk co fun k hk => hg.block k (Zf co hk).2.1 (fun e => Zp h.al co (by decide) k e.symm hk)
 · rcases hb k hk with h1 | h1
   · exact h.lo k h1
   · have := h.bel.size
     omega
 · rcases List.mem_append.1 hv with h1 | h1
   · exact ⟨(h.lr v h1 k hk).1, Nat.lt_of_lt_of_le (h.lr v h1 k hk).2 hg.size⟩
   · simp at h1
     subst h1
     exact ⟨c.lo k hk, Nat.lt_of_lt_of_le (Zf co hk).2.1 hg.size⟩
end
def Yb (va : Value) (vs : List Value) (k : Nat) : Prop := va.ownBlock = some k ∨ ∃ v ∈ vs, v.ownBlock = some k
structure Mt (w w3 W : World) (bx : Nat) (ob : Obj) (X F2 T : Nat -> Prop) (gm : Nat) (s : St) (S : List (List Wt)) (va : Value) (vs : List Value) : Prop where
 bo : W.heap[bx]? = some ob
 xb : ¬ X bx
 xl : ∀ k, X k -> w.heap.size <= k
 xs : ∀ k, X k -> k < W.heap.size
 rt : Rt W F2 (fun _ => False) 0 gm s
 al : W.ownsRow 0 139 1 va S.length vs
 row : ∀ (m : Nat) (l : List Wt) (v : Value), S[m]? = some l -> vs[m]? = some v -> W.ownsRow 0 141 6 v l.length (w6s l)
 f2 : ∀ k, F2 k -> w.heap.size <= k /\ k < w3.heap.size
 yl : ∀ k, Yb va vs k -> w3.heap.size <= k /\ k < W.heap.size
 tl : ∀ k, T k -> w3.heap.size <= k /\ k < W.heap.size
 ap : ∀ k, X k -> ¬ F2 k /\ ¬ Yb va vs k /\ ¬ T k
 s3 : w.heap.size <= w3.heap.size
 bel : Below w.heap.size w W
section
variable {w w3 W W' : World} {bx : Nat} {ob : Obj} {X X' F2 T : Nat → Prop} {gm : Nat} {s : St} {S : List (List Wt)} {va : Value} {vs : List Value}
theorem Mt.ch (h : Mt w w3 W bx ob X F2 T gm s S va vs) (c : Ch X X' W W') (hx : ∀ k, X' k -> k < W'.heap.size) : Mt w w3 W' bx ob X' F2 T gm s S va vs where
  bo := (c.blk bx (Ze h.bo) h.xb).trans h.bo
  xb := fun e => by
    rcases c.grow bx e with h1 | h1
    · exact h.xb h1
    · have := Ze h.bo
      omega
  xl := fun k hk => by
    rcases c.grow k hk with h1 | h1
    · exact h.xl k h1
    · have := h.bel.size
      omega
  xs := hx
  rt := h.rt.keep (fun k hk => by
    rcases hk with hk | hk
    · exact c.blk k (h.rt.fb k hk) (fun e => (h.ap k e).1 hk)
    · exact hk.elim) c.size
  al := Zk h.al fun k hk => c.blk k (Zf h.al hk).2.1 (fun e => (h.ap k e).2.1 (.inl hk))
  row := fun m l v hl hv => Zk (h.row m l v hl hv) fun k hk => c.blk k (Zf (h.row m l v hl hv) hk).2.1 (fun e => (h.ap k e).2.1 (.inr ⟨v, List.mem_of_getElem? hv, hk⟩))
  f2 := h.f2
  yl := fun k hk => ⟨(h.yl k hk).1, Nat.lt_of_lt_of_le (h.yl k hk).2 c.size⟩
  tl := fun k hk => ⟨(h.tl k hk).1, Nat.lt_of_lt_of_le (h.tl k hk).2 c.size⟩
  ap := fun k hk => by
    rcases c.grow k hk with h1 | h1
    · exact h.ap k h1
    · exact ⟨fun e => by have := h.rt.fb k e; omega, fun e => by have := (h.yl k e).2; omega, fun e => by have := (h.tl k e).2; omega⟩
  s3 := h.s3
  bel := h.bel.trans (c.bel h.xl h.bel.size)
theorem Mt.low (h : Mt w w3 W bx ob X F2 T gm s S va vs) (hb : Below W.heap.size W W') : Mt w w3 W' bx ob X F2 T gm s S va vs := h.ch (Ch.of_bel hb) (fun k hk => Nat.lt_of_lt_of_le (h.xs k hk) hb.size)
theorem Mt.more (h : Mt w w3 W bx ob X F2 T gm s S va vs) {R : Nat -> Prop} (hb : Below W.heap.size W W') (hR : ∀ k, R k -> W.heap.size <= k /\ k < W'.heap.size) : Mt w w3 W' bx ob (fun k => X k ∨ R k) F2 T gm s S va vs :=
 h.ch ((Ch.of_bel (F := X) hb).wide (fun _ h => h) (fun k hk => hk.imp id (fun e => (hR k e).1))) (fun k hk => hk.elim (fun e => Nat.lt_of_lt_of_le (h.xs k e) hb.size) (fun e => (hR k e).2))
theorem Mt.box (h : Mt w w3 W bx ob X F2 (fun _ => False) gm s S va vs) (hw : w3.heap.size <= W.heap.size) (o : Obj) : Mt w w3 (W.alloc o) bx ob X F2 (fun k => k = W.heap.size) gm s S va vs :=
 { h.low (Zd W o) with
  tl := fun k hk => by subst hk; exact ⟨hw, by simp⟩
  ap := fun k hk => ⟨(h.ap k hk).1, (h.ap k hk).2.1, fun e => by have := h.xs k hk; omega⟩ }
theorem Mt.pq (h : Mt w w3 W bx ob X F2 T gm s S va vs) {gt : Nat} (hT : T gt) (hg : W.heap[gt]? = some (.cells #[va, .slice none 0 0, .slice none 0 0] 145 (0, 0))) (sz : S.length <= 2000 /\ ∀ l ∈ S, l.length <= 2000) (hvl : vs.length = S.length) : Pq W F2 (fun _ => False) (Yb va vs) 0 gm gt s S va vs where
 st := h.rt
 tt := hg
 al := h.al
 row := fun i l v hl hv => ⟨h.row i l v hl hv, fun k hk => .inr ⟨v, List.mem_of_getElem? hv, hk⟩⟩
 fL := fun k hk => .inl hk
 ft := ⟨fun e => by have h1 := (h.f2 gt e).2; have h2 := (h.tl gt hT).1; omega, fun e => e, fun e => by
  rcases e with e | ⟨v, hv, e⟩
  · exact Zt h.al hg (by decide) e
  · obtain ⟨i, hi, hvi⟩ := List.getElem_of_mem hv
    have hi2 : i < S.length := by omega
    exact Zt (h.row i S[i] v (List.getElem?_eq_getElem hi2) (by rw [List.getElem?_eq_getElem hi, hvi])) hg (by decide) e⟩
 ro := fun k hk e => by have h1 := (h.yl k hk).1; have h2 := (h.f2 k e).2; omega
 rb := fun k hk => (h.yl k hk).2
 sz := sz
end
end Go.Proofs.YtghfjnnmpmfboaaDoor.Ck
namespace Go.Proofs.YtghfjnnmpmfboaaDoor.Ck
open Go.ChangeShapes Go.WideShapes Go.ChangeAt Go.RowKit
theorem block_lt {W : World} {a : Addr} {v : Value} (hc : W.cell? a = some v) : a.block < W.heap.size := by
 rcases Nat.lt_or_ge a.block W.heap.size with h' | h'
 · exact h'
 · simp [World.cell?, Array.getElem?_eq_none h'] at hc
theorem wf_i64 {z : Int} (h : (Lit.int .i64 z).wf = true) : -9223372036854775808 <= z /\ z <= 9223372036854775807 := by
 have := bounds_i64 h
 omega
theorem add_plain (b off i : Nat) : (Addr.mk b off none).add i = ⟨b, off + i, none⟩ := by
 unfold Addr.add
 by_cases h : i = 0 <;> simp [h]
theorem sl_open {H : Type} {enc : TypeId × Value -> H} {W : World} {a : Option Addr} {len cap : Nat} {d : DataW H} {p : List MemPlace}
 (h : DataW.Trod enc Tryd.prog W 0 (fun _ => true) true 22 (.slice a len cap) d p) : ∃ zs, Sl W (.slice a len cap) zs := by
 obtain ⟨fuel, hf⟩ := h
 rcases open_ints Tryd.underlying22 Tryd.underlying3 (by kernel_rfl) hf with ⟨hcs, _⟩ | ⟨x, l, c, zs, hcs, _, hl, hm, hz, _, hcell, hwz⟩
 · simp [Value.cells] at hcs
   obtain ⟨rfl, rfl, rfl⟩ := hcs
   exact ⟨[], Sl.nilS W⟩
 · simp [Value.cells] at hcs
   obtain ⟨rfl, rfl, rfl⟩ := hcs
   have hz' : zs.length = cap := by simpa using hz
   have hlen : (zs.take len).length = len := by simp; omega
   refine ⟨zs.take len, fun z hm' => wf_i64 (hwz z (List.mem_of_mem_take hm')), some x, cap, by rw [hlen], by omega, hm, fun i hi => ?_⟩
   rw [hlen] at hi
   have hc := hcell i (by omega)
   obtain ⟨b, off, spot⟩ := x
   have hspot : spot = none := by simpa [Addr.add] using World.cell?_spot (hcell 0 (by omega))
   subst hspot
   rw [add_plain] at hc
   refine ⟨b, off, rfl, block_lt hc, ?_⟩
   have e : (zs.take len).getD i 0 = zs.getD i 0 := by simp [List.getD, hi]
   rw [e]
   exact hc
end Go.Proofs.YtghfjnnmpmfboaaDoor.Ck
namespace Go.Proofs.YtghfjnnmpmfboaaDoor.Ck
open Go.ChangeShapes Go.WideShapes Go.ChangeAt Go.RowKit
theorem cells_at {W : World} {ad : Addr} {n : Nat} {cs : List Value} (h : W.cells? 0 ad n = some cs) (i : Nat) (hi : i < n) : W.cell? (ad.add i) = cs[i]? := by
 unfold World.cells? at h
 rw [if_pos (Nat.zero_le _)] at h
 exact mapM_some_get h i i (by rw [List.getElem?_range hi])
theorem cells_len {W : World} {ad : Addr} {n : Nat} {cs : List Value} (h : W.cells? 0 ad n = some cs) : cs.length = n := by
 unfold World.cells? at h
 rw [if_pos (Nat.zero_le _)] at h
 simpa using mapM_some_length h
theorem rows_of {α : Type} (d0 : α) {H : Type} {enc : TypeId × Value -> H} {W : World} {TS T : TypeId} {n fuel : Nat} {v : Value} {x : DataW H × List MemPlace} (hu : Tryd.prog.underlying TS = some (.slice T)) (hc : Tryd.prog.cellsOf T = n) (hn : 0 < n) (Q : α -> List Value -> Prop)
 (hP : ∀ (f : Nat) (cs : List Value) (y : DataW H × List MemPlace), f < fuel -> DataW.trod enc Tryd.prog W 0 (fun _ => true) true f T cs = some y -> ∃ x, Q x cs) (h : DataW.trod enc Tryd.prog W 0 (fun _ => true) true fuel TS [v] = some x) :
 ∃ (a : Option Addr) (cap : Nat) (l : List α), v = .slice a l.length cap /\ l.length <= cap /\ cap <= maxLen /\ ∀ (i : Nat) (y : α), l[i]? = some y -> ∃ (b o : Nat) (cs : List Value), a = some ⟨b, o, none⟩ /\ b < W.heap.size /\ Q y cs /\ cs.length = n /\ ∀ (j : Nat) (u : Value), cs[j]? = some u -> W.cell? ⟨b, o + i * n + j, none⟩ = some u := by
 rcases DataW.trod_slice hu h with ⟨e, _⟩ | ⟨a, len, cap, elems, rest, m, hm, e, _, _, hl1, hl2, hl3, hel, _⟩
 · simp at e
   subst e
   exact ⟨none, 0, [], rfl, Nat.le_refl _, Nat.zero_le _, fun i y hy => by simp at hy⟩
 · simp at e
   subst e
   have key : ∀ i, i < len -> ∃ (y : α) (b o : Nat) (cs : List Value), some a = some ⟨b, o, none⟩ /\ b < W.heap.size /\ Q y cs /\ cs.length = n /\ ∀ (j : Nat) (u : Value), cs[j]? = some u -> W.cell? ⟨b, o + i * n + j, none⟩ = some u := fun i hi => by
    have h9 := hel i hi
    rw [List.getElem?_eq_getElem (show i < elems.length by omega), hc] at h9
    cases hcs : W.cells? 0 (a.add (i * n)) n with
    | none => rw [hcs] at h9; cases h9
    | some cs =>
     rw [hcs] at h9
     obtain ⟨y, hy⟩ := hP m cs _ (by omega) h9
     have hlen := cells_len hcs
     have hcell : ∀ k, k < n -> W.cell? (a.add (i * n + k)) = cs[k]? := fun k hk => by
      rw [← cells_at hcs k hk, Go.Deep.add_add]
     obtain ⟨c0, hc0⟩ : ∃ c, cs[0]? = some c := ⟨_, List.getElem?_eq_getElem (by omega)⟩
     obtain ⟨b, off, spot⟩ := a
     have hspot : spot = none := by
      have h8 := hel 0 (by omega)
      rw [List.getElem?_eq_getElem (show 0 < elems.length by omega), hc] at h8
      cases hz : W.cells? 0 ((Addr.mk b off spot).add (0 * n)) n with
      | none => rw [hz] at h8; cases h8
      | some zs =>
       have h7 := cells_at hz 0 hn
       rw [List.getElem?_eq_getElem (show 0 < zs.length by rw [cells_len hz]; exact hn)] at h7
       simpa [Addr.add] using World.cell?_spot h7
     subst hspot
     have h0 := (hcell 0 hn).trans hc0
     rw [add_plain] at h0
     refine ⟨y, b, off, cs, rfl, block_lt h0, hy, hlen, fun j u hu => ?_⟩
     have hj := (List.getElem?_eq_some_iff.1 hu).1
     have := (hcell j (by omega)).trans hu
     rw [add_plain] at this
     rw [Nat.add_assoc]
     exact this
   have hch : ∃ fn : Nat -> α, ∀ i, i < len -> ∃ (b o : Nat) (cs : List Value), some a = some ⟨b, o, none⟩ /\ b < W.heap.size /\ Q (fn i) cs /\ cs.length = n /\ ∀ (j : Nat) (u : Value), cs[j]? = some u -> W.cell? ⟨b, o + i * n + j, none⟩ = some u :=
    ⟨fun i => if h : i < len then Classical.choose (key i h) else d0, fun i hi => by dsimp only; rw [dif_pos hi]; exact Classical.choose_spec (key i hi)⟩
   obtain ⟨fn, hfn⟩ := hch
   refine ⟨some a, cap, (List.range len).map fn, by simp, by simpa using hl1, hl2, fun i y hy => ?_⟩
   obtain ⟨hj1, hj2⟩ := List.getElem?_eq_some_iff.1 hy
   simp at hj1 hj2
   rw [← hj2]
   exact hfn i hj1
theorem sl_of {H : Type} {enc : TypeId × Value -> H} {W : World} {fuel : Nat} {v : Value} {x : DataW H × List MemPlace} (h : DataW.trod enc Tryd.prog W 0 (fun _ => true) true fuel 22 [v] = some x) : ∃ zs, Sl W v zs := by
 rcases DataW.trod_slice Tryd.underlying22 h with ⟨e, _⟩ | ⟨a, len, cap, elems, rest, m, hm, e, _⟩
 · simp at e
   subst e
   exact ⟨[], Sl.nilS W⟩
 · simp at e
   subst e
   exact sl_open (d := x.1) (p := x.2) ⟨fuel, h⟩
end Go.Proofs.YtghfjnnmpmfboaaDoor.Ck
namespace Go.Proofs.YtghfjnnmpmfboaaDoor.Ck
open Go.ChangeShapes Go.WideShapes Go.RowKit
theorem cellsValue : Tryd.prog.cellsOf 41 = 3 := by kernel_rfl
def In64 (z : Int) : Prop := -9223372036854775808 <= z /\ z <= 9223372036854775807
def InU (z : Int) : Prop := 0 <= z /\ z <= 18446744073709551615
theorem in64 {z : Int} (h : (Lit.int .i64 z).wf = true) : In64 z := by
 simp [Lit.wf] at h
 exact h
theorem inU {z : Int} (h : (Lit.int .u64 z).wf = true) : InU z := by
 simp [Lit.wf] at h
 exact h
theorem val_of {H : Type} {enc : TypeId × Value -> H} {W : World} {fuel : Nat} {cs : List Value} {x : DataW H × List MemPlace} (h : DataW.trod enc Tryd.prog W 0 (fun _ => true) true fuel 41 cs = some x) :
 ∃ t n b, cs = [.int .i64 t, .int .i64 n, .int .u64 b] /\ In64 t /\ In64 n /\ InU b := by
 obtain ⟨xs, f, hfu, _, hl, hlen, hf⟩ := DataW.trod_struct Tryd.underlying41 h
 rw [cellsValue] at hl
 clear h
 have hx : xs.length = 3 := hlen
 match cs, hl with
 | [c0, c1, c2], _ =>
  have g : ∀ i, i < 3 -> ∃ y, xs[i]? = some y := fun i hi => ⟨_, List.getElem?_eq_getElem (by omega)⟩
  have h0 : DataW.trod enc Tryd.prog W 0 (fun _ => true) true f 3 (([c0, c1, c2].drop 0).take (Tryd.prog.cellsOf 3)) = xs[0]? := hf 0 _ rfl
  have h1 : DataW.trod enc Tryd.prog W 0 (fun _ => true) true f 3 (([c0, c1, c2].drop 1).take (Tryd.prog.cellsOf 3)) = xs[1]? := hf 1 _ rfl
  have h2 : DataW.trod enc Tryd.prog W 0 (fun _ => true) true f 39 (([c0, c1, c2].drop 2).take (Tryd.prog.cellsOf 39)) = xs[2]? := hf 2 _ rfl
  clear hf
  simp only [show Tryd.prog.cellsOf 3 = 1 by kernel_rfl, show Tryd.prog.cellsOf 39 = 1 by kernel_rfl, List.drop_zero, List.drop_succ_cons, List.take_succ_cons, List.take_zero] at h0 h1 h2
  obtain ⟨y0, e0⟩ := g 0 (by omega)
  obtain ⟨y1, e1⟩ := g 1 (by omega)
  obtain ⟨y2, e2⟩ := g 2 (by omega)
  rw [e0] at h0
  rw [e1] at h1
  rw [e2] at h2
  obtain ⟨z0, q0, r0, s0⟩ := DataW.trod_int Tryd.underlying3 h0
  obtain ⟨z1, q1, r1, s1⟩ := DataW.trod_int Tryd.underlying3 h1
  obtain ⟨z2, q2, r2, s2⟩ := DataW.trod_int Tryd.underlying39 h2
  simp at q0 q1 q2
  subst q0 q1 q2
  exact ⟨z0, z1, z2, rfl, in64 s0, in64 s1, inU s2⟩
end Go.Proofs.YtghfjnnmpmfboaaDoor.Ck
namespace Go.Proofs.YtghfjnnmpmfboaaDoor.Ck
open Go.ChangeShapes Go.WideShapes Go.ChangeAt Go.RowKit
theorem cells1 : Tryd.prog.cellsOf 3 = 1 := by kernel_rfl
def ccl (c : Int × Int) : List Value := [.int .i64 c.1, .int .i64 c.2]
theorem chan_of {H : Type} {enc : TypeId × Value -> H} {W : World} {fuel : Nat} {cs : List Value} {x : DataW H × List MemPlace} (h : DataW.trod enc Tryd.prog W 0 (fun _ => true) true fuel 52 cs = some x) : ∃ c : Int × Int, cs = ccl c := by
 obtain ⟨xs, f, hfu, _, hl, hlen, hf⟩ := DataW.trod_struct Tryd.underlying52 h
 rw [show Tryd.prog.cellsOf 52 = 2 by kernel_rfl] at hl
 clear h
 have hx : xs.length = 2 := hlen
 match cs, hl with
 | [c0, c1], _ =>
  have h0 : DataW.trod enc Tryd.prog W 0 (fun _ => true) true f 3 (([c0, c1].drop 0).take (Tryd.prog.cellsOf 3)) = xs[0]? := hf 0 _ rfl
  have h1 : DataW.trod enc Tryd.prog W 0 (fun _ => true) true f 3 (([c0, c1].drop 1).take (Tryd.prog.cellsOf 3)) = xs[1]? := hf 1 _ rfl
  clear hf
  simp only [cells1, List.drop_zero, List.drop_succ_cons, List.take_succ_cons, List.take_zero] at h0 h1
  rw [List.getElem?_eq_getElem (by omega)] at h0 h1
  obtain ⟨z0, q0, _⟩ := DataW.trod_int Tryd.underlying3 h0
  obtain ⟨z1, q1, _⟩ := DataW.trod_int Tryd.underlying3 h1
  simp at q0 q1
  subst q0 q1
  exact ⟨(z0, z1), rfl⟩
theorem chans_of {H : Type} {enc : TypeId × Value -> H} {W : World} {fuel : Nat} {v : Value} {x : DataW H × List MemPlace} (h : DataW.trod enc Tryd.prog W 0 (fun _ => true) true fuel 23 [v] = some x) : ∃ cs, SlC W v cs := by
 obtain ⟨a, cap, l, e, h1, h2, h3⟩ := rows_of (0, 0) Tryd.underlying23 (show Tryd.prog.cellsOf 52 = 2 by kernel_rfl) (by omega) (fun (c : Int × Int) cs => cs = ccl c) (fun f cs y _ hy => chan_of hy) h
 refine ⟨l, a, cap, e, h1, h2, fun i hi => ?_⟩
 obtain ⟨b, o, cs, ea, hb, rfl, _, hc⟩ := h3 i _ (List.getElem?_eq_getElem hi)
 have e2 : l.getD i (0, 0) = l[i] := by simp [List.getD, hi]
 rw [e2]
 exact ⟨b, o, ea, hb, hc 0 _ rfl, hc 1 _ rfl⟩
structure Pre (w : World) (Fs R : Nat -> Prop) (gs : Nat) (s : St) (vB : Value) (S : List (List Wt)) : Prop where
 st : Stt w Fs gs s
 ty : ∀ q ∈ s.C, 1 <= q.t /\ q.t <= 3
 bg : Beg w R vB S
 rs : ∀ k, R k -> ¬ Fs k
 rb : ∀ k, R k -> k < w.heap.size
theorem Pre.bel {w w' : World} {Fs R : Nat -> Prop} {gs : Nat} {s : St} {vB : Value} {S : List (List Wt)} (h : Pre w Fs R gs s vB S) (hb : Below w.heap.size w w') : Pre w' Fs R gs s vB S :=
 ⟨h.st.bel hb, h.ty, h.bg.keep (fun k hk => hb.block k (h.rb k hk)) (fun _ h => h), h.rs, fun k hk => Nat.lt_of_lt_of_le (h.rb k hk) hb.size⟩
theorem ru_new {w : World} {Fs R : Nat -> Prop} {gs : Nat} {s : St} {vB vC : Value} {S : List (List Wt)} (h : Pre w Fs R gs s vB S) (g : Nat) {w' : World} (hb : Below w.heap.size w w') (hg : w'.heap[g]? = some (.cells #[.pointer (some ⟨gs, 0, none⟩), vC, vB, .slice none 0 0, .slice none 0 0, .int .i64 0, .int .i64 0, .int .i64 0, .int .i64 0, .int .i64 0] 150 (0, 0))) (hgn : w.heap.size <= g)
    (hC : w'.ownsRow w.heap.size 3 1 vC s.C.length (nts (s.C.map Qu.t))) : Ru w' Fs (fun k => k = g ∨ vC.ownBlock = some k) R g gs S ⟨s, [], [], zE⟩ vC vB (.slice none 0 0) (.slice none 0 0) [] [] := by
  have h' := h.bel hb
  exact { at_ := hg, st := h'.st, ch := own_zero hC, bg := h'.bg, go := Yf _ _ _, ev := Yf _ _ _, tl := rfl, gr := fun i x b t hx => (by simp at hx), np := List.nodup_nil, nt := List.nodup_nil, fg := .inl rfl, fC := fun k hk => .inr hk, fG := fun k hk => (by cases hk), fE := fun k hk => (by cases hk)
          so := fun k hk hF => (by
            have h1 := h.st.fb k hk
            rcases hF with rfl | hF
            · omega
            · have := (Zf hC hF).1
              omega)
          rs := h.rs
          ro := fun k hk hF => (by
            have h1 := h.rb k hk
            rcases hF with rfl | hF
            · omega
            · have := (Zf hC hF).1
              omega)
          fb := fun k hk => (by
            rcases hk with rfl | hk
            · exact Ze hg
            · exact (Zf hC hk).2.1)
          rb := h'.rb, n8 := (by simp) }
theorem start_ch {w w1 w2 : World} {Fs Fo R G : Nat -> Prop} {g gs : Nat} {S : List (List Wt)} {r : Rm} {vC vB vG vE : Value} {ps ts : List Nat} (_h : Ru w1 Fs Fo R g gs S r vC vB vG vE ps ts) (hb : Below w.heap.size w w1) (c : Ch (fun k => Fs k ∨ Fo k ∨ R k) G w1 w2) (hF : ∀ k, Fo k -> w.heap.size <= k) : Ch (fun k => Fs k ∨ R k) G w w2 :=
  ⟨c.os.trans hb.os, c.tape.trans hb.tape, c.output.trans hb.output, Nat.le_trans hb.size c.size, fun k hk hn => (c.blk k (Nat.lt_of_lt_of_le hk hb.size) (fun hG => by
    rcases hG with h1 | h1 | h1
    · exact hn (.inl h1)
    · have := hF k h1
      omega
    · exact hn (.inr h1))).trans (hb.block k hk), fun k hk => by
    rcases c.grow k hk with h1 | h1
    · rcases h1 with h1 | h1 | h1
      · exact .inl (.inl h1)
      · exact .inr (hF k h1)
      · exact .inl (.inr h1)
    · exact .inr (Nat.le_trans hb.size h1)⟩
def StartP (w : World) (G : Nat -> Prop) (S : List (List Wt)) (r : Rm) (e : Ending) (w' : World) : Prop := ∃ g G', e = .returned (.pointer (some ⟨g, 0, none⟩)) /\ Rn w' G' g S r /\ Ch G G' w w'
theorem start_any {w : World} {Fs R : Nat -> Prop} {gs : Nat} {s : St} {vB : Value} {S : List (List Wt)} {p : List Addr} (h : Pre w Fs R gs s vB S) (h17 : E3 w p) (hO : Off (fun k => Fs k ∨ R k)) (fn : Int) :
    Calls Tryd.prog 66 #[.pointer (some ⟨gs, 0, none⟩), vB, .int .i64 fn] w (StartP w (fun k => Fs k ∨ R k) S (startR S s fn)) := by
  have CT := Za (chanTypes_any h.st h17.e2 h.ty)
  obtain ⟨cB, vS, vs, eB, _⟩ := id h.bg
  subst eB
  have HP := Za h
  have H7 := Za (And.intro h17 hO)
  obtain ⟨nC, hnC⟩ : ∃ nC, nC = s.C.length := ⟨_, rfl⟩
  rw [← hnC] at CT
  have HN := Za hnC
  unfold startR enterR
  clear h h17 hO hnC
  cases hl : lk S fn with
  | none =>
    simp only
    have HL := Za hl
    clear hl
    go_enter Tryd.func66, Tryd.ntmps66
    go_wp2_with fail
    refine CT.out.mono ?_
    rintro e w1 ⟨aC, cC, rfl, oC, hb⟩
    have U1 := Za (ru_new HP.out w1.heap.size (Zu hb (.cells #[.pointer (some ⟨gs, 0, none⟩), .slice aC nC cC, .func (.func 93) #[] #[.pointer (some ⟨cB, 0, none⟩)], .slice none 0 0, .slice none 0 0, .int .i64 0, .int .i64 0, .int .i64 0, .int .i64 0, .int .i64 0] 150)) (B_ w1 _) hb.size (by rw [← HN.out]; exact Zk oC (fun k hk => (Zd w1 _).block k (Zf oC hk).2.1)))
    have B1 := Za (Zu hb (.cells #[.pointer (some ⟨gs, 0, none⟩), .slice aC nC cC, .func (.func 93) #[] #[.pointer (some ⟨cB, 0, none⟩)], .slice none 0 0, .slice none 0 0, .int .i64 0, .int .i64 0, .int .i64 0, .int .i64 0, .int .i64 0] 150))
    have NB : Hid (∀ k, (k = w1.heap.size ∨ (Value.slice aC nC cC).ownBlock = some k) -> w.heap.size <= k) := Za (fun k hk => by
      rcases hk with rfl | hk
      · exact hb.size
      · exact (Zf oC hk).1)
    clear oC hb CT
    have EN := Za (enter_none U1.out.rn fn (R0 := fun _ => True) YA.nilS HL.out)
    go_wp2_with fail
    refine EN.out.mono ?_
    rintro e w2 ⟨rfl, G2, rn2, c2⟩
    have FA := Za (fault_any rn2 0 5 0 0)
    have C2 := Za c2
    clear rn2 c2 EN
    go_wp2_with fail
    refine FA.out.mono ?_
    rintro e w3 ⟨rfl, G3, rn3, c3⟩
    have C3 := Za (start_ch U1.out B1.out (C2.out.trans c3) NB.out)
    have SE := Za (settle_any rn3 (H7.out.1.ch H7.out.2 C3.out).1.e2)
    clear rn3 c3 FA
    go_wp2_with fail
    refine SE.out.mono ?_
    rintro e w4 ⟨rfl, G4, rn4, c4⟩
    have Z := Za (And.intro rn4 (C3.out.trans c4))
    clear rn4 c4 SE
    go_wp2_with fail
    go_ret
    exact ⟨_, _, rfl, Z.out.1, Z.out.2⟩
  | some l =>
    simp only [List.nil_append]
    have HL := Za hl
    clear hl
    go_enter Tryd.func66, Tryd.ntmps66
    go_wp2_with fail
    refine CT.out.mono ?_
    rintro e w1 ⟨aC, cC, rfl, oC, hb⟩
    have U1 := Za (ru_new HP.out w1.heap.size (Zu hb (.cells #[.pointer (some ⟨gs, 0, none⟩), .slice aC nC cC, .func (.func 93) #[] #[.pointer (some ⟨cB, 0, none⟩)], .slice none 0 0, .slice none 0 0, .int .i64 0, .int .i64 0, .int .i64 0, .int .i64 0, .int .i64 0] 150)) (B_ w1 _) hb.size (by rw [← HN.out]; exact Zk oC (fun k hk => (Zd w1 _).block k (Zf oC hk).2.1)))
    have B1 := Za (Zu hb (.cells #[.pointer (some ⟨gs, 0, none⟩), .slice aC nC cC, .func (.func 93) #[] #[.pointer (some ⟨cB, 0, none⟩)], .slice none 0 0, .slice none 0 0, .int .i64 0, .int .i64 0, .int .i64 0, .int .i64 0, .int .i64 0] 150))
    have NB : Hid (∀ k, (k = w1.heap.size ∨ (Value.slice aC nC cC).ownBlock = some k) -> w.heap.size <= k) := Za (fun k hk => by
      rcases hk with rfl | hk
      · exact hb.size
      · exact (Zf oC hk).1)
    clear oC hb CT
    have EN := Za (enter_some U1.out.rn fn (R0 := fun _ => True) YA.nilS l HL.out (by simp))
    simp only [List.nil_append] at EN
    go_wp2_with fail
    refine EN.out.mono ?_
    rintro e w2 ⟨rfl, G2, rn2, c2⟩
    have AK := Za (ask_any rn2 0 ⟨l, zW⟩ rfl 0 0 0)
    have C2 := Za c2
    clear rn2 c2 EN
    go_wp2_with fail
    refine AK.out.mono ?_
    rintro e w3 ⟨rfl, G3, rn3, c3⟩
    have C3 := Za (start_ch U1.out B1.out (C2.out.trans c3) NB.out)
    have SE := Za (settle_any rn3 (H7.out.1.ch H7.out.2 C3.out).1.e2)
    clear rn3 c3 AK
    go_wp2_with fail
    refine SE.out.mono ?_
    rintro e w4 ⟨rfl, G4, rn4, c4⟩
    have Z := Za (And.intro rn4 (C3.out.trans c4))
    clear rn4 c4 SE
    go_wp2_with fail
    go_ret
    exact ⟨_, _, rfl, Z.out.1, Z.out.2⟩
def ints (zs : List Int) : List Value := zs.map (Value.int .i64)
theorem ints_len (zs : List Int) : (ints zs).length = zs.length := by simp [ints]
theorem ints_app (zs ms : List Int) : ints zs ++ ints ms = ints (zs ++ ms) := by simp [ints]
theorem ints_one (zs : List Int) : ∀ u ∈ ints zs, u.oneCell' = true := fun u hu => by
 obtain ⟨z, _, rfl⟩ := List.mem_map.1 hu
 rfl
theorem ints_at (zs : List Int) (j : Nat) (u : Value) (h : (ints zs)[j]? = some u) : j < zs.length /\ u = .int .i64 (zs.getD j 0) := by
 unfold ints at h
 rw [List.getElem?_map] at h
 cases hz : zs[j]? with
 | none => rw [hz] at h; cases h
 | some z =>
  rw [hz] at h
  have hl : j < zs.length := (List.getElem?_eq_some_iff.1 hz).1
  cases h
  exact ⟨hl, by simp [List.getD, hz]⟩
def Own (w : World) (B g cap : Nat) (zs : List Int) : Prop := w.ownsRow B 3 1 (.slice (some ⟨g, 0, none⟩) zs.length cap) zs.length (ints zs)
theorem Own.parts {w : World} {B g cap : Nat} {zs : List Int} (h : Own w B g cap zs) :
 ∃ cur : Array Value, B <= g /\ w.heap[g]? = some (.cells cur 3 (0, 0)) /\ zs.length <= cap /\ cap <= maxLen /\ cur.size = cap /\ cur.toList.take zs.length = ints zs := by
 rcases h.2 with ⟨h, _⟩ | ⟨g', cap', cur, h, hbg, hg, hnc, hcm, hcs, htake⟩
 · simp at h
 · simp only [Value.slice.injEq, Option.some.injEq, Addr.mk.injEq, and_true, true_and] at h
   obtain ⟨rfl, rfl⟩ := h
   exact ⟨cur, hbg, hg, hnc, hcm, by simpa using hcs, by simpa using htake⟩
theorem Own.mk {w : World} {B g cap : Nat} {zs : List Int} (cur : Array Value) (h1 : B <= g) (h2 : w.heap[g]? = some (.cells cur 3 (0, 0))) (h3 : zs.length <= cap) (h4 : cap <= maxLen) (h5 : cur.size = cap) (h6 : cur.toList.take zs.length = ints zs) : Own w B g cap zs :=
 ⟨by rw [ints_len]; simp, .inr ⟨g, cap, cur, rfl, h1, h2, h3, h4, by simpa using h5, by simpa using h6⟩⟩
theorem app_src {w : World} {vx : Value} {ms : List Int} (h : Sl w vx ms) :
 (∃ ad c, vx = .slice (some ad) ms.length c /\ ∀ j u, (ints ms)[j]? = some u -> w.cell? (ad.add j) = some u) ∨ (∃ c, vx = .slice none 0 c /\ ms = []) := by
 obtain ⟨_, a, c, rfl, _, _, hc⟩ := h
 cases a with
 | none =>
  right
  cases ms with
  | nil => exact ⟨c, rfl, rfl⟩
  | cons m ms => obtain ⟨b, off, e, _⟩ := hc 0 (by simp); cases e
 | some ad =>
  left
  refine ⟨ad, c, rfl, fun j u hu => ?_⟩
  obtain ⟨hj, rfl⟩ := ints_at ms j u hu
  obtain ⟨b, off, e, _, hcell⟩ := hc j hj
  cases e
  have e2 : (Addr.mk b off none).add j = ⟨b, off + j, none⟩ := by unfold Addr.add; by_cases h : j = 0 <;> simp [h]
  rw [e2]
  exact hcell
theorem app_fits {w : World} {B g cap : Nat} {zs ms : List Int} {vx : Value} (ty : TypeId) (h : Own w B g cap zs) (hx : Sl w vx ms) (hroom : zs.length + ms.length <= cap) :
 ∃ w', (Builtin.append_ #[22, 22] ty #[.slice (some ⟨g, 0, none⟩) zs.length cap, vx]).run Tryd.prog w = .ok (.slice (some ⟨g, 0, none⟩) (zs.length + ms.length) cap) w' /\ Own w' B g cap (zs ++ ms) /\ w.grownBy w' (some g) := by
 obtain ⟨i, hi, hz0, hz1, hz2⟩ := info_parts info3
 rcases app_src hx with ⟨ad, c, rfl, hnews⟩ | ⟨c, rfl, rfl⟩
 · obtain ⟨w', hr, ho, hg⟩ := run_append_fits (P := Tryd.prog) w B 22 ty 3 i 1 Tryd.underlying22 hi hz1 g zs.length cap (ints zs) h ad ms.length c (ints ms) (by rw [ints_len]; simp) hnews (ints_one ms) hroom
   refine ⟨w', hr, ?_, hg⟩
   unfold Own
   rw [List.length_append, ← ints_app]
   exact ho
 · have hs := Src.ofNil (P := Tryd.prog) w (size := i.size) Tryd.underlying22 c
   have hr := run_append_room_src (P := Tryd.prog) w 22 22 ty 3 i Tryd.underlying22 hi g 0 zs.length cap (.slice none 0 c) 0 [] hs hroom (fun j hj => absurd hj (Nat.not_lt_zero _)) (fun j hj => absurd hj (Nat.not_lt_zero _))
   refine ⟨w, hr, by rw [List.append_nil]; exact h, ⟨rfl, rfl, rfl, Nat.le_refl _, fun _ _ _ => rfl⟩⟩
theorem app_own {w : World} {B g cap : Nat} {zs ms : List Int} {vx : Value} (ty : TypeId) (h : Own w B g cap zs) (hx : Sl w vx ms) (hlen : zs.length + ms.length <= 2000000) (hB : B <= w.heap.size) :
 ∃ v' w', (Builtin.append_ #[22, 22] ty #[.slice (some ⟨g, 0, none⟩) zs.length cap, vx]).run Tryd.prog w = .ok v' w' /\ (∃ g' cap', v' = .slice (some ⟨g', 0, none⟩) (zs ++ ms).length cap' /\ Own w' B g' cap' (zs ++ ms)) /\ w.grownBy w' (some g) := by
 obtain ⟨i, hi, hz0, hz1, hz2⟩ := info_parts info3
 rcases app_src hx with ⟨ad, c, rfl, hnews⟩ | ⟨c, rfl, rfl⟩
 · obtain ⟨v', w', hr, ho, hg, hn⟩ := run_append_own (P := Tryd.prog) w B 22 ty 3 i (.int .i64 0) 1 8 Tryd.underlying22 hi hz0 hz1 hz2 rfl (by decide) _ zs.length (ints zs) h ad ms.length c (ints ms) (by rw [ints_len]; simp) hnews (ints_one ms) (by unfold maxLen; omega) (by omega) hB
   refine ⟨v', w', hr, ?_, hg⟩
   have ho2 := ho
   rcases ho.2 with ⟨h1, _⟩ | ⟨g', cap', cur, h1, _⟩
   · have := hn.1 h1
     simp at this
   · refine ⟨g', cap', by rw [h1, List.length_append], ?_⟩
     unfold Own
     rw [List.length_append, ← ints_app]
     rw [h1] at ho2
     exact ho2
 · obtain ⟨_, _, _, hnc, _⟩ := h.parts
   obtain ⟨w', hr, ho, hg⟩ := app_fits (ms := []) ty h hx (by simpa using hnc)
   exact ⟨_, w', hr, ⟨g, cap, by simp, ho⟩, hg⟩
theorem cloneS {w : World} {v : Value} {zs : List Int} (h : Sl w v zs) (hn : zs.length <= 100000) : Calls Tryd.prog 44 #[v] w fun e w' => ∃ v', e = .returned v' /\ (∃ a c, v' = .slice a zs.length c) /\ w'.ownsRow w.heap.size 3 1 v' zs.length (nts zs) /\ Below w.heap.size w w' := by
 obtain ⟨a, n, c, rfl, en⟩ := h.slice
 cases a with
 | none =>
  have hz : zs = [] := by
   cases zs with
   | nil => rfl
   | cons z l =>
    obtain ⟨_, a', c', e, _, _, h3⟩ := h
    obtain ⟨b, o, e', _⟩ := h3 0 (by simp)
    cases e
    cases e'
  subst hz
  have e0 : n = 0 := en
  subst e0
  clear h hn en
  have hE : ∀ w, (binOp .eql 22 (.slice none 0 c) (.slice none 0 0)).run Tryd.prog w = .ok (.bool true) w := fun w => by kernel_rfl
  go_enter Tryd.func44, Tryd.ntmps44
  go_wp2_with fail
  go_ret
  exact ⟨_, rfl, ⟨_, _, rfl⟩, World.ownsRow_nil _ _ _ _, Below.refl _ _⟩
 | some ad =>
  have hb := Zd w (.cells #[] 3)
  have ho : Own (w.alloc (.cells #[] 3)) w.heap.size w.heap.size 0 [] := Own.mk #[] (Nat.le_refl _) (B_ w _) (Nat.le_refl _) (Nat.zero_le _) rfl rfl
  have AP := Za (fun ty => app_own ty ho (h.below (Nat.le_refl _) hb) (by simp; omega) hb.size)
  have HB := Za hb
  simp only [List.length_nil, List.nil_append] at AP
  clear h hb ho
  have EN := Za en
  have hE : ∀ w, (binOp .eql 22 (.slice (some ad) n c) (.slice none 0 0)).run Tryd.prog w = .ok (.bool false) w := fun w => by kernel_rfl
  clear en hn
  go_enter Tryd.func44, Tryd.ntmps44
  go_wp2_with (first | (at_builtin; refine ZW (TS := 22) rfl (.tmp 5) (.tmp 6) rfl _ _ rfl rfl _ (AP.out _) ?_; rintro v9 w9 ⟨⟨g9, c9, rfl, o9⟩, b9⟩; have R9 := Za (And.intro o9 b9); clear o9 b9))
  go_ret
  exact ⟨_, rfl, ⟨_, _, rfl⟩, R9.out.1, HB.out.grown R9.out.2 HB.out.size (fun k hk => by cases hk; exact Nat.le_refl _)⟩
structure Pk (w : World) (F : Nat -> Prop) (v : Value) (l : List Int) (n : Nat) (ob nb : Nat) (vS : Value) : Prop where
 is : v = .func (.func 73) #[] #[.pointer (some ⟨ob, 0, none⟩), .pointer (some ⟨nb, 0, none⟩)]
 own : w.heap[ob]? = some (.cells #[vS] 22 (0, 0))
 nxt : w.heap[nb]? = some (.cells #[.int .i64 (n : Nat)] 3 (0, 0))
 row : w.ownsRow 0 3 1 vS l.length (nts l)
 ne : vS.ownBlock ≠ some nb
 fo : F ob
 fn : F nb
 fr : ∀ k, vS.ownBlock = some k -> F k
 fb : ∀ k, F k -> k < w.heap.size
 sm : l.length <= 100000
 nl : n < l.length ∨ l.length = 0
def Pks (w : World) (F : Nat -> Prop) (v : Value) (l : List Int) (n : Nat) : Prop := ∃ ob nb vS, Pk w F v l n ob nb vS
section
variable {w w' : World} {F G G' : Nat → Prop} {v : Value} {l : List Int} {n : Nat}
theorem Pks.fb (h : Pks w F v l n) : ∀ k, F k -> k < w.heap.size := by
 obtain ⟨ob, nb, vS, h⟩ := h
 exact h.fb
theorem Pks.keep (h : Pks w F v l n) (hb : ∀ k, F k -> w'.heap[k]? = w.heap[k]?) (hs : w.heap.size <= w'.heap.size) : Pks w' F v l n := by
 obtain ⟨ob, nb, vS, h⟩ := h
 exact ⟨ob, nb, vS, { h with own := (hb ob h.fo).trans h.own, nxt := (hb nb h.fn).trans h.nxt, row := Zk h.row fun k hk => hb k (h.fr k hk), fb := fun k hk => Nat.lt_of_lt_of_le (h.fb k hk) hs }⟩
theorem Pks.bel (h : Pks w F v l n) (hb : Below w.heap.size w w') : Pks w' F v l n := h.keep (fun k hk => hb.block k (h.fb k hk)) hb.size
theorem Pks.ch (h : Pks w F v l n) (hc : Ch G G' w w') (hd : ∀ k, F k -> ¬ G k) : Pks w' F v l n /\ ∀ k, F k -> ¬ G' k :=
 ⟨h.keep (fun k hk => hc.blk k (h.fb k hk) (hd k hk)) hc.size, fun k hk hG => by
  rcases hc.grow k hG with h1 | h1
  · exact hd k hk h1
  · have := h.fb k hk
    omega⟩
end
def ListP (w : World) (l : List Int) (e : Ending) (w' : World) : Prop := ∃ v F, e = .returned v /\ Pks w' F v l 0 /\ (∀ k, F k -> w.heap.size <= k) /\ Below w.heap.size w w'
theorem listed_any {w : World} {v : Value} {zs : List Int} (h : Sl w v zs) (hn : zs.length <= 100000) : Calls Tryd.prog 26 #[v] w (ListP w zs) := by
 have CL := Za (cloneS h hn)
 obtain ⟨a, n, c, rfl, en⟩ := h.slice
 have hmf : ∀ (fn : Fn) (first cap : Array Value) (w : World), (Instr.makeFunc fn first cap).run Tryd.prog w = .ok (.func fn first cap) w := fun _ _ _ _ => rfl
 have HN := Za hn
 clear h en hn
 go_enter Tryd.func26, Tryd.ntmps26
 go_wp2_with fail
 refine CL.out.mono ?_
 rintro e w1 ⟨v1, rfl, ⟨a1, c1, rfl⟩, o1, hb1⟩
 have O1 := Za (And.intro o1 hb1)
 clear CL o1 hb1
 obtain ⟨m, hm⟩ : ∃ m, zs.length = m := ⟨_, rfl⟩
 rw [hm] at O1 HN ⊢
 have HM := Za hm
 clear hm
 go_wp2_with fail
 have e1 := B_ w1 (.cells #[.slice a1 m c1] 22)
 have e2 := B_ (w1.alloc (.cells #[.slice a1 m c1] 22)) (.cells #[.int .i64 0] 3)
 have hs : (w1.alloc (.cells #[.slice a1 m c1] 22)).heap.size = w1.heap.size + 1 := by simp
 rw [hs] at e2
 have b2 := Zu (Zd w1 (.cells #[.slice a1 m c1] 22)) (.cells #[.int .i64 0] 3)
 go_ret
 have ok : ∀ k, (Value.slice a1 m c1).ownBlock = some k -> w.heap.size <= k /\ k < w1.heap.size := fun k hk => ⟨(Zf O1.out.1 hk).1, (Zf O1.out.1 hk).2.1⟩
 have hm := HM.out
 subst hm
 refine ⟨_, fun k => k = w1.heap.size ∨ k = w1.heap.size + 1 ∨ (Value.slice a1 zs.length c1).ownBlock = some k, rfl, ⟨w1.heap.size, w1.heap.size + 1, .slice a1 zs.length c1, { is := rfl, own := ((Zd _ _).block _ (Ze e1)).trans e1, nxt := e2, row := Zk (own_zero O1.out.1) (fun k hk => b2.block k (ok k hk).2), ne := fun e => by have := ok _ e; omega, fo := .inl rfl, fn := .inr (.inl rfl), fr := fun k hk => .inr (.inr hk), fb := fun k hk => ?_, sm := HN.out, nl := by omega }⟩, fun k hk => ?_, Zi O1.out.2 b2⟩
 · have h2 := Ze e2
   rcases hk with h1 | h1 | h1
   · omega
   · omega
   · have := ok k h1
     omega
 · have := O1.out.2.size
   rcases hk with h1 | h1 | h1
   · omega
   · omega
   · exact (ok k h1).1
theorem mod_nat (n m : Nat) : ((n : Int) + 1).tmod (m : Int) = (((n + 1) % m : Nat) : Int) := by
 have e : ((n : Int) + 1) = ((n + 1 : Nat) : Int) := by omega
 rw [e, Int.tmod_eq_emod_of_nonneg (by omega)]
 rfl
theorem Pk.turn {w : World} {F : Nat -> Prop} {v : Value} {l : List Int} {n ob nb : Nat} {vS : Value} (h : Pk w F v l n ob nb vS) (m : Nat) (hm : m < l.length) : Pk (w.setCell ⟨nb, 0, none⟩ (.int .i64 (m : Nat))) F v l m ob nb vS /\ Ch F F w (w.setCell ⟨nb, 0, none⟩ (.int .i64 (m : Nat))) := by
 have hne : ∀ k, k ≠ nb -> (w.setCell ⟨nb, 0, none⟩ (.int .i64 (m : Nat))).heap[k]? = w.heap[k]? := fun k hk => Below.heap_setCell _ _ _ _ hk
 exact ⟨{ h with own := (hne ob (Zn h.own h.nxt (by decide))).trans h.own, nxt := heap_setCell_same _ _ _ _ _ _ h.nxt, row := Zk h.row fun k hk => hne k (fun e => h.ne (e ▸ hk)), fb := fun k hk => by rw [Zg]; exact h.fb k hk, nl := .inl hm }, ZR h.fn _⟩
def PickP (w : World) (F : Nat -> Prop) (v : Value) (l : List Int) (n : Nat) (e : Ending) (w' : World) : Prop := e = .returned (.int .i64 (pickR l n).1) /\ Pks w' F v l (pickR l n).2 /\ Ch F F w w'
theorem pick_any {w : World} {F : Nat -> Prop} {ob nb : Nat} {l : List Int} {n : Nat} (h : Pks w F (.func (.func 73) #[] #[.pointer (some ⟨ob, 0, none⟩), .pointer (some ⟨nb, 0, none⟩)]) l n) (k : Int) :
 Calls Tryd.prog 73 #[.int .i64 k, .pointer (some ⟨ob, 0, none⟩), .pointer (some ⟨nb, 0, none⟩)] w (PickP w F (.func (.func 73) #[] #[.pointer (some ⟨ob, 0, none⟩), .pointer (some ⟨nb, 0, none⟩)]) l n) := by
 obtain ⟨ob', nb', vS, h⟩ := h
 obtain ⟨rfl, rfl⟩ : ob' = ob /\ nb' = nb := by
  have := h.is
  injection this with _ _ h3
  simp at h3
  exact ⟨h3.1.symm, h3.2.symm⟩
 obtain ⟨a, c, rfl, _⟩ := Zo h.row
 have c0 : w.cell? ⟨ob', 0, none⟩ = some (.slice a l.length c) := Zb h.own 0 _ rfl
 have c1 : w.cell? ⟨nb', 0, none⟩ = some (.int .i64 (n : Nat)) := Zb h.nxt 0 _ rfl
 have f1 := Zc h.nxt 0
 have hol := Ze h.own
 have hnl := Ze h.nxt
 by_cases h0 : l.length = 0
 · have hl : l = [] := List.length_eq_zero_iff.1 h0
   have hp : Hid (pickR l n = (0, n)) := Za (by subst hl; rfl)
   rw [h0] at c0
   have H := Za h
   clear h h0 hl
   go_enter Tryd.func73, Tryd.ntmps73
   go_wp2_with fail
   go_ret
   exact ⟨by rw [hp.out]; rfl, by rw [hp.out]; exact ⟨_, _, _, H.out⟩, Ch.refl _ _⟩
 · have hn : n < l.length := by
    rcases h.nl with h1 | h1
    · exact h1
    · exact absurd h1 h0
   obtain ⟨b, c', e, _⟩ := Zv h.row (by omega)
   cases e
   obtain ⟨x, hx⟩ : ∃ x, l[n]? = some x := ⟨_, List.getElem?_eq_getElem hn⟩
   have hp : Hid (pickR l n = (x, (n + 1) % l.length)) := Za (by unfold pickR; rw [hx])
   have d1 := (Zm h.row n _ (nts_at hx)).1
   have hbl := (Zf h.row (k := b) rfl).2.1
   have hsm := h.sm
   obtain ⟨m, hm⟩ : ∃ m, l.length = m := ⟨_, rfl⟩
   have T := Za (h.turn ((n + 1) % l.length) (Nat.mod_lt _ (by omega)))
   have hmd := mod_nat n m
   have hml : (n + 1) % m < m := Nat.mod_lt _ (by omega)
   rw [hm] at c0 hn hsm hp T
   have hmb : ((m : Int) == 0) = false := by simp; omega
   obtain ⟨q, hq⟩ : ∃ q, (n + 1) % m = q := ⟨_, rfl⟩
   rw [hq] at T hmd hp hml
   clear h h0 hx hm hq
   go_enter Tryd.func73, Tryd.ntmps73
   go_wp2_with fail
   go_ret
   exact ⟨by rw [hp.out]; rfl, by rw [hp.out]; exact ⟨_, _, _, T.out.1⟩, T.out.2⟩
end Go.Proofs.YtghfjnnmpmfboaaDoor.Ck
