/- Texts of this proof, packed: contracts of the program's functions, and the plain model that they are held against. -/
import Derived.Test.YtogeblmppagabaaGreatDoorQao
import Derived.Test.YtogeblmppagabaaGreatDoorQat
/- Rows of operators: one rule. -/
namespace Go.Proofs.YtogeblmppagabaaGreatDoor.Ck
open Go.RowKit

set_option maxRecDepth 20000 in
set_option maxHeartbeats 1000000 in
theorem row_treeparserprod {w : World} {p : List Addr} {g gT : Nat} {L : List Tk} {i l : Nat} (h : Ps w p g gT L i l) (hE : Ends L) (b c : Nat) (zs : List ByteArray) (hbg : b ≠ g) (hz : ∀ z ∈ zs, z.size ≠ 0) (hn : zs.length ≤ 100) (hc : ∀ j, j < zs.length → w.cell? ⟨b, j, none⟩ = some (.string (zs.getD j ByteArray.empty)))
    (rule : Nat → Out) (f : Nat) (hf : L.length - i ≤ f) (hge : ∀ j m j', rule j = .ok m j' → j ≤ j') (hr : ∀ j, i ≤ j → Rule 150 p g gT L l j (rule j)) :
    Calls Tryz.prog 53 #[.pointer (some ⟨g, 0, none⟩), .func (.func 150) #[.pointer (some ⟨g, 0, none⟩)] #[], .slice (some ⟨b, 0, none⟩) zs.length c] w fun e w' => PostN p g gT L l w e w' (rowO rule zs L f i) := by
  have hgl := h.lt_g
  have hT := h.row.lt
  have hb0 := hide (bel_new w nodZ)
  have hz0 : Hid (Nod (w.alloc nodZ) w.heap.size (.int .i64 0) (.int .i64 0) (.string ⟨#[]⟩) (.int .i64 0) (.int .i64 0) (.int .i64 0) (.int .i64 0) (.int .u64 0) (.slice none 0 0)) := Go.Deep.blk_alloc_new _ _
  have H0 := hide (h.below hb0.out)
  have HR := hide hr
  have HC := hide hc
  have HE := hide hE
  have HZ := hide hz
  have HG := hide hge
  generalize hw : rowO rule zs L f i = out
  unfold rowO at hw
  generalize hq : rule i = q at hw
  have HQ := hide hq
  have HW := hide hw
  have hR0 := HR.out i (Nat.le_refl _)
  rw [hq] at hR0
  have HR0 := hide hR0
  have hf := hide hf
  clear h hr hc hE hz hge hw hq hR0
  unfold nodZ at *
  obtain ⟨nz0, hnz⟩ : ∃ nz0, zs.length = nz0 := ⟨_, rfl⟩
  rw [hnz]
  have HN := hide hnz
  rw [hnz] at hn
  clear hnz
  go_enter Tryz.func53, Tryz.ntmps53
  go_wp2_with fail
  generalize w.alloc (.cells #[.int .i64 0, .int .i64 0, .string ⟨#[]⟩, .int .i64 0, .int .i64 0, .int .i64 0, .int .i64 0, .int .u64 0, .slice none 0 0] 27) = w0 at *
  cases q with
  | bad k j =>
    have hw := HW.out
    subst hw
    refine (HR0.out _ H0.out).mono ?_
    rintro e w1 ⟨rfl, r2⟩
    exact ⟨rfl, rfl, (Tn.of_bel hb0.out).trans r2⟩
  | ok n j0 =>
    refine (HR0.out _ H0.out).mono ?_
    rintro e w1 ⟨v, rfl, hv, r1, r2⟩
    obtain ⟨kd, ps, nm, t, nz, z, o, bi, ks⟩ := n
    unfold NodeV at hv
    obtain ⟨s, rfl, hk⟩ := hv
    obtain ⟨a, len, ck, rfl⟩ := hk.shape
    have hw0 : w.heap.size < w0.heap.size := lt_of_blk hz0.out
    have hw1 : w0.heap.size ≤ w1.heap.size := r2.size
    have hb2 := bel_new w1 (.cells #[.int .i64 kd, .int .i64 ps, .string nm, .int .i64 t, .int .i64 nz, .int .i64 z, .int .i64 o, .int .u64 bi, .slice a len ck] 27)
    have I0 : Hid (Rr w (w1.alloc (.cells #[.int .i64 kd, .int .i64 ps, .string nm, .int .i64 t, .int .i64 nz, .int .i64 z, .int .i64 o, .int .u64 bi, .slice a len ck] 27)) p g gT L l j0 w1.heap.size kd ps nm t nz z o bi ks a len ck) :=
      ⟨r1.below hb2, ((Tn.of_bel hb0.out).trans r2).trans (Tn.of_bel hb2), (hz0.out.tn r2 (by omega)).bel hb2, Go.Deep.blk_alloc_new _ _, KidsV.keep (S := fun k => Fr w0.heap.size k ∧ k < w1.heap.size) (fun k hk => ⟨Nat.le_trans hw0 hk.1, Nat.ne_of_lt hk.2⟩) (fun k _ h2 => hb2.block k h2) _ _ (hk.within)⟩
    clear hk r1 r2 hb2 hb0 hz0 H0 HR0
    go_wp2_with fail
    generalize w1.alloc (.cells #[.int .i64 kd, .int .i64 ps, .string nm, .int .i64 t, .int .i64 nz, .int .i64 z, .int .i64 o, .int .u64 bi, .slice a len ck] 27) = w2 at *
    generalize w1.heap.size = b1 at *
    have hj0 := HG.out i _ j0 HQ.out
    have S0 : Hid (∃ f', L.length - j0 ≤ f' ∧ rowF rule zs L f' j0 (.mk kd ps nm t nz z o bi ks) = out) := ⟨f, Nat.le_trans (by omega) hf.out, HW.out⟩
    have hb1 : Hid (w.heap.size < b1) := by show _ < _; omega
    clear HW HQ hf hw0 hw1
    go_loopw [] (fun wr => ∃ (j : Nat) (kd ps : Int) (nm : ByteArray) (t nz z o bi : Int) (ks : List Nd) (a : Option Addr) (len ck : Nat), i ≤ j ∧ Hid (Rr w wr p g gT L l j b1 kd ps nm t nz z o bi ks a len ck ∧ ∃ f', L.length - j ≤ f' ∧ rowF rule zs L f' j (.mk kd ps nm t nz z o bi ks) = out)) (fun wr => L.length - nextAt wr g)
    case atStart => exact ⟨j0, kd, ps, nm, t, nz, z, o, bi, ks, a, len, ck, hj0, I0.out, S0.out⟩
    case round =>
      clear I0 S0 hj0
      obtain ⟨j, kd, ps, nm, t, nz, z, o, bi, ks, a, len, ck, hij, I⟩ := hrel
      have hB1 := hb1.out
      go_wp2_with fail
      refine (sees_any I.out.1.pr b nz0 c zs HN.out hn (fun q hq => I.out.1.tn.cell hbg (HC.out q hq))).mono ?_
      rintro e w3 ⟨rfl, hb3⟩
      have H3 := hide (I.out.1.pr.below hb3)
      have T3 := hide (I.out.1.tn.trans (Tn.of_bel hb3))
      have Z3 := hide (I.out.1.zr.bel hb3)
      have X3 := hide (I.out.1.vr.bel hb3)
      have K3 := hide (I.out.1.kv.bel hb3)
      have F3 := hide I.out.2
      have N3 := hide I.out.1.pr.next
      clear hb3 I
      by_cases hs : has L j zs = true
      · rw [show Lib.containsS zs (tkAt L j).text = true from hs]
        have hj1 := has_next HE.out H3.out.lt HZ.out hs
        obtain ⟨f', hf1, hf2⟩ := F3.out
        have hlt := H3.out.lt
        obtain ⟨f2, rfl⟩ : ∃ f2, f' = f2 + 1 := ⟨f' - 1, by omega⟩
        unfold rowF at hf2
        rw [if_pos hs] at hf2
        obtain ⟨q, hq⟩ : ∃ q, rule (j + 1) = q := ⟨_, rfl⟩
        rw [hq] at hf2
        have hb3 : b1 < w3.heap.size := lt_of_blk X3.out
        have hw3 := T3.out.size
        have HB := hide (binary_treeparserprod H3.out (Of (w.heap.size + 1) b1) (fun k hk => ⟨by omega, by omega⟩) (fun h => by have := h.1; omega) (.mk kd ps nm t nz z o bi ks) _ (by unfold NodeV; exact ⟨_, rfl, K3.out⟩) hj1 q (by rw [← hq]; exact HR.out (j + 1) (by omega)))
        have HF := hide (And.intro hf1 hf2)
        have HQ := hide hq
        obtain ⟨_, d0, d1, d2, d3, d4, d5, d6, d7, d8⟩ := X3.out.all
        clear hs hf1 hf2 hq F3 K3
        go_wp2_with fail
        cases q with
        | bad k j' =>
          have hw := HF.out.2
          subst hw
          refine HB.out.mono ?_
          rintro e w4 ⟨rfl, r2⟩
          exact ⟨rfl, rfl, T3.out.trans r2⟩
        | ok m j' =>
          refine HB.out.mono ?_
          rintro e w4 ⟨v, rfl, hv, r1, r2⟩
          unfold binN nd NodeV at hv
          obtain ⟨s, rfl, hk⟩ := hv
          obtain ⟨a', len', ck', rfl⟩ := hk.shape
          unfold Nd.pos
          have hw4 := r2.size
          have x4 := X3.out.tn r2 (by omega)
          have Z4 := hide (Z3.out.tn r2 (by omega))
          have T4 := hide (T3.out.trans r2)
          obtain ⟨⟨p0, p1, p2, p3, p4, p5, p6, p7, p8⟩, q0, q1, q2, q3, q4, q5, q6, q7, q8⟩ := x4.all
          obtain ⟨x5, s5⟩ := set9 x4 (.int .i64 31) (.int .i64 ps) (.string (tx L j)) (.int .i64 0) (.int .i64 0) (.int .i64 0) (.int .i64 0) (.int .u64 0) (.slice a' len' ck')
          have J5 : Hid (Rr w _ p g gT L l j' b1 31 ps (tx L j) 0 0 0 0 0 [.mk kd ps nm t nz z o bi ks, m] a' len' ck') :=
            ⟨r1.tn s5 (by have := r1.big; omega) (by omega) (by have := r1.row.lt; omega), T4.out.own s5 (by omega), Z4.out.tn s5 (by omega), x5, hk.tnS s5 (fun h => h.2 rfl)⟩
          have hjj := HG.out _ _ _ HQ.out
          clear d0 d1 d2 d3 d4 d5 d6 d7 d8 x4 x5 s5 r1 r2 hk HB Z4 T4 H3 T3 Z3 X3
          go_wp2_with fail
          go_roundw
          case rel => exact ⟨j', 31, ps, tx L j, 0, 0, 0, 0, 0, _, a', len', ck', by omega, J5.out, f2, by have := HF.out.1; omega, HF.out.2⟩
          case measure =>
            rw [J5.out.pr.next, N3.out]
            omega
      · have hs : has L j zs = false := by simpa using hs
        rw [show Lib.containsS zs (tkAt L j).text = false from hs]
        obtain ⟨f', hf1, hf2⟩ := F3.out
        have hlt := H3.out.lt
        obtain ⟨f2, rfl⟩ : ∃ f2, f' = f2 + 1 := ⟨f' - 1, by omega⟩
        unfold rowF at hf2
        rw [hs, if_neg (by decide)] at hf2
        subst hf2
        obtain ⟨_, d0, d1, d2, d3, d4, d5, d6, d7, d8⟩ := X3.out.all
        obtain ⟨⟨p0, p1, p2, p3, p4, p5, p6, p7, p8⟩, q0, q1, q2, q3, q4, q5, q6, q7, q8⟩ := Z3.out.all
        obtain ⟨z9, s9⟩ := set9 Z3.out (.int .i64 kd) (.int .i64 ps) (.string nm) (.int .i64 t) (.int .i64 nz) (.int .i64 z) (.int .i64 o) (.int .u64 bi) (.slice a len ck)
        have Z9 := hide z9
        have S9 := hide s9
        clear z9 s9 Z3 X3 hs hf1 F3
        go_wp2_with fail
        refine ret_nod w.heap.size rfl rfl Z9.out rfl ?_
        refine ⟨_, rfl, ?_, H3.out.tn S9.out (by have := H3.out.big; omega) (by omega) (by omega), T3.out.own S9.out (Nat.le_refl _)⟩
        unfold NodeV
        exact ⟨_, rfl, (K3.out.tnS S9.out (fun h => by have := h.1; omega)).lowS (fun k hk => Nat.le_trans (Nat.le_succ _) hk.1)⟩

end Go.Proofs.YtogeblmppagabaaGreatDoor.Ck

/- A rule that is a row. -/
namespace Go.Proofs.YtogeblmppagabaaGreatDoor.Ck
open Go.RowKit

def sumT : List ByteArray := [⟨#[43]⟩, ⟨#[45]⟩]

set_option maxRecDepth 20000 in
set_option maxHeartbeats 1000000 in
theorem sum_row {w : World} {p : List Addr} {g gT : Nat} {L : List Tk} {i l : Nat} (h : Ps w p g gT L i l) (hE : Ends L) (rule : Nat → Out) (f : Nat) (hf : L.length - i ≤ f) (hge : ∀ j m j', rule j = .ok m j' → j ≤ j') (hr : ∀ j, i ≤ j → Rule 150 p g gT L l j (rule j)) :
    Calls Tryz.prog 117 #[.pointer (some ⟨g, 0, none⟩)] w fun e w' => PostN p g gT L l w e w' (rowO rule sumT L f i) := by
  have hgl := h.lt_g
  have hT := h.row.lt
  have hb0 := hide (bel_new w nodZ)
  have hz0 : Hid (Nod (w.alloc nodZ) w.heap.size (.int .i64 0) (.int .i64 0) (.string ⟨#[]⟩) (.int .i64 0) (.int .i64 0) (.int .i64 0) (.int .i64 0) (.int .u64 0) (.slice none 0 0)) := Go.Deep.blk_alloc_new _ _
  have H0 := hide (h.below hb0.out)
  have HR : Hid (∀ w0, Ps w0 p g gT L i l → Calls Tryz.prog 53 #[.pointer (some ⟨g, 0, none⟩), .func (.func 150) #[.pointer (some ⟨g, 0, none⟩)] #[], .slice (some ⟨w0.heap.size, 0, none⟩) 2 2] (w0.alloc (.cells #[.string ⟨#[43]⟩, .string ⟨#[45]⟩] 9)) fun e w' => PostN p g gT L l (w0.alloc (.cells #[.string ⟨#[43]⟩, .string ⟨#[45]⟩] 9)) e w' (rowO rule sumT L f i)) := fun w0 h0 =>
    row_treeparserprod (h0.below (bel_new w0 _)) hE w0.heap.size 2 sumT (Nat.ne_of_gt h0.lt_g) (by decide) (by decide) (fun j hj => by
      refine blk_cell (Go.Deep.blk_alloc_new w0 _) j _ ?_
      have hj : j < 2 := hj
      have : j = 0 ∨ j = 1 := by omega
      rcases this with rfl | rfl <;> rfl) rule f hf hge hr
  generalize rowO rule sumT L f i = r at *
  clear h hr hE hge
  unfold nodZ at *
  go_enter Tryz.func117, Tryz.ntmps117
  go_wp2_with fail
  generalize hg0 : w.alloc (.cells #[.int .i64 0, .int .i64 0, .string ⟨#[]⟩, .int .i64 0, .int .i64 0, .int .i64 0, .int .i64 0, .int .u64 0, .slice none 0 0] 27) = w0 at *
  have e0 : w0.heap.size = w.heap.size + 1 := by rw [← hg0]; simp
  clear hg0
  rw [← e0]
  have hb1 := hide (bel_new w0 (.cells #[.string ⟨#[43]⟩, .string ⟨#[45]⟩] 9))
  cases r with
  | bad k j =>
    refine (HR.out _ H0.out).mono ?_
    rintro e w2 ⟨rfl, r2⟩
    exact ⟨rfl, rfl, (Tn.of_bel (bel_trans hb0.out hb1.out)).trans r2⟩
  | ok n j =>
    refine (HR.out _ H0.out).mono ?_
    rintro e w2 ⟨v, rfl, hv, r1, r2⟩
    obtain ⟨kd, ps, nm, t, nz, z, o, bi, ks⟩ := n
    unfold NodeV at hv
    obtain ⟨s, rfl, hk⟩ := hv
    obtain ⟨a, len, ck, rfl⟩ := hk.shape
    have hw1 := Nat.lt_of_lt_of_le (lt_of_blk hz0.out) hb1.out.size
    have H2 := hide r1
    have T2 := hide ((Tn.of_bel (bel_trans hb0.out hb1.out)).trans r2)
    have Z2 := hide ((hz0.out.bel hb1.out).tn r2 (by omega))
    have K2 := hide hk
    have hw2 := hide hw1
    obtain ⟨⟨f0, f1, f2, f3, f4, f5, f6, f7, f8⟩, b0, b1, b2, b3, b4, b5, b6, b7, b8⟩ := Z2.out.all
    obtain ⟨z9, s9⟩ := set9 Z2.out (.int .i64 kd) (.int .i64 ps) (.string nm) (.int .i64 t) (.int .i64 nz) (.int .i64 z) (.int .i64 o) (.int .u64 bi) (.slice a len ck)
    have Z9 := hide z9
    have S9 := hide s9
    clear z9 s9 Z2 r1 r2 hk HR H0 hb0 hb1 hz0 e0 hw1
    go_wp2_with fail
    refine ret_nod w.heap.size rfl rfl Z9.out rfl ?_
    refine ⟨_, rfl, ?_, H2.out.tn S9.out (by have := H2.out.big; omega) (by omega) (by omega), T2.out.own S9.out (Nat.le_refl _)⟩
    unfold NodeV
    exact ⟨_, rfl, (K2.out.tn S9.out hw2.out).low (Nat.le_of_lt hw2.out)⟩

end Go.Proofs.YtogeblmppagabaaGreatDoor.Ck
