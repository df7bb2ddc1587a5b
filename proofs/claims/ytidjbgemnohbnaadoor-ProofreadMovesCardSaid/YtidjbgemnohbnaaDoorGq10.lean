/- Texts of this proof, packed. -/
import Derived.Test.YtidjbgemnohbnaaDoorGq9
import Derived.Deep.LoopGhost
import Derived.Test.YtidjbgemnohbnaaDoorGq4
import Derived.Defers
import Derived.Recover
import Derived.Deep.CutRange
import Derived.Deep.RegionHeld3
/- Package proofread: step. (Written by mk_s.py.) -/
namespace Go.Proofs.YtidjbgemnohbnaaDoor.Ck
open Go.RowKit

set_option maxRecDepth 20000 in
set_option maxHeartbeats 4000000 in
theorem step_14 {wB w : World} {p : List Addr} {F : Nat → Prop} {g bM bS : Nat} {vP vC vF vB vLo vL : Value} {c : Cd} {f : Fn3} {hi : Int} {vs : List Value} {m : Rw16} (B : Bs wB p vP vC vF vB vLo c f) (h : Rs wB w F g bM bS vP vC vF vB vLo c f hi vL vs m) (hh : hi ≤ c.B.length) (n : Nat) (hn : n < c.B.length) (hi2 : insB c (c.B.getD n zI) = true) (hop : (c.B.getD n zI).op = 14) : Calls Tryd.prog 33 #[.pointer (some ⟨g, 0, none⟩), .int .i64 (n : Nat)] w (RsP p wB w F g bM bS vP vC vF vB vLo c f hi (stepM c f hi m n)) := by
  obtain ⟨o, ho⟩ : ∃ o, stepM c f hi m n = o := ⟨_, rfl⟩
  rw [ho]
  obtain ⟨v, s, _, hs, _, yS, sl, _, hl, hf⟩ := h.stk hn
  obtain ⟨x, hx⟩ : ∃ x, x = c.B.getD n zI := ⟨_, rfl⟩
  rw [← hx] at hop hi2
  have EM : Hid (o = (jumpM c f.st hi m n s).bind fun m' => (takeM [3] s).bind fun s' => comeM f.st hi m' (n + 1) s') := hide (by rw [← ho]; unfold stepM; simp only; rw [← hx, ← hs]; simp [hop])
  have CL := hide (clone_stk sl (by omega))
  obtain ⟨a0, c0, rfl, _⟩ := sl.form
  obtain ⟨aB, cB, eB, _⟩ := B.ins h.bel
  subst eB
  obtain ⟨N, hN⟩ : ∃ N, N = c.B.length := ⟨_, rfl⟩
  have y12 : w.cell? ⟨g, 12, none⟩ = some (.slice (some ⟨bS, 0, none⟩) N N) := by rw [hN]; exact blk_cell h.at_ 12 _ rfl
  have hn0 : n < N := by omega
  have hn1 : (n : Int) < (N : Int) := by omega
  obtain ⟨ns, hns⟩ : ∃ q, q = s.length := ⟨_, rfl⟩
  rw [← hns] at CL yS
  have HH := hide h
  have HB := hide B
  have HHH := hide hh
  have HX := hide (And.intro hn (And.intro hN (And.intro hns (And.intro hl hx))))
  have HF := hide hf
  have HI := hide hi2
  have hop2 := hop
  clear h B hh hn hi2 hs sl hl hf ho hN hns hx
  go_enter Tryd.func33, Tryd.ntmps33
  go_wp2_with fail
  refine CL.out.mono ?_
  rintro e w5 ⟨v', rfl, ⟨a5, c5, rfl⟩, o5, b5⟩
  have BN := bel_new w5 (.cells #[.slice a5 ns c5] 51)
  have B6 := bel_trans b5 BN
  have H6 := HH.out.keep B6
  have K6 : Sk (w5.alloc (.cells #[.slice a5 ns c5] 51)) w5.heap.size w.heap.size (.slice a5 ns c5) s := ⟨Go.Deep.blk_alloc_new _ _, own_keep (by rw [← HX.out.2.2.1]; exact o5) (fun k hk => BN.block k (own_type o5 hk).2.1), b5.size, by have := HX.out.2.2.2.1; omega⟩
  obtain ⟨aB2, cB2, eB2, hI⟩ := HB.out.ins H6.bel
  cases eB2
  obtain ⟨b1, o1, e1, _, z0, z1, z2, z3, z4⟩ := hI n HX.out.1
  subst e1
  rw [← HX.out.2.2.2.2] at z0 z1 z2 z3 z4
  rw [hop] at z0
  have y6 : (w5.alloc (.cells #[.slice a5 ns c5] 51)).cell? ⟨g, 6, none⟩ = some (.slice (some ⟨b1, o1, none⟩) N cB) := by rw [HX.out.2.1]; exact blk_cell H6.at_ 6 _ rfl
  have BN7 := bel_new (w5.alloc (.cells #[.slice a5 ns c5] 51)) (.cells #[.int .i64 14, .int .i64 x.a, .int .i64 x.b, .int .u64 x.bits, .int .i64 x.at_] 44)
  have B7 := hide (bel_trans B6 BN7)
  have H7 := hide (H6.keep BN7)
  have K7 := hide (K6.bel BN7)
  have hz7 : ((w5.alloc (.cells #[.slice a5 ns c5] 51)).alloc (.cells #[.int .i64 14, .int .i64 x.a, .int .i64 x.b, .int .u64 x.bits, .int .i64 x.at_] 44)).heap.size = w5.heap.size + 1 + 1 := by simp
  have SZ7 := hide hz7
  clear hz7
  have V7 := hide (Go.Deep.blk_alloc_new (w5.alloc (.cells #[.slice a5 ns c5] 51)) (.cells #[.int .i64 14, .int .i64 x.a, .int .i64 x.b, .int .u64 x.bits, .int .i64 x.at_] 44))
  have hs6 : (w5.alloc (.cells #[.slice a5 ns c5] 51)).heap.size = w5.heap.size + 1 := by simp
  rw [hs6] at V7
  have NF := hide (show ¬ F w5.heap.size from fun e => by have h1 := HH.out.fb _ e; have h2 := b5.size; omega)
  have LW := hide (show wB.heap.size ≤ w.heap.size from HH.out.size)
  have CF := hide (Ch.of_bel (F := F) B7.out)
  have NR : Hid (∀ k, w.heap.size ≤ k → ¬ F k) := hide (fun k hk e => absurd (HH.out.fb k e) (by omega))
  clear b5 o5 BN BN7 B6 H6 K6 hI hs6 CL yS y12
  go_wp2_with fail
  generalize (w5.alloc (.cells #[.slice a5 ns c5] 51)).alloc (.cells #[.int .i64 14, .int .i64 x.a, .int .i64 x.b, .int .u64 x.bits, .int .i64 x.at_] 44) = w7 at *
  generalize w5.heap.size = b at *
  clear z0 z1 z2 z3 z4 y6
  obtain ⟨kt, hkt, hkl⟩ := in_of ((insB_at (by rw [← hop2]; exact HI.out)).2.2.2.2.2.2.1 (.inr rfl) : inN x.a c.B.length = true)
  have HT := hide (And.intro hkt hkl)
  clear hkt hkl
  have JU := hide (jump_any HB.out H7.out HHH.out n kt HX.out.1 HT.out.2 (by rw [← HX.out.2.2.2.2]; exact HT.out.1) (K7.out.sl HF.out) (by have := K7.out.n; omega))
  have O7 : Hid (∀ k, (Value.slice a5 ns c5).ownBlock = some k → w.heap.size ≤ k) := hide (fun k hk => (own_type K7.out.row hk).1)
  have LB := hide (lt_of_blk K7.out.at_)
  refine JU.out.mono ?_
  intro e w8 hp
  rcases hp.both with ⟨m8, F8, vL8, vs8, ho8, rfl, r8, c8⟩ | ⟨ho8, rfl, c8⟩
  rotate_left 1
  · exact ⟨rfl, RsP.no (by rw [EM.out, ho8]; rfl) (CF.out.trans c8)⟩
  have K8 := hide (K7.out.ch c8 NF.out (fun k hk => NR.out k (O7.out k hk)))
  have R8 := hide r8
  have C8 := hide (CF.out.trans c8)
  have NF8 := hide (c8.keepB NF.out LB.out).2.1
  have LS := hide (Nat.le_trans B7.out.size c8.size)
  have EM2 : Hid (o = (takeM [3] s).bind fun s' => comeM f.st hi m8 (n + 1) s') := hide (by rw [EM.out, ho8]; rfl)
  clear hp ho8 r8 c8 JU H7 K7 B7 CF O7 LB EM HH V7 SZ7
  go_wp2_with fail
  have BA := hide (bel_new w8 (.cells #[.int .i64 3] 3))
  have TK := hide (take_any ((R8.out.keep BA.out).er HB.out) (K8.out.bel BA.out) (sl_one1 (Go.Deep.blk_alloc_new w8 (.cells #[.int .i64 3] 3)) (fits_k (by decide) (by decide))) (by simp))
  refine TK.out.mono ?_
  intro e w9 hp
  rcases hp.both with ⟨s9, v9, hs9, rfl, k9, t9⟩ | ⟨hs9, rfl, t9⟩
  rotate_left 1
  · exact ⟨rfl, RsP.no (by rw [EM2.out, hs9]; rfl) (C8.out.below ((BA.out.mono LS.out).trans (t9.bel K8.out.hb (Nat.le_trans LS.out BA.out.size))))⟩
  have R9 := hide ((R8.out.keep BA.out).tn t9 NF8.out (K8.out.bel BA.out).at_ (Nat.le_trans LW.out K8.out.hb))
  have K9 := hide k9
  have C9 := hide (C8.out.below ((BA.out.mono LS.out).trans (t9.bel K8.out.hb (Nat.le_trans LS.out BA.out.size))))
  have F9 := hide (takeM_fits hs9 HF.out)
  have EM3 : Hid (o = comeM f.st hi m8 (n + 1) s9) := hide (by rw [EM2.out, hs9]; rfl)
  have xb := blk_cell K9.out.at_ 0 _ rfl
  have hw9 : wrap64 ((n : Int) + 1) = ((n : Int) + 1) := by unfold wrap64; have := HB.out.n; have := HX.out.1; omega
  have CO := hide (come_any HB.out R9.out HHH.out ((n : Int) + 1) (K9.out.sl F9.out) (by have := K9.out.n; omega))
  clear hp hs9 k9 t9 TK BA R8 K8 C8
  go_wp2_with fail
  refine CO.out.mono ?_
  intro e w10 hp
  have hq := hp.from C9.out
  rw [← EM3.out] at hq
  rcases hq.both with ⟨m', F', vL', vs', ho, rfl, r2, c2⟩ | ⟨ho, rfl, c2⟩
  · have Z := hide hq
    clear hp hq r2 c2 ho
    go_wp2_with fail
    go_end0
    exact Z.out
  · exact ⟨rfl, hq⟩
end Go.Proofs.YtidjbgemnohbnaaDoor.Ck

/- Package proofread: step. (Written by mk_s.py.) -/
namespace Go.Proofs.YtidjbgemnohbnaaDoor.Ck
open Go.RowKit

set_option maxRecDepth 20000 in
set_option maxHeartbeats 4000000 in
theorem step_26 {wB w : World} {p : List Addr} {F : Nat → Prop} {g bM bS : Nat} {vP vC vF vB vLo vL : Value} {c : Cd} {f : Fn3} {hi : Int} {vs : List Value} {m : Rw16} (B : Bs wB p vP vC vF vB vLo c f) (h : Rs wB w F g bM bS vP vC vF vB vLo c f hi vL vs m) (hh : hi ≤ c.B.length) (n : Nat) (hn : n < c.B.length) (hi2 : insB c (c.B.getD n zI) = true) (hop : (c.B.getD n zI).op = 26) : Calls Tryd.prog 33 #[.pointer (some ⟨g, 0, none⟩), .int .i64 (n : Nat)] w (RsP p wB w F g bM bS vP vC vF vB vLo c f hi (stepM c f hi m n)) := by
  obtain ⟨o, ho⟩ : ∃ o, stepM c f hi m n = o := ⟨_, rfl⟩
  rw [ho]
  obtain ⟨v, s, _, hs, _, yS, sl, _, hl, hf⟩ := h.stk hn
  obtain ⟨x, hx⟩ : ∃ x, x = c.B.getD n zI := ⟨_, rfl⟩
  rw [← hx] at hop hi2
  have EM : Hid (o = (takeM [1] s).map fun _ => m) := hide (by rw [← ho]; unfold stepM; simp only; rw [← hx, ← hs]; simp [hop])
  have CL := hide (clone_stk sl (by omega))
  obtain ⟨a0, c0, rfl, _⟩ := sl.form
  obtain ⟨aB, cB, eB, _⟩ := B.ins h.bel
  subst eB
  obtain ⟨N, hN⟩ : ∃ N, N = c.B.length := ⟨_, rfl⟩
  have y12 : w.cell? ⟨g, 12, none⟩ = some (.slice (some ⟨bS, 0, none⟩) N N) := by rw [hN]; exact blk_cell h.at_ 12 _ rfl
  have hn0 : n < N := by omega
  have hn1 : (n : Int) < (N : Int) := by omega
  obtain ⟨ns, hns⟩ : ∃ q, q = s.length := ⟨_, rfl⟩
  rw [← hns] at CL yS
  have HH := hide h
  have HB := hide B
  have HHH := hide hh
  have HX := hide (And.intro hn (And.intro hN (And.intro hns (And.intro hl hx))))
  have HF := hide hf
  have HI := hide hi2
  have hop2 := hop
  clear h B hh hn hi2 hs sl hl hf ho hN hns hx
  go_enter Tryd.func33, Tryd.ntmps33
  go_wp2_with fail
  refine CL.out.mono ?_
  rintro e w5 ⟨v', rfl, ⟨a5, c5, rfl⟩, o5, b5⟩
  have BN := bel_new w5 (.cells #[.slice a5 ns c5] 51)
  have B6 := bel_trans b5 BN
  have H6 := HH.out.keep B6
  have K6 : Sk (w5.alloc (.cells #[.slice a5 ns c5] 51)) w5.heap.size w.heap.size (.slice a5 ns c5) s := ⟨Go.Deep.blk_alloc_new _ _, own_keep (by rw [← HX.out.2.2.1]; exact o5) (fun k hk => BN.block k (own_type o5 hk).2.1), b5.size, by have := HX.out.2.2.2.1; omega⟩
  obtain ⟨aB2, cB2, eB2, hI⟩ := HB.out.ins H6.bel
  cases eB2
  obtain ⟨b1, o1, e1, _, z0, z1, z2, z3, z4⟩ := hI n HX.out.1
  subst e1
  rw [← HX.out.2.2.2.2] at z0 z1 z2 z3 z4
  rw [hop] at z0
  have y6 : (w5.alloc (.cells #[.slice a5 ns c5] 51)).cell? ⟨g, 6, none⟩ = some (.slice (some ⟨b1, o1, none⟩) N cB) := by rw [HX.out.2.1]; exact blk_cell H6.at_ 6 _ rfl
  have BN7 := bel_new (w5.alloc (.cells #[.slice a5 ns c5] 51)) (.cells #[.int .i64 26, .int .i64 x.a, .int .i64 x.b, .int .u64 x.bits, .int .i64 x.at_] 44)
  have B7 := hide (bel_trans B6 BN7)
  have H7 := hide (H6.keep BN7)
  have K7 := hide (K6.bel BN7)
  have hz7 : ((w5.alloc (.cells #[.slice a5 ns c5] 51)).alloc (.cells #[.int .i64 26, .int .i64 x.a, .int .i64 x.b, .int .u64 x.bits, .int .i64 x.at_] 44)).heap.size = w5.heap.size + 1 + 1 := by simp
  have SZ7 := hide hz7
  clear hz7
  have V7 := hide (Go.Deep.blk_alloc_new (w5.alloc (.cells #[.slice a5 ns c5] 51)) (.cells #[.int .i64 26, .int .i64 x.a, .int .i64 x.b, .int .u64 x.bits, .int .i64 x.at_] 44))
  have hs6 : (w5.alloc (.cells #[.slice a5 ns c5] 51)).heap.size = w5.heap.size + 1 := by simp
  rw [hs6] at V7
  have NF := hide (show ¬ F w5.heap.size from fun e => by have h1 := HH.out.fb _ e; have h2 := b5.size; omega)
  have LW := hide (show wB.heap.size ≤ w.heap.size from HH.out.size)
  have CF := hide (Ch.of_bel (F := F) B7.out)
  have NR : Hid (∀ k, w.heap.size ≤ k → ¬ F k) := hide (fun k hk e => absurd (HH.out.fb k e) (by omega))
  clear b5 o5 BN BN7 B6 H6 K6 hI hs6 CL yS y12
  go_wp2_with fail
  generalize (w5.alloc (.cells #[.slice a5 ns c5] 51)).alloc (.cells #[.int .i64 26, .int .i64 x.a, .int .i64 x.b, .int .u64 x.bits, .int .i64 x.at_] 44) = w7 at *
  generalize w5.heap.size = b at *
  clear z0 z1 z2 z3 z4 y6
  have BA := hide (bel_new w7 (.cells #[.int .i64 1] 3))
  have TK := hide (take_any (H7.out.keep BA.out |>.er HB.out) (K7.out.bel BA.out) (sl_one1 (Go.Deep.blk_alloc_new w7 (.cells #[.int .i64 1] 3)) (fits_k (by decide) (by decide))) (by simp))
  rw [SZ7.out] at TK
  refine TK.out.mono ?_
  intro e w8 hp
  rcases hp.both with ⟨s8, v8, hs8, rfl, k8, t8⟩ | ⟨hs8, rfl, t8⟩
  rotate_left 1
  · exact ⟨rfl, RsP.no (by rw [EM.out, hs8]; rfl) (CF.out.below ((BA.out.mono B7.out.size).trans (t8.bel K7.out.hb (Nat.le_trans B7.out.size BA.out.size))))⟩
  have R8 := hide ((H7.out.keep BA.out).tn t8 NF.out (K7.out.bel BA.out).at_ (Nat.le_trans LW.out K7.out.hb))
  have K8 := hide k8
  have B8 := hide (B7.out.trans ((BA.out.mono B7.out.size).trans (t8.bel K7.out.hb (Nat.le_trans B7.out.size BA.out.size))))
  have F8 := hide (takeM_fits hs8 HF.out)
  have L8 := hide (Nat.le_trans (takeM_len hs8) HX.out.2.2.2.1)
  have HS8 := hide hs8
  have EM2 : Hid (o = some m) := hide (by rw [EM.out, hs8]; rfl)
  clear hp hs8 k8 t8 TK BA H7 K7 B7
  go_wp2_with fail
  go_end0
  exact RsP.yes EM2.out R8.out (Ch.of_bel B8.out)
end Go.Proofs.YtidjbgemnohbnaaDoor.Ck

/- Package proofread: step. (Written by mk_s.py.) -/
namespace Go.Proofs.YtidjbgemnohbnaaDoor.Ck
open Go.RowKit

set_option maxRecDepth 20000 in
set_option maxHeartbeats 4000000 in
theorem step_d {wB w : World} {p : List Addr} {F : Nat → Prop} {g bM bS : Nat} {vP vC vF vB vLo vL : Value} {c : Cd} {f : Fn3} {hi : Int} {vs : List Value} {m : Rw16} (B : Bs wB p vP vC vF vB vLo c f) (h : Rs wB w F g bM bS vP vC vF vB vLo c f hi vL vs m) (hh : hi ≤ c.B.length) (n : Nat) (hn : n < c.B.length) (hi2 : insB c (c.B.getD n zI) = true) (hop : (c.B.getD n zI).op ≠ 12 ∧ (c.B.getD n zI).op ≠ 13 ∧ (c.B.getD n zI).op ≠ 14 ∧ (c.B.getD n zI).op ≠ 25 ∧ (c.B.getD n zI).op ≠ 26) : Calls Tryd.prog 33 #[.pointer (some ⟨g, 0, none⟩), .int .i64 (n : Nat)] w (RsP p wB w F g bM bS vP vC vF vB vLo c f hi (stepM c f hi m n)) := by
  obtain ⟨o, ho⟩ : ∃ o, stepM c f hi m n = o := ⟨_, rfl⟩
  rw [ho]
  obtain ⟨v, s, _, hs, _, yS, sl, _, hl, hf⟩ := h.stk hn
  obtain ⟨x, hx⟩ : ∃ x, x = c.B.getD n zI := ⟨_, rfl⟩
  rw [← hx] at hop hi2
  have EM : Hid (o = (changeM c f.lo x s).bind fun s' => comeM f.st hi m (n + 1) s') := hide (by rw [← ho]; unfold stepM; simp only; rw [← hx, ← hs]; simp [hop])
  have CL := hide (clone_stk sl (by omega))
  obtain ⟨a0, c0, rfl, _⟩ := sl.form
  obtain ⟨aB, cB, eB, _⟩ := B.ins h.bel
  subst eB
  obtain ⟨N, hN⟩ : ∃ N, N = c.B.length := ⟨_, rfl⟩
  have y12 : w.cell? ⟨g, 12, none⟩ = some (.slice (some ⟨bS, 0, none⟩) N N) := by rw [hN]; exact blk_cell h.at_ 12 _ rfl
  have hn0 : n < N := by omega
  have hn1 : (n : Int) < (N : Int) := by omega
  obtain ⟨ns, hns⟩ : ∃ q, q = s.length := ⟨_, rfl⟩
  rw [← hns] at CL yS
  have HH := hide h
  have HB := hide B
  have HHH := hide hh
  have HX := hide (And.intro hn (And.intro hN (And.intro hns (And.intro hl hx))))
  have HF := hide hf
  have HI := hide hi2
  have hop2 := hop
  obtain ⟨p12, p13, p14, p25, p26⟩ := hop
  have q12 : (x.op == 12) = false := by simp [p12]
  have q13 : (x.op == 13) = false := by simp [p13]
  have q14 : (x.op == 14) = false := by simp [p14]
  have q25 : (x.op == 25) = false := by simp [p25]
  have q26 : (x.op == 26) = false := by simp [p26]
  have HP := hide hop2
  clear p12 p13 p14 p25 p26 hop2
  clear h B hh hn hi2 hs sl hl hf ho hN hns hx
  go_enter Tryd.func33, Tryd.ntmps33
  go_wp2_with fail
  refine CL.out.mono ?_
  rintro e w5 ⟨v', rfl, ⟨a5, c5, rfl⟩, o5, b5⟩
  have BN := bel_new w5 (.cells #[.slice a5 ns c5] 51)
  have B6 := bel_trans b5 BN
  have H6 := HH.out.keep B6
  have K6 : Sk (w5.alloc (.cells #[.slice a5 ns c5] 51)) w5.heap.size w.heap.size (.slice a5 ns c5) s := ⟨Go.Deep.blk_alloc_new _ _, own_keep (by rw [← HX.out.2.2.1]; exact o5) (fun k hk => BN.block k (own_type o5 hk).2.1), b5.size, by have := HX.out.2.2.2.1; omega⟩
  obtain ⟨aB2, cB2, eB2, hI⟩ := HB.out.ins H6.bel
  cases eB2
  obtain ⟨b1, o1, e1, _, z0, z1, z2, z3, z4⟩ := hI n HX.out.1
  subst e1
  rw [← HX.out.2.2.2.2] at z0 z1 z2 z3 z4
  have y6 : (w5.alloc (.cells #[.slice a5 ns c5] 51)).cell? ⟨g, 6, none⟩ = some (.slice (some ⟨b1, o1, none⟩) N cB) := by rw [HX.out.2.1]; exact blk_cell H6.at_ 6 _ rfl
  have BN7 := bel_new (w5.alloc (.cells #[.slice a5 ns c5] 51)) (.cells #[.int .i64 x.op, .int .i64 x.a, .int .i64 x.b, .int .u64 x.bits, .int .i64 x.at_] 44)
  have B7 := hide (bel_trans B6 BN7)
  have H7 := hide (H6.keep BN7)
  have K7 := hide (K6.bel BN7)
  have hz7 : ((w5.alloc (.cells #[.slice a5 ns c5] 51)).alloc (.cells #[.int .i64 x.op, .int .i64 x.a, .int .i64 x.b, .int .u64 x.bits, .int .i64 x.at_] 44)).heap.size = w5.heap.size + 1 + 1 := by simp
  have SZ7 := hide hz7
  clear hz7
  have V7 := hide (Go.Deep.blk_alloc_new (w5.alloc (.cells #[.slice a5 ns c5] 51)) (.cells #[.int .i64 x.op, .int .i64 x.a, .int .i64 x.b, .int .u64 x.bits, .int .i64 x.at_] 44))
  have hs6 : (w5.alloc (.cells #[.slice a5 ns c5] 51)).heap.size = w5.heap.size + 1 := by simp
  rw [hs6] at V7
  have NF := hide (show ¬ F w5.heap.size from fun e => by have h1 := HH.out.fb _ e; have h2 := b5.size; omega)
  have LW := hide (show wB.heap.size ≤ w.heap.size from HH.out.size)
  have CF := hide (Ch.of_bel (F := F) B7.out)
  have NR : Hid (∀ k, w.heap.size ≤ k → ¬ F k) := hide (fun k hk e => absurd (HH.out.fb k e) (by omega))
  clear b5 o5 BN BN7 B6 H6 K6 hI hs6 CL yS y12
  go_wp2_with fail
  generalize (w5.alloc (.cells #[.slice a5 ns c5] 51)).alloc (.cells #[.int .i64 x.op, .int .i64 x.a, .int .i64 x.b, .int .u64 x.bits, .int .i64 x.at_] 44) = w7 at *
  generalize w5.heap.size = b at *
  clear z0 z1 z2 z3 z4 y6
  have CH := hide (show Calls Tryd.prog 45 #[.pointer (some ⟨g, 0, none⟩), .pointer (some ⟨b, 0, none⟩), .agg #[.int .i64 x.op, .int .i64 x.a, .int .i64 x.b, .int .u64 x.bits, .int .i64 x.at_]] w7 (GkP p w7 b w.heap.size (changeM c f.lo x s)) from change_any ⟨HH.out.er HB.out, HH.out.rd HB.out, B7.out, K7.out, by have := HX.out.2.2.2.1; omega⟩ HB.out.fm x HI.out HP.out)
  refine CH.out.mono ?_
  intro e w8 hp
  rcases hp.both with ⟨s8, v8, hs8, rfl, k8, b8⟩ | ⟨hs8, rfl, b8⟩
  rotate_left 1
  · exact ⟨rfl, RsP.no (by rw [EM.out, hs8]; rfl) (Ch.of_bel (F := F) (B7.out.trans b8))⟩
  have R9 := hide (HH.out.keep (B7.out.trans b8))
  have K9 := hide k8
  have C9 := hide (Ch.of_bel (F := F) (B7.out.trans b8))
  have F9 := hide (change_fits hs8 HB.out.cv.L HB.out.cv.P.fits HB.out.lo.fits HF.out)
  have EM3 : Hid (o = comeM f.st hi m (n + 1) s8) := hide (by rw [EM.out, hs8]; rfl)
  have xb := blk_cell K9.out.at_ 0 _ rfl
  have hw9 : wrap64 ((n : Int) + 1) = ((n : Int) + 1) := by unfold wrap64; have := HB.out.n; have := HX.out.1; omega
  have CO := hide (come_any HB.out R9.out HHH.out ((n : Int) + 1) (K9.out.sl F9.out.1) (by have := F9.out.2; have := HX.out.2.2.2.1; omega))
  clear hp hs8 k8 b8 CH H7 K7 B7 CF
  go_wp2_with fail
  refine CO.out.mono ?_
  intro e w10 hp
  have hq := hp.from C9.out
  rw [← EM3.out] at hq
  rcases hq.both with ⟨m', F', vL', vs', ho, rfl, r2, c2⟩ | ⟨ho, rfl, c2⟩
  · have Z := hide hq
    clear hp hq r2 c2 ho
    go_wp2_with fail
    go_end0
    exact Z.out
  · exact ⟨rfl, hq⟩
end Go.Proofs.YtidjbgemnohbnaaDoor.Ck

/- Package proofread: step, whichever instruction; how long a function's going can last. -/
namespace Go.Proofs.YtidjbgemnohbnaaDoor.Ck
open Go.RowKit

theorem step_any {wB w : World} {p : List Addr} {F : Nat → Prop} {g bM bS : Nat} {vP vC vF vB vLo vL : Value} {c : Cd} {f : Fn3} {hi : Int} {vs : List Value} {m : Rw16} (B : Bs wB p vP vC vF vB vLo c f) (h : Rs wB w F g bM bS vP vC vF vB vLo c f hi vL vs m) (hh : hi ≤ c.B.length) (n : Nat) (hn : n < c.B.length) (hi2 : ∀ x ∈ c.B, insB c x = true) : Calls Tryd.prog 33 #[.pointer (some ⟨g, 0, none⟩), .int .i64 (n : Nat)] w (RsP p wB w F g bM bS vP vC vF vB vLo c f hi (stepM c f hi m n)) := by
  have hx := hi2 _ (B.in_B hn)
  by_cases h12 : (c.B.getD n zI).op = 12
  · exact step_12 B h hh n hn hx h12
  by_cases h13 : (c.B.getD n zI).op = 13
  · exact step_13 B h hh n hn hx h13
  by_cases h14 : (c.B.getD n zI).op = 14
  · exact step_14 B h hh n hn hx h14
  by_cases h25 : (c.B.getD n zI).op = 25
  · exact step_25 B h hh n hn hx h25
  by_cases h26 : (c.B.getD n zI).op = 26
  · exact step_26 B h hh n hn hx h26
  exact step_d B h hh n hn hx ⟨h12, h13, h14, h25, h26⟩
/-- how much is still to be gone through -/
def muW (m : Rw16) : Nat := 2 * m.met.count false + m.left.length
theorem count_false : ∀ (l : List Bool) (n : Nat), l[n]? = some false → (l.set n true).count false + 1 = l.count false
  | [], n, h => by simp at h
  | x :: l, 0, h => by
    simp at h
    subst h
    simp
  | x :: l, n + 1, h => by
    have ih := count_false l n (by simpa using h)
    simp only [List.set_cons_succ, List.count_cons]
    omega
theorem comeM_mu {lo hi q : Int} {m m' : Rw16} {t : List Int} (h0 : 0 ≤ lo) (hh : hi ≤ m.met.length) (h : comeM lo hi m q t = some m') : muW m' ≤ muW m ∧ m'.met.length = m.met.length := by
  unfold comeM at h
  by_cases h1 : lo ≤ q ∧ q < hi
  · rw [if_pos h1] at h
    by_cases h2 : t.length ≤ 64
    · rw [if_pos h2] at h
      by_cases h3 : m.met.getD q.toNat false = true
      · rw [if_pos h3] at h
        by_cases h4 : m.st.getD q.toNat [] = t
        · rw [if_pos h4] at h
          cases h
          exact ⟨Nat.le_refl _, rfl⟩
        · rw [if_neg h4] at h
          cases h
      · rw [if_neg h3] at h
        cases h
        have hl : q.toNat < m.met.length := by omega
        have hf : m.met[q.toNat]? = some false := by
          rw [List.getD_eq_getElem?_getD, List.getElem?_eq_getElem hl] at h3
          rw [List.getElem?_eq_getElem hl]
          simpa using h3
        have h5 := count_false _ _ hf
        refine ⟨?_, by simp⟩
        unfold muW
        simp only [List.length_append, List.length_singleton]
        omega
    · rw [if_neg h2] at h
      cases h
  · rw [if_neg h1] at h
    cases h
theorem jumpM_mu {c : Cd} {lo hi : Int} {m m' : Rw16} {i : Nat} {t : List Int} (h0 : 0 ≤ lo) (hh : hi ≤ m.met.length) (h : jumpM c lo hi m i t = some m') : muW m' ≤ muW m ∧ m'.met.length = m.met.length := by
  unfold jumpM at h
  split at h
  · exact comeM_mu h0 hh h
  · cases h
theorem stepM_mu {c : Cd} {f : Fn3} {hi : Int} {m m' : Rw16} {i : Nat} (h0 : 0 ≤ f.st) (hh : hi ≤ m.met.length) (h : stepM c f hi m i = some m') : muW m' ≤ muW m ∧ m'.met.length = m.met.length := by
  unfold stepM at h
  simp only at h
  split at h
  · exact jumpM_mu h0 hh h
  split at h
  · obtain ⟨s', _, h⟩ := Option.bind_eq_some_iff.1 h
    obtain ⟨m1, h1, h⟩ := Option.bind_eq_some_iff.1 h
    have q1 := jumpM_mu h0 hh h1
    have q2 := comeM_mu h0 (by rw [q1.2]; exact hh) h
    exact ⟨Nat.le_trans q2.1 q1.1, q2.2.trans q1.2⟩
  split at h
  · obtain ⟨m1, h1, h⟩ := Option.bind_eq_some_iff.1 h
    obtain ⟨s', _, h⟩ := Option.bind_eq_some_iff.1 h
    have q1 := jumpM_mu h0 hh h1
    have q2 := comeM_mu h0 (by rw [q1.2]; exact hh) h
    exact ⟨Nat.le_trans q2.1 q1.1, q2.2.trans q1.2⟩
  split at h
  · split at h
    · cases h
      exact ⟨Nat.le_refl _, rfl⟩
    · cases h
  split at h
  · obtain ⟨s', _, rfl⟩ := Option.map_eq_some_iff.1 h
    exact ⟨Nat.le_refl _, rfl⟩
  · obtain ⟨s', _, h⟩ := Option.bind_eq_some_iff.1 h
    exact comeM_mu h0 hh h
/-- going on from what is left, the last first -/
def goM (c : Cd) (f : Fn3) (hi : Int) : Nat → Rw16 → Option Rw16
  | 0, m => some m
  | k + 1, m => match m.left.getLast? with
    | none => some m
    | some i => (stepM c f hi { m with left := m.left.dropLast } i).bind (goM c f hi k)
def goW (c : Cd) (f : Fn3) (hi : Int) (m : Rw16) : Option Rw16 := goM c f hi (muW m) m
theorem mu_pop {m : Rw16} {i : Nat} (h : m.left.getLast? = some i) : muW { m with left := m.left.dropLast } + 1 = muW m := by
  unfold muW
  have : m.left ≠ [] := fun e => by rw [e] at h; cases h
  have h1 := List.length_pos_iff.2 this
  simp only [List.length_dropLast]
  omega
theorem goM_succ {c : Cd} {f : Fn3} {hi : Int} {k : Nat} {m : Rw16} {i : Nat} (hl : m.left.getLast? = some i) : goM c f hi (k + 1) m = (stepM c f hi { m with left := m.left.dropLast } i).bind (goM c f hi k) := by
  conv => lhs; unfold goM
  rw [hl]
theorem goM_more {c : Cd} {f : Fn3} {hi : Int} (h0 : 0 ≤ f.st) : ∀ (a b : Nat) (m : Rw16), hi ≤ m.met.length → muW m ≤ a → muW m ≤ b → goM c f hi a m = goM c f hi b m := by
  intro a
  induction a with
  | zero =>
    intro b m _ ha _
    have hl : m.left = [] := by
      unfold muW at ha
      exact List.length_eq_zero_iff.1 (by omega)
    cases b with
    | zero => rfl
    | succ b => unfold goM; rw [hl]; rfl
  | succ a ih =>
    intro b m hh ha hb
    cases hl : m.left.getLast? with
    | none =>
      have e : goM c f hi (a + 1) m = some m := by unfold goM; rw [hl]
      rw [e]
      cases b with
      | zero => rfl
      | succ b => unfold goM; rw [hl]
    | some i =>
      have hp := mu_pop hl
      obtain ⟨b, rfl⟩ : ∃ q, b = q + 1 := ⟨b - 1, by omega⟩
      unfold goM
      rw [hl]
      simp only
      cases hs : stepM c f hi { m with left := m.left.dropLast } i with
      | none => rfl
      | some m' =>
        have q := stepM_mu (m := { m with left := m.left.dropLast }) h0 hh hs
        have q1 : muW m' + 1 ≤ muW m := Nat.le_trans (Nat.succ_le_succ q.1) (Nat.le_of_eq hp)
        exact ih b m' (by rw [q.2]; exact hh) (by omega) (by omega)
theorem goW_end {c : Cd} {f : Fn3} {hi : Int} {m : Rw16} (h : m.left = []) : goW c f hi m = some m := by
  unfold goW
  cases muW m with
  | zero => rfl
  | succ k => unfold goM; rw [h]; rfl
theorem goW_step {c : Cd} {f : Fn3} {hi : Int} {m : Rw16} {l : List Nat} {i : Nat} (h0 : 0 ≤ f.st) (hh : hi ≤ m.met.length) (h : m.left = l ++ [i]) : goW c f hi m = (stepM c f hi { m with left := l } i).bind (goW c f hi) ∧ ∀ m', stepM c f hi { m with left := l } i = some m' → muW m' < muW m ∧ m'.met.length = m.met.length := by
  have hl : m.left.getLast? = some i := by rw [h]; simp
  have hd : m.left.dropLast = l := by rw [h]; simp
  have hp := mu_pop hl
  rw [hd] at hp
  have key : ∀ m', stepM c f hi { m with left := l } i = some m' → muW m' < muW m ∧ m'.met.length = m.met.length := fun m' hs => by
    have q := stepM_mu h0 (m := { m with left := l }) hh hs
    exact ⟨Nat.lt_of_lt_of_le (Nat.lt_succ_of_le q.1) (Nat.le_of_eq hp), q.2⟩
  refine ⟨?_, key⟩
  have e1 : goW c f hi m = goM c f hi (muW { m with left := l } + 1) m := by unfold goW; rw [hp]
  rw [e1, goM_succ hl, hd]
  cases hs : stepM c f hi { m with left := l } i with
  | none => rfl
  | some m' =>
    have q := key m' hs
    exact goM_more h0 _ _ m' (by rw [q.2]; exact hh) (Nat.le_of_lt_succ (Nat.lt_of_lt_of_le q.1 (Nat.le_of_eq hp.symm))) (Nat.le_refl _)
def functionM (c : Cd) (f : Fn3) (hi : Int) (m : Rw16) : Option Rw16 := (comeM f.st hi m f.st []).bind (goW c f hi)
end Go.Proofs.YtidjbgemnohbnaaDoor.Ck

/- Package proofread: a function's going. -/
namespace Go.Proofs.YtidjbgemnohbnaaDoor.Ck
open Go.RowKit

theorem own_len2 {a : Option Addr} {n n' c k : Nat} (h : (Value.slice a n c).ownBlock = some k) : (Value.slice a n' c).ownBlock = some k := by
  cases a with
  | none => cases h
  | some ad => exact h
/-- the last one left is taken -/
theorem Rs.cut {wB w : World} {F : Nat → Prop} {g bM bS : Nat} {vP vC vF vB vLo : Value} {c : Cd} {f : Fn3} {hi : Int} {vs : List Value} {m : Rw16} {aL : Option Addr} {nL cL i : Nat} {l : List Nat} (h : Rs wB w F g bM bS vP vC vF vB vLo c f hi (.slice aL nL cL) vs m) (hl : m.left = l ++ [i]) :
    Rs wB (w.setCell ⟨g, 13, none⟩ (.slice aL l.length cL)) F g bM bS vP vC vF vB vLo c f hi (.slice aL l.length cL) vs { m with left := l } ∧ Ch F F w (w.setCell ⟨g, 13, none⟩ (.slice aL l.length cL)) := by
  obtain ⟨k1, t1⟩ := set1 h.at_ 13 (.slice aL l.length cL)
  have hlen : m.left.length = l.length + 1 := by rw [hl]; simp
  have hnL : nL = m.left.length := by
    obtain ⟨a, c', e, _⟩ := own_slice h.lf
    cases e
    rfl
  have hlf := h.lf
  rw [hnL] at hlf
  have h2 := own_cut hlf (keep := l.length) (by omega)
  have e2 : (nns m.left).take l.length = nns l := by rw [hl]; simp [nns]
  rw [e2] at h2
  have hs : (w.setCell ⟨g, 13, none⟩ (.slice aL l.length cL)).heap.size = w.heap.size := size_setCell _ _ _
  have hc : Ch F F w (w.setCell ⟨g, 13, none⟩ (.slice aL l.length cL)) := ⟨t1.os, t1.tape, t1.output, t1.size, fun k hk hF => t1.blk k hk (fun e => hF (e ▸ h.fg)), fun _ hk => .inl hk⟩
  refine ⟨{ at_ := k1, mt := own_keep h.mt fun k hk => t1.blk k (own_type h.mt hk).2.1 (fun e => h.gM ((Option.some.inj hk).trans e).symm), st := own_keep h.st fun k hk => t1.blk k (own_type h.st hk).2.1 (fun e => h.gS ((Option.some.inj hk).trans e).symm), lf := own_keep h2 fun k hk => t1.blk k (own_type h2 hk).2.1 (fun e => own_at h2 h.at_ (by decide) (by rw [hk, e])), row := fun j s v h1 h3 => ?_, ml := h.ml, sl := h.sl, lb := fun j hj => h.lb j (by rw [hl]; exact List.mem_append_left _ hj), ln := by have := h.ln; show l.length ≤ m.met.count true; omega, fg := h.fg, fM := h.fM, fS := h.fS, fL := fun k hk => h.fL k (own_len2 hk), low := h.low, fb := fun k hk => by rw [hs]; exact h.fb k hk, bel := h.bel.trans (hc.bel h.low h.bel.size) }, hc⟩
  obtain ⟨q1, q2, q3⟩ := h.row j s v h1 h3
  exact ⟨own_keep q1 fun k hk => t1.blk k (own_type q1 hk).2.1 (fun e => q2 k hk (e ▸ h.fg)), q2, q3⟩
theorem RsP.to {p : List Addr} {wB w w1 : World} {F F1 : Nat → Prop} {g bM bS : Nat} {vP vC vF vB vLo vL : Value} {c : Cd} {f : Fn3} {hi : Int} {o : Option Rw16} {vs : List Value} {m' : Rw16} (ho : o = some m') (h : Rs wB w1 F1 g bM bS vP vC vF vB vLo c f hi vL vs m') (c1 : Ch F F1 w w1) : RsP p wB w F g bM bS vP vC vF vB vLo c f hi o (.returned (.tuple #[])) w1 := RsP.yes ho h c1
set_option maxRecDepth 20000 in
set_option maxHeartbeats 4000000 in
theorem function_any {wB w : World} {p : List Addr} {F : Nat → Prop} {g bM bS : Nat} {vP vC vF vB vLo vL : Value} {c : Cd} {f : Fn3} {hi : Int} {vs : List Value} {m : Rw16} (B : Bs wB p vP vC vF vB vLo c f) (h : Rs wB w F g bM bS vP vC vF vB vLo c f hi vL vs m) (hh : hi ≤ c.B.length) (hi2 : ∀ x ∈ c.B, insB c x = true) : Calls Tryd.prog 24 #[.pointer (some ⟨g, 0, none⟩)] w (RsP p wB w F g bM bS vP vC vF vB vLo c f hi (functionM c f hi m)) := by
  obtain ⟨o, ho⟩ : ∃ o, functionM c f hi m = o := ⟨_, rfl⟩
  rw [ho]
  have EO : Hid (o = (comeM f.st hi m f.st []).bind (goW c f hi)) := hide (by rw [← ho]; rfl)
  have y7 : w.cell? ⟨g, 7, none⟩ = some (.int .i64 f.st) := blk_cell h.at_ 7 _ rfl
  have CO := hide (come_any B h hh f.st (t := []) (Sl.nilS w) (by simp))
  have HB := hide B
  have HH := hide hh
  have HI := hide hi2
  have MLN := hide h.ml
  clear h B hh hi2 ho
  go_enter Tryd.func24, Tryd.ntmps24
  go_wp2_with fail
  refine CO.out.mono ?_
  intro e w1 hp
  rcases hp.both with ⟨m1, F1, vL1, vs1, ho1, rfl, r1, c1⟩ | ⟨ho1, rfl, c1⟩
  rotate_left 1
  · exact ⟨rfl, RsP.no (by rw [EO.out, ho1]; rfl) c1⟩
  have I0 : Hid (∃ F' vL' vs', Rs wB w1 F' g bM bS vP vC vF vB vLo c f hi vL' vs' m1 ∧ Ch F F' w w1 ∧ goW c f hi m1 = o) := hide ⟨F1, vL1, vs1, r1, c1, by rw [EO.out, ho1]; rfl⟩
  clear hp ho1 r1 c1 CO y7 EO
  go_wp2_with fail
  go_loopg [] (muW m1) (fun gh wr => ∃ m', gh = muW m' ∧ Hid (∃ F' vL' vs', Rs wB wr F' g bM bS vP vC vF vB vLo c f hi vL' vs' m' ∧ Ch F F' w wr ∧ goW c f hi m' = o))
  case atStart => exact ⟨m1, rfl, I0⟩
  case round =>
    obtain ⟨m', rfl, HI2⟩ := hrel
    obtain ⟨F', vL', vs', r', c', e'⟩ := HI2.out
    obtain ⟨aL, cL, eL, _⟩ := own_slice r'.lf
    subst eL
    have R := hide r'
    have C := hide c'
    have E := hide e'
    have y13 : wr.cell? ⟨g, 13, none⟩ = some (.slice aL m'.left.length cL) := blk_cell r'.at_ 13 _ rfl
    have f13 := blk_frz r'.at_ 13
    clear HI2 I0 r' c' e'
    rcases List.eq_nil_or_concat m'.left with hl | ⟨l, i, hl⟩
    · have E2 : Hid (o = some m') := hide (by rw [← E.out, goW_end hl])
      rw [hl] at y13
      simp only [List.length_nil] at y13
      clear hl
      go_wp2_with fail
      go_end0
      exact RsP.to E2.out R.out C.out
    · rw [List.concat_eq_append] at hl
      have hlen : m'.left.length = l.length + 1 := by rw [hl]; simp
      have GS := hide (goW_step (c := c) HB.out.st (by rw [R.out.ml]; exact HH.out) hl)
      have hi' : i < c.B.length := R.out.lb i (by rw [hl]; simp)
      have RC := hide (R.out.cut hl)
      have SA' := hide (step_any HB.out RC.out.1 HH.out i hi' HI.out)
      obtain ⟨bL, cL2, eL2, hL3, _⟩ := own_some R.out.lf (by omega)
      cases eL2
      have x1 := (own_cell R.out.lf l.length (.int .i64 (i : Int)) (by rw [hl]; simp [nns])).1
      obtain ⟨k, hk⟩ : ∃ k, k = l.length := ⟨_, rfl⟩
      obtain ⟨nn, hnn⟩ : ∃ k, k = m'.left.length := ⟨_, rfl⟩
      have hw : wrap64 ((nn : Int) - 1) = (k : Int) := by unfold wrap64; have := R.out.ln; have h3 := List.count_le_length (a := true) (l := m'.met); have h4 := R.out.ml; have h5 := HB.out.n; omega
      have hkn : (k : Int) < (nn : Int) := by omega
      have hkn0 : k < nn := by omega
      have hkc : k ≤ cL := by omega
      have hpos : (0 : Int) < (nn : Int) := by omega
      rw [← hk] at x1 SA'
      rw [← hnn] at y13
      have HK := hide hk
      clear hl hlen hi' hk hnn hL3
      go_wp2_with fail
      refine SA'.out.mono ?_
      intro e w2 hp
      have CC := hide (C.out.trans RC.out.2)
      rw [← HK.out] at CC
      rcases hp.both with ⟨m2, F2, vL2, vs2, ho2, rfl, r2, c2⟩ | ⟨ho2, rfl, c2⟩
      rotate_left 1
      · exact ⟨rfl, RsP.no (by rw [← E.out, GS.out.1, ho2]; rfl) (CC.out.trans c2)⟩
      have Z := hide (show ∃ F' vL' vs', Rs wB w2 F' g bM bS vP vC vF vB vLo c f hi vL' vs' m2 ∧ Ch F F' w w2 ∧ goW c f hi m2 = o from ⟨F2, vL2, vs2, r2, CC.out.trans c2, by rw [← E.out, GS.out.1, ho2]; rfl⟩)
      have MU := hide (GS.out.2 m2 ho2).1
      clear hp ho2 r2 c2 RC SA' CC x1 y13 f13
      go_wp2_with fail
      go_roundg (muW m2)
      case measure => exact MU.out
      case rel => exact ⟨m2, rfl, Z⟩
end Go.Proofs.YtidjbgemnohbnaaDoor.Ck

/- Package proofread: all functions of a code; what read makes first. -/
namespace Go.Proofs.YtidjbgemnohbnaaDoor.Ck
open Go.RowKit

def endM (c : Cd) (l : List Fn3) : Int := match l with
  | [] => c.B.length
  | f :: _ => f.st
def funcsM (c : Cd) : List Fn3 → Rw16 → Option Rw16
  | [], m => some m
  | f :: l, m => (functionM c f (endM c l) m).bind (funcsM c l)
def beginM (c : Cd) : Rw16 := ⟨List.replicate c.B.length false, List.replicate c.B.length [], []⟩
/-- the stacks at a code's instructions, if it is right -/
def readM (c : Cd) : Option (List (List Int)) := if formB c = true then (funcsM c c.F (beginM c)).map Rw16.st else none
theorem madeRow (w : World) (z : Value) (n : Nat) (T : TypeId) (hn : n ≤ 10000) : (w.alloc (.cells (madeCells #[z] n) T)).ownsRow 0 T 1 (.slice (some ⟨w.heap.size, 0, none⟩) n n) n (List.replicate n z) :=
  ⟨by simp, .inr ⟨w.heap.size, n, _, rfl, Nat.zero_le _, Go.Deep.blk_alloc_new _ _, Nat.le_refl _, by unfold maxLen; omega, by simp [madeCells], by
    rw [List.take_of_length_le]
    · apply List.ext_getElem?
      intro m
      by_cases hm : m < n
      · simp [madeCells, Nat.mod_one, hm]
      · simp [madeCells, Nat.mod_one, hm]
    · simp [madeCells]⟩⟩
theorem run_mkB (n : Nat) (hn : n ≤ 10000) (w : World) : (Instr.makeSlice 53 (.int .i64 (n : Nat)) (.int .i64 (n : Nat))).run Tryd.prog w = .ok (.slice (some ⟨w.heap.size, 0, none⟩) n n) (w.alloc (.cells (madeCells #[.bool false] n) 4)) := by
  have hinfo : (Tryd.prog.info? 4).map (fun i => (i.zero, i.size, i.bytes)) = some (some (.bool false), 1, 1) := by kernel_rfl
  obtain ⟨i, hi, hz0, hz1, hz2⟩ := info_parts hinfo
  have hr := run_make (P := Tryd.prog) w 53 4 i (.bool false) Tryd.underlying53 hi hz0 .i64 .i64 n n (by omega) (by omega) (by rw [hz2]; omega) (by omega)
  simp only [Int.toNat_natCast, hz1, Nat.mul_one] at hr
  exact hr
theorem run_mkS (n : Nat) (hn : n ≤ 10000) (w : World) : (Instr.makeSlice 48 (.int .i64 (n : Nat)) (.int .i64 (n : Nat))).run Tryd.prog w = .ok (.slice (some ⟨w.heap.size, 0, none⟩) n n) (w.alloc (.cells (madeCells #[.slice none 0 0] n) 51)) := by
  have hinfo : (Tryd.prog.info? 51).map (fun i => (i.zero, i.size, i.bytes)) = some (some (.slice none 0 0), 1, 24) := by kernel_rfl
  obtain ⟨i, hi, hz0, hz1, hz2⟩ := info_parts hinfo
  have hr := run_make (P := Tryd.prog) w 48 51 i (.slice none 0 0) Tryd.underlying48 hi hz0 .i64 .i64 n n (by omega) (by omega) (by rw [hz2]; omega) (by omega)
  simp only [Int.toNat_natCast, hz1, Nat.mul_one] at hr
  exact hr
/-- a reader at its beginning -/
theorem Rs.start {wB w : World} {g bM bS : Nat} {vP vC vF vB : Value} {c : Cd} (hb : Below wB.heap.size wB w)
    (hg : w.heap[g]? = some (.cells #[vP, .int .i64 c.M, .int .i64 c.A, vC, vF, .int .i64 c.mn, vB, .int .i64 0, .int .i64 0, .slice none 0 0, .int .i64 0, .slice (some ⟨bM, 0, none⟩) c.B.length c.B.length, .slice (some ⟨bS, 0, none⟩) c.B.length c.B.length, .slice none 0 0] 69 (0, 0)))
    (hM : w.ownsRow 0 4 1 (.slice (some ⟨bM, 0, none⟩) c.B.length c.B.length) c.B.length (List.replicate c.B.length (.bool false))) (hS : w.ownsRow 0 51 1 (.slice (some ⟨bS, 0, none⟩) c.B.length c.B.length) c.B.length (List.replicate c.B.length (.slice none 0 0)))
    (l1 : wB.heap.size ≤ g) (l2 : wB.heap.size ≤ bM) (l3 : wB.heap.size ≤ bS) :
    Rs wB w (fun k => k = g ∨ k = bM ∨ k = bS) g bM bS vP vC vF vB (.slice none 0 0) c ⟨0, 0, []⟩ 0 (.slice none 0 0) (List.replicate c.B.length (.slice none 0 0)) (beginM c) where
  at_ := hg
  mt := by
    have e : bls (beginM c).met = List.replicate c.B.length (.bool false) := by simp [bls, beginM]
    rw [e]
    exact hM
  st := hS
  lf := World.ownsRow_nil _ _ _ _
  row := fun i s v hs hv => by
    have hi : i < c.B.length := by
      have := (List.getElem?_eq_some_iff.1 hv).1
      simpa using this
    have e1 : s = [] := by
      have h9 : (List.replicate c.B.length ([] : List Int))[i]? = some s := hs
      rw [List.getElem?_replicate, if_pos hi] at h9
      exact (Option.some.inj h9).symm
    have e2 : v = .slice none 0 0 := by
      rw [List.getElem?_replicate, if_pos hi] at hv
      exact (Option.some.inj hv).symm
    subst e1 e2
    exact ⟨World.ownsRow_nil _ _ _ _, fun k hk => (by cases hk), fun z hz => (by cases hz), Nat.zero_le _⟩
  ml := by simp [beginM]
  sl := by simp [beginM]
  lb := fun i hi => by cases hi
  ln := Nat.zero_le _
  fg := .inl rfl
  fM := .inr (.inl rfl)
  fS := .inr (.inr rfl)
  fL := fun k hk => by cases hk
  low := fun k hk => by rcases hk with rfl | rfl | rfl <;> assumption
  fb := fun k hk => by
    rcases hk with rfl | rfl | rfl
    · exact lt_of_blk hg
    · exact (own_type hM rfl).2.1
    · exact (own_type hS rfl).2.1
  bel := hb
/-- another function is gone through -/
theorem Rs.entry {wB w w' : World} {F : Nat → Prop} {g bM bS : Nat} {vP vC vF vB vLo vLo' vL : Value} {c : Cd} {f f' : Fn3} {hi hi' : Int} {vs : List Value} {m : Rw16} (h : Rs wB w F g bM bS vP vC vF vB vLo c f hi vL vs m) (t : Tn g w w')
    (hg : w'.heap[g]? = some (.cells #[vP, .int .i64 c.M, .int .i64 c.A, vC, vF, .int .i64 c.mn, vB, .int .i64 f'.st, .int .i64 f'.pa, vLo', .int .i64 hi', .slice (some ⟨bM, 0, none⟩) c.B.length c.B.length, .slice (some ⟨bS, 0, none⟩) c.B.length c.B.length, vL] 69 (0, 0))) :
    Rs wB w' F g bM bS vP vC vF vB vLo' c f' hi' vL vs m ∧ Ch F F w w' :=
  ⟨{ at_ := hg, mt := own_keep h.mt fun k hk => t.blk k (own_type h.mt hk).2.1 (fun e => h.gM ((Option.some.inj hk).trans e).symm), st := own_keep h.st fun k hk => t.blk k (own_type h.st hk).2.1 (fun e => h.gS ((Option.some.inj hk).trans e).symm), lf := own_keep h.lf fun k hk => t.blk k (own_type h.lf hk).2.1 (fun e => h.gL (by rw [hk, e])), row := fun j s v h1 h3 => by
      obtain ⟨q1, q2, q3⟩ := h.row j s v h1 h3
      exact ⟨own_keep q1 fun k hk => t.blk k (own_type q1 hk).2.1 (fun e => q2 k hk (e ▸ h.fg)), q2, q3⟩, ml := h.ml, sl := h.sl, lb := h.lb, ln := h.ln, fg := h.fg, fM := h.fM, fS := h.fS, fL := h.fL, low := h.low, fb := fun k hk => Nat.lt_of_lt_of_le (h.fb k hk) t.size, bel := h.bel.trans (t.bel (h.low g h.fg) h.bel.size) },
   ⟨t.os, t.tape, t.output, t.size, fun k hk hF => t.blk k hk (fun e => hF (e ▸ h.fg)), fun _ hk => .inl hk⟩⟩
section
variable {wB w : World} {F : Nat → Prop} {g bM bS : Nat} {vP vC vF vB vLo vL : Value} {c : Cd} {f : Fn3} {hi : Int} {vs : List Value} {m : Rw16}
theorem Rs.entry4 (h : Rs wB w F g bM bS vP vC vF vB vLo c f hi vL vs m) (a b e : Int) (v : Value) (lo : List Int) :
    Rs wB ((((w.setCell ⟨g, 7, none⟩ (.int .i64 a)).setCell ⟨g, 8, none⟩ (.int .i64 b)).setCell ⟨g, 9, none⟩ v).setCell ⟨g, 10, none⟩ (.int .i64 e)) F g bM bS vP vC vF vB v c ⟨a, b, lo⟩ e vL vs m ∧ Ch F F w ((((w.setCell ⟨g, 7, none⟩ (.int .i64 a)).setCell ⟨g, 8, none⟩ (.int .i64 b)).setCell ⟨g, 9, none⟩ v).setCell ⟨g, 10, none⟩ (.int .i64 e)) := by
  obtain ⟨k1, t1⟩ := set1 h.at_ 7 (.int .i64 a)
  obtain ⟨k2, t2⟩ := set1 k1 8 (.int .i64 b)
  obtain ⟨k3, t3⟩ := set1 k2 9 v
  obtain ⟨k4, t4⟩ := set1 k3 10 (.int .i64 e)
  exact h.entry (t1.trans (t2.trans (t3.trans t4))) k4
theorem Rs.ends (h : Rs wB w F g bM bS vP vC vF vB vLo c f hi vL vs m) (e : Int) : Rs wB (w.setCell ⟨g, 10, none⟩ (.int .i64 e)) F g bM bS vP vC vF vB vLo c f e vL vs m ∧ Ch F F w (w.setCell ⟨g, 10, none⟩ (.int .i64 e)) := by
  obtain ⟨k1, t1⟩ := set1 h.at_ 10 (.int .i64 e)
  exact h.entry t1 k1
end
theorem fn_of {c : Cd} (h : formB c = true) {k : Nat} (hk : k < c.F.length) : 0 ≤ (c.F.getD k zF).st ∧ (c.F.getD k zF).st < c.B.length := by
  unfold formB at h
  simp only [Bool.and_eq_true, List.all_eq_true] at h
  have h1 := h.2.1.1.2 (c.F.getD k zF) (by rw [List.getD_eq_getElem?_getD, List.getElem?_eq_getElem hk]; exact List.getElem_mem hk)
  unfold fnB at h1
  simp only [Bool.and_eq_true] at h1
  obtain ⟨m, hm, hl⟩ := in_of h1.1
  rw [hm]
  omega
theorem body_of {c : Cd} (h : formB c = true) : ∀ x ∈ c.B, insB c x = true := by
  unfold formB at h
  simp only [Bool.and_eq_true, List.all_eq_true] at h
  exact h.2.2
theorem funcs_drop {c : Cd} {k : Nat} (hk : k < c.F.length) (m : Rw16) : funcsM c (c.F.drop k) m = (functionM c (c.F.getD k zF) (if k + 1 < c.F.length then (c.F.getD (k + 1) zF).st else (c.B.length : Int)) m).bind (funcsM c (c.F.drop (k + 1))) := by
  rw [List.drop_eq_getElem_cons hk]
  show (functionM c c.F[k] (endM c (c.F.drop (k + 1))) m).bind _ = _
  have e1 : c.F.getD k zF = c.F[k] := by rw [List.getD_eq_getElem?_getD, List.getElem?_eq_getElem hk]; rfl
  rw [e1]
  congr 1
  congr 1
  by_cases h : k + 1 < c.F.length
  · rw [if_pos h, List.drop_eq_getElem_cons h]
    show c.F[k + 1].st = _
    rw [List.getD_eq_getElem?_getD, List.getElem?_eq_getElem h]
    rfl
  · rw [if_neg h, List.drop_eq_nil_of_le (by omega)]
    rfl
theorem funcs_end (c : Cd) (m : Rw16) : funcsM c (c.F.drop c.F.length) m = some m := by rw [List.drop_length]; rfl
/-- what read answers -/
def ReadP (p : List Addr) (w : World) (c : Cd) (e : Ending) (w' : World) : Prop := Below w.heap.size w w' ∧ match readM c with
  | some st => ∃ v vs, e = .returned (.tuple #[v, .nilIface]) ∧ (st.length = c.B.length ∧ c.B.length ≤ 8192) ∧ w'.ownsRow 0 51 1 v st.length vs ∧ (∀ k, v.ownBlock = some k → w.heap.size ≤ k) ∧ ∀ (i : Nat) (s : List Int) (u : Value), st[i]? = some s → vs[i]? = some u → w'.ownsRow 0 3 1 u s.length (nts s) ∧ Fits s ∧ s.length ≤ 64
  | none => e = .returned (.tuple #[.slice none 0 0, errV p 8])
end Go.Proofs.YtidjbgemnohbnaaDoor.Ck

/- Package proofread: what stops a reader is caught. -/
namespace Go.Proofs.YtidjbgemnohbnaaDoor.Ck
open Go.RowKit

theorem catchR_idle (a b : Addr) (w : World) :
    CallsD Tryd.prog 23 #[.pointer (some a), .pointer (some b)] .returning w fun e u' w' => e = .returned (.tuple #[]) ∧ u' = .returning ∧ w' = w := by
  refine callsD_of_wpS Tryd.func23 rfl fun c₀ cs hu => ?_
  apply wpS_seq
  apply wpS_region
  simp [wpOpsS, go_sem, recoverD, hu, Tryd.ntmps23, Exit.thenS]
  apply wpS_seq
  refine wpS_of_wp ?_
  go_wp2_with fail
  refine wpS_cond (t := false) (by simp [Act.eval, Array.replicate]) ?_
  simp only [Bool.false_eq_true, if_false]
  refine wpS_of_wp (wp_skip ?_)
  cases c₀
  simp_all [bodyPostS, results, Tryd.results23]
theorem catchR_stop (a b : Nat) (v1 v0 : Value) (p : List Addr) (w : World) (hA : w.heap[a]? = some (.cells #[v1] 48 (0, 0))) (hB : w.heap[b]? = some (.cells #[v0] 32 (0, 0))) :
    CallsD Tryd.prog 23 #[.pointer (some ⟨a, 0, none⟩), .pointer (some ⟨b, 0, none⟩)] (.panicking [{ v := errV p 8, recovered := false }]) w fun e u' w' =>
      e = .returned (.tuple #[]) ∧ u' = .panicking [{ v := errV p 8, recovered := true }] ∧ w'.heap[a]? = some (.cells #[.slice none 0 0] 48 (0, 0)) ∧ w'.heap[b]? = some (.cells #[errV p 8] 32 (0, 0)) ∧ ∀ B, B ≤ a → B ≤ b → Below B w w' := by
  have g0 := blk_frz hA 0
  have d0 := blk_cell hA 0 _ rfl
  have f0 := blk_frz hB 0
  have c0 := blk_cell hB 0 _ rfl
  have hne : a ≠ b := fun e => by
    rw [e, hB] at hA
    have := Option.some.inj hA
    injection this with _ h2 _
    exact absurd h2 (by decide)
  have ha := assert_err p 8
  unfold errV at *
  refine callsD_of_wpS Tryd.func23 rfl fun c₀ cs hu => ?_
  apply wpS_seq
  apply wpS_region
  simp [wpOpsS, go_sem, recoverD, hu, Tryd.ntmps23, Exit.thenS]
  apply wpS_seq
  refine wpS_of_wp ?_
  go_wp2_with fail
  refine wpS_cond (t := true) (by simp [Act.eval, Array.replicate]) ?_
  simp only [if_true]
  refine wpS_of_wp ?_
  change Code.wp _ _ _ { tmps := #[.pointer (some ⟨a, 0, none⟩), .pointer (some ⟨b, 0, none⟩), .iface 114 (.pointer (some (adr p 8))), .iface 114 (.pointer (some (adr p 8))), .iface 114 (.pointer (some (adr p 8))), .bool true, undef, undef], defers := [] } _
  refine wp_region_T (S := fun _ => True) (fun _ => true) mixed trivial (fun hH => ?_)
  have g0 : w.drew.frozen? ⟨a, 0, none⟩ = false := g0
  have d0 : w.drew.cell? ⟨a, 0, none⟩ = some v1 := d0
  have hA' : w.drew.heap[a]? = some (.cells #[v1] 48 (0, 0)) := hA
  have hB' : w.drew.heap[b]? = some (.cells #[v0] 32 (0, 0)) := hB
  have BD : ∀ B, Below B w w.drew := fun B => bel_drawn (Below.refl _ _)
  clear hA hB f0 c0
  generalize w.drew = wd at *
  refine Tm 0 ?_
  simp only [Act.put, SA]
  refine T_move (i := 1) (v := ?_) rfl (by kernel_rfl) (by kernel_rfl) (by kernel_rfl) (fun _ _ _ h => h) (Or.inl ⟨by rfl, ?_⟩) ?_
  rotate_left 1
  · (intro w _; have q := ha w; go_simp <;> with_reducible rfl)
  simp only [Act.put, SA]
  refine Tr 2 (fun K1 hK1 => ?_)
  go_simp
  obtain ⟨k1, t1⟩ := set1 hA' 0 (.slice none 0 0)
  have hB2 := (t1.blk b (lt_of_blk hB') (Ne.symm hne)).trans hB'
  have c0 := blk_cell hB2 0 _ rfl
  have f0 := blk_frz hB2 0
  refine hK1.out _ _ (fun _ => trivial) (fun _ => ?_)
  clear hK1 K1 g0 d0
  refine Tr 3 (fun K1 hK1 => ?_)
  go_simp
  refine hK1.out _ _ (fun _ => trivial) (fun _ => ?_)
  clear hK1 K1
  refine T_done (by kernel_rfl) ?_ _
  obtain ⟨k2, t2⟩ := set1 hB2 0 (.iface 114 (.pointer (some (adr p 8))))
  have hla := lt_of_blk hA'
  have hlb := lt_of_blk hB2
  exact ⟨rfl, _, rfl, _, results_none rfl _ _ _, rfl, rfl, (t2.blk a (lt_of_blk k1) hne).trans k1, k2, fun B h1 h2 => (BD B).trans ((t1.bel h1 (by omega)).trans (t2.bel h2 (by omega)))⟩
theorem results_read {tmps : Array Value} {a b : Nat} {w : World} {v u : Value} (h2 : tmps.getD 2 undef = .pointer (some ⟨a, 0, none⟩)) (h3 : tmps.getD 3 undef = .pointer (some ⟨b, 0, none⟩)) (hA : w.heap[a]? = some (.cells #[v] 48 (0, 0))) (hB : w.heap[b]? = some (.cells #[u] 32 (0, 0))) :
    (results Tryd.f15 tmps).run Tryd.prog w = .ok (.tuple #[v, u]) w := by
  have h2' : tmps[2]?.getD undef = .pointer (some ⟨a, 0, none⟩) := by simpa using h2
  have h3' : tmps[3]?.getD undef = .pointer (some ⟨b, 0, none⟩) := by simpa using h3
  have c0 := blk_cell hA 0 _ rfl
  have d0 := blk_cell hB 0 _ rfl
  simp [results, Tryd.results15, h2', h3', go_sem, c0, d0]
theorem doorR_stop {R : Ending → World → Prop} {tmps : Array Value} {a b : Nat} {w : World} {v1 v0 : Value} {p : List Addr} (h2 : tmps.getD 2 undef = .pointer (some ⟨a, 0, none⟩)) (h3 : tmps.getD 3 undef = .pointer (some ⟨b, 0, none⟩)) (hA : w.heap[a]? = some (.cells #[v1] 48 (0, 0))) (hB : w.heap[b]? = some (.cells #[v0] 32 (0, 0)))
    (hR : ∀ w', (∀ B, B ≤ a → B ≤ b → Below B w w') → R (.returned (.tuple #[.slice none 0 0, errV p 8])) w') :
    Leaves Tryd.prog Tryd.f15 tmps R [{ target := .fn (.func 23) #[.pointer (some ⟨a, 0, none⟩), .pointer (some ⟨b, 0, none⟩)], args := #[] }] (.panicking [{ v := errV p 8, recovered := false }]) w := by
  refine leaves_cons (f := 23) (args := #[.pointer (some ⟨a, 0, none⟩), .pointer (some ⟨b, 0, none⟩)]) (by simp) (by simp [go_sem]) ?_
  refine (catchR_stop a b v1 v0 p w hA hB).mono ?_
  rintro e u' w' ⟨rfl, rfl, k1, k2, hb⟩
  exact ⟨_, results_read h2 h3 k1 k2, hR w' hb⟩
theorem doorR_end {R : Ending → World → Prop} {tmps : Array Value} {a b : Nat} {w : World} {v u : Value} (h2 : tmps.getD 2 undef = .pointer (some ⟨a, 0, none⟩)) (h3 : tmps.getD 3 undef = .pointer (some ⟨b, 0, none⟩)) (hA : w.heap[a]? = some (.cells #[v] 48 (0, 0))) (hB : w.heap[b]? = some (.cells #[u] 32 (0, 0)))
    (hR : R (.returned (.tuple #[v, u])) w) :
    Leaves Tryd.prog Tryd.f15 tmps R [{ target := .fn (.func 23) #[.pointer (some ⟨a, 0, none⟩), .pointer (some ⟨b, 0, none⟩)], args := #[] }] .returning w := by
  refine leaves_cons (f := 23) (args := #[.pointer (some ⟨a, 0, none⟩), .pointer (some ⟨b, 0, none⟩)]) (by simp) (by simp [go_sem]) ?_
  refine (catchR_idle _ _ w).mono ?_
  rintro e u' w' ⟨rfl, rfl, rfl⟩
  exact ⟨_, results_read h2 h3 hA hB, hR⟩
end Go.Proofs.YtidjbgemnohbnaaDoor.Ck

/- Package proofread: read. -/
namespace Go.Proofs.YtidjbgemnohbnaaDoor.Ck
open Go.RowKit

set_option maxRecDepth 20000 in
set_option maxHeartbeats 4000000 in
theorem read_any {w : World} {p : List Addr} {vP vC vF vB : Value} {c : Cd} (hc : Ec w p) (h : Cv w vP vC vF vB c) : Calls Tryd.prog 15 #[codeA vP vC vF vB c] w (ReadP p w c) := by
  obtain ⟨aB, cB, eB, _⟩ := h.B.form
  obtain ⟨aF, cF, eF, _⟩ := h.F.form
  subst eB eF
  have B0 := bel_new w (codeO vP vC (.slice aF c.F.length cF) (.slice aB c.B.length cB) c)
  have V0 := Go.Deep.blk_alloc_new w (codeO vP vC (.slice aF c.F.length cF) (.slice aB c.B.length cB) c)
  have z0 : (w.alloc (codeO vP vC (.slice aF c.F.length cF) (.slice aB c.B.length cB) c)).heap.size = w.heap.size + 1 := by simp
  obtain ⟨w1, hw1⟩ : ∃ x, x = w.alloc (codeO vP vC (.slice aF c.F.length cF) (.slice aB c.B.length cB) c) := ⟨_, rfl⟩
  rw [← hw1] at B0 V0 z0
  have B1 := bel_new w1 (.cells #[.slice none 0 0] 48)
  have V1 := Go.Deep.blk_alloc_new w1 (.cells #[.slice none 0 0] 48)
  have z1 : (w1.alloc (.cells #[.slice none 0 0] 48)).heap.size = w1.heap.size + 1 := by simp
  obtain ⟨w2, hw2⟩ : ∃ x, x = w1.alloc (.cells #[.slice none 0 0] 48) := ⟨_, rfl⟩
  rw [← hw2] at B1 V1 z1
  have B2 := bel_new w2 (.cells #[.nilIface] 32)
  have V2 := Go.Deep.blk_alloc_new w2 (.cells #[.nilIface] 32)
  have z2 : (w2.alloc (.cells #[.nilIface] 32)).heap.size = w2.heap.size + 1 := by simp
  obtain ⟨w3, hw3⟩ : ∃ x, x = w2.alloc (.cells #[.nilIface] 32) := ⟨_, rfl⟩
  rw [← hw3] at B2 V2 z2
  rw [z0] at V1 z1
  rw [z1] at V2 z2
  have BW : Below w.heap.size w w3 := bel_trans (bel_trans B0 B1) B2
  have K0 : w3.heap[w.heap.size]? = some (codeO vP vC (.slice aF c.F.length cF) (.slice aB c.B.length cB) c) := (B2.block _ (by omega)).trans ((B1.block _ (by omega)).trans V0)
  have K1 : w3.heap[w.heap.size + 1]? = some (.cells #[.slice none 0 0] 48 (0, 0)) := (B2.block _ (by omega)).trans V1
  have CK := hide (check_any (hc.bel BW) (h.bel BW))
  have HW := hide (And.intro hc h)
  have HBW := hide BW
  have HK := hide (And.intro K0 (And.intro K1 V2))
  have EW : Hid (((w.alloc (codeO vP vC (.slice aF c.F.length cF) (.slice aB c.B.length cB) c)).alloc (.cells #[.slice none 0 0] 48)).alloc (.cells #[.nilIface] 32) = w3) := hide (by rw [← hw1, ← hw2, ← hw3])
  have x0 : (((w.alloc (codeO vP vC (.slice aF c.F.length cF) (.slice aB c.B.length cB) c)).alloc (.cells #[.slice none 0 0] 48)).alloc (.cells #[.nilIface] 32)).heap[w.heap.size]? = some (codeO vP vC (.slice aF c.F.length cF) (.slice aB c.B.length cB) c) := by rw [EW.out]; exact K0
  obtain ⟨g0, g1, g2, g3, g4, g5, g6⟩ := cells7 x0
  unfold codeO at *
  unfold codeA at CK ⊢
  clear hc h B0 V0 z0 B1 V1 z1 B2 V2 z2 BW K0 K1 hw1 hw2 hw3 x0
  go_enter_defers Tryd.func15, Tryd.ntmps15
  go_wp2_with fail
  rw [EW.out]
  refine CK.out.mono ?_
  rintro e w4 ⟨rfl, b4⟩
  have B4 := hide (bel_trans HBW.out b4)
  obtain ⟨bz, hbz⟩ : ∃ b, b = w.heap.size := ⟨_, rfl⟩
  have HZ := hide hbz
  rw [← hbz] at HK ⊢
  have Q1 := (b4.block _ (lt_of_blk HK.out.2.1)).trans HK.out.2.1
  have Q2 := (b4.block _ (lt_of_blk HK.out.2.2)).trans HK.out.2.2
  have Q0 := (b4.block _ (lt_of_blk HK.out.1)).trans HK.out.1
  have q1 := blk_cell Q1 0 _ rfl
  have q2 := blk_cell Q2 0 _ rfl
  have r1 := blk_frz Q1 0
  have r2 := blk_frz Q2 0
  have HQ := hide (And.intro Q0 (And.intro Q1 Q2))
  clear g0 g1 g2 g3 g4 g5 g6 b4 CK HBW HK EW hbz Q0 Q1 Q2
  cases hf : formB c with
  | false =>
    have RM : Hid (readM c = none) := hide (by unfold readM; rw [hf]; rfl)
    rw [show erK p false = errV p 8 from rfl]
    unfold errV
    clear hf
    go_wp2_with fail
    obtain ⟨k1, t1⟩ := set1 HQ.out.2.1 0 (.slice none 0 0)
    obtain ⟨k2, t2⟩ := set1 ((t1.blk _ (lt_of_blk HQ.out.2.2) (by omega)).trans HQ.out.2.2) 0 (.iface 114 (.pointer (some (adr p 8))))
    refine ⟨_, results_read rfl rfl ((t2.blk _ (lt_of_blk k1) (by omega)).trans k1) k2, ?_⟩
    have l1 := lt_of_blk HQ.out.2.1
    have l2 := lt_of_blk HQ.out.2.2
    have hz := HZ.out
    refine ⟨B4.out.trans ((t1.bel (by omega) (by omega)).trans (t2.bel (by omega) (Nat.le_trans (by omega) t1.size))), ?_⟩
    rw [RM.out]
  | true =>
    have HF := hide hf
    rw [show erK p true = .nilIface from rfl]
    clear hf
    have NB : Hid (c.B.length ≤ 8192) := hide (by have h1 := HF.out; unfold formB at h1; simp only [Bool.and_eq_true, decide_eq_true_eq] at h1; exact h1.1.1.2)
    go_upto_region 5 with fail
    go_cut [5] from 14 to 24 (fun x5 wc => ∃ g bM bS, x5 = .pointer (some ⟨g, 0, none⟩) ∧ Hid (Rs w4 wc (fun k => k = g ∨ k = bM ∨ k = bS) g bM bS vP vC (.slice aF c.F.length cF) (.slice aB c.B.length cB) (.slice none 0 0) c ⟨0, 0, []⟩ 0 (.slice none 0 0) (List.replicate c.B.length (.slice none 0 0)) (beginM c) ∧ Below w4.heap.size w4 wc))
    case first =>
      obtain ⟨N, hN⟩ : ∃ N, N = c.B.length := ⟨_, rfl⟩
      have HN := hide hN
      have QD : w4.drew.heap[bz]? = some (.cells #[vP, .int .i64 c.M, .int .i64 c.A, vC, .slice aF c.F.length cF, .int .i64 c.mn, .slice aB N cB] 27) := by rw [hN]; exact HQ.out.1
      have MB := run_mkB N (by have := NB.out; omega)
      have MS := run_mkS N (by have := NB.out; omega)
      rw [← hN]
      clear hN
      have BD := hide (show Below w4.heap.size w4 w4.drew from bel_drawn (Below.refl _ _))
      refine wp_region_noPanic ?_
      refine wp_region_T (S := fun wz => wz.heap[bz]? = some (.cells #[vP, .int .i64 c.M, .int .i64 c.A, vC, .slice aF c.F.length cF, .int .i64 c.mn, .slice aB N cB] 27)) (fun _ => true) mixed QD (fun hH => ?_)
      have LD : Hid (w4.heap.size ≤ w4.drew.heap.size) := hide BD.out.size
      clear QD q1 q2 r1 r2
      generalize w4.drew = wd at *
      refine Tl 0 (v := ?_) ?_ hH ?_
      rotate_left 1
      · (intro w hSw; have hq := hSw; obtain ⟨l0, l1, l2, l3, l4, l5, l6⟩ := cells7 hq; clear hSw hq; go_simp <;> with_reducible rfl)
      simp only [Act.put, SA]
      refine Tm 1 ?_
      simp only [Act.put, SA]
      refine Tl 2 (v := ?_) ?_ hH ?_
      rotate_left 1
      · (intro w hSw; have hq := hSw; obtain ⟨l0, l1, l2, l3, l4, l5, l6⟩ := cells7 hq; clear hSw hq; go_simp <;> with_reducible rfl)
      simp only [Act.put, SA]
      refine Tm 3 ?_
      simp only [Act.put, SA]
      refine Tm 5 ?_
      simp only [Act.put, SA]
      refine Tl 6 (v := ?_) ?_ hH ?_
      rotate_left 1
      · (intro w hSw; have hq := hSw; obtain ⟨l0, l1, l2, l3, l4, l5, l6⟩ := cells7 hq; clear hSw hq; go_simp <;> with_reducible rfl)
      simp only [Act.put, SA]
      refine Tm 7 ?_
      simp only [Act.put, SA]
      refine T_ready (rs := [4, 8]) (by kernel_rfl) (by decide) ?_
      refine AllReadyT.cons rfl (fun K1 hK1 => ?_) (AllReadyT.cons rfl (fun K1 hK1 => ?_) AllReadyT.nil)
      · go_simp
        have BA := hide (bel_new wd (.cells (madeCells #[.bool false] N) 4))
        have OA := hide (madeRow wd (.bool false) N 4 (by have := NB.out; have := HN.out; omega))
        have SA5 := hide ((BA.out.block bz (lt_of_blk hH)).trans hH)
        refine hK1.out _ _ (fun _ => SA5.out) (fun _ => ?_)
        clear hK1 K1 hH
        generalize wd.alloc (.cells (madeCells #[.bool false] N) 4) = w5 at *
        have LA := hide (show w4.heap.size ≤ wd.heap.size from LD.out)
        have LX := hide (show wd.heap.size < w5.heap.size from (own_type OA.out (k := wd.heap.size) rfl).2.1)
        generalize hna : wd.heap.size = bM at OA LA LX ⊢
        refine Tr 8 (fun K1 hK1 => ?_)
        go_simp
        have BB := hide (bel_new w5 (.cells (madeCells #[.slice none 0 0] N) 51))
        have OB := hide (madeRow w5 (.slice none 0 0) N 51 (by have := NB.out; have := HN.out; omega))
        have OA2 := hide (own_keep (w' := w5.alloc (.cells (madeCells #[.slice none 0 0] N) 51)) OA.out (fun k hk => BB.out.block k (own_type OA.out hk).2.1))
        have SB := hide ((BB.out.block bz (lt_of_blk SA5.out)).trans SA5.out)
        have LB := hide (show w4.heap.size ≤ w5.heap.size from Nat.le_trans LA.out (Nat.le_of_lt LX.out))
        refine hK1.out _ _ (fun _ => SB.out) (fun _ => ?_)
        clear hK1 K1 OA SA5
        generalize w5.alloc (.cells (madeCells #[.slice none 0 0] N) 51) = w6 at *
        generalize hnb : w5.heap.size = bS at OB LB ⊢
        refine Tm 9 ?_
        simp only [Act.put, SA]
        refine Tr 10 (fun K1 hK1 => ?_)
        go_simp
        have BC := hide (bel_new w6 (.cells #[vP, .int .i64 c.M, .int .i64 c.A, vC, .slice aF c.F.length cF, .int .i64 c.mn, .slice aB N cB, .int .i64 0, .int .i64 0, .slice none 0 0, .int .i64 0, .slice (some ⟨bM, 0, none⟩) N N, .slice (some ⟨bS, 0, none⟩) N N, .slice none 0 0] 69))
        have VC := hide (Go.Deep.blk_alloc_new w6 (.cells #[vP, .int .i64 c.M, .int .i64 c.A, vC, .slice aF c.F.length cF, .int .i64 c.mn, .slice aB N cB, .int .i64 0, .int .i64 0, .slice none 0 0, .int .i64 0, .slice (some ⟨bM, 0, none⟩) N N, .slice (some ⟨bS, 0, none⟩) N N, .slice none 0 0] 69))
        have L6 := hide (show w4.heap.size ≤ w6.heap.size from Nat.le_trans LB.out (Nat.le_of_lt (own_type OB.out (k := bS) rfl).2.1))
        have BX := hide (show Below wd.heap.size wd w6 from BA.out.trans (BB.out.mono BA.out.size))
        have BY := hide (show Below w4.heap.size w4 (w6.alloc (.cells #[vP, .int .i64 c.M, .int .i64 c.A, vC, .slice aF c.F.length cF, .int .i64 c.mn, .slice aB N cB, .int .i64 0, .int .i64 0, .slice none 0 0, .int .i64 0, .slice (some ⟨bM, 0, none⟩) N N, .slice (some ⟨bS, 0, none⟩) N N, .slice none 0 0] 69)) from BD.out.trans ((BX.out.mono BD.out.size).trans (BC.out.mono (Nat.le_trans BD.out.size BX.out.size))))
        have RR := hide (Rs.start (wB := w4) (w := w6.alloc (.cells #[vP, .int .i64 c.M, .int .i64 c.A, vC, .slice aF c.F.length cF, .int .i64 c.mn, .slice aB N cB, .int .i64 0, .int .i64 0, .slice none 0 0, .int .i64 0, .slice (some ⟨bM, 0, none⟩) N N, .slice (some ⟨bS, 0, none⟩) N N, .slice none 0 0] 69)) (g := w6.heap.size) (bM := bM) (bS := bS) (vP := vP) (vC := vC) (vF := .slice aF c.F.length cF) (vB := .slice aB c.B.length cB) (c := c) BY.out (by rw [← HN.out]; exact VC.out) (by rw [← HN.out]; exact own_keep OA2.out (fun k hk => BC.out.block k (own_type OA2.out hk).2.1)) (by rw [← HN.out]; exact own_keep OB.out (fun k hk => BC.out.block k (own_type OB.out hk).2.1)) L6.out LA.out LB.out)
        refine hK1.out _ _ (fun _ => (BC.out.block bz (lt_of_blk SB.out)).trans SB.out) (fun _ => ?_)
        clear hK1 K1
        refine Tm 11 ?_
        simp only [Act.put, SA]
        refine T_done (by kernel_rfl) ?_ _
        refine NoPanic.normal ?_
        have hN2 := HN.out
        subst hN2
        go_wp2_with fail
        go_meet
        case rel => exact ⟨_, bM, bS, rfl, hide ⟨RR.out, BY.out⟩⟩
      · go_simp
        have BA := hide (bel_new wd (.cells (madeCells #[.slice none 0 0] N) 51))
        have OA := hide (madeRow wd (.slice none 0 0) N 51 (by have := NB.out; have := HN.out; omega))
        have SA5 := hide ((BA.out.block bz (lt_of_blk hH)).trans hH)
        refine hK1.out _ _ (fun _ => SA5.out) (fun _ => ?_)
        clear hK1 K1 hH
        generalize wd.alloc (.cells (madeCells #[.slice none 0 0] N) 51) = w5 at *
        have LA := hide (show w4.heap.size ≤ wd.heap.size from LD.out)
        have LX := hide (show wd.heap.size < w5.heap.size from (own_type OA.out (k := wd.heap.size) rfl).2.1)
        generalize hna : wd.heap.size = bS at OA LA LX ⊢
        refine Tr 4 (fun K1 hK1 => ?_)
        go_simp
        have BB := hide (bel_new w5 (.cells (madeCells #[.bool false] N) 4))
        have OB := hide (madeRow w5 (.bool false) N 4 (by have := NB.out; have := HN.out; omega))
        have OA2 := hide (own_keep (w' := w5.alloc (.cells (madeCells #[.bool false] N) 4)) OA.out (fun k hk => BB.out.block k (own_type OA.out hk).2.1))
        have SB := hide ((BB.out.block bz (lt_of_blk SA5.out)).trans SA5.out)
        have LB := hide (show w4.heap.size ≤ w5.heap.size from Nat.le_trans LA.out (Nat.le_of_lt LX.out))
        refine hK1.out _ _ (fun _ => SB.out) (fun _ => ?_)
        clear hK1 K1 OA SA5
        generalize w5.alloc (.cells (madeCells #[.bool false] N) 4) = w6 at *
        generalize hnb : w5.heap.size = bM at OB LB ⊢
        refine Tm 9 ?_
        simp only [Act.put, SA]
        refine Tr 10 (fun K1 hK1 => ?_)
        go_simp
        have BC := hide (bel_new w6 (.cells #[vP, .int .i64 c.M, .int .i64 c.A, vC, .slice aF c.F.length cF, .int .i64 c.mn, .slice aB N cB, .int .i64 0, .int .i64 0, .slice none 0 0, .int .i64 0, .slice (some ⟨bM, 0, none⟩) N N, .slice (some ⟨bS, 0, none⟩) N N, .slice none 0 0] 69))
        have VC := hide (Go.Deep.blk_alloc_new w6 (.cells #[vP, .int .i64 c.M, .int .i64 c.A, vC, .slice aF c.F.length cF, .int .i64 c.mn, .slice aB N cB, .int .i64 0, .int .i64 0, .slice none 0 0, .int .i64 0, .slice (some ⟨bM, 0, none⟩) N N, .slice (some ⟨bS, 0, none⟩) N N, .slice none 0 0] 69))
        have L6 := hide (show w4.heap.size ≤ w6.heap.size from Nat.le_trans LB.out (Nat.le_of_lt (own_type OB.out (k := bM) rfl).2.1))
        have BX := hide (show Below wd.heap.size wd w6 from BA.out.trans (BB.out.mono BA.out.size))
        have BY := hide (show Below w4.heap.size w4 (w6.alloc (.cells #[vP, .int .i64 c.M, .int .i64 c.A, vC, .slice aF c.F.length cF, .int .i64 c.mn, .slice aB N cB, .int .i64 0, .int .i64 0, .slice none 0 0, .int .i64 0, .slice (some ⟨bM, 0, none⟩) N N, .slice (some ⟨bS, 0, none⟩) N N, .slice none 0 0] 69)) from BD.out.trans ((BX.out.mono BD.out.size).trans (BC.out.mono (Nat.le_trans BD.out.size BX.out.size))))
        have RR := hide (Rs.start (wB := w4) (w := w6.alloc (.cells #[vP, .int .i64 c.M, .int .i64 c.A, vC, .slice aF c.F.length cF, .int .i64 c.mn, .slice aB N cB, .int .i64 0, .int .i64 0, .slice none 0 0, .int .i64 0, .slice (some ⟨bM, 0, none⟩) N N, .slice (some ⟨bS, 0, none⟩) N N, .slice none 0 0] 69)) (g := w6.heap.size) (bM := bM) (bS := bS) (vP := vP) (vC := vC) (vF := .slice aF c.F.length cF) (vB := .slice aB c.B.length cB) (c := c) BY.out (by rw [← HN.out]; exact VC.out) (by rw [← HN.out]; exact own_keep OB.out (fun k hk => BC.out.block k (own_type OB.out hk).2.1)) (by rw [← HN.out]; exact own_keep OA2.out (fun k hk => BC.out.block k (own_type OA2.out hk).2.1)) L6.out LB.out LA.out)
        refine hK1.out _ _ (fun _ => (BC.out.block bz (lt_of_blk SB.out)).trans SB.out) (fun _ => ?_)
        clear hK1 K1
        refine Tm 11 ?_
        simp only [Act.put, SA]
        refine T_done (by kernel_rfl) ?_ _
        refine NoPanic.normal ?_
        have hN2 := HN.out
        subst hN2
        go_wp2_with fail
        go_meet
        case rel => exact ⟨_, bM, bS, rfl, hide ⟨RR.out, BY.out⟩⟩
    case rest =>
      obtain ⟨g, bM, bS, rfl, Z0⟩ := hcut
      obtain ⟨o, ho⟩ : ∃ o, funcsM c c.F (beginM c) = o := ⟨_, rfl⟩
      have RM : Hid (readM c = o.map Rw16.st) := hide (by unfold readM; rw [if_pos HF.out, ho])
      have I0 : Hid (∃ F vLo f hi vL vs m, Rs w4 wc F g bM bS vP vC (.slice aF c.F.length cF) (.slice aB c.B.length cB) vLo c f hi vL vs m ∧ Below w4.heap.size w4 wc ∧ funcsM c (c.F.drop 0) m = o) := hide ⟨_, _, _, _, _, _, _, Z0.out.1, Z0.out.2, by rw [List.drop_zero]; exact ho⟩
      clear ho q1 q2 r1 r2
      have E0 := HQ.out.1
      have E1 := (Z0.out.2.block bz (lt_of_blk E0)).trans E0
      have w4' := blk_cell E1 4 _ rfl
      clear E0 E1 Z0
      have HW4 := hide (And.intro (HW.out.1.bel B4.out) (HW.out.2.bel B4.out))
      have FL : Hid (c.F.length ≤ 16) := hide (by have h1 := HF.out; unfold formB at h1; simp only [Bool.and_eq_true, decide_eq_true_eq] at h1; exact h1.1.1.1.2)
      go_wp2_with fail
      clear w4'
      go_loopw [6, 7, 28] (fun x6 x7 x28 wr => ∃ k : Nat, k ≤ c.F.length ∧ x28 = .int .i64 k ∧ Hid (∃ F vLo f hi vL vs m, Rs w4 wr F g bM bS vP vC (.slice aF c.F.length cF) (.slice aB c.B.length cB) vLo c f hi vL vs m ∧ Below w4.heap.size w4 wr ∧ funcsM c (c.F.drop k) m = o)) (fun x6 x7 x28 _ => c.F.length - (intOf x28).toNat)
      case atStart => exact ⟨0, Nat.zero_le _, rfl, I0⟩
      case round =>
        obtain ⟨k, hk, rfl, HI⟩ := hrel
        obtain ⟨F, vLo, f, hi, vL, vs, m, rs, be, fe⟩ := HI.out
        have R := hide rs
        have BE := hide be
        have FE := hide fe
        clear HI I0 rs be fe
        by_cases hlt : k < c.F.length
        · have hlt' : (k : Int) < (c.F.length : Int) := by omega
          have HMS : Hid (k + 1 ≤ c.F.length ∧ c.F.length - (k + 1) < c.F.length - k) := hide ⟨hlt, by omega⟩
          obtain ⟨_, _, e9, _, _, h9⟩ := HW4.out.2.F
          obtain ⟨bF, oF, vl, e8, hbF, q0, q1, q2, sl⟩ := h9 k hlt
          cases e9
          subst e8
          obtain ⟨aL, cL, eL, _⟩ := sl.form
          subst eL
          have z0 := (BE.out.cell (p := ⟨bF, oF + k * 3, none⟩) hbF).trans q0
          have z1 := (BE.out.cell (p := ⟨bF, oF + k * 3 + 1, none⟩) hbF).trans q1
          have z2 := (BE.out.cell (p := ⟨bF, oF + k * 3 + 2, none⟩) hbF).trans q2
          have SLW := hide sl
          have HKL := hide hlt
          have HNX : Hid (∀ hn : k + 1 < c.F.length, ∀ wz, Below w4.heap.size w4 wz → wz.cell? ⟨bF, oF + (k + 1) * 3, none⟩ = some (.int .i64 (c.F.getD (k + 1) zF).st)) := hide (fun hn wz hb => by obtain ⟨b2, o2, _, e2, hb2, p0, _⟩ := h9 (k + 1) hn; cases e2; exact (hb.cell (p := ⟨bF, oF + (k + 1) * 3, none⟩) hb2).trans p0)
          clear hbF q0 q1 q2 sl h9
          generalize hff : c.F.getD k zF = ff at *
          obtain ⟨st, pa, lo⟩ := ff
          simp only at z0 z1 z2 SLW
          have HFF := hide hff
          have HST : Hid (0 ≤ st) := hide (by have h1 := (fn_of HF.out HKL.out).1; rw [HFF.out] at h1; exact h1)
          clear hff
          have BN := hide (bel_new wr (.cells #[.int .i64 st, .int .i64 pa, .slice aL lo.length cL] 46))
          have VN := hide (Go.Deep.blk_alloc_new wr (.cells #[.int .i64 st, .int .i64 pa, .slice aL lo.length cL] 46))
          have RN := hide (R.out.keep BN.out)
          have BE2 := hide (BE.out.trans (BN.out.mono BE.out.size))
          have NE7 := hide (show wr.heap.size ≠ g from fun e => by have := R.out.fb g R.out.fg; omega)
          have NEZ := hide (show bz ≠ g from fun e => by have h1 := R.out.low g R.out.fg; have h2 := lt_of_blk HQ.out.1; omega)
          go_wp2_with fail
          have QZ : Hid ((wr.alloc (.cells #[.int .i64 st, .int .i64 pa, .slice aL lo.length cL] 46)).heap[bz]? = some (.cells #[vP, .int .i64 c.M, .int .i64 c.A, vC, .slice (some ⟨bF, oF, none⟩) c.F.length cF, .int .i64 c.mn, .slice aB c.B.length cB] 27)) := hide ((BE2.out.block bz (lt_of_blk HQ.out.1)).trans HQ.out.1)
          generalize wr.alloc (.cells #[.int .i64 st, .int .i64 pa, .slice aL lo.length cL] 46) = w5 at *
          obtain ⟨b7, hb7⟩ : ∃ b, b = wr.heap.size := ⟨_, rfl⟩
          rw [← hb7] at VN NE7 ⊢
          clear hb7 z0 z1 z2
          have BD := hide (show Below w5.heap.size w5 w5.drew from bel_drawn (Below.refl _ _))
          have RD := hide (RN.out.keep BD.out)
          have BE3 := hide (BE2.out.trans (BD.out.mono BE2.out.size))
          refine wp_region_noPanic ?_
          refine wp_region_T (S := fun wz => wz.heap[b7]? = some (.cells #[.int .i64 st, .int .i64 pa, .slice aL lo.length cL] 46 (0, 0)) ∧ wz.heap[bz]? = some (.cells #[vP, .int .i64 c.M, .int .i64 c.A, vC, .slice (some ⟨bF, oF, none⟩) c.F.length cF, .int .i64 c.mn, .slice aB c.B.length cB] 27 (0, 0))) (fun _ => true) mixed ⟨VN.out, QZ.out⟩ (fun hH => ?_)
          clear R RN BE BE2 BN VN QZ BD
          generalize w5.drew = wd at *
          have x7 := blk_cell RD.out.at_ 7 _ rfl
          have x8 := blk_cell RD.out.at_ 8 _ rfl
          have x9 := blk_cell RD.out.at_ 9 _ rfl
          have f7 := blk_frz RD.out.at_ 7
          have f8 := blk_frz RD.out.at_ 8
          have f9 := blk_frz RD.out.at_ 9
          refine Tm 0 ?_
          simp only [Act.put, SA]
          refine Tm 1 ?_
          simp only [Act.put, SA]
          refine Tl 2 (v := ?_) ?_ hH ?_
          rotate_left 1
          · (intro w hSw; have u0 := blk_cell hSw.1 0 _ rfl; have u1 := blk_cell hSw.1 1 _ rfl; have u2 := blk_cell hSw.1 2 _ rfl; clear hSw; go_simp <;> with_reducible rfl)
          simp only [Act.put, SA]
          refine Tm 3 ?_
          simp only [Act.put, SA]
          refine Tl 4 (v := ?_) ?_ hH ?_
          rotate_left 1
          · (intro w hSw; have u6 := blk_cell hSw.2 6 _ rfl; clear hSw; go_simp <;> with_reducible rfl)
          simp only [Act.put, SA]
          refine Tm 5 ?_
          simp only [Act.put, SA]
          refine Tm 6 ?_
          simp only [Act.put, SA]
          refine Tm 7 ?_
          simp only [Act.put, SA]
          refine Tr 8 (fun K1 hK1 => ?_)
          go_simp
          obtain ⟨k1, t1⟩ := set1 RD.out.at_ 7 (.int .i64 st)
          obtain ⟨k2, t2⟩ := set1 k1 8 (.int .i64 pa)
          obtain ⟨k3, t3⟩ := set1 k2 9 (.slice aL lo.length cL)
          have T3 := hide (t1.trans (t2.trans t3))
          have K3 := hide k3
          refine hK1.out _ _ (fun _ => ⟨(T3.out.blk _ (lt_of_blk hH.1) NE7.out).trans hH.1, (T3.out.blk _ (lt_of_blk hH.2) NEZ.out).trans hH.2⟩) (fun hH2f => ?_)
          have hH2 := hH2f rfl
          clear hH2f
          clear hK1 K1 k1 k2 k3 t1 t2 t3
          have x10 := blk_cell K3.out 10 _ rfl
          have f10 := blk_frz K3.out 10
          refine Tm 9 ?_
          simp only [Act.put, SA]
          refine Tm 10 ?_
          simp only [Act.put, SA]
          refine Tr 11 (fun K1 hK1 => ?_)
          go_simp
          have T4 := hide (set1 K3.out 10 (.int .i64 (c.B.length : Nat))).2
          refine hK1.out _ _ (fun _ => ⟨(T4.out.blk _ (lt_of_blk hH2.1) NE7.out).trans hH2.1, (T4.out.blk _ (lt_of_blk hH2.2) NEZ.out).trans hH2.2⟩) (fun _ => ?_)
          clear hK1 K1 hH hH2 x10 f10 T3 T4 K3
          have E4 := hide (RD.out.entry4 st pa (c.B.length : Int) (.slice aL lo.length cL) lo)
          clear x7 x8 x9 f7 f8 f9
          refine T_done (by kernel_rfl) ?_ _
          refine NoPanic.normal ?_
          generalize (((wd.setCell ⟨g, 7, none⟩ (.int .i64 st)).setCell ⟨g, 8, none⟩ (.int .i64 pa)).setCell ⟨g, 9, none⟩ (.slice aL lo.length cL)).setCell ⟨g, 10, none⟩ (.int .i64 (c.B.length : Nat)) = w6 at *
          have R6 := hide E4.out.1
          have B6 := hide (BE3.out.trans (E4.out.2.bel RD.out.low RD.out.bel.size))
          clear E4 RD BE3
          have Q6 := (B6.out.block bz (lt_of_blk HQ.out.1)).trans HQ.out.1
          have u4 := blk_cell Q6 4 _ rfl
          have hw1 : wrap64 ((k : Int) + 1) = ((k + 1 : Nat) : Int) := by unfold wrap64; have := FL.out; omega
          have HW1 := hide hw1
          by_cases hnx : k + 1 < c.F.length
          · have hnx' : ((k + 1 : Nat) : Int) < (c.F.length : Int) := by omega
            have v0 := HNX.out hnx w6 B6.out
            have x10 := blk_cell R6.out.at_ 10 _ rfl
            have f10 := blk_frz R6.out.at_ 10
            have E5 := hide (R6.out.ends (c.F.getD (k + 1) zF).st)
            have HE : Hid ((if k + 1 < c.F.length then (c.F.getD (k + 1) zF).st else (c.B.length : Int)) = (c.F.getD (k + 1) zF).st) := hide (if_pos hnx)
            have HL := hide (fn_of HF.out hnx)
            generalize hsx : (c.F.getD (k + 1) zF).st = sx at v0 E5 HL ⊢
            have HE2 : Hid ((if k + 1 < c.F.length then (c.F.getD (k + 1) zF).st else (c.B.length : Int)) = sx) := hide (HE.out.trans hsx)
            clear hsx HE
            have HE := HE2
            clear HE2
            go_wp2_with fail
            generalize w6.setCell ⟨g, 10, none⟩ (.int .i64 sx) = w7 at *
            have R7 := hide E5.out.1
            have B7 := hide (B6.out.trans (E5.out.2.bel R6.out.low R6.out.bel.size))
            clear E5 R6 B6 Q6 u4 v0 x10 f10 hnx
            have FU := hide (function_any ⟨HW4.out.1, HW4.out.2, SLW.out, NB.out, fm_of HF.out, HST.out⟩ R7.out (Int.le_of_lt HL.out.2) (body_of HF.out))
            go_wp2_with fail
            refine FU.out.mono ?_
            intro e w8 hp
            have LOW := hide R7.out.low
            have SZ7 := hide R7.out.bel.size
            rcases hp.both with ⟨m8, F8, vL8, vs8, ho8, rfl, r8, c8⟩ | ⟨ho8, rfl, c8⟩
            rotate_left 1
            · have b8 := B7.out.trans (c8.bel LOW.out SZ7.out)
              have A1 := (b8.block _ (lt_of_blk HQ.out.2.1)).trans HQ.out.2.1
              have A2 := (b8.block _ (lt_of_blk HQ.out.2.2)).trans HQ.out.2.2
              refine doorR_stop rfl rfl A1 A2 (fun w' hB => ?_)
              have l1 := lt_of_blk HQ.out.2.1
              have hz := HZ.out
              refine ⟨(B4.out.trans (b8.mono B4.out.size)).trans (hB _ (by omega) (by omega)), ?_⟩
              rw [RM.out, ← FE.out, funcs_drop HKL.out, HFF.out, HE.out, ho8]
              rfl
            have Z := hide (show ∃ F vLo f hi vL vs m, Rs w4 w8 F g bM bS vP vC (.slice (some ⟨bF, oF, none⟩) c.F.length cF) (.slice aB c.B.length cB) vLo c f hi vL vs m ∧ Below w4.heap.size w4 w8 ∧ funcsM c (c.F.drop (k + 1)) m = o from ⟨F8, _, _, _, vL8, vs8, m8, r8, B7.out.trans (c8.bel LOW.out SZ7.out), by rw [← FE.out, funcs_drop HKL.out, HFF.out, HE.out, ho8]; rfl⟩)
            clear hp ho8 r8 c8 FU R7 B7 LOW SZ7
            go_wp2_with fail
            go_roundw
            case rel => exact ⟨k + 1, HMS.out.1, by rw [HW1.out], Z⟩
            case measure => rw [HW1.out]; exact HMS.out.2
          · have hnx' : ¬ ((k + 1 : Nat) : Int) < (c.F.length : Int) := by omega
            have HE : Hid ((if k + 1 < c.F.length then (c.F.getD (k + 1) zF).st else (c.B.length : Int)) = (c.B.length : Int)) := hide (if_neg hnx)
            have R7 := hide R6.out
            have B7 := hide B6.out
            clear R6 B6 Q6 hnx
            have FU := hide (function_any ⟨HW4.out.1, HW4.out.2, SLW.out, NB.out, fm_of HF.out, HST.out⟩ R7.out (Int.le_refl _) (body_of HF.out))
            go_wp2_with fail
            refine FU.out.mono ?_
            intro e w8 hp
            have LOW := hide R7.out.low
            have SZ7 := hide R7.out.bel.size
            rcases hp.both with ⟨m8, F8, vL8, vs8, ho8, rfl, r8, c8⟩ | ⟨ho8, rfl, c8⟩
            rotate_left 1
            · have b8 := B7.out.trans (c8.bel LOW.out SZ7.out)
              have A1 := (b8.block _ (lt_of_blk HQ.out.2.1)).trans HQ.out.2.1
              have A2 := (b8.block _ (lt_of_blk HQ.out.2.2)).trans HQ.out.2.2
              refine doorR_stop rfl rfl A1 A2 (fun w' hB => ?_)
              have l1 := lt_of_blk HQ.out.2.1
              have hz := HZ.out
              refine ⟨(B4.out.trans (b8.mono B4.out.size)).trans (hB _ (by omega) (by omega)), ?_⟩
              rw [RM.out, ← FE.out, funcs_drop HKL.out, HFF.out, HE.out, ho8]
              rfl
            have Z := hide (show ∃ F vLo f hi vL vs m, Rs w4 w8 F g bM bS vP vC (.slice (some ⟨bF, oF, none⟩) c.F.length cF) (.slice aB c.B.length cB) vLo c f hi vL vs m ∧ Below w4.heap.size w4 w8 ∧ funcsM c (c.F.drop (k + 1)) m = o from ⟨F8, _, _, _, vL8, vs8, m8, r8, B7.out.trans (c8.bel LOW.out SZ7.out), by rw [← FE.out, funcs_drop HKL.out, HFF.out, HE.out, ho8]; rfl⟩)
            clear hp ho8 r8 c8 FU R7 B7 LOW SZ7
            go_wp2_with fail
            go_roundw
            case rel => exact ⟨k + 1, HMS.out.1, by rw [HW1.out], Z⟩
            case measure => rw [HW1.out]; exact HMS.out.2
        · have hge : k = c.F.length := by omega
          subst hge
          have EO2 : Hid (o = some m) := hide (by rw [← FE.out]; exact funcs_end c m)
          have y12 : wr.cell? ⟨g, 12, none⟩ = some (.slice (some ⟨bS, 0, none⟩) c.B.length c.B.length) := blk_cell R.out.at_ 12 _ rfl
          have A1 := (BE.out.block _ (lt_of_blk HQ.out.2.1)).trans HQ.out.2.1
          have A2 := (BE.out.block _ (lt_of_blk HQ.out.2.2)).trans HQ.out.2.2
          have s1 := blk_cell A1 0 _ rfl
          have s2 := blk_cell A2 0 _ rfl
          have t1 := blk_frz A1 0
          have t2 := blk_frz A2 0
          have HA := hide (And.intro A1 A2)
          clear A1 A2
          go_wp2_with fail
          obtain ⟨k1, u1⟩ := set1 HA.out.1 0 (.slice (some ⟨bS, 0, none⟩) c.B.length c.B.length)
          obtain ⟨k2, u2⟩ := set1 ((u1.blk _ (lt_of_blk HA.out.2) (by omega)).trans HA.out.2) 0 .nilIface
          refine doorR_end rfl rfl ((u2.blk _ (lt_of_blk k1) (by omega)).trans k1) k2 ?_
          have l1 := lt_of_blk HQ.out.2.1
          have l2 := lt_of_blk HQ.out.2.2
          have hz := HZ.out
          have hs4 := BE.out.size
          have hs0 := B4.out.size
          have hne : ∀ k, w4.heap.size ≤ k → k < wr.heap.size → ((wr.setCell ⟨bz + 1, 0, none⟩ (.slice (some ⟨bS, 0, none⟩) c.B.length c.B.length)).setCell ⟨bz + 1 + 1, 0, none⟩ .nilIface).heap[k]? = wr.heap[k]? := fun k h1 h2 => (u2.blk k (Nat.lt_of_lt_of_le h2 u1.size) (by omega)).trans (u1.blk k h2 (by omega))
          refine ⟨B4.out.trans ((BE.out.mono hs0).trans ((u1.bel (by omega) (by omega)).trans (u2.bel (by omega) (Nat.le_trans (by omega) u1.size)))), ?_⟩
          rw [RM.out, EO2.out]
          refine ⟨_, vs, rfl, ⟨R.out.sl, NB.out⟩, ?_, fun k hk => ?_, fun i s u hs hu => ?_⟩
          · have h1 := R.out.st
            have e1 : m.st.length = c.B.length := R.out.sl
            show World.ownsRow _ 0 _ 1 _ m.st.length vs
            rw [e1]
            exact own_keep h1 fun k hk => hne k (R.out.low k (by have := Option.some.inj hk; rw [← this]; exact R.out.fS)) (own_type h1 hk).2.1
          · have e2 : bS = k := Option.some.inj hk
            have h1 := R.out.low bS R.out.fS
            omega
          · obtain ⟨h1, h2, h3, h4⟩ := R.out.row i s u hs hu
            exact ⟨own_keep h1 fun k hk => (u2.blk k (Nat.lt_of_lt_of_le (own_type h1 hk).2.1 u1.size) (fun e => own_at h1 HA.out.2 (by decide) (by rw [hk, e]))).trans (u1.blk k (own_type h1 hk).2.1 (fun e => own_at h1 HA.out.1 (by decide) (by rw [hk, e]))), h3, h4⟩
end Go.Proofs.YtidjbgemnohbnaaDoor.Ck
