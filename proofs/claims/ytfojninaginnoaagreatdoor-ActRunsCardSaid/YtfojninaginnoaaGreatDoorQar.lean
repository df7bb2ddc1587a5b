/- Texts of this proof, packed: contracts of the program's functions, and the plain model that they are held against. -/
import Derived.Test.YtfojninaginnoaaGreatDoorQaq
set_option maxRecDepth 20000
set_option maxHeartbeats 4000000
namespace Go.Proofs.YtfojninaginnoaaGreatDoor.Ck
open Go.RowKit
theorem made_ok {w : World} {aP aC aS : Option Addr} {lP cP lC cC nS cS : Nat} {ps : List Int} {qs : List (Int × Int)} {S : List (List Wt)} {p : List Addr} (h17 : E3 w p) (m a fn : Int) (hP : Sl w (.slice aP lP cP) ps) (hC : SlC w (.slice aC lC cC) qs) (hS : SSrc w (.slice aS nS cS) S) (hok : okN ps m qs a = true) : Calls Tryz.prog 7 #[.agg #[.slice aP lP cP, I_ m, I_ a, .slice aC lC cC, .slice aS nS cS, I_ fn]] w (MadeP w true S (newS ps m qs a) fn) := by
  have AB := Za (Zd w (.cells #[.slice aP lP cP, I_ m, I_ a, .slice aC lC cC, .slice aS nS cS, I_ fn] 26))
  have N2 := Za (fun w3 (h3 : Below w.heap.size w w3) => rnew_any (.slice aP lP cP) (.slice aC lC cC) ps qs m a (hP.below (Nat.le_refl _) h3) (hC.below h3))
  have BX := Za (B_ w (.cells #[.slice aP lP cP, I_ m, I_ a, .slice aC lC cC, .slice aS nS cS, I_ fn] 26))
  have N1 := Za (new_ok (.slice aP lP cP) (.slice aC lC cC) ps qs m a (hP.below (Nat.le_refl _) AB.out) (hC.below AB.out) hok)
  have TY := Za (new_ty hok)
  have H17 := Za h17
  have HS := Za hS
  rw [hok] at N2
  obtain ⟨_, _, eS, hS2, hS9⟩ := hS
  cases eS
  obtain ⟨nS, hnS⟩ : ∃ n, n = S.length := ⟨_, rfl⟩
  rw [← hnS] at HS AB BX N1 hS2 ⊢
  have HN := Za hnS
  clear h17 hP hC hok hnS hS9
  have HW1 : Hid (w.heap.size < (w.alloc (.cells #[.slice aP lP cP, I_ m, I_ a, .slice aC lC cC, .slice aS nS cS, I_ fn] 26)).heap.size) := Za (by simp)
  go_enter Tryz.func7, Tryz.ntmps7
  go_wp2_with fail
  generalize w.alloc _ = w1 at *
  obtain ⟨bx, hbx⟩ : ∃ b, b = w.heap.size := ⟨_, rfl⟩
  rw [← hbx] at BX ⊢
  refine N1.out.mono ?_
  rintro e w2 ⟨gs, F, rfl, hs, hlF, hb2⟩
  replace BX := Za ((hb2.block bx (Ze BX.out)).trans BX.out)
  have x0 := Zb BX.out 0 _ rfl
  have x1 := Zb BX.out 1 _ rfl
  have x2 := Zb BX.out 2 _ rfl
  have x3 := Zb BX.out 3 _ rfl
  have x4 := Zb BX.out 4 _ rfl
  have x5 := Zb BX.out 5 _ rfl
  have B2 := Za (Zg AB.out hb2)
  have LF : Hid (∀ k, F k -> bx < k) := Za (fun k hk => by have h1 := hlF k hk; have h2 := HW1.out; omega)
  have ST := Za hs
  have HBX : Hid (bx = w.heap.size) := Za hbx
  clear hs hlF hb2 AB N1 hbx HW1
  go_wp2_with fail
  refine (N2.out _ B2.out).mono ?_
  rintro e w3 (⟨h, _⟩ | ⟨_, gm, F2, rfl, hr, hlF2, hb3⟩)
  · cases h
  have AP : Hid (∀ k, F k -> ¬ F2 k) := Za (fun k h1 h2 => by have h3 := ST.out.fb k h1; have h4 := hlF2 k h2; omega)
  have LF2 : Hid (∀ k, F2 k -> bx < k) := Za (fun k hk => by have h1 := hlF2 k hk; have h2 := Ze BX.out; omega)
  clear x0 x1 x2 x3 x4 x5
  replace BX := Za ((hb3.block bx (Ze BX.out)).trans BX.out)
  replace ST := Za (ST.out.bel hb3)
  have RT := Za hr
  have B3 := Za (Zg B2.out hb3)
  clear hr hlF2 hb3 B2 N2
  have x0 := Zb BX.out 0 _ rfl
  have x1 := Zb BX.out 1 _ rfl
  have x2 := Zb BX.out 2 _ rfl
  have x3 := Zb BX.out 3 _ rfl
  have x4 := Zb BX.out 4 _ rfl
  have x5 := Zb BX.out 5 _ rfl
  have I0 : Hid (∃ vs, Cq w3 (w3.alloc (.cells #[] 39)) S 0 (.slice (some ⟨w3.heap.size, 0, none⟩) 0 0) vs) := Za ⟨_, Cq.start w3⟩
  go_upto_region 6 with fail
  clear x0 x1 x2 x3 x4 x5
  have BX4 := Za (((Zd w3 (.cells #[] 39)).block bx (Ze BX.out)).trans BX.out)
  obtain ⟨A0, hA0⟩ : ∃ z : Value, z = .slice (some ⟨w3.heap.size, 0, none⟩) 0 0 := ⟨_, rfl⟩
  have B0 : Hid (∃ c, A0 = .slice (some ⟨w3.heap.size, 0, none⟩) 0 c) := Za ⟨_, hA0⟩
  rw [← hA0] at I0 ⊢
  generalize w3.alloc _ = w4 at *
  clear hA0
  have x4 := Zb BX4.out 4 _ rfl
  go_wp2_with fail
  clear x4 BX4
  go_loopw [9, 11, 12, 14, 49] (fun x9 x11 x12 x14 q wr => ∃ (k : Nat) (aa : Option Addr) (ca : Nat), k <= nS /\ q = I_ k /\ x9 = .slice aa k ca /\ Hid (∃ vs, Cq w3 wr S k (.slice aa k ca) vs)) (fun _ _ _ _ q _ => nS - (intOf q).toNat)
  case atStart =>
    obtain ⟨c, e⟩ := B0.out
    rw [e] at I0 ⊢
    exact ⟨0, _, c, Nat.zero_le _, rfl, rfl, I0⟩
  case round =>
    clear I0 B0
    obtain ⟨k, aa, ca, hk, rfl, rfl, HI⟩ := hrel
    obtain ⟨vs, cq⟩ := HI.out
    by_cases hlt : k < nS
    · have hlt' : (k : Int) < (nS : Int) := by omega
      obtain ⟨l, hl⟩ : ∃ l, S[k]? = some l := ⟨_, List.getElem?_eq_getElem (by rw [← HN.out]; exact hlt)⟩
      have HW : Hid (∃ b o vi, aS = some ⟨b, o, none⟩ /\ b < w.heap.size /\ w.cell? ⟨b, o + k, none⟩ = some vi /\ WSrc w vi l) := Za (by
        obtain ⟨a', c', e', _, h3⟩ := HS.out
        cases e'
        exact h3 k l hl)
      obtain ⟨b, o, vi, rfl, hbl, hc1, hws⟩ := HW.out
      have HWS := Za hws
      obtain ⟨ai, ci, rfl, hm2, hws3⟩ := hws
      obtain ⟨ml, hm⟩ : ∃ m, m = l.length := ⟨_, rfl⟩
      rw [← hm] at hc1 hm2 HWS
      have HM := Za hm
      have HL := Za hl
      have CQ := Za cq
      have BWR := Za (Zg B3.out (cq.bel.mono (Nat.le_refl _)))
      have u := (BWR.out.cell (p := ⟨b, o + k, none⟩) hbl).trans hc1
      have J0 : Hid (∃ vs, Cq w3 (wr.alloc (.cells #[] 76)) S k (.slice aa k ca) vs /\ Ci w3 (wr.alloc (.cells #[] 76)) l 0 (.slice (some ⟨wr.heap.size, 0, none⟩) 0 0) vs) := Za ⟨vs, cq.low (Zd _ _), Ci.start cq⟩
      clear HW hws3 hl hm hc1 hbl cq HI
      go_wp2_with fail
      clear u
      generalize wr.alloc _ = w5 at *
      obtain ⟨wo, hwo⟩ : ∃ z, z = wr.heap.size := ⟨_, rfl⟩
      rw [← hwo] at J0 ⊢
      clear hwo CQ BWR
      go_loopw [12, 14, 56] (fun x12 x14 q wr => ∃ (j : Nat) (av : Option Addr) (cv : Nat), j <= ml /\ q = I_ j /\ x12 = .slice av j cv /\ Hid (∃ vs, Cq w3 wr S k (.slice aa k ca) vs /\ Ci w3 wr l j (.slice av j cv) vs)) (fun _ _ q _ => ml - (intOf q).toNat)
      case atStart => exact ⟨0, _, _, Nat.zero_le _, rfl, rfl, J0⟩
      case round =>
        clear J0
        obtain ⟨j, av, cv, hj, rfl, rfl, HJ⟩ := hrel
        obtain ⟨vs, cq, ci⟩ := HJ.out
        by_cases hjt : j < ml
        · have hjt' : (j : Int) < (ml : Int) := by omega
          obtain ⟨x, hxj⟩ : ∃ x, l[j]? = some x := ⟨_, List.getElem?_eq_getElem (by rw [← HM.out]; exact hjt)⟩
          have BWR := Za (Zg B3.out cq.bel)
          obtain ⟨ai', ci', ei', hq2, hq3⟩ := HWS.out.bel BWR.out
          cases ei'
          obtain ⟨b2, o2, va, rfl, hb2, hcl, hac⟩ := hq3 j x hxj
          obtain ⟨ax, nx, cx, xs, rfl, _⟩ := id hac
          obtain ⟨xk, xo, xa, x0, x1, x2⟩ := x
          have e0 : wr.cell? ⟨b2, o2 + j * 7, none⟩ = some (I_ xk) := hcl 0 _ rfl
          have e1 : wr.cell? ⟨b2, o2 + j * 7 + 1, none⟩ = some (I_ xo) := hcl 1 _ rfl
          have e2 : wr.cell? ⟨b2, o2 + j * 7 + 2, none⟩ = some (I_ xa) := hcl 2 _ rfl
          have e3 : wr.cell? ⟨b2, o2 + j * 7 + 3, none⟩ = some (I_ x0) := hcl 3 _ rfl
          have e4 : wr.cell? ⟨b2, o2 + j * 7 + 4, none⟩ = some (I_ x1) := hcl 4 _ rfl
          have e5 : wr.cell? ⟨b2, o2 + j * 7 + 5, none⟩ = some (.int .u64 x2) := hcl 5 _ rfl
          have e6 : wr.cell? ⟨b2, o2 + j * 7 + 6, none⟩ = some (.slice ax nx cx) := hcl 6 _ rfl
          have A2 := Za (Zu (Zd wr (.cells #[I_ xk, I_ xo, I_ xa, I_ x0, I_ x1, .int .u64 x2, .slice ax nx cx] 67)) (.cells #[I_ xk, I_ xo, I_ xa, I_ x0, I_ x1, .int .u64 x2] 76))
          have CQ := Za (cq.low A2.out)
          have CI := Za (ci.low A2.out)
          have HXJ := Za hxj
          have NB : Hid (((wr.alloc (.cells #[I_ xk, I_ xo, I_ xa, I_ x0, I_ x1, .int .u64 x2, .slice ax nx cx] 67)).alloc (.cells #[I_ xk, I_ xo, I_ xa, I_ x0, I_ x1, .int .u64 x2] 76)).heap[wr.heap.size + 1]? = some (.cells #[I_ xk, I_ xo, I_ xa, I_ x0, I_ x1, .int .u64 x2] 76 (0, 0))) := Za (by
            have h1 := B_ (wr.alloc (.cells #[I_ xk, I_ xo, I_ xa, I_ x0, I_ x1, .int .u64 x2, .slice ax nx cx] 67)) (.cells #[I_ xk, I_ xo, I_ xa, I_ x0, I_ x1, .int .u64 x2] 76)
            have hs : (wr.alloc (.cells #[I_ xk, I_ xo, I_ xa, I_ x0, I_ x1, .int .u64 x2, .slice ax nx cx] 67)).heap.size = wr.heap.size + 1 := by simp
            rw [hs] at h1
            exact h1)
          have PU := Za (fun ty => pushR (w := (wr.alloc (.cells #[I_ xk, I_ xo, I_ xa, I_ x0, I_ x1, .int .u64 x2, .slice ax nx cx] 67)).alloc (.cells #[I_ xk, I_ xo, I_ xa, I_ x0, I_ x1, .int .u64 x2] 76)) (gx := wr.heap.size + 1) (ys := w6s [⟨xk, xo, xa, (x0, x1, x2)⟩]) Tryz.underlying39 info_rw rfl (by decide) (by decide) CI.out.own (by omega) rfl (fun q u hu => Zb NB.out q u (by simpa [w6s] using hu)) (w6s_one _) ty)
          clear hq3 hcl hac hxj cq ci HJ BWR hq2 NB
          go_wp2_with (first | (at_builtin; refine ZU (TS := 39) rfl (.tmp 60) (.tmp 70) rfl _ _ rfl rfl _ (PU.out _) ?_; rintro v9 w9 ⟨⟨a9, c9, rfl⟩, o9, g9, b9⟩; have R9 := Za (And.intro o9 (And.intro g9 b9)); clear o9 g9 b9))
          go_roundw
          case rel =>
            obtain ⟨h1, h2⟩ := CQ.out.step CI.out HXJ.out R9.out.1 R9.out.2.1 R9.out.2.2
            exact ⟨j + 1, a9, c9, by omega, by go_num, rfl, Za ⟨vs, h1, h2⟩⟩
          case measure => simp [intOf]; omega
        · have ej : j = ml := by omega
          subst ej
          have A2 := Za (Zd wr (.cells #[.slice av j cv] 39))
          have CQ := Za (cq.low A2.out)
          have CI := Za (ci.low A2.out)
          have NB := Za (B_ wr (.cells #[.slice av j cv] 39))
          have PU := Za (fun ty => pushR (w := wr.alloc (.cells #[.slice av j cv] 39)) (gx := wr.heap.size) (ys := [.slice av j cv]) Tryz.underlying74 info_rsw rfl (by decide) (by decide) CQ.out.al (by omega) rfl (fun q u hu => Zb NB.out q u (by simpa using hu)) (fun u hu => by simp at hu; subst hu; rfl) ty)
          clear cq ci HJ NB
          go_wp2_with (first | (at_builtin; refine ZU (TS := 74) rfl (.tmp 73) (.tmp 75) rfl _ _ rfl rfl _ (PU.out _) ?_; rintro v9 w9 ⟨⟨a9, c9, rfl⟩, o9, g9, b9⟩; have R9 := Za (And.intro o9 (And.intro g9 b9)); clear o9 g9 b9))
          go_roundw
          case rel => exact ⟨k + 1, a9, c9, by omega, by go_num, rfl, Za ⟨_, CQ.out.push CI.out HL.out HM.out R9.out.1 R9.out.2.1 R9.out.2.2⟩⟩
          case measure => simp [intOf]; omega
    · have ek : k = nS := by omega
      subst ek
      have MT : Hid (Mt w w3 wr bx (.cells #[.slice aP lP cP, I_ m, I_ a, .slice aC lC cC, .slice aS k cS, I_ fn] 26 (0, 0)) F F2 (fun _ => False) gm (newS ps m qs a) S (.slice aa k ca) vs) := Za (by
        have hbl := Ze BX.out
        refine { bo := (cq.bel.block bx hbl).trans BX.out, xb := fun e => ?_, xl := fun q hq => ?_, xs := fun q hq => Nat.lt_of_lt_of_le (ST.out.fb q hq) cq.bel.size, rt := RT.out.bel cq.bel, al := ?_, row := cq.row, f2 := fun q hq => ⟨?_, RT.out.fb q hq⟩, yl := fun q hq => ?_, tl := fun q hq => hq.elim, ap := fun q hq => ⟨AP.out q hq, fun e => ?_, fun e => e⟩, s3 := B3.out.size, bel := Zg B3.out cq.bel }
        · have := LF.out bx e
          omega
        · have h1 := LF.out q hq
          have h2 := HBX.out
          omega
        · have h1 := cq.al
          rw [← HN.out]
          exact h1
        · have h1 := LF2.out q hq
          have h2 := HBX.out
          omega
        · rcases hq with h1 | ⟨v, hv, h1⟩
          · exact ⟨cq.lo q h1, (Zf cq.al h1).2.1⟩
          · exact cq.lr v hv q h1
        · have h2 := ST.out.fb q hq
          rcases e with h1 | ⟨v, hv, h1⟩
          · have := cq.lo q h1
            omega
          · have := (cq.lr v hv q h1).1
            omega)
      have ST4 := Za (ST.out.bel cq.bel)
      have SS4 := Za (HS.out.bel (Zg B3.out cq.bel))
      have W3 := Za cq.bel.size
      have VL : Hid (vs.length = S.length) := Za (by have h1 := cq.al.1; have h2 := HN.out; omega)
      have SZ : Hid (S.length <= 2000 /\ ∀ l ∈ S, l.length <= 2000) := Za (by
        obtain ⟨_, _, _, h1, h2⟩ := HS.out
        refine ⟨h1, fun l hl => ?_⟩
        obtain ⟨i, hi⟩ := List.mem_iff_getElem?.1 hl
        obtain ⟨_, _, _, _, _, _, _, _, _, h3, _⟩ := h2 i l hi
        exact h3)
      have LB : Hid (bx < w3.heap.size /\ ¬ F2 bx) := Za ⟨Ze BX.out, fun e => by have := LF2.out bx e; omega⟩
      clear cq HI BX ST RT AP LF LF2 HS HN hS2 hk hlt
      go_upto_region 17 with fail
      refine ZE (S := fun w' => w'.heap[bx]? = some (.cells #[.slice aP lP cP, I_ m, I_ a, .slice aC lC cC, .slice aS k cS, I_ fn] 26 (0, 0))) (fun _ => true) ZK MT.out.bo (fun hH => ?_)
      replace MT := Za (MT.out.low (W' := wr.drew) (Zp (Below.refl _ _)))
      replace ST4 := Za (ST4.out.bel (w' := wr.drew) (Zp (Below.refl _ _)))
      replace SS4 := Za (SS4.out.bel (w' := wr.drew) (Zp (Below.refl _ _)))
      have W3' : Hid (w3.heap.size <= wr.drew.heap.size) := W3
      clear W3
      have W3 := W3'
      clear W3'
      generalize wr.drew = wd at *
      refine M_ 0 ?_
      simp only [Act.put, S_]
      refine M_ 1 ?_
      simp only [Act.put, S_]
      refine L_ 2 (v := ?_) ?_ hH ?_
      rotate_left 1
      · (intro w hSw; have q := Zb hSw 4 _ rfl; clear hSw; go_simp <;> with_reducible rfl)
      simp only [Act.put, S_]
      refine M_ 4 ?_
      simp only [Act.put, S_]
      refine L_ 5 (v := ?_) ?_ hH ?_
      rotate_left 1
      · (intro w hSw; have q := Zb hSw 5 _ rfl; clear hSw; go_simp <;> with_reducible rfl)
      simp only [Act.put, S_]
      refine M_ 7 ?_
      simp only [Act.put, S_]
      refine M_ 8 ?_
      simp only [Act.put, S_]
      refine M_ 9 ?_
      simp only [Act.put, S_]
      refine M_ 11 ?_
      simp only [Act.put, S_]
      refine L_ 12 (v := ?_) ?_ hH ?_
      rotate_left 1
      · (intro w hSw; have q := Zb hSw 5 _ rfl; clear hSw; go_simp <;> with_reducible rfl)
      simp only [Act.put, S_]
      clear hH
      refine ZS (rs := [3, 10]) (by kernel_rfl) (by decide) ?_
      refine Zn.cons rfl (fun K1 hK1 => ?_) (Zn.cons rfl (fun K1 hK1 => ?_) Zn.nil)
      · go_simp
        refine (scripted_any SS4.out).mono ?_
        rintro e V1 ⟨vB, R, rfl, bg, hR, hb⟩
        obtain ⟨cB, vSB, vsB, rfl, _⟩ := id bg
        have HB := Za hb
        have MT9 := Za (MT.out.more hb hR)
        refine hK1.out _ _ (fun _ => MT9.out.bo) (fun _ => ?_)
        clear hK1 K1 MT
        have MT := MT9
        clear MT9
        have PR := Za (Pre.mk (ST4.out.bel hb) TY.out bg (fun q hq e => by have h1 := ST4.out.fb q e; have h2 := (hR q hq).1; omega) (fun q hq => (hR q hq).2))
        replace W3 := Za (Nat.le_trans W3.out hb.size)
        clear ST4 SS4 bg hR hb HB
        refine ZS (rs := [6, 10]) (by kernel_rfl) (by decide) ?_
        refine Zn.cons rfl (fun K1 hK1 => ?_) (Zn.cons rfl (fun K1 hK1 => ?_) Zn.nil)
        · go_simp
          refine (start_any PR.out (H17.out.below (Nat.le_refl _) MT.out.bel) (Off.mk MT.out.xl H17.out (Nat.le_refl _)) fn).mono ?_
          rintro e V2 ⟨g, G, rfl, rn, ch⟩
          have MT9 := Za (MT.out.ch ch rn.fb)
          refine hK1.out _ _ (fun _ => MT9.out.bo) (fun _ => ?_)
          clear hK1 K1
          replace W3 := Za (Nat.le_trans W3.out ch.size)
          clear MT
          have MT := MT9
          clear MT9
          have RN := Za rn
          clear rn ch PR
          refine RT_ 10 (fun K1 hK1 => ?_)
          have HB := Za (Zd V2 (.cells #[.slice aa k ca, .slice none 0 0, .slice none 0 0] 79))
          have MT9 := Za (MT.out.box W3.out (.cells #[.slice aa k ca, .slice none 0 0, .slice none 0 0] 79))
          have GT := Za (B_ V2 (.cells #[.slice aa k ca, .slice none 0 0, .slice none 0 0] 79))
          go_simp
          refine hK1.out _ _ (fun _ => MT9.out.bo) (fun _ => ?_)
          clear hK1 K1 MT
          have MT := MT9
          clear MT9
          replace RN := Za (RN.out.bel HB.out)
          replace W3 := Za (Nat.le_trans W3.out HB.out.size)
          obtain ⟨gt, hgt⟩ : ∃ b, V2.heap.size = b := ⟨_, rfl⟩
          rw [hgt] at MT GT ⊢
          clear HB hgt
          generalize V2.alloc _ = V3 at *
          refine RT_ 13 (fun K1 hK1 => ?_)
          have hd : Hid (∀ k_, G k_ -> ¬ (F2 k_ ∨ False ∨ k_ = gt ∨ Yb (.slice aa k ca) vs k_)) := Za (fun q hq e => by
            obtain ⟨h1, h2, h3⟩ := MT.out.ap q hq
            rcases e with e | e | e | e
            · exact h1 e
            · exact e
            · exact h3 e
            · exact h2 e)
          go_simp
          refine (rStart_any (MT.out.pq (gt := gt) rfl GT.out SZ.out VL.out) (by omega) fn).mono ?_
          rintro e V4 ⟨gn, Gm, rfl, rr, ch⟩
          have RN9 := Za (RN.out.ch ch hd.out)
          have BO := Za ((ch.blk bx (Ze MT.out.bo) (fun e => by
            have h9 := LB.out
            rcases e with e | e | e | e
            · exact h9.2 e
            · exact e
            · have := (MT.out.tl gt rfl).1
              omega
            · have := (MT.out.yl bx e).1
              omega)).trans MT.out.bo)
          have LX : Hid ((∀ q, G q ∨ Gm q -> w.heap.size <= q) /\ Below w.heap.size w V4) := Za (by
            have hf : ∀ q, (F2 q ∨ False ∨ q = gt ∨ Yb (.slice aa k ca) vs q) -> w.heap.size <= q := fun q e => by
              have h3 := MT.out.s3
              rcases e with e | e | e | e
              · exact (MT.out.f2 q e).1
              · exact e.elim
              · have := (MT.out.tl q e).1
                omega
              · have := (MT.out.yl q e).1
                omega
            refine ⟨fun q hq => ?_, MT.out.bel.trans (ch.bel hf MT.out.bel.size)⟩
            rcases hq with e | e
            · exact MT.out.xl q e
            · rcases ch.grow q e with h1 | h1
              · exact hf q h1
              · have := MT.out.bel.size
                omega)
          have RR := Za rr
          refine hK1.out _ _ (fun _ => BO.out) (fun _ => ?_)
          clear hK1 K1 MT GT RN rr ch hd BO
          refine M_ 14 ?_
          simp only [Act.put, S_]
          refine M_ 15 ?_
          simp only [Act.put, S_]
          refine M_ 16 ?_
          simp only [Act.put, S_]
          refine ZX (by kernel_rfl) ?_ _
          go_wp2_with fail
          refine bodyPost_ret (v := .tuple #[P_ g, P_ gn, .bool true]) (by simp [results, Tryz.results7, go_sem]) rfl ?_
          exact .inr ⟨rfl, g, gn, G, Gm, rfl, RN9.out.1, RR.out, RN9.out.2, LX.out.1, LX.out.2⟩
        · have HB := Za (Zd V1 (.cells #[.slice aa k ca, .slice none 0 0, .slice none 0 0] 79))
          have MT9 := Za (MT.out.box W3.out (.cells #[.slice aa k ca, .slice none 0 0, .slice none 0 0] 79))
          have GT := Za (B_ V1 (.cells #[.slice aa k ca, .slice none 0 0, .slice none 0 0] 79))
          go_simp
          refine hK1.out _ _ (fun _ => MT9.out.bo) (fun _ => ?_)
          clear hK1 K1 MT
          have MT := MT9
          clear MT9
          replace PR := Za (PR.out.bel HB.out)
          replace W3 := Za (Nat.le_trans W3.out HB.out.size)
          obtain ⟨gt, hgt⟩ : ∃ b, V1.heap.size = b := ⟨_, rfl⟩
          rw [hgt] at MT GT ⊢
          clear HB hgt
          generalize V1.alloc _ = V2 at *
          refine RT_ 6 (fun K1 hK1 => ?_)
          go_simp
          refine (start_any PR.out (H17.out.below (Nat.le_refl _) MT.out.bel) (Off.mk MT.out.xl H17.out (Nat.le_refl _)) fn).mono ?_
          rintro e V3 ⟨g, G, rfl, rn, ch⟩
          have MT9 := Za (MT.out.ch ch rn.fb)
          refine hK1.out _ _ (fun _ => MT9.out.bo) (fun _ => ?_)
          clear hK1 K1
          replace W3 := Za (Nat.le_trans W3.out ch.size)
          replace GT := Za ((ch.blk gt (Ze GT.out) (fun e => (MT.out.ap gt e).2.2 rfl)).trans GT.out)
          clear MT
          have MT := MT9
          clear MT9
          have RN := Za rn
          clear rn ch PR
          refine RT_ 13 (fun K1 hK1 => ?_)
          have hd : Hid (∀ k_, G k_ -> ¬ (F2 k_ ∨ False ∨ k_ = gt ∨ Yb (.slice aa k ca) vs k_)) := Za (fun q hq e => by
            obtain ⟨h1, h2, h3⟩ := MT.out.ap q hq
            rcases e with e | e | e | e
            · exact h1 e
            · exact e
            · exact h3 e
            · exact h2 e)
          go_simp
          refine (rStart_any (MT.out.pq (gt := gt) rfl GT.out SZ.out VL.out) (by omega) fn).mono ?_
          rintro e V4 ⟨gn, Gm, rfl, rr, ch⟩
          have RN9 := Za (RN.out.ch ch hd.out)
          have BO := Za ((ch.blk bx (Ze MT.out.bo) (fun e => by
            have h9 := LB.out
            rcases e with e | e | e | e
            · exact h9.2 e
            · exact e
            · have := (MT.out.tl gt rfl).1
              omega
            · have := (MT.out.yl bx e).1
              omega)).trans MT.out.bo)
          have LX : Hid ((∀ q, G q ∨ Gm q -> w.heap.size <= q) /\ Below w.heap.size w V4) := Za (by
            have hf : ∀ q, (F2 q ∨ False ∨ q = gt ∨ Yb (.slice aa k ca) vs q) -> w.heap.size <= q := fun q e => by
              have h3 := MT.out.s3
              rcases e with e | e | e | e
              · exact (MT.out.f2 q e).1
              · exact e.elim
              · have := (MT.out.tl q e).1
                omega
              · have := (MT.out.yl q e).1
                omega
            refine ⟨fun q hq => ?_, MT.out.bel.trans (ch.bel hf MT.out.bel.size)⟩
            rcases hq with e | e
            · exact MT.out.xl q e
            · rcases ch.grow q e with h1 | h1
              · exact hf q h1
              · have := MT.out.bel.size
                omega)
          have RR := Za rr
          refine hK1.out _ _ (fun _ => BO.out) (fun _ => ?_)
          clear hK1 K1 MT GT RN rr ch hd BO
          refine M_ 14 ?_
          simp only [Act.put, S_]
          refine M_ 15 ?_
          simp only [Act.put, S_]
          refine M_ 16 ?_
          simp only [Act.put, S_]
          refine ZX (by kernel_rfl) ?_ _
          go_wp2_with fail
          refine bodyPost_ret (v := .tuple #[P_ g, P_ gn, .bool true]) (by simp [results, Tryz.results7, go_sem]) rfl ?_
          exact .inr ⟨rfl, g, gn, G, Gm, rfl, RN9.out.1, RR.out, RN9.out.2, LX.out.1, LX.out.2⟩
      · have HB := Za (Zd wd (.cells #[.slice aa k ca, .slice none 0 0, .slice none 0 0] 79))
        have MT9 := Za (MT.out.box W3.out (.cells #[.slice aa k ca, .slice none 0 0, .slice none 0 0] 79))
        have GT := Za (B_ wd (.cells #[.slice aa k ca, .slice none 0 0, .slice none 0 0] 79))
        go_simp
        refine hK1.out _ _ (fun _ => MT9.out.bo) (fun _ => ?_)
        clear hK1 K1 MT
        have MT := MT9
        clear MT9
        replace ST4 := Za (ST4.out.bel HB.out)
        replace SS4 := Za (SS4.out.bel HB.out)
        replace W3 := Za (Nat.le_trans W3.out HB.out.size)
        obtain ⟨gt, hgt⟩ : ∃ b, wd.heap.size = b := ⟨_, rfl⟩
        rw [hgt] at MT GT ⊢
        clear HB hgt
        generalize wd.alloc _ = V1 at *
        refine RT_ 3 (fun K1 hK1 => ?_)
        go_simp
        refine (scripted_any SS4.out).mono ?_
        rintro e V2 ⟨vB, R, rfl, bg, hR, hb⟩
        obtain ⟨cB, vSB, vsB, rfl, _⟩ := id bg
        have HB := Za hb
        have MT9 := Za (MT.out.more hb hR)
        refine hK1.out _ _ (fun _ => MT9.out.bo) (fun _ => ?_)
        clear hK1 K1 MT
        have MT := MT9
        clear MT9
        have PR := Za (Pre.mk (ST4.out.bel hb) TY.out bg (fun q hq e => by have h1 := ST4.out.fb q e; have h2 := (hR q hq).1; omega) (fun q hq => (hR q hq).2))
        replace W3 := Za (Nat.le_trans W3.out hb.size)
        replace GT := Za ((hb.block gt (Ze GT.out)).trans GT.out)
        clear ST4 SS4 bg hR hb HB
        refine RT_ 6 (fun K1 hK1 => ?_)
        go_simp
        refine (start_any PR.out (H17.out.below (Nat.le_refl _) MT.out.bel) (Off.mk MT.out.xl H17.out (Nat.le_refl _)) fn).mono ?_
        rintro e V3 ⟨g, G, rfl, rn, ch⟩
        have MT9 := Za (MT.out.ch ch rn.fb)
        refine hK1.out _ _ (fun _ => MT9.out.bo) (fun _ => ?_)
        clear hK1 K1
        replace W3 := Za (Nat.le_trans W3.out ch.size)
        replace GT := Za ((ch.blk gt (Ze GT.out) (fun e => (MT.out.ap gt e).2.2 rfl)).trans GT.out)
        clear MT
        have MT := MT9
        clear MT9
        have RN := Za rn
        clear rn ch PR
        refine RT_ 13 (fun K1 hK1 => ?_)
        have hd : Hid (∀ k_, G k_ -> ¬ (F2 k_ ∨ False ∨ k_ = gt ∨ Yb (.slice aa k ca) vs k_)) := Za (fun q hq e => by
          obtain ⟨h1, h2, h3⟩ := MT.out.ap q hq
          rcases e with e | e | e | e
          · exact h1 e
          · exact e
          · exact h3 e
          · exact h2 e)
        go_simp
        refine (rStart_any (MT.out.pq (gt := gt) rfl GT.out SZ.out VL.out) (by omega) fn).mono ?_
        rintro e V4 ⟨gn, Gm, rfl, rr, ch⟩
        have RN9 := Za (RN.out.ch ch hd.out)
        have BO := Za ((ch.blk bx (Ze MT.out.bo) (fun e => by
          have h9 := LB.out
          rcases e with e | e | e | e
          · exact h9.2 e
          · exact e
          · have := (MT.out.tl gt rfl).1
            omega
          · have := (MT.out.yl bx e).1
            omega)).trans MT.out.bo)
        have LX : Hid ((∀ q, G q ∨ Gm q -> w.heap.size <= q) /\ Below w.heap.size w V4) := Za (by
          have hf : ∀ q, (F2 q ∨ False ∨ q = gt ∨ Yb (.slice aa k ca) vs q) -> w.heap.size <= q := fun q e => by
            have h3 := MT.out.s3
            rcases e with e | e | e | e
            · exact (MT.out.f2 q e).1
            · exact e.elim
            · have := (MT.out.tl q e).1
              omega
            · have := (MT.out.yl q e).1
              omega
          refine ⟨fun q hq => ?_, MT.out.bel.trans (ch.bel hf MT.out.bel.size)⟩
          rcases hq with e | e
          · exact MT.out.xl q e
          · rcases ch.grow q e with h1 | h1
            · exact hf q h1
            · have := MT.out.bel.size
              omega)
        have RR := Za rr
        refine hK1.out _ _ (fun _ => BO.out) (fun _ => ?_)
        clear hK1 K1 MT GT RN rr ch hd BO
        refine M_ 14 ?_
        simp only [Act.put, S_]
        refine M_ 15 ?_
        simp only [Act.put, S_]
        refine M_ 16 ?_
        simp only [Act.put, S_]
        refine ZX (by kernel_rfl) ?_ _
        go_wp2_with fail
        refine bodyPost_ret (v := .tuple #[P_ g, P_ gn, .bool true]) (by simp [results, Tryz.results7, go_sem]) rfl ?_
        exact .inr ⟨rfl, g, gn, G, Gm, rfl, RN9.out.1, RR.out, RN9.out.2, LX.out.1, LX.out.2⟩
def BigP (w : World) (vS : Value) (S : List (List Wt)) (e : Ending) (w' : World) : Prop := ∃ b, e = .returned (.bool b) /\ Below w.heap.size w w' /\ (b = false -> SSrc w vS S)
def BigO (w : World) (a : Option Addr) (S : List (List Wt)) (k N : Nat) : Prop := k <= N /\ ∀ (i : Nat) (l : List Wt) (b o : Nat) (vi : Value), i < k -> S[i]? = some l -> a = some ⟨b, o, none⟩ -> w.cell? ⟨b, o + i, none⟩ = some vi -> N <= 2000 -> WSrc w vi l
def BigI (w : World) (a : Option Addr) (l : List Wt) (j N : Nat) : Prop := ∀ (q : Nat) (x : Wt) (b o : Nat) (va : Value), q < j -> l[q]? = some x -> a = some ⟨b, o, none⟩ -> w.cell? ⟨b, o + q * 7 + 6, none⟩ = some va -> N <= 2000 -> ArgC w va
theorem BigO.next {w : World} {a : Option Addr} {S : List (List Wt)} {k N M : Nat} {l : List Wt} {ai : Option Addr} {ci b o : Nat} (h : BigO w a S k N) (hm : N + 1 + l.length <= M) (hl : S[k]? = some l) (ha : a = some ⟨b, o, none⟩) (hc : w.cell? ⟨b, o + k, none⟩ = some (.slice ai l.length ci)) (hw : WSrcU w (.slice ai l.length ci) l) (hi : BigI w ai l l.length M) : BigO w a S (k + 1) M := by
 refine ⟨by have := h.1; omega, fun i l' b' o' vi h1 h2 h3 h4 h5 => ?_⟩
 by_cases e : i = k
 · subst e
   rw [hl] at h2
   cases h2
   rw [ha] at h3
   cases h3
   rw [hc] at h4
   cases h4
   obtain ⟨a2, c2, e2, q1, q2⟩ := hw
   cases e2
   refine ⟨ai, ci, rfl, by omega, fun j x hx => ?_⟩
   obtain ⟨b2, o2, va, r1, r2, r3, r4⟩ := q2 j x hx
   refine ⟨b2, o2, va, r1, r2, r3, ?_⟩
   exact hi j x b2 o2 va (G_ hx) hx r1 (r3 6 va rfl) h5
 · exact h.2 i l' b' o' vi (by omega) h2 h3 h4 (by have := h.1; omega)
theorem BigI.next {w : World} {a : Option Addr} {l : List Wt} {j N M n : Nat} {x : Wt} {b o c : Nat} {ax : Option Addr} (h : BigI w a l j N) (hm : N + n <= M) (hx : l[j]? = some x) (ha : a = some ⟨b, o, none⟩) (hc : w.cell? ⟨b, o + j * 7 + 6, none⟩ = some (.slice ax n c)) (hA : ArgU w (.slice ax n c)) : BigI w a l (j + 1) M := fun q x' b' o' va h1 h2 h3 h4 h5 => by
 by_cases e : q = j
 · subst e
   rw [ha] at h3
   cases h3
   rw [hc] at h4
   cases h4
   obtain ⟨a2, n2, c2, e2, q1, q2⟩ := hA
   cases e2
   exact q2 (by omega)
 · exact h q x' b' o' va (by omega) h2 h3 h4 (by omega)
theorem BigO.src {w : World} {a : Option Addr} {S : List (List Wt)} {N c : Nat} (h : BigO w a S S.length N) (hN : N <= 2000) (hS : SSrcU w (.slice a S.length c) S) : SSrc w (.slice a S.length c) S := by
 obtain ⟨a2, c2, e2, q1, q2⟩ := hS
 cases e2
 refine ⟨a, c, rfl, by have := h.1; omega, fun i l hl => ?_⟩
 obtain ⟨b, o, vi, r1, r2, r3, r4⟩ := q2 i l hl
 exact ⟨b, o, vi, r1, r2, r3, h.2 i l b o vi (G_ hl) hl r1 r3 hN⟩
theorem big_any {w : World} {vP vC vS : Value} {ps : List Int} {qs : List (Int × Int)} {S : List (List Wt)} (m a fn : Int) (hP : Sl w vP ps) (hp2 : ps.length <= 140737488351232) (hC : SlC w vC qs) (hq2 : qs.length <= 140737488351232) (hS : SSrcU w vS S) : Calls Tryz.prog 6 #[.agg #[vP, I_ m, I_ a, vC, vS, I_ fn]] w (BigP w vS S) := by
  obtain ⟨aP, lP, cP, rfl, hlP⟩ := hP.slice
  obtain ⟨aC, cC, rfl, _⟩ := hC
  have HS := Za hS
  obtain ⟨aS, cS, rfl, hS1, hS2⟩ := hS
  obtain ⟨nS, hnS⟩ : ∃ n, n = S.length := ⟨_, rfl⟩
  obtain ⟨lC, hlC⟩ : ∃ n, n = qs.length := ⟨_, rfl⟩
  rw [← hnS] at hS1 ⊢
  rw [← hnS] at HS
  rw [← hlC] at hq2 ⊢
  have HN := Za hnS
  obtain ⟨N0, hN0⟩ : ∃ N0, lP + lC = N0 := ⟨_, rfl⟩
  have hc0 : N0 <= 281474976702464 := by omega
  have hbP : (lP : Int) <= 140737488351232 := by omega
  have hbC : (lC : Int) <= 140737488351232 := by omega
  have HN0 := Za hN0
  clear hnS hlC hlP hS2 hP hp2 hN0 hq2
  have HB := Za (Zd w (.cells #[.slice aP lP cP, I_ m, I_ a, .slice aC lC cC, .slice aS nS cS, I_ fn] 26))
  go_enter Tryz.func6, Tryz.ntmps6
  go_wp2_with fail
  generalize w.alloc _ = w1 at *
  go_loopw [3, 5, 7, 18] (fun x3 x5 x7 q wr => ∃ k N : Nat, k <= nS /\ q = I_ k /\ x3 = I_ N /\ Hid (N <= N0 + 2000 + k /\ BigO w aS S k N /\ Below w.heap.size w wr)) (fun _ _ _ q _ => nS - (intOf q).toNat)
  case atStart => exact ⟨0, N0, Nat.zero_le _, rfl, by rw [← HN0.out]; go_num, Za ⟨by omega, ⟨Nat.zero_le _, fun i l b o vi hi => absurd hi (Nat.not_lt_zero _)⟩, HB.out⟩⟩
  case round =>
    obtain ⟨k, N, hk, rfl, rfl, HI⟩ := hrel
    have hNb := HI.out.1
    by_cases hlt : k < nS
    · have hlt' : (k : Int) < (nS : Int) := by omega
      obtain ⟨l, hl⟩ : ∃ l, S[k]? = some l := ⟨_, List.getElem?_eq_getElem (by rw [← HN.out]; exact hlt)⟩
      have HW : Hid (∃ b o ai ci, aS = some ⟨b, o, none⟩ /\ b < w.heap.size /\ w.cell? ⟨b, o + k, none⟩ = some (.slice ai l.length ci) /\ WSrcU w (.slice ai l.length ci) l) := Za (by
        obtain ⟨a', c', e', _, h3⟩ := HS.out
        cases e'
        obtain ⟨b, o, vi, e1, e2, e3, e4⟩ := h3 k l hl
        obtain ⟨ai, ci, e5, _⟩ := id e4
        subst e5
        exact ⟨b, o, ai, ci, e1, e2, e3, e4⟩)
      obtain ⟨b, o, ai, ci, rfl, hbl, hc1, hws⟩ := HW.out
      have HC1 := Za hc1
      have HL := Za hl
      have HWS := Za hws
      have hml : l.length <= 140737488351232 := by
        obtain ⟨_, _, _, q, _⟩ := hws
        exact q
      obtain ⟨ml, hm⟩ : ∃ m, m = l.length := ⟨_, rfl⟩
      rw [← hm] at hc1 hml
      have HM := Za hm
      have u := (HI.out.2.2.cell (p := ⟨b, o + k, none⟩) hbl).trans hc1
      obtain ⟨N1, hN1⟩ : ∃ M, M = N + 1 + ml := ⟨_, rfl⟩
      have HN1 := Za hN1
      have I0 : Hid ((0 < 0 -> N1 <= 2000) /\ N1 <= N1 /\ BigI w ai l 0 N1 /\ Below w.heap.size w wr) := Za ⟨fun h => absurd h (Nat.lt_irrefl _), Nat.le_refl _, fun q x b o va hq => absurd hq (Nat.not_lt_zero _), HI.out.2.2⟩
      have hN1b : N1 <= 600000000000000 := by omega
      clear HW hws hl hm hc1 hN1 hbl
      go_wp2_with fail
      obtain ⟨wo, hwo⟩ : ∃ z, z = wr := ⟨_, rfl⟩
      clear u
      go_loopw [3, 7, 29] (fun x3 x7 q wr => ∃ j M : Nat, j <= ml /\ q = I_ j /\ x3 = I_ M /\ M <= 600000000000000 /\ Hid ((0 < j -> M <= 2000) /\ N1 <= M /\ (j = 0 -> M = N1) /\ BigI w ai l j M /\ Below w.heap.size w wr)) (fun _ _ q _ => ml - (intOf q).toNat)
      case atStart => exact ⟨0, N1, Nat.zero_le _, rfl, by rw [HN1.out]; go_num, hN1b, Za ⟨I0.out.1, I0.out.2.1, fun _ => rfl, I0.out.2.2⟩⟩
      case round =>
        obtain ⟨j, M, hj, rfl, rfl, hMb, HJ⟩ := hrel
        by_cases hjt : j < ml
        · have hjt' : (j : Int) < (ml : Int) := by omega
          obtain ⟨x, hxj⟩ : ∃ x, l[j]? = some x := ⟨_, List.getElem?_eq_getElem (by rw [← HM.out]; exact hjt)⟩
          have HX : Hid (∃ b2 o2 ax nx cx, ai = some ⟨b2, o2, none⟩ /\ b2 < w.heap.size /\ (∀ (q : Nat) (u : Value), (wcs x (.slice ax nx cx))[q]? = some u -> w.cell? ⟨b2, o2 + j * 7 + q, none⟩ = some u) /\ ArgU w (.slice ax nx cx) /\ nx <= 140737488351232) := Za (by
            obtain ⟨a', c', e', _, h3⟩ := HWS.out
            cases e'
            obtain ⟨b2, o2, va, e1, e2, e3, e4⟩ := h3 j x hxj
            obtain ⟨ax, nx, cx, e5, e6, _⟩ := id e4
            subst e5
            exact ⟨b2, o2, ax, nx, cx, e1, e2, e3, e4, e6⟩)
          obtain ⟨b2, o2, ax, nx, cx, rfl, hb2, hcl, hA, hnx⟩ := HX.out
          have HXJ := Za hxj
          have HCL := Za (hcl 6 _ rfl)
          have HA := Za hA
          have hbe := HJ.out.2.2.2.2
          obtain ⟨xk, xo, xa, x0, x1, x2⟩ := x
          have e0 : wr.cell? ⟨b2, o2 + j * 7, none⟩ = some (I_ xk) := (hbe.cell (p := ⟨b2, o2 + j * 7, none⟩) hb2).trans (hcl 0 _ rfl)
          have e1 : wr.cell? ⟨b2, o2 + j * 7 + 1, none⟩ = some (I_ xo) := (hbe.cell (p := ⟨b2, o2 + j * 7 + 1, none⟩) hb2).trans (hcl 1 _ rfl)
          have e2 : wr.cell? ⟨b2, o2 + j * 7 + 2, none⟩ = some (I_ xa) := (hbe.cell (p := ⟨b2, o2 + j * 7 + 2, none⟩) hb2).trans (hcl 2 _ rfl)
          have e3 : wr.cell? ⟨b2, o2 + j * 7 + 3, none⟩ = some (I_ x0) := (hbe.cell (p := ⟨b2, o2 + j * 7 + 3, none⟩) hb2).trans (hcl 3 _ rfl)
          have e4 : wr.cell? ⟨b2, o2 + j * 7 + 4, none⟩ = some (I_ x1) := (hbe.cell (p := ⟨b2, o2 + j * 7 + 4, none⟩) hb2).trans (hcl 4 _ rfl)
          have e5 : wr.cell? ⟨b2, o2 + j * 7 + 5, none⟩ = some (.int .u64 x2) := (hbe.cell (p := ⟨b2, o2 + j * 7 + 5, none⟩) hb2).trans (hcl 5 _ rfl)
          have e6 : wr.cell? ⟨b2, o2 + j * 7 + 6, none⟩ = some (.slice ax nx cx) := (hbe.cell (p := ⟨b2, o2 + j * 7 + 6, none⟩) hb2).trans (hcl 6 _ rfl)
          obtain ⟨M1, hM1⟩ : ∃ K, K = M + nx := ⟨_, rfl⟩
          have hMM : (M : Int) + (nx : Int) = (M1 : Int) := by omega
          have HM1 := Za hM1
          have HB2 := Za (Zg hbe (Zd wr (.cells #[I_ xk, I_ xo, I_ xa, I_ x0, I_ x1, .int .u64 x2, .slice ax nx cx] 67)))
          clear HX hcl hA hxj hbe hM1 hb2
          by_cases hbig : 2000 < M1
          · have hbig' : (2000 : Int) < (M : Int) + (nx : Int) := by omega
            clear hMM
            go_wp2_with fail
            go_ret
            exact ⟨true, rfl, HB2.out, fun h => by cases h⟩
          · have hbig' : ¬ (2000 : Int) < (M : Int) + (nx : Int) := by omega
            clear hMM
            have hM2 : M1 <= 2000 := by omega
            go_wp2_with fail
            go_roundw
            case rel => exact ⟨j + 1, M1, by omega, by go_num, by rw [HM1.out]; go_num, by omega, Za ⟨fun _ => hM2, by have := HJ.out.2.1; have := HM1.out; omega, fun h => by omega, HJ.out.2.2.2.1.next (by have := HM1.out; omega) HXJ.out rfl HCL.out HA.out, HB2.out⟩⟩
            case measure => simp [intOf]; omega
        · have ej : j = ml := by omega
          subst ej
          have HO : Hid (M <= N0 + 2000 + (k + 1) /\ BigO w (some ⟨b, o, none⟩) S (k + 1) M /\ Below w.heap.size w wr) := Za (by
            obtain ⟨h1, h2, h3, h4, h5⟩ := HJ.out
            have hm := HM.out
            have hn1 := HN1.out
            refine ⟨?_, BigO.next (l := l) HI.out.2.1 (by omega) HL.out rfl HC1.out HWS.out (by rw [← hm]; exact h4), h5⟩
            by_cases hj0 : j = 0
            · have := h3 hj0
              omega
            · have := h1 (by omega)
              omega)
          clear HJ
          go_wp2_with fail
          go_roundw
          case rel => exact ⟨k + 1, M, by omega, by go_num, rfl, HO⟩
          case measure => simp [intOf]; omega
    · have ek : k = nS := by omega
      subst ek
      have HR : Hid (N <= 2000 -> SSrc w (.slice aS k cS) S) := Za (fun h => by
        have h1 := HN.out
        have h2 := HS.out
        have h3 := HI.out.2.1
        rw [h1] at h2 h3 ⊢
        exact h3.src h h2)
      have HB2 := Za HI.out.2.2
      clear HI HS
      by_cases hbig : 2000 < N
      · have hbig' : (2000 : Int) < (N : Int) := by omega
        go_wp2_with fail
        go_ret
        exact ⟨true, by simp, HB2.out, fun h => by cases h⟩
      · have hbig' : ¬ (2000 : Int) < (N : Int) := by omega
        go_wp2_with fail
        go_ret
        exact ⟨false, by simp, HB2.out, fun _ => HR.out (by omega)⟩
theorem made_any {w : World} {aP aC aS : Option Addr} {lP cP lC cC nS cS : Nat} {ps : List Int} {qs : List (Int × Int)} {S : List (List Wt)} {p : List Addr} (h17 : E3 w p) (m a fn : Int) (hP : Sl w (.slice aP lP cP) ps) (hC : SlC w (.slice aC lC cC) qs) (hS : SSrc w (.slice aS nS cS) S) : Calls Tryz.prog 7 #[.agg #[.slice aP lP cP, I_ m, I_ a, .slice aC lC cC, .slice aS nS cS, I_ fn]] w (MadeP w (okN ps m qs a) S (newS ps m qs a) fn) := by
 cases h : okN ps m qs a with
 | true => exact made_ok h17 m a fn hP hC hS h
 | false => exact made_bad h17 m a fn hP hC h
theorem Pks.form {w : World} {F : Nat -> Prop} {v : Value} {l : List Int} {n : Nat} (h : Pks w F v l n) : ∃ ob nb, v = .func (.func 45) #[] #[P_ ob, P_ nb] := by
 obtain ⟨ob, nb, vS, h⟩ := h
 exact ⟨ob, nb, h.is⟩
theorem Ch.lo {F F' : Nat -> Prop} {w w' : World} {N : Nat} (c : Ch F F' w w') (h : ∀ k, F k -> N <= k) (hN : N <= w.heap.size) : ∀ k, F' k -> N <= k := fun k hk => by
 rcases c.grow k hk with h1 | h1
 · exact h k h1
 · omega
def endP (r : Rm) : En := if runs r = true then ⟨4, 0, 0, 0, 0⟩ else Ys r
structure Sd (w W : World) (G F : Nat -> Prop) (g : Nat) (S : List (List Wt)) (v : Value) (l : List Int) (r : Rm) (n : Nat) : Prop where
 rn : Rn W G g S r
 pk : Pks W F v l n
 ap : ∀ k, F k -> ¬ G k
 lo : ∀ k, G k ∨ F k -> w.heap.size <= k
section
variable {w W W' : World} {G F X X' : Nat → Prop} {g : Nat} {S : List (List Wt)} {v : Value} {l : List Int} {r : Rm} {n : Nat}
theorem Sd.play {p : List Addr} (h : Sd w W G F g S v l r n) (h17 : E3 w p) (hb : Below w.heap.size w W) (fuel : Int) (hf : fuel <= 1000) :
 Calls Tryz.prog 13 #[P_ g, v, I_ fuel] W fun e W' => e = .returned (EnV (endP (playW S l fuel r n).1)) /\ ∃ G', Sd w W' G' F g S v l (playW S l fuel r n).1 (playW S l fuel r n).2 /\ Ch (fun k => G k ∨ F k) (fun k => G' k ∨ F k) W W' /\ Below w.heap.size w W' := by
 obtain ⟨ob, nb, rfl⟩ := h.pk.form
 refine (Play_any (S := S) ⟨h.rn, h.pk, h.ap, h17.below (Nat.le_refl _) hb, Off.mk (fun k hk => h.lo k (.inl hk)) h17 (Nat.le_refl _), Off.mk (fun k hk => h.lo k (.inr hk)) h17 (Nat.le_refl _), Ch.refl _ _⟩ fuel hf).mono ?_
 rintro e W' ⟨he, G', rn, pk, ap, ch⟩
 exact ⟨he, G', ⟨rn, pk, ap, ch.lo h.lo hb.size⟩, ch, hb.trans (ch.bel h.lo hb.size)⟩
end
section
variable {W W' : World} {X X' Y : Nat → Prop} {v : Value} {l : List Evt}
end
theorem out_settle (r : Rm) : outR (Yi r) = outR r := rfl
theorem end_settle (r : Rm) : Ys (Yi r) = (Yi r).e := by
 by_cases h : r.e.o = 0
 · have e1 : Ys r = ⟨outR r, 0, 0, 0, 0⟩ := by unfold Ys; rw [if_pos h]
   by_cases h2 : outR r = 0
   · have e2 : Ys (Yi r) = ⟨outR (Yi r), 0, 0, 0, 0⟩ := by
      unfold Ys
      rw [if_pos]
      show (Ys r).o = 0
      rw [e1]
      exact h2
     rw [e2, out_settle]
     exact e1.symm
   · unfold Ys
     rw [if_neg]
     show ¬ (Ys r).o = 0
     rw [e1]
     exact h2
 · have e1 : Ys r = r.e := by unfold Ys; rw [if_neg h]
   unfold Ys
   rw [if_neg]
   show ¬ (Ys r).o = 0
   rw [e1]
   exact h
theorem ez_settle (r : Rm) : Ez (Yi r) := fun h => by
 have h1 : (Ys r).o = 0 := h
 show Ys r = zE
 unfold Ys at h1 ⊢
 by_cases h0 : r.e.o = 0
 · rw [if_pos h0] at h1 ⊢
   have h2 : outR r = 0 := h1
   rw [h2]
   rfl
 · rw [if_neg h0] at h1
   exact absurd h1 h0
theorem over_eq {r : Rm} (hs : Ys r = r.e) : overZ r.z = endP r := by
 unfold overZ endP runs
 rw [hs]
 show (if r.e.o = 0 then (⟨4, 0, 0, 0, 0⟩ : En) else r.e) = _
 by_cases h : r.e.o = 0
 · rw [if_pos h, if_pos (by simp [h])]
 · rw [if_neg h, if_neg (by simp [h])]
theorem choose_eq {L l : List Int} {at_ n : Nat} (h0 : 0 < L.length) (h : n = at_ % l.length) : (Yv L l at_).1 = (ZZ L l n).1 /\ (ZZ L l n).2 = (Yv L l at_).2 % l.length := by
 unfold Yv ZZ
 by_cases h1 : L.length = 1
 · rw [if_pos h1, if_neg (by omega)]
   exact ⟨rfl, h⟩
 · rw [if_neg h1]
   by_cases hl : 0 < l.length
   · rw [if_pos (by omega)]
     have hn : n < l.length := by rw [h]; exact Nat.mod_lt _ hl
     have hp : pickR l n = (l.getD n 0, (n + 1) % l.length) := by simp [pickR, List.getElem?_eq_getElem hn, List.getD]
     rw [hp, h]
     refine ⟨rfl, ?_⟩
     show (at_ % l.length + 1) % l.length = (at_ + 1) % l.length
     rw [Nat.add_mod, Nat.mod_mod, ← Nat.add_mod]
   · rw [if_neg (by omega)]
     have e : l = [] := List.length_eq_zero_iff.1 (by omega)
     subst e
     have hp : pickR [] n = (0, n) := rfl
     rw [hp]
     refine ⟨?_, h⟩
     simp
theorem choose_le (L l : List Int) (n : Nat) : (Yv L l n).2 <= n + 1 := by
 unfold Yv
 split
 · exact Nat.le_refl _
 · exact Nat.le_succ _
structure Pz (w1 wr : World) (G G' : Nat -> Prop) (bE bA B g : Nat) (S : List (List Wt)) (r : Rm) (a : Nat) : Prop where
 rr : Rr wr G' B g S r.z
 hs : Ys r = r.e
 ez : Ez r
 ha : wr.heap[bA]? = some (.cells #[.int .i64 (a : Nat)] 3 (0, 0))
 hv : wr.heap[bE]? = some (.cells #[.int .i64 0, .int .i64 0, .int .i64 0, .int .i64 0, .int .i64 0] 37 (0, 0))
 na : ¬ G' bA
 ne : ¬ G' bE
 nn : bE ≠ bA
 ch : Ch (fun k => G k ∨ k = bA) (fun k => G' k ∨ k = bA) w1 wr
section
variable {w1 wr w' : World} {G G' G2 : Nat → Prop} {bE bA B B2 g a a2 : Nat} {S : List (List Wt)} {r r2 : Rm}
theorem Pz.bel (h : Pz w1 wr G G' bE bA B g S r a) (hb : Below wr.heap.size wr w') : Pz w1 w' G G' bE bA B g S r a :=
 ⟨h.rr.bel hb, h.hs, h.ez, (hb.block bA (Ze h.ha)).trans h.ha, (hb.block bE (Ze h.hv)).trans h.hv, h.na, h.ne, h.nn, h.ch.trans (Ch.of_bel hb)⟩
theorem Pz.run (h : Pz w1 wr G G' bE bA B g S r a) (rr : Rr w' G2 B2 g S r2.z) (c : Ch G' G2 wr w') (hs : Ys r2 = r2.e) (ez : Ez r2) : Pz w1 w' G G2 bE bA B2 g S r2 a := by
 obtain ⟨a1, a2, a3⟩ := c.keepB h.na (Ze h.ha)
 obtain ⟨b1, b2, b3⟩ := c.keepB h.ne (Ze h.hv)
 refine ⟨rr, hs, ez, a1.trans h.ha, b1.trans h.hv, a2, b2, h.nn, h.ch.trans (c.wide (fun _ hk => .inl hk) (fun k hk => ?_))⟩
 rcases hk with h5 | h5
 · exact (c.grow k h5).imp .inl id
 · exact .inl (.inr h5)
theorem Pz.pick (h : Pz w1 wr G G' bE bA B g S r a) (ha : w'.heap[bA]? = some (.cells #[I_ (a2 : Nat)] 3 (0, 0))) (c : Ch (fun k => k = bA) (fun k => k = bA) wr w') : Pz w1 w' G G' bE bA B g S r a2 :=
 ⟨(h.rr.ch c (fun _ hk e => h.na (e ▸ hk))).1, h.hs, h.ez, ha, (c.blk bE (Ze h.hv) h.nn).trans h.hv, h.na, h.ne, h.nn, h.ch.trans (c.wide (fun _ hk => .inr hk) (fun _ hk => .inl hk))⟩
end
theorem rr_ev {W : World} {G : Nat -> Prop} {B g : Nat} {S : List (List Wt)} {r : Rz} (h : Rr W G B g S r) : ∃ aE cE, W.cell? ⟨g, 2, none⟩ = some (.slice aE r.ev.length cE) /\ W.cell? ⟨g, 3, none⟩ = some (I_ r.e.o) := by
 obtain ⟨Fs, Rs, Fo, R, gs, gt, vW, vE, vL, vO, vA, vs, os, as_, q, hG⟩ := h
 obtain ⟨aE, cE, eE, _⟩ := Zl q.ev
 subst eE
 exact ⟨aE, cE, q.cells.1.2.2.1, q.cells.2.1.1⟩
def PlayZ (w W : World) (G : Nat -> Prop) (g : Nat) (S : List (List Wt)) (q : Rm) (e : Ending) (W' : World) : Prop := e = .returned (EnV (endP q)) /\ ∃ G' B', B' <= 3000 /\ Rr W' G' B' g S q.z /\ Ys q = q.e /\ Ch G G' W W' /\ (∀ k, G' k -> w.heap.size <= k) /\ Below w.heap.size w W'
theorem rr_n8 {W : World} {G : Nat -> Prop} {B g : Nat} {S : List (List Wt)} {r : Rm} (h : Rr W G B g S r.z) : r.gs.length <= 8 := by
 obtain ⟨Fs, Rs, Fo, R, gs, gt, vW, vE, vL, vO, vA, vs, os, as_, q, hG⟩ := h
 have := q.n8.1
 simpa [Rm.z] using this
theorem left_le {fuel : Int} (hf : fuel <= 1000) (r : Rm) : left fuel r <= 1001 := by
 unfold left
 split <;> omega
theorem chosen {S : List (List Wt)} {r : Rm} {L : List Int} (hL : L = Ye r) (hs : Ys r = r.e) (ez : Ez r) (h0 : r.e.o = 0) (l : List Int) (a : Nat) : 0 < L.length /\ ∃ (i : Nat) (x : Gr), (Yv L l a).1 = (i : Int) /\ (ZZ L l (a % l.length)).1 = (i : Int) /\ can r (i : Int) = true /\ r.gs[i]? = some x /\ ZY r x.w = true /\ runs r = true /\ doZ S r.z i = (doR S r i).z := by
 have hr : runs r = true := by
  unfold runs
  rw [hs, h0]
  rfl
 have hp : 0 < L.length := by rw [hL]; exact runn_some hr h0
 have hm := choose_mem (l := l) (n := a % l.length) hp
 rw [hL] at hm
 obtain ⟨i, hi, hc, _⟩ := runn_mem hm
 obtain ⟨x, hx⟩ : ∃ x, r.gs[i]? = some x := by
  unfold can at hc
  rw [lk_nat] at hc
  cases hx : r.gs[i]? with
  | none => rw [hx] at hc; cases hc
  | some x => exact ⟨x, rfl⟩
 have hcw : ZY r x.w = true := by
  rw [can_at hx] at hc
  exact hc
 rw [← hL] at hi
 exact ⟨hp, i, x, (choose_eq hp rfl).1.trans hi, hi, hc, hx, hcw, hr, do_eq (ez h0) hx hcw⟩
theorem rPlay_any {w W : World} {G : Nat -> Prop} {B g : Nat} {S : List (List Wt)} {r : Rm} {l : List Int} {aP : Option Addr} {cP : Nat} (h : Rr W G B g S r.z) (lo : ∀ k, G k -> w.heap.size <= k) (hb : Below w.heap.size w W) (hP : Sl w (.slice aP l.length cP) l) (hl : l.length <= 100000) (hs : Ys r = r.e) (ez : Ez r) (fuel : Int) (hf : fuel <= 1000) (hB : B <= 1000) :
    Calls Tryz.prog 15 #[P_ g, .slice aP l.length cP, I_ fuel] W (PlayZ w W G g S (playW S l fuel r 0).1) := by
  obtain ⟨q, hq⟩ : ∃ q, playW S l fuel r 0 = q := ⟨_, rfl⟩
  rw [hq]
  have LT := Za (left_le hf r)
  have B1 := Zd W (.cells #[I_ 0, I_ 0, I_ 0, I_ 0, I_ 0] 37)
  have V1 := B_ W (.cells #[I_ 0, I_ 0, I_ 0, I_ 0, I_ 0] 37)
  have Z1 : (W.alloc (.cells #[I_ 0, I_ 0, I_ 0, I_ 0, I_ 0] 37)).heap.size = W.heap.size + 1 := by simp
  have B2 := Zd (W.alloc (.cells #[I_ 0, I_ 0, I_ 0, I_ 0, I_ 0] 37)) (.cells #[I_ 0] 3)
  have V2 := B_ (W.alloc (.cells #[I_ 0, I_ 0, I_ 0, I_ 0, I_ 0] 37)) (.cells #[I_ 0] 3)
  rw [Z1] at B2 V2
  have V3 := (B2.block W.heap.size (by omega)).trans V1
  have B3 : Below W.heap.size W ((W.alloc (.cells #[I_ 0, I_ 0, I_ 0, I_ 0, I_ 0] 37)).alloc (.cells #[I_ 0] 3)) := B1.trans (B2.mono (by omega))
  have P0 : Hid (Pz ((W.alloc (.cells #[I_ 0, I_ 0, I_ 0, I_ 0, I_ 0] 37)).alloc (.cells #[I_ 0] 3)) ((W.alloc (.cells #[I_ 0, I_ 0, I_ 0, I_ 0, I_ 0] 37)).alloc (.cells #[I_ 0] 3)) G G W.heap.size (W.heap.size + 1) B g S r 0) := Za ⟨h.bel B3, hs, ez, V2, V3, fun e => absurd (h.fb _ e) (by omega), fun e => absurd (h.fb _ e) (by omega), by omega, Ch.refl _ _⟩
  have BW := Za (hb.trans (B3.mono hb.size))
  have HB := Za hb
  have HP := Za (And.intro hP hl)
  have HN := Za (And.intro hf hB)
  have HQ : Hid (playW S l fuel r (0 % l.length) = q) := Za (by rw [Nat.zero_mod]; exact hq)
  obtain ⟨bE, hbE⟩ : ∃ b, b = W.heap.size := ⟨_, rfl⟩
  have SZ := Za hbE
  have GL : Hid (∀ k, G k ∨ k = bE + 1 -> w.heap.size <= k) := Za (fun k hk => by
    rcases hk with hk | hk
    · exact lo k hk
    · have := hb.size
      omega)
  have FIN : Hid (∀ (wx : World) (G' : Nat -> Prop), Ch (fun k => G k ∨ k = bE + 1) (fun k => G' k ∨ k = bE + 1) ((W.alloc (.cells #[I_ 0, I_ 0, I_ 0, I_ 0, I_ 0] 37)).alloc (.cells #[I_ 0] 3)) wx -> Ch G G' W wx) := Za (fun wx G' c => ⟨c.os.trans B3.os, c.tape.trans B3.tape, c.output.trans B3.output, Nat.le_trans B3.size c.size, fun k hk hG => (c.blk k (Nat.lt_of_lt_of_le hk B3.size) (fun e => e.elim hG (fun e => by omega))).trans (B3.block k hk), fun k hk => (c.grow k (.inl hk)).elim (fun e => e.elim .inl (fun e => .inr (by omega))) (fun e => .inr (Nat.le_trans B3.size e))⟩)
  have W1S : Hid (w.heap.size <= ((W.alloc (.cells #[I_ 0, I_ 0, I_ 0, I_ 0, I_ 0] 37)).alloc (.cells #[I_ 0] 3)).heap.size) := Za (Nat.le_trans hb.size B3.size)
  have LO : Hid (∀ (wx : World) (G' : Nat -> Prop), Ch (fun k => G k ∨ k = bE + 1) (fun k => G' k ∨ k = bE + 1) ((W.alloc (.cells #[I_ 0, I_ 0, I_ 0, I_ 0, I_ 0] 37)).alloc (.cells #[I_ 0] 3)) wx -> ∀ k, G' k -> w.heap.size <= k) := Za (fun wx G' c k hk => (c.grow k (.inl hk)).elim (GL.out k) (fun e => Nat.le_trans W1S.out e))
  have BL : Hid (∀ (wx : World) (G' : Nat -> Prop), Ch (fun k => G k ∨ k = bE + 1) (fun k => G' k ∨ k = bE + 1) ((W.alloc (.cells #[I_ 0, I_ 0, I_ 0, I_ 0, I_ 0] 37)).alloc (.cells #[I_ 0] 3)) wx -> Below w.heap.size w wx) := Za (fun wx G' c => BW.out.trans (c.bel GL.out W1S.out))
  rw [← hbE] at P0
  clear h lo hb hP hl hs ez hq B1 V1 B2 V2 V3 B3 hf hB Z1
  obtain ⟨nl, hnl⟩ : ∃ n, n = l.length := ⟨_, rfl⟩
  have NL := Za hnl
  rw [← hnl] at HP HQ ⊢
  clear hnl
  go_enter Tryz.func15, Tryz.ntmps15
  go_upto_region 2 with fail
  generalize (W.alloc _).alloc _ = w1 at *
  rw [← hbE]
  clear hbE
  go_loopg [] (left fuel r) (fun gh wr => ∃ (G' : Nat -> Prop) (B' : Nat) (r' : Rm) (a' : Nat), gh = left fuel r' /\ Hid (Pz w1 wr G G' bE (bE + 1) B' g S r' a' /\ playW S l fuel r' (a' % nl) = q /\ Below w.heap.size w wr /\ B' + left fuel r' <= 2001 /\ a' + left fuel r' <= 1001))
  case atStart => exact ⟨G, B, r, 0, rfl, Za ⟨P0.out, HQ.out, BW.out, by have := HN.out.2; have := LT.out; omega, by have := LT.out; omega⟩⟩
  case round =>
    obtain ⟨G', B', r', a', rfl, HI⟩ := hrel
    obtain ⟨aE, cE, hE, hO⟩ := rr_ev HI.out.1.rr
    have eev : r'.z.ev = r'.ev := rfl
    have eeo : r'.z.e.o = r'.e.o := rfl
    rw [eev] at hE
    rw [eeo] at hO
    clear eev eeo
    have HRU : Hid (runs r' = true -> r'.e.o = 0) := Za runs_e
    have KEEP : Hid True := Za trivial
    by_cases h0 : r'.e.o = 0
    · rw [h0] at hO
      by_cases hlt : (r'.ev.length : Int) < fuel
      · obtain ⟨hp, i, x, hi, hj, hc, hx, hcw, hr, hd⟩ := chosen (S := S) (L := Ye r') rfl HI.out.1.hs HI.out.1.ez h0 l a'
        have RU : Calls Tryz.prog 27 #[P_ g] wr (RunnP wr (Ye r')) := by
          have := rRunnable_any HI.out.1.rr (by have := HI.out.2.2.2.1; omega)
          rw [show r'.z.ws.length = r'.gs.length by simp [Rm.z], runZ_eq HI.out.1.hs] at this
          exact this
        have n8 := rr_n8 HI.out.1.rr
        have SP : Sl wr (.slice aP l.length cP) l := by
          have h1 := HP.out.1
          rw [NL.out] at h1
          exact h1.below (Nat.le_refl _) HI.out.2.2.1
        have CHO := rChoose_any RU hp (by have := runn_len r'; omega) SP (by have := HP.out.2; have := NL.out; omega) HI.out.1.ha (by have := HI.out.2.2.2.2; omega)
        rw [hi, ← NL.out] at CHO
        have CHH := Za CHO
        have AL : Hid ((Yv (Ye r') l a').2 <= a' + 1) := Za (choose_le _ _ _)
        have PST : Hid (playW S l fuel (doR S r' i) ((Yv (Ye r') l a').2 % nl) = q) := Za (by
          have h1 := playW_step (S := S) (l := l) (fuel := fuel) (n := a' % l.length) ⟨hr, hlt⟩ hj hc
          rw [(choose_eq hp rfl).2, ← NL.out] at h1
          exact h1.symm.trans HI.out.2.1)
        have LFT : Hid (left fuel (doR S r' i) < left fuel r') := Za (do_left hr hc hlt)
        have HX := Za (And.intro hx (And.intro hcw hd))
        have EVL : Hid (r'.z.ev.length <= 90000) := Za (by show r'.ev.length <= 90000; have := HN.out.1; omega)
        obtain ⟨ne, hne⟩ : ∃ n, n = r'.ev.length := ⟨_, rfl⟩
        rw [← hne] at hE hlt
        clear hne
        generalize (Yv (Ye r') l a').2 = a2 at *
        clear hp hi hj hc hx hcw hr hd RU n8 SP CHO KEEP HRU h0
        go_wp2_with fail
        refine CHH.out.mono ?_
        rintro e w2 ⟨rfl, ha2, c2⟩
        have P2 := Za (HI.out.1.pick ha2 c2)
        have DO := Za (rdo_any P2.out.rr (by have := HI.out.2.2.2.1; omega) i x.w (by rw [z_ws, HX.out.1]; rfl) ((canZ_eq r' x.w).trans HX.out.2.1) (by simp [Rm.z]) EVL.out)
        rw [HX.out.2.2] at DO
        clear ha2 c2 CHH hE hO
        go_wp2_with fail
        refine DO.out.mono ?_
        rintro e w3 ⟨rfl, G3, rr3, c3⟩
        have P3 := Za (P2.out.run rr3 c3 (end_settle _) (ez_settle _))
        clear rr3 c3 DO
        go_wp2_with fail
        go_roundg (left fuel (doR S r' i))
        case measure => exact LFT.out
        case rel => exact ⟨G3, B' + 1, doR S r' i, a2, rfl, Za ⟨P3.out, PST.out, BL.out _ _ P3.out.ch, by have := LFT.out; have := HI.out.2.2.2.1; omega, by have := LFT.out; have := HI.out.2.2.2.2; have := AL.out; omega⟩⟩
      · have hge : fuel <= (r'.ev.length : Int) := by omega
        have HST : Hid (¬ (runs r' = true /\ (r'.ev.length : Int) < fuel)) := Za (fun h => hlt h.2)
        clear h0
        obtain ⟨ne, hne⟩ : ∃ n, n = r'.ev.length := ⟨_, rfl⟩
        rw [← hne] at hE hge
        clear hne hlt
        have OV := Za (rOver_any HI.out.1.rr)
        have EQ : Hid (q = (r', a' % nl)) := Za (HI.out.2.1.symm.trans (playW_stop HST.out))
        have OE : Hid (overZ r'.z = endP r') := Za (over_eq HI.out.1.hs)
        rw [OE.out] at OV
        obtain ⟨z, hz⟩ : ∃ z, endP r' = z := ⟨_, rfl⟩
        rw [hz] at OV
        have HZ := Za hz
        obtain ⟨e0, e1, e2, e3, e4⟩ := z
        unfold EnV at OV
        simp only at OV
        clear hz OE
        go_wp2_with fail
        refine OV.out.mono ?_
        rintro e w4 ⟨rfl, hb4⟩
        have P4 := Za (HI.out.1.bel hb4)
        have B4 := Za (HI.out.2.2.1.trans (hb4.mono HI.out.2.2.1.size))
        have q0 := Zb P4.out.hv 0 _ rfl
        have q1 := Zb P4.out.hv 1 _ rfl
        have q2 := Zb P4.out.hv 2 _ rfl
        have q3 := Zb P4.out.hv 3 _ rfl
        have q4 := Zb P4.out.hv 4 _ rfl
        have f0 := Zc P4.out.hv 0
        have f1 := Zc P4.out.hv 1
        have f2 := Zc P4.out.hv 2
        have f3 := Zc P4.out.hv 3
        have f4 := Zc P4.out.hv 4
        clear hb4 OV hE hO HRU KEEP
        go_wp2_with fail
        refine ret_en bE rfl rfl (set5 P4.out.hv _ _ _ _ _) rfl ?_
        have BB := bel_set5 (Below.refl W.heap.size w4) (b := bE) (Nat.le_of_eq SZ.out.symm) (I_ e0) (I_ e1) (I_ e2) (I_ e3) (I_ e4)
        have e5 := EQ.out
        subst e5
        refine ⟨by show _ = _; rw [HZ.out]; rfl, G', B', by have := HI.out.2.2.2.1; omega, P4.out.rr.keep (fun k hk => set5_ne (fun e => P4.out.ne (e ▸ hk))) BB.size, P4.out.hs, ?_, ?_, ?_⟩
        · have c1 := FIN.out _ _ P4.out.ch
          exact c1.below BB
        · exact (LO.out _ _ P4.out.ch)
        · exact B4.out.trans (BB.mono HB.out.size)
    · have HST : Hid (¬ (runs r' = true /\ (r'.ev.length : Int) < fuel)) := Za (fun h => h0 (HRU.out h.1))
      have hbo : (r'.e.o == 0) = false := by simp [h0]
      clear h0
      have OV := Za (rOver_any HI.out.1.rr)
      have EQ : Hid (q = (r', a' % nl)) := Za (HI.out.2.1.symm.trans (playW_stop HST.out))
      have OE : Hid (overZ r'.z = endP r') := Za (over_eq HI.out.1.hs)
      rw [OE.out] at OV
      obtain ⟨z, hz⟩ : ∃ z, endP r' = z := ⟨_, rfl⟩
      rw [hz] at OV
      have HZ := Za hz
      obtain ⟨e0, e1, e2, e3, e4⟩ := z
      unfold EnV at OV
      simp only at OV
      clear hz OE
      go_wp2_with fail
      refine OV.out.mono ?_
      rintro e w4 ⟨rfl, hb4⟩
      have P4 := Za (HI.out.1.bel hb4)
      have B4 := Za (HI.out.2.2.1.trans (hb4.mono HI.out.2.2.1.size))
      have q0 := Zb P4.out.hv 0 _ rfl
      have q1 := Zb P4.out.hv 1 _ rfl
      have q2 := Zb P4.out.hv 2 _ rfl
      have q3 := Zb P4.out.hv 3 _ rfl
      have q4 := Zb P4.out.hv 4 _ rfl
      have f0 := Zc P4.out.hv 0
      have f1 := Zc P4.out.hv 1
      have f2 := Zc P4.out.hv 2
      have f3 := Zc P4.out.hv 3
      have f4 := Zc P4.out.hv 4
      clear hb4 OV hE hO HRU KEEP
      go_wp2_with fail
      refine ret_en bE rfl rfl (set5 P4.out.hv _ _ _ _ _) rfl ?_
      have BB := bel_set5 (Below.refl W.heap.size w4) (b := bE) (Nat.le_of_eq SZ.out.symm) (I_ e0) (I_ e1) (I_ e2) (I_ e3) (I_ e4)
      have e5 := EQ.out
      subst e5
      refine ⟨by show _ = _; rw [HZ.out]; rfl, G', B', by have := HI.out.2.2.2.1; omega, P4.out.rr.keep (fun k hk => set5_ne (fun e => P4.out.ne (e ▸ hk))) BB.size, P4.out.hs, ?_, ?_, ?_⟩
      · have c1 := FIN.out _ _ P4.out.ch
        exact c1.below BB
      · exact (LO.out _ _ P4.out.ch)
      · exact B4.out.trans (BB.mono HB.out.size)
theorem same_head {w : World} {G Gm : Nat -> Prop} {B g gm : Nat} {S : List (List Wt)} {r : Rm} {p : List Addr} (h7 : E2 w p) (h : Rn w G g S r) (hm : Rr w Gm B gm S r.z) (hs : Ys r = r.e) (hl : r.ev.length <= 90000) (hB : B <= 1000000) :
    Calls Tryz.prog 8 #[P_ g, P_ gm] w (Vb w (.bool true)) := by
  have HR := Za h
  have H7 := Za h7
  have HMR := Za hm
  have HS := Za hs
  have HB := Za hB
  have HL := Za hl
  have hgs : r.gs.length <= 8 := by
    obtain ⟨_, _, _, _, _, _, _, _, _, _, h, _⟩ := h
    exact h.n8
  have HF := Za (runn_fits r (by omega))
  obtain ⟨ne, hne⟩ : ∃ n, n = r.ev.length := ⟨_, rfl⟩
  obtain ⟨ng, hng⟩ : ∃ n, n = r.gs.length := ⟨_, rfl⟩
  have WC : Hid (∀ (W : World), Rn W G g S r -> Calls Tryz.prog 28 #[P_ g] W fun e w' => ∃ a c, e = .returned (.slice a ng c) /\ (∀ (i : Nat) (x : Wt), r.z.ws[i]? = some x -> ∃ b, a = some ⟨b, 0, none⟩ /\ b < w'.heap.size /\ w'.cell? ⟨b, i * 7, none⟩ = some (I_ x.k) /\ w'.cell? ⟨b, i * 7 + 1, none⟩ = some (I_ x.o) /\ w'.cell? ⟨b, i * 7 + 2, none⟩ = some (I_ x.a) /\ w'.cell? ⟨b, i * 7 + 3, none⟩ = some (I_ x.v.1) /\ w'.cell? ⟨b, i * 7 + 4, none⟩ = some (I_ x.v.2.1) /\ w'.cell? ⟨b, i * 7 + 5, none⟩ = some (.int .u64 x.v.2.2)) /\ Below W.heap.size W w') := Za (fun W h => (Waits_any h).mono fun e w' ⟨a, c, vas, h1, lv, o, hb⟩ => ⟨a, c, by rw [h1, List.length_map, hng], fun i x hx => by
    have hi : i < (r.gs.map Gr.w).length := (G_ hx)
    obtain ⟨b, c', eb, _⟩ := Zq o (by omega)
    cases eb
    have hv := List.getElem?_eq_getElem (l := vas) (i := i) (by omega)
    have a0 := (Zk o _ _ (wrows_at _ vas i 0 x _ _ hx hv rfl)).1
    have a1 := (Zk o _ _ (wrows_at _ vas i 1 x _ _ hx hv rfl)).1
    have a2 := (Zk o _ _ (wrows_at _ vas i 2 x _ _ hx hv rfl)).1
    have a3 := (Zk o _ _ (wrows_at _ vas i 3 x _ _ hx hv rfl)).1
    have a4 := (Zk o _ _ (wrows_at _ vas i 4 x _ _ hx hv rfl)).1
    have a5 := (Zk o _ _ (wrows_at _ vas i 5 x _ _ hx hv rfl)).1
    rw [Nat.mul_comm 7 i] at a0 a1 a2 a3 a4 a5
    exact ⟨b, rfl, (Zf o (k := b) rfl).2.1, a0, a1, a2, a3, a4, a5⟩, hb⟩)
  have CC : Hid (∀ (W : World), Rn W G g S r -> Calls Tryz.prog 21 #[P_ g] W fun e w' => e = .returned (I_ (ne : Nat)) /\ W = w') := Za (fun W h => by
    have := Count_any h
    rw [← hne] at this
    exact this)
  have SE : Hid (∀ (W : World) (va vb : Value), EvS W va r.ev -> EvS W vb r.ev -> Calls Tryz.prog 24 #[va, vb] W (Vb W (.bool true))) := Za (fun W va vb h1 h2 => by
    have := SameEvents_any h1 h2
    rw [(evsB_iff _ _).2 rfl] at this
    exact this)
  have RD : Hid (∀ W, Rr W Gm B gm S r.z -> Calls Tryz.prog 27 #[P_ gm] W (RunnP W (Ye r))) := Za (fun W hr => by
    have := rRunnable_any hr hB
    rw [show r.z.ws.length = r.gs.length by simp [Rm.z], runZ_eq hs] at this
    exact this)
  have SI : Hid (∀ (W : World) (va vb : Value), Sl W va (Ye r) -> Sl W vb (Ye r) -> Calls Tryz.prog 26 #[va, vb] W (Vb W (.bool true))) := Za (fun W va vb h1 h2 => by
    have := sameInts_any va vb _ _ W h1 h2
    rw [show sameB (Ye r) (Ye r) = true from decide_eq_true rfl] at this
    exact this)
  obtain ⟨Fs, Rs, Fo, R, gs, gt, vW, vE, vL, vO, vA, vs, os, as_, q, hG⟩ := hm
  obtain ⟨aE, cE, eE, _⟩ := Zl q.ev
  subst eE
  have eev : r.z.ev = r.ev := rfl
  rw [eev, ← hne] at q
  obtain ⟨aW, cW, eW, _⟩ := Zl q.wa
  subst eW
  have ews : r.z.ws.length = ng := by simp [Rm.z, hng]
  rw [ews] at q
  have HMW : Hid (∀ wz, Below w.heap.size w wz -> wz.cell? ⟨gm, 1, none⟩ = some (.slice aW ng cW)) := Za (fun wz hb => (q.bel hb).cells.1.2.1)
  have HNG := Za ews
  have WM : Hid (∀ wz, Below w.heap.size w wz -> ∀ (i : Nat) (x : Wt), r.z.ws[i]? = some x -> ∃ b, aW = some ⟨b, 0, none⟩ /\ b < wz.heap.size /\ wz.cell? ⟨b, i * 6, none⟩ = some (I_ x.k) /\ wz.cell? ⟨b, i * 6 + 1, none⟩ = some (I_ x.o) /\ wz.cell? ⟨b, i * 6 + 2, none⟩ = some (I_ x.a) /\ wz.cell? ⟨b, i * 6 + 3, none⟩ = some (I_ x.v.1) /\ wz.cell? ⟨b, i * 6 + 4, none⟩ = some (I_ x.v.2.1) /\ wz.cell? ⟨b, i * 6 + 5, none⟩ = some (.int .u64 x.v.2.2)) := Za (fun wz hb i x hx => by
    obtain ⟨b, c, e, h1, h2⟩ := (q.bel hb).waitAt i x hx
    injection e with e1
    exact ⟨b, e1, h1, h2⟩)
  have HM : Hid (∀ wz, Below w.heap.size w wz -> wz.cell? ⟨gm, 2, none⟩ = some (.slice aE ne cE) /\ wz.cell? ⟨gm, 3, none⟩ = some (I_ r.e.o) /\ wz.cell? ⟨gm, 4, none⟩ = some (I_ r.e.f) /\ wz.cell? ⟨gm, 5, none⟩ = some (I_ r.e.g) /\ wz.cell? ⟨gm, 6, none⟩ = some (I_ r.e.n) /\ wz.cell? ⟨gm, 7, none⟩ = some (I_ r.e.a)) := Za (fun wz hb => ⟨(q.bel hb).cells.1.2.2.1, (q.bel hb).cells.2.1⟩)
  have EVM : Hid (∀ wz, Below w.heap.size w wz -> EvS wz (.slice aE ne cE) r.ev) := Za (fun wz hb => by
    have o := (q.bel hb).ev
    rw [hne] at o ⊢
    exact EvS.of_own o)
  have B0 : Hid (Below w.heap.size w w.drew) := Za (below_drewN (Below.refl _ _) 1)
  have NE : ∀ w, (binOp .neq 37 (.agg #[I_ r.e.o, I_ r.e.f, I_ r.e.g, I_ r.e.n, I_ r.e.a]) (.agg #[I_ r.e.o, I_ r.e.f, I_ r.e.g, I_ r.e.n, I_ r.e.a])).run Tryz.prog w = .ok (.bool false) w := fun w => by
    rw [neq_en]
    simp
  have hne0 : ne <= 90000 := by omega
  have hn8 : ng <= 8 := by omega
  clear h h7 q hG hne eev hl hng ews
  go_enter Tryz.func8, Tryz.ntmps8
  go_upto_region 1 with fail
  refine ZE (S := fun wz => Below w.heap.size w wz) (fun _ => true) ZK B0.out (fun hH => ?_)
  refine M_ 0 ?_
  simp only [Act.put, S_]
  refine M_ 2 ?_
  simp only [Act.put, S_]
  refine M_ 3 ?_
  simp only [Act.put, S_]
  refine M_ 4 ?_
  simp only [Act.put, S_]
  refine M_ 5 ?_
  simp only [Act.put, S_]
  refine L_ 6 (v := ?_) ?_ hH ?_
  rotate_left 1
  · (intro w hSw; obtain ⟨q0, q1, q2, q3, q4⟩ := (HM.out _ hSw).2; clear hSw; go_simp <;> with_reducible rfl)
  simp only [Act.put, S_]
  refine RT_ 1 (fun K1 hK1 => ?_)
  have CT := Za (End_any (HR.out.bel B0.out) (H7.out.below (Nat.le_refl _) B0.out))
  go_simp
  refine CT.out.mono ?_
  rintro e w1 ⟨rfl, b9⟩
  have B1 := Za (Zg B0.out b9)
  refine hK1.out _ _ (fun _ => B1.out) (fun hh => ?_)
  replace hH := hh rfl
  clear hK1 K1 CT hh
  rw [HS.out]
  unfold EnV
  refine M_ 7 ?_
  simp only [Act.put, S_]
  refine M_ 8 ?_
  simp only [Act.put, S_]
  refine M_ 9 ?_
  simp only [Act.put, S_]
  refine M_ 11 ?_
  simp only [Act.put, S_]
  refine M_ 12 ?_
  simp only [Act.put, S_]
  refine M_ 13 ?_
  simp only [Act.put, S_]
  refine M_ 14 ?_
  simp only [Act.put, S_]
  refine L_ 15 (v := ?_) ?_ hH ?_
  rotate_left 1
  · (intro w hSw; have q := (HM.out _ hSw).1; clear hSw; go_simp <;> with_reducible rfl)
  simp only [Act.put, S_]
  refine M_ 16 ?_
  simp only [Act.put, S_]
  refine RT_ 10 (fun K1 hK1 => ?_)
  have CT := Za (CC.out _ (HR.out.bel B1.out))
  go_simp
  refine CT.out.mono ?_
  rintro e w10 ⟨rfl, rfl⟩
  refine hK1.out _ _ (fun _ => B1.out) (fun hh => ?_)
  replace hH := hh rfl
  clear hK1 K1 CT hh
  refine M_ 17 ?_
  simp only [Act.put, S_]
  refine M_ 18 ?_
  simp only [Act.put, S_]
  refine M_ 19 ?_
  simp only [Act.put, S_]
  refine M_ 20 ?_
  simp only [Act.put, S_]
  refine M_ 22 ?_
  simp only [Act.put, S_]
  refine M_ 23 ?_
  simp only [Act.put, S_]
  refine M_ 24 ?_
  simp only [Act.put, S_]
  refine M_ 25 ?_
  simp only [Act.put, S_]
  refine L_ 26 (v := ?_) ?_ hH ?_
  rotate_left 1
  · (intro w hSw; have q := (HM.out _ hSw).1; clear hSw; go_simp <;> with_reducible rfl)
  simp only [Act.put, S_]
  refine RT_ 21 (fun K1 hK1 => ?_)
  have CT := Za (Events_any (HR.out.bel B1.out) (by have := HL.out; omega))
  go_simp
  refine CT.out.mono ?_
  rintro e w21 ⟨a9, c9, rfl, o9, b9⟩
  have B2 := Za (Zg B1.out b9)
  refine hK1.out _ _ (fun _ => B2.out) (fun hh => ?_)
  replace hH := hh rfl
  clear hK1 K1 CT hh
  have V9 := Za (EvS.of_own o9)
  clear o9 b9
  refine RT_ 27 (fun K1 hK1 => ?_)
  have CT := Za (SE.out _ _ _ V9.out (EVM.out _ B2.out))
  go_simp
  refine CT.out.mono ?_
  rintro e w27 ⟨rfl, b9⟩
  have B3 := Za (Zg B2.out b9)
  refine hK1.out _ _ (fun _ => B3.out) (fun hh => ?_)
  replace hH := hh rfl
  clear hK1 K1 CT hh
  clear b9
  refine M_ 28 ?_
  simp only [Act.put, S_]
  refine M_ 29 ?_
  simp only [Act.put, S_]
  refine M_ 30 ?_
  simp only [Act.put, S_]
  refine M_ 31 ?_
  simp only [Act.put, S_]
  refine M_ 33 ?_
  simp only [Act.put, S_]
  refine M_ 34 ?_
  simp only [Act.put, S_]
  refine M_ 35 ?_
  simp only [Act.put, S_]
  refine RT_ 32 (fun K1 hK1 => ?_)
  have CT := Za (Runnable_any (HR.out.bel B3.out) (H7.out.below (Nat.le_refl _) B3.out))
  go_simp
  refine CT.out.mono ?_
  rintro e w32 ⟨a10, c10, rfl, o10, b9⟩
  have B4 := Za (Zg B3.out b9)
  refine hK1.out _ _ (fun _ => B4.out) (fun hh => ?_)
  replace hH := hh rfl
  clear hK1 K1 CT hh
  have S9 := Za (Sl.of_own o10 HF.out)
  clear o10 b9
  refine RT_ 36 (fun K1 hK1 => ?_)
  have CT := Za (RD.out _ (HMR.out.bel B4.out))
  go_simp
  refine CT.out.mono ?_
  rintro e w36 ⟨a11, c11, rfl, o11, b9⟩
  have B5 := Za (Zg B4.out b9)
  refine hK1.out _ _ (fun _ => B5.out) (fun hh => ?_)
  replace hH := hh rfl
  clear hK1 K1 CT hh
  have S10 := Za (S9.out.below (Nat.le_refl _) b9)
  have S11 := Za (Sl.of_own o11 HF.out)
  clear o11 b9 S9
  refine RT_ 37 (fun K1 hK1 => ?_)
  have CT := Za (SI.out _ _ _ S10.out S11.out)
  go_simp
  refine CT.out.mono ?_
  rintro e w37 ⟨rfl, b9⟩
  have B6 := Za (Zg B5.out b9)
  refine hK1.out _ _ (fun _ => B6.out) (fun hh => ?_)
  replace hH := hh rfl
  clear hK1 K1 CT hh
  clear b9
  refine M_ 38 ?_
  simp only [Act.put, S_]
  refine M_ 39 ?_
  simp only [Act.put, S_]
  have RN6 := Za (HR.out.bel B6.out)
  refine ZX (by kernel_rfl) ?_ _
  have HM2 := Za (HM.out _ B6.out)
  clear hH HR HMR H7 HS HB HL HF CC SE SI RD EVM NE V9 S10 S11 hs hB
  go_wp2_with fail
  refine (WC.out _ RN6.out).mono ?_
  rintro e w50 ⟨a12, c12, rfl, sw, b9⟩
  have WS := Za sw
  have B7 := Za (Zg B6.out b9)
  clear sw b9 WC RN6 HM2
  have m3 := (HM.out _ B7.out).2.1
  have m1 := HMW.out _ B7.out
  have WM7 := Za (WM.out _ B7.out)
  clear HM HMW WM B0 B1 B2 B3 B4 B5 B6
  by_cases h3 : r.e.o = 3
  · rw [h3] at m3
    go_wp2_with fail
    go_ret
    exact ⟨by simp, B7.out⟩
  · have h3' : (r.e.o == 3) = false := by simp [h3]
    go_wp2_with fail
    go_loopw [81] (fun q wr => ∃ k : Nat, k <= ng /\ q = I_ k /\ Hid (Below w50.heap.size w50 wr)) (fun q _ => ng - (intOf q).toNat)
    case atStart => exact ⟨0, Nat.zero_le _, rfl, Za (Below.refl _ _)⟩
    case round =>
      obtain ⟨k, hk, rfl, HI⟩ := hrel
      by_cases hlt : k < ng
      · have hlt' : (k : Int) < (ng : Int) := by omega
        obtain ⟨x, hx⟩ : ∃ x, r.z.ws[k]? = some x := ⟨_, List.getElem?_eq_getElem (by rw [HNG.out]; exact hlt)⟩
        obtain ⟨b, rfl, hbl, l0, l1, l2, l3, l4, l5⟩ := WS.out k x hx
        obtain ⟨bm, rfl, hbm, p0, p1, p2, p3, p4, p5⟩ := WM7.out k x hx
        obtain ⟨xk, xo, xa, xv0, xv1, xv2⟩ := x
        simp only at l0 l1 l2 l3 l4 l5 p0 p1 p2 p3 p4 p5
        have u0 := (HI.out.cell (p := ⟨bm, k * 6, none⟩) hbm).trans p0
        have u1 := (HI.out.cell (p := ⟨bm, k * 6 + 1, none⟩) hbm).trans p1
        have u2 := (HI.out.cell (p := ⟨bm, k * 6 + 2, none⟩) hbm).trans p2
        have u3 := (HI.out.cell (p := ⟨bm, k * 6 + 3, none⟩) hbm).trans p3
        have u4 := (HI.out.cell (p := ⟨bm, k * 6 + 4, none⟩) hbm).trans p4
        have u5 := (HI.out.cell (p := ⟨bm, k * 6 + 5, none⟩) hbm).trans p5
        have HBL := Za hbl
        have LL := Za (show _ /\ _ /\ _ /\ _ /\ _ /\ _ from ⟨l0, l1, l2, l3, l4, l5⟩)
        clear l0 l1 l2 l3 l4 l5 hx hbl hbm m1 m3 p0 p1 p2 p3 p4 p5
        go_upto_region 11 with fail
        have HW : Hid (Below w50.heap.size w50 (wr.alloc (.cells #[I_ xk, I_ xo, I_ xa, I_ xv0, I_ xv1, .int .u64 xv2] 76)).drew) := Za (Zp (Zg HI.out (Zd wr (.cells #[I_ xk, I_ xo, I_ xa, I_ xv0, I_ xv1, .int .u64 xv2] 76))))
        have KB := Za (B_ wr (.cells #[I_ xk, I_ xo, I_ xa, I_ xv0, I_ xv1, .int .u64 xv2] 76))
        refine ZE (S := fun wz => (wz.cell? ⟨b, k * 7, none⟩ = some (I_ xk) /\ wz.cell? ⟨b, k * 7 + 1, none⟩ = some (I_ xo) /\ wz.cell? ⟨b, k * 7 + 2, none⟩ = some (I_ xa) /\ wz.cell? ⟨b, k * 7 + 3, none⟩ = some (I_ xv0) /\ wz.cell? ⟨b, k * 7 + 4, none⟩ = some (I_ xv1) /\ wz.cell? ⟨b, k * 7 + 5, none⟩ = some (.int .u64 xv2)) /\ (wz.cell? ⟨wr.heap.size, 0, none⟩ = some (I_ xk) /\ wz.cell? ⟨wr.heap.size, 1, none⟩ = some (I_ xo) /\ wz.cell? ⟨wr.heap.size, 2, none⟩ = some (I_ xa) /\ wz.cell? ⟨wr.heap.size, 3, none⟩ = some (I_ xv0) /\ wz.cell? ⟨wr.heap.size, 4, none⟩ = some (I_ xv1) /\ wz.cell? ⟨wr.heap.size, 5, none⟩ = some (.int .u64 xv2))) (fun _ => true) ZK ⟨⟨(HW.out.cell (p := ⟨b, k * 7, none⟩) HBL.out).trans LL.out.1, (HW.out.cell (p := ⟨b, k * 7 + 1, none⟩) HBL.out).trans LL.out.2.1, (HW.out.cell (p := ⟨b, k * 7 + 2, none⟩) HBL.out).trans LL.out.2.2.1, (HW.out.cell (p := ⟨b, k * 7 + 3, none⟩) HBL.out).trans LL.out.2.2.2.1, (HW.out.cell (p := ⟨b, k * 7 + 4, none⟩) HBL.out).trans LL.out.2.2.2.2.1, (HW.out.cell (p := ⟨b, k * 7 + 5, none⟩) HBL.out).trans LL.out.2.2.2.2.2⟩, ⟨Zb KB.out 0 _ rfl, Zb KB.out 1 _ rfl, Zb KB.out 2 _ rfl, Zb KB.out 3 _ rfl, Zb KB.out 4 _ rfl, Zb KB.out 5 _ rfl⟩⟩ (fun hH => ?_)
        clear KB LL
        generalize World.drew _ = wd at *
        refine M_ 0 ?_
        simp only [Act.put, S_]
        refine M_ 1 ?_
        simp only [Act.put, S_]
        refine M_ 2 ?_
        simp only [Act.put, S_]
        refine M_ 3 ?_
        simp only [Act.put, S_]
        refine L_ 4 (v := ?_) ?_ hH ?_
        rotate_left 1
        · (intro w hSw; have hq := hSw; obtain ⟨⟨l0, l1, l2, l3, l4, l5⟩, ⟨q0, q1, q2, q3, q4, q5⟩⟩ := hq; clear hSw; go_simp <;> with_reducible rfl)
        simp only [Act.put, S_]
        refine M_ 5 ?_
        simp only [Act.put, S_]
        refine L_ 6 (v := ?_) ?_ hH ?_
        rotate_left 1
        · (intro w hSw; have hq := hSw; obtain ⟨⟨l0, l1, l2, l3, l4, l5⟩, ⟨q0, q1, q2, q3, q4, q5⟩⟩ := hq; clear hSw; go_simp <;> with_reducible rfl)
        simp only [Act.put, S_]
        refine M_ 7 ?_
        simp only [Act.put, S_]
        refine M_ 8 ?_
        simp only [Act.put, S_]
        refine M_ 9 ?_
        simp only [Act.put, S_]
        refine M_ 10 ?_
        simp only [Act.put, S_]
        refine M_ 11 ?_
        simp only [Act.put, S_]
        refine M_ 12 ?_
        simp only [Act.put, S_]
        refine L_ 13 (v := ?_) ?_ hH ?_
        rotate_left 1
        · (intro w hSw; have hq := hSw; obtain ⟨⟨l0, l1, l2, l3, l4, l5⟩, ⟨q0, q1, q2, q3, q4, q5⟩⟩ := hq; clear hSw; go_simp <;> with_reducible rfl)
        simp only [Act.put, S_]
        refine M_ 14 ?_
        simp only [Act.put, S_]
        refine L_ 15 (v := ?_) ?_ hH ?_
        rotate_left 1
        · (intro w hSw; have hq := hSw; obtain ⟨⟨l0, l1, l2, l3, l4, l5⟩, ⟨q0, q1, q2, q3, q4, q5⟩⟩ := hq; clear hSw; go_simp <;> with_reducible rfl)
        simp only [Act.put, S_]
        refine M_ 16 ?_
        simp only [Act.put, S_]
        refine M_ 17 ?_
        simp only [Act.put, S_]
        refine M_ 18 ?_
        simp only [Act.put, S_]
        refine M_ 19 ?_
        simp only [Act.put, S_]
        refine M_ 20 ?_
        simp only [Act.put, S_]
        refine M_ 21 ?_
        simp only [Act.put, S_]
        refine M_ 22 ?_
        simp only [Act.put, S_]
        refine L_ 23 (v := ?_) ?_ hH ?_
        rotate_left 1
        · (intro w hSw; have hq := hSw; obtain ⟨⟨l0, l1, l2, l3, l4, l5⟩, ⟨q0, q1, q2, q3, q4, q5⟩⟩ := hq; clear hSw; go_simp <;> with_reducible rfl)
        simp only [Act.put, S_]
        refine M_ 24 ?_
        simp only [Act.put, S_]
        refine L_ 25 (v := ?_) ?_ hH ?_
        rotate_left 1
        · (intro w hSw; have hq := hSw; obtain ⟨⟨l0, l1, l2, l3, l4, l5⟩, ⟨q0, q1, q2, q3, q4, q5⟩⟩ := hq; clear hSw; go_simp <;> with_reducible rfl)
        simp only [Act.put, S_]
        refine M_ 26 ?_
        simp only [Act.put, S_]
        refine M_ 27 ?_
        simp only [Act.put, S_]
        refine M_ 28 ?_
        simp only [Act.put, S_]
        refine M_ 29 ?_
        simp only [Act.put, S_]
        refine M_ 30 ?_
        simp only [Act.put, S_]
        refine M_ 31 ?_
        simp only [Act.put, S_]
        refine M_ 32 ?_
        simp only [Act.put, S_]
        refine L_ 33 (v := ?_) ?_ hH ?_
        rotate_left 1
        · (intro w hSw; have hq := hSw; obtain ⟨⟨l0, l1, l2, l3, l4, l5⟩, ⟨q0, q1, q2, q3, q4, q5⟩⟩ := hq; clear hSw; go_simp <;> with_reducible rfl)
        simp only [Act.put, S_]
        refine M_ 34 ?_
        simp only [Act.put, S_]
        refine L_ 35 (v := ?_) ?_ hH ?_
        rotate_left 1
        · (intro w hSw; have hq := hSw; obtain ⟨⟨l0, l1, l2, l3, l4, l5⟩, ⟨q0, q1, q2, q3, q4, q5⟩⟩ := hq; clear hSw; go_simp <;> with_reducible rfl)
        simp only [Act.put, S_]
        have NV : ∀ w, (binOp .neq 64 (.agg #[I_ xv0, I_ xv1, .int .u64 xv2]) (.agg #[I_ xv0, I_ xv1, .int .u64 xv2])).run Tryz.prog w = .ok (.bool false) w := fun w => by rw [neq_vv]; simp
        refine M_ 36 ?_
        simp only [Act.put, S_]
        refine M_ 37 ?_
        simp only [Act.put, S_]
        refine ZX (by kernel_rfl) ?_ _
        go_wp2_with fail
        go_roundw
        case rel => exact ⟨k + 1, by omega, by go_num, HW⟩
        case measure => simp [intOf]; omega
      · obtain rfl : k = ng := by omega
        go_wp2_with fail
        go_ret
        exact ⟨rfl, Zg B7.out HI.out⟩
theorem runs_main {w : World} {aP aC aS : Option Addr} {lP cP lC cC nS cS : Nat} {ps : List Int} {qs : List (Int × Int)} {S : List (List Wt)} {p : List Addr} (h17 : E3 w p) (m a fn : Int) (hP : Sl w (.slice aP lP cP) ps) (hp2 : ps.length <= 140737488351232) (hC : SlC w (.slice aC lC cC) qs) (hq2 : qs.length <= 140737488351232) (hS : SSrcU w (.slice aS nS cS) S) {vK : Value} {ks : List Int} (hK : Sl w vK ks) (fuel : Int) : Calls Tryz.prog 4 #[.agg #[.slice aP lP cP, I_ m, I_ a, .slice aC lC cC, .slice aS nS cS, I_ fn], vK, I_ fuel] w (Vb w (.bool true)) := by
 obtain ⟨fz, hfz⟩ : ∃ f : Int, f = if (300 : Int) < fuel then 300 else fuel := ⟨_, rfl⟩
 have FZ : Hid (fz <= 300) := Za (by rw [hfz]; split <;> omega)
 have MN : ∀ (ats : Array TypeId) (ty : TypeId) (w : World), (Builtin.min_ ats ty #[I_ fuel, I_ 300]).run Tryz.prog w = .ok (I_ fz) w := fun ats ty w => by
  rw [hfz]
  rfl
 clear hfz
 have AB := Za (Zd w (.cells #[.slice aP lP cP, I_ m, I_ a, .slice aC lC cC, .slice aS nS cS, I_ fn] 26))
 have BX := Za (B_ w (.cells #[.slice aP lP cP, I_ m, I_ a, .slice aC lC cC, .slice aS nS cS, I_ fn] 26))
 have AL := Za (alive12 (h17.below (Nat.le_refl _) AB.out))
 have BG := Za (fun w3 (h3 : Below w.heap.size w w3) => big_any m a fn (hP.below (Nat.le_refl _) h3) hp2 (hC.below h3) hq2 (hS.bel h3))
 have H17 := Za h17
 have HP := Za hP
 have HC := Za hC
 have HK := Za hK
 obtain ⟨aK, lK, cK, rfl, hlK⟩ := hK.slice
 have HLK := Za hlK
 clear h17 hP hp2 hC hq2 hS hK hlK
 obtain ⟨bx, hbx⟩ : ∃ b, b = w.heap.size := ⟨_, rfl⟩
 rw [← hbx] at BX
 go_enter Tryz.func4, Tryz.ntmps4
 go_wp2_with fail
 generalize w.alloc _ = w1 at *
 rw [← hbx]
 clear hbx
 refine AL.out.mono ?_
 rintro e w2 ⟨rfl, hb2⟩
 replace BX := Za ((hb2.block bx (Ze BX.out)).trans BX.out)
 replace AB := Za (Zg AB.out hb2)
 clear hb2 AL
 have x0 := Zb BX.out 0 _ rfl
 have x1 := Zb BX.out 1 _ rfl
 have x2 := Zb BX.out 2 _ rfl
 have x3 := Zb BX.out 3 _ rfl
 have x4 := Zb BX.out 4 _ rfl
 have x5 := Zb BX.out 5 _ rfl
 go_wp2_with fail
 clear x0 x1 x2 x3 x4 x5
 refine (BG.out _ AB.out).mono ?_
 rintro e w3 ⟨b, rfl, hb3, hsr⟩
 replace BX := Za ((hb3.block bx (Ze BX.out)).trans BX.out)
 have A3 := Za (Zg AB.out hb3)
 cases b with
 | true =>
  clear hb3 BG hsr
  go_wp2_with fail
  go_ret
  exact Vb.mk rfl A3.out
 | false =>
  have SS := Za ((hsr rfl).bel hb3)
  clear hb3 BG hsr AB
  by_cases hbk : 1000 < lK
  · have hbk' : (1000 : Int) < (lK : Int) := by omega
    go_wp2_with fail
    go_ret
    exact Vb.mk (by simp) A3.out
  · have hbk' : ¬ (1000 : Int) < (lK : Int) := by omega
    have hK1 : Hid (ks.length <= 1000) := Za (by have := HLK.out; omega)
    clear hbk
    have MA := Za (made_any (H17.out.below (Nat.le_refl _) A3.out) m a fn (HP.out.below (Nat.le_refl _) A3.out) (HC.out.below A3.out) SS.out)
    clear HP HC SS
    generalize okN ps m qs a = ok at *
    generalize newS ps m qs a = s0 at *
    have x0 := Zb BX.out 0 _ rfl
    have x1 := Zb BX.out 1 _ rfl
    have x2 := Zb BX.out 2 _ rfl
    have x3 := Zb BX.out 3 _ rfl
    have x4 := Zb BX.out 4 _ rfl
    have x5 := Zb BX.out 5 _ rfl
    have LI := Za (fun w4 (h4 : Below w.heap.size w w4) => listed_any (HK.out.below (Nat.le_refl _) h4) (by have := hK1.out; omega))
    go_wp2_with fail
    clear x0 x1 x2 x3 x4 x5 MN
    refine MA.out.mono ?_
    rintro e w4 (⟨rfl, rfl, hb4⟩ | ⟨rfl, g, gm, G, Gm, rfl, rn, rr, dj, lo, hb4⟩)
    · have A4 := Za (Zg A3.out hb4)
      clear hb4 MA
      go_wp2_with fail
      go_ret
      exact Vb.mk rfl A4.out
    · have A4 := Za (Zg A3.out hb4)
      rw [start_eq] at rr
      have LO := Za (fun k (hk : G k ∨ Gm k) => Nat.le_trans A3.out.size (lo k hk))
      have RN := Za rn
      have RR := Za rr
      have DJ := Za dj
      have HS : Hid (Ys (startR S s0 fn) = (startR S s0 fn).e) := Za (end_settle _)
      have EZ : Hid (Ez (startR S s0 fn)) := Za (ez_settle _)
      have EL : Hid ((startR S s0 fn).ev = []) := Za (start_ev _ _ _)
      generalize startR S s0 fn = r0 at *
      clear rn rr dj lo hb4 MA BX
      go_wp2_with fail
      refine (LI.out _ A4.out).mono ?_
      rintro e w5 ⟨v1, F1, rfl, pk, lf, hb5⟩
      obtain ⟨ob1, nb1, rfl⟩ := pk.form
      have A5 := Za (Zg A4.out hb5)
      have LF := Za (fun k (hk : F1 k) => Nat.le_trans A4.out.size (lf k hk))
      have RR5 := Za (RR.out.bel hb5)
      have PL := Za (Sd.play (w := w) (S := S) ⟨RN.out.bel hb5, pk, fun k h1 h2 => by have h3 := lf k h1; have h4 := RN.out.fb k h2; omega, fun k hk => hk.elim (fun h => LO.out k (.inl h)) (LF.out k)⟩ H17.out A5.out fz (by have := FZ.out; omega))
      have DF : Hid (∀ k, Gm k -> ¬ (G k ∨ F1 k)) := Za (fun k h1 h2 => h2.elim (fun h => DJ.out k h h1) (fun h => by have h3 := lf k h; have h4 := RR.out.fb k h1; omega))
      clear hb5 pk lf RN RR DJ LI A4
      obtain ⟨q, hq⟩ : ∃ q, playW S ks fz r0 0 = q := ⟨_, rfl⟩
      have HQ := Za hq
      rw [hq] at PL
      have LE : Hid (q.1.ev.length <= 1000) := Za (by rw [← hq]; exact play_le 1000 (by have := FZ.out; omega) _ _ _ (by rw [EL.out]; simp))
      clear hq
      obtain ⟨E0, hE0⟩ : ∃ E : En, endP q.1 = E := ⟨_, rfl⟩
      have HE0 := Za hE0
      rw [hE0] at PL
      clear hE0
      obtain ⟨eo, ef, eg, en, ea⟩ := E0
      unfold EnV at PL
      simp only at PL
      go_wp2_with fail
      refine PL.out.mono ?_
      rintro e w6 ⟨rfl, G3, sd, ch3, hb6⟩
      have A6 := Za hb6
      have RN6 := Za sd.rn
      have L6 := Za (fun k (hk : G3 k) => sd.lo k (.inl hk))
      obtain ⟨rr6, dj6⟩ := RR5.out.ch ch3 DF.out
      have RR6 := Za rr6
      have DJ6 := Za (fun k (h1 : G3 k) (h2 : Gm k) => dj6 k h2 (.inl h1))
      have HK6 : Hid (Sl w (.slice aK ks.length cK) ks) := Za (by have h1 := HK.out; rw [HLK.out] at h1; exact h1)
      have PZ := Za (rPlay_any (w := w) (S := S) (l := ks) (aP := aK) (cP := cK) RR6.out (fun k hk => LO.out k (.inr hk)) A6.out HK6.out (by have := hK1.out; omega) HS.out EZ.out fz (by have := FZ.out; omega) (by omega))
      rw [HQ.out, ← HLK.out] at PZ
      unfold PlayZ at PZ
      rw [HE0.out] at PZ
      unfold EnV at PZ
      simp only at PZ
      clear sd ch3 hb6 rr6 dj6 RR5 PL DF HQ
      have EQ : ∀ w, (binOp .eql 37 (.agg #[I_ eo, I_ ef, I_ eg, I_ en, I_ ea]) (.agg #[I_ eo, I_ ef, I_ eg, I_ en, I_ ea])).run Tryz.prog w = .ok (.bool true) w := fun w => by
       rw [eql_en]
       simp
      go_wp2_with fail
      refine PZ.out.mono ?_
      rintro e w7 ⟨rfl, G4, B4, hB4, rr7, hs7, ch4, lo4, hb7⟩
      have SH := Za (same_head (H17.out.below (Nat.le_refl _) hb7).e2 (RN6.out.ch ch4 DJ6.out).1 rr7 hs7 (by have := LE.out; omega) (by omega))
      have A7 := Za hb7
      clear rr7 hs7 ch4 lo4 hb7 PZ RN6 RR6 DJ6 A6
      go_wp2_with fail
      refine SH.out.mono ?_
      rintro e w8 ⟨rfl, hb8⟩
      have A8 := Za (Zg A7.out hb8)
      clear hb8 SH
      go_wp2_with fail
      go_ret
      exact Vb.mk rfl A8.out
theorem runs_all {w : World} {vP vC vS vK : Value} {ps ks : List Int} {qs : List (Int × Int)} {S : List (List Wt)} {p : List Addr} (h17 : E3 w p) (m a fn : Int) (hP : Sl w vP ps) (hp2 : ps.length <= 140737488351232) (hC : SlC w vC qs) (hq2 : qs.length <= 140737488351232) (hS : SSrcU w vS S) (hK : Sl w vK ks) (fuel : Int) : Calls Tryz.prog 4 #[.agg #[vP, I_ m, I_ a, vC, vS, I_ fn], vK, I_ fuel] w (Vb w (.bool true)) := by
 obtain ⟨aP, lP, cP, rfl, _⟩ := hP.slice
 obtain ⟨aC, cC, rfl, _⟩ := id hC
 obtain ⟨aS, cS, rfl, _⟩ := id hS
 exact runs_main h17 m a fn hP hp2 hC hq2 hS hK fuel
end Go.Proofs.YtfojninaginnoaaGreatDoor.Ck
