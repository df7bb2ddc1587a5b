/- TreePlaces: a program's nodes stand at beginnings of tokens, kids in order. -/
import Derived.Test.YtodgkfniimgfcaaGreatDoorHz2Q
import Derived.Test.YtodgkfniimgfcaaGreatDoorQbo
import Derived.Test.YtodgkfniimgfcaaGreatDoorQbp
import Derived.Maps.Own
namespace Go.Proofs.YtodgkfniimgfcaaGreatDoor.Ck
open Go.RowKit

theorem two_new (w : World) (v0 v1 v2 v3 v4 v5 v6 v7 v8 E I : Value) :
    Nod ((w.alloc (.cells #[v0, v1, v2, v3, v4, v5, v6, v7, v8] 26)).alloc (.cells #[E, I] 30)) w.heap.size v0 v1 v2 v3 v4 v5 v6 v7 v8 ∧
    ((w.alloc (.cells #[v0, v1, v2, v3, v4, v5, v6, v7, v8] 26)).alloc (.cells #[E, I] 30)).heap[w.heap.size + 1]? = some (.cells #[E, I] 30 (0, 0)) ∧
    Below w.heap.size w ((w.alloc (.cells #[v0, v1, v2, v3, v4, v5, v6, v7, v8] 26)).alloc (.cells #[E, I] 30)) := by
  have hb1 := bel_new w (.cells #[v0, v1, v2, v3, v4, v5, v6, v7, v8] 26)
  have k1 : Nod (w.alloc (.cells #[v0, v1, v2, v3, v4, v5, v6, v7, v8] 26)) w.heap.size v0 v1 v2 v3 v4 v5 v6 v7 v8 := Go.Deep.blk_alloc_new _ _
  have s1 : (w.alloc (.cells #[v0, v1, v2, v3, v4, v5, v6, v7, v8] 26)).heap.size = w.heap.size + 1 := by simp
  generalize w.alloc (.cells #[v0, v1, v2, v3, v4, v5, v6, v7, v8] 26) = w1 at *
  have hb2 := bel_new w1 (.cells #[E, I] 30)
  have k2 : (w1.alloc (.cells #[E, I] 30)).heap[w1.heap.size]? = some (.cells #[E, I] 30 (0, 0)) := Go.Deep.blk_alloc_new _ _
  rw [s1] at k2
  exact ⟨k1.bel hb2, k2, bel_trans hb1 hb2⟩
/-- what a reading hands back, both ways -/
theorem Xp.both {w : World} {p : List Addr} {e : Ending} {w' : World} {r : Read} (h : Xp w p e w' r) :
    (∃ k i, r = .bad k i ∧ e = .returned (.tuple #[.agg #[.int .i64 0, .int .i64 0, .string ⟨#[]⟩, .int .i64 0, .int .i64 0, .int .i64 0, .int .i64 0, .int .u64 0, .slice none 0 0], .agg #[errV p k, .int .i64 i]]) ∧ Below w.heap.size w w') ∨
    (∃ kd ps nm t nz z ob bi ks oa len ck, r = .ok (.mk kd ps nm t nz z ob bi ks) ∧ e = .returned (.tuple #[.agg #[.int .i64 kd, .int .i64 ps, .string nm, .int .i64 t, .int .i64 nz, .int .i64 z, .int .i64 ob, .int .u64 bi, .slice oa len ck], .agg #[.nilIface, .int .i64 0]]) ∧ KidsR w' ks (.slice oa len ck) ∧ Below w.heap.size w w') := by
  cases r with
  | bad k i => exact .inl ⟨k, i, rfl, h⟩
  | ok n =>
    obtain ⟨v, rfl, hv, hb⟩ := h
    obtain ⟨kd, ps, nm, t, nz, z, ob, bi, ks⟩ := n
    have hr := hv.rd
    unfold NodeR at hr
    obtain ⟨s, rfl, hk⟩ := hr
    obtain ⟨oa, ck, rfl, _⟩ := hk.kid
    exact .inr ⟨kd, ps, nm, t, nz, z, ob, bi, ks, oa, _, ck, rfl, rfl, hk, hb⟩

theorem toksF_size {s : ByteArray} {ts : List Tk} (h : toksF s = .ok ts) : s.size ≤ 8192 := by
  unfold toksF at h
  split at h
  · assumption
  · cases h
theorem wf64 {x : Int} (h1 : -9223372036854775808 ≤ x) (h2 : x ≤ 9223372036854775807) : (Lit.int .i64 x).wf = true := by
  show (decide (IntKind.i64.min ≤ x) && decide (x ≤ IntKind.i64.max)) = true
  rw [show IntKind.i64.min = -9223372036854775808 from rfl, show IntKind.i64.max = 9223372036854775807 from rfl, decide_eq_true h1, decide_eq_true h2]
  rfl

set_option maxRecDepth 20000 in
set_option maxHeartbeats 4000000 in
theorem places_any (s : ByteArray) (p : List Addr) (w : World) (he : Ev w p) (hz : s.size ≤ 9223372036854775807) :
    Calls Tryz.prog 6 #[.string s] w fun e w' => e = .returned (.bool true) ∧ Below w.heap.size w w' := by
  have HPM := hide (places_model s)
  go_enter Tryz.func6, Tryz.ntmps6
  go_wp2_with fail
  refine (alive_any p w he).mono ?_
  rintro e w1 ⟨rfl, hb1⟩
  have E1 := hide (he.bel hb1)
  have B1 := hide hb1
  clear hb1 he
  go_wp2_with fail
  refine (text_program s p w1 E1.out.er (E1.out.errs.cell 2 (by omega)) E1.out.big).mono ?_
  intro e w2 hp
  rcases hp.both with ⟨k, i, hr, rfl, hb⟩ | ⟨kd, ps, nm, t, nz, z, ob, bi, ks, oa, len, ck, hr, rfl, hk, hb⟩
  · rw [hr] at HPM
    have hi : i ≤ s.size := HPM.out
    have hi2 : (i : Int) ≤ (s.size : Int) := by omega
    have hi3 : (0 : Int) ≤ (i : Int) := by omega
    obtain ⟨n2, m2, b2⟩ := two_new w2 (.int .i64 0) (.int .i64 0) (.string ⟨#[]⟩) (.int .i64 0) (.int .i64 0) (.int .i64 0) (.int .i64 0) (.int .u64 0) (.slice none 0 0) (errV p k) (.int .i64 (i : Int))
    have N3 := hide n2
    have M3 := hide m2
    have B3 := hide (bel_trans B1.out (bel_trans hb b2))
    clear n2 m2 b2 hb hp
    go_wp2_with fail
    generalize (w2.alloc (.cells #[.int .i64 0, .int .i64 0, .string ⟨#[]⟩, .int .i64 0, .int .i64 0, .int .i64 0, .int .i64 0, .int .u64 0, .slice none 0 0] 26)).alloc (.cells #[errV p k, .int .i64 (i : Int)] 30) = w3 at *
    generalize w2.heap.size = na at *
    obtain ⟨_, k0, k1, k2, k3, k4, k5, k6, k7, k8⟩ := N3.out.all
    have c0 := blk_cell M3.out 0 _ rfl
    have c1 := blk_cell M3.out 1 _ rfl
    go_wp2_with fail
    go_ret
    exact ⟨rfl, B3.out⟩
  · rw [hr] at HPM
    obtain ⟨ts, hts, hpl⟩ := HPM.out
    obtain ⟨n2, m2, b2⟩ := two_new w2 (.int .i64 kd) (.int .i64 ps) (.string nm) (.int .i64 t) (.int .i64 nz) (.int .i64 z) (.int .i64 ob) (.int .u64 bi) (.slice oa len ck) .nilIface (.int .i64 0)
    have N3 := hide n2
    have M3 := hide m2
    have B3 := hide (bel_trans B1.out (bel_trans hb b2))
    have E3 := hide ((E1.out.bel hb).bel b2)
    have HKR : Hid (∀ wF, Below w2.heap.size w2 wF → KidsR wF ks (.slice oa len ck)) := fun wF h => KidsR.bel h _ _ hk
    have W3 := hide b2
    have B2 := hide (bel_trans B1.out hb)
    have LEna : Hid (w.heap.size ≤ w2.heap.size) := B2.out.size
    have HT := hide hts
    have HPL := hide hpl
    clear n2 m2 b2 hb hk hts hpl HPM E1 B1 hp
    go_wp2_with fail
    generalize (w2.alloc (.cells #[.int .i64 kd, .int .i64 ps, .string nm, .int .i64 t, .int .i64 nz, .int .i64 z, .int .i64 ob, .int .u64 bi, .slice oa len ck] 26)).alloc (.cells #[.nilIface, .int .i64 0] 30) = w3 at *
    generalize w2.heap.size = na at *
    have c0 := blk_cell M3.out 0 _ rfl
    go_wp2_with fail
    refine (tokens_all s p w3 E3.out.er E3.out.big).mono ?_
    intro e w4 hp
    rw [HT.out] at hp
    obtain ⟨v, rfl, ho, hb⟩ := hp
    obtain ⟨ta, tc, rfl⟩ := ho.len
    have hsz := toksF_size HT.out
    have hl2 := toksF_len HT.out
    have m4 := (hb.block _ (lt_of_blk M3.out)).trans M3.out
    have g0 := blk_frz m4 0
    have g1 := blk_frz m4 1
    have d0 := blk_cell m4 0 _ rfl
    have d1 := blk_cell m4 1 _ rfl
    have HO := hide ho
    have N4 := hide (N3.out.bel hb)
    have l3 := lt_of_blk M3.out
    have L34 := hb.size
    obtain ⟨z1, s1⟩ := set1 m4 0 .nilIface
    obtain ⟨z2, s2⟩ := set1 z1 1 (.int .i64 0)
    have W4 := W3.out.trans (hb.mono (by omega))
    have W5 := hide ((W4.trans (s1.bel (Nat.le_succ _) (by omega))).trans (s2.bel (Nat.le_succ _) (Nat.le_trans (by omega) s1.size)))
    have H5 : Hid (∀ k, k < w4.heap.size → k ≠ na + 1 → ((w4.setCell ⟨na + 1, 0, none⟩ .nilIface).setCell ⟨na + 1, 1, none⟩ (.int .i64 0)).heap[k]? = w4.heap[k]?) := fun k hk hne => (s2.blk k (Nat.lt_of_lt_of_le hk s1.size) hne).trans (s1.blk k hk hne)
    have L5 : Hid (w4.heap.size ≤ ((w4.setCell ⟨na + 1, 0, none⟩ .nilIface).setCell ⟨na + 1, 1, none⟩ (.int .i64 0)).heap.size) := Nat.le_trans s1.size s2.size
    have Z5 := hide z2
    have La : Hid (na + 1 < w3.heap.size) := l3
    have Lb : Hid (w3.heap.size ≤ w4.heap.size) := L34
    clear z1 s1 z2 s2 W4 ho hb l3 L34
    have MK := run_makeMap (P := Tryz.prog) 44 ((w4.setCell ⟨na + 1, 0, none⟩ .nilIface).setCell ⟨na + 1, 1, none⟩ (.int .i64 0))
    obtain ⟨w6, UP, mp6, gr6⟩ := (Mp.made ((w4.setCell ⟨na + 1, 0, none⟩ .nilIface).setCell ⟨na + 1, 1, none⟩ (.int .i64 0))).add (by unfold maxLen; omega) (s.size : Int) (wf64 (by omega) (by omega))
    have e5 : ((w4.setCell ⟨na + 1, 0, none⟩ .nilIface).setCell ⟨na + 1, 1, none⟩ (.int .i64 0)).heap.size = w4.heap.size := by simp [World.setCell]
    have H6 : Hid (∀ k, k < w4.heap.size → k ≠ na + 1 → w6.heap[k]? = w4.heap[k]?) := fun k hk hne => (gr6.block k (by have := L5.out; simp; omega) (by have := L5.out; simp; omega)).trans (((bel_new ((w4.setCell ⟨na + 1, 0, none⟩ .nilIface).setCell ⟨na + 1, 1, none⟩ (.int .i64 0)) (.map #[] 0)).block k (by have := L5.out; omega)).trans (H5.out k hk hne))
    have W6 := hide (((W5.out.trans ((bel_new ((w4.setCell ⟨na + 1, 0, none⟩ .nilIface).setCell ⟨na + 1, 1, none⟩ (.int .i64 0)) (.map #[] 0)).mono (by have := W5.out.size; have := L5.out; have := La.out; have := Lb.out; omega))).grown gr6 (by have := L5.out; have := La.out; have := Lb.out; simp; omega) (fun k hk => by cases hk; have := L5.out; have := La.out; have := Lb.out; omega)))
    have L6 : Hid (w4.heap.size ≤ ((w4.setCell ⟨na + 1, 0, none⟩ .nilIface).setCell ⟨na + 1, 1, none⟩ (.int .i64 0)).heap.size) := L5.out
    have MP6 := hide mp6
    clear mp6 gr6 H5 W5 L5 Z5 m4
    rw [e5] at MK UP MP6
    clear e5 L6
    go_wp2_with fail
    clear MK UP
    obtain ⟨b, hbb⟩ : ∃ b, b = w4.heap.size := ⟨_, rfl⟩
    rw [← hbb] at MP6
    rw [← hbb]
    have HB := hide hbb
    clear hbb
    have hl3 : ts.length ≤ 9223372036854775807 := by omega
    go_loopw [54] (fun vi wr => ∃ (j : Nat), j ≤ ts.length ∧ vi = .int .i64 j ∧ Hid (Mp wr b (j + 1) (fun y => y = s.size ∨ ∃ q, q < j ∧ ((tkAt ts q).pos : Int) = y) ∧ (∀ k, k < w4.heap.size → k ≠ na + 1 → wr.heap[k]? = w4.heap[k]?) ∧ Below na w2 wr)) (fun vi _ => ts.length - (intOf vi).toNat)
    case atStart =>
      refine ⟨0, Nat.zero_le _, rfl, ?_, H6.out, W6.out⟩
      obtain ⟨D, h1, h2⟩ := MP6.out
      exact ⟨D, h1, fun x hx => h2 x (by rcases hx with rfl | ⟨q, hq, _⟩; exact .inr rfl; omega)⟩
    case round =>
      clear MP6 H6 W6
      obtain ⟨j, hj, rfl, I⟩ := hrel
      by_cases hjl : j < ts.length
      · have hj2 : (j : Int) < (ts.length : Int) := by omega
        obtain ⟨g, cap, hv, hg, hB, h1, h2, hc⟩ := HO.out.at (fun e => by rw [e] at hjl; simp at hjl)
        injection hv with hv1 hv2 hv3
        subst hv1 hv3
        have q : ∀ f u, f < 5 → (Tk.cells (tkAt ts j))[f]? = some u → wr.cell? ⟨g, j * 5 + f, none⟩ = some u := fun f u hf hu => by
          have h3 := hc _ _ ((toks_get ts j f hjl hf).trans hu)
          rw [← h3]
          simp only [World.cell?, I.out.2.1 g hg (by have := La.out; omega)]
        have c0 : wr.cell? ⟨g, j * 5, none⟩ = _ := q 0 _ (by omega) rfl
        have c1 := q 1 _ (by omega) rfl
        have c2 := q 2 _ (by omega) rfl
        have c3 := q 3 _ (by omega) rfl
        have c4 := q 4 _ (by omega) rfl
        clear q
        have hpz : (tkAt ts j).pos ≤ 8192 := by
          have := (toksF_ord HT.out).2 j hjl
          omega
        obtain ⟨tk, htk⟩ : ∃ tk, tkAt ts j = tk := ⟨_, rfl⟩
        rw [htk] at c0 c1 c2 c3 c4 hpz
        have hba := bel_new wr (.cells #[.int .i64 tk.kind, .string tk.text, .int .i64 tk.n, .int .u64 tk.bits, .int .i64 tk.pos] 46)
        obtain ⟨w8, UP, mp8, gr8⟩ := (I.out.1.bel hba).add (by unfold maxLen; omega) (tk.pos : Int) (wf64 (by omega) (by omega))
        have hbl := I.out.1.lt
        have H8 : Hid (∀ k, k < w4.heap.size → k ≠ na + 1 → w8.heap[k]? = w4.heap[k]?) := fun k hk hne => (gr8.block k (by have := HB.out; simp; omega) (by have := HB.out; simp; omega)).trans ((hba.block k (by have := HB.out; omega)).trans (I.out.2.1 k hk hne))
        have hna : na ≤ wr.heap.size := by
          have := HB.out
          have := La.out
          have := Lb.out
          omega
        have W8 := hide ((I.out.2.2.trans (hba.mono hna)).grown gr8 (by simp; omega) (fun k hk => by cases hk; have := HB.out; have := La.out; have := Lb.out; omega))
        clear hna
        have MP8 := hide mp8
        have HTK := hide htk
        unfold maxLen at h2
        clear mp8 gr8 hba htk hbl I hc hg hB h1
        go_wp2_with fail
        go_roundw
        case rel =>
          refine ⟨j + 1, by omega, by go_num, ?_, H8.out, W8.out⟩
          obtain ⟨D, d1, d2⟩ := MP8.out
          refine ⟨D, d1, fun x hx => d2 x ?_⟩
          rcases hx with rfl | ⟨q, hq, rfl⟩
          · exact .inl (.inl rfl)
          · by_cases e : q = j
            · subst e
              exact .inr (by rw [HTK.out])
            · exact .inl (.inr ⟨q, by omega, rfl⟩)
        case measure =>
          simp [intOf]
          omega
      · have hj2 : ¬ (j : Int) < (ts.length : Int) := by omega
        have hjn : j = ts.length := by omega
        have nodF : Nod wr na (.int .i64 kd) (.int .i64 ps) (.string nm) (.int .i64 t) (.int .i64 nz) (.int .i64 z) (.int .i64 ob) (.int .u64 bi) (.slice oa len ck) := (I.out.2.1 na (by have := La.out; have := Lb.out; omega) (by omega)).trans N4.out
        have hR : NodeR wr (.mk kd ps nm t nz z ob bi ks) (.agg #[.int .i64 kd, .int .i64 ps, .string nm, .int .i64 t, .int .i64 nz, .int .i64 z, .int .i64 ob, .int .u64 bi, .slice oa len ck]) := by
          unfold NodeR
          exact ⟨_, rfl, HKR.out wr I.out.2.2⟩
        have hBg : Begins wr b (ts ++ [endTk s.size]) := I.out.1.begins (fun x hx => by
          obtain ⟨q, hq, rfl⟩ := hx
          rw [List.length_append, List.length_singleton] at hq
          by_cases e : q = ts.length
          · subst e
            refine .inl ?_
            unfold tkAt
            rw [List.getD_eq_getElem?_getD, List.getElem?_append_right (Nat.le_refl _)]
            simp [endTk]
          · refine .inr ⟨q, by omega, ?_⟩
            unfold tkAt
            rw [List.getD_eq_getElem?_getD, List.getD_eq_getElem?_getD, List.getElem?_append_left (by omega)])
        have RR := hide (placed_any hR hBg HPL.out)
        have BR := hide (B2.out.trans (I.out.2.2.mono LEna.out))
        obtain ⟨_, q0, q1, q2, q3, q4, q5, q6, q7, q8⟩ := nodF.all
        clear I hR hBg nodF
        go_wp2_with fail
        refine RR.out.mono ?_
        rintro e w9 ⟨rfl, hb9⟩
        have B9 := hide (bel_trans BR.out hb9)
        clear hb9 RR BR
        go_wp2_with fail
        go_ret
        exact ⟨rfl, B9.out⟩

end Go.Proofs.YtodgkfniimgfcaaGreatDoor.Ck
