/- Package proofread: take. -/
import Derived.Test.YtlheflkdapckbaaDoorPb
import Derived.Test.YtlheflkdapckbaaDoorPm
namespace Go.Proofs.YtlheflkdapckbaaDoor.Ck
open Go.RowKit

/-- a call that turns the stack in block b alone: what it leaves, or that it gives up -/
def TkP (p : List Addr) (w : World) (b B : Nat) (o : Option (List Int)) (e : Ending) (w' : World) : Prop := Tn b w w' ∧ match o with
  | some s' => e = .returned (.tuple #[]) ∧ ∃ v', Sk w' b B v' s'
  | none => e = codeStop p
/-- ints in a block that isn't a stack's variable -/
theorem sl_tn {w w' : World} {b : Nat} {v vs : Value} {l : List Int} {a : Option Addr} {n c : Nat} (h : Sl w v l) (hb : w.heap[b]? = some (.cells #[vs] 54 (0, 0))) (hv : vs = .slice a n c) (t : Tn b w w') : Sl w' v l := by
  obtain ⟨hf, a', cap, e, h1, h2, h3⟩ := h
  refine ⟨hf, a', cap, e, h1, h2, fun i hi => ?_⟩
  obtain ⟨g, off, ha, hlt, hc⟩ := h3 i hi
  have hne : g ≠ b := fun e => by
    subst e
    have h4 : w.cell? ⟨g, off + i, none⟩ = (#[vs])[off + i]? := by simp [World.cell?, hb]
    rw [h4, hv] at hc
    by_cases h0 : off + i = 0
    · rw [h0] at hc
      cases hc
    · rw [Array.getElem?_eq_none (by simp; omega)] at hc
      cases hc
  refine ⟨g, off, ha, Nat.lt_of_lt_of_le hlt t.size, ?_⟩
  unfold World.cell? at hc ⊢
  rw [t.blk g hlt hne]
  exact hc
theorem Ec.tn {w w' : World} {p : List Addr} {b : Nat} (h : Ec w p) (t : Tn b w w') (hb : 8 ≠ b) : Ec w' p := by
  have hl := World.block_lt_of_cell? w _ h
  unfold Ec World.cell? at h ⊢
  rw [t.blk _ hl hb]
  exact h
theorem Sk.slice {w : World} {b B : Nat} {v : Value} {s : List Int} (h : Sk w b B v s) : ∃ a c, v = .slice a s.length c := by
  obtain ⟨a, c, e, _⟩ := own_slice h.row
  exact ⟨a, c, e⟩
theorem Ec.nb {w : World} {p : List Addr} {b : Nat} {v : Value} {a : Option Addr} {n c : Nat} (h : Ec w p) (hb : w.heap[b]? = some (.cells #[v] 54 (0, 0))) (hv : v = .slice a n c) : 8 ≠ b := fun e => by
  unfold Ec at h
  rw [e] at h
  have := (blk_cell hb 0 _ rfl).symm.trans h
  rw [hv] at this
  cases this
set_option maxRecDepth 20000 in
set_option maxHeartbeats 2000000 in
theorem take_any {w : World} {p : List Addr} {b B : Nat} {v : Value} {s ts : List Int} {aT : Option Addr} {cT : Nat} (hc : Ec w p) (h : Sk w b B v s) (hT : Sl w (.slice aT ts.length cT) ts) (hn : ts.length ≤ 1000) : Calls Tryd.prog 46 #[.pointer (some ⟨b, 0, none⟩), .slice aT ts.length cT] w (TkP p w b B (takeM ts s)) := by
  obtain ⟨n, hn0⟩ : ∃ n, n = ts.length := ⟨_, rfl⟩
  have HN := hide hn0
  have hnn : n ≤ 1000 := by omega
  have hw : wrap64 ((n : Int) - 1) = (n : Int) - 1 := by unfold wrap64; omega
  rw [← hn0] at hT ⊢
  have H0 : Hid (∃ v m, Sk w b B v (s.take m) ∧ Sl w (.slice aT n cT) ts ∧ Ec w p ∧ Tn b w w ∧ m + (n - n) = s.length ∧ ∀ j, n ≤ j → j < n → s.getD (m + (j - n)) 0 = ts.getD j 0) := hide ⟨v, s.length, by rw [List.take_length]; exact h, hT, hc, Tn.refl _ _, by omega, fun j h1 h2 => by omega⟩
  clear h hT hc hn hn0
  go_enter Tryd.func46, Tryd.ntmps46
  go_wp2_with fail
  go_loopw [4] (fun x4 wr => ∃ k : Nat, k ≤ n ∧ x4 = .int .i64 ((k : Int) - 1) ∧ Hid (∃ v m, Sk wr b B v (s.take m) ∧ Sl wr (.slice aT n cT) ts ∧ Ec wr p ∧ Tn b w wr ∧ m + (n - k) = s.length ∧ ∀ j, k ≤ j → j < n → s.getD (m + (j - k)) 0 = ts.getD j 0)) (fun x4 _ => (intOf x4 + 1).toNat)
  case atStart => exact ⟨n, Nat.le_refl _, rfl, H0⟩
  case round =>
    obtain ⟨k, hk, rfl, HI⟩ := hrel
    clear H0
    obtain ⟨v1, m, k1, sl, ec, tn, hm, hall⟩ := HI.out
    by_cases h0 : k = 0
    · subst h0
      have HT : Hid (TkP p w b B (takeM ts s) (.returned (.tuple #[])) wr) := hide (by
        rw [takeM_yes (m := m) (by have := HN.out; omega) (fun j hj => hall j (by omega) (by have := HN.out; omega))]
        exact ⟨tn, rfl, v1, k1⟩)
      clear HI v1 m k1 sl ec tn hm hall HN
      rw [show ((0 : Nat) : Int) - 1 = -1 from rfl]
      go_wp2_with fail
      go_end0
      exact HT.out
    · obtain ⟨j, rfl⟩ : ∃ j, k = j + 1 := ⟨k - 1, by omega⟩
      have ej : ((j + 1 : Nat) : Int) - 1 = (j : Int) := by omega
      have hjn : (j : Int) < (n : Int) := by omega
      have hw2 : wrap64 ((j : Int) - 1) = (j : Int) - 1 := by unfold wrap64; omega
      obtain ⟨bT, oT, rfl, hbT, cT1⟩ := sl.at j (by omega)
      obtain ⟨t, ht⟩ : ∃ t, t = ts.getD j 0 := ⟨_, rfl⟩
      rw [← ht] at cT1
      have HSL := hide sl
      have HK := hide k1
      have HEC := hide ec
      have HTN := hide tn
      have HM := hide (And.intro hm (And.intro hall ht))
      have hd : wr.drew.cell? ⟨bT, oT + j, none⟩ = some (.int .i64 t) := cT1
      have BD : Below wr.heap.size wr wr.drew := bel_drawn (Below.refl _ _)
      have HKD := hide (k1.bel BD)
      have HSD := hide (sl.bel BD)
      have HED := hide (ec.bel BD)
      have HTD := hide (tn.trans (Tn.of_bel BD))
      obtain ⟨a1, c1, e1⟩ := k1.slice
      clear HI k1 sl ec tn hm hall cT1 BD ht
      rw [ej]
      clear ej
      go_upto_region 3 with fail
      refine wp_region_T (S := fun w' => w'.cell? ⟨bT, oT + j, none⟩ = some (.int .i64 t)) (fun _ => true) mixed hd (fun hH => ?_)
      generalize wr.drew = wd at *
      refine Tm 0 ?_
      simp only [Act.put, SA]
      refine Tm 2 ?_
      simp only [Act.put, SA]
      refine Tm 3 ?_
      simp only [Act.put, SA]
      refine Tm 4 ?_
      simp only [Act.put, SA]
      refine Tl 5 (v := ?_) ?_ hH ?_
      rotate_left 1
      · (intro w hSw; go_simp <;> with_reducible rfl)
      simp only [Act.put, SA]
      refine Tr 1 (fun K1 hK1 => ?_)
      go_simp
      by_cases m0 : m = 0
      · subst m0
        refine (pop_none (B := B) (v := v1) HED.out (by have := HKD.out; simpa using this)).mono ?_
        rintro e w5 ⟨rfl, rfl⟩
        refine ⟨rfl, ?_⟩
        rw [takeM_no (k := j) (m := 0) (by have := HN.out; omega) (by have := HN.out; have := HM.out.1; omega) (.inl rfl)]
        exact ⟨HTD.out, rfl⟩
      · obtain ⟨m', rfl⟩ : ∃ q, m = q + 1 := ⟨m - 1, by omega⟩
        have hms : m' < s.length := by have := HM.out.1; omega
        have es : s.take (m' + 1) = s.take m' ++ [s.getD m' 0] := by
          rw [List.take_add_one, List.getD_eq_getElem?_getD, List.getElem?_eq_getElem hms]
          rfl
        have HKD2 := hide (es ▸ HKD.out)
        obtain ⟨t0, ht0⟩ : ∃ t, t = s.getD m' 0 := ⟨_, rfl⟩
        rw [← ht0] at HKD2
        have HT0 := hide (And.intro ht0 hms)
        clear ht0 hms es
        refine (pop_some HKD2.out).mono ?_
        rintro e w5 ⟨rfl, ⟨v2, k2⟩, t2⟩
        have hS5 := sl_tn HSD.out HKD.out.at_ e1 t2
        have hc5 : w5.cell? ⟨bT, oT + j, none⟩ = some (.int .i64 t) := by
          obtain ⟨b9, o9, e9, _, q9⟩ := hS5.at j (by omega)
          cases e9
          rw [HM.out.2.2]
          exact q9
        have HE5 := hide (HED.out.tn t2 (HED.out.nb HKD.out.at_ e1))
        have HT5 := hide (HTD.out.trans t2)
        have HK5 := hide k2
        have HS5 := hide hS5
        have HC5 := hide hc5
        refine hK1.out _ _ (fun _ => hc5) (fun _ => ?_)
        clear hK1 K1 k2 t2 hS5 hc5 HKD HKD2 HSD HED HTD hH
        refine Tm 6 ?_
        simp only [Act.put, SA]
        refine Tr 7 (fun K1 hK1 => ?_)
        go_simp
        by_cases heq : t0 = t
        · have hb : (t0 == t) = true := by simp [heq]
          have REL : Hid (∃ v m, Sk w5 b B v (s.take m) ∧ Sl w5 (.slice (some ⟨bT, oT, none⟩) n cT) ts ∧ Ec w5 p ∧ Tn b w w5 ∧ m + (n - j) = s.length ∧ ∀ i, j ≤ i → i < n → s.getD (m + (i - j)) 0 = ts.getD i 0) := hide ⟨v2, m', HK5.out, HS5.out, HE5.out, HT5.out, by have := HM.out.1; omega, fun i h1 h2 => by
            by_cases e : i = j
            · subst e
              rw [Nat.sub_self, Nat.add_zero, ← HT0.out.1, heq, HM.out.2.2]
            · have h3 := HM.out.2.1 i (by omega) h2
              rw [show m' + (i - j) = m' + 1 + (i - (j + 1)) by omega]
              exact h3⟩
          rw [hb]
          clear hb heq
          refine (pmust_yes _).mono ?_
          rintro e w6 ⟨rfl, rfl⟩
          refine hK1.out _ _ (fun _ => HC5.out) (fun _ => ?_)
          clear hK1 K1
          refine T_done (by kernel_rfl) ?_ _
          go_wp2_with fail
          go_roundw
          case rel => exact ⟨j, by omega, rfl, REL.out⟩
          case measure => simp [intOf]
        · have hb : (t0 == t) = false := by simp [heq]
          have HF : Hid (TkP p w b B (takeM ts s) (codeStop p) w5) := hide (by
            rw [takeM_no (k := j) (m := m' + 1) (by have := HN.out; omega) (by have := HN.out; have := HM.out.1; omega) (.inr (by rw [Nat.add_sub_cancel, ← HT0.out.1, ← HM.out.2.2]; exact heq))]
            exact ⟨HT5.out, rfl⟩)
          rw [hb]
          clear hb heq
          refine (pmust_no HE5.out).mono ?_
          rintro e w6 ⟨rfl, rfl⟩
          exact ⟨rfl, HF.out⟩
end Go.Proofs.YtlheflkdapckbaaDoor.Ck
