/- The contracts of the document's Alloc (whole), Find, Word, Used and Free, by its runs. -/
import Derived.Test.YtndhgdjcbegjdaaDoorRe
namespace Go.Proofs.YtndhgdjcbegjdaaDoor.Ck
open Go.RowKit

section
variable {w : World} {gm n : Nat} {v : Value} {H : List Rn} {V : Nat → Int}

theorem ralloc_no (w : World) (gm : Nat) (z : Int) (hz : z < 1) :
    Calls Tryd.prog 25 #[.pointer (some ⟨gm, 0, none⟩), .int .i64 z] w fun e w' => e = .returned (.tuple #[.int .i64 0, .int .i64 1]) ∧ w = w' := by
  have hd : decide (z < 1) = true := decide_eq_true hz
  go_enter Tryd.func25, Tryd.ntmps25
  go_wp2_with fail
  go_ret2
  exact ⟨rfl, rfl⟩
theorem ralloc_much (h : Rm w gm n v H V) (z : Int) (hz : 16 * (n : Int) < z) :
    Calls Tryd.prog 25 #[.pointer (some ⟨gm, 0, none⟩), .int .i64 z] w fun e w' => e = .returned (.tuple #[.int .i64 0, .int .i64 14]) ∧ w = w' := by
  have hn := h.small
  have hs := h.shareC
  have hd : decide (16 * (n : Int) < z) = true := decide_eq_true hz
  have hd1 : decide (z < 1) = false := decide_eq_false (by omega)
  clear h
  go_enter Tryd.func25, Tryd.ntmps25
  go_wp2_with fail
  go_ret2
  exact ⟨rfl, rfl⟩

theorem Rm.find_ (h : Rm w gm n v H V) (at_ : Int) :
    Calls Tryd.prog 16 #[.pointer (some ⟨gm, 0, none⟩), .int .i64 at_] w fun e w' => (∃ i : Int, e = .returned (.int .i64 i) ∧ rfind (rat H) at_ H.length i) ∧ Below w.heap.size w w' := by
  obtain ⟨a, cap, rfl, _, _, hR⟩ := h.slice
  exact rfind_any gm a H.length cap (rat H) at_ w h.runsC (by have := h.hl; omega) hR
theorem Rm.word_ (h : Rm w gm n v H V) (at_ : Int) :
    Calls Tryd.prog 27 #[.pointer (some ⟨gm, 0, none⟩), .int .i64 at_] w fun e w' => (∃ u, e = .returned u ∧ rwordR (rat H) at_ H.length u) ∧ Below w.heap.size w w' := by
  obtain ⟨a, cap, rfl, _, _, hR⟩ := h.slice
  exact rword_any gm a H.length cap (rat H) at_ w h.runsC (by have := h.hl; omega) hR
theorem Rm.used_ (h : Rm w gm n v H V) :
    Calls Tryd.prog 15 #[.pointer (some ⟨gm, 0, none⟩)] w fun e w' => e = .returned (.int .i64 (psum (rat H) H.length)) ∧ Below w.heap.size w w' := by
  obtain ⟨a, cap, rfl, _, _, hR⟩ := h.slice
  exact rused_any gm a H.length cap (rat H) w h.runsC (by have := h.hl; omega) hR

/-- a run less -/
theorem Rm.drop {rg m cap : Nat} (h : Rm w gm n (.slice (some ⟨rg, 0, none⟩) m cap) H V) (k off : Nat) (hk : k < m) (hoff : k + 1 < m → off = (k + 1) * 3) (ad : Option Addr) (had : ad = some ⟨rg, off, none⟩) (ty : TypeId) :
    ∃ v1 w2, (Builtin.append_ #[41, 41] ty #[.slice (some ⟨w.heap.size, 0, none⟩) 0 0, .slice (some ⟨rg, 0, none⟩) k cap]).run Tryd.prog (w.alloc (.cells #[] 50)) = .ok v1 w2 ∧ w2.cell? ⟨gm, 1, none⟩ = some (.slice (some ⟨rg, 0, none⟩) m cap) ∧
      ∀ ty, ∃ v2 w3, (Builtin.append_ #[41, 41] ty #[v1, .slice ad (m - (k + 1)) (cap - (k + 1))]).run Tryd.prog w2 = .ok v2 w3 ∧ (w3.cell? ⟨gm, 1, none⟩ = some (.slice (some ⟨rg, 0, none⟩) m cap) ∧ w3.frozen? ⟨gm, 1, none⟩ = false) ∧
        Rm (w3.setCell ⟨gm, 1, none⟩ v2) gm n v2 (H.take k ++ H.drop (k + 1)) V ∧ Ef (blks gm (.slice (some ⟨rg, 0, none⟩) m cap) H) w (w3.setCell ⟨gm, 1, none⟩ v2) ∧ ∀ b ∈ blks gm v2 (H.take k ++ H.drop (k + 1)), b ∈ blks gm (.slice (some ⟨rg, 0, none⟩) m cap) H ∨ w.heap.size ≤ b := by
  subst had
  obtain ⟨i, hi, hz0, hz1, hz2⟩ := info_parts infoRun
  have hn := h.small
  have hl := h.hl
  have hlt := h.lt
  obtain ⟨cur, hrg, hcs, htk, hm, hmc, hcm⟩ : ∃ cur : Array Value, w.heap[rg]? = some (.cells cur 50 (0, 0)) ∧ cur.size = cap * 3 ∧ cur.toList.take (m * 3) = rv H ∧ m = H.length ∧ m ≤ cap ∧ cap ≤ maxLen := by
    rcases h.own.2 with ⟨h1, _⟩ | ⟨g, cap', cur, h1, _, h3, h4, h5, h6, h7⟩
    · simp at h1
    · simp only [Value.slice.injEq, Option.some.injEq, Addr.mk.injEq, and_true] at h1
      obtain ⟨rfl, e, rfl⟩ := h1
      rw [← e] at h4 h7
      exact ⟨cur, h3, h6, h7, e, h4, h5⟩
  have hcell : ∀ (wx : World), wx.heap[rg]? = w.heap[rg]? → ∀ o j u, o + j < m * 3 → (rv H)[o + j]? = some u → wx.cell? ⟨rg, o + j, none⟩ = some u := fun wx hx o j u hj hu => by
    rw [← htk, List.getElem?_take_of_lt hj, Array.getElem?_toList] at hu
    simp only [World.cell?, hx, hrg]
    exact hu
  have hrlt : rg < w.heap.size := lt_of_blk hrg
  have eH : H = H.take k ++ H.drop k := (List.take_append_drop k H).symm
  have eH2 : H = H.take (k + 1) ++ H.drop (k + 1) := (List.take_append_drop (k + 1) H).symm
  have b1 : Below w.heap.size w (w.alloc (.cells #[] 50)) := bel_new w _
  have own0 : (w.alloc (.cells #[] 50)).ownsRow w.heap.size 50 3 (.slice (some ⟨w.heap.size, 0, none⟩) 0 0) 0 [] :=
    ⟨rfl, .inr ⟨w.heap.size, 0, #[], rfl, Nat.le_refl _, Go.Deep.blk_alloc_new _ _, Nat.le_refl _, Nat.zero_le _, rfl, rfl⟩⟩
  have htl : (H.take k).length = k := by rw [List.length_take]; omega
  have hdl : (H.drop (k + 1)).length = m - (k + 1) := by rw [List.length_drop]; omega
  obtain ⟨v1, w2, hr1, ho1, hg1, hn1, hbl1⟩ := run_append_own_at (P := Tryd.prog) (w.alloc (.cells #[] 50)) w.heap.size 41 ty 50 i _ 3 40 Tryd.underlying41 hi hz0 hz1 hz2 rfl (by decide) _ 0 [] own0 ⟨rg, 0, none⟩ k cap
    (rv (H.take k)) (by rw [rv_len, htl]) (fun j u hu => by
      have hj : j < k * 3 := by have := (List.getElem?_eq_some_iff.1 hu).1; rw [rv_len, htl] at this; exact this
      rw [Addr.add_mid]
      refine hcell _ (b1.block rg hrlt) 0 j u (by omega) ?_
      rw [Nat.zero_add, eH, rv_app, List.getElem?_append_left (by rw [rv_len, htl]; exact hj)]
      exact hu) (rv_one _) (by unfold maxLen; omega) (by omega) (by simp)
  have k2 : ∀ b, b < w.heap.size → w2.heap[b]? = w.heap[b]? := fun b hb => (hg1.block b (by simp; omega) (by simp [Value.ownBlock]; omega)).trans (b1.block b hb)
  have hgmlt : gm < w.heap.size := hlt gm (by simp [blks])
  have hs2 : w.heap.size + 1 ≤ w2.heap.size := by have := hg1.size; simpa using this
  have hv1 : ∀ g, v1.ownBlock = some g → w.heap.size ≤ g := fun g hg => by
    rcases hbl1 with e | e
    · rw [hg] at e; simp [Value.ownBlock] at e; omega
    · rw [hg] at e; simp at e; omega
  refine ⟨v1, w2, hr1, by simp [World.cell?, k2 gm hgmlt, h.st], fun ty => ?_⟩
  obtain ⟨v2, w3, hr2, ho2, hg2, hn2, hbl2⟩ := run_append_own_at (P := Tryd.prog) w2 w.heap.size 41 ty 50 i _ 3 40 Tryd.underlying41 hi hz0 hz1 hz2 rfl (by decide) v1 (0 + k) ([] ++ rv (H.take k)) ho1 ⟨rg, off, none⟩ (m - (k + 1)) (cap - (k + 1))
    (rv (H.drop (k + 1))) (by rw [rv_len, hdl]) (fun j u hu => by
      have hj : j < (m - (k + 1)) * 3 := by have := (List.getElem?_eq_some_iff.1 hu).1; rw [rv_len, hdl] at this; exact this
      have ho : off = (k + 1) * 3 := hoff (by omega)
      rw [Addr.add_mid, ho]
      refine hcell _ (k2 rg hrlt) _ j u (by omega) ?_
      have hl2 : (rv (H.take (k + 1))).length = (k + 1) * 3 := by rw [rv_len, List.length_take, show min (k + 1) H.length = k + 1 by omega]
      rw [eH2, rv_app, List.getElem?_append_right (by omega), hl2, show (k + 1) * 3 + j - (k + 1) * 3 = j by omega]
      exact hu) (rv_one _) (by unfold maxLen; omega) (by omega) (by omega)
  have k3 : ∀ b, b < w.heap.size → w3.heap[b]? = w.heap[b]? := fun b hb => (hg2.block b (by omega) (fun e => by have := hv1 b e.symm; omega)).trans (k2 b hb)
  have hv2 : ∀ g, v2.ownBlock = some g → w.heap.size ≤ g := fun g hg => by
    rcases hbl2 with e | e
    · exact hv1 g (e ▸ hg)
    · rw [hg] at e; simp at e; omega
  have hst : w3.heap[gm]? = some (.cells #[.int .i64 n, .slice (some ⟨rg, 0, none⟩) m cap] 43 (0, 0)) := (k3 gm hgmlt).trans h.st
  have hset : ∀ k, k ≠ gm → (w3.setCell ⟨gm, 1, none⟩ v2).heap[k]? = w3.heap[k]? := fun k hk => Below.heap_setCell _ _ _ _ hk
  have hsub : ∀ x ∈ H.take k ++ H.drop (k + 1), x ∈ H := fun x hx => by
    rcases List.mem_append.1 hx with hx | hx
    · exact List.mem_of_mem_take hx
    · exact List.mem_of_mem_drop hx
  have hnd := h.nd
  rw [blks, List.nodup_cons, List.nodup_append] at hnd
  obtain ⟨n1, _, n3, _⟩ := hnd
  have hxlt : ∀ x ∈ H, x.b < w.heap.size := fun x hx => hlt x.b (by simp only [blks, List.mem_cons, List.mem_append, List.mem_map]; exact .inr (.inr ⟨x, hx, rfl⟩))
  have hxgm : ∀ x ∈ H, x.b ≠ gm := fun x hx e => n1 (List.mem_append_right _ (List.mem_map.2 ⟨x, hx, e⟩))
  refine ⟨v2, w3, hr2, ⟨by simp [World.cell?, hst], by simp [World.frozen?, hst]⟩, ⟨hn, ?_, ?_, fun x hx => ?_, ?_, ?_, fun x hx => h.hb x (hsub x hx)⟩, ?_, ?_⟩
  · rw [heap_setCell_same _ _ _ _ _ _ hst]; rfl
  · have e1 : (H.take k ++ H.drop (k + 1)).length = 0 + k + (m - (k + 1)) := by rw [List.length_append, htl, hdl]; omega
    rw [e1, rv_app]
    have ho3 : w3.ownsRow 0 50 3 v2 (0 + k + (m - (k + 1))) (rv (H.take k) ++ rv (H.drop (k + 1))) := by
      refine ⟨ho2.1, ?_⟩
      rcases ho2.2 with h1 | ⟨g, c2, cu, h1, _, h3⟩
      · exact .inl h1
      · exact .inr ⟨g, c2, cu, h1, Nat.zero_le _, h3⟩
    exact own_keep ho3 (fun g hg' => hset g (fun e => by have := hv2 g hg'; omega))
  · rw [hset _ (hxgm x (hsub x hx)), k3 _ (hxlt x (hsub x hx))]
    exact h.wd x (hsub x hx)
  · rw [blks, List.nodup_cons, List.nodup_append]
    have hH : ∀ b ∈ (H.take k ++ H.drop (k + 1)).map Rn.b, b < w.heap.size := fun b hb => by
      obtain ⟨x, hx, rfl⟩ := List.mem_map.1 hb
      exact hxlt x (hsub x hx)
    refine ⟨fun hm' => ?_, ?_, ?_, fun a ha b hb e => ?_⟩
    · rcases List.mem_append.1 hm' with hm' | hm'
      · have := hv2 gm (by simpa using hm'); omega
      · obtain ⟨x, hx, e⟩ := List.mem_map.1 hm'
        exact hxgm x (hsub x hx) e
    · cases v2.ownBlock <;> simp
    · refine List.Nodup.sublist (List.Sublist.map _ ?_) n3
      have hs : (H.take k ++ H.drop (k + 1)).Sublist (H.take k ++ H.drop k) := List.Sublist.append (List.Sublist.refl _) (List.drop_sublist_drop_left H (by omega))
      rwa [List.take_append_drop] at hs
    · have := hv2 a (by simpa using ha)
      have := hH b hb
      omega
  · rw [List.length_append, htl, hdl]; omega
  · refine Ef.trans (b := w3) ⟨hg2.os.trans (hg1.os.trans b1.os), hg2.tape.trans (hg1.tape.trans b1.tape), hg2.output.trans (hg1.output.trans b1.output), by have := hg2.size; omega, fun b hb _ => k3 b hb⟩ ((Ef.set w3 gm 1 v2).mono (fun b hb => by simp at hb; simp [blks, hb]))
  · intro b hb
    simp only [blks, List.mem_cons, List.mem_append, Option.mem_toList] at hb
    rcases hb with e | e | e
    · left; simp [blks, e]
    · right; exact hv2 b e
    · left
      obtain ⟨x, hx, e⟩ := List.mem_map.1 e
      simp only [blks, List.mem_cons, List.mem_append, List.mem_map]
      exact .inr (.inr ⟨x, hsub x hx, e⟩)

def RFree (H : List Rn) (n gm : Nat) (v : Value) (V : Nat → Int) (at_ : Int) (w : World) (e : Ending) (w' : World) : Prop :=
  (e = .returned (.int .i64 8) ∧ (∀ k, k < H.length → 16 * ((rat H k).f : Int) ≠ at_) ∧ Below w.heap.size w w') ∨
  (∃ (k : Nat) (v' : Value), k < H.length ∧ e = .returned (.int .i64 0) ∧ 16 * ((rat H k).f : Int) = at_ ∧ Rm w' gm n v' (H.take k ++ H.drop (k + 1)) V ∧ Ef (blks gm v H) w w' ∧ ∀ b ∈ blks gm v' (H.take k ++ H.drop (k + 1)), b ∈ blks gm v H ∨ w.heap.size ≤ b)

set_option maxHeartbeats 4000000 in
theorem rfree_any (h : Rm w gm n v H V) (at_ : Int) :
    Calls Tryd.prog 26 #[.pointer (some ⟨gm, 0, none⟩), .int .i64 at_] w (RFree H n gm v V at_ w) := by
  have HM : Hid (∀ wi, Below w.heap.size w wi → Rm wi gm n v H V) := fun wi hb => h.below hb
  have HF := hide (h.find_ at_)
  have HS := hide h.slice
  have hl := h.hl
  clear h
  go_enter Tryd.func26, Tryd.ntmps26
  go_wp2_with fail
  refine HF.out.mono ?_
  rintro e w1 ⟨⟨i, rfl, hi⟩, hb1⟩
  rcases hi with ⟨rfl, hi⟩ | ⟨k, hk, rfl, hk1, hk2⟩
  · have E := hide (And.intro hi hb1)
    clear hi hb1 HM HF HS
    go_wp2_with fail
    go_ret
    exact .inl ⟨rfl, E.out.1, E.out.2⟩
  · have hd : decide ((k : Int) < 0) = false := decide_eq_false (by omega)
    have HB := hide hb1.drew
    have hM := HM.out _ HB.out
    have HK := hide (And.intro hk hk1)
    obtain ⟨a0, cap, hv0, hcap, hcm, hRA⟩ := HS.out
    obtain ⟨m, em⟩ : ∃ m, m = H.length := ⟨_, rfl⟩
    rw [← em] at hv0 hcap hRA hk
    obtain ⟨_, rg, e1, _⟩ := hRA k hk
    rw [e1] at hv0
    subst hv0
    have hrc := hM.runsC
    have hgm := hM.lt gm (by simp [blks])
    have hwr : IntKind.i64.wrap ((k : Int) + 1) = (k : Int) + 1 := by rw [IntKind.wrap_i64]; omega
    have PU := hide (fun ty => hM.drop k (if cap = k + 1 then 0 else (k + 1) * 3) hk (fun h => if_neg (by omega)) (if cap = k + 1 then some ⟨rg, 0, none⟩ else some ⟨rg, (k + 1) * 3, none⟩) (by by_cases hce : cap = k + 1 <;> simp [hce]) ty)
    have hkc : k ≤ cap := by omega
    have hkm1 : 0 ≤ (k : Int) + 1 := by omega
    have hkm2 : (k : Int) + 1 ≤ (m : Int) := by omega
    rw [← em] at hl
    clear HM HF HS hM hRA e1 hk1 hk2 em hb1
    go_wp2_with fail
    refine wp_region_noPanic ?_
    refine wp_region_any mixed ?_
    change wpAny _ _ _ _ _ _ _ (World.drew _)
    generalize w1.drew = wA at *
    refine wpAny_take (i := 0) (v := ?_) rfl (by kernel_rfl) (by kernel_rfl) (by kernel_rfl) (fun _ _ _ h => h) (Or.inl ⟨by rfl, fun w => ?_⟩) ?_
    rotate_left 1
    · (go_simp <;> with_reducible rfl)
    simp only [Act.put, List.getElem_toArray, List.getElem_cons_zero, List.setIfInBounds_toArray, List.set_cons_zero, List.set_cons_succ]
    refine wpAny_take (i := 2) (v := ?_) rfl (by kernel_rfl) (by kernel_rfl) (by kernel_rfl) (fun _ _ _ h => h) (Or.inl ⟨by rfl, fun w => ?_⟩) ?_
    rotate_left 1
    · (go_simp <;> with_reducible rfl)
    simp only [Act.put, List.getElem_toArray, List.getElem_cons_zero, List.getElem_cons_succ, List.setIfInBounds_toArray, List.set_cons_zero, List.set_cons_succ]
    refine wpAny_take (i := 3) (v := ?_) rfl (by kernel_rfl) (by kernel_rfl) (by kernel_rfl) (fun _ _ _ h => h) (Or.inl ⟨by rfl, fun w => ?_⟩) ?_
    rotate_left 1
    · (go_simp <;> with_reducible rfl)
    simp only [Act.put, List.getElem_toArray, List.getElem_cons_zero, List.getElem_cons_succ, List.setIfInBounds_toArray, List.set_cons_zero, List.set_cons_succ]
    refine wpAny_take (i := 4) (v := ?_) rfl (by kernel_rfl) (by kernel_rfl) (by kernel_rfl) (fun _ _ _ h => h) (Or.inl ⟨by rfl, fun w => ?_⟩) ?_
    rotate_left 1
    · (go_simp <;> with_reducible rfl)
    simp only [Act.put, List.getElem_toArray, List.getElem_cons_zero, List.getElem_cons_succ, List.setIfInBounds_toArray, List.set_cons_zero, List.set_cons_succ]
    refine wpAny_take (i := 6) (v := ?_) rfl (by kernel_rfl) (by kernel_rfl) (by kernel_rfl) (fun _ _ _ h => h) (Or.inl ⟨by rfl, fun w => ?_⟩) ?_
    rotate_left 1
    · (go_simp <;> with_reducible rfl)
    simp only [Act.put, List.getElem_toArray, List.getElem_cons_zero, List.getElem_cons_succ, List.setIfInBounds_toArray, List.set_cons_zero, List.set_cons_succ]
    refine wpAny_take (i := 9) (v := ?_) rfl (by kernel_rfl) (by kernel_rfl) (by kernel_rfl) (fun _ _ _ h => h) (Or.inl ⟨by rfl, fun w => ?_⟩) ?_
    rotate_left 1
    · (go_simp <;> with_reducible rfl)
    simp only [Act.put, List.getElem_toArray, List.getElem_cons_zero, List.getElem_cons_succ, List.setIfInBounds_toArray, List.set_cons_zero, List.set_cons_succ]
    refine wpAny_take (i := 10) (v := ?_) rfl (by kernel_rfl) (by kernel_rfl) (by kernel_rfl) (fun _ _ _ h => h) (Or.inl ⟨by rfl, fun w => ?_⟩) ?_
    rotate_left 1
    · (go_simp <;> with_reducible rfl)
    simp only [Act.put, List.getElem_toArray, List.getElem_cons_zero, List.getElem_cons_succ, List.setIfInBounds_toArray, List.set_cons_zero, List.set_cons_succ]
    refine wpAny_take (i := 11) (v := ?_) rfl (by kernel_rfl) (by kernel_rfl) (by kernel_rfl) (fun _ _ _ h => h) (Or.inl ⟨by rfl, fun w => ?_⟩) ?_
    rotate_left 1
    · (go_simp <;> with_reducible rfl)
    simp only [Act.put, List.getElem_toArray, List.getElem_cons_zero, List.getElem_cons_succ, List.setIfInBounds_toArray, List.set_cons_zero, List.set_cons_succ]
    refine wpAny_take (i := 13) (v := ?_) rfl (by kernel_rfl) (by kernel_rfl) (by kernel_rfl) (fun _ _ _ h => h) (Or.inl ⟨by rfl, fun w => ?_⟩) ?_
    rotate_left 1
    · (go_simp <;> with_reducible rfl)
    simp only [Act.put, List.getElem_toArray, List.getElem_cons_zero, List.getElem_cons_succ, List.setIfInBounds_toArray, List.set_cons_zero, List.set_cons_succ]
    refine wpAny_take (i := 14) (v := ?_) rfl (by kernel_rfl) (by kernel_rfl) (by kernel_rfl) (fun _ _ _ h => h) (Or.inl ⟨by rfl, fun w => ?_⟩) ?_
    rotate_left 1
    · (go_simp <;> with_reducible rfl)
    simp only [Act.put, List.getElem_toArray, List.getElem_cons_zero, List.getElem_cons_succ, List.setIfInBounds_toArray, List.set_cons_zero, List.set_cons_succ]
    refine wpAny_ready (rs := [1, 5, 12]) (by kernel_rfl) (by decide) ?_
    refine AllReady.cons rfl (fun K1 hK1 => ?_) (AllReady.cons rfl (fun K1 hK1 => ?_) (AllReady.cons rfl (fun K1 hK1 => ?_) AllReady.nil))
    · go_simp
      refine hK1 _ _ ?_
      clear hK1 K1
      refine wpAny_ready (rs := [5, 12]) (by kernel_rfl) (by decide) ?_
      refine AllReady.cons rfl (fun K1 hK1 => ?_) (AllReady.cons rfl (fun K1 hK1 => ?_) AllReady.nil)
      · have q4 : (wA.alloc (.cells #[] 50)).cell? ⟨gm, 1, none⟩ = some (.slice (some ⟨rg, 0, none⟩) m cap) := ((bel_new wA _).cell (p := ⟨gm, 1, none⟩) hgm).trans hrc
        go_simp
        refine hK1 _ _ ?_
        clear hK1 K1 q4
        refine wpAny_take (i := 7) (v := ?_) rfl (by kernel_rfl) (by kernel_rfl) (by kernel_rfl) (fun _ _ _ h => h) (Or.inl ⟨by rfl, fun w => ?_⟩) ?_
        rotate_left 1
        · (go_simp <;> with_reducible rfl)
        simp only [Act.put, List.getElem_toArray, List.getElem_cons_zero, List.getElem_cons_succ, List.setIfInBounds_toArray, List.set_cons_zero, List.set_cons_succ]
        refine wpAny_ready (rs := [8, 12]) (by kernel_rfl) (by decide) ?_
        refine AllReady.cons rfl (fun K1 hK1 => ?_) (AllReady.cons rfl (fun K1 hK1 => ?_) AllReady.nil)
        · refine step_appV (TS := 41) (.tmp 12) (.tmp 18) _ _ _ (fun ty => PU.out ty) rfl rfl rfl rfl ?_
          rintro v1 w2 ⟨hc2, PV⟩
          have PV := hide PV
          refine hK1 _ _ ?_
          clear hK1 K1
          refine wpAny_ready (rs := [12]) (by kernel_rfl) (by decide) ?_
          refine AllReady.cons rfl (fun K1 hK1 => ?_) AllReady.nil
          have q4 : w2.cell? ⟨gm, 1, none⟩ = some (.slice (some ⟨rg, 0, none⟩) m cap) := hc2
          go_simp
          refine hK1 _ _ ?_
          clear hK1 K1 q4
          refine wpAny_take (i := 15) (v := ?_) rfl (by kernel_rfl) (by kernel_rfl) (by kernel_rfl) (fun _ _ _ h => h) (Or.inl ⟨by rfl, fun w => ?_⟩) ?_
          rotate_left 1
          · (go_simp <;> with_reducible rfl)
          simp only [Act.put, List.getElem_toArray, List.getElem_cons_zero, List.getElem_cons_succ, List.setIfInBounds_toArray, List.set_cons_zero, List.set_cons_succ]
          refine wpAny_ready (rs := [16]) (by kernel_rfl) (by decide) ?_
          refine AllReady.cons rfl (fun K1 hK1 => ?_) AllReady.nil
          refine step_appV (TS := 41) (.tmp 19) (.tmp 26) _ _ _ (fun ty => PV.out ty) rfl rfl rfl rfl ?_
          rintro v2 w9 ⟨⟨hc9, hf9⟩, hR9⟩
          obtain ⟨a1, l1, c1, rfl⟩ : ∃ a l c, v2 = .slice a l c := by obtain ⟨a, c, e, _⟩ := hR9.1.slice; exact ⟨a, _, c, e⟩
          refine hK1 _ _ ?_
          clear hK1 K1
          refine wpAny_take (i := 17) (v := ?_) rfl (by kernel_rfl) (by kernel_rfl) (by kernel_rfl) (fun _ _ _ h => h) (Or.inl ⟨by rfl, fun w => ?_⟩) ?_
          rotate_left 1
          · (go_simp <;> with_reducible rfl)
          simp only [Act.put, List.getElem_toArray, List.getElem_cons_zero, List.getElem_cons_succ, List.setIfInBounds_toArray, List.set_cons_zero, List.set_cons_succ]
          refine wpAny_take (i := 18) (v := ?_) rfl (by kernel_rfl) (by kernel_rfl) (by kernel_rfl) (fun _ _ _ h => h) (Or.inl ⟨by rfl, fun w => ?_⟩) ?_
          rotate_left 1
          · (go_simp <;> with_reducible rfl)
          simp only [Act.put, List.getElem_toArray, List.getElem_cons_zero, List.getElem_cons_succ, List.setIfInBounds_toArray, List.set_cons_zero, List.set_cons_succ]
          refine wpAny_ready (rs := [19]) (by kernel_rfl) (by decide) ?_
          refine AllReady.cons rfl (fun K1 hK1 => ?_) AllReady.nil
          go_simp
          refine hK1 _ _ ?_
          clear hK1 K1
          refine wpAny_done (by kernel_rfl) ?_ _
          refine NoPanic.normal ?_
          clear hc9 hf9
          go_wp2_with fail
          all_goals (go_ret; exact .inr ⟨k, _, HK.out.1, rfl, HK.out.2, hR9.1, (Ef.of_bel HB.out).trans hR9.2.1, fun b hb => (hR9.2.2 b hb).imp id (fun h => Nat.le_trans HB.out.size h)⟩)
        · have q4 : (wA.alloc (.cells #[] 50)).cell? ⟨gm, 1, none⟩ = some (.slice (some ⟨rg, 0, none⟩) m cap) := ((bel_new wA _).cell (p := ⟨gm, 1, none⟩) hgm).trans hrc
          go_simp
          refine hK1 _ _ ?_
          clear hK1 K1 q4
          refine wpAny_take (i := 15) (v := ?_) rfl (by kernel_rfl) (by kernel_rfl) (by kernel_rfl) (fun _ _ _ h => h) (Or.inl ⟨by rfl, fun w => ?_⟩) ?_
          rotate_left 1
          · (go_simp <;> with_reducible rfl)
          simp only [Act.put, List.getElem_toArray, List.getElem_cons_zero, List.getElem_cons_succ, List.setIfInBounds_toArray, List.set_cons_zero, List.set_cons_succ]
          refine wpAny_ready (rs := [8]) (by kernel_rfl) (by decide) ?_
          refine AllReady.cons rfl (fun K1 hK1 => ?_) AllReady.nil
          refine step_appV (TS := 41) (.tmp 12) (.tmp 18) _ _ _ (fun ty => PU.out ty) rfl rfl rfl rfl ?_
          rintro v1 w2 ⟨hc2, PV⟩
          have PV := hide PV
          refine hK1 _ _ ?_
          clear hK1 K1
          refine wpAny_ready (rs := [16]) (by kernel_rfl) (by decide) ?_
          refine AllReady.cons rfl (fun K1 hK1 => ?_) AllReady.nil
          refine step_appV (TS := 41) (.tmp 19) (.tmp 26) _ _ _ (fun ty => PV.out ty) rfl rfl rfl rfl ?_
          rintro v2 w9 ⟨⟨hc9, hf9⟩, hR9⟩
          obtain ⟨a1, l1, c1, rfl⟩ : ∃ a l c, v2 = .slice a l c := by obtain ⟨a, c, e, _⟩ := hR9.1.slice; exact ⟨a, _, c, e⟩
          refine hK1 _ _ ?_
          clear hK1 K1
          refine wpAny_take (i := 17) (v := ?_) rfl (by kernel_rfl) (by kernel_rfl) (by kernel_rfl) (fun _ _ _ h => h) (Or.inl ⟨by rfl, fun w => ?_⟩) ?_
          rotate_left 1
          · (go_simp <;> with_reducible rfl)
          simp only [Act.put, List.getElem_toArray, List.getElem_cons_zero, List.getElem_cons_succ, List.setIfInBounds_toArray, List.set_cons_zero, List.set_cons_succ]
          refine wpAny_take (i := 18) (v := ?_) rfl (by kernel_rfl) (by kernel_rfl) (by kernel_rfl) (fun _ _ _ h => h) (Or.inl ⟨by rfl, fun w => ?_⟩) ?_
          rotate_left 1
          · (go_simp <;> with_reducible rfl)
          simp only [Act.put, List.getElem_toArray, List.getElem_cons_zero, List.getElem_cons_succ, List.setIfInBounds_toArray, List.set_cons_zero, List.set_cons_succ]
          refine wpAny_ready (rs := [19]) (by kernel_rfl) (by decide) ?_
          refine AllReady.cons rfl (fun K1 hK1 => ?_) AllReady.nil
          go_simp
          refine hK1 _ _ ?_
          clear hK1 K1
          refine wpAny_done (by kernel_rfl) ?_ _
          refine NoPanic.normal ?_
          clear hc9 hf9
          go_wp2_with fail
          all_goals (go_ret; exact .inr ⟨k, _, HK.out.1, rfl, HK.out.2, hR9.1, (Ef.of_bel HB.out).trans hR9.2.1, fun b hb => (hR9.2.2 b hb).imp id (fun h => Nat.le_trans HB.out.size h)⟩)
      · have q4 : (wA.alloc (.cells #[] 50)).cell? ⟨gm, 1, none⟩ = some (.slice (some ⟨rg, 0, none⟩) m cap) := ((bel_new wA _).cell (p := ⟨gm, 1, none⟩) hgm).trans hrc
        go_simp
        refine hK1 _ _ ?_
        clear hK1 K1 q4
        refine wpAny_take (i := 15) (v := ?_) rfl (by kernel_rfl) (by kernel_rfl) (by kernel_rfl) (fun _ _ _ h => h) (Or.inl ⟨by rfl, fun w => ?_⟩) ?_
        rotate_left 1
        · (go_simp <;> with_reducible rfl)
        simp only [Act.put, List.getElem_toArray, List.getElem_cons_zero, List.getElem_cons_succ, List.setIfInBounds_toArray, List.set_cons_zero, List.set_cons_succ]
        refine wpAny_ready (rs := [5]) (by kernel_rfl) (by decide) ?_
        refine AllReady.cons rfl (fun K1 hK1 => ?_) AllReady.nil
        have q4 : (wA.alloc (.cells #[] 50)).cell? ⟨gm, 1, none⟩ = some (.slice (some ⟨rg, 0, none⟩) m cap) := ((bel_new wA _).cell (p := ⟨gm, 1, none⟩) hgm).trans hrc
        go_simp
        refine hK1 _ _ ?_
        clear hK1 K1 q4
        refine wpAny_take (i := 7) (v := ?_) rfl (by kernel_rfl) (by kernel_rfl) (by kernel_rfl) (fun _ _ _ h => h) (Or.inl ⟨by rfl, fun w => ?_⟩) ?_
        rotate_left 1
        · (go_simp <;> with_reducible rfl)
        simp only [Act.put, List.getElem_toArray, List.getElem_cons_zero, List.getElem_cons_succ, List.setIfInBounds_toArray, List.set_cons_zero, List.set_cons_succ]
        refine wpAny_ready (rs := [8]) (by kernel_rfl) (by decide) ?_
        refine AllReady.cons rfl (fun K1 hK1 => ?_) AllReady.nil
        refine step_appV (TS := 41) (.tmp 12) (.tmp 18) _ _ _ (fun ty => PU.out ty) rfl rfl rfl rfl ?_
        rintro v1 w2 ⟨hc2, PV⟩
        have PV := hide PV
        refine hK1 _ _ ?_
        clear hK1 K1
        refine wpAny_ready (rs := [16]) (by kernel_rfl) (by decide) ?_
        refine AllReady.cons rfl (fun K1 hK1 => ?_) AllReady.nil
        refine step_appV (TS := 41) (.tmp 19) (.tmp 26) _ _ _ (fun ty => PV.out ty) rfl rfl rfl rfl ?_
        rintro v2 w9 ⟨⟨hc9, hf9⟩, hR9⟩
        obtain ⟨a1, l1, c1, rfl⟩ : ∃ a l c, v2 = .slice a l c := by obtain ⟨a, c, e, _⟩ := hR9.1.slice; exact ⟨a, _, c, e⟩
        refine hK1 _ _ ?_
        clear hK1 K1
        refine wpAny_take (i := 17) (v := ?_) rfl (by kernel_rfl) (by kernel_rfl) (by kernel_rfl) (fun _ _ _ h => h) (Or.inl ⟨by rfl, fun w => ?_⟩) ?_
        rotate_left 1
        · (go_simp <;> with_reducible rfl)
        simp only [Act.put, List.getElem_toArray, List.getElem_cons_zero, List.getElem_cons_succ, List.setIfInBounds_toArray, List.set_cons_zero, List.set_cons_succ]
        refine wpAny_take (i := 18) (v := ?_) rfl (by kernel_rfl) (by kernel_rfl) (by kernel_rfl) (fun _ _ _ h => h) (Or.inl ⟨by rfl, fun w => ?_⟩) ?_
        rotate_left 1
        · (go_simp <;> with_reducible rfl)
        simp only [Act.put, List.getElem_toArray, List.getElem_cons_zero, List.getElem_cons_succ, List.setIfInBounds_toArray, List.set_cons_zero, List.set_cons_succ]
        refine wpAny_ready (rs := [19]) (by kernel_rfl) (by decide) ?_
        refine AllReady.cons rfl (fun K1 hK1 => ?_) AllReady.nil
        go_simp
        refine hK1 _ _ ?_
        clear hK1 K1
        refine wpAny_done (by kernel_rfl) ?_ _
        refine NoPanic.normal ?_
        clear hc9 hf9
        go_wp2_with fail
        all_goals (go_ret; exact .inr ⟨k, _, HK.out.1, rfl, HK.out.2, hR9.1, (Ef.of_bel HB.out).trans hR9.2.1, fun b hb => (hR9.2.2 b hb).imp id (fun h => Nat.le_trans HB.out.size h)⟩)
    · have q4 : wA.cell? ⟨gm, 1, none⟩ = some (.slice (some ⟨rg, 0, none⟩) m cap) := hrc
      go_simp
      refine hK1 _ _ ?_
      clear hK1 K1 q4
      refine wpAny_take (i := 7) (v := ?_) rfl (by kernel_rfl) (by kernel_rfl) (by kernel_rfl) (fun _ _ _ h => h) (Or.inl ⟨by rfl, fun w => ?_⟩) ?_
      rotate_left 1
      · (go_simp <;> with_reducible rfl)
      simp only [Act.put, List.getElem_toArray, List.getElem_cons_zero, List.getElem_cons_succ, List.setIfInBounds_toArray, List.set_cons_zero, List.set_cons_succ]
      refine wpAny_ready (rs := [1, 12]) (by kernel_rfl) (by decide) ?_
      refine AllReady.cons rfl (fun K1 hK1 => ?_) (AllReady.cons rfl (fun K1 hK1 => ?_) AllReady.nil)
      · go_simp
        refine hK1 _ _ ?_
        clear hK1 K1
        refine wpAny_ready (rs := [8, 12]) (by kernel_rfl) (by decide) ?_
        refine AllReady.cons rfl (fun K1 hK1 => ?_) (AllReady.cons rfl (fun K1 hK1 => ?_) AllReady.nil)
        · refine step_appV (TS := 41) (.tmp 12) (.tmp 18) _ _ _ (fun ty => PU.out ty) rfl rfl rfl rfl ?_
          rintro v1 w2 ⟨hc2, PV⟩
          have PV := hide PV
          refine hK1 _ _ ?_
          clear hK1 K1
          refine wpAny_ready (rs := [12]) (by kernel_rfl) (by decide) ?_
          refine AllReady.cons rfl (fun K1 hK1 => ?_) AllReady.nil
          have q4 : w2.cell? ⟨gm, 1, none⟩ = some (.slice (some ⟨rg, 0, none⟩) m cap) := hc2
          go_simp
          refine hK1 _ _ ?_
          clear hK1 K1 q4
          refine wpAny_take (i := 15) (v := ?_) rfl (by kernel_rfl) (by kernel_rfl) (by kernel_rfl) (fun _ _ _ h => h) (Or.inl ⟨by rfl, fun w => ?_⟩) ?_
          rotate_left 1
          · (go_simp <;> with_reducible rfl)
          simp only [Act.put, List.getElem_toArray, List.getElem_cons_zero, List.getElem_cons_succ, List.setIfInBounds_toArray, List.set_cons_zero, List.set_cons_succ]
          refine wpAny_ready (rs := [16]) (by kernel_rfl) (by decide) ?_
          refine AllReady.cons rfl (fun K1 hK1 => ?_) AllReady.nil
          refine step_appV (TS := 41) (.tmp 19) (.tmp 26) _ _ _ (fun ty => PV.out ty) rfl rfl rfl rfl ?_
          rintro v2 w9 ⟨⟨hc9, hf9⟩, hR9⟩
          obtain ⟨a1, l1, c1, rfl⟩ : ∃ a l c, v2 = .slice a l c := by obtain ⟨a, c, e, _⟩ := hR9.1.slice; exact ⟨a, _, c, e⟩
          refine hK1 _ _ ?_
          clear hK1 K1
          refine wpAny_take (i := 17) (v := ?_) rfl (by kernel_rfl) (by kernel_rfl) (by kernel_rfl) (fun _ _ _ h => h) (Or.inl ⟨by rfl, fun w => ?_⟩) ?_
          rotate_left 1
          · (go_simp <;> with_reducible rfl)
          simp only [Act.put, List.getElem_toArray, List.getElem_cons_zero, List.getElem_cons_succ, List.setIfInBounds_toArray, List.set_cons_zero, List.set_cons_succ]
          refine wpAny_take (i := 18) (v := ?_) rfl (by kernel_rfl) (by kernel_rfl) (by kernel_rfl) (fun _ _ _ h => h) (Or.inl ⟨by rfl, fun w => ?_⟩) ?_
          rotate_left 1
          · (go_simp <;> with_reducible rfl)
          simp only [Act.put, List.getElem_toArray, List.getElem_cons_zero, List.getElem_cons_succ, List.setIfInBounds_toArray, List.set_cons_zero, List.set_cons_succ]
          refine wpAny_ready (rs := [19]) (by kernel_rfl) (by decide) ?_
          refine AllReady.cons rfl (fun K1 hK1 => ?_) AllReady.nil
          go_simp
          refine hK1 _ _ ?_
          clear hK1 K1
          refine wpAny_done (by kernel_rfl) ?_ _
          refine NoPanic.normal ?_
          clear hc9 hf9
          go_wp2_with fail
          all_goals (go_ret; exact .inr ⟨k, _, HK.out.1, rfl, HK.out.2, hR9.1, (Ef.of_bel HB.out).trans hR9.2.1, fun b hb => (hR9.2.2 b hb).imp id (fun h => Nat.le_trans HB.out.size h)⟩)
        · have q4 : (wA.alloc (.cells #[] 50)).cell? ⟨gm, 1, none⟩ = some (.slice (some ⟨rg, 0, none⟩) m cap) := ((bel_new wA _).cell (p := ⟨gm, 1, none⟩) hgm).trans hrc
          go_simp
          refine hK1 _ _ ?_
          clear hK1 K1 q4
          refine wpAny_take (i := 15) (v := ?_) rfl (by kernel_rfl) (by kernel_rfl) (by kernel_rfl) (fun _ _ _ h => h) (Or.inl ⟨by rfl, fun w => ?_⟩) ?_
          rotate_left 1
          · (go_simp <;> with_reducible rfl)
          simp only [Act.put, List.getElem_toArray, List.getElem_cons_zero, List.getElem_cons_succ, List.setIfInBounds_toArray, List.set_cons_zero, List.set_cons_succ]
          refine wpAny_ready (rs := [8]) (by kernel_rfl) (by decide) ?_
          refine AllReady.cons rfl (fun K1 hK1 => ?_) AllReady.nil
          refine step_appV (TS := 41) (.tmp 12) (.tmp 18) _ _ _ (fun ty => PU.out ty) rfl rfl rfl rfl ?_
          rintro v1 w2 ⟨hc2, PV⟩
          have PV := hide PV
          refine hK1 _ _ ?_
          clear hK1 K1
          refine wpAny_ready (rs := [16]) (by kernel_rfl) (by decide) ?_
          refine AllReady.cons rfl (fun K1 hK1 => ?_) AllReady.nil
          refine step_appV (TS := 41) (.tmp 19) (.tmp 26) _ _ _ (fun ty => PV.out ty) rfl rfl rfl rfl ?_
          rintro v2 w9 ⟨⟨hc9, hf9⟩, hR9⟩
          obtain ⟨a1, l1, c1, rfl⟩ : ∃ a l c, v2 = .slice a l c := by obtain ⟨a, c, e, _⟩ := hR9.1.slice; exact ⟨a, _, c, e⟩
          refine hK1 _ _ ?_
          clear hK1 K1
          refine wpAny_take (i := 17) (v := ?_) rfl (by kernel_rfl) (by kernel_rfl) (by kernel_rfl) (fun _ _ _ h => h) (Or.inl ⟨by rfl, fun w => ?_⟩) ?_
          rotate_left 1
          · (go_simp <;> with_reducible rfl)
          simp only [Act.put, List.getElem_toArray, List.getElem_cons_zero, List.getElem_cons_succ, List.setIfInBounds_toArray, List.set_cons_zero, List.set_cons_succ]
          refine wpAny_take (i := 18) (v := ?_) rfl (by kernel_rfl) (by kernel_rfl) (by kernel_rfl) (fun _ _ _ h => h) (Or.inl ⟨by rfl, fun w => ?_⟩) ?_
          rotate_left 1
          · (go_simp <;> with_reducible rfl)
          simp only [Act.put, List.getElem_toArray, List.getElem_cons_zero, List.getElem_cons_succ, List.setIfInBounds_toArray, List.set_cons_zero, List.set_cons_succ]
          refine wpAny_ready (rs := [19]) (by kernel_rfl) (by decide) ?_
          refine AllReady.cons rfl (fun K1 hK1 => ?_) AllReady.nil
          go_simp
          refine hK1 _ _ ?_
          clear hK1 K1
          refine wpAny_done (by kernel_rfl) ?_ _
          refine NoPanic.normal ?_
          clear hc9 hf9
          go_wp2_with fail
          all_goals (go_ret; exact .inr ⟨k, _, HK.out.1, rfl, HK.out.2, hR9.1, (Ef.of_bel HB.out).trans hR9.2.1, fun b hb => (hR9.2.2 b hb).imp id (fun h => Nat.le_trans HB.out.size h)⟩)
      · have q4 : wA.cell? ⟨gm, 1, none⟩ = some (.slice (some ⟨rg, 0, none⟩) m cap) := hrc
        go_simp
        refine hK1 _ _ ?_
        clear hK1 K1 q4
        refine wpAny_take (i := 15) (v := ?_) rfl (by kernel_rfl) (by kernel_rfl) (by kernel_rfl) (fun _ _ _ h => h) (Or.inl ⟨by rfl, fun w => ?_⟩) ?_
        rotate_left 1
        · (go_simp <;> with_reducible rfl)
        simp only [Act.put, List.getElem_toArray, List.getElem_cons_zero, List.getElem_cons_succ, List.setIfInBounds_toArray, List.set_cons_zero, List.set_cons_succ]
        refine wpAny_ready (rs := [1]) (by kernel_rfl) (by decide) ?_
        refine AllReady.cons rfl (fun K1 hK1 => ?_) AllReady.nil
        go_simp
        refine hK1 _ _ ?_
        clear hK1 K1
        refine wpAny_ready (rs := [8]) (by kernel_rfl) (by decide) ?_
        refine AllReady.cons rfl (fun K1 hK1 => ?_) AllReady.nil
        refine step_appV (TS := 41) (.tmp 12) (.tmp 18) _ _ _ (fun ty => PU.out ty) rfl rfl rfl rfl ?_
        rintro v1 w2 ⟨hc2, PV⟩
        have PV := hide PV
        refine hK1 _ _ ?_
        clear hK1 K1
        refine wpAny_ready (rs := [16]) (by kernel_rfl) (by decide) ?_
        refine AllReady.cons rfl (fun K1 hK1 => ?_) AllReady.nil
        refine step_appV (TS := 41) (.tmp 19) (.tmp 26) _ _ _ (fun ty => PV.out ty) rfl rfl rfl rfl ?_
        rintro v2 w9 ⟨⟨hc9, hf9⟩, hR9⟩
        obtain ⟨a1, l1, c1, rfl⟩ : ∃ a l c, v2 = .slice a l c := by obtain ⟨a, c, e, _⟩ := hR9.1.slice; exact ⟨a, _, c, e⟩
        refine hK1 _ _ ?_
        clear hK1 K1
        refine wpAny_take (i := 17) (v := ?_) rfl (by kernel_rfl) (by kernel_rfl) (by kernel_rfl) (fun _ _ _ h => h) (Or.inl ⟨by rfl, fun w => ?_⟩) ?_
        rotate_left 1
        · (go_simp <;> with_reducible rfl)
        simp only [Act.put, List.getElem_toArray, List.getElem_cons_zero, List.getElem_cons_succ, List.setIfInBounds_toArray, List.set_cons_zero, List.set_cons_succ]
        refine wpAny_take (i := 18) (v := ?_) rfl (by kernel_rfl) (by kernel_rfl) (by kernel_rfl) (fun _ _ _ h => h) (Or.inl ⟨by rfl, fun w => ?_⟩) ?_
        rotate_left 1
        · (go_simp <;> with_reducible rfl)
        simp only [Act.put, List.getElem_toArray, List.getElem_cons_zero, List.getElem_cons_succ, List.setIfInBounds_toArray, List.set_cons_zero, List.set_cons_succ]
        refine wpAny_ready (rs := [19]) (by kernel_rfl) (by decide) ?_
        refine AllReady.cons rfl (fun K1 hK1 => ?_) AllReady.nil
        go_simp
        refine hK1 _ _ ?_
        clear hK1 K1
        refine wpAny_done (by kernel_rfl) ?_ _
        refine NoPanic.normal ?_
        clear hc9 hf9
        go_wp2_with fail
        all_goals (go_ret; exact .inr ⟨k, _, HK.out.1, rfl, HK.out.2, hR9.1, (Ef.of_bel HB.out).trans hR9.2.1, fun b hb => (hR9.2.2 b hb).imp id (fun h => Nat.le_trans HB.out.size h)⟩)
    · have q4 : wA.cell? ⟨gm, 1, none⟩ = some (.slice (some ⟨rg, 0, none⟩) m cap) := hrc
      go_simp
      refine hK1 _ _ ?_
      clear hK1 K1 q4
      refine wpAny_take (i := 15) (v := ?_) rfl (by kernel_rfl) (by kernel_rfl) (by kernel_rfl) (fun _ _ _ h => h) (Or.inl ⟨by rfl, fun w => ?_⟩) ?_
      rotate_left 1
      · (go_simp <;> with_reducible rfl)
      simp only [Act.put, List.getElem_toArray, List.getElem_cons_zero, List.getElem_cons_succ, List.setIfInBounds_toArray, List.set_cons_zero, List.set_cons_succ]
      refine wpAny_ready (rs := [1, 5]) (by kernel_rfl) (by decide) ?_
      refine AllReady.cons rfl (fun K1 hK1 => ?_) (AllReady.cons rfl (fun K1 hK1 => ?_) AllReady.nil)
      · go_simp
        refine hK1 _ _ ?_
        clear hK1 K1
        refine wpAny_ready (rs := [5]) (by kernel_rfl) (by decide) ?_
        refine AllReady.cons rfl (fun K1 hK1 => ?_) AllReady.nil
        have q4 : (wA.alloc (.cells #[] 50)).cell? ⟨gm, 1, none⟩ = some (.slice (some ⟨rg, 0, none⟩) m cap) := ((bel_new wA _).cell (p := ⟨gm, 1, none⟩) hgm).trans hrc
        go_simp
        refine hK1 _ _ ?_
        clear hK1 K1 q4
        refine wpAny_take (i := 7) (v := ?_) rfl (by kernel_rfl) (by kernel_rfl) (by kernel_rfl) (fun _ _ _ h => h) (Or.inl ⟨by rfl, fun w => ?_⟩) ?_
        rotate_left 1
        · (go_simp <;> with_reducible rfl)
        simp only [Act.put, List.getElem_toArray, List.getElem_cons_zero, List.getElem_cons_succ, List.setIfInBounds_toArray, List.set_cons_zero, List.set_cons_succ]
        refine wpAny_ready (rs := [8]) (by kernel_rfl) (by decide) ?_
        refine AllReady.cons rfl (fun K1 hK1 => ?_) AllReady.nil
        refine step_appV (TS := 41) (.tmp 12) (.tmp 18) _ _ _ (fun ty => PU.out ty) rfl rfl rfl rfl ?_
        rintro v1 w2 ⟨hc2, PV⟩
        have PV := hide PV
        refine hK1 _ _ ?_
        clear hK1 K1
        refine wpAny_ready (rs := [16]) (by kernel_rfl) (by decide) ?_
        refine AllReady.cons rfl (fun K1 hK1 => ?_) AllReady.nil
        refine step_appV (TS := 41) (.tmp 19) (.tmp 26) _ _ _ (fun ty => PV.out ty) rfl rfl rfl rfl ?_
        rintro v2 w9 ⟨⟨hc9, hf9⟩, hR9⟩
        obtain ⟨a1, l1, c1, rfl⟩ : ∃ a l c, v2 = .slice a l c := by obtain ⟨a, c, e, _⟩ := hR9.1.slice; exact ⟨a, _, c, e⟩
        refine hK1 _ _ ?_
        clear hK1 K1
        refine wpAny_take (i := 17) (v := ?_) rfl (by kernel_rfl) (by kernel_rfl) (by kernel_rfl) (fun _ _ _ h => h) (Or.inl ⟨by rfl, fun w => ?_⟩) ?_
        rotate_left 1
        · (go_simp <;> with_reducible rfl)
        simp only [Act.put, List.getElem_toArray, List.getElem_cons_zero, List.getElem_cons_succ, List.setIfInBounds_toArray, List.set_cons_zero, List.set_cons_succ]
        refine wpAny_take (i := 18) (v := ?_) rfl (by kernel_rfl) (by kernel_rfl) (by kernel_rfl) (fun _ _ _ h => h) (Or.inl ⟨by rfl, fun w => ?_⟩) ?_
        rotate_left 1
        · (go_simp <;> with_reducible rfl)
        simp only [Act.put, List.getElem_toArray, List.getElem_cons_zero, List.getElem_cons_succ, List.setIfInBounds_toArray, List.set_cons_zero, List.set_cons_succ]
        refine wpAny_ready (rs := [19]) (by kernel_rfl) (by decide) ?_
        refine AllReady.cons rfl (fun K1 hK1 => ?_) AllReady.nil
        go_simp
        refine hK1 _ _ ?_
        clear hK1 K1
        refine wpAny_done (by kernel_rfl) ?_ _
        refine NoPanic.normal ?_
        clear hc9 hf9
        go_wp2_with fail
        all_goals (go_ret; exact .inr ⟨k, _, HK.out.1, rfl, HK.out.2, hR9.1, (Ef.of_bel HB.out).trans hR9.2.1, fun b hb => (hR9.2.2 b hb).imp id (fun h => Nat.le_trans HB.out.size h)⟩)
      · have q4 : wA.cell? ⟨gm, 1, none⟩ = some (.slice (some ⟨rg, 0, none⟩) m cap) := hrc
        go_simp
        refine hK1 _ _ ?_
        clear hK1 K1 q4
        refine wpAny_take (i := 7) (v := ?_) rfl (by kernel_rfl) (by kernel_rfl) (by kernel_rfl) (fun _ _ _ h => h) (Or.inl ⟨by rfl, fun w => ?_⟩) ?_
        rotate_left 1
        · (go_simp <;> with_reducible rfl)
        simp only [Act.put, List.getElem_toArray, List.getElem_cons_zero, List.getElem_cons_succ, List.setIfInBounds_toArray, List.set_cons_zero, List.set_cons_succ]
        refine wpAny_ready (rs := [1]) (by kernel_rfl) (by decide) ?_
        refine AllReady.cons rfl (fun K1 hK1 => ?_) AllReady.nil
        go_simp
        refine hK1 _ _ ?_
        clear hK1 K1
        refine wpAny_ready (rs := [8]) (by kernel_rfl) (by decide) ?_
        refine AllReady.cons rfl (fun K1 hK1 => ?_) AllReady.nil
        refine step_appV (TS := 41) (.tmp 12) (.tmp 18) _ _ _ (fun ty => PU.out ty) rfl rfl rfl rfl ?_
        rintro v1 w2 ⟨hc2, PV⟩
        have PV := hide PV
        refine hK1 _ _ ?_
        clear hK1 K1
        refine wpAny_ready (rs := [16]) (by kernel_rfl) (by decide) ?_
        refine AllReady.cons rfl (fun K1 hK1 => ?_) AllReady.nil
        refine step_appV (TS := 41) (.tmp 19) (.tmp 26) _ _ _ (fun ty => PV.out ty) rfl rfl rfl rfl ?_
        rintro v2 w9 ⟨⟨hc9, hf9⟩, hR9⟩
        obtain ⟨a1, l1, c1, rfl⟩ : ∃ a l c, v2 = .slice a l c := by obtain ⟨a, c, e, _⟩ := hR9.1.slice; exact ⟨a, _, c, e⟩
        refine hK1 _ _ ?_
        clear hK1 K1
        refine wpAny_take (i := 17) (v := ?_) rfl (by kernel_rfl) (by kernel_rfl) (by kernel_rfl) (fun _ _ _ h => h) (Or.inl ⟨by rfl, fun w => ?_⟩) ?_
        rotate_left 1
        · (go_simp <;> with_reducible rfl)
        simp only [Act.put, List.getElem_toArray, List.getElem_cons_zero, List.getElem_cons_succ, List.setIfInBounds_toArray, List.set_cons_zero, List.set_cons_succ]
        refine wpAny_take (i := 18) (v := ?_) rfl (by kernel_rfl) (by kernel_rfl) (by kernel_rfl) (fun _ _ _ h => h) (Or.inl ⟨by rfl, fun w => ?_⟩) ?_
        rotate_left 1
        · (go_simp <;> with_reducible rfl)
        simp only [Act.put, List.getElem_toArray, List.getElem_cons_zero, List.getElem_cons_succ, List.setIfInBounds_toArray, List.set_cons_zero, List.set_cons_succ]
        refine wpAny_ready (rs := [19]) (by kernel_rfl) (by decide) ?_
        refine AllReady.cons rfl (fun K1 hK1 => ?_) AllReady.nil
        go_simp
        refine hK1 _ _ ?_
        clear hK1 K1
        refine wpAny_done (by kernel_rfl) ?_ _
        refine NoPanic.normal ?_
        clear hc9 hf9
        go_wp2_with fail
        all_goals (go_ret; exact .inr ⟨k, _, HK.out.1, rfl, HK.out.2, hR9.1, (Ef.of_bel HB.out).trans hR9.2.1, fun b hb => (hR9.2.2 b hb).imp id (fun h => Nat.le_trans HB.out.size h)⟩)
end

end Go.Proofs.YtndhgdjcbegjdaaDoor.Ck
