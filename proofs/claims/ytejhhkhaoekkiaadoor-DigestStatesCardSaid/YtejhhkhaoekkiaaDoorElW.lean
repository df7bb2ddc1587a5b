/- Slices of words of 32 bits, by the list that they hold; make and append on those that the call itself made; no Go text is walked here. -/
import Derived.Test.YtejhhkhaoekkiaaDoorElB
import Derived.Deep.AppendSrc
import Derived.OwnWalk
namespace Go.Proofs.YtejhhkhaoekkiaaDoor.Ck
open Go.RowKit

def FitW (_ : List Int) : Prop := True
/-- a slice value that holds the list zs in the world w -/
def SW (w : World) (v : Value) (zs : List Int) : Prop :=
  FitW zs ∧ ∃ a cap, v = .slice a zs.length cap ∧ zs.length ≤ cap ∧ cap ≤ maxLen ∧
    ∀ i, i < zs.length → ∃ b off, a = some ⟨b, off, none⟩ ∧ b < w.heap.size ∧ w.cell? ⟨b, off + i, none⟩ = some (.int .u32 (zs.getD i 0))

theorem SW.below {w w' : World} {v : Value} {zs : List Int} (h : SW w v zs) {B : Nat} (hB : w.heap.size ≤ B) (hb : Below B w w') : SW w' v zs := by
  obtain ⟨hf, a, cap, hv, h1, h2, h3⟩ := h
  refine ⟨hf, a, cap, hv, h1, h2, fun i hi => ?_⟩
  obtain ⟨b, off, ha, hlt, hc⟩ := h3 i hi
  exact ⟨b, off, ha, Nat.lt_of_lt_of_le hlt hb.size, by rw [hb.cell (p := ⟨b, off + i, none⟩) (Nat.lt_of_lt_of_le hlt hB)]; exact hc⟩
theorem SW.bel {w w' : World} {v : Value} {zs : List Int} (h : SW w v zs) (hb : Below w.heap.size w w') : SW w' v zs := h.below (Nat.le_refl _) hb
/-- the slice doesn't lie in block g -/
def OffW (g : Nat) (v : Value) : Prop := ∀ a n c, v = .slice (some a) n c → 0 < n → a.block ≠ g
theorem SW.tn {g : Nat} {w w' : World} {v : Value} {zs : List Int} (h : SW w v zs) (ho : OffW g v) (ht : Tn g w w') : SW w' v zs := by
  obtain ⟨hf, a, cap, hv, h1, h2, h3⟩ := h
  refine ⟨hf, a, cap, hv, h1, h2, fun i hi => ?_⟩
  obtain ⟨b, off, ha, hlt, hc⟩ := h3 i hi
  exact ⟨b, off, ha, Nat.lt_of_lt_of_le hlt ht.size, (ht.cell ⟨b, off + i, none⟩ hlt (ho ⟨b, off, none⟩ _ _ (by rw [hv, ha]) (by omega))).trans hc⟩
theorem SW.lt {w : World} {v : Value} {zs : List Int} (h : SW w v zs) : ∀ a n c, v = .slice (some a) n c → 0 < n → a.block < w.heap.size := by
  intro a n c e hn
  obtain ⟨_, a', c', hv, _, _, hc⟩ := h
  rw [e] at hv
  cases hv
  obtain ⟨b, off, ha, hlt, _⟩ := hc 0 hn
  cases ha
  exact hlt
theorem SW.off {w : World} {v : Value} {zs : List Int} (h : SW w v zs) {g : Nat} (hg : w.heap.size ≤ g) : OffW g v := fun a n c e hn => by
  have := h.lt a n c e hn
  omega
theorem SW.nilS (w : World) : SW w (.slice none 0 0) [] :=
  ⟨trivial, none, 0, rfl, Nat.le_refl _, Nat.zero_le _, fun _ h => absurd h (Nat.not_lt_zero _)⟩
theorem SW.fits {w : World} {v : Value} {zs : List Int} (h : SW w v zs) : FitW zs := h.1
theorem SW.len {W : World} {a : Option Addr} {len cap : Nat} {zs : List Int} (h : SW W (.slice a len cap) zs) : len = zs.length := by
  obtain ⟨_, a', c', e, _⟩ := h
  cases e
  rfl
theorem SW.cap {W : World} {a : Option Addr} {len cap : Nat} {zs : List Int} (h : SW W (.slice a len cap) zs) : len ≤ cap ∧ cap ≤ maxLen := by
  obtain ⟨_, a', c', e, h1, h2, _⟩ := h
  cases e
  exact ⟨h1, h2⟩
theorem SW.form {w : World} {v : Value} {zs : List Int} (h : SW w v zs) : ∃ a c, v = .slice a zs.length c ∧ zs.length ≤ c ∧ c ≤ maxLen := by
  obtain ⟨_, a, c, rfl, h1, h2, _⟩ := h
  exact ⟨_, _, rfl, h1, h2⟩
theorem SW.at {w : World} {a : Option Addr} {n c : Nat} {zs : List Int} (h : SW w (.slice a n c) zs) (i : Nat) (hi : i < n) :
    ∃ b off, a = some ⟨b, off, none⟩ ∧ b < w.heap.size ∧ w.cell? ⟨b, off + i, none⟩ = some (.int .u32 (zs.getD i 0)) := by
  obtain ⟨_, a', c', e, _, _, hc⟩ := h
  cases e
  exact hc i hi
theorem SW.of_blk {w : World} {b : Nat} {t : TypeId} {zs : List Int} (h : Blk w b t (wv zs)) (hm : zs.length ≤ maxLen) (hf : FitW zs) : SW w (.slice (some ⟨b, 0, none⟩) zs.length zs.length) zs :=
  ⟨hf, _, _, rfl, Nat.le_refl _, hm, fun i hi => ⟨b, 0, rfl, h.lt, by rw [Nat.zero_add, h.cell, wv_at _ _ hi]⟩⟩

theorem infoW : (Tryd.prog.info? 51).map (fun i => (i.zero, i.size, i.bytes)) = some (some (.int .u32 0), 1, 4) := by kernel_rfl
theorem szW : (Tryd.prog.info? 51).map (·.size) = some 1 := by kernel_rfl
theorem wv_app (zs ms : List Int) : wv zs ++ wv ms = wv (zs ++ ms) := by simp [wv]
theorem wv_get (zs : List Int) (j : Nat) (u : Value) (h : (wv zs)[j]? = some u) : j < zs.length ∧ u = .int .u32 (zs.getD j 0) := by
  unfold wv at h
  rw [List.getElem?_map] at h
  cases hz : zs[j]? with
  | none => rw [hz] at h; cases h
  | some z =>
    rw [hz] at h
    have hl : j < zs.length := (List.getElem?_eq_some_iff.1 hz).1
    cases h
    exact ⟨hl, by simp [List.getD, hz]⟩

/-- the slice of block g, of the call's own, with room for cap, holds zs -/
def OwnW (w : World) (B g cap : Nat) (zs : List Int) : Prop := w.ownsRow B 51 1 (.slice (some ⟨g, 0, none⟩) zs.length cap) zs.length (wv zs)

theorem OwnW.parts {w : World} {B g cap : Nat} {zs : List Int} (h : OwnW w B g cap zs) :
    ∃ cur : Array Value, B ≤ g ∧ w.heap[g]? = some (.cells cur 51 (0, 0)) ∧ zs.length ≤ cap ∧ cap ≤ maxLen ∧ cur.size = cap ∧ cur.toList.take zs.length = wv zs := by
  rcases h.2 with ⟨h, _⟩ | ⟨g', cap', cur, h, hbg, hg, hnc, hcm, hcs, htake⟩
  · simp at h
  · simp only [Value.slice.injEq, Option.some.injEq, Addr.mk.injEq, and_true, true_and] at h
    obtain ⟨rfl, rfl⟩ := h
    exact ⟨cur, hbg, hg, hnc, hcm, by simpa using hcs, by simpa using htake⟩
theorem OwnW.mk {w : World} {B g cap : Nat} {zs : List Int} (cur : Array Value) (h1 : B ≤ g) (h2 : w.heap[g]? = some (.cells cur 51 (0, 0))) (h3 : zs.length ≤ cap) (h4 : cap ≤ maxLen) (h5 : cur.size = cap) (h6 : cur.toList.take zs.length = wv zs) : OwnW w B g cap zs :=
  ⟨by rw [wv_len]; simp, .inr ⟨g, cap, cur, rfl, h1, h2, h3, h4, by simpa using h5, by simpa using h6⟩⟩
theorem OwnW.ge {w : World} {B g cap : Nat} {zs : List Int} (h : OwnW w B g cap zs) : B ≤ g := by obtain ⟨_, h1, _⟩ := h.parts; exact h1
theorem OwnW.lt {w : World} {B g cap : Nat} {zs : List Int} (h : OwnW w B g cap zs) : g < w.heap.size := by obtain ⟨_, _, h1, _⟩ := h.parts; exact (Array.getElem?_eq_some_iff.1 h1).1
theorem OwnW.cell {w : World} {B g cap : Nat} {zs : List Int} (h : OwnW w B g cap zs) (i : Nat) (hi : i < zs.length) : w.cell? ⟨g, i, none⟩ = some (.int .u32 (zs.getD i 0)) := by
  obtain ⟨cur, _, hg, hnc, _, hcs, ht⟩ := h.parts
  have e : (cur.toList.take zs.length)[i]? = (wv zs)[i]? := by rw [ht]
  rw [List.getElem?_take_of_lt hi, wv_at zs i hi] at e
  simp only [World.cell?, hg]
  rw [← Array.getElem?_toList]
  exact e
theorem OwnW.sl {w : World} {B g cap : Nat} {zs : List Int} (h : OwnW w B g cap zs) (hf : FitW zs) : SW w (.slice (some ⟨g, 0, none⟩) zs.length cap) zs := by
  obtain ⟨cur, _, hg, hnc, hcm, hcs, ht⟩ := h.parts
  exact ⟨hf, _, _, rfl, hnc, hcm, fun i hi => ⟨g, 0, rfl, (Array.getElem?_eq_some_iff.1 hg).1, by rw [Nat.zero_add]; exact h.cell i hi⟩⟩
theorem OwnW.below {w w' : World} {B g cap : Nat} {zs : List Int} (h : OwnW w B g cap zs) (hb : Below w.heap.size w w') : OwnW w' B g cap zs := by
  obtain ⟨cur, h1, hg, h3, h4, h5, h6⟩ := h.parts
  exact OwnW.mk cur h1 ((hb.block g (Array.getElem?_eq_some_iff.1 hg).1).trans hg) h3 h4 h5 h6
theorem OwnW.tn {w w' : World} {B g cap x : Nat} {zs : List Int} (h : OwnW w B g cap zs) (hb : Tn x w w') (hx : g ≠ x) : OwnW w' B g cap zs := by
  obtain ⟨cur, h1, hg, h3, h4, h5, h6⟩ := h.parts
  exact OwnW.mk cur h1 ((hb.blk g (Array.getElem?_eq_some_iff.1 hg).1 hx).trans hg) h3 h4 h5 h6
theorem OwnW.down {w : World} {B B' g cap : Nat} {zs : List Int} (h : OwnW w B g cap zs) (hB : B' ≤ B) : OwnW w B' g cap zs := by
  obtain ⟨cur, h1, hg, h3, h4, h5, h6⟩ := h.parts
  exact OwnW.mk cur (Nat.le_trans hB h1) hg h3 h4 h5 h6
theorem OwnW.alloc {w : World} {B g cap : Nat} {zs : List Int} (h : OwnW w B g cap zs) (o : Obj) : OwnW (w.alloc o) B g cap zs := h.below (bel_new w o)
theorem OwnW.made (w : World) (c : Nat) (hc : c ≤ 1000000) : OwnW (w.alloc (.cells (madeCells #[.int .u32 0] c) 51)) w.heap.size w.heap.size c [] :=
  OwnW.mk _ (Nat.le_refl _) (Go.Deep.blk_alloc_new _ _) (Nat.zero_le _) (by unfold maxLen; omega) (by simp [madeCells]) (by simp [wv])
theorem OwnW.empty (w : World) : OwnW (w.alloc (.cells #[] 51)) w.heap.size w.heap.size 0 [] :=
  OwnW.mk _ (Nat.le_refl _) (Go.Deep.blk_alloc_new _ _) (Nat.zero_le _) (by unfold maxLen; omega) (by simp) (by simp [wv])
theorem OwnW.ofL (w : World) (zs : List Int) (hz : zs.length ≤ 1000000) : OwnW (w.alloc (.cells (wv zs).toArray 51)) w.heap.size w.heap.size zs.length zs :=
  OwnW.mk _ (Nat.le_refl _) (Go.Deep.blk_alloc_new _ _) (Nat.le_refl _) (by unfold maxLen; omega) (by simp [wv_len]) (by simp [← wv_len zs])

theorem app_srcW {w : World} {vx : Value} {ms : List Int} (h : SW w vx ms) :
    (∃ ad c, vx = .slice (some ad) ms.length c ∧ ∀ j u, (wv ms)[j]? = some u → w.cell? (ad.add j) = some u) ∨ (∃ c, vx = .slice none 0 c ∧ ms = []) := by
  obtain ⟨_, a, c, rfl, _, _, hc⟩ := h
  cases a with
  | none =>
    right
    cases ms with
    | nil => exact ⟨c, rfl, rfl⟩
    | cons m ms => obtain ⟨b, off, e, _⟩ := hc 0 (by simp); cases e
  | some ad =>
    left
    refine ⟨ad, c, rfl, fun j u hu => ?_⟩
    obtain ⟨hj, rfl⟩ := wv_get ms j u hu
    obtain ⟨b, off, e, _, hcell⟩ := hc j hj
    cases e
    have e2 : (Addr.mk b off none).add j = ⟨b, off + j, none⟩ := by unfold Addr.add; by_cases h : j = 0 <;> simp [h]
    rw [e2]
    exact hcell

theorem app_fitsW {w : World} {B g cap : Nat} {zs ms : List Int} {vx : Value} (ty : TypeId) (h : OwnW w B g cap zs) (hx : SW w vx ms) (hroom : zs.length + ms.length ≤ cap) :
    ∃ w', (Builtin.append_ #[47, 47] ty #[.slice (some ⟨g, 0, none⟩) zs.length cap, vx]).run Tryd.prog w = .ok (.slice (some ⟨g, 0, none⟩) (zs.length + ms.length) cap) w' ∧ OwnW w' B g cap (zs ++ ms) ∧ w.grownBy w' (some g) := by
  obtain ⟨i, hi, hz0, hz1, hz2⟩ := info_parts infoW
  rcases app_srcW hx with ⟨ad, c, rfl, hnews⟩ | ⟨c, rfl, rfl⟩
  · obtain ⟨w', hr, ho, hg⟩ := run_append_fits (P := Tryd.prog) w B 47 ty 51 i 1 Tryd.underlying47 hi hz1 g zs.length cap (wv zs) h ad ms.length c (wv ms) (by rw [wv_len]; simp) hnews (wv_one ms) hroom
    refine ⟨w', hr, ?_, hg⟩
    unfold OwnW
    rw [List.length_append, ← wv_app]
    exact ho
  · have hs := Src.ofNil (P := Tryd.prog) w (size := i.size) Tryd.underlying47 c
    have hr := run_append_room_src (P := Tryd.prog) w 47 47 ty 51 i Tryd.underlying47 hi g 0 zs.length cap (.slice none 0 c) 0 [] hs hroom (fun j hj => absurd hj (Nat.not_lt_zero _)) (fun j hj => absurd hj (Nat.not_lt_zero _))
    refine ⟨w, hr, by rw [List.append_nil]; exact h, ⟨rfl, rfl, rfl, Nat.le_refl _, fun _ _ _ => rfl⟩⟩

theorem app_ownW {w : World} {B g cap : Nat} {zs ms : List Int} {vx : Value} (ty : TypeId) (h : OwnW w B g cap zs) (hx : SW w vx ms) (hlen : zs.length + ms.length ≤ 2000000) (hB : B ≤ w.heap.size) :
    ∃ v' w', (Builtin.append_ #[47, 47] ty #[.slice (some ⟨g, 0, none⟩) zs.length cap, vx]).run Tryd.prog w = .ok v' w' ∧ (∃ g' cap', v' = .slice (some ⟨g', 0, none⟩) (zs ++ ms).length cap' ∧ OwnW w' B g' cap' (zs ++ ms)) ∧ w.grownBy w' (some g) := by
  obtain ⟨i, hi, hz0, hz1, hz2⟩ := info_parts infoW
  rcases app_srcW hx with ⟨ad, c, rfl, hnews⟩ | ⟨c, rfl, rfl⟩
  · obtain ⟨v', w', hr, ho, hg, hn⟩ := run_append_own (P := Tryd.prog) w B 47 ty 51 i (.int .u32 0) 1 4 Tryd.underlying47 hi hz0 hz1 hz2 rfl (by decide) _ zs.length (wv zs) h ad ms.length c (wv ms) (by rw [wv_len]; simp) hnews (wv_one ms) (by unfold maxLen; omega) (by omega) hB
    refine ⟨v', w', hr, ?_, hg⟩
    have ho2 := ho
    rcases ho.2 with ⟨h1, _⟩ | ⟨g', cap', cur, h1, _⟩
    · have := hn.1 h1
      simp at this
    · refine ⟨g', cap', by rw [h1, List.length_append], ?_⟩
      unfold OwnW
      rw [List.length_append, ← wv_app]
      rw [h1] at ho2
      exact ho2
  · obtain ⟨_, _, _, hnc, _⟩ := h.parts
    obtain ⟨w', hr, ho, hg⟩ := app_fitsW (ms := []) ty h hx (by simpa using hnc)
    exact ⟨_, w', hr, ⟨g, cap, by simp, ho⟩, hg⟩

/-- what an append on a slice of one's own leaves: it, and the rest of the world -/
theorem app_tnW {w : World} {B g cap : Nat} {zs ms : List Int} {vx : Value} (ty : TypeId) (h : OwnW w B g cap zs) (hx : SW w vx ms) (hlen : zs.length + ms.length ≤ 2000000) (hB : B ≤ w.heap.size) :
    ∃ v' w', (Builtin.append_ #[47, 47] ty #[.slice (some ⟨g, 0, none⟩) zs.length cap, vx]).run Tryd.prog w = .ok v' w' ∧ (∃ g' cap', v' = .slice (some ⟨g', 0, none⟩) (zs.length + ms.length) cap' ∧ OwnW w' B g' cap' (zs ++ ms)) ∧ Tn g w w' := by
  obtain ⟨v', w', h1, ⟨g', cap', h2, h3⟩, h4⟩ := app_ownW ty h hx hlen hB
  exact ⟨v', w', h1, ⟨g', cap', by rw [h2, List.length_append], h3⟩, h4.1, h4.2, h4.3, h4.4, fun k hk hg => h4.5 k hk (by simpa using hg)⟩

theorem one_builtW (w : World) (x : Int) (hx : FitW [x]) : SW (w.alloc (.cells #[.int .u32 x] 51)) (.slice (some ⟨w.heap.size, 0, none⟩) 1 1) [x] :=
  SW.of_blk (zs := [x]) (Blk.new w (wv [x]) 51) (by simp [maxLen]) hx
/-- one more, where there is room -/
theorem push_fitsW {w : World} {B g cap n : Nat} {zs : List Int} {x : Int} (ty : TypeId) (h : OwnW w B g cap zs) (hn : n = zs.length) (hx : FitW [x]) (hroom : n + 1 ≤ cap) :
    ∃ v' w', (Builtin.append_ #[47, 47] ty #[.slice (some ⟨g, 0, none⟩) n cap, .slice (some ⟨w.heap.size, 0, none⟩) 1 1]).run Tryd.prog (w.alloc (.cells #[.int .u32 x] 51)) = .ok v' w' ∧
      (v' = .slice (some ⟨g, 0, none⟩) (n + 1) cap ∧ OwnW w' B g cap (zs ++ [x]) ∧ Tn g w w') := by
  subst hn
  obtain ⟨w', h1, h2, h3⟩ := app_fitsW ty (h.alloc _) (one_builtW w x hx) (by simpa using hroom)
  exact ⟨_, w', h1, rfl, h2, (Tn.of_bel (bel_new w _)).trans ⟨h3.1, h3.2, h3.3, h3.4, fun k hk hg => h3.5 k hk (by simpa using hg)⟩⟩
/-- one more -/
theorem pushW {w : World} {B g cap n : Nat} {zs : List Int} {x : Int} (ty : TypeId) (h : OwnW w B g cap zs) (hn : n = zs.length) (hx : FitW [x]) (hlen : n + 1 ≤ 2000000) (hB : B ≤ w.heap.size) :
    ∃ v' w', (Builtin.append_ #[47, 47] ty #[.slice (some ⟨g, 0, none⟩) n cap, .slice (some ⟨w.heap.size, 0, none⟩) 1 1]).run Tryd.prog (w.alloc (.cells #[.int .u32 x] 51)) = .ok v' w' ∧
      ((∃ g' cap', v' = .slice (some ⟨g', 0, none⟩) (n + 1) cap' ∧ OwnW w' B g' cap' (zs ++ [x])) ∧ Tn g w w') := by
  subst hn
  obtain ⟨v', w', h1, ⟨g', cap', h2, h3⟩, h4⟩ := app_tnW ty (h.alloc _) (one_builtW w x hx) (by simpa using hlen) (by simp; omega)
  exact ⟨v', w', h1, ⟨g', cap', by rw [h2]; rfl, h3⟩, (Tn.of_bel (bel_new w _)).trans h4⟩
theorem OwnW.set {w : World} {B g cap : Nat} {zs : List Int} (h : OwnW w B g cap zs) (i : Nat) (z : Int) : OwnW (w.setCell ⟨g, i, none⟩ (.int .u32 z)) B g cap (zs.set i z) ∧ Tn g w (w.setCell ⟨g, i, none⟩ (.int .u32 z)) := by
  obtain ⟨cur, h1, hg, h3, h4, h5, h6⟩ := h.parts
  refine ⟨OwnW.mk (cur.setIfInBounds i (.int .u32 z)) h1 (heap_setCell_same w g i _ 51 _ hg) (by simpa using h3) h4 (by simpa using h5) ?_, rfl, rfl, rfl, by rw [size_setCell]; exact Nat.le_refl _, fun k _ hk => Below.heap_setCell _ _ _ _ hk⟩
  rw [List.length_set, Array.toList_setIfInBounds, List.take_set, h6]
  unfold wv
  rw [List.map_set]
theorem OwnW.frozen {w : World} {B g cap : Nat} {zs : List Int} (h : OwnW w B g cap zs) (i : Nat) : w.frozen? ⟨g, i, none⟩ = false := by
  obtain ⟨cur, _, hg, _⟩ := h.parts
  exact frozen_of_row w g i _ 51 hg
theorem wpList_makeW {w : World} {ops : Array Oper} {rest : List Oper} {o : Oper} {a : Act} {Q : Exit → Act → World → Prop} (l c : Operand) (x y : Int) (n cp : Nat) (hx : x = (n : Int)) (hy : y = (cp : Int)) (hnc : n ≤ cp) (hcp : cp ≤ 1000000)
    (hgd : o.guard = none) (ho : o.op = .makeSlice 47 l c) (hl : a.eval l = .int .i64 x) (hc : a.eval c = .int .i64 y)
    (h : ∀ w1 g, Hid (g = w.heap.size) → OwnW w1 w.heap.size g cp (List.replicate n 0) → Below w.heap.size w w1 → wpList Tryd.prog ops Q rest (a.put o.dst (.slice (some ⟨g, 0, none⟩) n cp)) w1) : wpList Tryd.prog ops Q (o :: rest) a w := by
  obtain ⟨i, hi, hz0, hz1, hz2⟩ := info_parts infoW
  have hr := run_make (P := Tryd.prog) w 47 51 i (.int .u32 0) Tryd.underlying47 hi hz0 .i64 .i64 n cp (by omega) (by omega) (by rw [hz2]; omega) (by omega)
  simp only [Int.toNat_natCast, hz1, Nat.mul_one] at hr
  refine wpList_val hgd (.slice (some ⟨w.heap.size, 0, none⟩) n cp) (w.alloc (.cells (madeCells #[.int .u32 0] cp) 51)) ?_ (h _ _ rfl ?_ (bel_new w _))
  · unfold execOp
    subst hx hy
    simp only [ho, hl, hc, Sem.run_bind, Sem.run_pure]
    first | (rw [hr]; rfl) | (erw [hr]; rfl)
  · refine OwnW.mk _ (Nat.le_refl _) (Go.Deep.blk_alloc_new _ _) (by simpa using hnc) (by unfold maxLen; omega) (by simp [madeCells]) ?_
    apply List.ext_getElem
    · simp [madeCells, wv]; omega
    · intro j h1 h2
      simp [madeCells, wv, Nat.mod_one]

/-- an append, by what its run gives -/
theorem wpList_appW {w : World} {ops : Array Oper} {rest : List Oper} {o : Oper} {a : Act} {Q : Exit → Act → World → Prop} (s x : Operand) (v vx : Value) (R : Value → World → Prop)
    (hrun : ∀ ty, ∃ v' w', (Builtin.append_ #[47, 47] ty #[v, vx]).run Tryd.prog w = .ok v' w' ∧ R v' w') (hgd : o.guard = none)
    (ho : o.op = .call { callee := .builtin .append, args := #[s, x], argTypes := #[47, 47] }) (hs : a.eval s = v) (hx : a.eval x = vx)
    (h : ∀ v' w', R v' w' → wpList Tryd.prog ops Q rest (a.put o.dst v') w') : wpList Tryd.prog ops Q (o :: rest) a w :=
  wpList_plain hgd fun _ hK => by
    obtain ⟨v', w', hr, hR⟩ := hrun o.type
    unfold Oper.wp execOp
    simp only [ho, resolve, invoke, builtin, Sem.run_bind, Sem.run_pure, Result.andThen_ok, List.map_toArray, List.map_cons, List.map_nil, hs, hx, hr]
    exact hK _ _ (h v' w' hR)

end Go.Proofs.YtejhhkhaoekkiaaDoor.Ck
