/- Texts of this proof, packed: contracts of the program's functions, and the plain model that they are held against. -/
import Derived.Test.YtbiilnpblnjliaaDoorQaa
import Derived.Deep.AppendSrc
import Derived.OwnWalk
import Derived.Test.YtbiilnpblnjliaaDoorQap
import Derived.Test.YtbiilnpblnjliaaDoorQax
/- append on a slice of ints that the call itself made, from whatever list. -/
namespace Go.Proofs.YtbiilnpblnjliaaDoor.Ck
open Go.RowKit

def ints (zs : List Int) : List Value := zs.map (Value.int .i64)
theorem ints_len (zs : List Int) : (ints zs).length = zs.length := by simp [ints]
theorem ints_app (zs ms : List Int) : ints zs ++ ints ms = ints (zs ++ ms) := by simp [ints]
theorem ints_one (zs : List Int) : ∀ u ∈ ints zs, u.oneCell' = true := fun u hu => by
  obtain ⟨z, _, rfl⟩ := List.mem_map.1 hu
  rfl
theorem ints_at (zs : List Int) (j : Nat) (u : Value) (h : (ints zs)[j]? = some u) : j < zs.length ∧ u = .int .i64 (zs.getD j 0) := by
  unfold ints at h
  rw [List.getElem?_map] at h
  cases hz : zs[j]? with
  | none => rw [hz] at h; cases h
  | some z =>
    rw [hz] at h
    have hl : j < zs.length := (List.getElem?_eq_some_iff.1 hz).1
    cases h
    exact ⟨hl, by simp [List.getD, hz]⟩

/-- the slice of block g, of the call's own, with room for cap, holds zs -/
def Own (w : World) (B g cap : Nat) (zs : List Int) : Prop := w.ownsRow B 3 1 (.slice (some ⟨g, 0, none⟩) zs.length cap) zs.length (ints zs)

theorem Own.parts {w : World} {B g cap : Nat} {zs : List Int} (h : Own w B g cap zs) :
    ∃ cur : Array Value, B ≤ g ∧ w.heap[g]? = some (.cells cur 3 (0, 0)) ∧ zs.length ≤ cap ∧ cap ≤ maxLen ∧ cur.size = cap ∧ cur.toList.take zs.length = ints zs := by
  rcases h.2 with ⟨h, _⟩ | ⟨g', cap', cur, h, hbg, hg, hnc, hcm, hcs, htake⟩
  · simp at h
  · simp only [Value.slice.injEq, Option.some.injEq, Addr.mk.injEq, and_true, true_and] at h
    obtain ⟨rfl, rfl⟩ := h
    exact ⟨cur, hbg, hg, hnc, hcm, by simpa using hcs, by simpa using htake⟩
theorem Own.mk {w : World} {B g cap : Nat} {zs : List Int} (cur : Array Value) (h1 : B ≤ g) (h2 : w.heap[g]? = some (.cells cur 3 (0, 0))) (h3 : zs.length ≤ cap) (h4 : cap ≤ maxLen) (h5 : cur.size = cap) (h6 : cur.toList.take zs.length = ints zs) : Own w B g cap zs :=
  ⟨by rw [ints_len]; simp, .inr ⟨g, cap, cur, rfl, h1, h2, h3, h4, by simpa using h5, by simpa using h6⟩⟩
theorem Own.cell {w : World} {B g cap : Nat} {zs : List Int} (h : Own w B g cap zs) (i : Nat) (hi : i < zs.length) : w.cell? ⟨g, i, none⟩ = some (.int .i64 (zs.getD i 0)) := by
  obtain ⟨cur, _, hg, hnc, _, hcs, ht⟩ := h.parts
  have e : (cur.toList.take zs.length)[i]? = (ints zs)[i]? := by rw [ht]
  rw [List.getElem?_take_of_lt hi] at e
  have e2 : (ints zs)[i]? = some (.int .i64 (zs.getD i 0)) := by simp [ints, List.getD, hi]
  rw [e2] at e
  simp only [World.cell?, hg]
  rw [← Array.getElem?_toList]
  exact e
theorem Own.sl {w : World} {B g cap : Nat} {zs : List Int} (h : Own w B g cap zs) (hf : Fits zs) : Sl w (.slice (some ⟨g, 0, none⟩) zs.length cap) zs := by
  obtain ⟨cur, _, hg, hnc, hcm, hcs, ht⟩ := h.parts
  refine ⟨hf, _, _, rfl, hnc, hcm, fun i hi => ⟨g, 0, rfl, (Array.getElem?_eq_some_iff.1 hg).1, by rw [Nat.zero_add]; exact h.cell i hi⟩⟩

theorem app_src {w : World} {vx : Value} {ms : List Int} (h : Sl w vx ms) :
    (∃ ad c, vx = .slice (some ad) ms.length c ∧ ∀ j u, (ints ms)[j]? = some u → w.cell? (ad.add j) = some u) ∨ (∃ c, vx = .slice none 0 c ∧ ms = []) := by
  obtain ⟨_, a, c, rfl, _, _, hc⟩ := h
  cases a with
  | none =>
    right
    cases ms with
    | nil => exact ⟨c, rfl, rfl⟩
    | cons m ms => obtain ⟨b, off, e, _⟩ := hc 0 (by simp); cases e
  | some ad =>
    left
    refine ⟨ad, c, rfl, fun j u hu => ?_⟩
    obtain ⟨hj, rfl⟩ := ints_at ms j u hu
    obtain ⟨b, off, e, _, hcell⟩ := hc j hj
    cases e
    have e2 : (Addr.mk b off none).add j = ⟨b, off + j, none⟩ := by unfold Addr.add; by_cases h : j = 0 <;> simp [h]
    rw [e2]
    exact hcell

theorem app_fits {w : World} {B g cap : Nat} {zs ms : List Int} {vx : Value} (ty : TypeId) (h : Own w B g cap zs) (hx : Sl w vx ms) (hroom : zs.length + ms.length ≤ cap) :
    ∃ w', (Builtin.append_ #[22, 22] ty #[.slice (some ⟨g, 0, none⟩) zs.length cap, vx]).run Tryd.prog w = .ok (.slice (some ⟨g, 0, none⟩) (zs.length + ms.length) cap) w' ∧ Own w' B g cap (zs ++ ms) ∧ w.grownBy w' (some g) := by
  obtain ⟨i, hi, hz0, hz1, hz2⟩ := info_parts info3
  rcases app_src hx with ⟨ad, c, rfl, hnews⟩ | ⟨c, rfl, rfl⟩
  · obtain ⟨w', hr, ho, hg⟩ := run_append_fits (P := Tryd.prog) w B 22 ty 3 i 1 Tryd.underlying22 hi hz1 g zs.length cap (ints zs) h ad ms.length c (ints ms) (by rw [ints_len]; simp) hnews (ints_one ms) hroom
    refine ⟨w', hr, ?_, hg⟩
    unfold Own
    rw [List.length_append, ← ints_app]
    exact ho
  · have hs := Src.ofNil (P := Tryd.prog) w (size := i.size) Tryd.underlying22 c
    have hr := run_append_room_src (P := Tryd.prog) w 22 22 ty 3 i Tryd.underlying22 hi g 0 zs.length cap (.slice none 0 c) 0 [] hs hroom (fun j hj => absurd hj (Nat.not_lt_zero _)) (fun j hj => absurd hj (Nat.not_lt_zero _))
    refine ⟨w, hr, by rw [List.append_nil]; exact h, ⟨rfl, rfl, rfl, Nat.le_refl _, fun _ _ _ => rfl⟩⟩

theorem app_own {w : World} {B g cap : Nat} {zs ms : List Int} {vx : Value} (ty : TypeId) (h : Own w B g cap zs) (hx : Sl w vx ms) (hlen : zs.length + ms.length ≤ 2000000) (hB : B ≤ w.heap.size) :
    ∃ v' w', (Builtin.append_ #[22, 22] ty #[.slice (some ⟨g, 0, none⟩) zs.length cap, vx]).run Tryd.prog w = .ok v' w' ∧ (∃ g' cap', v' = .slice (some ⟨g', 0, none⟩) (zs ++ ms).length cap' ∧ Own w' B g' cap' (zs ++ ms)) ∧ w.grownBy w' (some g) := by
  obtain ⟨i, hi, hz0, hz1, hz2⟩ := info_parts info3
  rcases app_src hx with ⟨ad, c, rfl, hnews⟩ | ⟨c, rfl, rfl⟩
  · obtain ⟨v', w', hr, ho, hg, hn⟩ := run_append_own (P := Tryd.prog) w B 22 ty 3 i (.int .i64 0) 1 8 Tryd.underlying22 hi hz0 hz1 hz2 rfl (by decide) _ zs.length (ints zs) h ad ms.length c (ints ms) (by rw [ints_len]; simp) hnews (ints_one ms) (by unfold maxLen; omega) (by omega) hB
    refine ⟨v', w', hr, ?_, hg⟩
    have ho2 := ho
    rcases ho.2 with ⟨h1, _⟩ | ⟨g', cap', cur, h1, _⟩
    · have := hn.1 h1
      simp at this
    · refine ⟨g', cap', by rw [h1, List.length_append], ?_⟩
      unfold Own
      rw [List.length_append, ← ints_app]
      rw [h1] at ho2
      exact ho2
  · obtain ⟨_, _, _, hnc, _⟩ := h.parts
    obtain ⟨w', hr, ho, hg⟩ := app_fits (ms := []) ty h hx (by simpa using hnc)
    exact ⟨_, w', hr, ⟨g, cap, by simp, ho⟩, hg⟩

/-- an append, by what its run gives -/
theorem wpList_app {w : World} {ops : Array Oper} {rest : List Oper} {o : Oper} {a : Act} {Q : Exit → Act → World → Prop} (hgd : o.guard = none) (s x : Operand)
    (ho : o.op = .call { callee := .builtin .append, args := #[s, x], argTypes := #[22, 22] }) (v vx : Value) (hs : a.eval s = v) (hx : a.eval x = vx) (R : Value → World → Prop)
    (hrun : ∃ v' w', (Builtin.append_ #[22, 22] o.type #[v, vx]).run Tryd.prog w = .ok v' w' ∧ R v' w')
    (h : ∀ v' w', R v' w' → wpList Tryd.prog ops Q rest (a.put o.dst v') w') : wpList Tryd.prog ops Q (o :: rest) a w :=
  wpList_plain hgd fun _ hK => by
    obtain ⟨v', w', hr, hR⟩ := hrun
    unfold Oper.wp execOp
    simp only [ho, resolve, invoke, builtin, Sem.run_bind, Sem.run_pure, Result.andThen_ok, List.map_toArray, List.map_cons, List.map_nil, hs, hx, hr]
    exact hK _ _ (h v' w' hR)

end Go.Proofs.YtbiilnpblnjliaaDoor.Ck

/- Package act: picks of a list. (Written by mk_b.py.) -/
namespace Go.Proofs.YtbiilnpblnjliaaDoor.Ck
open Go.RowKit

set_option maxRecDepth 20000 in
set_option maxHeartbeats 1000000 in
theorem cloneS {w : World} {v : Value} {zs : List Int} (h : Sl w v zs) (hn : zs.length ≤ 100000) : Calls Tryd.prog 43 #[v] w fun e w' => ∃ v', e = .returned v' ∧ (∃ a c, v' = .slice a zs.length c) ∧ w'.ownsRow w.heap.size 3 1 v' zs.length (nts zs) ∧ Below w.heap.size w w' := by
  obtain ⟨a, n, c, rfl, en⟩ := h.slice
  cases a with
  | none =>
    have hz : zs = [] := by
      cases zs with
      | nil => rfl
      | cons z l =>
        obtain ⟨_, a', c', e, _, _, h3⟩ := h
        obtain ⟨b, o, e', _⟩ := h3 0 (by simp)
        cases e
        cases e'
    subst hz
    have e0 : n = 0 := en
    subst e0
    clear h hn en
    have hE : ∀ w, (binOp .eql 22 (.slice none 0 c) (.slice none 0 0)).run Tryd.prog w = .ok (.bool true) w := fun w => by kernel_rfl
    go_enter Tryd.func43, Tryd.ntmps43
    go_wp2_with fail
    go_ret
    exact ⟨_, rfl, ⟨_, _, rfl⟩, World.ownsRow_nil _ _ _ _, Below.refl _ _⟩
  | some ad =>
    have hb := bel_new w (.cells #[] 3)
    have ho : Own (w.alloc (.cells #[] 3)) w.heap.size w.heap.size 0 [] := Own.mk #[] (Nat.le_refl _) (Go.Deep.blk_alloc_new w _) (Nat.le_refl _) (Nat.zero_le _) rfl rfl
    have AP := hide (fun ty => app_own ty ho (h.below (Nat.le_refl _) hb) (by simp; omega) hb.size)
    have HB := hide hb
    simp only [List.length_nil, List.nil_append] at AP
    clear h hb ho
    have EN := hide en
    have hE : ∀ w, (binOp .eql 22 (.slice (some ad) n c) (.slice none 0 0)).run Tryd.prog w = .ok (.bool false) w := fun w => by kernel_rfl
    clear en hn
    go_enter Tryd.func43, Tryd.ntmps43
    go_wp2_with (first | (at_builtin; refine wpList_appW (TS := 22) rfl (.tmp 5) (.tmp 6) rfl _ _ rfl rfl _ (AP.out _) ?_; rintro v9 w9 ⟨⟨g9, c9, rfl, o9⟩, b9⟩; have R9 := hide (And.intro o9 b9); clear o9 b9))
    go_ret
    exact ⟨_, rfl, ⟨_, _, rfl⟩, R9.out.1, HB.out.grown R9.out.2 HB.out.size (fun k hk => by cases hk; exact Nat.le_refl _)⟩
/-- picks of the list l, whose next one is the number n -/
structure Pk (w : World) (F : Nat → Prop) (v : Value) (l : List Int) (n : Nat) (ob nb : Nat) (vS : Value) : Prop where
  is : v = .func (.func 73) #[] #[.pointer (some ⟨ob, 0, none⟩), .pointer (some ⟨nb, 0, none⟩)]
  own : w.heap[ob]? = some (.cells #[vS] 22 (0, 0))
  nxt : w.heap[nb]? = some (.cells #[.int .i64 (n : Nat)] 3 (0, 0))
  row : w.ownsRow 0 3 1 vS l.length (nts l)
  ne : vS.ownBlock ≠ some nb
  fo : F ob
  fn : F nb
  fr : ∀ k, vS.ownBlock = some k → F k
  fb : ∀ k, F k → k < w.heap.size
  sm : l.length ≤ 100000
  nl : n < l.length ∨ l.length = 0
def Pks (w : World) (F : Nat → Prop) (v : Value) (l : List Int) (n : Nat) : Prop := ∃ ob nb vS, Pk w F v l n ob nb vS
section
variable {w w' : World} {F G G' : Nat → Prop} {v : Value} {l : List Int} {n : Nat}
theorem Pks.fb (h : Pks w F v l n) : ∀ k, F k → k < w.heap.size := by
  obtain ⟨ob, nb, vS, h⟩ := h
  exact h.fb
theorem Pks.keep (h : Pks w F v l n) (hb : ∀ k, F k → w'.heap[k]? = w.heap[k]?) (hs : w.heap.size ≤ w'.heap.size) : Pks w' F v l n := by
  obtain ⟨ob, nb, vS, h⟩ := h
  exact ⟨ob, nb, vS, { h with own := (hb ob h.fo).trans h.own, nxt := (hb nb h.fn).trans h.nxt, row := own_keep h.row fun k hk => hb k (h.fr k hk), fb := fun k hk => Nat.lt_of_lt_of_le (h.fb k hk) hs }⟩
theorem Pks.bel (h : Pks w F v l n) (hb : Below w.heap.size w w') : Pks w' F v l n := h.keep (fun k hk => hb.block k (h.fb k hk)) hb.size
theorem Pks.ch (h : Pks w F v l n) (hc : Ch G G' w w') (hd : ∀ k, F k → ¬ G k) : Pks w' F v l n ∧ ∀ k, F k → ¬ G' k :=
  ⟨h.keep (fun k hk => hc.blk k (h.fb k hk) (hd k hk)) hc.size, fun k hk hG => by
    rcases hc.grow k hG with h1 | h1
    · exact hd k hk h1
    · have := h.fb k hk
      omega⟩
theorem Pks.func (h : Pks w F v l n) : ∃ ob nb, v = .func (.func 73) #[] #[.pointer (some ⟨ob, 0, none⟩), .pointer (some ⟨nb, 0, none⟩)] := by
  obtain ⟨ob, nb, vS, h⟩ := h
  exact ⟨ob, nb, h.is⟩
end
def ListP (w : World) (l : List Int) (e : Ending) (w' : World) : Prop := ∃ v F, e = .returned v ∧ Pks w' F v l 0 ∧ (∀ k, F k → w.heap.size ≤ k) ∧ Below w.heap.size w w'
set_option maxRecDepth 20000 in
set_option maxHeartbeats 1000000 in
theorem listed_any {w : World} {v : Value} {zs : List Int} (h : Sl w v zs) (hn : zs.length ≤ 100000) : Calls Tryd.prog 26 #[v] w (ListP w zs) := by
  have CL := hide (cloneS h hn)
  obtain ⟨a, n, c, rfl, en⟩ := h.slice
  have hmf : ∀ (fn : Fn) (first cap : Array Value) (w : World), (Instr.makeFunc fn first cap).run Tryd.prog w = .ok (.func fn first cap) w := fun _ _ _ _ => rfl
  have HN := hide hn
  clear h en hn
  go_enter Tryd.func26, Tryd.ntmps26
  go_wp2_with fail
  refine CL.out.mono ?_
  rintro e w1 ⟨v1, rfl, ⟨a1, c1, rfl⟩, o1, hb1⟩
  have O1 := hide (And.intro o1 hb1)
  clear CL o1 hb1
  obtain ⟨m, hm⟩ : ∃ m, zs.length = m := ⟨_, rfl⟩
  rw [hm] at O1 HN ⊢
  have HM := hide hm
  clear hm
  go_wp2_with fail
  have e1 := Go.Deep.blk_alloc_new w1 (.cells #[.slice a1 m c1] 22)
  have e2 := Go.Deep.blk_alloc_new (w1.alloc (.cells #[.slice a1 m c1] 22)) (.cells #[.int .i64 0] 3)
  have hs : (w1.alloc (.cells #[.slice a1 m c1] 22)).heap.size = w1.heap.size + 1 := by simp
  rw [hs] at e2
  have b2 := bel_al (bel_new w1 (.cells #[.slice a1 m c1] 22)) (.cells #[.int .i64 0] 3)
  go_ret
  have ok : ∀ k, (Value.slice a1 m c1).ownBlock = some k → w.heap.size ≤ k ∧ k < w1.heap.size := fun k hk => ⟨(own_type O1.out.1 hk).1, (own_type O1.out.1 hk).2.1⟩
  have hm := HM.out
  subst hm
  refine ⟨_, fun k => k = w1.heap.size ∨ k = w1.heap.size + 1 ∨ (Value.slice a1 zs.length c1).ownBlock = some k, rfl, ⟨w1.heap.size, w1.heap.size + 1, .slice a1 zs.length c1, { is := rfl, own := ((bel_new _ _).block _ (lt_of_blk e1)).trans e1, nxt := e2, row := own_keep (own_zero O1.out.1) (fun k hk => b2.block k (ok k hk).2), ne := fun e => by have := ok _ e; omega, fo := .inl rfl, fn := .inr (.inl rfl), fr := fun k hk => .inr (.inr hk), fb := fun k hk => ?_, sm := HN.out, nl := by omega }⟩, fun k hk => ?_, bel_trans O1.out.2 b2⟩
  · have h2 := lt_of_blk e2
    rcases hk with h1 | h1 | h1
    · omega
    · omega
    · have := ok k h1
      omega
  · have := O1.out.2.size
    rcases hk with h1 | h1 | h1
    · omega
    · omega
    · exact (ok k h1).1
theorem mod_nat (n m : Nat) : ((n : Int) + 1).tmod (m : Int) = (((n + 1) % m : Nat) : Int) := by
  have e : ((n : Int) + 1) = ((n + 1 : Nat) : Int) := by omega
  rw [e, Int.tmod_eq_emod_of_nonneg (by omega)]
  rfl
theorem Pk.turn {w : World} {F : Nat → Prop} {v : Value} {l : List Int} {n ob nb : Nat} {vS : Value} (h : Pk w F v l n ob nb vS) (m : Nat) (hm : m < l.length) : Pk (w.setCell ⟨nb, 0, none⟩ (.int .i64 (m : Nat))) F v l m ob nb vS ∧ Ch F F w (w.setCell ⟨nb, 0, none⟩ (.int .i64 (m : Nat))) := by
  have hne : ∀ k, k ≠ nb → (w.setCell ⟨nb, 0, none⟩ (.int .i64 (m : Nat))).heap[k]? = w.heap[k]? := fun k hk => Below.heap_setCell _ _ _ _ hk
  exact ⟨{ h with own := (hne ob (ne_of_type h.own h.nxt (by decide))).trans h.own, nxt := heap_setCell_same _ _ _ _ _ _ h.nxt, row := own_keep h.row fun k hk => hne k (fun e => h.ne (e ▸ hk)), fb := fun k hk => by rw [size_setCell]; exact h.fb k hk, nl := .inl hm }, ch_set h.fn _⟩
def PickP (w : World) (F : Nat → Prop) (v : Value) (l : List Int) (n : Nat) (e : Ending) (w' : World) : Prop := e = .returned (.int .i64 (pickR l n).1) ∧ Pks w' F v l (pickR l n).2 ∧ Ch F F w w'
set_option maxRecDepth 20000 in
set_option maxHeartbeats 1000000 in
theorem pick_any {w : World} {F : Nat → Prop} {ob nb : Nat} {l : List Int} {n : Nat} (h : Pks w F (.func (.func 73) #[] #[.pointer (some ⟨ob, 0, none⟩), .pointer (some ⟨nb, 0, none⟩)]) l n) (k : Int) :
    Calls Tryd.prog 73 #[.int .i64 k, .pointer (some ⟨ob, 0, none⟩), .pointer (some ⟨nb, 0, none⟩)] w (PickP w F (.func (.func 73) #[] #[.pointer (some ⟨ob, 0, none⟩), .pointer (some ⟨nb, 0, none⟩)]) l n) := by
  obtain ⟨ob', nb', vS, h⟩ := h
  obtain ⟨rfl, rfl⟩ : ob' = ob ∧ nb' = nb := by
    have := h.is
    injection this with _ _ h3
    simp at h3
    exact ⟨h3.1.symm, h3.2.symm⟩
  obtain ⟨a, c, rfl, _⟩ := own_slice h.row
  have c0 : w.cell? ⟨ob', 0, none⟩ = some (.slice a l.length c) := blk_cell h.own 0 _ rfl
  have c1 : w.cell? ⟨nb', 0, none⟩ = some (.int .i64 (n : Nat)) := blk_cell h.nxt 0 _ rfl
  have f1 := blk_frz h.nxt 0
  have hol := lt_of_blk h.own
  have hnl := lt_of_blk h.nxt
  by_cases h0 : l.length = 0
  · have hl : l = [] := List.length_eq_zero_iff.1 h0
    have hp : Hid (pickR l n = (0, n)) := hide (by subst hl; rfl)
    rw [h0] at c0
    have H := hide h
    clear h h0 hl
    go_enter Tryd.func73, Tryd.ntmps73
    go_wp2_with fail
    go_ret
    exact ⟨by rw [hp.out]; rfl, by rw [hp.out]; exact ⟨_, _, _, H.out⟩, Ch.refl _ _⟩
  · have hn : n < l.length := by
      rcases h.nl with h1 | h1
      · exact h1
      · exact absurd h1 h0
    obtain ⟨b, c', e, _⟩ := own_some h.row (by omega)
    cases e
    obtain ⟨x, hx⟩ : ∃ x, l[n]? = some x := ⟨_, List.getElem?_eq_getElem hn⟩
    have hp : Hid (pickR l n = (x, (n + 1) % l.length)) := hide (by unfold pickR; rw [hx])
    have d1 := (own_cell h.row n _ (nts_at hx)).1
    have hbl := (own_type h.row (k := b) rfl).2.1
    have hsm := h.sm
    obtain ⟨m, hm⟩ : ∃ m, l.length = m := ⟨_, rfl⟩
    have T := hide (h.turn ((n + 1) % l.length) (Nat.mod_lt _ (by omega)))
    have hmd := mod_nat n m
    have hml : (n + 1) % m < m := Nat.mod_lt _ (by omega)
    rw [hm] at c0 hn hsm hp T
    have hmb : ((m : Int) == 0) = false := by simp; omega
    obtain ⟨q, hq⟩ : ∃ q, (n + 1) % m = q := ⟨_, rfl⟩
    rw [hq] at T hmd hp hml
    clear h h0 hx hm hq
    go_enter Tryd.func73, Tryd.ntmps73
    go_wp2_with fail
    go_ret
    exact ⟨by rw [hp.out]; rfl, by rw [hp.out]; exact ⟨_, _, _, T.out.1⟩, T.out.2⟩
end Go.Proofs.YtbiilnpblnjliaaDoor.Ck

/- Package act: scripts in memory, and rows of waits that grow; no Go text is walked here. -/
namespace Go.Proofs.YtbiilnpblnjliaaDoor.Ck
open Go.RowKit

def wrows : List Wt → List Value → List Value
  | x :: l, va :: vas => wcs x va ++ wrows l vas
  | _, _ => []
theorem wrows_snoc : ∀ (l : List Wt) (vas : List Value) (x : Wt) (va : Value), vas.length = l.length → wrows (l ++ [x]) (vas ++ [va]) = wrows l vas ++ wcs x va
  | [], [], x, va, _ => by simp [wrows]
  | y :: l, vy :: vas, x, va, h => by simp [wrows, wrows_snoc l vas x va (by simpa using h)]
theorem wrows_at : ∀ (l : List Wt) (vas : List Value) (i j : Nat) (x : Wt) (va u : Value), l[i]? = some x → vas[i]? = some va → (wcs x va)[j]? = some u → (wrows l vas)[7 * i + j]? = some u
  | [], vas, i, j, x, va, u, h, _, _ => by simp at h
  | y :: l, [], i, j, x, va, u, _, h, _ => by simp at h
  | y :: l, vy :: vas, 0, j, x, va, u, h, h', hu => by
    simp at h h'
    subst h h'
    have hj : j < (wcs y vy).length := (List.getElem?_eq_some_iff.1 hu).1
    simp only [wrows]
    rw [List.getElem?_append_left (by omega)]
    simpa using hu
  | y :: l, vy :: vas, i + 1, j, x, va, u, h, h', hu => by
    have := wrows_at l vas i j x va u (by simpa using h) (by simpa using h') hu
    simp only [wrows]
    rw [List.getElem?_append_right (by simp [wcs]; omega)]
    rw [show 7 * (i + 1) + j - (wcs y vy).length = 7 * i + j by simp [wcs]; omega]
    exact this
theorem wrows_one : ∀ (l : List Wt) (vas : List Value), (∀ va ∈ vas, va.oneCell' = true) → ∀ u ∈ wrows l vas, u.oneCell' = true
  | [], vas, _, u, h => by simp [wrows] at h
  | y :: l, [], _, u, h => by simp [wrows] at h
  | y :: l, vy :: vas, hv, u, h => by
    simp only [wrows, List.mem_append] at h
    rcases h with h | h
    · simp only [wcs, List.mem_cons, List.mem_nil_iff, or_false] at h
      rcases h with rfl | rfl | rfl | rfl | rfl | rfl | rfl
      all_goals first | rfl | exact hv _ (List.mem_cons_self ..)
    · exact wrows_one l vas (fun va hva => hv va (List.mem_cons_of_mem _ hva)) u h
theorem info_wt : (Tryd.prog.info? 133).map (fun i => (i.zero, i.size, i.bytes)) = some (some (.agg #[.int .i64 0, .int .i64 0, .int .i64 0, .int .i64 0, .int .i64 0, .int .u64 0, .slice none 0 0]), 7, 72) := by kernel_rfl
theorem info_sw : (Tryd.prog.info? 134).map (fun i => (i.zero, i.size, i.bytes)) = some (some (.slice none 0 0), 1, 24) := by kernel_rfl
theorem run_mkS (n : Nat) (hn : n ≤ 2000) (w : World) : (Instr.makeSlice 59 (.int .i64 (n : Nat)) (.int .i64 (n : Nat))).run Tryd.prog w = .ok (.slice (some ⟨w.heap.size, 0, none⟩) n n) (w.alloc (.cells (madeCells #[.slice none 0 0] n) 134)) := by
  obtain ⟨i, hi, hz0, hz1, hz2⟩ := info_parts info_sw
  have hr := run_make (P := Tryd.prog) w 59 134 i (.slice none 0 0) Tryd.underlying59 hi hz0 .i64 .i64 n n (by omega) (by omega) (by rw [hz2]; omega) (by omega)
  simp only [Int.toNat_natCast, hz1, Nat.mul_one] at hr
  exact hr
theorem own_madeS (w : World) (n : Nat) (hn : n ≤ 2000) : (w.alloc (.cells (madeCells #[.slice none 0 0] n) 134)).ownsRow 0 134 1 (.slice (some ⟨w.heap.size, 0, none⟩) n n) n (List.replicate n (.slice none 0 0)) :=
  ⟨by simp, .inr ⟨w.heap.size, n, _, rfl, Nat.zero_le _, Go.Deep.blk_alloc_new _ _, Nat.le_refl _, by unfold maxLen; omega, by simp [madeCells], by
    rw [List.take_of_length_le]
    · apply List.ext_getElem?
      intro m
      by_cases hm : m < n
      · simp [madeCells, Nat.mod_one, hm]
      · simp [madeCells, Nat.mod_one, hm]
    · simp [madeCells]⟩⟩
theorem push_w {w : World} {B : Nat} {v : Value} {l : List Wt} {vas : List Value} {n : Nat} (hn : n = l.length) (hv : vas.length = l.length) (ho : w.ownsRow B 133 7 v n (wrows l vas)) (hl : l.length ≤ 2000) (hB : B ≤ w.heap.size) (x : Wt) (va : Value) (hva : va.oneCell' = true) (ty : TypeId) :
    ∃ v' w', (Builtin.append_ #[134, 134] ty #[v, .slice (some ⟨w.heap.size, 0, none⟩) 1 1]).run Tryd.prog (w.alloc (.cells #[.int .i64 x.k, .int .i64 x.o, .int .i64 x.a, .int .i64 x.v.1, .int .i64 x.v.2.1, .int .u64 x.v.2.2, va] 133)) = .ok v' w' ∧
      ((∃ a c, v' = .slice a (n + 1) c) ∧ w'.ownsRow B 133 7 v' (n + 1) (wrows (l ++ [x]) (vas ++ [va])) ∧ w.grownBy w' v.ownBlock ∧ (∀ k, v'.ownBlock = some k → v.ownBlock = some k ∨ w.heap.size ≤ k)) := by
  obtain ⟨ie, hi, hz0, hz1, hz2⟩ := info_parts info_wt
  have hb := bel_new w (.cells #[.int .i64 x.k, .int .i64 x.o, .int .i64 x.a, .int .i64 x.v.1, .int .i64 x.v.2.1, .int .u64 x.v.2.2, va] 133)
  have o1 := own_keep ho (fun k hk => hb.block k (own_type ho hk).2.1)
  have hc : ∀ (j : Nat) (u : Value), (wcs x va)[j]? = some u → (w.alloc (.cells #[.int .i64 x.k, .int .i64 x.o, .int .i64 x.a, .int .i64 x.v.1, .int .i64 x.v.2.1, .int .u64 x.v.2.2, va] 133)).cell? ((⟨w.heap.size, 0, none⟩ : Addr).add j) = some u := fun j u hu => by
    rw [show (⟨w.heap.size, 0, none⟩ : Addr).add j = ⟨w.heap.size, j, none⟩ by unfold Addr.add; by_cases h : j = 0 <;> simp [h]]
    exact blk_cell (Go.Deep.blk_alloc_new w _) j u (by simpa [wcs] using hu)
  obtain ⟨v', w', hr, ho', hg, _, hat⟩ := run_append_own_at (P := Tryd.prog) (w.alloc (.cells #[.int .i64 x.k, .int .i64 x.o, .int .i64 x.a, .int .i64 x.v.1, .int .i64 x.v.2.1, .int .u64 x.v.2.2, va] 133)) B 134 ty 133 ie _ 7 72 Tryd.underlying134 hi hz0 hz1 hz2 rfl (by decide) v n (wrows l vas) o1 ⟨w.heap.size, 0, none⟩ 1 1 (wcs x va) rfl hc (fun u hu => by
      simp only [wcs, List.mem_cons, List.mem_nil_iff, or_false] at hu
      rcases hu with rfl | rfl | rfl | rfl | rfl | rfl | rfl
      all_goals first | rfl | exact hva) (by unfold maxLen; omega) (by omega) (Nat.le_trans hB hb.size)
  obtain ⟨a9, c9, e9, _⟩ := own_slice ho'
  refine ⟨v', w', hr, ⟨_, _, e9⟩, by rw [wrows_snoc _ _ _ _ hv]; exact ho', ⟨hg.os, hg.tape, hg.output, Nat.le_trans hb.size hg.size, fun k hk hne => (hg.block k (Nat.lt_of_lt_of_le hk hb.size) hne).trans (hb.block k hk)⟩, fun k hk => ?_⟩
  rcases hat with e | e
  · exact .inl (e.symm.trans hk)
  · rw [e] at hk
    right
    have := Option.some.inj hk
    simp at this
    omega
/-- arguments that can be cloned -/
def ArgC (w : World) (va : Value) : Prop := ∃ (a : Option Addr) (n c : Nat) (xs : List Value), va = .slice a n c ∧ n ≤ 2000 ∧ (∀ u ∈ xs, u.oneCell' = true) ∧ ∀ w', Below w.heap.size w w' → Calls Tryd.prog 41 #[va] w' (ClP w' 41 3 n xs)
theorem ArgC.bel {w w' : World} {va : Value} (h : ArgC w va) (hb : Below w.heap.size w w') : ArgC w' va := by
  obtain ⟨a, n, c, xs, h1, h2, h3, h4⟩ := h
  exact ⟨a, n, c, xs, h1, h2, h3, fun w'' h => h4 w'' (bel_trans hb h)⟩
theorem ArgC.nilS (w : World) : ArgC w (.slice none 0 0) := ⟨none, 0, 0, [], rfl, (by omega), (fun _ h => by cases h), (fun w' _ => cloneV2 (own_nil _ _ _) (by omega) (fun _ h => by cases h))⟩
/-- waits that are handed in -/
def WSrc (w : World) (v : Value) (l : List Wt) : Prop := ∃ (a : Option Addr) (c : Nat), v = .slice a l.length c ∧ l.length ≤ 2000 ∧ ∀ (j : Nat) (x : Wt), l[j]? = some x → ∃ (b o : Nat) (va : Value), a = some ⟨b, o, none⟩ ∧ b < w.heap.size ∧ (∀ (q : Nat) (u : Value), (wcs x va)[q]? = some u → w.cell? ⟨b, o + j * 7 + q, none⟩ = some u) ∧ ArgC w va
/-- scripts that are handed in -/
def SSrc (w : World) (v : Value) (S : List (List Wt)) : Prop := ∃ (a : Option Addr) (c : Nat), v = .slice a S.length c ∧ S.length ≤ 2000 ∧ ∀ (i : Nat) (l : List Wt), S[i]? = some l → ∃ (b o : Nat) (vi : Value), a = some ⟨b, o, none⟩ ∧ b < w.heap.size ∧ w.cell? ⟨b, o + i, none⟩ = some vi ∧ WSrc w vi l
theorem WSrc.bel {w w' : World} {v : Value} {l : List Wt} (h : WSrc w v l) (hb : Below w.heap.size w w') : WSrc w' v l := by
  obtain ⟨a, c, h1, h2, h3⟩ := h
  refine ⟨a, c, h1, h2, fun j x hx => ?_⟩
  obtain ⟨b, o, va, e1, e2, e3, e4⟩ := h3 j x hx
  exact ⟨b, o, va, e1, Nat.lt_of_lt_of_le e2 hb.size, fun q u hu => (hb.cell (p := ⟨b, o + j * 7 + q, none⟩) e2).trans (e3 q u hu), e4.bel hb⟩
theorem SSrc.bel {w w' : World} {v : Value} {S : List (List Wt)} (h : SSrc w v S) (hb : Below w.heap.size w w') : SSrc w' v S := by
  obtain ⟨a, c, h1, h2, h3⟩ := h
  refine ⟨a, c, h1, h2, fun i l hl => ?_⟩
  obtain ⟨b, o, vi, e1, e2, e3, e4⟩ := h3 i l hl
  exact ⟨b, o, vi, e1, Nat.lt_of_lt_of_le e2 hb.size, (hb.cell (p := ⟨b, o + i, none⟩) e2).trans e3, e4.bel hb⟩
/-- the copy of scripts, at script i, whose first j waits are there; R: what is finished -/
structure Sc (w wr : World) (vb ob n : Nat) (R : Nat → Prop) (S : List (List Wt)) (i j : Nat) (vs : List Value) : Prop where
  var : wr.heap[vb]? = some (.cells #[.slice (some ⟨ob, 0, none⟩) n n] 59 (0, 0))
  row : wr.ownsRow 0 134 1 (.slice (some ⟨ob, 0, none⟩) n n) n vs
  old : ∀ (m : Nat) (l : List Wt) (v : Value), m < i → S[m]? = some l → vs[m]? = some v → WRow wr R v l
  cur : ∀ (l : List Wt) (v : Value), S[i]? = some l → vs[i]? = some v → ∃ vas : List Value, vas.length = j ∧ (∀ va ∈ vas, Args wr R va) ∧ wr.ownsRow w.heap.size 133 7 v j (wrows (l.take j) vas) ∧ ∀ k, v.ownBlock = some k → ¬ R k
  new : ∀ (m : Nat) (v : Value), i < m → vs[m]? = some v → v = .slice none 0 0
  rr : ∀ k, R k → w.heap.size ≤ k ∧ k < wr.heap.size ∧ k ≠ ob ∧ k ≠ vb
  lo : w.heap.size ≤ ob ∧ w.heap.size ≤ vb
  bel : Below w.heap.size w wr
section
variable {w wr wr' : World} {vb ob n : Nat} {R : Nat → Prop} {S : List (List Wt)} {i j : Nat} {vs : List Value}
theorem Sc.al (h : Sc w wr vb ob n R S i j vs) (hb : Below wr.heap.size wr wr') : Sc w wr' vb ob n R S i j vs := by
  have hR : ∀ k, R k → wr'.heap[k]? = wr.heap[k]? := fun k hk => hb.block k (h.rr k hk).2.1
  exact { h with
    var := (hb.block vb (lt_of_blk h.var)).trans h.var
    row := own_keep h.row fun k hk => hb.block k (own_type h.row hk).2.1
    old := fun m l v hm hl hv => (h.old m l v hm hl hv).keep hR fun _ h => h
    cur := fun l v hl hv => by
      obtain ⟨vas, h1, h2, h3, h4⟩ := h.cur l v hl hv
      exact ⟨vas, h1, fun va hva => (h2 va hva).keep hR fun _ h => h, own_keep h3 fun k hk => hb.block k (own_type h3 hk).2.1, h4⟩
    rr := fun k hk => ⟨(h.rr k hk).1, Nat.lt_of_lt_of_le (h.rr k hk).2.1 hb.size, (h.rr k hk).2.2⟩
    bel := bel_trans h.bel hb }
/-- the script is finished: the next one -/
theorem Sc.next (h : Sc w wr vb ob n R S i j vs) {l : List Wt} (hl : S[i]? = some l) (hj : j = l.length) (hn : n = S.length) : ∃ R', Sc w wr vb ob n R' S (i + 1) 0 vs := by
  have hi : i < n := by rw [hn]; exact (List.getElem?_eq_some_iff.1 hl).1
  have hvl : vs.length = n := by have := h.row.1; omega
  obtain ⟨v, hv⟩ : ∃ v, vs[i]? = some v := ⟨_, List.getElem?_eq_getElem (by omega)⟩
  obtain ⟨vas, c1, c2, c3, c4⟩ := h.cur l v hl hv
  rw [hj, List.take_length] at c3
  have hblk : ∀ k, v.ownBlock = some k → w.heap.size ≤ k ∧ k < wr.heap.size ∧ k ≠ ob ∧ k ≠ vb := fun k hk => ⟨(own_type c3 hk).1, (own_type c3 hk).2.1, fun e => own_apart c3 h.row (by decide) k hk (by rw [e]; rfl), fun e => own_at c3 h.var (by decide) (by rw [hk, e])⟩
  refine ⟨fun k => R k ∨ v.ownBlock = some k, { h with
    old := fun m l' v' hm hl' hv' => ?_
    cur := fun l' v' hl' hv' => ?_
    new := fun m v' hm hv' => h.new m v' (by omega) hv'
    rr := fun k hk => hk.elim (h.rr k) (hblk k) }⟩
  · by_cases e : m = i
    · subst e
      rw [hl] at hl'
      rw [hv] at hv'
      cases hl'
      cases hv'
      obtain ⟨a, c, e1, e2, e3⟩ := own_slice c3
      refine ⟨a, c, e1, e2, e3, fun q x hx => ?_⟩
      have hq : q < l.length := (List.getElem?_eq_some_iff.1 hx).1
      obtain ⟨va, hva⟩ : ∃ va, vas[q]? = some va := ⟨_, List.getElem?_eq_getElem (by omega)⟩
      obtain ⟨b, c', eb, _⟩ := own_some c3 (by omega)
      rw [e1] at eb
      cases eb
      subst e1
      refine ⟨b, 0, va, rfl, .inr rfl, fun p u hu => ?_, (c2 va (List.mem_of_getElem? hva)).keep (fun _ _ => rfl) fun _ h => .inl h⟩
      rw [Nat.zero_add]
      exact (own_cell c3 _ _ (wrows_at l vas q p x va u hx hva hu)).1
    · exact (h.old m l' v' (by omega) hl' hv').keep (fun _ _ => rfl) fun _ h => .inl h
  · have := h.new (i + 1) v' (by omega) hv'
    subst this
    exact ⟨[], rfl, fun _ h => (by cases h), (by simp [wrows]; exact World.ownsRow_nil _ _ _ _), fun k hk => (by cases hk)⟩
/-- one wait more: it is cloned (w3), appended (w9), and the row is told where it lies -/
theorem Sc.push (h : Sc w wr vb ob n R S i j vs) {l : List Wt} {x : Wt} (hl : S[i]? = some l) (hx : l[j]? = some x) (hin : i < n) {v va v' : Value} {w3 w9 : World} {vas : List Value} (hv : vs[i]? = some v) (c1 : vas.length = j) (c2 : ∀ va ∈ vas, Args wr R va) (c4 : ∀ k, v.ownBlock = some k → ¬ R k ∧ k < wr.heap.size)
    (hb3 : Below wr.heap.size wr w3) (ha : ArgN wr.heap.size w3 va) (ho : w9.ownsRow w.heap.size 133 7 v' (j + 1) (wrows (l.take j ++ [x]) (vas ++ [va]))) (hg : w3.grownBy w9 v.ownBlock) (hb : ∀ k, v'.ownBlock = some k → v.ownBlock = some k ∨ w3.heap.size ≤ k) (hvt : ∀ k, v.ownBlock = some k → ∃ c, wr.heap[k]? = some (.cells c 133 (0, 0))) :
    ∃ R', Sc w (w9.setCell ⟨ob, i, none⟩ v') vb ob n R' S i (j + 1) (vs.set i v') := by
  have hne : ∀ {k : Nat}, k < wr.heap.size → v.ownBlock ≠ some k → k ≠ ob → (w9.setCell ⟨ob, i, none⟩ v').heap[k]? = wr.heap[k]? := fun {k} hk h1 h2 => (Below.heap_setCell _ _ _ _ h2).trans ((hg.block k (Nat.lt_of_lt_of_le hk hb3.size) (fun e => h1 e.symm)).trans (hb3.block k hk))
  have hsz : (w9.setCell ⟨ob, i, none⟩ v').heap.size = w9.heap.size := size_setCell _ _ _
  have hvv : v.ownBlock ≠ some vb := fun e => by
    obtain ⟨c, hc⟩ := hvt vb e
    exact absurd rfl (ne_of_type hc h.var (by decide))
  have hvo : v.ownBlock ≠ some ob := fun e => by
    obtain ⟨c, hc⟩ := hvt ob e
    exact own_at h.row hc (by decide) rfl
  have hvb : vb ≠ ob := fun e => own_at h.row h.var (by decide) (by rw [e]; rfl)
  have hobl : ob < wr.heap.size := (own_type h.row (k := ob) rfl).2.1
  have hR : ∀ k, R k → (w9.setCell ⟨ob, i, none⟩ v').heap[k]? = wr.heap[k]? := fun k hk => hne (h.rr k hk).2.1 (fun e => (c4 k e).1 hk) (h.rr k hk).2.2.1
  have hva : ∀ k, va.ownBlock = some k → wr.heap.size ≤ k ∧ k < w3.heap.size := fun k hk => ha.at hk
  have hrow9 : w9.ownsRow 0 134 1 (.slice (some ⟨ob, 0, none⟩) n n) n vs := own_keep h.row fun k hk => (hg.block k (Nat.lt_of_lt_of_le (own_type h.row hk).2.1 hb3.size) (fun e => hvo (by cases hk; exact e.symm))).trans (hb3.block k (own_type h.row hk).2.1)
  have hbel : Below w.heap.size w (w9.setCell ⟨ob, i, none⟩ v') := ((bel_trans h.bel hb3).grown hg (Nat.le_trans h.bel.size hb3.size) (fun k hk => by
    obtain ⟨vas', q1, q2, q3, q4⟩ := h.cur l v hl hv
    exact (own_type q3 hk).1)).setCell (p := ⟨ob, i, none⟩) h.lo.1 _
  refine ⟨fun k => R k ∨ va.ownBlock = some k, { var := (hne (lt_of_blk h.var) hvv hvb).trans h.var, row := own_set hrow9 i v', old := fun m l' v0 hm hl' hv0 => ?_, cur := fun l' v0 hl' hv0 => ?_, new := fun m v0 hm hv0 => ?_, rr := fun k hk => ?_, lo := h.lo, bel := hbel }⟩
  · rw [List.getElem?_set_ne (by omega)] at hv0
    exact (h.old m l' v0 hm hl' hv0).keep hR fun _ h => .inl h
  · rw [hl] at hl'
    cases hl'
    rw [List.getElem?_set_self (by have := h.row.1; omega)] at hv0
    cases hv0
    refine ⟨vas ++ [va], by simp [c1], fun u hu => ?_, ?_, fun k hk hR' => ?_⟩
    · rcases List.mem_append.1 hu with h1 | h1
      · exact (c2 u h1).keep hR fun _ h => .inl h
      · simp at h1
        subst h1
        refine Args.keep (w := w3) (R := fun k => u.ownBlock = some k) (ha.args (fun _ h => h)) (fun k hk => ?_) (fun _ h => .inr h)
        have h2 := hva k hk
        refine (Below.heap_setCell _ _ _ _ (by show k ≠ ob; omega)).trans (hg.block k h2.2 (fun e => ?_))
        have := (c4 k e.symm).2
        omega
    · have e : l.take (j + 1) = l.take j ++ [x] := by rw [List.take_add_one, hx]; rfl
      rw [e]
      exact own_keep ho fun k hk => Below.heap_setCell _ _ _ _ (fun e => own_apart ho hrow9 (by decide) k hk (by have e' : k = ob := e; rw [e']; rfl))
    · rcases hb k hk with h1 | h1
      · rcases hR' with h2 | h2
        · exact (c4 k h1).1 h2
        · have := (c4 k h1).2
          have := hva k h2
          omega
      · rcases hR' with h2 | h2
        · have := (h.rr k h2).2.1
          have := hb3.size
          omega
        · have := hva k h2
          omega
  · rw [List.getElem?_set_ne (by omega)] at hv0
    exact h.new m v0 hm hv0
  · have h9 := hg.size
    have h3 := hb3.size
    rw [hsz]
    rcases hk with h1 | h1
    · have := h.rr k h1
      exact ⟨this.1, by omega, this.2.2⟩
    · have h2 := hva k h1
      have h4 := h.bel.size
      have h5 := lt_of_blk h.var
      exact ⟨by omega, by omega, by omega, by omega⟩
end
end Go.Proofs.YtbiilnpblnjliaaDoor.Ck
