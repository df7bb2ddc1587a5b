/- Package proofread: what change wants of a code in form; short rows of types. (Written by mk_f.py.) -/
import Derived.Test.YtlheflkdapckbaaDoorPe
namespace Go.Proofs.YtlheflkdapckbaaDoor.Ck
open Go.RowKit

theorem sl_one1 {w : World} {g : Nat} {t : Int} (h : w.heap[g]? = some (.cells #[.int .i64 t] 3 (0, 0))) (hf : Fits [t]) : Sl w (.slice (some ⟨g, 0, none⟩) [t].length 1) [t] :=
  ⟨hf, _, 1, rfl, Nat.le_refl _, by unfold maxLen; omega, fun i hi => by
    obtain rfl : i = 0 := by simpa using hi
    exact ⟨g, 0, rfl, lt_of_blk h, blk_cell h 0 _ rfl⟩⟩
theorem sl_two1 {w : World} {g : Nat} {t u : Int} (h : w.heap[g]? = some (.cells #[.int .i64 t, .int .i64 u] 3 (0, 0))) (hf : Fits [t, u]) : Sl w (.slice (some ⟨g, 0, none⟩) [t, u].length 2) [t, u] :=
  ⟨hf, _, 2, rfl, Nat.le_refl _, by unfold maxLen; omega, fun i hi => by
    have h2 : i = 0 ∨ i = 1 := by simp at hi; omega
    rcases h2 with rfl | rfl
    · exact ⟨g, 0, rfl, lt_of_blk h, blk_cell h 0 _ rfl⟩
    · exact ⟨g, 0, rfl, lt_of_blk h, blk_cell h 1 _ rfl⟩⟩
theorem sl_pre {w : World} {a : Option Addr} {n c k : Nat} {l : List Int} (h : Sl w (.slice a n c) l) (hk : k ≤ n) : Sl w (.slice a (l.take k).length c) (l.take k) := by
  have hn := h.len
  obtain ⟨hf, a', c', e, h1, h2, h3⟩ := h
  cases e
  have hl : (l.take k).length = k := by rw [List.length_take]; omega
  refine ⟨fun z hz => hf z (List.mem_of_mem_take hz), a, c, rfl, by omega, h2, fun i hi => ?_⟩
  rw [hl] at hi
  obtain ⟨b, o, ha, hb, hc⟩ := h3 i (by omega)
  refine ⟨b, o, ha, hb, ?_⟩
  rw [List.getD_eq_getElem?_getD, List.getElem?_take_of_lt hi, ← List.getD_eq_getElem?_getD]
  exact hc
theorem fits1 {l : List Int} (h : Fits l) {i : Nat} (hi : i < l.length) : Fits [l.getD i 0] := fun z hz => by
  obtain rfl : z = l.getD i 0 := by simpa using hz
  rw [List.getD_eq_getElem?_getD, List.getElem?_eq_getElem hi]
  exact h _ (List.getElem_mem hi)
theorem alloc_drew (w : World) (o : Obj) : w.drew.alloc o = (w.alloc o).drew := rfl
theorem fits_1 {t : Int} (h : -9223372036854775808 ≤ t ∧ t ≤ 9223372036854775807) : Fits [t] := fun z hz => by
  obtain rfl : z = t := by simpa using hz
  exact h
theorem fits_2 {t u : Int} (h : Fits [t]) (h2 : Fits [u]) : Fits [t, u] := fun z hz => (List.mem_cons.1 hz).elim (fun e => h z (by rw [e]; exact List.mem_singleton.2 rfl)) (fun e => h2 z e)
theorem fits_k {k : Int} (h0 : 0 ≤ k) (h1 : k ≤ 3) : Fits [k] := fun z hz => by
  obtain rfl : z = k := by simpa using hz
  omega
/-- what change is called at: w0 the world at the step's beginning -/
structure Cg (w0 w : World) (p : List Addr) (g b : Nat) (vP vC vF vB : Value) (c : Cd) (f : Fn3) (vLo : Value) (hi : Int) (vM vS vL v : Value) (s : List Int) : Prop where
  ec : Ec w0 p
  rd : Rdv w0 g vP vC vF vB c f vLo hi vM vS vL
  bel : Below w0.heap.size w0 w
  sk : Sk w b w0.heap.size v s
  n : s.length ≤ 900
section
variable {w0 w w' : World} {p : List Addr} {g b : Nat} {vP vC vF vB vLo vM vS vL v v' : Value} {c : Cd} {f : Fn3} {hi : Int} {s s' : List Int}
theorem Cg.low (h : Cg w0 w p g b vP vC vF vB c f vLo hi vM vS vL v s) (hb : Below w.heap.size w w') : Cg w0 w' p g b vP vC vF vB c f vLo hi vM vS vL v s := ⟨h.ec, h.rd, h.bel.trans (hb.mono h.bel.size), h.sk.bel hb, h.n⟩
theorem Cg.next (h : Cg w0 w p g b vP vC vF vB c f vLo hi vM vS vL v s) (hk : Sk w' b w0.heap.size v' s') (hb : Below w0.heap.size w w') (hn : s'.length ≤ 900) : Cg w0 w' p g b vP vC vF vB c f vLo hi vM vS vL v' s' := ⟨h.ec, h.rd, h.bel.trans hb, hk, hn⟩
theorem Cg.er (h : Cg w0 w p g b vP vC vF vB c f vLo hi vM vS vL v s) : Ec w p := h.ec.bel h.bel
theorem Cg.rr (h : Cg w0 w p g b vP vC vF vB c f vLo hi vM vS vL v s) : Rdv w g vP vC vF vB c f vLo hi vM vS vL := h.rd.low h.bel
theorem Cg.gc (h : Cg w0 w p g b vP vC vF vB c f vLo hi vM vS vL v s) : 8 < w0.heap.size := World.block_lt_of_cell? w0 _ h.ec
theorem Cg.take (h : Cg w0 w p g b vP vC vF vB c f vLo hi vM vS vL v s) {ts : List Int} {aT : Option Addr} {cT : Nat} (hT : Sl w (.slice aT ts.length cT) ts) (hn : ts.length ≤ 1000) : Calls Tryd.prog 46 #[.pointer (some ⟨b, 0, none⟩), .slice aT ts.length cT] w (GkP p w b w0.heap.size (takeM ts s)) :=
  (take_any h.er h.sk hT hn).mono fun _ _ q => GkP.of q h.sk.hb h.sk.low
theorem Cg.push (h : Cg w0 w p g b vP vC vF vB c f vLo hi vM vS vL v s) (t : Int) : Calls Tryd.prog 54 #[.pointer (some ⟨b, 0, none⟩), .int .i64 t] w (GkP p w b w0.heap.size (some (s ++ [t]))) :=
  (push_stk h.sk t h.n).mono fun _ _ ⟨h1, ⟨_, h2⟩, h3⟩ => by
    subst h1
    exact GkP.yes rfl h2 h3
end
theorem Cg.take1 {w0 w : World} {p : List Addr} {g b : Nat} {vP vC vF vB vLo vM vS vL v : Value} {c : Cd} {f : Fn3} {hi : Int} {s : List Int} (h : Cg w0 w p g b vP vC vF vB c f vLo hi vM vS vL v s) (t : Int) (hf : Fits [t]) : Calls Tryd.prog 46 #[.pointer (some ⟨b, 0, none⟩), .slice (some ⟨w.heap.size, 0, none⟩) 1 1] (w.alloc (.cells #[.int .i64 t] 3)) (GkP p w b w0.heap.size (takeM [t] s)) :=
  (Cg.take (h.low (bel_new w _)) (sl_one1 (Go.Deep.blk_alloc_new w _) hf) (by simp)).mono fun _ _ q => q.from ((bel_new w _).mono h.sk.low)
theorem Cg.tk1 {w0 w : World} {p : List Addr} {g b : Nat} {vP vC vF vB vLo vM vS vL v : Value} {c : Cd} {f : Fn3} {hi : Int} {s : List Int} (h : Cg w0 w p g b vP vC vF vB c f vLo hi vM vS vL v s) (t : Int) (hf : Fits [t]) : Calls Tryd.prog 46 #[.pointer (some ⟨b, 0, none⟩), .slice (some ⟨w.heap.size, 0, none⟩) 1 1] (w.alloc (.cells #[.int .i64 t] 3)) (TkP p (w.alloc (.cells #[.int .i64 t] 3)) b w0.heap.size (takeM [t] s)) :=
  take_any (h.low (bel_new w _)).er (h.low (bel_new w _)).sk (sl_one1 (Go.Deep.blk_alloc_new w _) hf) (by simp)
theorem Cg.tk2 {w0 w : World} {p : List Addr} {g b : Nat} {vP vC vF vB vLo vM vS vL v : Value} {c : Cd} {f : Fn3} {hi : Int} {s : List Int} (h : Cg w0 w p g b vP vC vF vB c f vLo hi vM vS vL v s) (t u : Int) (hf : Fits [t, u]) : Calls Tryd.prog 46 #[.pointer (some ⟨b, 0, none⟩), .slice (some ⟨w.heap.size, 0, none⟩) 2 2] (w.alloc (.cells #[.int .i64 t, .int .i64 u] 3)) (TkP p (w.alloc (.cells #[.int .i64 t, .int .i64 u] 3)) b w0.heap.size (takeM [t, u] s)) :=
  take_any (h.low (bel_new w _)).er (h.low (bel_new w _)).sk (sl_two1 (Go.Deep.blk_alloc_new w _) hf) (by simp)
theorem Tn.cell {b : Nat} {w w' : World} (t : Tn b w w') {k i : Nat} {v : Value} (h : w.cell? ⟨k, i, none⟩ = some v) (hk : k ≠ b) : w'.cell? ⟨k, i, none⟩ = some v := by
  have hl := World.block_lt_of_cell? w _ h
  unfold World.cell? at h ⊢
  rw [t.blk k hl hk]
  exact h
theorem cell_new {w : World} {k i : Nat} {v : Value} (h : w.cell? ⟨k, i, none⟩ = some v) (o : Obj) : (w.alloc o).cell? ⟨k, i, none⟩ = some v := ((bel_new w o).cell (p := ⟨k, i, none⟩) (World.block_lt_of_cell? w _ h)).trans h
theorem TkP.both {p : List Addr} {w w' : World} {b B : Nat} {o : Option (List Int)} {e : Ending} (h : TkP p w b B o e w') : (∃ s' v', o = some s' ∧ e = .returned (.tuple #[]) ∧ Sk w' b B v' s' ∧ Tn b w w') ∨ (o = none ∧ e = codeStop p ∧ Tn b w w') := by
  obtain ⟨h1, h2⟩ := h
  cases o with
  | some s' => exact .inl ⟨s', _, rfl, h2.1, h2.2.choose_spec, h1⟩
  | none => exact .inr ⟨rfl, h2, h1⟩
theorem Cg.take2 {w0 w : World} {p : List Addr} {g b : Nat} {vP vC vF vB vLo vM vS vL v : Value} {c : Cd} {f : Fn3} {hi : Int} {s : List Int} (h : Cg w0 w p g b vP vC vF vB c f vLo hi vM vS vL v s) (t u : Int) (hf : Fits [t, u]) : Calls Tryd.prog 46 #[.pointer (some ⟨b, 0, none⟩), .slice (some ⟨w.heap.size, 0, none⟩) 2 2] (w.alloc (.cells #[.int .i64 t, .int .i64 u] 3)) (GkP p w b w0.heap.size (takeM [t, u] s)) :=
  (Cg.take (h.low (bel_new w _)) (sl_two1 (Go.Deep.blk_alloc_new w _) hf) (by simp)).mono fun _ _ q => q.from ((bel_new w _).mono h.sk.low)
/-- a code in form, as far as change asks -/
structure Fm (c : Cd) : Prop where
  f : ∀ x ∈ c.F, 0 ≤ x.pa ∧ x.pa ≤ x.lo.length ∧ x.lo.length ≤ 32
theorem fm_of {c : Cd} (h : formB c = true) : Fm c := by
  unfold formB at h
  simp only [Bool.and_eq_true, List.all_eq_true] at h
  refine ⟨fun x hx => ?_⟩
  have h1 := h.2.1.1.2 x hx
  unfold fnB at h1
  simp only [Bool.and_eq_true, decide_eq_true_eq] at h1
  exact ⟨h1.2.1, h1.2.2.2.1, h1.2.2.2.2.1⟩
theorem in_of {n : Int} {k : Nat} (h : inN n k = true) : ∃ m : Nat, n = m ∧ m < k := by
  unfold inN at h
  simp only [Bool.and_eq_true, decide_eq_true_eq] at h
  exact ⟨n.toNat, by omega, by omega⟩
theorem inI_of {n k : Int} (h : inI n k = true) : ∃ m : Nat, n = m ∧ (m : Int) < k := by
  unfold inI at h
  simp only [Bool.and_eq_true, decide_eq_true_eq] at h
  exact ⟨n.toNat, by omega, by omega⟩
theorem insB_at {c : Cd} {op a b bits at_ : Int} (h : insB c ⟨op, a, b, bits, at_⟩ = true) : (op = 4 ∨ op = 5 → inI a 32 = true) ∧ (op = 6 ∨ op = 7 → inN a c.P.length = true) ∧ (op = 8 ∨ op = 9 → inN a c.P.length = true) ∧ (op = 10 → 1 ≤ a ∧ a ≤ 4) ∧ (op = 11 → 1 ≤ a ∧ a ≤ 11) ∧ (op = 12 → inN a c.B.length = true) ∧ (op = 13 ∨ op = 14 → inN a c.B.length = true) ∧ (op = 17 ∨ op = 18 → inN a c.C.length = true) ∧ (op = 22 ∨ op = 23 → inN a c.F.length = true) ∧ 1 ≤ op ∧ op ≤ 26 := by
  unfold insB at h
  simp only [Bool.and_eq_true, decide_eq_true_eq] at h
  obtain ⟨_, _, h⟩ := h
  have hr : 1 ≤ op ∧ op ≤ 26 := by
    by_cases h1 : 1 ≤ op ∧ op ≤ 26
    · exact h1
    · exfalso
      rw [if_neg (by omega), if_neg (by omega), if_neg (by omega), if_neg (by omega), if_neg (by omega), if_neg (by omega), if_neg (by omega), if_neg (by omega), if_neg (by omega), if_neg (by omega), if_neg (by omega), if_neg (by omega), if_neg (by omega), if_neg (by omega), if_neg (by omega)] at h
      cases h
  refine ⟨fun e => ?_, fun e => ?_, fun e => ?_, fun e => ?_, fun e => ?_, fun e => ?_, fun e => ?_, fun e => ?_, fun e => ?_, hr⟩
  · rcases e with rfl | rfl <;> simp at h <;> exact h.1
  · rcases e with rfl | rfl <;> simp at h <;> exact h.1
  · rcases e with rfl | rfl <;> simp at h <;> exact h.1.1.1.2
  · subst e; simp at h; exact h.1
  · subst e; simp at h; exact h.1
  · subst e; simp at h; exact h.1
  · rcases e with rfl | rfl <;> simp at h <;> exact h.1.1
  · rcases e with rfl | rfl <;> simp at h <;> exact h.1
  · rcases e with rfl | rfl <;> simp at h <;> exact h.1
end Go.Proofs.YtlheflkdapckbaaDoor.Ck
