/- How a digest's state lies in memory, by the bytes that it took; what a portion of bytes turns; no Go text is walked here. -/
import Derived.Test.YtejhhkhaoekkiaaDoorElW
namespace Go.Proofs.YtejhhkhaoekkiaaDoor.Ck
open Go.RowKit

theorem wpList_copyB {w : World} {ops : Array Oper} {rest : List Oper} {o : Oper} {a : Act} {Q : Exit → Act → World → Prop} (d s : Operand) (g off dLen dCap : Nat) (sp : Option Addr) (sLen sCap : Nat) (cur : List Value) (t : TypeId) (hb : Blk w g t cur) (cs : List Value)
    (hn : cs.length = Nat.min sLen dLen) (hsrc : 0 < cs.length → ∃ ad, sp = some ad ∧ ∀ j v, cs[j]? = some v → w.cell? (ad.add j) = some v) (hfit : off + cs.length ≤ cur.length) (h1 : ∀ v ∈ cs, v.oneCell' = true)
    (hgd : o.guard = none) (ho : o.op = .call { callee := .builtin .copy, args := #[d, s], argTypes := #[29, 29] }) (hd : a.eval d = .slice (some ⟨g, off, none⟩) dLen dCap) (hs : a.eval s = .slice sp sLen sCap)
    (h : ∀ w', Blk w' g t (splice cur off cs) → Tn g w w' → Hid (w'.heap.size = w.heap.size) → wpList Tryd.prog ops Q rest (a.put o.dst (goInt cs.length)) w') : wpList Tryd.prog ops Q (o :: rest) a w := by
  by_cases h0 : cs.length = 0
  · obtain rfl : cs = [] := List.eq_nil_of_length_eq_zero h0
    refine wpList_copy_nothing hgd d s 29 29 ho 5 Tryd.underlying29 szB _ sp dLen dCap sLen sCap hd hs (by simpa using hn.symm) ?_
    exact h w (by simpa [splice] using hb) (Tn.refl _ _) rfl
  · obtain ⟨ad, rfl, hc⟩ := hsrc (by omega)
    refine wpList_copy_own hgd d s 29 29 ho 5 Tryd.underlying29 szB g off dLen dCap ad sLen sCap hd hs cur.toArray t hb cs hn hc (by simpa using hfit) h1 ?_
    have hr := hb.setRow (splice cur off cs)
    exact h _ (by simpa [splice] using hr.1) (by simpa [splice] using hr.2) (by show _ = _; simp [World.setRow])

/-- the bytes Bf of a state that took m: those that aren't a whole block yet stand first -/
def Tail (m Bf : List Int) : Prop := Bf.length = 64 ∧ Fit8 Bf ∧ ∀ i, i < m.length % 64 → Bf.getD i 0 = m.getD (64 * (m.length / 64) + i) 0
def stc (H Bf : List Int) (n : Nat) : List Value := wv H ++ (bv Bf ++ [.int .u64 n])
/-- the state in block g took the bytes m -/
def St (w : World) (g : Nat) (m : List Int) : Prop := ∃ Bf, Tail m Bf ∧ Blk w g 57 (stc (hashB m (m.length / 64)) Bf m.length)

theorem St.lt {w : World} {g : Nat} {m : List Int} (h : St w g m) : g < w.heap.size := by obtain ⟨_, _, h⟩ := h; exact h.lt
theorem St.bel {w w' : World} {g : Nat} {m : List Int} (h : St w g m) (hb : Below w.heap.size w w') : St w' g m := by obtain ⟨B, h1, h2⟩ := h; exact ⟨B, h1, h2.bel hb⟩
theorem St.tn {w w' : World} {g x : Nat} {m : List Int} (h : St w g m) (ht : Tn x w w') (hx : g ≠ x) : St w' g m := by obtain ⟨B, h1, h2⟩ := h; exact ⟨B, h1, h2.tn ht hx⟩
theorem stc_len (H Bf : List Int) (n : Nat) (hH : H.length = 8) (hB : Bf.length = 64) : (stc H Bf n).length = 73 := by simp [stc, wv_len, bv_len, hH, hB]
theorem stc_taken (H Bf : List Int) (n : Nat) (hH : H.length = 8) (hB : Bf.length = 64) : (stc H Bf n)[72]? = some (.int .u64 n) := by
  unfold stc
  rw [List.getElem?_append_right (by rw [wv_len, hH]; decide), wv_len, hH, List.getElem?_append_right (by rw [bv_len, hB]; decide), bv_len, hB]
  rfl
theorem stc_set (H Bf : List Int) (n n' : Nat) (hH : H.length = 8) (hB : Bf.length = 64) : (stc H Bf n).set 72 (.int .u64 n') = stc H Bf n' := by
  unfold stc
  rw [List.set_append_right _ _ (by rw [wv_len, hH]; decide), wv_len, hH, List.set_append_right _ _ (by rw [bv_len, hB]; decide), bv_len, hB]
  rfl
theorem stc_one (H Bf : List Int) (n : Nat) : ∀ v ∈ stc H Bf n, v.oneCell' = true := fun v hv => by
  unfold stc at hv
  rcases List.mem_append.1 hv with h | h
  · exact wv_one _ _ h
  · rcases List.mem_append.1 h with h | h
    · exact bv_one _ _ h
    · simp at h; subst h; rfl
theorem splice_in {α : Type} (A B C cs : List α) (r : Nat) (hr : r + cs.length ≤ B.length) : splice (A ++ (B ++ C)) (A.length + r) cs = A ++ (splice B r cs ++ C) := by
  unfold splice
  rw [List.take_append, List.drop_append]
  have e1 : (A ++ (B ++ C)).take (A.length + r) = A ++ B.take r := by
    rw [List.take_append, List.take_of_length_le (by omega), Nat.add_sub_cancel_left, List.take_append_of_le_length (by omega)]
  have e2 : (A ++ (B ++ C)).drop (A.length + r + cs.length) = B.drop (r + cs.length) ++ C := by
    rw [List.drop_append, List.drop_of_length_le (by omega), List.nil_append, show A.length + r + cs.length - A.length = r + cs.length by omega, List.drop_append_of_le_length (by omega)]
  rw [← List.take_append, ← List.drop_append, e1, e2]
  simp
theorem splice_map {α β : Type} (f : α → β) (B cs : List α) (r : Nat) : splice (B.map f) r (cs.map f) = (splice B r cs).map f := by simp [splice]
theorem splice_lo {α : Type} (B cs : List α) (r i : Nat) (h : i < r) (hr : r ≤ B.length) : (splice B r cs)[i]? = B[i]? := by
  unfold splice
  rw [List.getElem?_append_left (by simp; omega), List.getElem?_take_of_lt h]
theorem splice_mid {α : Type} (B cs : List α) (r i : Nat) (h : r ≤ i) (h2 : i < r + cs.length) (hr : r ≤ B.length) : (splice B r cs)[i]? = cs[i - r]? := by
  unfold splice
  have hl : (B.take r).length = r := by simp; omega
  rw [List.getElem?_append_right (by omega), hl, List.getElem?_append_left (by omega)]

theorem blkOf_app (m x : List Int) (k : Nat) (h : 64 * (k + 1) ≤ m.length) : blkOf (m ++ x) k = blkOf m k := by
  unfold blkOf
  rw [List.drop_append_of_le_length (by omega), List.take_append_of_le_length (by simp; omega)]
theorem hashB_app (m x : List Int) : ∀ k, 64 * k ≤ m.length → hashB (m ++ x) k = hashB m k
  | 0, _ => rfl
  | k + 1, h => by
    show mixL (hashB (m ++ x) k) (blkOf (m ++ x) k) = mixL (hashB m k) (blkOf m k)
    rw [hashB_app m x k (by omega), blkOf_app m x k h]

theorem fit8_app {a b : List Int} (ha : Fit8 a) (hb : Fit8 b) : Fit8 (a ++ b) := fun z hz => by
  rcases List.mem_append.1 hz with h | h
  · exact ha z h
  · exact hb z h
theorem fit8_take {a : List Int} (ha : Fit8 a) (n : Nat) : Fit8 (a.take n) := fun z hz => ha z (List.mem_of_mem_take hz)
theorem fit8_drop {a : List Int} (ha : Fit8 a) (n : Nat) : Fit8 (a.drop n) := fun z hz => ha z (List.mem_of_mem_drop hz)
theorem fit8_splice {B cs : List Int} (hB : Fit8 B) (hc : Fit8 cs) (r : Nat) : Fit8 (splice B r cs) := fit8_app (fit8_take hB r) (fit8_app hc (fit8_drop hB _))

/-- the bytes cs go into the block: no whole one yet -/
theorem tail_part {m Bf cs : List Int} (h : Tail m Bf) (hc : Fit8 cs) (hl : m.length % 64 + cs.length ≤ 64) :
    (splice Bf (m.length % 64) cs).length = 64 ∧ Fit8 (splice Bf (m.length % 64) cs) ∧ ∀ i, i < m.length % 64 + cs.length → (splice Bf (m.length % 64) cs).getD i 0 = (m ++ cs).getD (64 * (m.length / 64) + i) 0 := by
  obtain ⟨h1, h2, h3⟩ := h
  refine ⟨by rw [length_splice _ _ _ (by omega)]; exact h1, fit8_splice h2 hc _, fun i hi => ?_⟩
  by_cases hr : i < m.length % 64
  · have e := h3 i hr
    simp only [List.getD] at e ⊢
    rw [splice_lo _ _ _ _ hr (by omega), e, List.getElem?_append_left (by omega)]
  · simp only [List.getD]
    rw [splice_mid _ _ _ _ (by omega) hi (by omega), List.getElem?_append_right (by omega)]
    congr 2
    omega
theorem tail_go {m Bf cs : List Int} (h : Tail m Bf) (hc : Fit8 cs) (hl : m.length % 64 + cs.length < 64) : Tail (m ++ cs) (splice Bf (m.length % 64) cs) ∧ hashB (m ++ cs) ((m ++ cs).length / 64) = hashB m (m.length / 64) := by
  obtain ⟨h1, h2, h3⟩ := tail_part h hc (by omega)
  have e : (m ++ cs).length / 64 = m.length / 64 := by rw [List.length_append]; omega
  refine ⟨⟨h1, h2, fun i hi => ?_⟩, ?_⟩
  · rw [e]
    exact h3 i (by rw [List.length_append] at hi; omega)
  · rw [e, hashB_app m cs _ (by omega)]
theorem tail_full {m Bf cs : List Int} (h : Tail m Bf) (hc : Fit8 cs) (hl : m.length % 64 + cs.length = 64) : Tail (m ++ cs) (splice Bf (m.length % 64) cs) ∧ hashB (m ++ cs) ((m ++ cs).length / 64) = mixL (hashB m (m.length / 64)) (splice Bf (m.length % 64) cs) := by
  obtain ⟨h1, h2, h3⟩ := tail_part h hc (by omega)
  have e : (m ++ cs).length / 64 = m.length / 64 + 1 := by rw [List.length_append]; omega
  refine ⟨⟨h1, h2, fun i hi => absurd hi (by rw [List.length_append]; omega)⟩, ?_⟩
  rw [e]
  show mixL (hashB (m ++ cs) (m.length / 64)) (blkOf (m ++ cs) (m.length / 64)) = _
  rw [hashB_app m cs _ (by omega)]
  congr 1
  apply List.ext_getElem
  · rw [h1]; simp [blkOf]; omega
  · intro i h4 h5
    have := h3 i (by omega)
    simp only [List.getD, List.getElem?_eq_getElem h5, Option.getD_some] at this
    rw [this]
    have h6 : 64 * (m.length / 64) + i < (m ++ cs).length := by rw [List.length_append]; omega
    rw [List.getElem?_eq_getElem h6]
    simp [blkOf]

end Go.Proofs.YtejhhkhaoekkiaaDoor.Ck
