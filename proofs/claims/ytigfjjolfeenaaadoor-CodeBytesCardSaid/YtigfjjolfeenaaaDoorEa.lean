/- Package code: a reader in memory; a number is read. (Written by mk_r.py.) -/
import Derived.Test.YtigfjjolfeenaaaDoorCm
import Derived.Laws.BitsAllLaws
namespace Go.Proofs.YtigfjjolfeenaaaDoor.Ck
open Go.RowKit

/-- a slice of bytes, in a block below B, other than g -/
def SY (w : World) (g B : Nat) (v : Value) (l : List Int) : Prop := ∃ a cap, v = .slice a l.length cap ∧ l.length ≤ cap ∧ cap ≤ maxLen ∧ ∀ i, i < l.length → ∃ b off, a = some ⟨b, off, none⟩ ∧ b < B ∧ b ≠ g ∧ w.cell? ⟨b, off + i, none⟩ = some (.int .u8 (l.getD i 0))
theorem SY.keep {w w' : World} {g B : Nat} {v : Value} {l : List Int} (h : SY w g B v l) (t : ∀ b, b < B → b ≠ g → w'.heap[b]? = w.heap[b]?) : SY w' g B v l := by
  obtain ⟨a, cap, e, h1, h2, h3⟩ := h
  refine ⟨a, cap, e, h1, h2, fun i hi => ?_⟩
  obtain ⟨b, off, ea, hb, hn, hc⟩ := h3 i hi
  exact ⟨b, off, ea, hb, hn, (World.cell?_of_block (a := ⟨b, off + i, none⟩) (t b hb hn)).trans hc⟩
/-- a reader, in block g: the bytes that are left -/
structure Rd (w : World) (g B : Nat) (p : List Addr) (l : List Int) : Prop where
  v : ∃ v, w.heap[g]? = some (.cells #[v] 65 (0, 0)) ∧ SY w g B v l
  e : Ec w p
  gB : g < B
  BW : B ≤ w.heap.size
  ge : 8 < B ∧ 8 ≠ g
  b : Byt l
  len : l.length ≤ 1000000
/-- what is written from B on leaves the reader -/
theorem Rd.keep {w w' : World} {g B : Nat} {p : List Addr} {l : List Int} (h : Rd w g B p l) (hs : B ≤ w'.heap.size) (t : ∀ b, b < B → w'.heap[b]? = w.heap[b]?) : Rd w' g B p l := by
  obtain ⟨v, h1, h2⟩ := h.v
  exact ⟨⟨v, (t g h.gB).trans h1, h2.keep (fun b hb _ => t b hb)⟩, (World.cell?_of_block (a := ⟨8, 0, none⟩) (t _ h.ge.1)).trans h.e, h.gB, hs, h.ge, h.b, h.len⟩
theorem Rd.bel {w w' : World} {g B : Nat} {p : List Addr} {l : List Int} (h : Rd w g B p l) (hb : Below w.heap.size w w') : Rd w' g B p l := h.keep (Nat.le_trans h.BW hb.size) (fun b hk => hb.block b (Nat.lt_of_lt_of_le hk h.BW))
theorem Rd.tn {w w' : World} {g B c : Nat} {p : List Addr} {l : List Int} (h : Rd w g B p l) (t : Tn c w w') (hc : B ≤ c) : Rd w' g B p l := h.keep (Nat.le_trans h.BW t.size) (fun b hk => t.blk b (Nat.lt_of_lt_of_le hk h.BW) (by omega))
theorem Tn.next {g c : Nat} {w w1 w2 : World} (h : Tn g w w1) (t : Tn c w1 w2) (hc : w.heap.size ≤ c) : Tn g w w2 :=
  ⟨t.os.trans h.os, t.tape.trans h.tape, t.output.trans h.output, Nat.le_trans h.size t.size, fun k hk hn => (t.blk k (Nat.lt_of_lt_of_le hk h.size) (by omega)).trans (h.blk k hk hn)⟩
/-- what a reading call answers: what P reads, or it gives up -/
def RdP {α : Type} (P : Pz α) (A : World → Value → α → Prop) (w : World) (g B : Nat) (p : List Addr) (l : List Int) (e : Ending) (w' : World) : Prop :=
  Tn g w w' ∧ match P l with
  | some (x, r) => ∃ v, e = .returned v ∧ A w' v x ∧ Rd w' g B p r
  | none => e = codeStop p
def numK (b : List Int) : Nat → Int
  | 0 => 0
  | k + 1 => (256 * numK b k + b.getD k 0) % 18446744073709551616
theorem numK_fit (b : List Int) (k : Nat) : 0 ≤ numK b k ∧ numK b k < 18446744073709551616 := by
  cases k with
  | zero => simp [numK]
  | succ k => simp only [numK]; omega
theorem or_low (a x : Int) (hx : 0 ≤ x ∧ x < 256) : bits .or .u64 (256 * a % 18446744073709551616) x = (256 * a + x) % 18446744073709551616 := by
  rw [u64_or _ _ (by omega) (by omega) (by omega) (by omega)]
  obtain ⟨q, hq⟩ : ∃ q : Nat, 256 * a % 18446744073709551616 = ((2 ^ 8 * q : Nat) : Int) := ⟨(a % 72057594037927936).toNat, by omega⟩
  rw [hq, Int.toNat_natCast, ← Nat.two_pow_add_eq_or_of_lt (show x.toNat < 2 ^ 8 by omega)]
  omega
theorem numK_num (l : List Int) (hb : Byt l) : ∀ (k : Nat), k ≤ 8 → k ≤ l.length → numK l k = numL (l.take k)
  | 0, _, _ => rfl
  | k + 1, h8, hl => by
    have ih := numK_num l hb k (by omega) (by omega)
    have hr := num_rng k (l.take k) (by rw [List.length_take]; omega) (fun b hq => hb b (List.mem_of_mem_take hq))
    have hp : (256 : Int) ^ k ≤ 72057594037927936 := by
      have h7 : k = 0 ∨ k = 1 ∨ k = 2 ∨ k = 3 ∨ k = 4 ∨ k = 5 ∨ k = 6 ∨ k = 7 := by omega
      rcases h7 with h | h | h | h | h | h | h | h <;> rw [h] <;> decide
    have hx := hb (l.getD k 0) (by rw [List.getD_eq_getElem?_getD, List.getElem?_eq_getElem (by omega)]; exact List.getElem_mem _)
    have e : l.take (k + 1) = l.take k ++ [l.getD k 0] := by
      rw [List.take_add_one, List.getD_eq_getElem?_getD, List.getElem?_eq_getElem (by omega)]
      rfl
    rw [e, numL_snoc]
    show (256 * numK l k + l.getD k 0) % 18446744073709551616 = _
    rw [ih]
    generalize (256 : Int) ^ k = pw at *
    omega
theorem SY.drop {w : World} {g B b o m cap : Nat} {l : List Int} (h : SY w g B (.slice (some ⟨b, o, none⟩) m cap) l) (k : Nat) (hk : k ≤ l.length) : SY w g B (.slice (some ⟨b, o + k, none⟩) (m - k) (cap - k)) (l.drop k) := by
  obtain ⟨a, c, e, h1, h2, h3⟩ := h
  cases e
  refine ⟨_, _, by rw [List.length_drop], by rw [List.length_drop]; omega, by unfold maxLen at *; omega, fun i hi => ?_⟩
  rw [List.length_drop] at hi
  obtain ⟨b', o', ea, hb, hn, hc⟩ := h3 (k + i) (by omega)
  cases ea
  refine ⟨b, o + k, rfl, hb, hn, ?_⟩
  rw [Nat.add_assoc, hc]
  simp [List.getD_eq_getElem?_getD, List.getElem?_drop]
theorem SY.none {w : World} {g B : Nat} {a : Option Addr} {l : List Int} (k : Nat) (hk : l.length ≤ k) : SY w g B (.slice a 0 0) (l.drop k) := by
  rw [List.drop_of_length_le hk]
  exact ⟨a, 0, rfl, Nat.le_refl _, Nat.zero_le _, fun i hi => absurd hi (Nat.not_lt_zero _)⟩
theorem Rd.step {w : World} {g B : Nat} {p : List Addr} {l : List Int} (h : Rd w g B p l) (k : Nat) {v' : Value} (hs : SY w g B v' (l.drop k)) : Rd (w.setCell ⟨g, 0, none⟩ v') g B p (l.drop k) ∧ Tn g w (w.setCell ⟨g, 0, none⟩ v') := by
  obtain ⟨v, h1, _⟩ := h.v
  obtain ⟨k1, t1⟩ := set1 h1 0 v'
  have hb : ∀ b, b < B → b ≠ g → (w.setCell ⟨g, 0, none⟩ v').heap[b]? = w.heap[b]? := fun b hb hn => t1.blk b (Nat.lt_of_lt_of_le hb h.BW) hn
  exact ⟨⟨⟨v', k1, hs.keep hb⟩, (World.cell?_of_block (a := ⟨8, 0, none⟩) (hb _ h.ge.1 h.ge.2)).trans h.e, h.gB, Nat.le_trans h.BW t1.size, h.ge, fun b hb => h.b b (List.mem_of_mem_drop hb), by rw [List.length_drop]; have := h.len; omega⟩, t1⟩
theorem RdP.ok {α : Type} {P : Pz α} {A : World → Value → α → Prop} {w w' : World} {g B : Nat} {p : List Addr} {l r : List Int} {x : α} {v : Value} (t : Tn g w w') (h : P l = some (x, r)) (ha : A w' v x) (hr : Rd w' g B p r) : RdP P A w g B p l (.returned v) w' := by
  refine ⟨t, ?_⟩
  rw [h]
  exact ⟨v, rfl, ha, hr⟩
theorem RdP.stop {α : Type} {P : Pz α} {A : World → Value → α → Prop} {w w' : World} {g B : Nat} {p : List Addr} {l : List Int} (t : Tn g w w') (h : P l = none) : RdP P A w g B p l (codeStop p) w' := by
  refine ⟨t, ?_⟩
  rw [h]
theorem RdP.both {α : Type} {P : Pz α} {A : World → Value → α → Prop} {w w' : World} {g B : Nat} {p : List Addr} {l : List Int} {e : Ending} (h : RdP P A w g B p l e w') : (∃ x r v, P l = some (x, r) ∧ e = .returned v ∧ A w' v x ∧ Rd w' g B p r ∧ Tn g w w') ∨ (P l = none ∧ e = codeStop p ∧ Tn g w w') := by
  obtain ⟨t, h⟩ := h
  cases hq : P l with
  | none => rw [hq] at h; exact .inr ⟨rfl, h, t⟩
  | some y =>
    obtain ⟨x, r⟩ := y
    rw [hq] at h
    obtain ⟨v, h1, h2, h3⟩ := h
    exact .inl ⟨x, r, v, rfl, h1, h2, h3, t⟩
theorem rNum_rng {n : Nat} {l r : List Int} {x : Int} (h : rNum n l = some (x, r)) (hb : Byt l) : 0 ≤ x ∧ x < 256 ^ n := by
  unfold rNum at h
  split at h
  · rename_i hl
    cases h
    exact num_rng n _ (by rw [List.length_take]; omega) (fun b hq => hb b (List.mem_of_mem_take hq))
  · cases h
theorem rBind_some {α β : Type} {p : Pz α} {f : α → Pz β} {l r : List Int} {x : α} (h : p l = some (x, r)) : rBind p f l = f x r := by unfold rBind; rw [h]
theorem rBind_none {α β : Type} {p : Pz α} {f : α → Pz β} {l : List Int} (h : p l = none) : rBind p f l = none := by unfold rBind; rw [h]
set_option maxRecDepth 20000 in
set_option maxHeartbeats 4000000 in
theorem read_no {w : World} {g B : Nat} {p : List Addr} {l : List Int} (h : Rd w g B p l) (n : Nat) (hl : l.length < n) : Calls Tryd.prog 59 #[.pointer (some ⟨g, 0, none⟩), .int .i64 n] w fun e w' => e = codeStop p ∧ Tn g w w' := by
  obtain ⟨v, h1, a, cap, rfl, _⟩ := h.v
  have c0 := blk_cell h1 0 _ rfl
  obtain ⟨m, hm⟩ : ∃ m, m = l.length := ⟨_, rfl⟩
  rw [← hm] at c0 hl
  have hd : decide (n ≤ m) = false := decide_eq_false (by omega)
  have E := hide h.e
  clear h h1 hl hm
  go_enter Tryd.func59, Tryd.ntmps59
  go_wp2_with fail
  refine (must_no E.out).mono ?_
  rintro e w2 ⟨rfl, rfl⟩
  exact ⟨rfl, rfl, Tn.refl _ _⟩
set_option maxRecDepth 20000 in
set_option maxHeartbeats 4000000 in
theorem read_yes {w : World} {g B : Nat} {p : List Addr} {l : List Int} (h : Rd w g B p l) (n : Nat) (hn0 : 1 ≤ n) (hn : n ≤ 8) (hl : n ≤ l.length) : Calls Tryd.prog 59 #[.pointer (some ⟨g, 0, none⟩), .int .i64 n] w fun e w' => e = .returned (.int .u64 (numL (l.take n))) ∧ Rd w' g B p (l.drop n) ∧ Tn g w w' := by
  obtain ⟨v, h1, hs⟩ := h.v
  have HS := hide hs
  obtain ⟨a, cap, rfl, hcap, hmax, hcs⟩ := hs
  have HK := hide (numK_num l h.b n hn hl)
  have HR := hide h
  have c0 := blk_cell h1 0 _ rfl
  have f0 := blk_frz h1 0
  have H1 := hide h1
  have hd : decide ((n : Int) ≤ (l.length : Int)) = true := decide_eq_true (by omega)
  obtain ⟨m, hm⟩ : ∃ m, m = l.length := ⟨_, rfl⟩
  have HM := hide hm
  rw [← hm] at c0 hd hcap hl
  have hmb : m ≤ 1000000 := by rw [hm]; exact h.len
  obtain ⟨b0, o0, rfl, hb0, hn0', _⟩ := hcs 0 (by omega)
  have HC := hide (fun i (hi : i < n) => (by
    obtain ⟨b, off, e, h2, _, h3⟩ := hcs i (by omega)
    cases e
    exact h3 : w.cell? ⟨b0, o0 + i, none⟩ = some (.int .u8 (l.getD i 0))))
  have HBy := hide (fun i (hi : i < n) => h.b (l.getD i 0) (by rw [List.getD_eq_getElem?_getD, List.getElem?_eq_getElem (by omega)]; exact List.getElem_mem _))
  have hcn : (n : Int) ≤ (cap : Int) := by omega
  have hnm : (n : Int) ≤ (m : Int) := by omega
  unfold maxLen at hmax
  clear h h1 hcs hm
  go_enter Tryd.func59, Tryd.ntmps59
  go_wp2_with fail
  refine (must_yes _).mono ?_
  rintro e w2 ⟨rfl, rfl⟩
  go_wp2_with fail
  go_loopw [5, 7, 23] (fun u x i wr => ∃ k : Nat, k ≤ n ∧ i = .int .i64 k ∧ u = .int .u64 (numK l k) ∧ Hid (w = wr)) (fun u x i _ => n - (intOf i).toNat)
  case atStart => exact ⟨0, Nat.zero_le _, rfl, rfl, rfl⟩
  case round =>
    obtain ⟨k, hk, rfl, rfl, hw⟩ := hrel
    obtain rfl := hw.out
    clear hw
    by_cases hlt : k < n
    · have h1 : (k : Int) < (n : Int) := by omega
      have hc := HC.out k hlt
      have hx := HBy.out k hlt
      have hN := numK_fit l k
      have EN : Hid (numK l (k + 1) = (256 * numK l k + l.getD k 0) % 18446744073709551616) := rfl
      have EO := hide (or_low (numK l k) (l.getD k 0) hx)
      generalize numK l k = u at *
      generalize l.getD k 0 = x at *
      clear hmax hmb
      go_wp2_with fail
      go_roundw
      case rel => exact ⟨k + 1, by omega, by go_num, by rw [EN.out, ← EO.out, show IntKind.u64.wrap (u * 256) = 256 * u % 18446744073709551616 by rw [IntKind.wrap_u64, Int.mul_comm]], trivial⟩
      case measure => simp [intOf]; omega
    · obtain rfl : k = n := by omega
      clear HC HBy
      rw [HK.out]
      clear H1
      have HL9 : Hid (k ≤ l.length) := hide (by have := HM.out; omega)
      by_cases hz : cap = k
      · subst hz
        obtain rfl : m = cap := by omega
        have RS := hide (HR.out.step m (SY.none (g := g) (B := B) (a := some ⟨b0, o0, none⟩) m (by rw [← HM.out]; exact Nat.le_refl _)))
        clear HS HR
        go_wp2_with fail
        go_ret
        exact ⟨rfl, RS.out⟩
      · have hz' : (cap = k) = False := by simp [hz]
        have HS2 : SY w g B (.slice (some ⟨b0, o0, none⟩) m cap) l := by rw [HM.out]; exact HS.out
        have RS := hide (HR.out.step k (HS2.drop k HL9.out))
        clear HS2
        clear hz HS HR
        go_wp2_with fail
        go_ret
        exact ⟨rfl, RS.out⟩
theorem read_any {w : World} {g B : Nat} {p : List Addr} {l : List Int} (h : Rd w g B p l) (n : Nat) (hn0 : 1 ≤ n) (hn : n ≤ 8) : Calls Tryd.prog 59 #[.pointer (some ⟨g, 0, none⟩), .int .i64 n] w (RdP (rNum n) (fun _ v x => v = .int .u64 x) w g B p l) := by
  by_cases hl : n ≤ l.length
  · refine (read_yes h n hn0 hn hl).mono ?_
    rintro e w' ⟨rfl, h1, h2⟩
    refine ⟨h2, ?_⟩
    unfold rNum
    rw [if_pos hl]
    exact ⟨_, rfl, rfl, h1⟩
  · refine (read_no h n (by omega)).mono ?_
    rintro e w' ⟨rfl, h2⟩
    refine ⟨h2, ?_⟩
    unfold rNum
    rw [if_neg hl]
end Go.Proofs.YtigfjjolfeenaaaDoor.Ck
