/- Texts of this proof, packed: contracts of the program's functions, and the plain model that they are held against. -/
import Derived.Test.YtogeblmppagabaaGreatDoorQah
/- The contract of Tokens. -/
namespace Go.Proofs.YtogeblmppagabaaGreatDoor.Ck
open Go.RowKit

theorem OwnT.base {w : World} {A B : Nat} {v : Value} {ts : List Tk} (h : OwnT w B v ts) (hA : A ≤ B) : OwnT w A v ts := by
  refine ⟨h.1, ?_⟩
  rcases h.2 with h0 | ⟨g, cap, cur, hv, hg, hk, hr⟩
  · exact .inl h0
  · exact .inr ⟨g, cap, cur, hv, Nat.le_trans hA hg, hk, hr⟩

/-- how Tokens ends -/
def Tp (w : World) (p : List Addr) (e : Ending) (w' : World) : Ended → Prop
  | .ok ts => ∃ v, e = .returned (.tuple #[v, .agg #[.nilIface, .int .i64 0]]) ∧ OwnT w' w.heap.size v ts ∧ Below w.heap.size w w'
  | .bad k i => e = .returned (.tuple #[.slice none 0 0, .agg #[errV p k, .int .i64 i]]) ∧ Below w.heap.size w w'

theorem results_toks {tmps : Array Value} {b : Nat} {w : World} {v z0 z1 : Value} (h2 : tmps.getD 2 undef = v) (h3 : tmps.getD 3 undef = .pointer (some ⟨b, 0, none⟩))
    (hB : w.heap[b]? = some (.cells #[z0, z1] 31 (0, 0))) :
    (results Tryz.f22 tmps).run Tryz.prog w = .ok (.tuple #[v, .agg #[z0, z1]]) w := by
  have h2' : tmps[2]?.getD undef = v := by simpa using h2
  have h3' : tmps[3]?.getD undef = .pointer (some ⟨b, 0, none⟩) := by simpa using h3
  have c1 := blk_cell hB 0 _ rfl
  have c2 := blk_cell hB 1 _ rfl
  simp [results, Tryz.results22, h2', h3', go_sem, c1, c2]

set_option maxHeartbeats 1000000 in
theorem tokens_any (s : ByteArray) (p : List Addr) (w : World) (he : Er w p) (hG : 23 ≤ w.heap.size) (hs : s.size ≤ 8192) :
    Calls Tryz.prog 22 #[.string s] w fun e w' => Tp w p e w' (readF s) := by
  have hb0 := bel_new w (.cells #[.nilIface, .int .i64 0] 31)
  have k0 : (w.alloc (.cells #[.nilIface, .int .i64 0] 31)).heap[w.heap.size]? = some (.cells #[.nilIface, .int .i64 0] 31 (0, 0)) := Go.Deep.blk_alloc_new _ _
  have E0 := hide (he.bel hb0)
  have K0 := hide k0
  have B0 := hide hb0
  clear hb0 k0 he
  go_enter Tryz.func22, Tryz.ntmps22
  go_wp2_with fail
  generalize w.alloc (.cells #[.nilIface, .int .i64 0] 31) = w0 at *
  refine (read_any s p w0 E0.out (Nat.le_trans hG B0.out.size) (by omega)).mono ?_
  intro e w1 hp
  cases hq : readF s with
  | ok ts =>
    rw [hq] at hp
    obtain ⟨v, rfl, ho, hb⟩ := hp
    have k1 := (hb.block _ (lt_of_blk K0.out)).trans K0.out
    have c1 := blk_cell k1 0 _ rfl
    have c2 := blk_cell k1 1 _ rfl
    have f1 := blk_frz k1 0
    have f2 := blk_frz k1 1
    obtain ⟨av, cv, ev⟩ := ho.len
    obtain ⟨n, en⟩ : ∃ n, n = ts.length := ⟨_, rfl⟩
    rw [← en] at ev
    subst ev
    obtain ⟨k2, t2⟩ := set1 k1 0 .nilIface
    obtain ⟨k3, t3⟩ := set1 k2 1 (.int .i64 0)
    have K3 := hide k3
    have hz := B0.out.size
    have hz2 : w.heap.size < w0.heap.size := lt_of_blk K0.out
    have O3 := hide (((ho.tn t2 (by omega)).tn t3 (by omega)).base (show w.heap.size ≤ _ by omega))
    have B1 := bel_trans B0.out hb
    have B3 := hide ((B1.trans (t2.bel (Nat.le_refl _) B1.size)).trans (t3.bel (Nat.le_refl _) (Nat.le_trans B1.size t2.size)))
    have HQ := hide hq
    clear k1 k2 k3 t2 t3 hb ho en B1 hq E0 K0 B0
    go_wp2_with fail
    refine bodyPost_ret (results_toks rfl rfl K3.out) rfl ?_
    rw [HQ.out]
    exact ⟨_, rfl, O3.out, B3.out⟩
  | bad k i =>
    rw [hq] at hp
    obtain ⟨rfl, hb⟩ := hp
    have k1 := (hb.block _ (lt_of_blk K0.out)).trans K0.out
    have c1 := blk_cell k1 0 _ rfl
    have c2 := blk_cell k1 1 _ rfl
    have f1 := blk_frz k1 0
    have f2 := blk_frz k1 1
    obtain ⟨k2, t2⟩ := set1 k1 0 (errV p k)
    obtain ⟨k3, t3⟩ := set1 k2 1 (.int .i64 i)
    have K3 := hide k3
    have B1 := bel_trans B0.out hb
    have B3 := hide ((B1.trans (t2.bel (Nat.le_refl _) B1.size)).trans (t3.bel (Nat.le_refl _) (Nat.le_trans B1.size t2.size)))
    have HQ := hide hq
    clear k1 k2 k3 t2 t3 hb B1 hq E0 K0 B0
    go_wp2_with fail
    refine bodyPost_ret (results_toks rfl rfl K3.out) rfl ?_
    rw [HQ.out]
    exact ⟨rfl, B3.out⟩

/-- the error of a text of too many bytes -/
def longK (s : ByteArray) : Nat := match readF (s.extract 0 8192) with | .bad k 0 => k | _ => 5

theorem ret_bad {fn : Func} {R : Ending → World → Prop} {a : Act} {w : World} {p : Tmp} (g : Nat) {v0 v1 : Value} (hf : fn.results = #[.cell p 31]) (hp : a.tmps.getD p undef = .pointer (some ⟨g, 0, none⟩))
    (h : w.heap[g]? = some (.cells #[v0, v1] 31 (0, 0))) (hdf : a.defers = []) (hR : R (.returned (.agg #[v0, v1])) w) : bodyPost Tryz.prog fn R .ret a w :=
  bodyPost_ret (by
    have hp' : a.tmps[p]?.getD undef = .pointer (some ⟨g, 0, none⟩) := by simpa using hp
    have cz0 := blk_cell h 0 _ rfl
    have cz1 := blk_cell h 1 _ rfl
    simp [results, hf, hp', go_sem, cz0, cz1]) hdf hR

set_option maxHeartbeats 1000000 in
theorem tooLong_any (s : ByteArray) (p : List Addr) (w : World) (he : Er w p) (hG : 23 ≤ w.heap.size) (hs : 8192 < s.size) :
    Calls Tryz.prog 46 #[.string s] w fun e w' => e = .returned (.agg #[errV p (longK s), .int .i64 0]) ∧ Below w.heap.size w w' := by
  have hb0 := bel_new w (.cells #[.nilIface, .int .i64 0] 31)
  have k0 : (w.alloc (.cells #[.nilIface, .int .i64 0] 31)).heap[w.heap.size]? = some (.cells #[.nilIface, .int .i64 0] 31 (0, 0)) := Go.Deep.blk_alloc_new _ _
  have E0 := hide (he.bel hb0)
  have K0 := hide k0
  have B0 := hide hb0
  have hsz : (s.extract 0 8192).size = 8192 := by rw [ByteArray.size_extract]; omega
  clear hb0 k0 he
  have hs2 : (8192 : Int) ≤ (s.size : Int) := by omega
  go_enter Tryz.func46, Tryz.ntmps46
  go_wp2_with fail
  generalize w.alloc (.cells #[.nilIface, .int .i64 0] 31) = w0 at *
  refine (read_any (s.extract 0 8192) p w0 E0.out (Nat.le_trans hG B0.out.size) (by omega)).mono ?_
  intro e w1 hp
  cases hq : readF (s.extract 0 8192) with
  | ok ts =>
    rw [hq] at hp
    obtain ⟨v, rfl, ho, hb⟩ := hp
    clear ho
    have hb2 := bel_new w1 (.cells #[.nilIface, .int .i64 0] 31)
    have B1 := bel_trans B0.out hb
    have B2 := bel_trans B1 hb2
    have k2 := (hb2.block _ (lt_of_blk ((hb.block _ (lt_of_blk K0.out)).trans K0.out))).trans ((hb.block _ (lt_of_blk K0.out)).trans K0.out)
    have x5 := ((E0.out.bel hb).bel hb2).c5
    have c1 := blk_cell k2 0 _ rfl
    have c2 := blk_cell k2 1 _ rfl
    have f1 := blk_frz k2 0
    have f2 := blk_frz k2 1
    obtain ⟨k3, t3⟩ := set1 k2 0 (errV p 5)
    obtain ⟨k4, t4⟩ := set1 k3 1 (.int .i64 0)
    have K4 := hide k4
    have B4 := hide ((B2.trans (t3.bel (Nat.le_refl _) B2.size)).trans (t4.bel (Nat.le_refl _) (Nat.le_trans B2.size t3.size)))
    have HL : Hid (longK s = 5) := by show _ = _; unfold longK; rw [hq]
    clear k2 k3 k4 t3 t4 hb hb2 B1 B2 hq E0 K0 B0
    go_wp2_with fail
    refine ret_bad w.heap.size rfl rfl K4.out rfl ?_
    rw [HL.out]
    exact ⟨rfl, B4.out⟩
  | bad k i =>
    rw [hq] at hp
    obtain ⟨rfl, hb⟩ := hp
    cases i with
    | zero =>
      have hb2 := bel_new w1 (.cells #[errV p k, .int .i64 0] 31)
      have B1 := bel_trans B0.out hb
      have B2 := bel_trans B1 hb2
      have k2 := (hb2.block _ (lt_of_blk ((hb.block _ (lt_of_blk K0.out)).trans K0.out))).trans ((hb.block _ (lt_of_blk K0.out)).trans K0.out)
      have c1 := blk_cell k2 0 _ rfl
      have c2 := blk_cell k2 1 _ rfl
      have f1 := blk_frz k2 0
      have f2 := blk_frz k2 1
      obtain ⟨k3, t3⟩ := set1 k2 0 (errV p k)
      obtain ⟨k4, t4⟩ := set1 k3 1 (.int .i64 0)
      have K4 := hide k4
      have B4 := hide ((B2.trans (t3.bel (Nat.le_refl _) B2.size)).trans (t4.bel (Nat.le_refl _) (Nat.le_trans B2.size t3.size)))
      have HL : Hid (longK s = k) := by show _ = _; unfold longK; rw [hq]; rfl
      clear k2 k3 k4 t3 t4 hb hb2 B1 B2 hq E0 K0 B0
      go_wp2_with fail
      refine ret_bad w.heap.size rfl rfl K4.out rfl ?_
      rw [HL.out]
      exact ⟨rfl, B4.out⟩
    | succ i =>
      have hb2 := bel_new w1 (.cells #[errV p k, .int .i64 ((i + 1 : Nat) : Int)] 31)
      have B1 := bel_trans B0.out hb
      have B2 := bel_trans B1 hb2
      have k2 := (hb2.block _ (lt_of_blk ((hb.block _ (lt_of_blk K0.out)).trans K0.out))).trans ((hb.block _ (lt_of_blk K0.out)).trans K0.out)
      have x5 := ((E0.out.bel hb).bel hb2).c5
      have c1 := blk_cell k2 0 _ rfl
      have c2 := blk_cell k2 1 _ rfl
      have f1 := blk_frz k2 0
      have f2 := blk_frz k2 1
      obtain ⟨k3, t3⟩ := set1 k2 0 (errV p 5)
      obtain ⟨k4, t4⟩ := set1 k3 1 (.int .i64 0)
      have K4 := hide k4
      have B4 := hide ((B2.trans (t3.bel (Nat.le_refl _) B2.size)).trans (t4.bel (Nat.le_refl _) (Nat.le_trans B2.size t3.size)))
      have HL : Hid (longK s = 5) := by show _ = _; unfold longK; rw [hq]; rfl
      clear k2 k3 k4 t3 t4 hb hb2 B1 B2 hq E0 K0 B0
      have hne : ((((i + 1 : Nat) : Int)) == 0) = false := by simp; omega
      generalize ((i + 1 : Nat) : Int) = z at *
      go_wp2_with fail
      refine ret_bad w.heap.size rfl rfl K4.out rfl ?_
      rw [HL.out]
      exact ⟨rfl, B4.out⟩

set_option maxHeartbeats 1000000 in
theorem tokens_long (s : ByteArray) (p : List Addr) (w : World) (he : Er w p) (hG : 23 ≤ w.heap.size) (hs : 8192 < s.size) :
    Calls Tryz.prog 22 #[.string s] w fun e w' => Tp w p e w' (.bad (longK s) 0) := by
  have hb0 := bel_new w (.cells #[.nilIface, .int .i64 0] 31)
  have k0 : (w.alloc (.cells #[.nilIface, .int .i64 0] 31)).heap[w.heap.size]? = some (.cells #[.nilIface, .int .i64 0] 31 (0, 0)) := Go.Deep.blk_alloc_new _ _
  have E0 := hide (he.bel hb0)
  have K0 := hide k0
  have B0 := hide hb0
  clear hb0 k0 he
  have hs2 : (8192 : Int) < (s.size : Int) := by omega
  have HT := hide (fun w he hG => tooLong_any s p w he hG hs)
  generalize longK s = k at *
  go_enter Tryz.func22, Tryz.ntmps22
  go_wp2_with fail
  generalize w.alloc (.cells #[.nilIface, .int .i64 0] 31) = w0 at *
  refine (HT.out w0 E0.out (Nat.le_trans hG B0.out.size)).mono ?_
  rintro e w1 ⟨rfl, hb⟩
  clear HT
  have k1 := (hb.block _ (lt_of_blk K0.out)).trans K0.out
  have c1 := blk_cell k1 0 _ rfl
  have c2 := blk_cell k1 1 _ rfl
  have f1 := blk_frz k1 0
  have f2 := blk_frz k1 1
  obtain ⟨k2, t2⟩ := set1 k1 0 (errV p k)
  obtain ⟨k3, t3⟩ := set1 k2 1 (.int .i64 0)
  have K3 := hide k3
  have B1 := bel_trans B0.out hb
  have B3 := hide ((B1.trans (t2.bel (Nat.le_refl _) B1.size)).trans (t3.bel (Nat.le_refl _) (Nat.le_trans B1.size t2.size)))
  clear k1 k2 k3 t2 t3 hb B1 E0 K0 B0
  go_wp2_with fail
  refine bodyPost_ret (results_toks rfl rfl K3.out) rfl ?_
  exact ⟨rfl, B3.out⟩

end Go.Proofs.YtogeblmppagabaaGreatDoor.Ck

/- The variables that a reading asks for; a row of tokens by its cells: no Go text is walked here. -/
namespace Go.Proofs.YtogeblmppagabaaGreatDoor.Ck
open Go.RowKit

/-- the package's errors and the library's, and no block of a variable's is a new one -/
structure Ev (w : World) (p : List Addr) : Prop where
  errs : Errs17 w p
  cs : ∃ te pe, w.cell? ⟨19, 0, none⟩ = some (.iface te pe)
  big : 23 ≤ w.heap.size
theorem Ev.er {w : World} {p : List Addr} (h : Ev w p) : Er w p := ⟨h.errs.cell 0 (by omega), h.errs.cell 1 (by omega), h.errs.cell 5 (by omega), h.cs⟩
theorem Ev.bel {w w' : World} {p : List Addr} (h : Ev w p) (hb : Below w.heap.size w w') : Ev w' p := by
  obtain ⟨te, pe, hs⟩ := h.cs
  exact ⟨h.errs.below (Nat.le_refl _) hb, ⟨te, pe, (hb.cell (p := ⟨19, 0, none⟩) (World.block_lt_of_cell? w _ hs)).trans hs⟩, Nat.le_trans h.big hb.size⟩
theorem OwnT.at {w : World} {B : Nat} {v : Value} {ts : List Tk} (h : OwnT w B v ts) (hne : ts ≠ []) :
    ∃ g cap, v = .slice (some ⟨g, 0, none⟩) ts.length cap ∧ g < w.heap.size ∧ B ≤ g ∧ ts.length ≤ cap ∧ cap ≤ maxLen ∧ ∀ j u, (toks ts)[j]? = some u → w.cell? ⟨g, j, none⟩ = some u := by
  rcases h.2 with ⟨_, h0⟩ | ⟨g, cap, cur, rfl, hB, hg, h1, h2, h3, h4⟩
  · exact absurd (List.length_eq_zero_iff.1 h0) hne
  · refine ⟨g, cap, rfl, lt_of_blk hg, hB, h1, h2, fun j u hu => blk_cell hg j u ?_⟩
    rw [← h4] at hu
    have hj : j < ts.length * 5 := by
      have := (List.getElem?_eq_some_iff.1 hu).1
      rw [List.length_take] at this
      omega
    rw [List.getElem?_take_of_lt hj] at hu
    rw [← Array.getElem?_toList]
    exact hu

end Go.Proofs.YtogeblmppagabaaGreatDoor.Ck

/- Numbers in decimal digits: no Go text is walked here. -/
namespace Go.Proofs.YtogeblmppagabaaGreatDoor.Ck
open Go.RowKit

theorem app_list (a b : ByteArray) : (a ++ b).data.toList = a.data.toList ++ b.data.toList := by rw [ByteArray.data_append, Array.toList_append]
theorem overF_eq {p : Int → Bool} {s : ByteArray} {i e : Nat} (hi : i ≤ e) (he : e ≤ s.size) (h1 : ∀ k, i ≤ k → k < e → p (byte s k) = true) (h2 : e = s.size ∨ p (byte s e) = false) : overF p s i = e := by
  by_cases h : i = e
  · subst h
    rcases h2 with h2 | h2
    · exact overF_end _ _ _ (by omega)
    · exact overF_stop _ _ _ h2
  · rw [overF_pos p s i (by omega) (h1 i (Nat.le_refl _) (by omega))]
    exact overF_eq (by omega) he (fun k hk => h1 k (by omega)) h2
termination_by e - i

def dig (k : Nat) : UInt8 := UInt8.ofNat (48 + k)
theorem dig_nat (k : Nat) (h : k ≤ 9) : (dig k).toNat = 48 + k := by unfold dig; rw [UInt8.toNat_ofNat']; omega
def decT (n : Nat) (acc : List UInt8) : List UInt8 := if 9 < n then decT (n / 10) (dig (n % 10) :: acc) else dig n :: acc
termination_by n
decreasing_by omega
def dv (a : Nat) (l : List UInt8) : Nat := l.foldl (fun a c => a * 10 + (c.toNat - 48)) a
def Digs (l : List UInt8) : Prop := ∀ c ∈ l, 48 ≤ c.toNat ∧ c.toNat ≤ 57
theorem dv_cons (a : Nat) (c : UInt8) (l : List UInt8) : dv a (c :: l) = dv (a * 10 + (c.toNat - 48)) l := by unfold dv; rw [List.foldl_cons]
theorem dec_big (n : Nat) (acc : List UInt8) (h : 9 < n) : decT n acc = decT (n / 10) (dig (n % 10) :: acc) := by rw [decT, if_pos h]
theorem dec_small (n : Nat) (acc : List UInt8) (h : ¬ 9 < n) : decT n acc = dig n :: acc := by rw [decT, if_neg h]
theorem dv_dec (n : Nat) : ∀ acc : List UInt8, dv 0 (decT n acc) = dv n acc := by
  induction n using Nat.strongRecOn with
  | ind n ih =>
    intro acc
    by_cases h : 9 < n
    · have e : n / 10 * 10 + (48 + n % 10 - 48) = n := by omega
      rw [dec_big n acc h, ih (n / 10) (by omega), dv_cons, dig_nat _ (by omega), e]
    · have e : 0 * 10 + (48 + n - 48) = n := by omega
      rw [dec_small n acc h, dv_cons, dig_nat _ (by omega), e]
theorem digs_dec (n : Nat) (acc : List UInt8) (h : Digs acc) : Digs (decT n acc) := by
  rw [decT]
  split
  · refine digs_dec (n / 10) _ (fun c hc => ?_)
    rcases List.mem_cons.1 hc with rfl | hc
    · rw [dig_nat _ (by omega)]; omega
    · exact h c hc
  · intro c hc
    rcases List.mem_cons.1 hc with rfl | hc
    · rw [dig_nat _ (by omega)]; omega
    · exact h c hc
termination_by n
theorem dec_head (n : Nat) (acc : List UInt8) (h : 1 ≤ n) : ∃ c r, decT n acc = c :: r ∧ 49 ≤ c.toNat := by
  rw [decT]
  split
  · exact dec_head (n / 10) _ (by omega)
  · exact ⟨_, _, rfl, by rw [dig_nat _ (by omega)]; omega⟩
termination_by n
theorem dec_zero : decT 0 [] = [48] := by rw [decT]; rfl
theorem dec_len (k n : Nat) (acc : List UInt8) (h : n < 10 ^ (k + 1)) : (decT n acc).length ≤ k + 1 + acc.length := by
  induction k generalizing n acc with
  | zero =>
    rw [decT, if_neg (by simp at h; omega)]
    simp
    omega
  | succ k ih =>
    rw [decT]
    split
    · have := ih (n / 10) (dig (n % 10) :: acc) (by rw [Nat.pow_succ] at h; omega)
      simp at this ⊢
      omega
    · simp
      omega
theorem dv_ge (l : List UInt8) (a : Nat) : a ≤ dv a l := by
  induction l generalizing a with
  | nil => exact Nat.le_refl _
  | cons c l ih => rw [dv_cons]; exact Nat.le_trans (by omega) (ih _)
theorem parse_ok (l : List UInt8) (a : Nat) (h : Digs l) (hv : dv a l < 18446744073709551616) : Lib.parseUint10 a l = .ok (dv a l) := by
  induction l generalizing a with
  | nil => rfl
  | cons c l ih =>
    have hc := h c (by simp)
    rw [dv_cons] at hv ⊢
    have hg := dv_ge l (a * 10 + (c.toNat - 48))
    unfold Lib.parseUint10
    rw [if_pos hc, if_neg (by omega), if_neg (by omega)]
    exact ih _ (fun x hx => h x (by simp [hx])) hv
theorem atoi_ok (l : List UInt8) (hne : l ≠ []) (h : Digs l) (hv : dv 0 l ≤ 9223372036854775807) : Lib.atoiAll l = .ok (dv 0 l : Int) := by
  cases l with
  | nil => exact absurd rfl hne
  | cons c r =>
    have hc := h c (by simp)
    have hp := parse_ok (c :: r) 0 h (by omega)
    unfold Lib.atoiAll Lib.parseMag
    simp only [show ¬ (c.toNat = 43 ∨ c.toNat = 45) by omega, if_false, List.cons_ne_nil, hp]
    rw [if_neg (by omega), if_neg (by omega), if_neg (by omega)]

/-- the text s is the number n in digits -/
def Dec (s : ByteArray) (n : Nat) : Prop := s.data.toList = decT n []
theorem Dec.size {s : ByteArray} {n : Nat} (h : Dec s n) (hn : n ≤ 9223372036854775807) : 1 ≤ s.size ∧ s.size ≤ 20 := by
  have e : s.data.toList.length = s.size := rfl
  have h1 := dec_len 19 n [] (by have : 10 ^ (19 + 1) = 100000000000000000000 := by decide
                                 omega)
  rw [h] at e
  simp at h1
  refine ⟨?_, by omega⟩
  by_cases h0 : n = 0
  · subst h0
    rw [dec_zero] at e
    simp at e
    omega
  · obtain ⟨c, r, hc, _⟩ := dec_head n [] (by omega)
    rw [hc] at e
    simp at e
    omega
theorem b8_list (s : ByteArray) (i : Nat) (h : i < s.data.toList.length) : b8 s i = s.data.toList[i] := by
  have := byte_list s i h
  rw [byte_b8] at this
  exact UInt8.toNat_inj.1 (by omega)
theorem Dec.digit {s : ByteArray} {n : Nat} (h : Dec s n) {k : Nat} (hk : k < s.size) : isDigit (byte s k) = true := by
  have hl : k < s.data.toList.length := hk
  rw [byte_list s k hl]
  have hd : Digs s.data.toList := by rw [show s.data.toList = decT n [] from h]; exact digs_dec n [] (fun _ h => by cases h)
  have := hd _ (List.getElem_mem hl)
  exact decide_eq_true ⟨by omega, by omega⟩
theorem Dec.end {s t : ByteArray} {n : Nat} (h : Dec s n) (hn : n ≤ 9223372036854775807) (hp : ∀ k, k < s.size → byte t k = byte s k) (hle : s.size ≤ t.size) (h2 : s.size = t.size ∨ isDigit (byte t s.size) = false) : endI t 0 = s.size := by
  have hz := h.size hn
  unfold endI
  by_cases h0 : n = 0
  · subst h0
    have e : s.data.toList.length = s.size := rfl
    have h' : s.data.toList = [48] := h.trans dec_zero
    rw [h'] at e
    have hs1 : s.size = 1 := by simpa using e.symm
    have hb : byte s 0 = 48 := by
      rw [byte_list s 0 (by rw [h']; decide)]
      simp only [h']
      rfl
    rw [hp 0 (by omega), if_pos hb, hs1]
  · obtain ⟨c, r, hc, hc2⟩ := dec_head n [] (by omega)
    have h' : s.data.toList = c :: r := h.trans hc
    have hb : byte s 0 = (c.toNat : Int) := by
      rw [byte_list s 0 (by rw [h']; simp)]
      simp only [h']
      rfl
    rw [hp 0 (by omega), if_neg (by omega)]
    exact overF_eq (Nat.zero_le _) hle (fun k _ hk => by rw [hp k hk]; exact h.digit hk) (h2.imp (fun h => h) (fun h => h))
theorem not_blank_digit {s : ByteArray} (hd : isDigit (byte s 0) = true) : blF s 0 = 0 := by
  unfold isDigit at hd
  simp at hd
  have h1 : overF isBlank s 0 = 0 := overF_stop _ _ _ (by unfold isBlank; simp; omega)
  unfold blF
  rw [h1]
  refine skipC_no ?_
  unfold comm
  simp
  intro _ h
  omega
theorem tokF_digit {s : ByteArray} {i : Nat} (hd : isDigit (byte s i) = true) : tokF s i = intF s i := by
  have hl : isLetter (byte s i) = false := by
    unfold isDigit at hd
    unfold isLetter
    simp at hd ⊢
    omega
  unfold tokF
  rw [hl, hd]
  simp
theorem cut_all (s : ByteArray) : (cut s 0 s.size).data.toList = s.data.toList := by unfold cut; rw [cut_end]; rfl
theorem cut_same {s t : ByteArray} {i j : Nat} (h : t.data.toList = (s.data.toList.drop i).take (j - i)) : cut s i j = t := by
  have e : (cut s i j).data.toList = t.data.toList := by unfold cut; rw [cut_list]; exact h.symm
  have e2 : (cut s i j).data = t.data := Array.toList_inj.1 e
  cases h1 : cut s i j
  cases t
  rw [h1] at e2
  simp at e2
  rw [e2]
theorem blF_all {s : ByteArray} {i : Nat} (h : ¬ i < s.size) : blF s i = i := by
  unfold blF
  rw [overF_end _ _ _ h]
  refine skipC_no ?_
  unfold comm
  simp
  omega
theorem Dec.val {s : ByteArray} {n : Nat} (h : Dec s n) (hn : n ≤ 9223372036854775807) : Lib.atoiAll s.data.toList = .ok (n : Int) := by
  have hv : dv 0 (decT n []) = n := dv_dec n []
  have hz := h.size hn
  rw [show s.data.toList = decT n [] from h, atoi_ok _ (fun e => ?_) (digs_dec n [] (fun _ h => by cases h)) (by omega), hv]
  have e1 : s.data.toList.length = s.size := rfl
  rw [show s.data.toList = decT n [] from h, e] at e1
  simp at e1
  omega
theorem Dec.read {s : ByteArray} {n : Nat} (h : Dec s n) (hn : n ≤ 9223372036854775807) : readF s = .ok [⟨3, s, n, 0, 0⟩] := by
  have hz := h.size hn
  have hd := h.digit (show 0 < s.size by omega)
  have hE := h.end hn (fun _ _ => rfl) (Nat.le_refl _) (.inl rfl)
  have hi : intF s 0 = .ok ⟨3, s, n, 0, 0⟩ s.size := by
    rw [intF_rest, hE]
    have hc : cut s 0 s.size = s := cut_same (by rw [List.drop_zero, List.take_of_length_le]; exact Nat.le_refl _)
    unfold rest
    rw [hc, h.val hn]
    simp only
    rw [if_neg (by unfold tight; simp)]
  unfold readF
  rw [not_blank_digit hd, rdF_step (by omega) (by simp) (by rw [tokF_digit hd]; exact hi), blF_all (by omega), rdF_end (by omega)]
  rfl
theorem Dec.nought {s t : ByteArray} {n : Nat} (h : Dec s n) (hn : n ≤ 9223372036854775807) (ht : t.data.toList = 48 :: s.data.toList) : readF t = .bad 1 1 := by
  have hz := h.size hn
  have e1 : s.data.toList.length = s.size := rfl
  have e2 : t.data.toList.length = t.size := rfl
  rw [ht] at e2
  simp at e2
  have hb0 : byte t 0 = 48 := by
    rw [byte_list t 0 (by rw [ht]; simp)]
    simp only [ht]
    rfl
  have hb1 : byte t 1 = byte s 0 := by
    rw [byte_list t 1 (by rw [ht]; simp <;> omega), byte_list s 0 (by omega)]
    simp only [ht]
    rfl
  have hd : isDigit (byte t 0) = true := by rw [hb0]; decide
  have hE : endI t 0 = 1 := by unfold endI; rw [if_pos hb0]
  have hc : (cut t 0 1).data.toList = [48] := by unfold cut; rw [cut_list, ht]; rfl
  have hd1 := h.digit (show 0 < s.size by omega)
  have hi : intF t 0 = .bad 1 1 := by
    rw [intF_rest, hE]
    unfold rest
    rw [hc, show Lib.atoiAll [48] = .ok 0 from by decide]
    simp only
    rw [if_pos (by unfold tight isWord; rw [hb1, hd1]; simp; omega)]
  unfold readF
  rw [not_blank_digit hd, rdF_bad (by omega) (by simp) (by rw [tokF_digit hd]; exact hi)]
theorem Dec.behind {s t : ByteArray} {n : Nat} (h : Dec s n) (hn : n ≤ 9223372036854775807) (ht : t.data.toList = s.data.toList ++ [120]) : readF t = .bad 1 s.size := by
  have hz := h.size hn
  have e1 : s.data.toList.length = s.size := rfl
  have e2 : t.data.toList.length = t.size := rfl
  rw [ht] at e2
  simp at e2
  have hp : ∀ k, k < s.size → byte t k = byte s k := fun k hk => by
    rw [byte_list t k (by rw [ht]; simp <;> omega), byte_list s k (by omega)]
    simp only [ht]
    rw [List.getElem_append_left]
  have hbx : byte t s.size = 120 := by
    rw [byte_list t s.size (by rw [ht]; simp <;> omega)]
    simp only [ht]
    rw [List.getElem_append_right (by omega)]
    simp [e1]
  have hd : isDigit (byte t 0) = true := by rw [hp 0 (by omega)]; exact h.digit (by omega)
  have hE := h.end hn hp (by omega) (.inr (by rw [hbx]; decide))
  have hc : cut t 0 s.size = s := cut_same (by rw [List.drop_zero, ht, List.take_append_of_le_length (by omega), List.take_of_length_le (by omega)])
  have hi : intF t 0 = .bad 1 s.size := by
    rw [intF_rest, hE]
    unfold rest
    rw [hc, h.val hn]
    simp only
    rw [if_pos (by unfold tight isWord; rw [hbx]; simp; first | done | (refine ⟨by omega, by decide⟩) | (refine ⟨?_, ?_⟩ <;> first | omega | decide))]
  unfold readF
  rw [not_blank_digit hd, rdF_bad (by omega) (by simp) (by rw [tokF_digit hd]; exact hi)]

end Go.Proofs.YtogeblmppagabaaGreatDoor.Ck
