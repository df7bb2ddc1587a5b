/- Package order: small calls. -/
import Derived.Test.YticgmebbnnmikaaDoorOc
namespace Go.Proofs.YticgmebbnnmikaaDoor.Ck
open Go.RowKit

set_option maxRecDepth 20000 in
theorem room_any {w : World} {bw : Nat} {vR : Value} {R : List Int} (h1 : w.cell? ⟨bw, 1, none⟩ = some vR) (hR : Sl w vR R) (o : Int) : Calls Tryd.prog 58 #[.pointer (some ⟨bw, 0, none⟩), .int .i64 o] w (fun e w' => e = .returned (.int .i64 (roomM R o)) ∧ w = w') := by
  unfold roomM
  obtain ⟨a, c, rfl, hc1, hc2⟩ := hR.form
  by_cases h0 : o < 0
  · rw [if_pos (Or.inl h0)]
    clear hR
    go_enter Tryd.func58, Tryd.ntmps58
    go_wp2_with fail
    go_ret
    exact ⟨rfl, rfl⟩
  · by_cases h2 : (R.length : Int) ≤ o
    · rw [if_pos (Or.inr h2)]
      clear hR
      go_enter Tryd.func58, Tryd.ntmps58
      go_wp2_with fail
      go_ret
      exact ⟨rfl, rfl⟩
    · rw [if_neg (by omega)]
      obtain ⟨k, rfl⟩ : ∃ k : Nat, o = k := ⟨o.toNat, by omega⟩
      obtain ⟨b, off, rfl, hb, hcell⟩ := hR.at k (by omega)
      rw [Int.toNat_natCast]
      have hk : (k : Int) < (R.length : Int) := by omega
      generalize R.getD k 0 = x at *
      have hmx : max x 0 = if x < 0 then 0 else x := by split <;> omega
      rw [hmx]
      clear hR hmx
      go_enter Tryd.func58, Tryd.ntmps58
      go_wp2_with fail
      · go_ret
        exact ⟨by first | rfl | (congr 2; split <;> omega), rfl⟩
      · go_ret
        exact ⟨by first | rfl | (congr 2; split <;> omega), rfl⟩
theorem gor_any (g : Int) (w : World) : Calls Tryd.prog 35 #[.int .i64 g] w (fun e w' => e = .returned (.bool (decide (0 ≤ g) && decide (g < 8))) ∧ w = w') := by
  go_enter Tryd.func35, Tryd.ntmps35
  by_cases h0 : 0 ≤ g
  · rw [decide_eq_true h0, Bool.true_and]
    go_wp2_with fail
    go_ret
    exact ⟨rfl, rfl⟩
  · rw [decide_eq_false h0, Bool.false_and]
    go_wp2_with fail
    go_ret
    exact ⟨rfl, rfl⟩
set_option maxRecDepth 20000 in
theorem inForm_any (e : Ev) (w : World) : Calls Tryd.prog 24 #[evV e] w (Vb w (.bool (evB e))) := by
  obtain ⟨g, k, o, a⟩ := e
  obtain ⟨b, hb⟩ : ∃ b, b = evB ⟨g, k, o, a⟩ := ⟨_, rfl⟩
  rw [← hb]
  unfold evB at hb
  simp only at hb
  have HB := hide hb
  unfold evV
  clear hb
  have B0 := hide (bel_new w (.cells #[.int .i64 g, .int .i64 k, .int .i64 o, .int .i64 a] 47))
  go_enter Tryd.func24, Tryd.ntmps24
  go_wp2_with fail
  refine (gor_any g _).mono ?_
  rintro e w1 ⟨rfl, rfl⟩
  cases hg : (decide (0 ≤ g) && decide (g < 8))
  · go_wp2_with fail
    go_ret
    exact ⟨by rw [HB.out, hg]; rfl, B0.out⟩
  · by_cases h1 : k < 1
    · go_wp2_with fail
      go_ret
      exact ⟨by rw [HB.out, hg, decide_eq_false (show ¬ 1 ≤ k by omega)]; rfl, B0.out⟩
    · by_cases h2 : 12 < k
      · go_wp2_with fail
        go_ret
        exact ⟨by rw [HB.out, hg, decide_eq_false (show ¬ k ≤ 12 by omega), Bool.and_false]; rfl, B0.out⟩
      · by_cases h3 : k = 10
        · subst h3
          go_wp2_with fail
          refine (gor_any o _).mono ?_
          rintro e w1 ⟨rfl, rfl⟩
          go_wp2_with fail
          go_ret
          exact ⟨by rw [HB.out, hg]; rfl, B0.out⟩
        · have h4 : (k != 10) = true := by simpa using h3
          have h5 : (k == 10) = false := by simpa using h3
          go_wp2_with fail
          go_ret
          exact ⟨by rw [HB.out, hg, h5, decide_eq_true (show 1 ≤ k by omega), decide_eq_true (show k ≤ 12 by omega)]; rfl, B0.out⟩
/-- is an event an access? -/
def accB (e : Ev) : Bool := e.k == 1 || e.k == 2
theorem access_any (e : Ev) (w : World) : Calls Tryd.prog 41 #[evV e] w (Vb w (.bool (accB e))) := by
  obtain ⟨g, k, o, a⟩ := e
  unfold evV accB
  have B0 := hide (bel_new w (.cells #[.int .i64 g, .int .i64 k, .int .i64 o, .int .i64 a] 47))
  go_enter Tryd.func41, Tryd.ntmps41
  by_cases h : k = 1
  · subst h
    go_wp2_with fail
    go_ret
    exact ⟨rfl, B0.out⟩
  · have h2 : (k == 1) = false := by simpa using h
    rw [h2]
    go_wp2_with fail
    go_ret
    exact ⟨rfl, B0.out⟩
/-- a variable of a struct's type, in block g, as a call's result -/
theorem ret_agg {fn : Func} {R : Ending → World → Prop} {a : Act} {w : World} {p : Tmp} {T : TypeId} (g : Nat) (cs : Array Value) {d : TypeDesc} (hf : fn.results = #[.cell p T]) (hp : a.tmps.getD p undef = .pointer (some ⟨g, 0, none⟩))
    (hd : (match d with | .struct _ | .array _ _ => true | _ => false) = true) (h : w.heap[g]? = some (.cells cs T (0, 0))) (hu : Tryd.prog.underlying T = some d) (hi : (Tryd.prog.info? T).map (·.size) = some cs.size) (hdf : a.defers = []) (hR : R (.returned (.agg cs)) w) : bodyPost Tryd.prog fn R .ret a w :=
  bodyPost_ret (results_cell_row hf a.tmps w g T cs (0, 0) d hp h hu (by cases d <;> first | rfl | cases hd) hi) hdf hR
/-- a race, as a value -/
structure Rc where
  p : Int
  f : Int
  s : Int
  fw : Bool
  sw : Bool
def rcV (r : Rc) : Value := .agg #[.int .i64 r.p, .int .i64 r.f, .int .i64 r.s, .bool r.fw, .bool r.sw]
def rcC (r : Rc) : List Value := [.int .i64 r.p, .int .i64 r.f, .int .i64 r.s, .bool r.fw, .bool r.sw]
def raceM (f s : Ev) : Rc := ⟨s.o, f.a, s.a, f.k == 2, s.k == 2⟩
set_option maxRecDepth 20000 in
theorem race_any (f s : Ev) (w : World) : Calls Tryd.prog 43 #[evV f, evV s] w (Vb w (rcV (raceM f s))) := by
  obtain ⟨g, k, o, a⟩ := f
  obtain ⟨g', k', o', a'⟩ := s
  unfold evV rcV raceM
  simp only
  go_enter Tryd.func43, Tryd.ntmps43
  go_wp2_with fail
  refine ret_agg (w.heap.size + 1 + 1) _ rfl rfl rfl ?_ Tryd.underlying54 (by kernel_rfl) rfl ⟨rfl, ?_⟩
  · have := Go.Deep.blk_alloc_new ((w.alloc (.cells #[.int .i64 g, .int .i64 k, .int .i64 o, .int .i64 a] 47)).alloc (.cells #[.int .i64 g', .int .i64 k', .int .i64 o', .int .i64 a'] 47)) (.cells #[.int .i64 o', .int .i64 a, .int .i64 a', .bool (k == 2), .bool (k' == 2)] 54)
    simpa using this
  · exact bel_al (bel_al (bel_new w _) _) _
end Go.Proofs.YticgmebbnnmikaaDoor.Ck
