/- Texts of this proof, packed: contracts of the program's functions, and the plain model that they are held against. -/
import Derived.Test.YtogeblmppagabaaGreatDoorQag
import Derived.Deep.RegionLaw
/- The contract of read. -/
namespace Go.Proofs.YtogeblmppagabaaGreatDoor.Ck
open Go.RowKit

theorem step_appT {w : World} {ops : Array Oper} {o : Oper} {a : Act} {K : Act → World → Prop} {Q : Exit → Act → World → Prop} {E : Prop} (s x : Operand) (v vx : Value) (R : Value → World → Prop)
    (hrun : ∀ ty, ∃ v' w', (Builtin.append_ #[42, 42] ty #[v, vx]).run Tryz.prog w = .ok v' w' ∧ R v' w') (hgd : o.guard = none)
    (ho : o.op = .call { callee := .builtin .append, args := #[s, x], argTypes := #[42, 42] }) (hs : a.eval s = v) (hx : a.eval x = vx)
    (h : ∀ v' w', R v' w' → K (a.put o.dst v') w') : if Region.wanted o (yielded ops a.tmps) = true then Oper.wp Tryz.prog o a w K Q else E := by
  have hw : Region.wanted o (yielded ops a.tmps) = true := by simp [Region.wanted, hgd]
  rw [if_pos hw]
  obtain ⟨v', w', hr, hR⟩ := hrun o.type
  unfold Oper.wp execOp
  simp only [ho, resolve, invoke, builtin, Sem.run_bind, Sem.run_pure, Result.andThen_ok, List.map_toArray, List.map_cons, List.map_nil, hs, hx, hr]
  exact h v' w' hR

/-- how read ends -/
def Rp (w : World) (p : List Addr) (e : Ending) (w' : World) : Ended → Prop
  | .ok ts => ∃ v, e = .returned (.tuple #[v, .agg #[.nilIface, .int .i64 0]]) ∧ OwnT w' (w.heap.size + 1 + 1 + 1) v ts ∧ Below w.heap.size w w'
  | .bad k i => e = .returned (.tuple #[.slice none 0 0, .agg #[errV p k, .int .i64 i]]) ∧ Below w.heap.size w w'

set_option maxRecDepth 10000 in
set_option maxHeartbeats 4000000 in
theorem read_any (s : ByteArray) (p : List Addr) (w : World) (he : Er w p) (hG : 23 ≤ w.heap.size) (hs : s.size ≤ 9000) :
    Calls Tryz.prog 47 #[.string s] w fun e w' => Rp w p e w' (readF s) := by
  have hmf : ∀ (fn : Fn) (first cap : Array Value) (w : World), (Instr.makeFunc fn first cap).run Tryz.prog w = .ok (.func fn first cap) w := fun _ _ _ _ => rfl
  have I0 := hide (Rs.start w p s he)
  obtain ⟨r, hr⟩ : ∃ r, readF s = r := ⟨_, rfl⟩
  rw [hr]
  have HR := hide hr
  clear hr he
  go_enter_defers Tryz.func47, Tryz.ntmps47
  go_wp2_with fail
  generalize ((w.alloc (.cells #[.slice none 0 0] 42)).alloc (.cells #[.nilIface, .int .i64 0] 31)).alloc (.cells #[.string s, .int .i64 0] 96) = w0 at *
  refine (blanks_any _ s 0 w0 I0.out.rd hs (Nat.zero_le _)).mono ?_
  rintro e w1 ⟨rfl, r1, t1⟩
  have I1 := hide (I0.out.tn hG t1 r1)
  clear I0 r1 t1
  go_wp2_with fail
  go_loopw [] (fun wr => ∃ (i : Nat) (v : Value) (ts : List Tk), i ≤ s.size ∧ ts.length ≤ 2000 ∧ Hid (Rs w wr p s i v ts) ∧ Hid (r = rdF s i ts)) (fun wr => s.size - posAt wr (w.heap.size + 1 + 1))
  case atStart => exact ⟨_, _, _, blF_le _ _ (Nat.zero_le _), Nat.zero_le _, I1.out, HR.out.symm⟩
  case round =>
    obtain ⟨i, v, ts, hi2, hl2, I, Hr⟩ := hrel
    clear I1
    have HP := hide I.out.rd.posAt
    by_cases hi : i < s.size
    · go_wp2_with fail
      refine (more_yes I.out.rd hi).mono ?_
      rintro e wx ⟨rfl, kx, rfl⟩
      have I := hide (I.out.drewN kx)
      generalize wr.drewN kx = w1 at *
      obtain ⟨av, cv, ev⟩ := I.out.own.len
      obtain ⟨n, en⟩ : ∃ n, n = ts.length := ⟨_, rfl⟩
      rw [← en] at ev
      subst ev
      have EN := hide en
      have hl2' : n ≤ 2000 := by omega
      clear en
      have c1 := blk_cell I.out.tv 0 _ rfl
      by_cases hl : n = 2000
      · have x5 := I.out.er.c5
        have y2 := I.out.rd.pos
        have hr2 : Hid (r = .bad 5 i) := Hr.out.trans (rdF_full hi (by rw [← EN.out]; exact hl))
        have hl3 : ((n : Int) == 2000) = true := by simp; omega
        go_wp2_with fail
        refine wp_quiet_tail 5 mixed (by kernel_rfl) ?_
        simp only [List.take_succ_cons, List.take_zero, List.drop_succ_cons, List.drop_zero]
        repeat (first | go_big_quiet_skip | (go_big_quiet_want; go_big_quiet_op; go_big_quiet_on))
        refine wpQuiet_nil ?_
        go_wp2_with fail
        refine (refuse_any _ _ i _).mono ?_
        rintro e w2 ⟨rfl, rfl⟩
        refine door_stop rfl rfl (I.out.drewN 1).tv (I.out.drewN 1).bd (by omega) (fun w' hb => ?_)
        rw [hr2.out]
        exact ⟨rfl, (I.out.drewN 1).bel.trans (hb _ (Nat.le_refl _) (by omega))⟩
      · have hl3 : ((n : Int) == 2000) = false := by simp; omega
        cases hq : tokF s i with
        | bad k j =>
          have hr2 : Hid (r = .bad k j) := Hr.out.trans (rdF_bad hi (by rw [← EN.out]; exact hl) hq)
          go_wp2_with fail
          refine wp_region_any mixed ?_
          change wpAny _ _ _ _ _ _ _ (World.drew _)
          refine wpAny_ready (rs := [0, 1]) (by kernel_rfl) (by decide) ?_
          refine AllReady.cons rfl (fun K1 hK1 => ?_) (AllReady.cons rfl (fun K1 hK1 => ?_) AllReady.nil)
          · go_simp
            refine hK1 _ _ ?_
            clear hK1 K1
            refine wpAny_ready (rs := [1]) (by kernel_rfl) (by decide) ?_
            refine AllReady.cons rfl (fun K1 hK1 => ?_) AllReady.nil
            go_simp
            refine hK1 _ _ ?_
            clear hK1 K1
            refine wpAny_ready (rs := [2]) (by kernel_rfl) (by decide) ?_
            refine AllReady.cons rfl (fun K1 hK1 => ?_) AllReady.nil
            go_simp
            refine (token_any _ s i p _ (I.out.rd.drewN 1) (I.out.er.drewN 1) (by omega) hs hi).mono ?_
            intro e w2 hp
            rw [hq] at hp
            obtain ⟨rfl, t2⟩ := hp
            have I2 := hide ((I.out.drewN 1).tnb t2)
            refine door_stop rfl rfl I2.out.1 I2.out.2.1 (by omega) (fun w' hb => ?_)
            rw [hr2.out]
            exact ⟨rfl, I2.out.2.2.trans (hb _ (Nat.le_refl _) (by omega))⟩
          · go_simp
            refine hK1 _ _ ?_
            clear hK1 K1
            refine wpAny_ready (rs := [0, 2]) (by kernel_rfl) (by decide) ?_
            refine AllReady.cons rfl (fun K1 hK1 => ?_) (AllReady.cons rfl (fun K1 hK1 => ?_) AllReady.nil)
            · go_simp
              refine hK1 _ _ ?_
              clear hK1 K1
              refine wpAny_ready (rs := [2]) (by kernel_rfl) (by decide) ?_
              refine AllReady.cons rfl (fun K1 hK1 => ?_) AllReady.nil
              go_simp
              refine (token_any _ s i p _ (I.out.rd.drewN 1) (I.out.er.drewN 1) (by omega) hs hi).mono ?_
              intro e w2 hp
              rw [hq] at hp
              obtain ⟨rfl, t2⟩ := hp
              have I2 := hide ((I.out.drewN 1).tnb t2)
              refine door_stop rfl rfl I2.out.1 I2.out.2.1 (by omega) (fun w' hb => ?_)
              rw [hr2.out]
              exact ⟨rfl, I2.out.2.2.trans (hb _ (Nat.le_refl _) (by omega))⟩
            · go_simp
              refine (token_any _ s i p _ (I.out.rd.drewN 1) (I.out.er.drewN 1) (by omega) hs hi).mono ?_
              intro e w2 hp
              rw [hq] at hp
              obtain ⟨rfl, t2⟩ := hp
              have I2 := hide ((I.out.drewN 1).tnb t2)
              refine door_stop rfl rfl I2.out.1 I2.out.2.1 (by omega) (fun w' hb => ?_)
              rw [hr2.out]
              exact ⟨rfl, I2.out.2.2.trans (hb _ (Nat.le_refl _) (by omega))⟩
        | ok t j =>
          have HE := hide (tokF_ok hi hq)
          have Hr : Hid (r = rdF s (blF s j) (ts ++ [t])) := Hr.out.trans (rdF_step hi (by rw [← EN.out]; exact hl) hq)
          go_wp2_with fail
          refine wp_region_any mixed ?_
          change wpAny _ _ _ _ _ _ _ (World.drew _)
          refine wpAny_ready (rs := [0, 1]) (by kernel_rfl) (by decide) ?_
          refine AllReady.cons rfl (fun K1 hK1 => ?_) (AllReady.cons rfl (fun K1 hK1 => ?_) AllReady.nil)
          · go_simp
            refine hK1 _ _ ?_
            clear hK1 K1
            refine wpAny_ready (rs := [1]) (by kernel_rfl) (by decide) ?_
            refine AllReady.cons rfl (fun K1 hK1 => ?_) AllReady.nil
            go_simp
            refine hK1 _ _ ?_
            clear hK1 K1
            refine wpAny_ready (rs := [2]) (by kernel_rfl) (by decide) ?_
            refine AllReady.cons rfl (fun K1 hK1 => ?_) AllReady.nil
            go_simp
            refine (token_any _ s i p _ (I.out.rd.drewN 1) (I.out.er.drewN 1) (by omega) hs hi).mono ?_
            intro e w2 hp
            rw [hq] at hp
            obtain ⟨rfl, r2, t2⟩ := hp
            have I2 := hide ((I.out.drewN 1).tn hG t2 r2)
            have c2 := blk_cell I2.out.tv 0 _ rfl
            unfold Tk.val
            refine hK1 _ _ ?_
            clear hK1 K1
            refine wpAny_ready (rs := [3]) (by kernel_rfl) (by decide) ?_
            refine AllReady.cons rfl (fun K1 hK1 => ?_) AllReady.nil
            go_simp
            have hb3 := bel_new w2 (.cells #[.int .i64 t.kind, .string t.text, .int .i64 t.n, .int .u64 t.bits, .int .i64 t.pos] 67)
            have I3 := hide (I2.out.below hb3)
            have k3 : (w2.alloc (.cells #[.int .i64 t.kind, .string t.text, .int .i64 t.n, .int .u64 t.bits, .int .i64 t.pos] 67)).heap[w2.heap.size]? = some (.cells #[.int .i64 t.kind, .string t.text, .int .i64 t.n, .int .u64 t.bits, .int .i64 t.pos] 67 (0, 0)) := Go.Deep.blk_alloc_new _ _
            have c3 := blk_cell I3.out.tv 0 _ rfl
            have H3 := hide (fun ty => I3.out.push hG t _ 1 k3 hl2 ty)
            clear k3 hb3
            generalize w2.alloc (.cells #[.int .i64 t.kind, .string t.text, .int .i64 t.n, .int .u64 t.bits, .int .i64 t.pos] 67) = w3 at *
            generalize w2.heap.size = n3 at *
            refine hK1 _ _ ?_
            clear hK1 K1
            refine wpAny_ready (rs := [4]) (by kernel_rfl) (by decide) ?_
            refine AllReady.cons rfl (fun K1 hK1 => ?_) AllReady.nil
            refine step_appT (.tmp 24) (.tmp 27) _ _ _ H3.out rfl rfl rfl rfl ?_
            rintro v4 w4 ⟨c4, f4, I4⟩
            obtain ⟨a4, k4, e4⟩ := I4.own.len
            obtain ⟨m4, em4⟩ : ∃ m4, m4 = (ts ++ [t]).length := ⟨_, rfl⟩
            rw [← em4] at e4
            clear em4
            subst e4
            have I4 := hide I4
            clear H3
            refine hK1 _ _ ?_
            clear hK1 K1
            refine wpAny_ready (rs := [5]) (by kernel_rfl) (by decide) ?_
            refine AllReady.cons rfl (fun K1 hK1 => ?_) AllReady.nil
            go_simp
            refine hK1 _ _ ?_
            clear hK1 K1
            refine wpAny_done (by kernel_rfl) ?_ _
            clear I I2 I3 c4 f4
            generalize w4.setCell ⟨w.heap.size, 0, none⟩ (.slice a4 m4 k4) = w5 at *
            go_wp2_with fail
            refine (blanks_any _ s j w5 I4.out.rd hs HE.out.2).mono ?_
            rintro e w6 ⟨rfl, r6, t6⟩
            go_wp2_with fail
            go_roundw
            case rel => exact ⟨blF s j, _, ts ++ [t], blF_le _ _ HE.out.2, by rw [List.length_append, List.length_singleton, ← EN.out]; omega, I4.out.tn hG t6 r6, Hr.out⟩
            case measure =>
              have h6 : posAt w6 (w.heap.size + 1 + 1) = blF s j := r6.posAt
              rw [h6, HP.out]
              have := blF_ge s j
              have := HE.out.1
              omega
          · go_simp
            refine hK1 _ _ ?_
            clear hK1 K1
            refine wpAny_ready (rs := [0, 2]) (by kernel_rfl) (by decide) ?_
            refine AllReady.cons rfl (fun K1 hK1 => ?_) (AllReady.cons rfl (fun K1 hK1 => ?_) AllReady.nil)
            · go_simp
              refine hK1 _ _ ?_
              clear hK1 K1
              refine wpAny_ready (rs := [2]) (by kernel_rfl) (by decide) ?_
              refine AllReady.cons rfl (fun K1 hK1 => ?_) AllReady.nil
              go_simp
              refine (token_any _ s i p _ (I.out.rd.drewN 1) (I.out.er.drewN 1) (by omega) hs hi).mono ?_
              intro e w2 hp
              rw [hq] at hp
              obtain ⟨rfl, r2, t2⟩ := hp
              have I2 := hide ((I.out.drewN 1).tn hG t2 r2)
              have c2 := blk_cell I2.out.tv 0 _ rfl
              unfold Tk.val
              refine hK1 _ _ ?_
              clear hK1 K1
              refine wpAny_ready (rs := [3]) (by kernel_rfl) (by decide) ?_
              refine AllReady.cons rfl (fun K1 hK1 => ?_) AllReady.nil
              go_simp
              have hb3 := bel_new w2 (.cells #[.int .i64 t.kind, .string t.text, .int .i64 t.n, .int .u64 t.bits, .int .i64 t.pos] 67)
              have I3 := hide (I2.out.below hb3)
              have k3 : (w2.alloc (.cells #[.int .i64 t.kind, .string t.text, .int .i64 t.n, .int .u64 t.bits, .int .i64 t.pos] 67)).heap[w2.heap.size]? = some (.cells #[.int .i64 t.kind, .string t.text, .int .i64 t.n, .int .u64 t.bits, .int .i64 t.pos] 67 (0, 0)) := Go.Deep.blk_alloc_new _ _
              have c3 := blk_cell I3.out.tv 0 _ rfl
              have H3 := hide (fun ty => I3.out.push hG t _ 1 k3 hl2 ty)
              clear k3 hb3
              generalize w2.alloc (.cells #[.int .i64 t.kind, .string t.text, .int .i64 t.n, .int .u64 t.bits, .int .i64 t.pos] 67) = w3 at *
              generalize w2.heap.size = n3 at *
              refine hK1 _ _ ?_
              clear hK1 K1
              refine wpAny_ready (rs := [4]) (by kernel_rfl) (by decide) ?_
              refine AllReady.cons rfl (fun K1 hK1 => ?_) AllReady.nil
              refine step_appT (.tmp 24) (.tmp 27) _ _ _ H3.out rfl rfl rfl rfl ?_
              rintro v4 w4 ⟨c4, f4, I4⟩
              obtain ⟨a4, k4, e4⟩ := I4.own.len
              obtain ⟨m4, em4⟩ : ∃ m4, m4 = (ts ++ [t]).length := ⟨_, rfl⟩
              rw [← em4] at e4
              clear em4
              subst e4
              have I4 := hide I4
              clear H3
              refine hK1 _ _ ?_
              clear hK1 K1
              refine wpAny_ready (rs := [5]) (by kernel_rfl) (by decide) ?_
              refine AllReady.cons rfl (fun K1 hK1 => ?_) AllReady.nil
              go_simp
              refine hK1 _ _ ?_
              clear hK1 K1
              refine wpAny_done (by kernel_rfl) ?_ _
              clear I I2 I3 c4 f4
              generalize w4.setCell ⟨w.heap.size, 0, none⟩ (.slice a4 m4 k4) = w5 at *
              go_wp2_with fail
              refine (blanks_any _ s j w5 I4.out.rd hs HE.out.2).mono ?_
              rintro e w6 ⟨rfl, r6, t6⟩
              go_wp2_with fail
              go_roundw
              case rel => exact ⟨blF s j, _, ts ++ [t], blF_le _ _ HE.out.2, by rw [List.length_append, List.length_singleton, ← EN.out]; omega, I4.out.tn hG t6 r6, Hr.out⟩
              case measure =>
                have h6 : posAt w6 (w.heap.size + 1 + 1) = blF s j := r6.posAt
                rw [h6, HP.out]
                have := blF_ge s j
                have := HE.out.1
                omega
            · go_simp
              refine (token_any _ s i p _ (I.out.rd.drewN 1) (I.out.er.drewN 1) (by omega) hs hi).mono ?_
              intro e w2 hp
              rw [hq] at hp
              obtain ⟨rfl, r2, t2⟩ := hp
              have I2 := hide ((I.out.drewN 1).tn hG t2 r2)
              have c2 := blk_cell I2.out.tv 0 _ rfl
              unfold Tk.val
              refine hK1 _ _ ?_
              clear hK1 K1
              refine wpAny_ready (rs := [0, 3]) (by kernel_rfl) (by decide) ?_
              refine AllReady.cons rfl (fun K1 hK1 => ?_) (AllReady.cons rfl (fun K1 hK1 => ?_) AllReady.nil)
              · go_simp
                refine hK1 _ _ ?_
                clear hK1 K1
                refine wpAny_ready (rs := [3]) (by kernel_rfl) (by decide) ?_
                refine AllReady.cons rfl (fun K1 hK1 => ?_) AllReady.nil
                go_simp
                have hb3 := bel_new w2 (.cells #[.int .i64 t.kind, .string t.text, .int .i64 t.n, .int .u64 t.bits, .int .i64 t.pos] 67)
                have I3 := hide (I2.out.below hb3)
                have k3 : (w2.alloc (.cells #[.int .i64 t.kind, .string t.text, .int .i64 t.n, .int .u64 t.bits, .int .i64 t.pos] 67)).heap[w2.heap.size]? = some (.cells #[.int .i64 t.kind, .string t.text, .int .i64 t.n, .int .u64 t.bits, .int .i64 t.pos] 67 (0, 0)) := Go.Deep.blk_alloc_new _ _
                have c3 := blk_cell I3.out.tv 0 _ rfl
                have H3 := hide (fun ty => I3.out.push hG t _ 1 k3 hl2 ty)
                clear k3 hb3
                generalize w2.alloc (.cells #[.int .i64 t.kind, .string t.text, .int .i64 t.n, .int .u64 t.bits, .int .i64 t.pos] 67) = w3 at *
                generalize w2.heap.size = n3 at *
                refine hK1 _ _ ?_
                clear hK1 K1
                refine wpAny_ready (rs := [4]) (by kernel_rfl) (by decide) ?_
                refine AllReady.cons rfl (fun K1 hK1 => ?_) AllReady.nil
                refine step_appT (.tmp 24) (.tmp 27) _ _ _ H3.out rfl rfl rfl rfl ?_
                rintro v4 w4 ⟨c4, f4, I4⟩
                obtain ⟨a4, k4, e4⟩ := I4.own.len
                obtain ⟨m4, em4⟩ : ∃ m4, m4 = (ts ++ [t]).length := ⟨_, rfl⟩
                rw [← em4] at e4
                clear em4
                subst e4
                have I4 := hide I4
                clear H3
                refine hK1 _ _ ?_
                clear hK1 K1
                refine wpAny_ready (rs := [5]) (by kernel_rfl) (by decide) ?_
                refine AllReady.cons rfl (fun K1 hK1 => ?_) AllReady.nil
                go_simp
                refine hK1 _ _ ?_
                clear hK1 K1
                refine wpAny_done (by kernel_rfl) ?_ _
                clear I I2 I3 c4 f4
                generalize w4.setCell ⟨w.heap.size, 0, none⟩ (.slice a4 m4 k4) = w5 at *
                go_wp2_with fail
                refine (blanks_any _ s j w5 I4.out.rd hs HE.out.2).mono ?_
                rintro e w6 ⟨rfl, r6, t6⟩
                go_wp2_with fail
                go_roundw
                case rel => exact ⟨blF s j, _, ts ++ [t], blF_le _ _ HE.out.2, by rw [List.length_append, List.length_singleton, ← EN.out]; omega, I4.out.tn hG t6 r6, Hr.out⟩
                case measure =>
                  have h6 : posAt w6 (w.heap.size + 1 + 1) = blF s j := r6.posAt
                  rw [h6, HP.out]
                  have := blF_ge s j
                  have := HE.out.1
                  omega
              · go_simp
                have hb3 := bel_new w2 (.cells #[.int .i64 t.kind, .string t.text, .int .i64 t.n, .int .u64 t.bits, .int .i64 t.pos] 67)
                have I3 := hide (I2.out.below hb3)
                have k3 : (w2.alloc (.cells #[.int .i64 t.kind, .string t.text, .int .i64 t.n, .int .u64 t.bits, .int .i64 t.pos] 67)).heap[w2.heap.size]? = some (.cells #[.int .i64 t.kind, .string t.text, .int .i64 t.n, .int .u64 t.bits, .int .i64 t.pos] 67 (0, 0)) := Go.Deep.blk_alloc_new _ _
                have c3 := blk_cell I3.out.tv 0 _ rfl
                have H3 := hide (fun ty => I3.out.push hG t _ 1 k3 hl2 ty)
                clear k3 hb3
                generalize w2.alloc (.cells #[.int .i64 t.kind, .string t.text, .int .i64 t.n, .int .u64 t.bits, .int .i64 t.pos] 67) = w3 at *
                generalize w2.heap.size = n3 at *
                refine hK1 _ _ ?_
                clear hK1 K1
                refine wpAny_ready (rs := [0]) (by kernel_rfl) (by decide) ?_
                refine AllReady.cons rfl (fun K1 hK1 => ?_) AllReady.nil
                go_simp
                refine hK1 _ _ ?_
                clear hK1 K1
                refine wpAny_ready (rs := [4]) (by kernel_rfl) (by decide) ?_
                refine AllReady.cons rfl (fun K1 hK1 => ?_) AllReady.nil
                refine step_appT (.tmp 24) (.tmp 27) _ _ _ H3.out rfl rfl rfl rfl ?_
                rintro v4 w4 ⟨c4, f4, I4⟩
                obtain ⟨a4, k4, e4⟩ := I4.own.len
                obtain ⟨m4, em4⟩ : ∃ m4, m4 = (ts ++ [t]).length := ⟨_, rfl⟩
                rw [← em4] at e4
                clear em4
                subst e4
                have I4 := hide I4
                clear H3
                refine hK1 _ _ ?_
                clear hK1 K1
                refine wpAny_ready (rs := [5]) (by kernel_rfl) (by decide) ?_
                refine AllReady.cons rfl (fun K1 hK1 => ?_) AllReady.nil
                go_simp
                refine hK1 _ _ ?_
                clear hK1 K1
                refine wpAny_done (by kernel_rfl) ?_ _
                clear I I2 I3 c4 f4
                generalize w4.setCell ⟨w.heap.size, 0, none⟩ (.slice a4 m4 k4) = w5 at *
                go_wp2_with fail
                refine (blanks_any _ s j w5 I4.out.rd hs HE.out.2).mono ?_
                rintro e w6 ⟨rfl, r6, t6⟩
                go_wp2_with fail
                go_roundw
                case rel => exact ⟨blF s j, _, ts ++ [t], blF_le _ _ HE.out.2, by rw [List.length_append, List.length_singleton, ← EN.out]; omega, I4.out.tn hG t6 r6, Hr.out⟩
                case measure =>
                  have h6 : posAt w6 (w.heap.size + 1 + 1) = blF s j := r6.posAt
                  rw [h6, HP.out]
                  have := blF_ge s j
                  have := HE.out.1
                  omega
    · have hr2 : Hid (r = .ok ts) := Hr.out.trans (rdF_end hi)
      go_wp2_with fail
      refine (more_no I.out.rd hi).mono ?_
      rintro e wx ⟨rfl, kx, rfl⟩
      have I := hide (I.out.drewN kx)
      generalize wr.drewN kx = w1 at *
      obtain ⟨av, cv, ev⟩ := I.out.own.len
      obtain ⟨n, en⟩ : ∃ n, n = ts.length := ⟨_, rfl⟩
      rw [← en] at ev
      clear en
      subst ev
      have c1 := blk_cell I.out.tv 0 _ rfl
      have c2 := blk_cell I.out.bd 0 _ rfl
      have c3 := blk_cell I.out.bd 1 _ rfl
      have f1 := blk_frz I.out.tv 0
      have f2 := blk_frz I.out.bd 0
      have f3 := blk_frz I.out.bd 1
      obtain ⟨k1, t1⟩ := set1 I.out.tv 0 (.slice av n cv)
      obtain ⟨k2, t2⟩ := set1 ((t1.blk _ (lt_of_blk I.out.bd) (by omega)).trans I.out.bd) 0 .nilIface
      obtain ⟨k3, t3⟩ := set1 k2 1 (.int .i64 0)
      have K1 := hide ((t3.blk _ (Nat.lt_of_lt_of_le (lt_of_blk k1) t2.size) (by omega)).trans ((t2.blk _ (lt_of_blk k1) (by omega)).trans k1))
      have K3 := hide k3
      have O3 := hide (((I.out.own.tn t1 (by omega)).tn t2 (by omega)).tn t3 (by omega))
      have B3 := hide (((I.out.bel.trans (t1.bel (Nat.le_refl _) I.out.bel.size)).trans (t2.bel (by omega) (Nat.le_trans I.out.bel.size t1.size))).trans (t3.bel (by omega) (Nat.le_trans I.out.bel.size (Nat.le_trans t1.size t2.size))))
      clear k1 t1 k2 t2 k3 t3
      go_wp2_with fail
      refine door_end rfl rfl K1.out K3.out ?_
      rw [hr2.out]
      exact ⟨_, rfl, O3.out, B3.out⟩

end Go.Proofs.YtogeblmppagabaaGreatDoor.Ck
