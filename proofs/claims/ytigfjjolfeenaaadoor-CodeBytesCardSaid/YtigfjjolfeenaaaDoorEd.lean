/- Package code: several of a kind are read. (Written by mk_r.py.) -/
import Derived.Test.YtigfjjolfeenaaaDoorEc
import Derived.Test.YtigfjjolfeenaaaDoorCp
import Derived.Test.YtigfjjolfeenaaaDoorDa
namespace Go.Proofs.YtigfjjolfeenaaaDoor.Ck
open Go.RowKit

theorem pushG {TS T : TypeId} {sz byt : Nat} {z : Value} (hu : Tryd.prog.underlying TS = some (.slice T)) (hinfo : (Tryd.prog.info? T).map (fun i => (i.zero, i.size, i.bytes)) = some (some z, sz, byt)) (hz : z.cells.size = sz) (hsz : 0 < sz) (hby : byt ≤ 100)
    {w : World} {lo n b : Nat} {v : Value} {xs news : List Value} (h : w.ownsRow lo T sz v n xs) (hl : news.length = sz) (hb : ∀ (j : Nat) u, news[j]? = some u → w.cell? ⟨b, j, none⟩ = some u) (h1 : ∀ u ∈ news, u.oneCell' = true) (hn : n ≤ 100000) (hlo : lo ≤ w.heap.size) (ty : TypeId) :
    ∃ v' w', (Builtin.append_ #[TS, TS] ty #[v, .slice (some ⟨b, 0, none⟩) 1 1]).run Tryd.prog w = .ok v' w' ∧ ((∃ a c, v' = .slice a (n + 1) c) ∧ w'.ownsRow lo T sz v' (n + 1) (xs ++ news) ∧ Below lo w w') := by
  obtain ⟨ie, hi, hz0, hz1, hz2⟩ := info_parts hinfo
  have hn' : ∀ j u, news[j]? = some u → w.cell? ((⟨b, 0, none⟩ : Addr).add j) = some u := fun j u hu => by
    have e2 : (Addr.mk b 0 none).add j = ⟨b, j, none⟩ := by unfold Addr.add; by_cases h : j = 0 <;> simp [h]
    rw [e2]
    exact hb j u hu
  obtain ⟨v', w', hr, ho, hg, _⟩ := run_append_own (P := Tryd.prog) w lo TS ty T ie z sz byt hu hi hz0 hz1 hz2 hz hsz v n xs h ⟨b, 0, none⟩ 1 1 news (by omega) hn' h1 (by unfold maxLen; omega) (by have : (n + 1) * byt ≤ 100001 * 100 := Nat.mul_le_mul (by omega) hby; omega) hlo
  have hown : ∀ k, v.ownBlock = some k → lo ≤ k := fun k hk => (own_type h hk).1
  obtain ⟨a9, c9, e9, _⟩ := own_slice ho
  exact ⟨v', w', hr, ⟨a9, c9, e9⟩, ho, hg.os, hg.tape, hg.output, hg.size, fun k hk => hg.block k (by omega) (fun e => by have := hown k e.symm; omega)⟩
theorem wpList_appG {TS : TypeId} {w : World} {ops : Array Oper} {rest : List Oper} {o : Oper} {a : Act} {Q : Exit → Act → World → Prop} (s x : Operand) (v vx : Value) (R : Value → World → Prop)
    (hrun : ∀ ty, ∃ v' w', (Builtin.append_ #[TS, TS] ty #[v, vx]).run Tryd.prog w = .ok v' w' ∧ R v' w') (hgd : o.guard = none)
    (ho : o.op = .call { callee := .builtin .append, args := #[s, x], argTypes := #[TS, TS] }) (hs : a.eval s = v) (hx : a.eval x = vx)
    (h : ∀ v' w', R v' w' → wpList Tryd.prog ops Q rest (a.put o.dst v') w') : wpList Tryd.prog ops Q (o :: rest) a w :=
  wpList_plain hgd fun _ hK => by
    obtain ⟨v', w', hr, hR⟩ := hrun o.type
    unfold Oper.wp execOp
    simp only [ho, resolve, invoke, builtin, Sem.run_bind, Sem.run_pure, Result.andThen_ok, List.map_toArray, List.map_cons, List.map_nil, hs, hx, hr]
    exact hK _ _ (h v' w' hR)
/-- what is left to be read of several -/
def rLeft {α : Type} (P : Pz α) (m : Nat) (xs : List α) (r : List Int) : Option (List α × List Int) := match rRep P m r with
  | some (ys, r') => some (xs ++ ys, r')
  | none => none
theorem rLeft_zero {α : Type} (P : Pz α) (xs : List α) (r : List Int) : rLeft P 0 xs r = some (xs, r) := by simp [rLeft, rRep, rPure]
theorem rLeft_start {α : Type} (P : Pz α) (m : Nat) (r : List Int) : rLeft P m [] r = rRep P m r := by
  unfold rLeft
  cases rRep P m r with
  | none => rfl
  | some y => rfl
theorem rLeft_none {α : Type} {P : Pz α} {m : Nat} {xs : List α} {r : List Int} (h : P r = none) : rLeft P (m + 1) xs r = none := by
  unfold rLeft
  rw [show rRep P (m + 1) r = none from rBind_none h]
theorem rLeft_some {α : Type} {P : Pz α} {m : Nat} {xs : List α} {r r2 : List Int} {x : α} (h : P r = some (x, r2)) : rLeft P (m + 1) xs r = rLeft P m (xs ++ [x]) r2 := by
  unfold rLeft
  rw [show rRep P (m + 1) r = _ from rBind_some h]
  unfold rBind
  cases rRep P m r2 with
  | none => rfl
  | some y => simp [rPure]
/-- several, if they are not too many -/
def rSev {α : Type} (P : Pz α) (n : Int) : Pz (List α) := fun l => if n ≤ 8192 then rRep P n.toNat l else none
def cl_int (x : Int) : List Value := [.int .i64 x]
def cls_int (l : List Int) : List Value := l.flatMap cl_int
theorem info_int : (Tryd.prog.info? 3).map (fun i => (i.zero, i.size, i.bytes)) = some (some (.int .i64 0), 1, 8) := by kernel_rfl
set_option maxRecDepth 20000 in
set_option maxHeartbeats 4000000 in
theorem several_int {w : World} {g B : Nat} {p : List Addr} {l : List Int} (h : Rd w g B p l) (n : Int) (hn0 : 0 ≤ n) : Calls Tryd.prog 45 #[.int .i64 n, .func (.func 44) #[.pointer (some ⟨g, 0, none⟩)] #[]] w (RdP (rSev (rNum 4) n) (fun w' v xs => w'.ownsRow w.heap.size 3 1 v xs.length (cls_int xs)) w g B p l) := by
  have H0 := hide h
  have hgl : Hid (g < w.heap.size) := hide (Nat.lt_of_lt_of_le h.gB h.BW)
  have HBW := hide h.BW
  clear h
  by_cases hbig : n ≤ 8192
  case neg =>
    go_enter Tryd.func45, Tryd.ntmps45
    go_wp2_with fail
    refine (must_no H0.out.e).mono ?_
    rintro e w2 ⟨rfl, rfl⟩
    exact ⟨rfl, RdP.stop (Tn.refl _ _) (by unfold rSev; rw [if_neg (by omega)])⟩
  obtain ⟨m, rfl⟩ : ∃ m : Nat, n = m := ⟨n.toNat, by omega⟩
  have HQ : Hid (rSev (rNum 4) (m : Int) l = rRep (rNum 4) m l) := hide (by unfold rSev; rw [if_pos hbig, Int.toNat_natCast])
  go_enter Tryd.func45, Tryd.ntmps45
  go_wp2_with fail
  refine (must_yes _).mono ?_
  rintro e w2 ⟨rfl, rfl⟩
  go_wp2_with fail
  go_loopw [5, 10] (fun v i wr => ∃ (k : Nat) (xs : List Int) (r : List Int), k ≤ m ∧ i = .int .i64 k ∧ Hid (xs.length = k) ∧ Hid (wr.ownsRow w.heap.size 3 1 v k (cls_int xs)) ∧ Hid (Rd wr g B p r) ∧ Hid (Tn g w wr) ∧ Hid (rRep (rNum 4) m l = rLeft (rNum 4) (m - k) xs r)) (fun v i _ => m - (intOf i).toNat)
  case atStart => exact ⟨0, [], l, Nat.zero_le _, rfl, rfl, World.ownsRow_nil _ _ _ _, H0.out, Tn.refl _ _, (rLeft_start _ _ _).symm⟩
  case round =>
    obtain ⟨k, xs, r, hk, rfl, L, O, R, T, Q⟩ := hrel
    clear H0
    by_cases hlt : k < m
    · have h1 : (k : Int) < (m : Int) := by omega
      obtain ⟨av, cv, ev, _⟩ := own_slice O.out
      subst ev
      obtain ⟨d, hd⟩ : ∃ d, m - k = d + 1 := ⟨m - k - 1, by omega⟩
      rw [hd] at Q
      have HD := hide hd
      clear hd
      go_wp2_with fail
      refine (number_any R.out).mono ?_
      intro e w3 hp
      rcases hp.both with ⟨x, r2, v, q1, rfl, rfl, q2, q3⟩ | ⟨q1, rfl, q3⟩
      case inr => exact ⟨rfl, RdP.stop (T.out.trans q3) (by rw [HQ.out, Q.out]; exact rLeft_none q1)⟩
      have O3 : Hid (w3.ownsRow w.heap.size 3 1 (.slice av k cv) k (cls_int xs)) := hide (own_keep O.out (fun b hb => q3.blk b (own_type O.out hb).2.1 (by have := (own_type O.out hb).1; have := hgl.out; omega)))
      have Q3 : Hid (rRep (rNum 4) m l = rLeft (rNum 4) d (xs ++ [x]) r2) := hide (Q.out.trans (rLeft_some q1))
      have T3 := hide (T.out.trans q3)
      have R3 := hide q2
      clear q1 q2 q3 hp O R T Q
      have nb := bel_new w3 (.cells #[.int .i64 x] 3)
      have O4 : Hid ((w3.alloc (.cells #[.int .i64 x] 3)).ownsRow w.heap.size 3 1 (.slice av k cv) k (cls_int xs)) := hide (own_keep O3.out (fun b hb => nb.block b (own_type O3.out hb).2.1))
      have PU := hide (fun ty => pushG (b := w3.heap.size) (news := cl_int x) Tryd.underlying22 info_int rfl (by decide) (by decide) O4.out rfl (fun j u hu => blk_cell (Go.Deep.blk_alloc_new w3 (.cells #[.int .i64 x] 3)) j u (by rw [← hu]; unfold cl_int; simp)) (fun u hu => by
        simp [cl_int] at hu
        subst hu; rfl) (by omega) (Nat.le_trans T3.out.size nb.size) ty)
      have R4 := hide (R3.out.bel nb)
      have T4 := hide (T3.out.trans (Tn.of_bel nb))
      clear nb R3 T3 O3 O4
      go_wp2_with (first | (at_builtin; refine wpList_appG (TS := 22) (.tmp 12) (.tmp 15) _ _ _ PU.out rfl rfl rfl rfl ?_; rintro v7 w7 ⟨⟨a7, c7, rfl⟩, o7, t7⟩))
      generalize w3.alloc (.cells #[.int .i64 x] 3) = w4 at *
      have T7 : Hid (Tn g w w7) := hide ⟨t7.os.trans T4.out.os, t7.tape.trans T4.out.tape, t7.output.trans T4.out.output, Nat.le_trans T4.out.size t7.size, fun b hb hn => (t7.block b hb).trans (T4.out.blk b hb hn)⟩
      have R7 : Hid (Rd w7 g B p r2) := hide (R4.out.keep (Nat.le_trans R4.out.BW t7.size) (fun b hb => t7.block b (Nat.lt_of_lt_of_le hb HBW.out)))
      have O7 : Hid (w7.ownsRow w.heap.size 3 1 (.slice a7 (k + 1) c7) (k + 1) (cls_int (xs ++ [x]))) := hide (by rw [show cls_int (xs ++ [x]) = cls_int xs ++ cl_int x by simp [cls_int]]; exact o7)
      clear o7 t7 PU R4 T4
      go_roundw
      case rel => exact ⟨k + 1, xs ++ [x], r2, by omega, by go_num, hide (by rw [List.length_append, List.length_singleton, L.out]), O7, R7, T7, hide (by rw [Q3.out, show m - (k + 1) = d by have := HD.out; omega])⟩
      case measure => simp [intOf]; omega
    · obtain rfl : k = m := by omega
      rw [Nat.sub_self, rLeft_zero] at Q
      obtain ⟨av, cv, ev, _⟩ := own_slice O.out
      subst ev
      go_wp2_with fail
      go_ret
      exact RdP.ok T.out (HQ.out.trans Q.out) (by rw [L.out]; exact O.out) R.out
def cl_apiChan (x : (Int × Int)) : List Value := [.int .i64 x.1, .int .i64 x.2]
def cls_apiChan (l : List (Int × Int)) : List Value := l.flatMap cl_apiChan
theorem info_apiChan : (Tryd.prog.info? 56).map (fun i => (i.zero, i.size, i.bytes)) = some (some (.agg #[.int .i64 0, .int .i64 0]), 2, 16) := by kernel_rfl
set_option maxRecDepth 20000 in
set_option maxHeartbeats 4000000 in
theorem several_apiChan {w : World} {g B : Nat} {p : List Addr} {l : List Int} (h : Rd w g B p l) (n : Int) (hn0 : 0 ≤ n) : Calls Tryd.prog 46 #[.int .i64 n, .func (.func 47) #[.pointer (some ⟨g, 0, none⟩)] #[]] w (RdP (rSev (rChan) n) (fun w' v xs => w'.ownsRow w.heap.size 56 2 v xs.length (cls_apiChan xs)) w g B p l) := by
  have H0 := hide h
  have hgl : Hid (g < w.heap.size) := hide (Nat.lt_of_lt_of_le h.gB h.BW)
  have HBW := hide h.BW
  clear h
  by_cases hbig : n ≤ 8192
  case neg =>
    go_enter Tryd.func46, Tryd.ntmps46
    go_wp2_with fail
    refine (must_no H0.out.e).mono ?_
    rintro e w2 ⟨rfl, rfl⟩
    exact ⟨rfl, RdP.stop (Tn.refl _ _) (by unfold rSev; rw [if_neg (by omega)])⟩
  obtain ⟨m, rfl⟩ : ∃ m : Nat, n = m := ⟨n.toNat, by omega⟩
  have HQ : Hid (rSev (rChan) (m : Int) l = rRep (rChan) m l) := hide (by unfold rSev; rw [if_pos hbig, Int.toNat_natCast])
  go_enter Tryd.func46, Tryd.ntmps46
  go_wp2_with fail
  refine (must_yes _).mono ?_
  rintro e w2 ⟨rfl, rfl⟩
  go_wp2_with fail
  go_loopw [5, 10] (fun v i wr => ∃ (k : Nat) (xs : List (Int × Int)) (r : List Int), k ≤ m ∧ i = .int .i64 k ∧ Hid (xs.length = k) ∧ Hid (wr.ownsRow w.heap.size 56 2 v k (cls_apiChan xs)) ∧ Hid (Rd wr g B p r) ∧ Hid (Tn g w wr) ∧ Hid (rRep (rChan) m l = rLeft (rChan) (m - k) xs r)) (fun v i _ => m - (intOf i).toNat)
  case atStart => exact ⟨0, [], l, Nat.zero_le _, rfl, rfl, World.ownsRow_nil _ _ _ _, H0.out, Tn.refl _ _, (rLeft_start _ _ _).symm⟩
  case round =>
    obtain ⟨k, xs, r, hk, rfl, L, O, R, T, Q⟩ := hrel
    clear H0
    by_cases hlt : k < m
    · have h1 : (k : Int) < (m : Int) := by omega
      obtain ⟨av, cv, ev, _⟩ := own_slice O.out
      subst ev
      obtain ⟨d, hd⟩ : ∃ d, m - k = d + 1 := ⟨m - k - 1, by omega⟩
      rw [hd] at Q
      have HD := hide hd
      clear hd
      go_wp2_with fail
      refine (channel_any R.out).mono ?_
      intro e w3 hp
      rcases hp.both with ⟨x, r2, v, q1, rfl, rfl, q2, q3⟩ | ⟨q1, rfl, q3⟩
      case inr => exact ⟨rfl, RdP.stop (T.out.trans q3) (by rw [HQ.out, Q.out]; exact rLeft_none q1)⟩
      have O3 : Hid (w3.ownsRow w.heap.size 56 2 (.slice av k cv) k (cls_apiChan xs)) := hide (own_keep O.out (fun b hb => q3.blk b (own_type O.out hb).2.1 (by have := (own_type O.out hb).1; have := hgl.out; omega)))
      have Q3 : Hid (rRep (rChan) m l = rLeft (rChan) d (xs ++ [x]) r2) := hide (Q.out.trans (rLeft_some q1))
      have T3 := hide (T.out.trans q3)
      have R3 := hide q2
      clear q1 q2 q3 hp O R T Q
      have nb := bel_new w3 (.cells #[.int .i64 x.1, .int .i64 x.2] 56)
      have O4 : Hid ((w3.alloc (.cells #[.int .i64 x.1, .int .i64 x.2] 56)).ownsRow w.heap.size 56 2 (.slice av k cv) k (cls_apiChan xs)) := hide (own_keep O3.out (fun b hb => nb.block b (own_type O3.out hb).2.1))
      have PU := hide (fun ty => pushG (b := w3.heap.size) (news := cl_apiChan x) Tryd.underlying23 info_apiChan rfl (by decide) (by decide) O4.out rfl (fun j u hu => blk_cell (Go.Deep.blk_alloc_new w3 (.cells #[.int .i64 x.1, .int .i64 x.2] 56)) j u (by rw [← hu]; unfold cl_apiChan; simp)) (fun u hu => by
        simp [cl_apiChan] at hu
        rcases hu with rfl | rfl <;> rfl) (by omega) (Nat.le_trans T3.out.size nb.size) ty)
      have R4 := hide (R3.out.bel nb)
      have T4 := hide (T3.out.trans (Tn.of_bel nb))
      clear nb R3 T3 O3 O4
      go_wp2_with (first | (at_builtin; refine wpList_appG (TS := 23) (.tmp 12) (.tmp 15) _ _ _ PU.out rfl rfl rfl rfl ?_; rintro v7 w7 ⟨⟨a7, c7, rfl⟩, o7, t7⟩))
      generalize w3.alloc (.cells #[.int .i64 x.1, .int .i64 x.2] 56) = w4 at *
      have T7 : Hid (Tn g w w7) := hide ⟨t7.os.trans T4.out.os, t7.tape.trans T4.out.tape, t7.output.trans T4.out.output, Nat.le_trans T4.out.size t7.size, fun b hb hn => (t7.block b hb).trans (T4.out.blk b hb hn)⟩
      have R7 : Hid (Rd w7 g B p r2) := hide (R4.out.keep (Nat.le_trans R4.out.BW t7.size) (fun b hb => t7.block b (Nat.lt_of_lt_of_le hb HBW.out)))
      have O7 : Hid (w7.ownsRow w.heap.size 56 2 (.slice a7 (k + 1) c7) (k + 1) (cls_apiChan (xs ++ [x]))) := hide (by rw [show cls_apiChan (xs ++ [x]) = cls_apiChan xs ++ cl_apiChan x by simp [cls_apiChan]]; exact o7)
      clear o7 t7 PU R4 T4
      go_roundw
      case rel => exact ⟨k + 1, xs ++ [x], r2, by omega, by go_num, hide (by rw [List.length_append, List.length_singleton, L.out]), O7, R7, T7, hide (by rw [Q3.out, show m - (k + 1) = d by have := HD.out; omega])⟩
      case measure => simp [intOf]; omega
    · obtain rfl : k = m := by omega
      rw [Nat.sub_self, rLeft_zero] at Q
      obtain ⟨av, cv, ev, _⟩ := own_slice O.out
      subst ev
      go_wp2_with fail
      go_ret
      exact RdP.ok T.out (HQ.out.trans Q.out) (by rw [L.out]; exact O.out) R.out
def cl_apiInstr (x : In5) : List Value := [.int .i64 x.op, .int .i64 x.a, .int .i64 x.b, .int .u64 x.bits, .int .i64 x.at_]
def cls_apiInstr (l : List In5) : List Value := l.flatMap cl_apiInstr
theorem info_apiInstr : (Tryd.prog.info? 50).map (fun i => (i.zero, i.size, i.bytes)) = some (some (.agg #[.int .i64 0, .int .i64 0, .int .i64 0, .int .u64 0, .int .i64 0]), 5, 40) := by kernel_rfl
set_option maxRecDepth 20000 in
set_option maxHeartbeats 4000000 in
theorem several_apiInstr {w : World} {g B : Nat} {p : List Addr} {l : List Int} (h : Rd w g B p l) (n : Int) (hn0 : 0 ≤ n) : Calls Tryd.prog 50 #[.int .i64 n, .func (.func 51) #[.pointer (some ⟨g, 0, none⟩)] #[]] w (RdP (rSev (rIns) n) (fun w' v xs => w'.ownsRow w.heap.size 50 5 v xs.length (cls_apiInstr xs)) w g B p l) := by
  have H0 := hide h
  have hgl : Hid (g < w.heap.size) := hide (Nat.lt_of_lt_of_le h.gB h.BW)
  have HBW := hide h.BW
  clear h
  by_cases hbig : n ≤ 8192
  case neg =>
    go_enter Tryd.func50, Tryd.ntmps50
    go_wp2_with fail
    refine (must_no H0.out.e).mono ?_
    rintro e w2 ⟨rfl, rfl⟩
    exact ⟨rfl, RdP.stop (Tn.refl _ _) (by unfold rSev; rw [if_neg (by omega)])⟩
  obtain ⟨m, rfl⟩ : ∃ m : Nat, n = m := ⟨n.toNat, by omega⟩
  have HQ : Hid (rSev (rIns) (m : Int) l = rRep (rIns) m l) := hide (by unfold rSev; rw [if_pos hbig, Int.toNat_natCast])
  go_enter Tryd.func50, Tryd.ntmps50
  go_wp2_with fail
  refine (must_yes _).mono ?_
  rintro e w2 ⟨rfl, rfl⟩
  go_wp2_with fail
  go_loopw [5, 10] (fun v i wr => ∃ (k : Nat) (xs : List In5) (r : List Int), k ≤ m ∧ i = .int .i64 k ∧ Hid (xs.length = k) ∧ Hid (wr.ownsRow w.heap.size 50 5 v k (cls_apiInstr xs)) ∧ Hid (Rd wr g B p r) ∧ Hid (Tn g w wr) ∧ Hid (rRep (rIns) m l = rLeft (rIns) (m - k) xs r)) (fun v i _ => m - (intOf i).toNat)
  case atStart => exact ⟨0, [], l, Nat.zero_le _, rfl, rfl, World.ownsRow_nil _ _ _ _, H0.out, Tn.refl _ _, (rLeft_start _ _ _).symm⟩
  case round =>
    obtain ⟨k, xs, r, hk, rfl, L, O, R, T, Q⟩ := hrel
    clear H0
    by_cases hlt : k < m
    · have h1 : (k : Int) < (m : Int) := by omega
      obtain ⟨av, cv, ev, _⟩ := own_slice O.out
      subst ev
      obtain ⟨d, hd⟩ : ∃ d, m - k = d + 1 := ⟨m - k - 1, by omega⟩
      rw [hd] at Q
      have HD := hide hd
      clear hd
      go_wp2_with fail
      refine (rinstr_any R.out).mono ?_
      intro e w3 hp
      rcases hp.both with ⟨x, r2, v, q1, rfl, rfl, q2, q3⟩ | ⟨q1, rfl, q3⟩
      case inr => exact ⟨rfl, RdP.stop (T.out.trans q3) (by rw [HQ.out, Q.out]; exact rLeft_none q1)⟩
      have O3 : Hid (w3.ownsRow w.heap.size 50 5 (.slice av k cv) k (cls_apiInstr xs)) := hide (own_keep O.out (fun b hb => q3.blk b (own_type O.out hb).2.1 (by have := (own_type O.out hb).1; have := hgl.out; omega)))
      have Q3 : Hid (rRep (rIns) m l = rLeft (rIns) d (xs ++ [x]) r2) := hide (Q.out.trans (rLeft_some q1))
      have T3 := hide (T.out.trans q3)
      have R3 := hide q2
      clear q1 q2 q3 hp O R T Q
      have nb := bel_new w3 (.cells #[.int .i64 x.op, .int .i64 x.a, .int .i64 x.b, .int .u64 x.bits, .int .i64 x.at_] 50)
      have O4 : Hid ((w3.alloc (.cells #[.int .i64 x.op, .int .i64 x.a, .int .i64 x.b, .int .u64 x.bits, .int .i64 x.at_] 50)).ownsRow w.heap.size 50 5 (.slice av k cv) k (cls_apiInstr xs)) := hide (own_keep O3.out (fun b hb => nb.block b (own_type O3.out hb).2.1))
      have PU := hide (fun ty => pushG (b := w3.heap.size) (news := cl_apiInstr x) Tryd.underlying25 info_apiInstr rfl (by decide) (by decide) O4.out rfl (fun j u hu => blk_cell (Go.Deep.blk_alloc_new w3 (.cells #[.int .i64 x.op, .int .i64 x.a, .int .i64 x.b, .int .u64 x.bits, .int .i64 x.at_] 50)) j u (by rw [← hu]; unfold cl_apiInstr; simp)) (fun u hu => by
        simp [cl_apiInstr] at hu
        rcases hu with rfl | rfl | rfl | rfl | rfl <;> rfl) (by omega) (Nat.le_trans T3.out.size nb.size) ty)
      have R4 := hide (R3.out.bel nb)
      have T4 := hide (T3.out.trans (Tn.of_bel nb))
      clear nb R3 T3 O3 O4
      go_wp2_with (first | (at_builtin; refine wpList_appG (TS := 25) (.tmp 12) (.tmp 15) _ _ _ PU.out rfl rfl rfl rfl ?_; rintro v7 w7 ⟨⟨a7, c7, rfl⟩, o7, t7⟩))
      generalize w3.alloc (.cells #[.int .i64 x.op, .int .i64 x.a, .int .i64 x.b, .int .u64 x.bits, .int .i64 x.at_] 50) = w4 at *
      have T7 : Hid (Tn g w w7) := hide ⟨t7.os.trans T4.out.os, t7.tape.trans T4.out.tape, t7.output.trans T4.out.output, Nat.le_trans T4.out.size t7.size, fun b hb hn => (t7.block b hb).trans (T4.out.blk b hb hn)⟩
      have R7 : Hid (Rd w7 g B p r2) := hide (R4.out.keep (Nat.le_trans R4.out.BW t7.size) (fun b hb => t7.block b (Nat.lt_of_lt_of_le hb HBW.out)))
      have O7 : Hid (w7.ownsRow w.heap.size 50 5 (.slice a7 (k + 1) c7) (k + 1) (cls_apiInstr (xs ++ [x]))) := hide (by rw [show cls_apiInstr (xs ++ [x]) = cls_apiInstr xs ++ cl_apiInstr x by simp [cls_apiInstr]]; exact o7)
      clear o7 t7 PU R4 T4
      go_roundw
      case rel => exact ⟨k + 1, xs ++ [x], r2, by omega, by go_num, hide (by rw [List.length_append, List.length_singleton, L.out]), O7, R7, T7, hide (by rw [Q3.out, show m - (k + 1) = d by have := HD.out; omega])⟩
      case measure => simp [intOf]; omega
    · obtain rfl : k = m := by omega
      rw [Nat.sub_self, rLeft_zero] at Q
      obtain ⟨av, cv, ev, _⟩ := own_slice O.out
      subst ev
      go_wp2_with fail
      go_ret
      exact RdP.ok T.out (HQ.out.trans Q.out) (by rw [L.out]; exact O.out) R.out
end Go.Proofs.YtigfjjolfeenaaaDoor.Ck
