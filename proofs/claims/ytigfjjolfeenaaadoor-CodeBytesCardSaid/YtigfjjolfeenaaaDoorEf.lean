/- Package code: several entries are read. (Written by mk_e.py.) -/
import Derived.Test.YtigfjjolfeenaaaDoorEe
namespace Go.Proofs.YtigfjjolfeenaaaDoor.Ck
open Go.RowKit

def cl_E (y : Fn3 × Value) : List Value := [.int .i64 y.1.st, .int .i64 y.1.pa, y.2]
def cls_E (ys : List (Fn3 × Value)) : List Value := ys.flatMap cl_E
theorem info_E : (Tryd.prog.info? 47).map (fun i => (i.zero, i.size, i.bytes)) = some (some (.agg #[.int .i64 0, .int .i64 0, .slice none 0 0]), 3, 40) := by kernel_rfl
def Los (B : Nat) (w : World) (ys : List (Fn3 × Value)) : Prop := ∀ y ∈ ys, w.ownsRow B 3 1 y.2 y.1.lo.length (cls_int y.1.lo)
theorem Los.keep {B : Nat} {w w' : World} {ys : List (Fn3 × Value)} (h : Los B w ys) (t : ∀ k, B ≤ k → k < w.heap.size → w'.heap[k]? = w.heap[k]?) : Los B w' ys := fun y hy => own_keep (h y hy) (fun k hk => t k (own_type (h y hy) hk).1 (own_type (h y hy) hk).2.1)
theorem Los.snoc {B : Nat} {w : World} {ys : List (Fn3 × Value)} {y : Fn3 × Value} (h : Los B w ys) (hy : w.ownsRow B 3 1 y.2 y.1.lo.length (cls_int y.1.lo)) : Los B w (ys ++ [y]) := fun x hx => by
  rcases List.mem_append.1 hx with hx | hx
  · exact h x hx
  · simp at hx
    subst hx
    exact hy
/-- entries of the call's own -/
def Ents (B : Nat) (w : World) (v : Value) (F : List Fn3) : Prop := ∃ ys : List (Fn3 × Value), ys.map Prod.fst = F ∧ w.ownsRow B 47 3 v F.length (cls_E ys) ∧ Los B w ys
theorem pushE {w : World} {lo n b : Nat} {v : Value} {ys : List (Fn3 × Value)} {y : Fn3 × Value} (h : w.ownsRow lo 47 3 v n (cls_E ys)) (hy : ∃ a c k, y.2 = .slice a c k) (hL : Los lo w (ys ++ [y])) (hb : w.heap[b]? = some (.cells #[.int .i64 y.1.st, .int .i64 y.1.pa, y.2] 47 (0, 0))) (hn : n ≤ 100000) (hlo : lo ≤ w.heap.size) (ty : TypeId) :
    ∃ v' w', (Builtin.append_ #[24, 24] ty #[v, .slice (some ⟨b, 0, none⟩) 1 1]).run Tryd.prog w = .ok v' w' ∧ ((∃ a c, v' = .slice a (n + 1) c) ∧ w'.ownsRow lo 47 3 v' (n + 1) (cls_E (ys ++ [y])) ∧ Below lo w w' ∧ Los lo w' (ys ++ [y])) := by
  obtain ⟨ie, hi, hz0, hz1, hz2⟩ := info_parts info_E
  have hn' : ∀ j u, (cl_E y)[j]? = some u → w.cell? ((⟨b, 0, none⟩ : Addr).add j) = some u := fun j u hu => by
    have e2 : (Addr.mk b 0 none).add j = ⟨b, j, none⟩ := by unfold Addr.add; by_cases h : j = 0 <;> simp [h]
    rw [e2]
    exact blk_cell hb j u (by rw [← hu]; unfold cl_E; simp)
  obtain ⟨v', w', hr, ho, hg, _⟩ := run_append_own (P := Tryd.prog) w lo 24 ty 47 ie (.agg #[.int .i64 0, .int .i64 0, .slice none 0 0]) 3 40 Tryd.underlying24 hi hz0 hz1 hz2 rfl (by decide) v n (cls_E ys) h ⟨b, 0, none⟩ 1 1 (cl_E y) rfl hn' (fun u hu => by
    obtain ⟨a, c, k, e⟩ := hy
    simp [cl_E, e] at hu
    rcases hu with rfl | rfl | rfl <;> rfl) (by unfold maxLen; omega) (by omega) hlo
  have hown : ∀ k, v.ownBlock = some k → lo ≤ k := fun k hk => (own_type h hk).1
  obtain ⟨a9, c9, e9, _⟩ := own_slice ho
  refine ⟨v', w', hr, ⟨a9, c9, e9⟩, ?_, ⟨hg.os, hg.tape, hg.output, hg.size, fun k hk => hg.block k (by omega) (fun e => by have := hown k e.symm; omega)⟩, fun x hx => own_other (hL x hx) h (by decide) hg⟩
  rw [show cls_E (ys ++ [y]) = cls_E ys ++ cl_E y by simp [cls_E]]
  exact ho
set_option maxRecDepth 20000 in
set_option maxHeartbeats 4000000 in
theorem several_E {w : World} {g B : Nat} {p : List Addr} {l : List Int} (h : Rd w g B p l) (n : Int) (hn0 : 0 ≤ n) : Calls Tryd.prog 48 #[.int .i64 n, .func (.func 49) #[.pointer (some ⟨g, 0, none⟩)] #[]] w (RdP (rSev rFnS n) (Ents w.heap.size) w g B p l) := by
  have H0 := hide h
  have hgl : Hid (g < w.heap.size) := hide (Nat.lt_of_lt_of_le h.gB h.BW)
  have HBW := hide h.BW
  clear h
  by_cases hbig : n ≤ 8192
  case neg =>
    go_enter Tryd.func48, Tryd.ntmps48
    go_wp2_with fail
    refine (must_no H0.out.e).mono ?_
    rintro e w2 ⟨rfl, rfl⟩
    exact ⟨rfl, RdP.stop (Tn.refl _ _) (by unfold rSev; rw [if_neg (by omega)])⟩
  obtain ⟨m, rfl⟩ : ∃ m : Nat, n = m := ⟨n.toNat, by omega⟩
  have HQ : Hid (rSev rFnS (m : Int) l = rRep rFnS m l) := hide (by unfold rSev; rw [if_pos hbig, Int.toNat_natCast])
  go_enter Tryd.func48, Tryd.ntmps48
  go_wp2_with fail
  refine (must_yes _).mono ?_
  rintro e w2 ⟨rfl, rfl⟩
  go_wp2_with fail
  go_loopw [5, 10] (fun v i wr => ∃ (k : Nat) (ys : List (Fn3 × Value)) (r : List Int), k ≤ m ∧ i = .int .i64 k ∧ Hid (ys.length = k) ∧ Hid (wr.ownsRow w.heap.size 47 3 v k (cls_E ys)) ∧ Hid (Los w.heap.size wr ys) ∧ Hid (Rd wr g B p r) ∧ Hid (Tn g w wr) ∧ Hid (rRep rFnS m l = rLeft rFnS (m - k) (ys.map Prod.fst) r)) (fun v i _ => m - (intOf i).toNat)
  case atStart => exact ⟨0, [], l, Nat.zero_le _, rfl, rfl, World.ownsRow_nil _ _ _ _, hide (fun y hy => by cases hy), H0.out, Tn.refl _ _, (rLeft_start _ _ _).symm⟩
  case round =>
    obtain ⟨k, ys, r, hk, rfl, L, O, LO, R, T, Q⟩ := hrel
    clear H0
    by_cases hlt : k < m
    · have h1 : (k : Int) < (m : Int) := by omega
      obtain ⟨av, cv, ev, _⟩ := own_slice O.out
      subst ev
      obtain ⟨d, hd⟩ : ∃ d, m - k = d + 1 := ⟨m - k - 1, by omega⟩
      rw [hd] at Q
      have HD := hide hd
      clear hd
      go_wp2_with fail
      refine (rentry_any R.out).mono ?_
      intro e w3 hp
      rcases hp.both with ⟨x, r2, v, q1, rfl, q0, q2, q3⟩ | ⟨q1, rfl, q3⟩
      case inr => exact ⟨rfl, RdP.stop (T.out.trans q3) (by rw [HQ.out, Q.out]; exact rLeft_none q1)⟩
      obtain ⟨vl, rfl, ol⟩ := q0
      obtain ⟨al, cl, el, _⟩ := own_slice ol
      have O3 : Hid (w3.ownsRow w.heap.size 47 3 (.slice av k cv) k (cls_E ys)) := hide (own_keep O.out (fun b hb => q3.blk b (own_type O.out hb).2.1 (by have := (own_type O.out hb).1; have := hgl.out; omega)))
      have L3 : Hid (Los w.heap.size w3 (ys ++ [(x, vl)])) := hide ((LO.out.keep (fun b hb hb2 => q3.blk b hb2 (by have := hgl.out; omega))).snoc (own_low ol T.out.size))
      have Q3 : Hid (rRep rFnS m l = rLeft rFnS d ((ys ++ [(x, vl)]).map Prod.fst) r2) := hide (by rw [List.map_append]; exact Q.out.trans (rLeft_some q1))
      have T3 := hide (T.out.trans q3)
      have R3 := hide q2
      subst el
      clear q1 q2 q3 hp O R T Q LO ol
      have nb := bel_new w3 (.cells #[.int .i64 x.st, .int .i64 x.pa, .slice al x.lo.length cl] 47)
      have O4 : Hid ((w3.alloc (.cells #[.int .i64 x.st, .int .i64 x.pa, .slice al x.lo.length cl] 47)).ownsRow w.heap.size 47 3 (.slice av k cv) k (cls_E ys)) := hide (own_keep O3.out (fun b hb => nb.block b (own_type O3.out hb).2.1))
      have L4 := hide (L3.out.keep (fun b hb hb2 => nb.block b hb2))
      have PU := hide (fun ty => pushE (b := w3.heap.size) (y := (x, .slice al x.lo.length cl)) O4.out ⟨_, _, _, rfl⟩ L4.out (Go.Deep.blk_alloc_new w3 (.cells #[.int .i64 x.st, .int .i64 x.pa, .slice al x.lo.length cl] 47)) (by omega) (Nat.le_trans T3.out.size nb.size) ty)
      have R4 := hide (R3.out.bel nb)
      have T4 := hide (T3.out.trans (Tn.of_bel nb))
      clear nb R3 T3 O3 O4 L3 L4
      go_wp2_with (first | (at_builtin; refine wpList_appG (TS := 24) (.tmp 12) (.tmp 15) _ _ _ PU.out rfl rfl rfl rfl ?_; rintro v7 w7 ⟨⟨a7, c7, rfl⟩, o7, t7, l7⟩))
      generalize w3.alloc (.cells #[.int .i64 x.st, .int .i64 x.pa, .slice al x.lo.length cl] 47) = w4 at *
      have T7 : Hid (Tn g w w7) := hide ⟨t7.os.trans T4.out.os, t7.tape.trans T4.out.tape, t7.output.trans T4.out.output, Nat.le_trans T4.out.size t7.size, fun b hb hn => (t7.block b hb).trans (T4.out.blk b hb hn)⟩
      have R7 : Hid (Rd w7 g B p r2) := hide (R4.out.keep (Nat.le_trans R4.out.BW t7.size) (fun b hb => t7.block b (Nat.lt_of_lt_of_le hb HBW.out)))
      have O7 := hide o7
      have L7 := hide l7
      clear o7 t7 l7 PU R4 T4
      go_roundw
      case rel => exact ⟨k + 1, ys ++ [(x, .slice al x.lo.length cl)], r2, by omega, by go_num, hide (by rw [List.length_append, List.length_singleton, L.out]), O7, L7, R7, T7, hide (by rw [Q3.out, show m - (k + 1) = d by have := HD.out; omega])⟩
      case measure => simp [intOf]; omega
    · obtain rfl : k = m := by omega
      rw [Nat.sub_self, rLeft_zero] at Q
      obtain ⟨av, cv, ev, _⟩ := own_slice O.out
      subst ev
      go_wp2_with fail
      go_ret
      exact RdP.ok T.out (HQ.out.trans Q.out) ⟨ys, rfl, by rw [List.length_map, L.out]; exact O.out, LO.out⟩ R.out
end Go.Proofs.YtigfjjolfeenaaaDoor.Ck
