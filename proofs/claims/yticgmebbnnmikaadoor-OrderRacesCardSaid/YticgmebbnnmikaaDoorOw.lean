/- Package order: the races of a trace (Races), and the chapter's examples (alive). -/
import Derived.Test.YticgmebbnnmikaaDoorOv
namespace Go.Proofs.YticgmebbnnmikaaDoor.Ck
open Go.RowKit

theorem own_down {w : World} {B B' : Nat} {T : TypeId} {n : Nat} {v : Value} {len : Nat} {xs : List Value} (h : w.ownsRow B T n v len xs) (hB : B' ≤ B) : w.ownsRow B' T n v len xs := by
  obtain ⟨hl, h0 | ⟨gb, cap, cur, hv, hb, r⟩⟩ := h
  · exact ⟨hl, .inl h0⟩
  · exact ⟨hl, .inr ⟨gb, cap, cur, hv, Nat.le_trans hB hb, r⟩⟩
/-- the races of a trace in the order in which they are found -/
def racesM (R : List Int) (T : List Ev) : List Rc := (raceF T (pastsM R T) T.length).1
set_option maxRecDepth 20000 in
set_option maxHeartbeats 2000000 in
/-- Races, by what the sort gives -/
theorem races_of {w : World} {vT vR ev : Value} {T : List Ev} {R : List Int} (hT : SlE w vT T) (hR : Sl w vR R) (hE : Er w ev) (hF : formT T = true) (hW : ∀ k, k < T.length → wfI (T.getD k zE).o) (hn : T.length ≤ 100000) (Q : List Rc → Prop)
    (SO : ∀ (wb wz : World) v, Below wb.heap.size wb wz → wz.ownsRow wb.heap.size 54 5 v (racesM R T).length ((racesM R T).flatMap rcC) → Calls Tryd.prog 44 #[v, .func (.func 45) #[] #[]] wz (fun e w' => e = .returned (.tuple #[]) ∧ Below wb.heap.size wb w' ∧ ∃ l, Q l ∧ w'.ownsRow wb.heap.size 54 5 v l.length (l.flatMap rcC))) :
    Calls Tryd.prog 15 #[vT, vR] w (fun e w' => ∃ v, e = .returned (.tuple #[v, .nilIface]) ∧ Below w.heap.size w w' ∧ ∃ l, Q l ∧ w'.ownsRow w.heap.size 54 5 v l.length (l.flatMap rcC)) := by
  have CK := hide (check_any hT hE hn)
  rw [hF, show erF ev true = .nilIface from rfl] at CK
  have HT := hide hT
  have HP := hide (fun wz (b : Below w.heap.size w wz) => pasts_any (hT.bel b) (hR.bel b) (fun k hk => formT_at hF k hk) hW hn)
  have RL := hide (fun wz (b : Below w.heap.size w wz) vP (hP : SlS wz vP (pastsM R T)) => racesLoop_any (hT.bel b) hP (fun k hk => formT_at hF k hk) (pastsM_len R T) hW hn Q (fun w2 v b2 ho => SO wz w2 v b2 ho))
  clear hT hR hE hF hW hn SO
  go_enter Tryd.func15, Tryd.ntmps15
  go_wp2_with fail
  refine CK.out.mono ?_
  rintro e w1 ⟨rfl, b1⟩
  have B1 := hide b1
  have P1 := hide (HP.out w1 b1)
  clear b1 CK HP
  go_wp2_with fail
  refine P1.out.mono ?_
  rintro e w2 ⟨v, rfl, b2, hs⟩
  have B2 := hide (bel_trans B1.out b2)
  have L2 := hide (RL.out w2 B2.out v hs)
  clear b2 hs RL P1
  go_wp2_with fail
  refine L2.out.mono ?_
  rintro e w3 ⟨u, rfl, b3, l, ql, ho⟩
  have B3 := hide (bel_trans B2.out b3)
  have O3 := hide (And.intro ql (own_down ho B2.out.size))
  clear b3 ho ql L2
  go_wp2_with fail
  go_ret2
  exact ⟨u, rfl, B3.out, l, O3.out⟩
/-- Races, where there is one race at most -/
theorem races_few {w : World} {vT vR ev : Value} {T : List Ev} {R : List Int} (hT : SlE w vT T) (hR : Sl w vR R) (hE : Er w ev) (hF : formT T = true) (hW : ∀ k, k < T.length → wfI (T.getD k zE).o) (hn : T.length ≤ 100000) (h1 : (racesM R T).length ≤ 1) :
    Calls Tryd.prog 15 #[vT, vR] w (fun e w' => ∃ v, e = .returned (.tuple #[v, .nilIface]) ∧ Below w.heap.size w w' ∧ w'.ownsRow w.heap.size 54 5 v (racesM R T).length ((racesM R T).flatMap rcC)) :=
  (races_of hT hR hE hF hW hn (fun l => l = racesM R T) (fun wb wz v b ho => by
    obtain ⟨a, c, e, _⟩ := own_slice ho
    subst e
    exact (sort_small a c _ _ h1 wz).mono fun _ _ ⟨q1, q2⟩ => by subst q2; exact ⟨q1, b, _, rfl, ho⟩)).mono fun _ _ ⟨v, e, b, l, ql, o⟩ => by
    subst ql
    exact ⟨v, e, b, o⟩
def exA : List Ev := [⟨0, 2, 0, 0⟩, ⟨0, 10, 1, 0⟩, ⟨1, 1, 0, 0⟩]
def exB : List Ev := [⟨0, 10, 1, 0⟩, ⟨0, 2, 0, 4⟩, ⟨1, 1, 0, 9⟩]
theorem exA_none : racesM [] exA = [] := by kernel_rfl
theorem exB_one : racesM [] exB = [⟨0, 4, 9, true, false⟩] := by kernel_rfl
/-- a literal slice of three events -/
theorem SlE.three {w : World} {b : Nat} {x y z : Ev} (h : w.heap[b]? = some (.cells (evC x ++ evC y ++ evC z).toArray 47 (0, 0))) : SlE w (.slice (some ⟨b, 0, none⟩) 3 3) [x, y, z] := by
  refine ⟨_, 3, rfl, Nat.le_refl _, by unfold maxLen; omega, fun i hi => ⟨b, 0, rfl, lt_of_blk h, ?_⟩⟩
  rcases (by simp at hi; omega : i = 0 ∨ i = 1 ∨ i = 2) with rfl | rfl | rfl <;> exact ⟨blk_cell h _ _ rfl, blk_cell h _ _ rfl, blk_cell h _ _ rfl, blk_cell h _ _ rfl⟩
set_option maxRecDepth 20000 in
set_option maxHeartbeats 2000000 in
theorem alive18_any {w : World} {ev : Value} (hE : Er w ev) : Calls Tryd.prog 6 #[] w (Vb w (.bool true)) := by
  have B1 := hide (bel_new w (.cells (evC ⟨0, 2, 0, 0⟩ ++ evC ⟨0, 10, 1, 0⟩ ++ evC ⟨1, 1, 0, 0⟩).toArray 47))
  have S1 := hide (SlE.three (Go.Deep.blk_alloc_new w (.cells (evC ⟨0, 2, 0, 0⟩ ++ evC ⟨0, 10, 1, 0⟩ ++ evC ⟨1, 1, 0, 0⟩).toArray 47)))
  have RA := hide (races_few (T := exA) (R := []) S1.out (Sl.nilS _) (hE.bel B1.out) (by decide) (by intro k hk; rcases (by simp [exA] at hk; omega : k = 0 ∨ k = 1 ∨ k = 2) with rfl | rfl | rfl <;> (unfold wfI; decide)) (by decide) (by rw [exA_none]; decide))
  rw [exA_none] at RA
  have HE := hide hE
  clear hE
  go_enter Tryd.func6, Tryd.ntmps6
  go_wp2_with fail
  refine RA.out.mono ?_
  rintro e w2 ⟨v, rfl, b2, ho⟩
  have B2 := hide (bel_trans B1.out b2)
  obtain ⟨a, c, e, _⟩ := own_slice ho
  subst e
  have B3 := hide (bel_trans B2.out (bel_new w2 (.cells (evC ⟨0, 10, 1, 0⟩ ++ evC ⟨0, 2, 0, 4⟩ ++ evC ⟨1, 1, 0, 9⟩).toArray 47)))
  have S3 := hide (SlE.three (Go.Deep.blk_alloc_new w2 (.cells (evC ⟨0, 10, 1, 0⟩ ++ evC ⟨0, 2, 0, 4⟩ ++ evC ⟨1, 1, 0, 9⟩).toArray 47)))
  have RB := hide (races_few (T := exB) (R := []) S3.out (Sl.nilS _) (HE.out.bel B3.out) (by decide) (by intro k hk; rcases (by simp [exB] at hk; omega : k = 0 ∨ k = 1 ∨ k = 2) with rfl | rfl | rfl <;> (unfold wfI; decide)) (by decide) (by rw [exB_one]; decide))
  rw [exB_one] at RB
  clear b2 ho RA S1 B1
  go_wp2_with fail
  refine RB.out.mono ?_
  rintro e w4 ⟨v, rfl, b4, ho⟩
  have B4 := hide (bel_trans B3.out b4)
  obtain ⟨b0, c0, e, _⟩ := own_some ho (by decide)
  subst e
  have k0 := (own_cell ho 0 _ rfl).1
  have k1 := (own_cell ho 1 _ rfl).1
  have k2 := (own_cell ho 2 _ rfl).1
  have k3 := (own_cell ho 3 _ rfl).1
  have k4 := (own_cell ho 4 _ rfl).1
  clear b4 ho RB S3
  go_wp2_with fail
  go_ret
  exact ⟨rfl, B4.out⟩
end Go.Proofs.YticgmebbnnmikaaDoor.Ck
