/- Package order: the races of a trace, one after another (races). (Written by mk_o.py.) -/
import Derived.Test.YticgmebbnnmikaaDoorOt
namespace Go.Proofs.YticgmebbnnmikaaDoor.Ck
open Go.RowKit

/-- the races that were found behind k events, and the places' spots -/
def raceF (T : List Ev) (ps : List Sn) : Nat → List Rc × (Int → Option Sp)
  | 0 => ([], fun _ => none)
  | k + 1 =>
    if accB (T.getD k zE) = true then
      (if (takeM T ps (raceF T ps k).2 k).1 ≠ -1 then (raceF T ps k).1 ++ [raceM (T.getD (takeM T ps (raceF T ps k).2 k).1.toNat zE) (T.getD k zE)] else (raceF T ps k).1, (takeM T ps (raceF T ps k).2 k).2)
    else raceF T ps k
theorem readF_at (T : List Ev) (ps : List Sn) (s : Sp) (at_ n : Nat) (h : SpOk s n) : ∀ r, r ≤ 8 → readF T ps s at_ r = -1 ∨ 0 ≤ readF T ps s at_ r ∧ readF T ps s at_ r < n
  | 0, _ => .inl rfl
  | r + 1, hr => by
    have ih := readF_at T ps s at_ n h r (by omega)
    have hw := (h (8 - (r + 1)) (by omega)).1
    unfold readF
    split <;> omega
theorem firstM_at (T : List Ev) (ps : List Sn) (s : Sp) (at_ n : Nat) (h : SpOk s n) : firstM T ps s at_ = -1 ∨ 0 ≤ firstM T ps s at_ ∧ firstM T ps s at_ < n := by
  unfold firstM
  split
  · exact lastM_at T ps s at_ n h 8 (by omega)
  · exact readF_at T ps s at_ n h 8 (by omega)
theorem sp1_ok (n : Nat) : SpOk sp1 n := fun _ _ => ⟨.inl rfl, .inl rfl⟩
theorem SpOk.more {s : Sp} {n m : Nat} (h : SpOk s n) (hm : n ≤ m) : SpOk s m := fun i hi => by
  have := h i hi
  constructor
  · have := this.1; omega
  · have := this.2; omega
def FsOk (F : Int → Option Sp) (n : Nat) : Prop := ∀ o s, F o = some s → SpOk s n
theorem take_ok {T : List Ev} {ps : List Sn} {F : Int → Option Sp} {k : Nat} (h : FsOk F k) : FsOk (takeM T ps F k).2 (k + 1) ∧ ((takeM T ps F k).1 = -1 ∨ 0 ≤ (takeM T ps F k).1 ∧ (takeM T ps F k).1 < k) := by
  have h0 : SpOk ((F (T.getD k zE).o).getD sp1) k := by
    cases e : F (T.getD k zE).o with
    | none => exact sp1_ok k
    | some s => exact h _ s e
  unfold takeM
  split
  · exact ⟨fun o s hs => (h o s hs).more (Nat.le_succ _), .inl rfl⟩
  · refine ⟨fun o s hs => ?_, firstM_at T ps _ k k h0⟩
    simp only [up] at hs
    split at hs
    · injection hs with hs
      subst hs
      unfold putS
      have h1 := h0.more (Nat.le_succ k)
      split
      · intro i hi
        refine ⟨(h1 i hi).1, ?_⟩
        simp only [setS]
        split
        · omega
        · exact (h1 i hi).2
      · intro i hi
        refine ⟨?_, (h1 i hi).2⟩
        simp only [setS]
        split
        · omega
        · exact (h1 i hi).1
    · exact (h o s hs).more (Nat.le_succ _)
theorem race_ok (T : List Ev) (ps : List Sn) : ∀ k, FsOk (raceF T ps k).2 k
  | 0 => fun _ _ h => by cases h
  | k + 1 => by
    have ih := race_ok T ps k
    unfold raceF
    split
    · exact (take_ok ih).1
    · exact fun o s hs => (ih o s hs).more (Nat.le_succ _)
theorem race_len (T : List Ev) (ps : List Sn) : ∀ k, (raceF T ps k).1.length ≤ k
  | 0 => Nat.le_refl _
  | k + 1 => by
    have ih := race_len T ps k
    unfold raceF
    split
    · simp only
      split
      · simp; omega
      · omega
    · omega
/-- the finder in memory, while it goes on -/
structure RaM (w0 w : World) (bf bm : Nat) (vT vP : Value) (T : List Ev) (ps : List Sn) (v : Value) (l : List Rc) (F : Int → Option Sp) (n : Nat) : Prop where
  f : w.heap[bf]? = some (.cells #[vT, vP, .map (some bm)] 93 (0, 0))
  tr : SlE w0 vT T
  pa : SlS w0 vP ps
  sp : MSp w bm n F
  row : w.ownsRow w0.heap.size 54 5 v l.length (l.flatMap rcC)
  lf : w0.heap.size ≤ bf
  lm : w0.heap.size ≤ bm
  bel : Below w0.heap.size w0 w
theorem RaM.fi {w0 w : World} {bf bm : Nat} {vT vP v : Value} {T : List Ev} {ps : List Sn} {l : List Rc} {F : Int → Option Sp} {n : Nat} (h : RaM w0 w bf bm vT vP T ps v l F n) (hG : ∀ i, i < T.length → evB (T.getD i zE) = true) (hl : ps.length = T.length) : Fi w bf vT vP T ps :=
  ⟨blk_cell h.f 0 _ rfl, blk_cell h.f 1 _ rfl, h.tr.bel h.bel, h.pa.bel h.bel, hG, hl⟩
theorem RaM.below {w0 w w' : World} {bf bm : Nat} {vT vP v : Value} {T : List Ev} {ps : List Sn} {l : List Rc} {F : Int → Option Sp} {n : Nat} (h : RaM w0 w bf bm vT vP T ps v l F n) (hb : Below w.heap.size w w') : RaM w0 w' bf bm vT vP T ps v l F n :=
  ⟨(hb.block _ (lt_of_blk h.f)).trans h.f, h.tr, h.pa, h.sp.keep (hb.block _ (VMap.lt h.sp)), own_keep h.row (fun k hk => hb.block k (own_type h.row hk).2.1), h.lf, h.lm, h.bel.trans (hb.mono h.bel.size)⟩
theorem RaM.took {w0 w w' : World} {bf bm : Nat} {vT vP v : Value} {T : List Ev} {ps : List Sn} {l : List Rc} {F F' : Int → Option Sp} {n : Nat} (h : RaM w0 w bf bm vT vP T ps v l F n) (hs : MSp w' bm (n + 1) F') (hg : w.grownBy w' (some bm)) : RaM w0 w' bf bm vT vP T ps v l F' (n + 1) := by
  have ho : ∀ k, k < w.heap.size → k ≠ bm → w'.heap[k]? = w.heap[k]? := fun k hk hne => hg.block k hk (fun e => hne (Option.some.inj e))
  refine ⟨(ho bf (lt_of_blk h.f) (fun e => ?_)).trans h.f, h.tr, h.pa, hs, own_keep h.row (fun k hk => ho k (own_type h.row hk).2.1 (row_map h.row (VMap.blk h.sp) hk)), h.lf, h.lm, h.bel.trans ⟨hg.os, hg.tape, hg.output, hg.size, fun k hk => ho k (Nat.lt_of_lt_of_le hk h.bel.size) (by have := h.lm; omega)⟩⟩
  obtain ⟨_, _, h2⟩ := VMap.blk h.sp
  have h3 := h.f
  rw [e, h2] at h3
  injection h3 with h3
  cases h3
theorem RaM.grew {w0 w w' : World} {bf bm : Nat} {vT vP v u : Value} {T : List Ev} {ps : List Sn} {l l' : List Rc} {F : Int → Option Sp} {n : Nat} (h : RaM w0 w bf bm vT vP T ps v l F n) (hu : w'.ownsRow w0.heap.size 54 5 u l'.length (l'.flatMap rcC)) (hg : w.grownBy w' v.ownBlock) : RaM w0 w' bf bm vT vP T ps u l' F n := by
  obtain ⟨_, _, h2⟩ := VMap.blk h.sp
  have hne : ∀ {k : Nat} {o9 : Obj}, w.heap[k]? = some o9 → (∀ c9, o9 ≠ .cells c9 54 (0, 0)) → w'.heap[k]? = w.heap[k]? := fun hk hne => hg.block _ (lt_of_blk hk) (fun e => by
    obtain ⟨_, _, cc, hc⟩ := own_type h.row e.symm
    rw [hk] at hc
    exact hne cc (Option.some.inj hc))
  refine ⟨(hne h.f (fun c9 e => by injection e with _ e _; revert e; decide)).trans h.f, h.tr, h.pa, h.sp.keep (hne h2 (fun c9 e => by cases e)), hu, h.lf, h.lm, ⟨hg.os.trans h.bel.os, hg.tape.trans h.bel.tape, hg.output.trans h.bel.output, Nat.le_trans h.bel.size hg.size, fun k hk => (hg.block k (Nat.lt_of_lt_of_le hk h.bel.size) (fun e => ?_)).trans (h.bel.block k hk)⟩⟩
  have := (own_type h.row e.symm).1
  omega
theorem rcC_one (r : Rc) : ∀ u ∈ rcC r, u.oneCell' = true := fun u hu => by
  simp [rcC] at hu
  rcases hu with rfl | rfl | rfl | rfl | rfl <;> rfl
set_option maxRecDepth 20000 in
set_option maxHeartbeats 2000000 in
theorem racesLoop_any {w : World} {vT vP : Value} {T : List Ev} {ps : List Sn} (hT : SlE w vT T) (hP : SlS w vP ps) (hG : ∀ i, i < T.length → evB (T.getD i zE) = true) (hl : ps.length = T.length) (hW : ∀ k, k < T.length → wfI (T.getD k zE).o) (hn : T.length ≤ 100000)
    (Q : List Rc → Prop) (SORT : ∀ wz v, Below w.heap.size w wz → wz.ownsRow w.heap.size 54 5 v (raceF T ps T.length).1.length ((raceF T ps T.length).1.flatMap rcC) → Calls Tryd.prog 44 #[v, .func (.func 45) #[] #[]] wz (fun e w' => e = .returned (.tuple #[]) ∧ Below w.heap.size w w' ∧ ∃ l, Q l ∧ w'.ownsRow w.heap.size 54 5 v l.length (l.flatMap rcC))) :
    Calls Tryd.prog 27 #[vT, vP] w (fun e w' => ∃ v, e = .returned v ∧ Below w.heap.size w w' ∧ ∃ l, Q l ∧ w'.ownsRow w.heap.size 54 5 v l.length (l.flatMap rcC)) := by
  obtain ⟨aT, cT, rfl, hcT, _⟩ := hT.form
  obtain ⟨aP, cP, rfl, _, _⟩ := hP.form
  have hmm := @run_makeMap Tryd.prog
  have HT := hide hT
  have HP := hide hP
  have HG := hide hG
  have HL := hide hl
  have HW := hide hW
  have HN := hide hn
  have SO := hide SORT
  clear hT hP hG hl hW hn SORT
  go_enter Tryd.func27, Tryd.ntmps27
  go_upto_region 4 with fail
  generalize hw5 : (w.alloc (.map #[] 0)).alloc (.cells #[.slice aT T.length cT, .slice aP ps.length cP, .map (some w.heap.size)] 93) = w5
  obtain ⟨bf, hbf⟩ : ∃ q, q = w.heap.size + 1 := ⟨_, rfl⟩
  rw [← hbf]
  have H5 : Hid (RaM w w5 bf w.heap.size (.slice aT T.length cT) (.slice aP ps.length cP) T ps (.slice none 0 0) [] (fun _ => none) 0) := hide (by
    rw [← hw5, hbf]
    have b1 := bel_new w (.map #[] 0)
    have b2 := bel_new (w.alloc (.map #[] 0)) (.cells #[.slice aT T.length cT, .slice aP ps.length cP, .map (some w.heap.size)] 93)
    have m1 : MSp (w.alloc (.map #[] 0)) w.heap.size 0 (fun _ => none) := VMap.made w _
    refine ⟨?_, HT.out, HP.out, m1.keep (b2.block _ (by simp)), ⟨rfl, .inl ⟨rfl, rfl⟩⟩, by omega, Nat.le_refl _, bel_trans b1 b2⟩
    have := Go.Deep.blk_alloc_new (w.alloc (.map #[] 0)) (.cells #[.slice aT T.length cT, .slice aP ps.length cP, .map (some w.heap.size)] 93)
    simpa using this)
  obtain ⟨bm, hbm⟩ : ∃ q, q = w.heap.size := ⟨_, rfl⟩
  have H5 : Hid (RaM w w5 bf bm (.slice aT T.length cT) (.slice aP ps.length cP) T ps (.slice none 0 0) [] (fun _ => none) 0) := hide (by rw [hbm]; exact H5.out)
  clear hw5 hbf hbm hmm
  go_loopw [6, 17] (fun x6 x17 wr => ∃ (k : Nat) (v : Value), k ≤ T.length ∧ x6 = v ∧ x17 = .int .i64 (k : Nat) ∧ Hid (RaM w wr bf bm (.slice aT T.length cT) (.slice aP ps.length cP) T ps v (raceF T ps k).1 (raceF T ps k).2 k)) (fun _ x17 _ => T.length - (intOf x17).toNat)
  case atStart => exact ⟨0, _, Nat.zero_le _, rfl, rfl, H5⟩
  case round =>
    obtain ⟨k, v, hk, rfl, rfl, hI⟩ := hrel
    have H := hide hI.out
    clear hI H5
    by_cases hlt : k < T.length
    · have hlt' : (k : Int) < (T.length : Int) := by omega
      have he := HG.out k hlt
      have ho := HW.out k hlt
      obtain ⟨bT, off, rfl, hbT, t0, t1, t2, t3⟩ := (H.out.tr.bel H.out.bel).at k hlt
      have WE : Hid (raceF T ps (k + 1) = if accB (T.getD k zE) = true then (if (takeM T ps (raceF T ps k).2 k).1 ≠ -1 then (raceF T ps k).1 ++ [raceM (T.getD (takeM T ps (raceF T ps k).2 k).1.toNat zE) (T.getD k zE)] else (raceF T ps k).1, (takeM T ps (raceF T ps k).2 k).2) else raceF T ps k) := hide rfl
      have TO := hide (take_ok (T := T) (ps := ps) (race_ok T ps k))
      have RO := hide (race_ok T ps k)
      have RL := hide (race_len T ps k)
      have HO := hide ho
      obtain ⟨ev, hev⟩ : ∃ q, q = T.getD k zE := ⟨_, rfl⟩
      rw [← hev] at WE t0 t1 t2 t3
      have AC := hide (fun wz => access_any ev wz)
      have EV := hide hev
      have hk8 : k ≤ 100000 := by have := HN.out; omega
      have MS : Hid (T.length - (k + 1) < T.length - k) := hide (by omega)
      obtain ⟨l, hlq⟩ : ∃ q, q = (raceF T ps k).1 := ⟨_, rfl⟩
      obtain ⟨F, hFq⟩ : ∃ q, q = (raceF T ps k).2 := ⟨_, rfl⟩
      have HRF := hide (show raceF T ps k = (l, F) by rw [hlq, hFq])
      rw [← hlq, ← hFq] at H WE
      rw [← hFq] at TO RO
      rw [← hlq] at RL
      have B1 := hide (bel_new wr (.cells (evC ev).toArray 47))
      have Z1 := hide (Go.Deep.blk_alloc_new wr (.cells (evC ev).toArray 47))
      unfold evV at AC
      clear he ho hev hlq hFq hk
      go_upto_region 6 with fail
      generalize hw1 : wr.alloc (.cells #[.int .i64 ev.g, .int .i64 ev.k, .int .i64 ev.o, .int .i64 ev.a] 47) = w1
      have B1 : Hid (Below wr.heap.size wr w1) := by rw [← hw1]; exact B1
      have Z1 : Hid (w1.heap[wr.heap.size]? = some (.cells #[.int .i64 ev.g, .int .i64 ev.k, .int .i64 ev.o, .int .i64 ev.a] 47 (0, 0))) := by rw [← hw1]; exact Z1
      clear hw1 t0 t1 t2 t3
      have z0 := blk_cell Z1.out 0 _ rfl
      have z1 := blk_cell Z1.out 1 _ rfl
      have z2 := blk_cell Z1.out 2 _ rfl
      have z3 := blk_cell Z1.out 3 _ rfl
      have H1 := hide (H.out.below B1.out)
      cases hb : accB ev with
      | false =>
        rw [hb] at WE AC
        have e9 : Hid (raceF T ps (k + 1) = (l, F)) := hide (WE.out.trans HRF.out)
        go_wp2_with (first | (go_at_call 41; refine (AC.out _).mono ?_; rintro e w2 ⟨rfl, b2⟩; have B2 := hide b2; clear b2))
        go_roundw
        case rel => exact ⟨k + 1, _, by omega, rfl, by first | rfl | go_num, hide (by
          rw [e9.out]
          obtain ⟨D, q1, q2⟩ := (H1.out.below B2.out).sp
          exact { H1.out.below B2.out with sp := ⟨D, q1.mono (Nat.le_succ _), q2⟩ })⟩
        case measure => simp [intOf]; omega
      | true =>
        rw [hb] at WE AC
        go_upto_region 7 with (first | (go_at_call 41; refine (AC.out _).mono ?_; rintro e w2 ⟨rfl, b2⟩; have B2 := hide b2; clear b2))
        have H2 := hide (H1.out.below B2.out)
        have TK := hide (take_any (H2.out.fi HG.out HL.out) (blk_cell H2.out.f 2 _ rfl) H2.out.sp (by unfold maxLen; omega) k hlt HO.out RO.out)
        have Z2 := hide ((B2.out.block _ (lt_of_blk Z1.out)).trans Z1.out)
        obtain ⟨tk, htk⟩ : ∃ q, q = takeM T ps F k := ⟨_, rfl⟩
        rw [← htk] at TK WE TO
        obtain ⟨fi, F2⟩ := tk
        clear htk z0 z1 z2 z3 AC
        go_upto_region 8 with (first | (go_at_call 42; refine TK.out.mono ?_; rintro e w3 ⟨rfl, s3, g3⟩; have S3 := hide s3; have G3 := hide g3; clear s3 g3))
        have H3 := hide (H2.out.took S3.out G3.out)
        have Z3 := hide ((G3.out.block wr.heap.size (lt_of_blk Z2.out) (fun e => by
          obtain ⟨_, _, h2⟩ := VMap.blk H2.out.sp
          have h3 := Z2.out
          rw [Option.some.inj e, h2] at h3
          injection h3 with h3
          cases h3)).trans Z2.out)
        by_cases hf : fi = -1
        · subst hf
          have e9 : Hid (raceF T ps (k + 1) = (l, F2)) := hide (by rw [WE.out]; simp)
          clear TK
          go_wp2_with fail
          go_roundw
          case rel => exact ⟨k + 1, _, by omega, rfl, by first | rfl | go_num, hide (by rw [e9.out]; exact H3.out)⟩
          case measure => simp [intOf]; omega
        · have hf2 : (fi != -1) = true := by simpa using hf
          have hfi := TO.out.2.resolve_left hf
          obtain ⟨j, rfl⟩ : ∃ j : Nat, fi = j := ⟨fi.toNat, by omega⟩
          have hj : j < T.length := by omega
          have hjT : (j : Int) < (T.length : Int) := by omega
          obtain ⟨bT', off', eA, hbT', t0, t1, t2, t3⟩ := (H3.out.tr.bel H3.out.bel).at j hj
          injection eA with eA
          injection eA with e1 e2 _
          subst e1 e2
          obtain ⟨fe, hfe⟩ : ∃ q, q = T.getD j zE := ⟨_, rfl⟩
          rw [← hfe] at t0 t1 t2 t3
          have e9 : Hid (raceF T ps (k + 1) = (l ++ [raceM fe ev], F2)) := hide (by rw [WE.out, if_pos trivial, if_pos (by omega), Int.toNat_natCast, ← hfe])
          have hbT0 : bT < w.heap.size := by
            obtain ⟨b', o', e', hlt', _⟩ := HT.out.at j hj
            injection e' with e'
            injection e' with e' _ _
            omega
          have KS := hide (fun (wz : World) (h1 : wz.heap[bT]? = w3.heap[bT]?) (h2 : wz.heap[wr.heap.size]? = w3.heap[wr.heap.size]?) => (show wz.cell? ⟨bT, off + j * 4, none⟩ = some (.int .i64 fe.g) ∧ wz.cell? ⟨bT, off + j * 4 + 1, none⟩ = some (.int .i64 fe.k) ∧ wz.cell? ⟨bT, off + j * 4 + 2, none⟩ = some (.int .i64 fe.o) ∧ wz.cell? ⟨bT, off + j * 4 + 3, none⟩ = some (.int .i64 fe.a) ∧ wz.heap[wr.heap.size]? = some (.cells #[.int .i64 ev.g, .int .i64 ev.k, .int .i64 ev.o, .int .i64 ev.a] 47 (0, 0)) from by
            have key : ∀ i u, w3.cell? ⟨bT, i, none⟩ = some u → wz.cell? ⟨bT, i, none⟩ = some u := fun i u h => by
              have e : wz.cell? ⟨bT, i, none⟩ = w3.cell? ⟨bT, i, none⟩ := by unfold World.cell?; simp only [h1]
              exact e.trans h
            exact ⟨key _ _ t0, key _ _ t1, key _ _ t2, key _ _ t3, h2.trans Z3.out⟩))
          have RA := hide (fun wz => race_any fe ev wz)
          have LB := hide (And.intro hbT' (lt_of_blk Z3.out))
          have PU := hide (fun w4 (hb : Below w3.heap.size w3 w4) ty => pushE (w := w4) (TS := 43) Tryd.underlying43 info_race rfl (by omega) (by omega) (by have := RL.out; omega) (H3.out.below hb).row (H3.out.below hb).bel.size (rcC (raceM fe ev)) rfl (rcC_one _) ty)
          obtain ⟨aV, cV, eV, _⟩ := own_slice H3.out.row
          subst eV
          have NR := hide (show (Value.slice aV l.length cV).ownBlock ≠ some bT ∧ (Value.slice aV l.length cV).ownBlock ≠ some wr.heap.size from ⟨fun e => by have := (own_type H3.out.row e).1; omega, own_at H3.out.row Z3.out (by decide)⟩)
          unfold evV rcV raceM at RA
          have HB0 := hide hbT0
          clear t0 t1 t2 t3 hfe hbT' hbT0 hfi TK TO
          go_upto_region 9 with fail
          refine wp_region_T (S := fun wz => wz.cell? ⟨bT, off + j * 4, none⟩ = some (.int .i64 fe.g) ∧ wz.cell? ⟨bT, off + j * 4 + 1, none⟩ = some (.int .i64 fe.k) ∧ wz.cell? ⟨bT, off + j * 4 + 2, none⟩ = some (.int .i64 fe.o) ∧ wz.cell? ⟨bT, off + j * 4 + 3, none⟩ = some (.int .i64 fe.a) ∧ wz.heap[wr.heap.size]? = some (.cells #[.int .i64 ev.g, .int .i64 ev.k, .int .i64 ev.o, .int .i64 ev.a] 47 (0, 0))) (fun _ => true) mixed (KS.out _ rfl rfl) (fun hH => ?_)
          refine Tm 0 ?_
          simp only [Act.put, SA]
          refine Tm 1 ?_
          simp only [Act.put, SA]
          refine Tm 2 ?_
          simp only [Act.put, SA]
          refine Tm 3 ?_
          simp only [Act.put, SA]
          refine Tl 4 (v := ?_) ?_ hH ?_
          rotate_left 1
          · (intro wy hSw; have q0 := hSw.1; have q1 := hSw.2.1; have q2 := hSw.2.2.1; have q3 := hSw.2.2.2.1; clear hSw; go_simp <;> with_reducible rfl)
          simp only [Act.put, SA]
          refine Tl 5 (v := ?_) ?_ hH ?_
          rotate_left 1
          · (intro wy hSw; refine exec_load_row 47 (.tmp 8) ?_ wr.heap.size ?_ _ _ _ _ hSw.2.2.2.2 Tryd.underlying47 rfl (by kernel_rfl) <;> rfl)
          simp only [Act.put, SA]
          refine Tr 6 (fun K1 hK1 => ?_)
          go_simp
          refine (RA.out _).mono ?_
          rintro e w4 ⟨rfl, b4⟩
          have B4 := hide (bel_trans (Below.refl w3.heap.size w3).drew b4)
          refine hK1.out _ _ (fun _ => KS.out _ (B4.out.block _ LB.out.1) (B4.out.block _ LB.out.2)) (fun _ => ?_)
          clear hK1 K1 b4 hH
          refine Tr 7 (fun K1 hK1 => ?_)
          go_simp
          have B5 := hide (bel_trans B4.out (bel_new w4 (.cells (rcC (raceM fe ev)).toArray 54)))
          refine hK1.out _ _ (fun _ => KS.out _ (B5.out.block _ LB.out.1) (B5.out.block _ LB.out.2)) (fun _ => ?_)
          clear hK1 K1
          refine Tr 8 (fun K1 hK1 => ?_)
          rw [if_pos (by rfl)]
          refine wp_appG (TS := 43) (.tmp 30) (.tmp 37) _ _ _ (PU.out w4 B4.out) rfl rfl rfl ?_
          rintro u w9 ⟨⟨a9, c9, rfl⟩, o9, g9, _⟩
          have O9 := hide o9
          have G9 := hide g9
          clear o9 g9
          refine hK1.out _ _ (fun _ => KS.out _ ((G9.out.block _ (Nat.lt_of_lt_of_le LB.out.1 B4.out.size) (fun e => NR.out.1 e.symm)).trans (B4.out.block _ LB.out.1)) ((G9.out.block _ (Nat.lt_of_lt_of_le LB.out.2 B4.out.size) (fun e => NR.out.2 e.symm)).trans (B4.out.block _ LB.out.2))) (fun _ => ?_)
          clear hK1 K1
          refine Tm 9 ?_
          simp only [Act.put, SA]
          refine T_done (by kernel_rfl) ?_ _
          have H9 := hide ((H3.out.below B4.out).grew (l' := l ++ [raceM fe ev]) (by rw [List.length_append, List.flatMap_append]; simpa using O9.out) G9.out)
          go_wp2_with fail
          go_roundw
          case rel => exact ⟨k + 1, _, by omega, rfl, by first | rfl | go_num, hide (by rw [e9.out]; exact H9.out)⟩
          case measure => simp [intOf]; omega
    · obtain rfl : k = T.length := by omega
      have BW := hide H.out.bel
      have S1 := hide (SO.out _ _ BW.out H.out.row)
      obtain ⟨aV, cV, eV, _⟩ := own_slice H.out.row
      subst eV
      go_wp2_with fail
      refine S1.out.mono ?_
      rintro e w2 ⟨rfl, b2, o2⟩
      have X := hide (And.intro b2 o2)
      clear b2 o2 S1
      go_wp2_with fail
      go_ret
      exact ⟨.slice aV (raceF T ps T.length).1.length cV, rfl, X.out.1, X.out.2⟩
end Go.Proofs.YticgmebbnnmikaaDoor.Ck
