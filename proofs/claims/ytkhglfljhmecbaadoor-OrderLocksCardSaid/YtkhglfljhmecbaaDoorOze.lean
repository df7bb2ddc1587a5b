/- The statement OrderLocks: what is kept of a trace under one mutex. (Written by mk_oze.py.) -/
import Derived.Test.YtkhglfljhmecbaaDoorOzf
import Derived.Test.YtkhglfljhmecbaaDoorOx
import Derived.Deep.QuietTactic
import Derived.BigQuiet
import Derived.Carry
namespace Go.Proofs.YtkhglfljhmecbaaDoor.Ck
open Go.RowKit

theorem RoX.setI {w0 w : World} {x : Nat} {e : Ev} {v u : Value} {l m : List Ev} (h : RoX w0 w x e v u l m) (i : Nat) (y : Int) (e' : Ev) (he : (evC e').toArray = (evC e).toArray.setIfInBounds i (.int .i64 y)) : RoX w0 (w.setCell ⟨x, i, none⟩ (.int .i64 y)) x e' v u l m := by
  have hx : ∀ k, k ≠ x → (w.setCell ⟨x, i, none⟩ (.int .i64 y)).heap[k]? = w.heap[k]? := fun k hk => Below.heap_setCell _ _ _ _ hk
  refine ⟨⟨own_keep h.mm.rd (fun k hk => hx k (fun q => h.xv (q ▸ hk))), own_keep h.mm.ow (fun k hk => hx k (fun q => h.xu (q ▸ hk))), h.mm.ap, h.mm.bel.setCell h.xl _⟩, ?_, h.xl, h.xv, h.xu⟩
  rw [he]
  exact heap_setCell_same w x i _ _ _ h.xx
/-- what was kept of k events -/
structure LoM (w0 w : World) (v : Value) (mu h : Int) (L : List Ev) (k : Nat) : Prop where
  row : RoM w0 w v (.slice none 0 0) L []
  lk : Lk mu L h
  len : L.length ≤ k
  obj : ∀ e ∈ L, wfI e.o
theorem obj_snoc {L : List Ev} {e : Ev} (h : ∀ e ∈ L, wfI e.o) (he : wfI e.o) : ∀ x ∈ L ++ [e], wfI x.o := fun x hx => by
  rcases List.mem_append.1 hx with hx | hx
  · exact h x hx
  · rw [List.mem_singleton] at hx
    subst hx
    exact he
theorem rom_nil (w0 : World) {w : World} (hb : Below w0.heap.size w0 w) : RoM w0 (w.alloc (.cells #[] 47)) (.slice (some ⟨w.heap.size, 0, none⟩) 0 0) (.slice none 0 0) [] [] :=
  ⟨⟨rfl, .inr ⟨w.heap.size, 0, #[], rfl, hb.size, Go.Deep.blk_alloc_new w _, Nat.le_refl _, Nat.zero_le _, by simp, by simp⟩⟩, ⟨rfl, .inl ⟨rfl, rfl⟩⟩, (fun k _ hk2 => by cases hk2), bel_trans hb (bel_new w _)⟩
theorem and7 (z : Int) : bits .and .i64 z 7 = z % 8 := by
  have h3 : (BitVec.ofInt 64 7).toNat = 2 ^ 3 - 1 := by decide
  have key : (BitVec.ofInt 64 z &&& BitVec.ofInt 64 7).toNat = (z % ((2 ^ 64 : Nat) : Int)).toNat % 2 ^ 3 := by
    rw [BitVec.toNat_and, BitVec.toNat_ofInt, h3, Nat.and_two_pow_sub_one_eq_mod]
  show IntKind.i64.wrap ((BitVec.ofInt 64 z &&& BitVec.ofInt 64 7).toNat : Nat) = z % 8
  rw [key, IntKind.wrap_i64]
  omega
theorem g8_of (z : Int) : 0 ≤ bits .and .i64 z 7 ∧ bits .and .i64 z 7 < 8 := by
  rw [and7]
  omega
set_option maxRecDepth 20000 in
set_option maxHeartbeats 8000000 in
theorem locks_main {w : World} {vT ev : Value} {T : List Ev} {mu : Int} (hE : Er w ev) (hT : SlE w vT T) (hW : ∀ k, k < T.length → wfI (T.getD k zE).o) (hM : wfI mu) : Calls Tryd.prog 5 #[vT, .int .i64 mu] w (Vb w (.bool true)) := by
  obtain ⟨aT, cT, rfl, hcT, hcT2⟩ := hT.form
  have AL := hide (alive18_any hE)
  have HE := hide hE
  have HT := hide hT
  have HW := hide hW
  have HM := hide hM
  clear hE hT hW hM
  go_enter Tryd.func5, Tryd.ntmps5
  go_wp2_with fail
  refine AL.out.mono ?_
  rintro e w1 ⟨rfl, b1⟩
  have B1 := hide b1
  clear b1 AL
  by_cases h2 : 200 < T.length
  · have h2' : (200 : Int) < (T.length : Int) := by omega
    go_wp2_with fail
    go_ret
    exact ⟨rfl, B1.out⟩
  have h2' : ¬ (200 : Int) < (T.length : Int) := by omega
  go_upto_region 7 with fail
  have R0 := hide (rom_nil w B1.out)
  generalize w1.alloc (.cells #[] 47) = wS at *
  generalize (Value.slice (some ⟨w1.heap.size, 0, none⟩) 0 0) = vA at *
  clear B1
  go_wp2_with fail
  go_loopw [5, 6, 23] (fun x5 x6 x23 wr => ∃ (k : Nat) (v : Value) (h : Int) (L : List Ev), k ≤ T.length ∧ x5 = v ∧ x6 = .int .i64 h ∧ x23 = .int .i64 (k : Nat) ∧ Hid (LoM w wr v mu h L k)) (fun _ _ x23 _ => T.length - (intOf x23).toNat)
  case atStart => exact ⟨0, _, -1, [], Nat.zero_le _, rfl, rfl, rfl, hide ⟨R0.out, Lk.none, Nat.zero_le _, fun _ h => by cases h⟩⟩
  case round =>
    obtain ⟨k, v, h, L, hk, rfl, rfl, rfl, hI⟩ := hrel
    have H := hide hI.out
    clear hI R0
    by_cases hlt : k < T.length
    · have hlt' : (k : Int) < (T.length : Int) := by omega
      obtain ⟨bT, off, rfl, hbT, t0, t1, t2, t3⟩ := (HT.out.bel H.out.row.bel).at k hlt
      have WO := hide (HW.out k hlt)
      have LL := hide (And.intro H.out.len (show k ≤ 200 by omega))
      have LW := hide H.out.lk.low
      obtain ⟨e, hev⟩ : ∃ q, q = T.getD k zE := ⟨_, rfl⟩
      rw [← hev] at t0 t1 t2 t3 WO
      obtain ⟨eg, ek, eo, ea⟩ := e
      simp only at t0 t1 t2 t3
      clear hev hk
      obtain ⟨aR, cR, rfl, _⟩ := own_slice H.out.row.rd
      have LK := hide H.out.lk
      have OB := hide H.out.obj
      have X1 := hide (H.out.row.box ⟨eg, ek, eo, ea⟩)
      go_upto_region 10 with fail
      have X1 : Hid (RoX w (wr.alloc (.cells #[.int .i64 eg, .int .i64 ek, .int .i64 eo, .int .i64 ea] 47)) wr.heap.size ⟨eg, ek, eo, ea⟩ _ _ L []) := X1
      generalize wr.alloc (.cells #[.int .i64 eg, .int .i64 ek, .int .i64 eo, .int .i64 ea] 47) = w1 at *
      clear t0 t1 t2 t3
      have z10 : w1.cell? ⟨wr.heap.size, 0, none⟩ = some (.int .i64 eg) := blk_cell X1.out.xx 0 _ rfl
      have f1 : w1.frozen? ⟨wr.heap.size, 0, none⟩ = false := blk_frz X1.out.xx 0
      go_upto_region 11 with fail
      have G8 := hide (g8_of eg)
      have X2 := hide (X1.out.setI 0 (bits BinOp.and IntKind.i64 eg 7) ⟨bits BinOp.and IntKind.i64 eg 7, ek, eo, ea⟩ rfl)
      generalize w1.setCell ⟨wr.heap.size, 0, none⟩ (.int .i64 (bits BinOp.and IntKind.i64 eg 7)) = w2 at *
      generalize bits BinOp.and IntKind.i64 eg 7 = g at *
      clear z10 f1 X1 H
      by_cases k1 : ek = 1
      ·
        subst k1
        have z20 : w2.cell? ⟨wr.heap.size, 0, none⟩ = some (.int .i64 g) := blk_cell X2.out.xx 0 _ rfl
        have z21 : w2.cell? ⟨wr.heap.size, 1, none⟩ = some (.int .i64 1) := blk_cell X2.out.xx 1 _ rfl
        have z22 : w2.cell? ⟨wr.heap.size, 2, none⟩ = some (.int .i64 eo) := blk_cell X2.out.xx 2 _ rfl
        have z23 : w2.cell? ⟨wr.heap.size, 3, none⟩ = some (.int .i64 ea) := blk_cell X2.out.xx 3 _ rfl
        have f2 : w2.frozen? ⟨wr.heap.size, 2, none⟩ = false := blk_frz X2.out.xx 2
        by_cases hg : h = g
        · subst hg
          have hg' : (h != h) = false := by simp
          have PU := hide (fun ty => RoX.push X2.out (by have := LL.out; omega) ty)
          go_wp2_with (first | (at_builtin; refine wpList_appG (TS := 22) (.tmp 68) (.tmp 70) _ _ _ PU.out rfl rfl rfl rfl ?_; rintro vR w5 ⟨⟨a5, c5, rfl⟩, x5⟩; have X5 := hide x5; clear x5 PU))
          go_roundw
          case rel => exact ⟨k + 1, _, _, _, by omega, rfl, rfl, by first | rfl | go_num, hide ⟨X5.out.mm, Lk.acc LK.out G8.out.1 G8.out.2 (.inl rfl) rfl, by rw [List.length_append, List.length_singleton]; have := LL.out; omega, obj_snoc OB.out WO.out⟩⟩
          case measure => simp [intOf]; omega
        · have hg' : (h != g) = true := by simpa using hg
          go_wp2_with fail
          go_roundw
          case rel => exact ⟨k + 1, _, _, L, by omega, rfl, rfl, by first | rfl | go_num, hide ⟨X2.out.mm, LK.out, by have := LL.out; omega, OB.out⟩⟩
          case measure => simp [intOf]; omega
      by_cases k2 : ek = 2
      ·
        subst k2
        have z20 : w2.cell? ⟨wr.heap.size, 0, none⟩ = some (.int .i64 g) := blk_cell X2.out.xx 0 _ rfl
        have z21 : w2.cell? ⟨wr.heap.size, 1, none⟩ = some (.int .i64 2) := blk_cell X2.out.xx 1 _ rfl
        have z22 : w2.cell? ⟨wr.heap.size, 2, none⟩ = some (.int .i64 eo) := blk_cell X2.out.xx 2 _ rfl
        have z23 : w2.cell? ⟨wr.heap.size, 3, none⟩ = some (.int .i64 ea) := blk_cell X2.out.xx 3 _ rfl
        have f2 : w2.frozen? ⟨wr.heap.size, 2, none⟩ = false := blk_frz X2.out.xx 2
        by_cases hg : h = g
        · subst hg
          have hg' : (h != h) = false := by simp
          have PU := hide (fun ty => RoX.push X2.out (by have := LL.out; omega) ty)
          go_wp2_with (first | (at_builtin; refine wpList_appG (TS := 22) (.tmp 68) (.tmp 70) _ _ _ PU.out rfl rfl rfl rfl ?_; rintro vR w5 ⟨⟨a5, c5, rfl⟩, x5⟩; have X5 := hide x5; clear x5 PU))
          go_roundw
          case rel => exact ⟨k + 1, _, _, _, by omega, rfl, rfl, by first | rfl | go_num, hide ⟨X5.out.mm, Lk.acc LK.out G8.out.1 G8.out.2 (.inr rfl) rfl, by rw [List.length_append, List.length_singleton]; have := LL.out; omega, obj_snoc OB.out WO.out⟩⟩
          case measure => simp [intOf]; omega
        · have hg' : (h != g) = true := by simpa using hg
          go_wp2_with fail
          go_roundw
          case rel => exact ⟨k + 1, _, _, L, by omega, rfl, rfl, by first | rfl | go_num, hide ⟨X2.out.mm, LK.out, by have := LL.out; omega, OB.out⟩⟩
          case measure => simp [intOf]; omega
      by_cases k3 : ek = 3
      ·
        subst k3
        have z20 : w2.cell? ⟨wr.heap.size, 0, none⟩ = some (.int .i64 g) := blk_cell X2.out.xx 0 _ rfl
        have z21 : w2.cell? ⟨wr.heap.size, 1, none⟩ = some (.int .i64 3) := blk_cell X2.out.xx 1 _ rfl
        have z22 : w2.cell? ⟨wr.heap.size, 2, none⟩ = some (.int .i64 eo) := blk_cell X2.out.xx 2 _ rfl
        have z23 : w2.cell? ⟨wr.heap.size, 3, none⟩ = some (.int .i64 ea) := blk_cell X2.out.xx 3 _ rfl
        have f2 : w2.frozen? ⟨wr.heap.size, 2, none⟩ = false := blk_frz X2.out.xx 2
        go_upto_region 18 with fail
        have X3 := hide (X2.out.setI 2 mu ⟨g, 3, mu, ea⟩ rfl)
        generalize w2.setCell ⟨wr.heap.size, 2, none⟩ (.int .i64 mu) = w3 at *
        clear z20 z21 z22 z23 f2
        have z30 : w3.cell? ⟨wr.heap.size, 0, none⟩ = some (.int .i64 g) := blk_cell X3.out.xx 0 _ rfl
        have z31 : w3.cell? ⟨wr.heap.size, 1, none⟩ = some (.int .i64 3) := blk_cell X3.out.xx 1 _ rfl
        have z32 : w3.cell? ⟨wr.heap.size, 2, none⟩ = some (.int .i64 mu) := blk_cell X3.out.xx 2 _ rfl
        have z33 : w3.cell? ⟨wr.heap.size, 3, none⟩ = some (.int .i64 ea) := blk_cell X3.out.xx 3 _ rfl
        have f3 : w3.frozen? ⟨wr.heap.size, 2, none⟩ = false := blk_frz X3.out.xx 2
        by_cases hg : 0 ≤ h
        ·
          go_wp2_with fail
          go_roundw
          case rel => exact ⟨k + 1, _, _, L, by omega, rfl, rfl, by first | rfl | go_num, hide ⟨X3.out.mm, LK.out, by have := LL.out; omega, OB.out⟩⟩
          case measure => simp [intOf]; omega
        ·
          have PU := hide (fun ty => RoX.push X3.out (by have := LL.out; omega) ty)
          go_wp2_with (first | (at_builtin; refine wpList_appG (TS := 22) (.tmp 68) (.tmp 70) _ _ _ PU.out rfl rfl rfl rfl ?_; rintro vR w5 ⟨⟨a5, c5, rfl⟩, x5⟩; have X5 := hide x5; clear x5 PU))
          go_roundw
          case rel => exact ⟨k + 1, _, _, _, by omega, rfl, rfl, by first | rfl | go_num, hide ⟨X5.out.mm, Lk.lock LK.out (by omega) G8.out.1 G8.out.2 rfl rfl, by rw [List.length_append, List.length_singleton]; have := LL.out; omega, obj_snoc OB.out HM.out⟩⟩
          case measure => simp [intOf]; omega
      by_cases k4 : ek = 4
      ·
        subst k4
        have z20 : w2.cell? ⟨wr.heap.size, 0, none⟩ = some (.int .i64 g) := blk_cell X2.out.xx 0 _ rfl
        have z21 : w2.cell? ⟨wr.heap.size, 1, none⟩ = some (.int .i64 4) := blk_cell X2.out.xx 1 _ rfl
        have z22 : w2.cell? ⟨wr.heap.size, 2, none⟩ = some (.int .i64 eo) := blk_cell X2.out.xx 2 _ rfl
        have z23 : w2.cell? ⟨wr.heap.size, 3, none⟩ = some (.int .i64 ea) := blk_cell X2.out.xx 3 _ rfl
        have f2 : w2.frozen? ⟨wr.heap.size, 2, none⟩ = false := blk_frz X2.out.xx 2
        go_upto_region 18 with fail
        have X3 := hide (X2.out.setI 2 mu ⟨g, 4, mu, ea⟩ rfl)
        generalize w2.setCell ⟨wr.heap.size, 2, none⟩ (.int .i64 mu) = w3 at *
        clear z20 z21 z22 z23 f2
        have z30 : w3.cell? ⟨wr.heap.size, 0, none⟩ = some (.int .i64 g) := blk_cell X3.out.xx 0 _ rfl
        have z31 : w3.cell? ⟨wr.heap.size, 1, none⟩ = some (.int .i64 4) := blk_cell X3.out.xx 1 _ rfl
        have z32 : w3.cell? ⟨wr.heap.size, 2, none⟩ = some (.int .i64 mu) := blk_cell X3.out.xx 2 _ rfl
        have z33 : w3.cell? ⟨wr.heap.size, 3, none⟩ = some (.int .i64 ea) := blk_cell X3.out.xx 3 _ rfl
        have f3 : w3.frozen? ⟨wr.heap.size, 2, none⟩ = false := blk_frz X3.out.xx 2
        by_cases hg : h = g
        · subst hg
          have hg' : (h != h) = false := by simp
          have PU := hide (fun ty => RoX.push X3.out (by have := LL.out; omega) ty)
          go_wp2_with (first | (at_builtin; refine wpList_appG (TS := 22) (.tmp 68) (.tmp 70) _ _ _ PU.out rfl rfl rfl rfl ?_; rintro vR w5 ⟨⟨a5, c5, rfl⟩, x5⟩; have X5 := hide x5; clear x5 PU))
          go_roundw
          case rel => exact ⟨k + 1, _, _, _, by omega, rfl, rfl, by first | rfl | go_num, hide ⟨X5.out.mm, Lk.unlock LK.out G8.out.1 G8.out.2 rfl rfl rfl, by rw [List.length_append, List.length_singleton]; have := LL.out; omega, obj_snoc OB.out HM.out⟩⟩
          case measure => simp [intOf]; omega
        · have hg' : (h != g) = true := by simpa using hg
          go_wp2_with fail
          go_roundw
          case rel => exact ⟨k + 1, _, _, L, by omega, rfl, rfl, by first | rfl | go_num, hide ⟨X3.out.mm, LK.out, by have := LL.out; omega, OB.out⟩⟩
          case measure => simp [intOf]; omega
      have z20 : w2.cell? ⟨wr.heap.size, 0, none⟩ = some (.int .i64 g) := blk_cell X2.out.xx 0 _ rfl
      have z21 : w2.cell? ⟨wr.heap.size, 1, none⟩ = some (.int .i64 ek) := blk_cell X2.out.xx 1 _ rfl
      have z22 : w2.cell? ⟨wr.heap.size, 2, none⟩ = some (.int .i64 eo) := blk_cell X2.out.xx 2 _ rfl
      have z23 : w2.cell? ⟨wr.heap.size, 3, none⟩ = some (.int .i64 ea) := blk_cell X2.out.xx 3 _ rfl
      have f2 : w2.frozen? ⟨wr.heap.size, 2, none⟩ = false := blk_frz X2.out.xx 2
      have n1 : (ek == 1) = false := by simpa using k1
      have n2 : (ek == 2) = false := by simpa using k2
      have n3 : (ek == 3) = false := by simpa using k3
      have n4 : (ek == 4) = false := by simpa using k4
      go_wp2_with fail
      go_roundw
      case rel => exact ⟨k + 1, _, _, L, by omega, rfl, rfl, by first | rfl | go_num, hide ⟨X2.out.mm, LK.out, by have := LL.out; omega, OB.out⟩⟩
      case measure => simp [intOf]; omega
    · obtain rfl : k = T.length := by omega
      have BW := hide H.out.row.bel
      have S1 := hide (SlE.own H.out.row.rd)
      have NL := hide (show L.length ≤ 100000 by have := H.out.len; omega)
      have q1 := locks_none (R := []) H.out.lk NL.out
      have KN := hide (locks_kn (R := []) H.out.lk NL.out).1
      have OB := hide H.out.obj
      have C1 := hide (races_few S1.out (SlN wr) (HE.out.bel BW.out) KN.out (fun k hk => OB.out _ (mem_getD hk)) NL.out (by rw [q1]; decide))
      rw [q1] at C1
      have O1 := hide (ones_none [] T (by omega))
      have TL := hide (show T.length ≤ 100000 by omega)
      clear q1 S1 H h2' hlt OB KN NL
      go_wp2_with fail
      refine C1.out.mono ?_
      rintro e w3 ⟨r1, rfl, b3, o3⟩
      obtain ⟨a1, c1, rfl, _⟩ := own_slice o3
      have B3 := hide (BW.out.trans (b3.mono BW.out.size))
      clear b3 o3 C1 BW
      go_upto_region 25 with fail
      have RN := hide (rom_nil w B3.out)
      have AP := hide (fun ty => append_any (HT.out.bel RN.out.bel) RN.out.bel RN.out.rd TL.out ty)
      clear RN B3
      go_upto_region 26 with (first | (at_builtin; refine wpList_appG (TS := 22) (.tmp 78) (.tmp 79) _ _ _ AP.out rfl rfl rfl rfl ?_; rintro u w5 ⟨bU, cU, rfl, m5⟩; have M5 := hide m5; clear m5 AP))
      go_wp2_with fail
      go_loopw [83] (fun x83 wr => ∃ k : Nat, k ≤ T.length ∧ x83 = .int .i64 (k : Nat) ∧ Hid (MiM w wr bU cU T (mixT T k))) (fun x83 _ => T.length - (intOf x83).toNat)
      case atStart => exact ⟨0, Nat.zero_le _, rfl, hide (by rw [mix_zero]; exact M5.out)⟩
      case round =>
        obtain ⟨k, hk, rfl, hI⟩ := hrel
        have M := hide hI.out
        clear hI M5
        by_cases hlt : k < T.length
        · have hlt' : (k : Int) < (T.length : Int) := by omega
          have ML := hide (mix_len T k hk)
          have MA := hide (mix_at T k hlt)
          have MS := hide (mix_step T k hlt)
          have K8 := hide (show k < T.length ∧ k + 1 ≤ T.length ∧ T.length - (k + 1) < T.length - k by omega)
          obtain ⟨e, he⟩ : ∃ q, q = T.getD k zE := ⟨_, rfl⟩
          rw [← he] at MA MS
          obtain ⟨eg, ek, eo, ea⟩ := e
          clear he hk
          have y0 : wr.cell? ⟨bU, k * 4, none⟩ = some (.int .i64 eg) := (M.out.at ML.out k hlt 0 (by omega) _ (by rw [MA.out]; rfl)).1
          have f0 : wr.frozen? ⟨bU, k * 4, none⟩ = false := (M.out.at ML.out k hlt 0 (by omega) (.int .i64 eg) (by rw [MA.out]; rfl)).2
          go_upto_region 30 with fail
          have M2 : Hid (MiM w (wr.setCell ⟨bU, k * 4, none⟩ (.int .i64 0)) bU cU T ((mixT T k).set k ⟨0, ek, eo, ea⟩)) := hide (M.out.set ML.out k hlt 0 (by omega) (.int .i64 0) ⟨0, ek, eo, ea⟩ (by rw [MA.out]; rfl))
          generalize wr.setCell ⟨bU, k * 4, none⟩ (.int .i64 0) = w6 at *
          clear y0 f0 M
          have L2 := hide (show ((mixT T k).set k ⟨0, ek, eo, ea⟩).length = T.length by rw [List.length_set]; exact ML.out)
          have A2 := hide (set_at (mixT T k) k ⟨0, ek, eo, ea⟩ (by rw [ML.out]; exact hlt))
          have y1 : w6.cell? ⟨bU, k * 4 + 1, none⟩ = some (.int .i64 ek) := (M2.out.at L2.out k hlt 1 (by omega) _ (by rw [A2.out]; rfl)).1
          have f1 : w6.frozen? ⟨bU, k * 4 + 1, none⟩ = false := (M2.out.at L2.out k hlt 1 (by omega) (.int .i64 ek) (by rw [A2.out]; rfl)).2
          by_cases k1 : ek = 10
          · subst k1
            go_upto_region 32 with fail
            have M3 : Hid (MiM w (w6.setCell ⟨bU, k * 4 + 1, none⟩ (.int .i64 11)) bU cU T (((mixT T k).set k ⟨0, 10, eo, ea⟩).set k ⟨0, 11, eo, ea⟩)) := hide (M2.out.set L2.out k K8.out.1 1 (by omega) (.int .i64 11) ⟨0, 11, eo, ea⟩ (by rw [A2.out]; rfl))
            generalize w6.setCell ⟨bU, k * 4 + 1, none⟩ (.int .i64 11) = w8 at *
            clear y1 f1 M2
            have E3 := hide (show mixT T (k + 1) = ((mixT T k).set k ⟨0, 10, eo, ea⟩).set k ⟨0, 11, eo, ea⟩ from by rw [MS.out, List.set_set, show oneE ⟨eg, 10, eo, ea⟩ = ⟨0, 11, eo, ea⟩ from by unfold oneE; rw [if_pos (.inl rfl)]])
            go_wp2_with fail
            go_roundw
            case rel => exact ⟨k + 1, K8.out.2.1, by first | rfl | go_num, hide (by rw [E3.out]; exact M3.out)⟩
            case measure => simp [intOf]; have := K8.out; omega
          have n0 : (ek == 10) = false := by simpa using k1
          by_cases k2 : ek < 1
          ·
            go_upto_region 32 with fail
            have M3 : Hid (MiM w (w6.setCell ⟨bU, k * 4 + 1, none⟩ (.int .i64 11)) bU cU T (((mixT T k).set k ⟨0, ek, eo, ea⟩).set k ⟨0, 11, eo, ea⟩)) := hide (M2.out.set L2.out k K8.out.1 1 (by omega) (.int .i64 11) ⟨0, 11, eo, ea⟩ (by rw [A2.out]; rfl))
            generalize w6.setCell ⟨bU, k * 4 + 1, none⟩ (.int .i64 11) = w8 at *
            clear y1 f1 M2
            have E3 := hide (show mixT T (k + 1) = ((mixT T k).set k ⟨0, ek, eo, ea⟩).set k ⟨0, 11, eo, ea⟩ from by rw [MS.out, List.set_set, show oneE ⟨eg, ek, eo, ea⟩ = ⟨0, 11, eo, ea⟩ from by unfold oneE; rw [if_pos (by simp only; omega)]])
            go_wp2_with fail
            go_roundw
            case rel => exact ⟨k + 1, K8.out.2.1, by first | rfl | go_num, hide (by rw [E3.out]; exact M3.out)⟩
            case measure => simp [intOf]; have := K8.out; omega
          by_cases k3 : 12 < ek
          ·
            go_upto_region 32 with fail
            have M3 : Hid (MiM w (w6.setCell ⟨bU, k * 4 + 1, none⟩ (.int .i64 11)) bU cU T (((mixT T k).set k ⟨0, ek, eo, ea⟩).set k ⟨0, 11, eo, ea⟩)) := hide (M2.out.set L2.out k K8.out.1 1 (by omega) (.int .i64 11) ⟨0, 11, eo, ea⟩ (by rw [A2.out]; rfl))
            generalize w6.setCell ⟨bU, k * 4 + 1, none⟩ (.int .i64 11) = w8 at *
            clear y1 f1 M2
            have E3 := hide (show mixT T (k + 1) = ((mixT T k).set k ⟨0, ek, eo, ea⟩).set k ⟨0, 11, eo, ea⟩ from by rw [MS.out, List.set_set, show oneE ⟨eg, ek, eo, ea⟩ = ⟨0, 11, eo, ea⟩ from by unfold oneE; rw [if_pos (by simp only; omega)]])
            go_wp2_with fail
            go_roundw
            case rel => exact ⟨k + 1, K8.out.2.1, by first | rfl | go_num, hide (by rw [E3.out]; exact M3.out)⟩
            case measure => simp [intOf]; have := K8.out; omega
          have E3 := hide (show mixT T (k + 1) = (mixT T k).set k ⟨0, ek, eo, ea⟩ from by rw [MS.out, show oneE ⟨eg, ek, eo, ea⟩ = ⟨0, ek, eo, ea⟩ from by unfold oneE; rw [if_neg (by simp only; omega)]])
          have n1 : (ek == 10) = false := by simpa using k1
          go_wp2_with fail
          go_roundw
          case rel => exact ⟨k + 1, K8.out.2.1, by first | rfl | go_num, hide (by rw [E3.out]; exact M2.out)⟩
          case measure => simp [intOf]; have := K8.out; omega
        · obtain rfl : k = T.length := by omega
          have BW := hide M.out.bel
          have S1 := hide (SlE.own (l := T.map oneE) (by have := M.out.row; rw [mix_all] at this; rw [List.length_map]; exact this))
          have q2 := O1.out.2
          have C2 := hide (races_few S1.out (SlN wr) (HE.out.bel BW.out) O1.out.1 (ones_obj HW.out) (by rw [List.length_map]; exact TL.out) (by rw [q2]; decide))
          rw [q2] at C2
          clear q2 S1 M hlt
          go_wp2_with fail
          refine C2.out.mono ?_
          rintro e w7 ⟨r2, rfl, b7, o7⟩
          obtain ⟨a2, c2, rfl, _⟩ := own_slice o7
          have B7 := hide (BW.out.trans (b7.mono BW.out.size))
          clear b7 o7 C2 BW
          go_wp2_with fail
          go_ret
          exact ⟨rfl, B7.out⟩
end Go.Proofs.YtkhglfljhmecbaaDoor.Ck
