/- Texts of this proof, packed: contracts of the program's functions, and the plain model that they are held against. -/
import Derived.Test.YtfnplhfjfolojaaGreatDoorQao
set_option maxRecDepth 20000
set_option maxHeartbeats 4000000
namespace Go.Proofs.YtfnplhfjfolojaaGreatDoor.Ck.Sho
open Go.RowKit
def At9 (w : World) (a : Addr) (v0 v1 v2 v3 v4 v5 v6 v7 v8 : Value) : Prop := w.cell? a = some v0 /\ w.cell? ⟨a.block, a.off + 1, none⟩ = some v1 /\ w.cell? ⟨a.block, a.off + 2, none⟩ = some v2 /\ w.cell? ⟨a.block, a.off + 3, none⟩ = some v3 /\ w.cell? ⟨a.block, a.off + 4, none⟩ = some v4 /\ w.cell? ⟨a.block, a.off + 5, none⟩ = some v5 /\ w.cell? ⟨a.block, a.off + 6, none⟩ = some v6 /\ w.cell? ⟨a.block, a.off + 7, none⟩ = some v7 /\ w.cell? ⟨a.block, a.off + 8, none⟩ = some v8
theorem At9.bel {w w' : World} {a : Addr} {v0 v1 v2 v3 v4 v5 v6 v7 v8 : Value} (h : At9 w a v0 v1 v2 v3 v4 v5 v6 v7 v8) (hb : Below w.heap.size w w') : At9 w' a v0 v1 v2 v3 v4 v5 v6 v7 v8 := by
 have hc : ∀ {q : Addr} {u : Value}, w.cell? q = some u -> w'.cell? q = some u := fun hu => (hb.cell (World.block_lt_of_cell? w _ hu)).trans hu
 obtain ⟨h0, h1, h2, h3, h4, h5, h6, h7, h8⟩ := h
 exact ⟨hc h0, hc h1, hc h2, hc h3, hc h4, hc h5, hc h6, hc h7, hc h8⟩
theorem Yi {wB w : World} {a : Addr} {j : Nat} {kd ps : Int} {nm : ByteArray} {t nz z ob bi : Int} {ks : List Nd} (hA : ZD wB a (9 * j) (.mk kd ps nm t nz z ob bi ks)) (hb : Below wB.heap.size wB w) :
 ∃ oa len cap, At9 w (a.add (j * 9)) (.int .i64 kd) (.int .i64 ps) (.string nm) (.int .i64 t) (.int .i64 nz) (.int .i64 z) (.int .i64 ob) (.int .u64 bi) (.slice oa len cap) /\ Zq wB (.mk kd ps nm t nz z ob bi ks) (.agg #[.int .i64 kd, .int .i64 ps, .string nm, .int .i64 t, .int .i64 nz, .int .i64 z, .int .i64 ob, .int .u64 bi, .slice oa len cap]) := by
 obtain ⟨oa, cap, c0, c1, c2, c3, c4, c5, c6, c7, c8, hk⟩ := hA.cells
 have hc : ∀ {q : Addr} {u : Value}, wB.cell? q = some u -> w.cell? q = some u := fun hu => (hb.cell (World.block_lt_of_cell? wB _ hu)).trans hu
 exact ⟨oa, ks.length, cap, ⟨hc c0, hc c1, hc c2, hc c3, hc c4, hc c5, hc c6, hc c7, hc c8⟩, by unfold Zq; exact ⟨_, rfl, hk⟩⟩
def leB (own : Int) (n : Nd) : Bool := decide (holdF n.kind n.name < own) || (holdF n.kind n.name == own && own == 3)
def riB (own : Int) (n : Nd) : Bool := decide (holdF n.kind n.name <= own)
theorem binary_from {wB w : World} {g : Nat} {bo : Option Nat} {l : List UInt8} {ms mt : Value} {k : Int} (hp : Pg w wB.heap.size g bo l ms mt k) (hB : Below wB.heap.size wB w) (ps : Int) (nm : ByteArray) (t nz z ob bi : Int) (x y : Nd) (v : Value) (hv : Zq wB (.mk 31 ps nm t nz z ob bi [x, y]) v) (tx : Nd -> List UInt8) (hrx : RuleP 64 tx wB x) (hry : RuleP 64 tx wB y) (hl : l.length + (prt (leB (rankF nm) x) (tx x) ++ (32 :: (nm.data.toList ++ (32 :: prt (riB (rankF nm) y) (tx y))))).length <= 140737488355328) :
 Calls Tryz.prog 104 #[.pointer (some ⟨g, 0, none⟩), v] w fun e w' => e = .returned (.tuple #[]) /\ ∃ bo', Pg w' wB.heap.size g bo' (l ++ (prt (leB (rankF nm) x) (tx x) ++ (32 :: (nm.data.toList ++ (32 :: prt (riB (rankF nm) y) (tx y)))))) ms mt k /\ Fx g bo w bo' w' := by
 unfold Zq at hv
 obtain ⟨s, rfl, hkk⟩ := hv
 obtain ⟨oa, cap, rfl, hsh⟩ := hkk.kid
 obtain ⟨a, rfl, hc1, hc2, hkid⟩ : ∃ a, oa = some a /\ ([x, y] : List Nd).length <= cap /\ cap <= maxLen /\ ∀ j n, ([x, y] : List Nd)[j]? = some n -> ZD wB a (9 * j) n := by
  rcases hsh with h | h
  · cases h
  · exact h
 unfold maxLen at hc2
 have hc1 : 2 <= cap := by simpa using hc1
 have kA0 := hkid 0 _ rfl
 have kA1 := hkid 1 _ rfl
 clear hkid hsh hkk
 simp only [List.length_cons, List.length_nil, Nat.zero_add, Nat.reduceAdd]
 have hb1 := Zd w (.cells #[.int .i64 31, .int .i64 ps, .string nm, .int .i64 t, .int .i64 nz, .int .i64 z, .int .i64 ob, .int .u64 bi, .slice (some a) 2 cap] 29)
 have Wx := hB.trans (hb1.mono hB.size)
 obtain ⟨kx, px, nx, tyx, nzx, zx, obx, bix, ksx⟩ := x
 obtain ⟨ky, py, ny, tyy, nzy, zy, oby, biy, ksy⟩ := y
 obtain ⟨oax, lx, cx, atx, hx⟩ := Yi kA0 Wx
 obtain ⟨oay, ly, cy, aty, hy⟩ := Yi kA1 Wx
 rw [Nat.zero_mul, ZO] at atx
 rw [show 1 * 9 = 9 from rfl, add_lit a 9 (by decide)] at aty
 obtain ⟨own, hown⟩ : ∃ own, own = rankF nm := ⟨_, rfl⟩
 rw [← hown] at hl ⊢
 have OWN := Zb hown
 obtain ⟨lo, hlo⟩ : ∃ lo, lo = leB own (.mk kx px nx tyx nzx zx obx bix ksx) := ⟨_, rfl⟩
 rw [← hlo] at hl ⊢
 have HLO := Zb hlo
 obtain ⟨ri, hri⟩ : ∃ ri, ri = riB own (.mk ky py ny tyy nzy zy oby biy ksy) := ⟨_, rfl⟩
 rw [← hri] at hl ⊢
 have HRI := Zb hri
 obtain ⟨T, hT⟩ : ∃ T, T = tx (.mk kx px nx tyx nzx zx obx bix ksx) := ⟨_, rfl⟩
 obtain ⟨U, hU⟩ : ∃ U, U = tx (.mk ky py ny tyy nzy zy oby biy ksy) := ⟨_, rfl⟩
 have HX := Zb (fun (w' : World) (bo' : Option Nat) (l' : List UInt8) b' hp' hB' hl' => part_from (w := w') (g := g) (bo := bo') (l := l') (ms := ms) (mt := mt) (k := k) hp' hB' _ _ hx b' tx hrx hl')
 have HY := Zb (fun (w' : World) (bo' : Option Nat) (l' : List UInt8) b' hp' hB' hl' => part_from (w := w') (g := g) (bo := bo') (l := l') (ms := ms) (mt := mt) (k := k) hp' hB' _ _ hy b' tx hry hl')
 rw [← hT] at hl HX ⊢
 rw [← hU] at hl HY ⊢
 have CX := Zb atx
 have CY := Zb aty
 have Na0 := Zb (show Nod (w.alloc (.cells #[.int .i64 31, .int .i64 ps, .string nm, .int .i64 t, .int .i64 nz, .int .i64 z, .int .i64 ob, .int .u64 bi, .slice (some a) 2 cap] 29)) w.heap.size (.int .i64 31) (.int .i64 ps) (.string nm) (.int .i64 t) (.int .i64 nz) (.int .i64 z) (.int .i64 ob) (.int .u64 bi) (.slice (some a) 2 cap) from B_ _ _)
 have Qa0 := Zb (hp.new (Nat.le_refl w.heap.size))
 have P0 := Zb (hp.bel hb1)
 have F0 := Zb (Fx.of_bel (g := g) (bo := bo) hb1)
 have W0 := Zb (hB.trans (hb1.mono hB.size))
 have HL := Zb hl
 clear hp hB hrx hry hb1 hT hU hown hlo hri kA0 kA1 Wx hx hy atx aty hl
 go_enter Tryz.func104, Tryz.ntmps104
 go_wp2_with fail
 generalize w.alloc _ = w1 at *
 go_cut [4, 5, 6] from 7 to 17 (fun x4 x5 x6 wc => ∃ q5 q6, x4 = .int .i64 own /\ x5 = .pointer (some ⟨q5, 0, none⟩) /\ x6 = .pointer (some ⟨q6, 0, none⟩) /\ Hid (Nod wc q5 (.int .i64 kx) (.int .i64 px) (.string nx) (.int .i64 tyx) (.int .i64 nzx) (.int .i64 zx) (.int .i64 obx) (.int .u64 bix) (.slice oax lx cx) /\ Nod wc q6 (.int .i64 ky) (.int .i64 py) (.string ny) (.int .i64 tyy) (.int .i64 nzy) (.int .i64 zy) (.int .i64 oby) (.int .u64 biy) (.slice oay ly cy) /\ Below w1.heap.size w1 wc /\ w1.heap.size <= q5 /\ w1.heap.size <= q6))
 case first =>
  refine wp_region_held_drew (S := fun w' => Below w1.heap.size w1 w') ZI (Zm (Below.refl _ _)) (fun hH => ?_)
  generalize w1.drew = d0 at *
  refine H_ 0 (v := ?_) ?_ hH ?_
  rotate_left 1
  · (intro w _; go_simp <;> with_reducible rfl)
  simp only [Act.put, S_]
  refine H_ 1 (v := ?_) ?_ hH ?_
  rotate_left 1
  · (intro w hSw; obtain ⟨_, e0, e1, e2, e3, e4, e5, e6, e7, e8⟩ := (Na0.out.bel hSw).all; clear hSw; go_simp <;> with_reducible rfl)
  simp only [Act.put, S_]
  refine H_ 3 (v := ?_) ?_ hH ?_
  rotate_left 1
  · (intro w _; go_simp <;> with_reducible rfl)
  simp only [Act.put, S_]
  refine H_ 4 (v := ?_) ?_ hH ?_
  rotate_left 1
  · (intro w hSw; obtain ⟨_, e0, e1, e2, e3, e4, e5, e6, e7, e8⟩ := (Na0.out.bel hSw).all; clear hSw; go_simp <;> with_reducible rfl)
  simp only [Act.put, S_]
  refine H_ 5 (v := ?_) ?_ hH ?_
  rotate_left 1
  · (intro w _; go_simp <;> with_reducible rfl)
  simp only [Act.put, S_]
  refine H_ 6 (v := ?_) ?_ hH ?_
  rotate_left 1
  · (intro w hSw; obtain ⟨e0, e1, e2, e3, e4, e5, e6, e7, e8⟩ := CX.out.bel hSw; clear hSw; go_simp <;> with_reducible rfl)
  simp only [Act.put, S_]
  refine H_ 7 (v := ?_) ?_ hH ?_
  rotate_left 1
  · (intro w _; go_simp <;> with_reducible rfl)
  simp only [Act.put, S_]
  refine H_ 8 (v := ?_) ?_ hH ?_
  rotate_left 1
  · (intro w hSw; obtain ⟨_, e0, e1, e2, e3, e4, e5, e6, e7, e8⟩ := (Na0.out.bel hSw).all; clear hSw; go_simp <;> with_reducible rfl)
  simp only [Act.put, S_]
  refine H_ 9 (v := ?_) ?_ hH ?_
  rotate_left 1
  · (intro w _; go_simp <;> with_reducible rfl)
  simp only [Act.put, S_]
  refine H_ 10 (v := ?_) ?_ hH ?_
  rotate_left 1
  · (intro w hSw; obtain ⟨e0, e1, e2, e3, e4, e5, e6, e7, e8⟩ := CY.out.bel hSw; clear hSw; go_simp <;> with_reducible rfl)
  simp only [Act.put, S_]
  refine wpAnyH_ready (rs := [2, 11, 12]) (by kernel_rfl) (by decide) ?_
  refine AllReadyH.cons rfl (fun K1 hK1 => ?_) (AllReadyH.cons rfl (fun K1 hK1 => ?_) (AllReadyH.cons rfl (fun K1 hK1 => ?_) AllReadyH.nil))
  · go_simp
    refine (rank_any nm d0).mono ?_
    rintro e yy ⟨rfl, rfl⟩
    rw [← OWN.out]
    refine hK1.out _ _ hH (fun hH => ?_)
    clear hK1 K1
    refine wpAnyH_ready (rs := [11, 12]) (by kernel_rfl) (by decide) ?_
    refine AllReadyH.cons rfl (fun K1 hK1 => ?_) (AllReadyH.cons rfl (fun K1 hK1 => ?_) AllReadyH.nil)
    · go_simp
      refine hK1.out _ _ (Zc hH (Zd d0 (.cells #[.int .i64 0, .int .i64 0, .string ⟨#[]⟩, .int .i64 0, .int .i64 0, .int .i64 0, .int .i64 0, .int .u64 0, .slice none 0 0] 29))) (fun hH2 => ?_)
      clear hK1 K1
      have LE5 := Zb (show w1.heap.size <= d0.heap.size from hH.size)
      have X5 := Zb (show Nod (d0.alloc (.cells #[.int .i64 0, .int .i64 0, .string ⟨#[]⟩, .int .i64 0, .int .i64 0, .int .i64 0, .int .i64 0, .int .u64 0, .slice none 0 0] 29)) d0.heap.size (.int .i64 0) (.int .i64 0) (.string ⟨#[]⟩) (.int .i64 0) (.int .i64 0) (.int .i64 0) (.int .i64 0) (.int .u64 0) (.slice none 0 0) from B_ _ _)
      clear hH
      have hH := hH2
      clear hH2
      generalize d0.alloc _ = d1 at *
      generalize d0.heap.size = q5 at *
      refine wpAnyH_ready (rs := [12]) (by kernel_rfl) (by decide) ?_
      refine AllReadyH.cons rfl (fun K1 hK1 => ?_) AllReadyH.nil
      go_simp
      refine hK1.out _ _ (Zc hH (Zd d1 (.cells #[.int .i64 0, .int .i64 0, .string ⟨#[]⟩, .int .i64 0, .int .i64 0, .int .i64 0, .int .i64 0, .int .u64 0, .slice none 0 0] 29))) (fun hH2 => ?_)
      clear hK1 K1
      have LE6 := Zb (show w1.heap.size <= d1.heap.size from hH.size)
      have X6 := Zb (show Nod (d1.alloc (.cells #[.int .i64 0, .int .i64 0, .string ⟨#[]⟩, .int .i64 0, .int .i64 0, .int .i64 0, .int .i64 0, .int .u64 0, .slice none 0 0] 29)) d1.heap.size (.int .i64 0) (.int .i64 0) (.string ⟨#[]⟩) (.int .i64 0) (.int .i64 0) (.int .i64 0) (.int .i64 0) (.int .u64 0) (.slice none 0 0) from B_ _ _)
      have NE := Zb (show q5 ≠ d1.heap.size from Nat.ne_of_lt (Ze X5.out))
      have X5 := Zb (X5.out.bel (Zd d1 (.cells #[.int .i64 0, .int .i64 0, .string ⟨#[]⟩, .int .i64 0, .int .i64 0, .int .i64 0, .int .i64 0, .int .u64 0, .slice none 0 0] 29)))
      clear hH
      have hH := hH2
      clear hH2
      generalize d1.alloc _ = d2 at *
      generalize d1.heap.size = q6 at *
      refine H_ 13 (v := ?_) ?_ hH ?_
      rotate_left 1
      · (intro w _; go_simp <;> with_reducible rfl)
      simp only [Act.put, S_]
      refine wpAnyH_ready (rs := [14]) (by kernel_rfl) (by decide) ?_
      refine AllReadyH.cons rfl (fun K1 hK1 => ?_) AllReadyH.nil
      obtain ⟨⟨f0, f1, f2, f3, f4, f5, f6, f7, f8⟩, e0, e1, e2, e3, e4, e5, e6, e7, e8⟩ := X5.out.all
      go_simp
      obtain ⟨k9, t9⟩ := Zy X5.out (.int .i64 kx) (.int .i64 px) (.string nx) (.int .i64 tyx) (.int .i64 nzx) (.int .i64 zx) (.int .i64 obx) (.int .u64 bix) (.slice oax lx cx)
      have hH2 := hH.trans (t9.bel LE5.out hH.size)
      refine hK1.out _ _ hH2 (fun hH3 => ?_)
      clear hK1 K1 f0 f1 f2 f3 f4 f5 f6 f7 f8 e0 e1 e2 e3 e4 e5 e6 e7 e8 hH2
      have X6 := Zb (X6.out.tn t9 (fun e => NE.out (by first | exact e | exact e.symm)))
      have X5 := Zb k9
      clear k9 t9 hH
      have hH := hH3
      clear hH3
      generalize ((((((((d2.setCell ⟨q5, 0, none⟩ (.int .i64 kx)).setCell ⟨q5, 1, none⟩ (.int .i64 px)).setCell ⟨q5, 2, none⟩ (.string nx)).setCell ⟨q5, 3, none⟩ (.int .i64 tyx)).setCell ⟨q5, 4, none⟩ (.int .i64 nzx)).setCell ⟨q5, 5, none⟩ (.int .i64 zx)).setCell ⟨q5, 6, none⟩ (.int .i64 obx)).setCell ⟨q5, 7, none⟩ (.int .u64 bix)).setCell ⟨q5, 8, none⟩ (.slice oax lx cx) = d3 at *
      refine wpAnyH_ready (rs := [15]) (by kernel_rfl) (by decide) ?_
      refine AllReadyH.cons rfl (fun K1 hK1 => ?_) AllReadyH.nil
      obtain ⟨⟨f0, f1, f2, f3, f4, f5, f6, f7, f8⟩, e0, e1, e2, e3, e4, e5, e6, e7, e8⟩ := X6.out.all
      go_simp
      obtain ⟨k9, t9⟩ := Zy X6.out (.int .i64 ky) (.int .i64 py) (.string ny) (.int .i64 tyy) (.int .i64 nzy) (.int .i64 zy) (.int .i64 oby) (.int .u64 biy) (.slice oay ly cy)
      have hH2 := hH.trans (t9.bel LE6.out hH.size)
      refine hK1.out _ _ hH2 (fun hH3 => ?_)
      clear hK1 K1 f0 f1 f2 f3 f4 f5 f6 f7 f8 e0 e1 e2 e3 e4 e5 e6 e7 e8 hH2
      have X5 := Zb (X5.out.tn t9 (fun e => NE.out (by first | exact e | exact e.symm)))
      have X6 := Zb k9
      clear k9 t9 hH
      have hH := hH3
      clear hH3
      generalize ((((((((d3.setCell ⟨q6, 0, none⟩ (.int .i64 ky)).setCell ⟨q6, 1, none⟩ (.int .i64 py)).setCell ⟨q6, 2, none⟩ (.string ny)).setCell ⟨q6, 3, none⟩ (.int .i64 tyy)).setCell ⟨q6, 4, none⟩ (.int .i64 nzy)).setCell ⟨q6, 5, none⟩ (.int .i64 zy)).setCell ⟨q6, 6, none⟩ (.int .i64 oby)).setCell ⟨q6, 7, none⟩ (.int .u64 biy)).setCell ⟨q6, 8, none⟩ (.slice oay ly cy) = d4 at *
      refine wpAnyH_done (by kernel_rfl) ?_ _
      go_wp2_with fail
      go_meet
      case rel => exact ⟨q5, q6, rfl, rfl, rfl, X5.out, X6.out, hH, LE5.out, LE6.out⟩
    · go_simp
      refine hK1.out _ _ (Zc hH (Zd d0 (.cells #[.int .i64 0, .int .i64 0, .string ⟨#[]⟩, .int .i64 0, .int .i64 0, .int .i64 0, .int .i64 0, .int .u64 0, .slice none 0 0] 29))) (fun hH2 => ?_)
      clear hK1 K1
      have LE6 := Zb (show w1.heap.size <= d0.heap.size from hH.size)
      have X6 := Zb (show Nod (d0.alloc (.cells #[.int .i64 0, .int .i64 0, .string ⟨#[]⟩, .int .i64 0, .int .i64 0, .int .i64 0, .int .i64 0, .int .u64 0, .slice none 0 0] 29)) d0.heap.size (.int .i64 0) (.int .i64 0) (.string ⟨#[]⟩) (.int .i64 0) (.int .i64 0) (.int .i64 0) (.int .i64 0) (.int .u64 0) (.slice none 0 0) from B_ _ _)
      clear hH
      have hH := hH2
      clear hH2
      generalize d0.alloc _ = d1 at *
      generalize d0.heap.size = q6 at *
      refine wpAnyH_ready (rs := [11]) (by kernel_rfl) (by decide) ?_
      refine AllReadyH.cons rfl (fun K1 hK1 => ?_) AllReadyH.nil
      go_simp
      refine hK1.out _ _ (Zc hH (Zd d1 (.cells #[.int .i64 0, .int .i64 0, .string ⟨#[]⟩, .int .i64 0, .int .i64 0, .int .i64 0, .int .i64 0, .int .u64 0, .slice none 0 0] 29))) (fun hH2 => ?_)
      clear hK1 K1
      have LE5 := Zb (show w1.heap.size <= d1.heap.size from hH.size)
      have X5 := Zb (show Nod (d1.alloc (.cells #[.int .i64 0, .int .i64 0, .string ⟨#[]⟩, .int .i64 0, .int .i64 0, .int .i64 0, .int .i64 0, .int .u64 0, .slice none 0 0] 29)) d1.heap.size (.int .i64 0) (.int .i64 0) (.string ⟨#[]⟩) (.int .i64 0) (.int .i64 0) (.int .i64 0) (.int .i64 0) (.int .u64 0) (.slice none 0 0) from B_ _ _)
      have NE := Zb (show q6 ≠ d1.heap.size from Nat.ne_of_lt (Ze X6.out))
      have X6 := Zb (X6.out.bel (Zd d1 (.cells #[.int .i64 0, .int .i64 0, .string ⟨#[]⟩, .int .i64 0, .int .i64 0, .int .i64 0, .int .i64 0, .int .u64 0, .slice none 0 0] 29)))
      clear hH
      have hH := hH2
      clear hH2
      generalize d1.alloc _ = d2 at *
      generalize d1.heap.size = q5 at *
      refine H_ 13 (v := ?_) ?_ hH ?_
      rotate_left 1
      · (intro w _; go_simp <;> with_reducible rfl)
      simp only [Act.put, S_]
      refine wpAnyH_ready (rs := [14]) (by kernel_rfl) (by decide) ?_
      refine AllReadyH.cons rfl (fun K1 hK1 => ?_) AllReadyH.nil
      obtain ⟨⟨f0, f1, f2, f3, f4, f5, f6, f7, f8⟩, e0, e1, e2, e3, e4, e5, e6, e7, e8⟩ := X5.out.all
      go_simp
      obtain ⟨k9, t9⟩ := Zy X5.out (.int .i64 kx) (.int .i64 px) (.string nx) (.int .i64 tyx) (.int .i64 nzx) (.int .i64 zx) (.int .i64 obx) (.int .u64 bix) (.slice oax lx cx)
      have hH2 := hH.trans (t9.bel LE5.out hH.size)
      refine hK1.out _ _ hH2 (fun hH3 => ?_)
      clear hK1 K1 f0 f1 f2 f3 f4 f5 f6 f7 f8 e0 e1 e2 e3 e4 e5 e6 e7 e8 hH2
      have X6 := Zb (X6.out.tn t9 (fun e => NE.out (by first | exact e | exact e.symm)))
      have X5 := Zb k9
      clear k9 t9 hH
      have hH := hH3
      clear hH3
      generalize ((((((((d2.setCell ⟨q5, 0, none⟩ (.int .i64 kx)).setCell ⟨q5, 1, none⟩ (.int .i64 px)).setCell ⟨q5, 2, none⟩ (.string nx)).setCell ⟨q5, 3, none⟩ (.int .i64 tyx)).setCell ⟨q5, 4, none⟩ (.int .i64 nzx)).setCell ⟨q5, 5, none⟩ (.int .i64 zx)).setCell ⟨q5, 6, none⟩ (.int .i64 obx)).setCell ⟨q5, 7, none⟩ (.int .u64 bix)).setCell ⟨q5, 8, none⟩ (.slice oax lx cx) = d3 at *
      refine wpAnyH_ready (rs := [15]) (by kernel_rfl) (by decide) ?_
      refine AllReadyH.cons rfl (fun K1 hK1 => ?_) AllReadyH.nil
      obtain ⟨⟨f0, f1, f2, f3, f4, f5, f6, f7, f8⟩, e0, e1, e2, e3, e4, e5, e6, e7, e8⟩ := X6.out.all
      go_simp
      obtain ⟨k9, t9⟩ := Zy X6.out (.int .i64 ky) (.int .i64 py) (.string ny) (.int .i64 tyy) (.int .i64 nzy) (.int .i64 zy) (.int .i64 oby) (.int .u64 biy) (.slice oay ly cy)
      have hH2 := hH.trans (t9.bel LE6.out hH.size)
      refine hK1.out _ _ hH2 (fun hH3 => ?_)
      clear hK1 K1 f0 f1 f2 f3 f4 f5 f6 f7 f8 e0 e1 e2 e3 e4 e5 e6 e7 e8 hH2
      have X5 := Zb (X5.out.tn t9 (fun e => NE.out (by first | exact e | exact e.symm)))
      have X6 := Zb k9
      clear k9 t9 hH
      have hH := hH3
      clear hH3
      generalize ((((((((d3.setCell ⟨q6, 0, none⟩ (.int .i64 ky)).setCell ⟨q6, 1, none⟩ (.int .i64 py)).setCell ⟨q6, 2, none⟩ (.string ny)).setCell ⟨q6, 3, none⟩ (.int .i64 tyy)).setCell ⟨q6, 4, none⟩ (.int .i64 nzy)).setCell ⟨q6, 5, none⟩ (.int .i64 zy)).setCell ⟨q6, 6, none⟩ (.int .i64 oby)).setCell ⟨q6, 7, none⟩ (.int .u64 biy)).setCell ⟨q6, 8, none⟩ (.slice oay ly cy) = d4 at *
      refine wpAnyH_done (by kernel_rfl) ?_ _
      go_wp2_with fail
      go_meet
      case rel => exact ⟨q5, q6, rfl, rfl, rfl, X5.out, X6.out, hH, LE5.out, LE6.out⟩
  · go_simp
    refine hK1.out _ _ (Zc hH (Zd d0 (.cells #[.int .i64 0, .int .i64 0, .string ⟨#[]⟩, .int .i64 0, .int .i64 0, .int .i64 0, .int .i64 0, .int .u64 0, .slice none 0 0] 29))) (fun hH2 => ?_)
    clear hK1 K1
    have LE5 := Zb (show w1.heap.size <= d0.heap.size from hH.size)
    have X5 := Zb (show Nod (d0.alloc (.cells #[.int .i64 0, .int .i64 0, .string ⟨#[]⟩, .int .i64 0, .int .i64 0, .int .i64 0, .int .i64 0, .int .u64 0, .slice none 0 0] 29)) d0.heap.size (.int .i64 0) (.int .i64 0) (.string ⟨#[]⟩) (.int .i64 0) (.int .i64 0) (.int .i64 0) (.int .i64 0) (.int .u64 0) (.slice none 0 0) from B_ _ _)
    clear hH
    have hH := hH2
    clear hH2
    generalize d0.alloc _ = d1 at *
    generalize d0.heap.size = q5 at *
    refine wpAnyH_ready (rs := [2, 12]) (by kernel_rfl) (by decide) ?_
    refine AllReadyH.cons rfl (fun K1 hK1 => ?_) (AllReadyH.cons rfl (fun K1 hK1 => ?_) AllReadyH.nil)
    · go_simp
      refine (rank_any nm d1).mono ?_
      rintro e yy ⟨rfl, rfl⟩
      rw [← OWN.out]
      refine hK1.out _ _ hH (fun hH => ?_)
      clear hK1 K1
      refine wpAnyH_ready (rs := [12]) (by kernel_rfl) (by decide) ?_
      refine AllReadyH.cons rfl (fun K1 hK1 => ?_) AllReadyH.nil
      go_simp
      refine hK1.out _ _ (Zc hH (Zd d1 (.cells #[.int .i64 0, .int .i64 0, .string ⟨#[]⟩, .int .i64 0, .int .i64 0, .int .i64 0, .int .i64 0, .int .u64 0, .slice none 0 0] 29))) (fun hH2 => ?_)
      clear hK1 K1
      have LE6 := Zb (show w1.heap.size <= d1.heap.size from hH.size)
      have X6 := Zb (show Nod (d1.alloc (.cells #[.int .i64 0, .int .i64 0, .string ⟨#[]⟩, .int .i64 0, .int .i64 0, .int .i64 0, .int .i64 0, .int .u64 0, .slice none 0 0] 29)) d1.heap.size (.int .i64 0) (.int .i64 0) (.string ⟨#[]⟩) (.int .i64 0) (.int .i64 0) (.int .i64 0) (.int .i64 0) (.int .u64 0) (.slice none 0 0) from B_ _ _)
      have NE := Zb (show q5 ≠ d1.heap.size from Nat.ne_of_lt (Ze X5.out))
      have X5 := Zb (X5.out.bel (Zd d1 (.cells #[.int .i64 0, .int .i64 0, .string ⟨#[]⟩, .int .i64 0, .int .i64 0, .int .i64 0, .int .i64 0, .int .u64 0, .slice none 0 0] 29)))
      clear hH
      have hH := hH2
      clear hH2
      generalize d1.alloc _ = d2 at *
      generalize d1.heap.size = q6 at *
      refine H_ 13 (v := ?_) ?_ hH ?_
      rotate_left 1
      · (intro w _; go_simp <;> with_reducible rfl)
      simp only [Act.put, S_]
      refine wpAnyH_ready (rs := [14]) (by kernel_rfl) (by decide) ?_
      refine AllReadyH.cons rfl (fun K1 hK1 => ?_) AllReadyH.nil
      obtain ⟨⟨f0, f1, f2, f3, f4, f5, f6, f7, f8⟩, e0, e1, e2, e3, e4, e5, e6, e7, e8⟩ := X5.out.all
      go_simp
      obtain ⟨k9, t9⟩ := Zy X5.out (.int .i64 kx) (.int .i64 px) (.string nx) (.int .i64 tyx) (.int .i64 nzx) (.int .i64 zx) (.int .i64 obx) (.int .u64 bix) (.slice oax lx cx)
      have hH2 := hH.trans (t9.bel LE5.out hH.size)
      refine hK1.out _ _ hH2 (fun hH3 => ?_)
      clear hK1 K1 f0 f1 f2 f3 f4 f5 f6 f7 f8 e0 e1 e2 e3 e4 e5 e6 e7 e8 hH2
      have X6 := Zb (X6.out.tn t9 (fun e => NE.out (by first | exact e | exact e.symm)))
      have X5 := Zb k9
      clear k9 t9 hH
      have hH := hH3
      clear hH3
      generalize ((((((((d2.setCell ⟨q5, 0, none⟩ (.int .i64 kx)).setCell ⟨q5, 1, none⟩ (.int .i64 px)).setCell ⟨q5, 2, none⟩ (.string nx)).setCell ⟨q5, 3, none⟩ (.int .i64 tyx)).setCell ⟨q5, 4, none⟩ (.int .i64 nzx)).setCell ⟨q5, 5, none⟩ (.int .i64 zx)).setCell ⟨q5, 6, none⟩ (.int .i64 obx)).setCell ⟨q5, 7, none⟩ (.int .u64 bix)).setCell ⟨q5, 8, none⟩ (.slice oax lx cx) = d3 at *
      refine wpAnyH_ready (rs := [15]) (by kernel_rfl) (by decide) ?_
      refine AllReadyH.cons rfl (fun K1 hK1 => ?_) AllReadyH.nil
      obtain ⟨⟨f0, f1, f2, f3, f4, f5, f6, f7, f8⟩, e0, e1, e2, e3, e4, e5, e6, e7, e8⟩ := X6.out.all
      go_simp
      obtain ⟨k9, t9⟩ := Zy X6.out (.int .i64 ky) (.int .i64 py) (.string ny) (.int .i64 tyy) (.int .i64 nzy) (.int .i64 zy) (.int .i64 oby) (.int .u64 biy) (.slice oay ly cy)
      have hH2 := hH.trans (t9.bel LE6.out hH.size)
      refine hK1.out _ _ hH2 (fun hH3 => ?_)
      clear hK1 K1 f0 f1 f2 f3 f4 f5 f6 f7 f8 e0 e1 e2 e3 e4 e5 e6 e7 e8 hH2
      have X5 := Zb (X5.out.tn t9 (fun e => NE.out (by first | exact e | exact e.symm)))
      have X6 := Zb k9
      clear k9 t9 hH
      have hH := hH3
      clear hH3
      generalize ((((((((d3.setCell ⟨q6, 0, none⟩ (.int .i64 ky)).setCell ⟨q6, 1, none⟩ (.int .i64 py)).setCell ⟨q6, 2, none⟩ (.string ny)).setCell ⟨q6, 3, none⟩ (.int .i64 tyy)).setCell ⟨q6, 4, none⟩ (.int .i64 nzy)).setCell ⟨q6, 5, none⟩ (.int .i64 zy)).setCell ⟨q6, 6, none⟩ (.int .i64 oby)).setCell ⟨q6, 7, none⟩ (.int .u64 biy)).setCell ⟨q6, 8, none⟩ (.slice oay ly cy) = d4 at *
      refine wpAnyH_done (by kernel_rfl) ?_ _
      go_wp2_with fail
      go_meet
      case rel => exact ⟨q5, q6, rfl, rfl, rfl, X5.out, X6.out, hH, LE5.out, LE6.out⟩
    · go_simp
      refine hK1.out _ _ (Zc hH (Zd d1 (.cells #[.int .i64 0, .int .i64 0, .string ⟨#[]⟩, .int .i64 0, .int .i64 0, .int .i64 0, .int .i64 0, .int .u64 0, .slice none 0 0] 29))) (fun hH2 => ?_)
      clear hK1 K1
      have LE6 := Zb (show w1.heap.size <= d1.heap.size from hH.size)
      have X6 := Zb (show Nod (d1.alloc (.cells #[.int .i64 0, .int .i64 0, .string ⟨#[]⟩, .int .i64 0, .int .i64 0, .int .i64 0, .int .i64 0, .int .u64 0, .slice none 0 0] 29)) d1.heap.size (.int .i64 0) (.int .i64 0) (.string ⟨#[]⟩) (.int .i64 0) (.int .i64 0) (.int .i64 0) (.int .i64 0) (.int .u64 0) (.slice none 0 0) from B_ _ _)
      have NE := Zb (show q5 ≠ d1.heap.size from Nat.ne_of_lt (Ze X5.out))
      have X5 := Zb (X5.out.bel (Zd d1 (.cells #[.int .i64 0, .int .i64 0, .string ⟨#[]⟩, .int .i64 0, .int .i64 0, .int .i64 0, .int .i64 0, .int .u64 0, .slice none 0 0] 29)))
      clear hH
      have hH := hH2
      clear hH2
      generalize d1.alloc _ = d2 at *
      generalize d1.heap.size = q6 at *
      refine wpAnyH_ready (rs := [2]) (by kernel_rfl) (by decide) ?_
      refine AllReadyH.cons rfl (fun K1 hK1 => ?_) AllReadyH.nil
      go_simp
      refine (rank_any nm d2).mono ?_
      rintro e yy ⟨rfl, rfl⟩
      rw [← OWN.out]
      refine hK1.out _ _ hH (fun hH => ?_)
      clear hK1 K1
      refine H_ 13 (v := ?_) ?_ hH ?_
      rotate_left 1
      · (intro w _; go_simp <;> with_reducible rfl)
      simp only [Act.put, S_]
      refine wpAnyH_ready (rs := [14]) (by kernel_rfl) (by decide) ?_
      refine AllReadyH.cons rfl (fun K1 hK1 => ?_) AllReadyH.nil
      obtain ⟨⟨f0, f1, f2, f3, f4, f5, f6, f7, f8⟩, e0, e1, e2, e3, e4, e5, e6, e7, e8⟩ := X5.out.all
      go_simp
      obtain ⟨k9, t9⟩ := Zy X5.out (.int .i64 kx) (.int .i64 px) (.string nx) (.int .i64 tyx) (.int .i64 nzx) (.int .i64 zx) (.int .i64 obx) (.int .u64 bix) (.slice oax lx cx)
      have hH2 := hH.trans (t9.bel LE5.out hH.size)
      refine hK1.out _ _ hH2 (fun hH3 => ?_)
      clear hK1 K1 f0 f1 f2 f3 f4 f5 f6 f7 f8 e0 e1 e2 e3 e4 e5 e6 e7 e8 hH2
      have X6 := Zb (X6.out.tn t9 (fun e => NE.out (by first | exact e | exact e.symm)))
      have X5 := Zb k9
      clear k9 t9 hH
      have hH := hH3
      clear hH3
      generalize ((((((((d2.setCell ⟨q5, 0, none⟩ (.int .i64 kx)).setCell ⟨q5, 1, none⟩ (.int .i64 px)).setCell ⟨q5, 2, none⟩ (.string nx)).setCell ⟨q5, 3, none⟩ (.int .i64 tyx)).setCell ⟨q5, 4, none⟩ (.int .i64 nzx)).setCell ⟨q5, 5, none⟩ (.int .i64 zx)).setCell ⟨q5, 6, none⟩ (.int .i64 obx)).setCell ⟨q5, 7, none⟩ (.int .u64 bix)).setCell ⟨q5, 8, none⟩ (.slice oax lx cx) = d3 at *
      refine wpAnyH_ready (rs := [15]) (by kernel_rfl) (by decide) ?_
      refine AllReadyH.cons rfl (fun K1 hK1 => ?_) AllReadyH.nil
      obtain ⟨⟨f0, f1, f2, f3, f4, f5, f6, f7, f8⟩, e0, e1, e2, e3, e4, e5, e6, e7, e8⟩ := X6.out.all
      go_simp
      obtain ⟨k9, t9⟩ := Zy X6.out (.int .i64 ky) (.int .i64 py) (.string ny) (.int .i64 tyy) (.int .i64 nzy) (.int .i64 zy) (.int .i64 oby) (.int .u64 biy) (.slice oay ly cy)
      have hH2 := hH.trans (t9.bel LE6.out hH.size)
      refine hK1.out _ _ hH2 (fun hH3 => ?_)
      clear hK1 K1 f0 f1 f2 f3 f4 f5 f6 f7 f8 e0 e1 e2 e3 e4 e5 e6 e7 e8 hH2
      have X5 := Zb (X5.out.tn t9 (fun e => NE.out (by first | exact e | exact e.symm)))
      have X6 := Zb k9
      clear k9 t9 hH
      have hH := hH3
      clear hH3
      generalize ((((((((d3.setCell ⟨q6, 0, none⟩ (.int .i64 ky)).setCell ⟨q6, 1, none⟩ (.int .i64 py)).setCell ⟨q6, 2, none⟩ (.string ny)).setCell ⟨q6, 3, none⟩ (.int .i64 tyy)).setCell ⟨q6, 4, none⟩ (.int .i64 nzy)).setCell ⟨q6, 5, none⟩ (.int .i64 zy)).setCell ⟨q6, 6, none⟩ (.int .i64 oby)).setCell ⟨q6, 7, none⟩ (.int .u64 biy)).setCell ⟨q6, 8, none⟩ (.slice oay ly cy) = d4 at *
      refine wpAnyH_done (by kernel_rfl) ?_ _
      go_wp2_with fail
      go_meet
      case rel => exact ⟨q5, q6, rfl, rfl, rfl, X5.out, X6.out, hH, LE5.out, LE6.out⟩
  · go_simp
    refine hK1.out _ _ (Zc hH (Zd d0 (.cells #[.int .i64 0, .int .i64 0, .string ⟨#[]⟩, .int .i64 0, .int .i64 0, .int .i64 0, .int .i64 0, .int .u64 0, .slice none 0 0] 29))) (fun hH2 => ?_)
    clear hK1 K1
    have LE6 := Zb (show w1.heap.size <= d0.heap.size from hH.size)
    have X6 := Zb (show Nod (d0.alloc (.cells #[.int .i64 0, .int .i64 0, .string ⟨#[]⟩, .int .i64 0, .int .i64 0, .int .i64 0, .int .i64 0, .int .u64 0, .slice none 0 0] 29)) d0.heap.size (.int .i64 0) (.int .i64 0) (.string ⟨#[]⟩) (.int .i64 0) (.int .i64 0) (.int .i64 0) (.int .i64 0) (.int .u64 0) (.slice none 0 0) from B_ _ _)
    clear hH
    have hH := hH2
    clear hH2
    generalize d0.alloc _ = d1 at *
    generalize d0.heap.size = q6 at *
    refine wpAnyH_ready (rs := [2, 11]) (by kernel_rfl) (by decide) ?_
    refine AllReadyH.cons rfl (fun K1 hK1 => ?_) (AllReadyH.cons rfl (fun K1 hK1 => ?_) AllReadyH.nil)
    · go_simp
      refine (rank_any nm d1).mono ?_
      rintro e yy ⟨rfl, rfl⟩
      rw [← OWN.out]
      refine hK1.out _ _ hH (fun hH => ?_)
      clear hK1 K1
      refine wpAnyH_ready (rs := [11]) (by kernel_rfl) (by decide) ?_
      refine AllReadyH.cons rfl (fun K1 hK1 => ?_) AllReadyH.nil
      go_simp
      refine hK1.out _ _ (Zc hH (Zd d1 (.cells #[.int .i64 0, .int .i64 0, .string ⟨#[]⟩, .int .i64 0, .int .i64 0, .int .i64 0, .int .i64 0, .int .u64 0, .slice none 0 0] 29))) (fun hH2 => ?_)
      clear hK1 K1
      have LE5 := Zb (show w1.heap.size <= d1.heap.size from hH.size)
      have X5 := Zb (show Nod (d1.alloc (.cells #[.int .i64 0, .int .i64 0, .string ⟨#[]⟩, .int .i64 0, .int .i64 0, .int .i64 0, .int .i64 0, .int .u64 0, .slice none 0 0] 29)) d1.heap.size (.int .i64 0) (.int .i64 0) (.string ⟨#[]⟩) (.int .i64 0) (.int .i64 0) (.int .i64 0) (.int .i64 0) (.int .u64 0) (.slice none 0 0) from B_ _ _)
      have NE := Zb (show q6 ≠ d1.heap.size from Nat.ne_of_lt (Ze X6.out))
      have X6 := Zb (X6.out.bel (Zd d1 (.cells #[.int .i64 0, .int .i64 0, .string ⟨#[]⟩, .int .i64 0, .int .i64 0, .int .i64 0, .int .i64 0, .int .u64 0, .slice none 0 0] 29)))
      clear hH
      have hH := hH2
      clear hH2
      generalize d1.alloc _ = d2 at *
      generalize d1.heap.size = q5 at *
      refine H_ 13 (v := ?_) ?_ hH ?_
      rotate_left 1
      · (intro w _; go_simp <;> with_reducible rfl)
      simp only [Act.put, S_]
      refine wpAnyH_ready (rs := [14]) (by kernel_rfl) (by decide) ?_
      refine AllReadyH.cons rfl (fun K1 hK1 => ?_) AllReadyH.nil
      obtain ⟨⟨f0, f1, f2, f3, f4, f5, f6, f7, f8⟩, e0, e1, e2, e3, e4, e5, e6, e7, e8⟩ := X5.out.all
      go_simp
      obtain ⟨k9, t9⟩ := Zy X5.out (.int .i64 kx) (.int .i64 px) (.string nx) (.int .i64 tyx) (.int .i64 nzx) (.int .i64 zx) (.int .i64 obx) (.int .u64 bix) (.slice oax lx cx)
      have hH2 := hH.trans (t9.bel LE5.out hH.size)
      refine hK1.out _ _ hH2 (fun hH3 => ?_)
      clear hK1 K1 f0 f1 f2 f3 f4 f5 f6 f7 f8 e0 e1 e2 e3 e4 e5 e6 e7 e8 hH2
      have X6 := Zb (X6.out.tn t9 (fun e => NE.out (by first | exact e | exact e.symm)))
      have X5 := Zb k9
      clear k9 t9 hH
      have hH := hH3
      clear hH3
      generalize ((((((((d2.setCell ⟨q5, 0, none⟩ (.int .i64 kx)).setCell ⟨q5, 1, none⟩ (.int .i64 px)).setCell ⟨q5, 2, none⟩ (.string nx)).setCell ⟨q5, 3, none⟩ (.int .i64 tyx)).setCell ⟨q5, 4, none⟩ (.int .i64 nzx)).setCell ⟨q5, 5, none⟩ (.int .i64 zx)).setCell ⟨q5, 6, none⟩ (.int .i64 obx)).setCell ⟨q5, 7, none⟩ (.int .u64 bix)).setCell ⟨q5, 8, none⟩ (.slice oax lx cx) = d3 at *
      refine wpAnyH_ready (rs := [15]) (by kernel_rfl) (by decide) ?_
      refine AllReadyH.cons rfl (fun K1 hK1 => ?_) AllReadyH.nil
      obtain ⟨⟨f0, f1, f2, f3, f4, f5, f6, f7, f8⟩, e0, e1, e2, e3, e4, e5, e6, e7, e8⟩ := X6.out.all
      go_simp
      obtain ⟨k9, t9⟩ := Zy X6.out (.int .i64 ky) (.int .i64 py) (.string ny) (.int .i64 tyy) (.int .i64 nzy) (.int .i64 zy) (.int .i64 oby) (.int .u64 biy) (.slice oay ly cy)
      have hH2 := hH.trans (t9.bel LE6.out hH.size)
      refine hK1.out _ _ hH2 (fun hH3 => ?_)
      clear hK1 K1 f0 f1 f2 f3 f4 f5 f6 f7 f8 e0 e1 e2 e3 e4 e5 e6 e7 e8 hH2
      have X5 := Zb (X5.out.tn t9 (fun e => NE.out (by first | exact e | exact e.symm)))
      have X6 := Zb k9
      clear k9 t9 hH
      have hH := hH3
      clear hH3
      generalize ((((((((d3.setCell ⟨q6, 0, none⟩ (.int .i64 ky)).setCell ⟨q6, 1, none⟩ (.int .i64 py)).setCell ⟨q6, 2, none⟩ (.string ny)).setCell ⟨q6, 3, none⟩ (.int .i64 tyy)).setCell ⟨q6, 4, none⟩ (.int .i64 nzy)).setCell ⟨q6, 5, none⟩ (.int .i64 zy)).setCell ⟨q6, 6, none⟩ (.int .i64 oby)).setCell ⟨q6, 7, none⟩ (.int .u64 biy)).setCell ⟨q6, 8, none⟩ (.slice oay ly cy) = d4 at *
      refine wpAnyH_done (by kernel_rfl) ?_ _
      go_wp2_with fail
      go_meet
      case rel => exact ⟨q5, q6, rfl, rfl, rfl, X5.out, X6.out, hH, LE5.out, LE6.out⟩
    · go_simp
      refine hK1.out _ _ (Zc hH (Zd d1 (.cells #[.int .i64 0, .int .i64 0, .string ⟨#[]⟩, .int .i64 0, .int .i64 0, .int .i64 0, .int .i64 0, .int .u64 0, .slice none 0 0] 29))) (fun hH2 => ?_)
      clear hK1 K1
      have LE5 := Zb (show w1.heap.size <= d1.heap.size from hH.size)
      have X5 := Zb (show Nod (d1.alloc (.cells #[.int .i64 0, .int .i64 0, .string ⟨#[]⟩, .int .i64 0, .int .i64 0, .int .i64 0, .int .i64 0, .int .u64 0, .slice none 0 0] 29)) d1.heap.size (.int .i64 0) (.int .i64 0) (.string ⟨#[]⟩) (.int .i64 0) (.int .i64 0) (.int .i64 0) (.int .i64 0) (.int .u64 0) (.slice none 0 0) from B_ _ _)
      have NE := Zb (show q6 ≠ d1.heap.size from Nat.ne_of_lt (Ze X6.out))
      have X6 := Zb (X6.out.bel (Zd d1 (.cells #[.int .i64 0, .int .i64 0, .string ⟨#[]⟩, .int .i64 0, .int .i64 0, .int .i64 0, .int .i64 0, .int .u64 0, .slice none 0 0] 29)))
      clear hH
      have hH := hH2
      clear hH2
      generalize d1.alloc _ = d2 at *
      generalize d1.heap.size = q5 at *
      refine wpAnyH_ready (rs := [2]) (by kernel_rfl) (by decide) ?_
      refine AllReadyH.cons rfl (fun K1 hK1 => ?_) AllReadyH.nil
      go_simp
      refine (rank_any nm d2).mono ?_
      rintro e yy ⟨rfl, rfl⟩
      rw [← OWN.out]
      refine hK1.out _ _ hH (fun hH => ?_)
      clear hK1 K1
      refine H_ 13 (v := ?_) ?_ hH ?_
      rotate_left 1
      · (intro w _; go_simp <;> with_reducible rfl)
      simp only [Act.put, S_]
      refine wpAnyH_ready (rs := [14]) (by kernel_rfl) (by decide) ?_
      refine AllReadyH.cons rfl (fun K1 hK1 => ?_) AllReadyH.nil
      obtain ⟨⟨f0, f1, f2, f3, f4, f5, f6, f7, f8⟩, e0, e1, e2, e3, e4, e5, e6, e7, e8⟩ := X5.out.all
      go_simp
      obtain ⟨k9, t9⟩ := Zy X5.out (.int .i64 kx) (.int .i64 px) (.string nx) (.int .i64 tyx) (.int .i64 nzx) (.int .i64 zx) (.int .i64 obx) (.int .u64 bix) (.slice oax lx cx)
      have hH2 := hH.trans (t9.bel LE5.out hH.size)
      refine hK1.out _ _ hH2 (fun hH3 => ?_)
      clear hK1 K1 f0 f1 f2 f3 f4 f5 f6 f7 f8 e0 e1 e2 e3 e4 e5 e6 e7 e8 hH2
      have X6 := Zb (X6.out.tn t9 (fun e => NE.out (by first | exact e | exact e.symm)))
      have X5 := Zb k9
      clear k9 t9 hH
      have hH := hH3
      clear hH3
      generalize ((((((((d2.setCell ⟨q5, 0, none⟩ (.int .i64 kx)).setCell ⟨q5, 1, none⟩ (.int .i64 px)).setCell ⟨q5, 2, none⟩ (.string nx)).setCell ⟨q5, 3, none⟩ (.int .i64 tyx)).setCell ⟨q5, 4, none⟩ (.int .i64 nzx)).setCell ⟨q5, 5, none⟩ (.int .i64 zx)).setCell ⟨q5, 6, none⟩ (.int .i64 obx)).setCell ⟨q5, 7, none⟩ (.int .u64 bix)).setCell ⟨q5, 8, none⟩ (.slice oax lx cx) = d3 at *
      refine wpAnyH_ready (rs := [15]) (by kernel_rfl) (by decide) ?_
      refine AllReadyH.cons rfl (fun K1 hK1 => ?_) AllReadyH.nil
      obtain ⟨⟨f0, f1, f2, f3, f4, f5, f6, f7, f8⟩, e0, e1, e2, e3, e4, e5, e6, e7, e8⟩ := X6.out.all
      go_simp
      obtain ⟨k9, t9⟩ := Zy X6.out (.int .i64 ky) (.int .i64 py) (.string ny) (.int .i64 tyy) (.int .i64 nzy) (.int .i64 zy) (.int .i64 oby) (.int .u64 biy) (.slice oay ly cy)
      have hH2 := hH.trans (t9.bel LE6.out hH.size)
      refine hK1.out _ _ hH2 (fun hH3 => ?_)
      clear hK1 K1 f0 f1 f2 f3 f4 f5 f6 f7 f8 e0 e1 e2 e3 e4 e5 e6 e7 e8 hH2
      have X5 := Zb (X5.out.tn t9 (fun e => NE.out (by first | exact e | exact e.symm)))
      have X6 := Zb k9
      clear k9 t9 hH
      have hH := hH3
      clear hH3
      generalize ((((((((d3.setCell ⟨q6, 0, none⟩ (.int .i64 ky)).setCell ⟨q6, 1, none⟩ (.int .i64 py)).setCell ⟨q6, 2, none⟩ (.string ny)).setCell ⟨q6, 3, none⟩ (.int .i64 tyy)).setCell ⟨q6, 4, none⟩ (.int .i64 nzy)).setCell ⟨q6, 5, none⟩ (.int .i64 zy)).setCell ⟨q6, 6, none⟩ (.int .i64 oby)).setCell ⟨q6, 7, none⟩ (.int .u64 biy)).setCell ⟨q6, 8, none⟩ (.slice oay ly cy) = d4 at *
      refine wpAnyH_done (by kernel_rfl) ?_ _
      go_wp2_with fail
      go_meet
      case rel => exact ⟨q5, q6, rfl, rfl, rfl, X5.out, X6.out, hH, LE5.out, LE6.out⟩
 case rest =>
  obtain ⟨q5, q6, rfl, rfl, rfl, I⟩ := hcut
  have bc := I.out.2.2.1
  have P1 := Zb (P0.out.bel bc)
  have F1 := Zb (F0.out.trans (Fx.of_bel bc))
  have W1 := Zb (W0.out.trans (bc.mono P0.out.big))
  have N5 := Zb I.out.1
  have N6 := Zb I.out.2.1
  have Na1 := Zb (Na0.out.bel bc)
  have Q5 := Zb (P0.out.new I.out.2.2.2.1)
  have Q6 := Zb (P0.out.new I.out.2.2.2.2)
  clear bc I P0 F0 W0 Na0
  obtain ⟨hx, ehx⟩ : ∃ hx, holdF kx nx = hx := ⟨_, rfl⟩
  obtain ⟨hy, ehy⟩ : ∃ hy, holdF ky ny = hy := ⟨_, rfl⟩
  have EHX := Zb ehx
  have EHY := Zb ehy
  have hlo : lo = (decide (hx < own) || (hx == own && own == 3)) := by rw [HLO.out, ← ehx]; rfl
  have hri : ri = decide (hy <= own) := by rw [HRI.out, ← ehy]; rfl
  clear ehx ehy HLO HRI
  go_wp2_with fail
  by_cases h1 : hx < own
  · have hd : decide (hx < own) = true := decide_eq_true h1
    have hl2 : lo = true := by rw [hlo, hd]; rfl
    subst hl2
    clear hlo
    refine wp_region_held_drew (S := fun w' => Nod w' q5 (.int .i64 kx) (.int .i64 px) (.string nx) (.int .i64 tyx) (.int .i64 nzx) (.int .i64 zx) (.int .i64 obx) (.int .u64 bix) (.slice oax lx cx)) ZI N5.out (fun hH => ?_)
    have J0 := Zb (show Below wc.heap.size wc wc.drew from Zm (Below.refl _ _))
    generalize wc.drew = c0 at *
    refine H_ 0 (v := ?_) ?_ hH ?_
    rotate_left 1
    · (intro w _; go_simp <;> with_reducible rfl)
    simp only [Act.put, S_]
    refine H_ 1 (v := ?_) ?_ hH ?_
    rotate_left 1
    · (intro w hSw; obtain ⟨_, e0, e1, e2, e3, e4, e5, e6, e7, e8⟩ := hSw.all; clear hSw; go_simp <;> with_reducible rfl)
    simp only [Act.put, S_]
    refine H_ 2 (v := ?_) ?_ hH ?_
    rotate_left 1
    · (intro w hSw; obtain ⟨_, e0, e1, e2, e3, e4, e5, e6, e7, e8⟩ := hSw.all; clear hSw; go_simp <;> with_reducible rfl)
    simp only [Act.put, S_]
    refine H_ 4 (v := ?_) ?_ hH ?_
    rotate_left 1
    · (intro w _; go_simp <;> with_reducible rfl)
    simp only [Act.put, S_]
    refine wpAnyH_ready (rs := [3]) (by kernel_rfl) (by decide) ?_
    refine AllReadyH.cons rfl (fun K1 hK1 => ?_) AllReadyH.nil
    go_simp
    refine (Yu c0 kx px nx tyx nzx zx obx bix oax lx cx).mono ?_
    rintro e c1 ⟨rfl, hb⟩
    rw [EHX.out]
    have J1 := Zb (Zc J0.out hb)
    refine hK1.out _ _ (hH.bel hb) (fun hH => ?_)
    clear hK1 K1 hb
    refine H_ 5 (v := ?_) ?_ hH ?_
    rotate_left 1
    · (intro w _; go_simp <;> with_reducible rfl)
    simp only [Act.put, S_]
    refine H_ 6 (v := ?_) ?_ hH ?_
    rotate_left 1
    · (intro w _; go_simp <;> with_reducible rfl)
    simp only [Act.put, S_]
    refine wpAnyH_take (i := 7) (v := undef) rfl (by kernel_rfl) (by kernel_rfl) (by kernel_rfl) (fun _ _ _ h => h) (Or.inr ⟨by rfl, rfl⟩) hH ?_
    simp only [Act.put, S_]
    refine wpAnyH_take (i := 8) (v := undef) rfl (by kernel_rfl) (by kernel_rfl) (by kernel_rfl) (fun _ _ _ h => h) (Or.inr ⟨by rfl, rfl⟩) hH ?_
    simp only [Act.put, S_]
    refine wpAnyH_take (i := 9) (v := undef) rfl (by kernel_rfl) (by kernel_rfl) (by kernel_rfl) (fun _ _ _ h => h) (Or.inr ⟨by rfl, rfl⟩) hH ?_
    simp only [Act.put, S_]
    refine wpAnyH_take (i := 10) (v := undef) rfl (by kernel_rfl) (by kernel_rfl) (by kernel_rfl) (fun _ _ _ h => h) (Or.inr ⟨by rfl, rfl⟩) hH ?_
    simp only [Act.put, S_]
    refine wpAnyH_take (i := 11) (v := undef) rfl (by kernel_rfl) (by kernel_rfl) (by kernel_rfl) (fun _ _ _ h => h) (Or.inr ⟨by rfl, rfl⟩) hH ?_
    simp only [Act.put, S_]
    refine wpAnyH_take (i := 12) (v := undef) rfl (by kernel_rfl) (by kernel_rfl) (by kernel_rfl) (fun _ _ _ h => h) (Or.inr ⟨by rfl, rfl⟩) hH ?_
    simp only [Act.put, S_]
    refine wpAnyH_take (i := 13) (v := undef) rfl (by kernel_rfl) (by kernel_rfl) (by kernel_rfl) (fun _ _ _ h => h) (Or.inr ⟨by rfl, rfl⟩) hH ?_
    simp only [Act.put, S_]
    refine wpAnyH_take (i := 14) (v := undef) rfl (by kernel_rfl) (by kernel_rfl) (by kernel_rfl) (fun _ _ _ h => h) (Or.inr ⟨by rfl, rfl⟩) hH ?_
    simp only [Act.put, S_]
    refine H_ 15 (v := ?_) ?_ hH ?_
    rotate_left 1
    · (intro w _; go_simp <;> with_reducible rfl)
    simp only [Act.put, S_]
    refine wpAnyH_ready (rs := [16]) (by kernel_rfl) (by decide) ?_
    refine AllReadyH.cons rfl (fun K1 hK1 => ?_) AllReadyH.nil
    go_simp
    refine (HX.out c1 bo _ true (P1.out.bel J1.out) (W1.out.trans (J1.out.mono (Nat.le_trans P1.out.big (Nat.le_refl _)))) (by have hz := HL.out; simp only [List.length_append] at hz; omega)).mono ?_
    rintro e z1 ⟨rfl, b2, p2, t2⟩
    refine hK1.out _ _ (Nod.fx hH t2 Q5.out.1 Q5.out.2) (fun hH => ?_)
    clear hK1 K1
    have tt := (Fx.of_bel (g := g) (bo := bo) J1.out).trans t2
    have P2 := Zb p2
    have F2 := Zb (F1.out.trans tt)
    have W2 := Zb (W1.out.trans (tt.bel P1.out))
    have N62 := Zb (Nod.fx N6.out tt Q6.out.1 Q6.out.2)
    have Q62 := Zb (And.intro Q6.out.1 (tt.ne (Ze N6.out) Q6.out.2))
    have Na2 := Zb (Nod.fx Na1.out tt Qa0.out.1 Qa0.out.2)
    clear p2 t2 tt P1 F1 W1 N5 N6 Q5 Q6 Na1 Qa0
    refine wpAnyH_done (by kernel_rfl) ?_ _
    obtain ⟨_, va0, va1, va2, va3, va4, va5, va6, va7, va8⟩ := Na2.out.all
    go_wp2_with fail
    refine (ZB P2.out _ rfl [⟨#[32]⟩, nm, ⟨#[32]⟩] 3 (by simp) (by have hz := HL.out; have z0 := Yp ⟨#[32]⟩ nm ⟨#[32]⟩; simp only [List.length_append, List.length_cons, List.length_nil] at hz z0 ⊢; omega)).mono ?_
    rintro e z2 ⟨rfl, b3, p3, t3⟩
    have P3 := Zb p3
    have F3 := Zb (F2.out.trans t3)
    have W3 := Zb (W2.out.trans (t3.bel P2.out))
    have N63 := Zb (Nod.fx N62.out t3 Q62.out.1 Q62.out.2)
    have Q63 := Zb (And.intro Q62.out.1 (t3.ne (Ze N62.out) Q62.out.2))
    clear p3 t3 P2 F2 W2 N62 Q62 va0 va1 va2 va3 va4 va5 va6 va7 va8 Na2
    go_wp2_with fail
    refine wp_region_held_drew (S := fun w' => Nod w' q6 (.int .i64 ky) (.int .i64 py) (.string ny) (.int .i64 tyy) (.int .i64 nzy) (.int .i64 zy) (.int .i64 oby) (.int .u64 biy) (.slice oay ly cy)) ZI N63.out (fun hH => ?_)
    have J0 := Zb (show Below z2.heap.size z2 z2.drew from Zm (Below.refl _ _))
    generalize z2.drew = c0 at *
    refine H_ 0 (v := ?_) ?_ hH ?_
    rotate_left 1
    · (intro w _; go_simp <;> with_reducible rfl)
    simp only [Act.put, S_]
    refine H_ 1 (v := ?_) ?_ hH ?_
    rotate_left 1
    · (intro w hSw; obtain ⟨_, e0, e1, e2, e3, e4, e5, e6, e7, e8⟩ := hSw.all; clear hSw; go_simp <;> with_reducible rfl)
    simp only [Act.put, S_]
    refine H_ 2 (v := ?_) ?_ hH ?_
    rotate_left 1
    · (intro w hSw; obtain ⟨_, e0, e1, e2, e3, e4, e5, e6, e7, e8⟩ := hSw.all; clear hSw; go_simp <;> with_reducible rfl)
    simp only [Act.put, S_]
    refine H_ 4 (v := ?_) ?_ hH ?_
    rotate_left 1
    · (intro w _; go_simp <;> with_reducible rfl)
    simp only [Act.put, S_]
    refine wpAnyH_ready (rs := [3]) (by kernel_rfl) (by decide) ?_
    refine AllReadyH.cons rfl (fun K1 hK1 => ?_) AllReadyH.nil
    go_simp
    refine (Yu c0 ky py ny tyy nzy zy oby biy oay ly cy).mono ?_
    rintro e c1 ⟨rfl, hb⟩
    rw [EHY.out]
    have J1 := Zb (Zc J0.out hb)
    refine hK1.out _ _ (hH.bel hb) (fun hH => ?_)
    clear hK1 K1 hb
    refine H_ 5 (v := ?_) ?_ hH ?_
    rotate_left 1
    · (intro w _; go_simp <;> with_reducible rfl)
    simp only [Act.put, S_]
    refine wpAnyH_ready (rs := [6]) (by kernel_rfl) (by decide) ?_
    refine AllReadyH.cons rfl (fun K1 hK1 => ?_) AllReadyH.nil
    go_simp
    rw [← hri]
    refine (HY.out c1 b3 _ ri (P3.out.bel J1.out) (W3.out.trans (J1.out.mono (Nat.le_trans P3.out.big (Nat.le_refl _)))) (by have hz := HL.out; have z0 := Yp ⟨#[32]⟩ nm ⟨#[32]⟩; simp only [List.length_append, List.length_cons, List.length_nil] at hz z0 ⊢; omega)).mono ?_
    rintro e c2 ⟨rfl, b4, p4, t4⟩
    refine hK1.out _ _ (Nod.fx hH t4 Q63.out.1 Q63.out.2) (fun hH => ?_)
    clear hK1 K1
    have R := Zb (And.intro p4 (F3.out.trans ((Fx.of_bel J1.out).trans t4)))
    clear p4 t4
    refine wpAnyH_done (by kernel_rfl) ?_ _
    go_wp2_with fail
    go_end0
    exact ⟨rfl, b4, by simpa [Zv] using R.out.1, R.out.2⟩
  have hd : decide (hx < own) = false := decide_eq_false h1
  by_cases h2 : hx = own
  · have he : (hx == own) = true := by simp [h2]
    by_cases h3 : own = 3
    · have ho : (own == 3) = true := by simp [h3]
      have hl2 : lo = true := by rw [hlo, hd, he, ho]; rfl
      subst hl2
      clear hlo h2 h3
      refine wp_region_held_drew (S := fun w' => Nod w' q5 (.int .i64 kx) (.int .i64 px) (.string nx) (.int .i64 tyx) (.int .i64 nzx) (.int .i64 zx) (.int .i64 obx) (.int .u64 bix) (.slice oax lx cx)) ZI N5.out (fun hH => ?_)
      have J0 := Zb (show Below wc.heap.size wc wc.drew from Zm (Below.refl _ _))
      generalize wc.drew = c0 at *
      refine H_ 0 (v := ?_) ?_ hH ?_
      rotate_left 1
      · (intro w _; go_simp <;> with_reducible rfl)
      simp only [Act.put, S_]
      refine H_ 1 (v := ?_) ?_ hH ?_
      rotate_left 1
      · (intro w hSw; obtain ⟨_, e0, e1, e2, e3, e4, e5, e6, e7, e8⟩ := hSw.all; clear hSw; go_simp <;> with_reducible rfl)
      simp only [Act.put, S_]
      refine H_ 2 (v := ?_) ?_ hH ?_
      rotate_left 1
      · (intro w hSw; obtain ⟨_, e0, e1, e2, e3, e4, e5, e6, e7, e8⟩ := hSw.all; clear hSw; go_simp <;> with_reducible rfl)
      simp only [Act.put, S_]
      refine H_ 4 (v := ?_) ?_ hH ?_
      rotate_left 1
      · (intro w _; go_simp <;> with_reducible rfl)
      simp only [Act.put, S_]
      refine wpAnyH_ready (rs := [3]) (by kernel_rfl) (by decide) ?_
      refine AllReadyH.cons rfl (fun K1 hK1 => ?_) AllReadyH.nil
      go_simp
      refine (Yu c0 kx px nx tyx nzx zx obx bix oax lx cx).mono ?_
      rintro e c1 ⟨rfl, hb⟩
      rw [EHX.out]
      have J1 := Zb (Zc J0.out hb)
      refine hK1.out _ _ (hH.bel hb) (fun hH => ?_)
      clear hK1 K1 hb
      refine H_ 5 (v := ?_) ?_ hH ?_
      rotate_left 1
      · (intro w _; go_simp <;> with_reducible rfl)
      simp only [Act.put, S_]
      refine H_ 6 (v := ?_) ?_ hH ?_
      rotate_left 1
      · (intro w _; go_simp <;> with_reducible rfl)
      simp only [Act.put, S_]
      refine H_ 7 (v := ?_) ?_ hH ?_
      rotate_left 1
      · (intro w hSw; obtain ⟨_, e0, e1, e2, e3, e4, e5, e6, e7, e8⟩ := hSw.all; clear hSw; go_simp <;> with_reducible rfl)
      simp only [Act.put, S_]
      refine H_ 9 (v := ?_) ?_ hH ?_
      rotate_left 1
      · (intro w _; go_simp <;> with_reducible rfl)
      simp only [Act.put, S_]
      refine wpAnyH_ready (rs := [8]) (by kernel_rfl) (by decide) ?_
      refine AllReadyH.cons rfl (fun K1 hK1 => ?_) AllReadyH.nil
      go_simp
      refine (Yu c1 kx px nx tyx nzx zx obx bix oax lx cx).mono ?_
      rintro e c2 ⟨rfl, hb⟩
      rw [EHX.out]
      have J2 := Zb (Zc J1.out hb)
      refine hK1.out _ _ (hH.bel hb) (fun hH => ?_)
      clear hK1 K1 hb
      refine H_ 10 (v := ?_) ?_ hH ?_
      rotate_left 1
      · (intro w _; go_simp <;> with_reducible rfl)
      simp only [Act.put, S_]
      refine H_ 11 (v := ?_) ?_ hH ?_
      rotate_left 1
      · (intro w _; go_simp <;> with_reducible rfl)
      simp only [Act.put, S_]
      refine H_ 12 (v := ?_) ?_ hH ?_
      rotate_left 1
      · (intro w _; go_simp <;> with_reducible rfl)
      simp only [Act.put, S_]
      refine H_ 13 (v := ?_) ?_ hH ?_
      rotate_left 1
      · (intro w _; go_simp <;> with_reducible rfl)
      simp only [Act.put, S_]
      refine H_ 14 (v := ?_) ?_ hH ?_
      rotate_left 1
      · (intro w _; go_simp <;> with_reducible rfl)
      simp only [Act.put, S_]
      refine H_ 15 (v := ?_) ?_ hH ?_
      rotate_left 1
      · (intro w _; go_simp <;> with_reducible rfl)
      simp only [Act.put, S_]
      refine wpAnyH_ready (rs := [16]) (by kernel_rfl) (by decide) ?_
      refine AllReadyH.cons rfl (fun K1 hK1 => ?_) AllReadyH.nil
      go_simp
      refine (HX.out c2 bo _ true (P1.out.bel J2.out) (W1.out.trans (J2.out.mono (Nat.le_trans P1.out.big (Nat.le_refl _)))) (by have hz := HL.out; simp only [List.length_append] at hz; omega)).mono ?_
      rintro e z1 ⟨rfl, b2, p2, t2⟩
      refine hK1.out _ _ (Nod.fx hH t2 Q5.out.1 Q5.out.2) (fun hH => ?_)
      clear hK1 K1
      have tt := (Fx.of_bel (g := g) (bo := bo) J2.out).trans t2
      have P2 := Zb p2
      have F2 := Zb (F1.out.trans tt)
      have W2 := Zb (W1.out.trans (tt.bel P1.out))
      have N62 := Zb (Nod.fx N6.out tt Q6.out.1 Q6.out.2)
      have Q62 := Zb (And.intro Q6.out.1 (tt.ne (Ze N6.out) Q6.out.2))
      have Na2 := Zb (Nod.fx Na1.out tt Qa0.out.1 Qa0.out.2)
      clear p2 t2 tt P1 F1 W1 N5 N6 Q5 Q6 Na1 Qa0
      refine wpAnyH_done (by kernel_rfl) ?_ _
      obtain ⟨_, va0, va1, va2, va3, va4, va5, va6, va7, va8⟩ := Na2.out.all
      go_wp2_with fail
      refine (ZB P2.out _ rfl [⟨#[32]⟩, nm, ⟨#[32]⟩] 3 (by simp) (by have hz := HL.out; have z0 := Yp ⟨#[32]⟩ nm ⟨#[32]⟩; simp only [List.length_append, List.length_cons, List.length_nil] at hz z0 ⊢; omega)).mono ?_
      rintro e z2 ⟨rfl, b3, p3, t3⟩
      have P3 := Zb p3
      have F3 := Zb (F2.out.trans t3)
      have W3 := Zb (W2.out.trans (t3.bel P2.out))
      have N63 := Zb (Nod.fx N62.out t3 Q62.out.1 Q62.out.2)
      have Q63 := Zb (And.intro Q62.out.1 (t3.ne (Ze N62.out) Q62.out.2))
      clear p3 t3 P2 F2 W2 N62 Q62 va0 va1 va2 va3 va4 va5 va6 va7 va8 Na2
      go_wp2_with fail
      refine wp_region_held_drew (S := fun w' => Nod w' q6 (.int .i64 ky) (.int .i64 py) (.string ny) (.int .i64 tyy) (.int .i64 nzy) (.int .i64 zy) (.int .i64 oby) (.int .u64 biy) (.slice oay ly cy)) ZI N63.out (fun hH => ?_)
      have J0 := Zb (show Below z2.heap.size z2 z2.drew from Zm (Below.refl _ _))
      generalize z2.drew = c0 at *
      refine H_ 0 (v := ?_) ?_ hH ?_
      rotate_left 1
      · (intro w _; go_simp <;> with_reducible rfl)
      simp only [Act.put, S_]
      refine H_ 1 (v := ?_) ?_ hH ?_
      rotate_left 1
      · (intro w hSw; obtain ⟨_, e0, e1, e2, e3, e4, e5, e6, e7, e8⟩ := hSw.all; clear hSw; go_simp <;> with_reducible rfl)
      simp only [Act.put, S_]
      refine H_ 2 (v := ?_) ?_ hH ?_
      rotate_left 1
      · (intro w hSw; obtain ⟨_, e0, e1, e2, e3, e4, e5, e6, e7, e8⟩ := hSw.all; clear hSw; go_simp <;> with_reducible rfl)
      simp only [Act.put, S_]
      refine H_ 4 (v := ?_) ?_ hH ?_
      rotate_left 1
      · (intro w _; go_simp <;> with_reducible rfl)
      simp only [Act.put, S_]
      refine wpAnyH_ready (rs := [3]) (by kernel_rfl) (by decide) ?_
      refine AllReadyH.cons rfl (fun K1 hK1 => ?_) AllReadyH.nil
      go_simp
      refine (Yu c0 ky py ny tyy nzy zy oby biy oay ly cy).mono ?_
      rintro e c1 ⟨rfl, hb⟩
      rw [EHY.out]
      have J1 := Zb (Zc J0.out hb)
      refine hK1.out _ _ (hH.bel hb) (fun hH => ?_)
      clear hK1 K1 hb
      refine H_ 5 (v := ?_) ?_ hH ?_
      rotate_left 1
      · (intro w _; go_simp <;> with_reducible rfl)
      simp only [Act.put, S_]
      refine wpAnyH_ready (rs := [6]) (by kernel_rfl) (by decide) ?_
      refine AllReadyH.cons rfl (fun K1 hK1 => ?_) AllReadyH.nil
      go_simp
      rw [← hri]
      refine (HY.out c1 b3 _ ri (P3.out.bel J1.out) (W3.out.trans (J1.out.mono (Nat.le_trans P3.out.big (Nat.le_refl _)))) (by have hz := HL.out; have z0 := Yp ⟨#[32]⟩ nm ⟨#[32]⟩; simp only [List.length_append, List.length_cons, List.length_nil] at hz z0 ⊢; omega)).mono ?_
      rintro e c2 ⟨rfl, b4, p4, t4⟩
      refine hK1.out _ _ (Nod.fx hH t4 Q63.out.1 Q63.out.2) (fun hH => ?_)
      clear hK1 K1
      have R := Zb (And.intro p4 (F3.out.trans ((Fx.of_bel J1.out).trans t4)))
      clear p4 t4
      refine wpAnyH_done (by kernel_rfl) ?_ _
      go_wp2_with fail
      go_end0
      exact ⟨rfl, b4, by simpa [Zv] using R.out.1, R.out.2⟩
    · have ho : (own == 3) = false := by simp [h3]
      have hl2 : lo = false := by rw [hlo, hd, he, ho]; rfl
      subst hl2
      clear hlo h2 h3
      refine wp_region_held_drew (S := fun w' => Nod w' q5 (.int .i64 kx) (.int .i64 px) (.string nx) (.int .i64 tyx) (.int .i64 nzx) (.int .i64 zx) (.int .i64 obx) (.int .u64 bix) (.slice oax lx cx)) ZI N5.out (fun hH => ?_)
      have J0 := Zb (show Below wc.heap.size wc wc.drew from Zm (Below.refl _ _))
      generalize wc.drew = c0 at *
      refine H_ 0 (v := ?_) ?_ hH ?_
      rotate_left 1
      · (intro w _; go_simp <;> with_reducible rfl)
      simp only [Act.put, S_]
      refine H_ 1 (v := ?_) ?_ hH ?_
      rotate_left 1
      · (intro w hSw; obtain ⟨_, e0, e1, e2, e3, e4, e5, e6, e7, e8⟩ := hSw.all; clear hSw; go_simp <;> with_reducible rfl)
      simp only [Act.put, S_]
      refine H_ 2 (v := ?_) ?_ hH ?_
      rotate_left 1
      · (intro w hSw; obtain ⟨_, e0, e1, e2, e3, e4, e5, e6, e7, e8⟩ := hSw.all; clear hSw; go_simp <;> with_reducible rfl)
      simp only [Act.put, S_]
      refine H_ 4 (v := ?_) ?_ hH ?_
      rotate_left 1
      · (intro w _; go_simp <;> with_reducible rfl)
      simp only [Act.put, S_]
      refine wpAnyH_ready (rs := [3]) (by kernel_rfl) (by decide) ?_
      refine AllReadyH.cons rfl (fun K1 hK1 => ?_) AllReadyH.nil
      go_simp
      refine (Yu c0 kx px nx tyx nzx zx obx bix oax lx cx).mono ?_
      rintro e c1 ⟨rfl, hb⟩
      rw [EHX.out]
      have J1 := Zb (Zc J0.out hb)
      refine hK1.out _ _ (hH.bel hb) (fun hH => ?_)
      clear hK1 K1 hb
      refine H_ 5 (v := ?_) ?_ hH ?_
      rotate_left 1
      · (intro w _; go_simp <;> with_reducible rfl)
      simp only [Act.put, S_]
      refine H_ 6 (v := ?_) ?_ hH ?_
      rotate_left 1
      · (intro w _; go_simp <;> with_reducible rfl)
      simp only [Act.put, S_]
      refine H_ 7 (v := ?_) ?_ hH ?_
      rotate_left 1
      · (intro w hSw; obtain ⟨_, e0, e1, e2, e3, e4, e5, e6, e7, e8⟩ := hSw.all; clear hSw; go_simp <;> with_reducible rfl)
      simp only [Act.put, S_]
      refine H_ 9 (v := ?_) ?_ hH ?_
      rotate_left 1
      · (intro w _; go_simp <;> with_reducible rfl)
      simp only [Act.put, S_]
      refine wpAnyH_ready (rs := [8]) (by kernel_rfl) (by decide) ?_
      refine AllReadyH.cons rfl (fun K1 hK1 => ?_) AllReadyH.nil
      go_simp
      refine (Yu c1 kx px nx tyx nzx zx obx bix oax lx cx).mono ?_
      rintro e c2 ⟨rfl, hb⟩
      rw [EHX.out]
      have J2 := Zb (Zc J1.out hb)
      refine hK1.out _ _ (hH.bel hb) (fun hH => ?_)
      clear hK1 K1 hb
      refine H_ 10 (v := ?_) ?_ hH ?_
      rotate_left 1
      · (intro w _; go_simp <;> with_reducible rfl)
      simp only [Act.put, S_]
      refine H_ 11 (v := ?_) ?_ hH ?_
      rotate_left 1
      · (intro w _; go_simp <;> with_reducible rfl)
      simp only [Act.put, S_]
      refine H_ 12 (v := ?_) ?_ hH ?_
      rotate_left 1
      · (intro w _; go_simp <;> with_reducible rfl)
      simp only [Act.put, S_]
      refine H_ 13 (v := ?_) ?_ hH ?_
      rotate_left 1
      · (intro w _; go_simp <;> with_reducible rfl)
      simp only [Act.put, S_]
      refine H_ 14 (v := ?_) ?_ hH ?_
      rotate_left 1
      · (intro w _; go_simp <;> with_reducible rfl)
      simp only [Act.put, S_]
      refine H_ 15 (v := ?_) ?_ hH ?_
      rotate_left 1
      · (intro w _; go_simp <;> with_reducible rfl)
      simp only [Act.put, S_]
      refine wpAnyH_ready (rs := [16]) (by kernel_rfl) (by decide) ?_
      refine AllReadyH.cons rfl (fun K1 hK1 => ?_) AllReadyH.nil
      go_simp
      refine (HX.out c2 bo _ false (P1.out.bel J2.out) (W1.out.trans (J2.out.mono (Nat.le_trans P1.out.big (Nat.le_refl _)))) (by have hz := HL.out; simp only [List.length_append] at hz; omega)).mono ?_
      rintro e z1 ⟨rfl, b2, p2, t2⟩
      refine hK1.out _ _ (Nod.fx hH t2 Q5.out.1 Q5.out.2) (fun hH => ?_)
      clear hK1 K1
      have tt := (Fx.of_bel (g := g) (bo := bo) J2.out).trans t2
      have P2 := Zb p2
      have F2 := Zb (F1.out.trans tt)
      have W2 := Zb (W1.out.trans (tt.bel P1.out))
      have N62 := Zb (Nod.fx N6.out tt Q6.out.1 Q6.out.2)
      have Q62 := Zb (And.intro Q6.out.1 (tt.ne (Ze N6.out) Q6.out.2))
      have Na2 := Zb (Nod.fx Na1.out tt Qa0.out.1 Qa0.out.2)
      clear p2 t2 tt P1 F1 W1 N5 N6 Q5 Q6 Na1 Qa0
      refine wpAnyH_done (by kernel_rfl) ?_ _
      obtain ⟨_, va0, va1, va2, va3, va4, va5, va6, va7, va8⟩ := Na2.out.all
      go_wp2_with fail
      refine (ZB P2.out _ rfl [⟨#[32]⟩, nm, ⟨#[32]⟩] 3 (by simp) (by have hz := HL.out; have z0 := Yp ⟨#[32]⟩ nm ⟨#[32]⟩; simp only [List.length_append, List.length_cons, List.length_nil] at hz z0 ⊢; omega)).mono ?_
      rintro e z2 ⟨rfl, b3, p3, t3⟩
      have P3 := Zb p3
      have F3 := Zb (F2.out.trans t3)
      have W3 := Zb (W2.out.trans (t3.bel P2.out))
      have N63 := Zb (Nod.fx N62.out t3 Q62.out.1 Q62.out.2)
      have Q63 := Zb (And.intro Q62.out.1 (t3.ne (Ze N62.out) Q62.out.2))
      clear p3 t3 P2 F2 W2 N62 Q62 va0 va1 va2 va3 va4 va5 va6 va7 va8 Na2
      go_wp2_with fail
      refine wp_region_held_drew (S := fun w' => Nod w' q6 (.int .i64 ky) (.int .i64 py) (.string ny) (.int .i64 tyy) (.int .i64 nzy) (.int .i64 zy) (.int .i64 oby) (.int .u64 biy) (.slice oay ly cy)) ZI N63.out (fun hH => ?_)
      have J0 := Zb (show Below z2.heap.size z2 z2.drew from Zm (Below.refl _ _))
      generalize z2.drew = c0 at *
      refine H_ 0 (v := ?_) ?_ hH ?_
      rotate_left 1
      · (intro w _; go_simp <;> with_reducible rfl)
      simp only [Act.put, S_]
      refine H_ 1 (v := ?_) ?_ hH ?_
      rotate_left 1
      · (intro w hSw; obtain ⟨_, e0, e1, e2, e3, e4, e5, e6, e7, e8⟩ := hSw.all; clear hSw; go_simp <;> with_reducible rfl)
      simp only [Act.put, S_]
      refine H_ 2 (v := ?_) ?_ hH ?_
      rotate_left 1
      · (intro w hSw; obtain ⟨_, e0, e1, e2, e3, e4, e5, e6, e7, e8⟩ := hSw.all; clear hSw; go_simp <;> with_reducible rfl)
      simp only [Act.put, S_]
      refine H_ 4 (v := ?_) ?_ hH ?_
      rotate_left 1
      · (intro w _; go_simp <;> with_reducible rfl)
      simp only [Act.put, S_]
      refine wpAnyH_ready (rs := [3]) (by kernel_rfl) (by decide) ?_
      refine AllReadyH.cons rfl (fun K1 hK1 => ?_) AllReadyH.nil
      go_simp
      refine (Yu c0 ky py ny tyy nzy zy oby biy oay ly cy).mono ?_
      rintro e c1 ⟨rfl, hb⟩
      rw [EHY.out]
      have J1 := Zb (Zc J0.out hb)
      refine hK1.out _ _ (hH.bel hb) (fun hH => ?_)
      clear hK1 K1 hb
      refine H_ 5 (v := ?_) ?_ hH ?_
      rotate_left 1
      · (intro w _; go_simp <;> with_reducible rfl)
      simp only [Act.put, S_]
      refine wpAnyH_ready (rs := [6]) (by kernel_rfl) (by decide) ?_
      refine AllReadyH.cons rfl (fun K1 hK1 => ?_) AllReadyH.nil
      go_simp
      rw [← hri]
      refine (HY.out c1 b3 _ ri (P3.out.bel J1.out) (W3.out.trans (J1.out.mono (Nat.le_trans P3.out.big (Nat.le_refl _)))) (by have hz := HL.out; have z0 := Yp ⟨#[32]⟩ nm ⟨#[32]⟩; simp only [List.length_append, List.length_cons, List.length_nil] at hz z0 ⊢; omega)).mono ?_
      rintro e c2 ⟨rfl, b4, p4, t4⟩
      refine hK1.out _ _ (Nod.fx hH t4 Q63.out.1 Q63.out.2) (fun hH => ?_)
      clear hK1 K1
      have R := Zb (And.intro p4 (F3.out.trans ((Fx.of_bel J1.out).trans t4)))
      clear p4 t4
      refine wpAnyH_done (by kernel_rfl) ?_ _
      go_wp2_with fail
      go_end0
      exact ⟨rfl, b4, by simpa [Zv] using R.out.1, R.out.2⟩
  · have he : (hx == own) = false := by simp [h2]
    have hl2 : lo = false := by rw [hlo, hd, he]; rfl
    subst hl2
    clear hlo h2
    refine wp_region_held_drew (S := fun w' => Nod w' q5 (.int .i64 kx) (.int .i64 px) (.string nx) (.int .i64 tyx) (.int .i64 nzx) (.int .i64 zx) (.int .i64 obx) (.int .u64 bix) (.slice oax lx cx)) ZI N5.out (fun hH => ?_)
    have J0 := Zb (show Below wc.heap.size wc wc.drew from Zm (Below.refl _ _))
    generalize wc.drew = c0 at *
    refine H_ 0 (v := ?_) ?_ hH ?_
    rotate_left 1
    · (intro w _; go_simp <;> with_reducible rfl)
    simp only [Act.put, S_]
    refine H_ 1 (v := ?_) ?_ hH ?_
    rotate_left 1
    · (intro w hSw; obtain ⟨_, e0, e1, e2, e3, e4, e5, e6, e7, e8⟩ := hSw.all; clear hSw; go_simp <;> with_reducible rfl)
    simp only [Act.put, S_]
    refine H_ 2 (v := ?_) ?_ hH ?_
    rotate_left 1
    · (intro w hSw; obtain ⟨_, e0, e1, e2, e3, e4, e5, e6, e7, e8⟩ := hSw.all; clear hSw; go_simp <;> with_reducible rfl)
    simp only [Act.put, S_]
    refine H_ 4 (v := ?_) ?_ hH ?_
    rotate_left 1
    · (intro w _; go_simp <;> with_reducible rfl)
    simp only [Act.put, S_]
    refine wpAnyH_ready (rs := [3]) (by kernel_rfl) (by decide) ?_
    refine AllReadyH.cons rfl (fun K1 hK1 => ?_) AllReadyH.nil
    go_simp
    refine (Yu c0 kx px nx tyx nzx zx obx bix oax lx cx).mono ?_
    rintro e c1 ⟨rfl, hb⟩
    rw [EHX.out]
    have J1 := Zb (Zc J0.out hb)
    refine hK1.out _ _ (hH.bel hb) (fun hH => ?_)
    clear hK1 K1 hb
    refine H_ 5 (v := ?_) ?_ hH ?_
    rotate_left 1
    · (intro w _; go_simp <;> with_reducible rfl)
    simp only [Act.put, S_]
    refine H_ 6 (v := ?_) ?_ hH ?_
    rotate_left 1
    · (intro w _; go_simp <;> with_reducible rfl)
    simp only [Act.put, S_]
    refine H_ 7 (v := ?_) ?_ hH ?_
    rotate_left 1
    · (intro w hSw; obtain ⟨_, e0, e1, e2, e3, e4, e5, e6, e7, e8⟩ := hSw.all; clear hSw; go_simp <;> with_reducible rfl)
    simp only [Act.put, S_]
    refine H_ 9 (v := ?_) ?_ hH ?_
    rotate_left 1
    · (intro w _; go_simp <;> with_reducible rfl)
    simp only [Act.put, S_]
    refine wpAnyH_ready (rs := [8]) (by kernel_rfl) (by decide) ?_
    refine AllReadyH.cons rfl (fun K1 hK1 => ?_) AllReadyH.nil
    go_simp
    refine (Yu c1 kx px nx tyx nzx zx obx bix oax lx cx).mono ?_
    rintro e c2 ⟨rfl, hb⟩
    rw [EHX.out]
    have J2 := Zb (Zc J1.out hb)
    refine hK1.out _ _ (hH.bel hb) (fun hH => ?_)
    clear hK1 K1 hb
    refine H_ 10 (v := ?_) ?_ hH ?_
    rotate_left 1
    · (intro w _; go_simp <;> with_reducible rfl)
    simp only [Act.put, S_]
    refine H_ 11 (v := ?_) ?_ hH ?_
    rotate_left 1
    · (intro w _; go_simp <;> with_reducible rfl)
    simp only [Act.put, S_]
    refine wpAnyH_take (i := 12) (v := undef) rfl (by kernel_rfl) (by kernel_rfl) (by kernel_rfl) (fun _ _ _ h => h) (Or.inr ⟨by rfl, rfl⟩) hH ?_
    simp only [Act.put, S_]
    refine wpAnyH_take (i := 13) (v := undef) rfl (by kernel_rfl) (by kernel_rfl) (by kernel_rfl) (fun _ _ _ h => h) (Or.inr ⟨by rfl, rfl⟩) hH ?_
    simp only [Act.put, S_]
    refine H_ 14 (v := ?_) ?_ hH ?_
    rotate_left 1
    · (intro w _; go_simp <;> with_reducible rfl)
    simp only [Act.put, S_]
    refine H_ 15 (v := ?_) ?_ hH ?_
    rotate_left 1
    · (intro w _; go_simp <;> with_reducible rfl)
    simp only [Act.put, S_]
    refine wpAnyH_ready (rs := [16]) (by kernel_rfl) (by decide) ?_
    refine AllReadyH.cons rfl (fun K1 hK1 => ?_) AllReadyH.nil
    go_simp
    refine (HX.out c2 bo _ false (P1.out.bel J2.out) (W1.out.trans (J2.out.mono (Nat.le_trans P1.out.big (Nat.le_refl _)))) (by have hz := HL.out; simp only [List.length_append] at hz; omega)).mono ?_
    rintro e z1 ⟨rfl, b2, p2, t2⟩
    refine hK1.out _ _ (Nod.fx hH t2 Q5.out.1 Q5.out.2) (fun hH => ?_)
    clear hK1 K1
    have tt := (Fx.of_bel (g := g) (bo := bo) J2.out).trans t2
    have P2 := Zb p2
    have F2 := Zb (F1.out.trans tt)
    have W2 := Zb (W1.out.trans (tt.bel P1.out))
    have N62 := Zb (Nod.fx N6.out tt Q6.out.1 Q6.out.2)
    have Q62 := Zb (And.intro Q6.out.1 (tt.ne (Ze N6.out) Q6.out.2))
    have Na2 := Zb (Nod.fx Na1.out tt Qa0.out.1 Qa0.out.2)
    clear p2 t2 tt P1 F1 W1 N5 N6 Q5 Q6 Na1 Qa0
    refine wpAnyH_done (by kernel_rfl) ?_ _
    obtain ⟨_, va0, va1, va2, va3, va4, va5, va6, va7, va8⟩ := Na2.out.all
    go_wp2_with fail
    refine (ZB P2.out _ rfl [⟨#[32]⟩, nm, ⟨#[32]⟩] 3 (by simp) (by have hz := HL.out; have z0 := Yp ⟨#[32]⟩ nm ⟨#[32]⟩; simp only [List.length_append, List.length_cons, List.length_nil] at hz z0 ⊢; omega)).mono ?_
    rintro e z2 ⟨rfl, b3, p3, t3⟩
    have P3 := Zb p3
    have F3 := Zb (F2.out.trans t3)
    have W3 := Zb (W2.out.trans (t3.bel P2.out))
    have N63 := Zb (Nod.fx N62.out t3 Q62.out.1 Q62.out.2)
    have Q63 := Zb (And.intro Q62.out.1 (t3.ne (Ze N62.out) Q62.out.2))
    clear p3 t3 P2 F2 W2 N62 Q62 va0 va1 va2 va3 va4 va5 va6 va7 va8 Na2
    go_wp2_with fail
    refine wp_region_held_drew (S := fun w' => Nod w' q6 (.int .i64 ky) (.int .i64 py) (.string ny) (.int .i64 tyy) (.int .i64 nzy) (.int .i64 zy) (.int .i64 oby) (.int .u64 biy) (.slice oay ly cy)) ZI N63.out (fun hH => ?_)
    have J0 := Zb (show Below z2.heap.size z2 z2.drew from Zm (Below.refl _ _))
    generalize z2.drew = c0 at *
    refine H_ 0 (v := ?_) ?_ hH ?_
    rotate_left 1
    · (intro w _; go_simp <;> with_reducible rfl)
    simp only [Act.put, S_]
    refine H_ 1 (v := ?_) ?_ hH ?_
    rotate_left 1
    · (intro w hSw; obtain ⟨_, e0, e1, e2, e3, e4, e5, e6, e7, e8⟩ := hSw.all; clear hSw; go_simp <;> with_reducible rfl)
    simp only [Act.put, S_]
    refine H_ 2 (v := ?_) ?_ hH ?_
    rotate_left 1
    · (intro w hSw; obtain ⟨_, e0, e1, e2, e3, e4, e5, e6, e7, e8⟩ := hSw.all; clear hSw; go_simp <;> with_reducible rfl)
    simp only [Act.put, S_]
    refine H_ 4 (v := ?_) ?_ hH ?_
    rotate_left 1
    · (intro w _; go_simp <;> with_reducible rfl)
    simp only [Act.put, S_]
    refine wpAnyH_ready (rs := [3]) (by kernel_rfl) (by decide) ?_
    refine AllReadyH.cons rfl (fun K1 hK1 => ?_) AllReadyH.nil
    go_simp
    refine (Yu c0 ky py ny tyy nzy zy oby biy oay ly cy).mono ?_
    rintro e c1 ⟨rfl, hb⟩
    rw [EHY.out]
    have J1 := Zb (Zc J0.out hb)
    refine hK1.out _ _ (hH.bel hb) (fun hH => ?_)
    clear hK1 K1 hb
    refine H_ 5 (v := ?_) ?_ hH ?_
    rotate_left 1
    · (intro w _; go_simp <;> with_reducible rfl)
    simp only [Act.put, S_]
    refine wpAnyH_ready (rs := [6]) (by kernel_rfl) (by decide) ?_
    refine AllReadyH.cons rfl (fun K1 hK1 => ?_) AllReadyH.nil
    go_simp
    rw [← hri]
    refine (HY.out c1 b3 _ ri (P3.out.bel J1.out) (W3.out.trans (J1.out.mono (Nat.le_trans P3.out.big (Nat.le_refl _)))) (by have hz := HL.out; have z0 := Yp ⟨#[32]⟩ nm ⟨#[32]⟩; simp only [List.length_append, List.length_cons, List.length_nil] at hz z0 ⊢; omega)).mono ?_
    rintro e c2 ⟨rfl, b4, p4, t4⟩
    refine hK1.out _ _ (Nod.fx hH t4 Q63.out.1 Q63.out.2) (fun hH => ?_)
    clear hK1 K1
    have R := Zb (And.intro p4 (F3.out.trans ((Fx.of_bel J1.out).trans t4)))
    clear p4 t4
    refine wpAnyH_done (by kernel_rfl) ?_ _
    go_wp2_with fail
    go_end0
    exact ⟨rfl, b4, by simpa [Zv] using R.out.1, R.out.2⟩
def SixOk : Prop := ∀ (w : World) (x : Int), 0 <= x -> x <= 18446744073709551615 -> Calls Tryz.prog 100 #[.int .u64 x] w fun e w' => e = .returned (.string ⟨(hxs x.toNat 16).toArray⟩) /\ Below w.heap.size w w'
def Rg (n : Nd) : Prop := n.num <= 9223372036854775807 /\ 0 <= n.bits /\ n.bits <= 18446744073709551615 /\ (n.kind = 26 -> SixOk)
def RgF : Nat -> Nd -> Prop
 | 0, _ => False
 | m + 1, n => Rg n /\ ∀ k ∈ n.kids, RgF m k
def trueT : List UInt8 := [116, 114, 117, 101]
def falseT : List UInt8 := [102, 97, 108, 115, 101]
def wrr (tx : Nd -> List UInt8) : Nd -> List UInt8
 | .mk k _ nm _ n _ _ b ks =>
  if k = 25 then decT n.toNat []
  else if k = 26 then 35 :: hxs b.toNat 16
  else if k = 27 then (if n = 1 then trueT else falseT)
  else if k = 28 then nm.data.toList
  else if k = 29 then (match ks with | [x] => nm.data.toList ++ ([91] ++ (tx x ++ [93])) | _ => [])
  else if k = 30 then (match ks with | [x] => nm.data.toList ++ (if sgnF nm = true then prt (loB x) (tx x) else 40 :: (tx x ++ [41])) | _ => [])
  else if k = 31 then (match ks with | [x, y] => prt (leB (rankF nm) x) (tx x) ++ (32 :: (nm.data.toList ++ (32 :: prt (riB (rankF nm) y) (tx y)))) | _ => [])
  else []
def wrF : Nat -> Nd -> List UInt8
 | 0, _ => []
 | m + 1, n => wrr (wrF m) n
theorem lenT1 (x : List UInt8) : (Zv [⟨x.toArray⟩]).length = x.length := by simp [Zv]
theorem lenT2 (c : UInt8) (x : List UInt8) : (Zv [⟨#[c]⟩, ⟨x.toArray⟩]).length = x.length + 1 := by simp [Zv]
theorem Yg {ok : Nd -> Bool} {ks : List Nd} (h : Yz ok ks = true) : ∃ x, ks = [x] /\ ok x = true := by
 match ks, h with
 | [x], h => exact ⟨x, rfl, h⟩
theorem all2_shape {ok ok' : Nd -> Bool} {ks : List Nd} (h : all2B ok ok' ks = true) : ∃ x y, ks = [x, y] /\ ok x = true /\ ok' y = true := by
 match ks, h with
 | [x, y], h =>
  have h : (ok x && ok' y) = true := h
  simp only [Bool.and_eq_true] at h
  exact ⟨x, y, rfl, h.1, h.2⟩
theorem pexpr_from {wB : World} (ht : Tb wB) (hG : 23 <= wB.heap.size) (ex : Nd -> Bool) (tx : Nd -> List UInt8) (n : Nd) (hin : exr ex n = true) (hg : Rg n) (hr : ∀ k ∈ n.kids, RuleP 64 tx wB k) : RuleP 64 (wrr tx) wB n := by
 intro w g bo l ms mt k v hp hB hv hl
 have hv0 := hv
 obtain ⟨kd, ps, nm, t, nz, z, ob, bi, ks⟩ := n
 unfold Zq at hv
 obtain ⟨s, rfl, hkk⟩ := hv
 obtain ⟨oa, cap, rfl, hsh⟩ := hkk.kid
 obtain ⟨len, hln⟩ : ∃ len, len = ks.length := ⟨_, rfl⟩
 rw [← hln] at hkk hv0 ⊢
 by_cases h25 : kd = 25
 · subst h25
   have hz0 : 0 <= nz := by
    simp [exr] at hin
    exact hin.1
   have hz1 : nz <= 9223372036854775807 := hg.1
   replace hl : l.length + (decT nz.toNat []).length <= 140737488355328 := by simpa [wrr] using hl
   rw [show wrr tx (.mk 25 ps nm t nz z ob bi ks) = decT nz.toNat [] by simp [wrr]]
   have HL := Zb hl
   have HT := Zb ht
   have hb1 := Zd w (.cells #[.int .i64 25, .int .i64 ps, .string nm, .int .i64 t, .int .i64 nz, .int .i64 z, .int .i64 ob, .int .u64 bi, .slice oa len cap] 29)
   have Na0 := Zb (show Nod (w.alloc (.cells #[.int .i64 25, .int .i64 ps, .string nm, .int .i64 t, .int .i64 nz, .int .i64 z, .int .i64 ob, .int .u64 bi, .slice oa len cap] 29)) w.heap.size (.int .i64 25) (.int .i64 ps) (.string nm) (.int .i64 t) (.int .i64 nz) (.int .i64 z) (.int .i64 ob) (.int .u64 bi) (.slice oa len cap) from B_ _ _)
   have Qa0 := Zb (hp.new (Nat.le_refl w.heap.size))
   have P0 := Zb (hp.bel hb1)
   have F0 := Zb (Fx.of_bel (g := g) (bo := bo) hb1)
   have W0 := Zb (hB.trans (hb1.mono hB.size))
   have S1 := Zb (show w.heap.size + 1 = (w.alloc (.cells #[.int .i64 25, .int .i64 ps, .string nm, .int .i64 t, .int .i64 nz, .int .i64 z, .int .i64 ob, .int .u64 bi, .slice oa len cap] 29)).heap.size by simp)
   clear hp hB hl hr hkk hln hsh hb1 hv0 hin hg ht
   go_enter Tryz.func64, Tryz.ntmps64
   go_wp2_with fail
   generalize w.alloc _ = w1 at *
   refine (itoa_any (HT.out.bel W0.out hG) nz hz0 hz1).mono ?_
   rintro e y0 ⟨rfl, hb⟩
   have P1 := Zb (P0.out.bel hb)
   have F1 := Zb (F0.out.trans (Fx.of_bel hb))
   have W1 := Zb (W0.out.trans (hb.mono P0.out.big))
   have Na1 := Zb (Na0.out.bel hb)
   have Qa1 := Qa0
   clear hb P0 F0 W0 Na0 Qa0
   go_wp2_with fail
   refine (ZB P1.out _ rfl [⟨(decT nz.toNat []).toArray⟩] 1 (by simp) (by have hz := HL.out; have z0 := lenT1 (decT nz.toNat []); omega)).mono ?_
   rintro e y1 ⟨rfl, bb1, pp, tt⟩
   have P2 := Zb pp
   have F2 := Zb (F1.out.trans (tt))
   have W2 := Zb (W1.out.trans ((tt).bel P1.out))
   have Na2 := Zb (Nod.fx Na1.out (tt) Qa1.out.1 Qa1.out.2)
   have Qa2 := Zb (And.intro Qa1.out.1 ((tt).ne (Ze Na1.out) Qa1.out.2))
   clear pp tt P1 F1 W1 Na1 Qa1 
   go_wp2_with fail
   go_end0
   exact ⟨rfl, _, by simpa [Zv] using P2.out, F2.out⟩
 by_cases h26 : kd = 26
 · subst h26
   have h6 : SixOk := hg.2.2.2 rfl
   have hq : 0 <= bi /\ bi <= 18446744073709551615 := ⟨hg.2.1, hg.2.2.1⟩
   replace hl : l.length + (35 :: hxs bi.toNat 16).length <= 140737488355328 := by simpa [wrr] using hl
   rw [show wrr tx (.mk 26 ps nm t nz z ob bi ks) = 35 :: hxs bi.toNat 16 by simp [wrr]]
   have HL := Zb (show l.length + (([35] : List UInt8) ++ hxs bi.toNat 16).length <= 140737488355328 from hl)
   have H6 := Zb h6
   have hb1 := Zd w (.cells #[.int .i64 26, .int .i64 ps, .string nm, .int .i64 t, .int .i64 nz, .int .i64 z, .int .i64 ob, .int .u64 bi, .slice oa len cap] 29)
   have Na0 := Zb (show Nod (w.alloc (.cells #[.int .i64 26, .int .i64 ps, .string nm, .int .i64 t, .int .i64 nz, .int .i64 z, .int .i64 ob, .int .u64 bi, .slice oa len cap] 29)) w.heap.size (.int .i64 26) (.int .i64 ps) (.string nm) (.int .i64 t) (.int .i64 nz) (.int .i64 z) (.int .i64 ob) (.int .u64 bi) (.slice oa len cap) from B_ _ _)
   have Qa0 := Zb (hp.new (Nat.le_refl w.heap.size))
   have P0 := Zb (hp.bel hb1)
   have F0 := Zb (Fx.of_bel (g := g) (bo := bo) hb1)
   have W0 := Zb (hB.trans (hb1.mono hB.size))
   have S1 := Zb (show w.heap.size + 1 = (w.alloc (.cells #[.int .i64 26, .int .i64 ps, .string nm, .int .i64 t, .int .i64 nz, .int .i64 z, .int .i64 ob, .int .u64 bi, .slice oa len cap] 29)).heap.size by simp)
   clear hp hB hl hr hkk hln hsh hb1 hv0 hin hg ht h6
   go_enter Tryz.func64, Tryz.ntmps64
   go_wp2_with fail
   generalize w.alloc _ = w1 at *
   refine (H6.out _ bi hq.1 hq.2).mono ?_
   rintro e y0 ⟨rfl, hb⟩
   have P1 := Zb (P0.out.bel hb)
   have F1 := Zb (F0.out.trans (Fx.of_bel hb))
   have W1 := Zb (W0.out.trans (hb.mono P0.out.big))
   have Na1 := Zb (Na0.out.bel hb)
   have Qa1 := Qa0
   clear hb P0 F0 W0 Na0 Qa0
   go_wp2_with fail
   refine (ZB P1.out _ rfl [⟨#[35]⟩, ⟨(hxs bi.toNat 16).toArray⟩] 2 (by simp) (by have hz := HL.out; have z0 := lenT2 35 (hxs bi.toNat 16); rw [List.length_append, List.length_singleton] at hz; omega)).mono ?_
   rintro e y1 ⟨rfl, bb1, pp, tt⟩
   have P2 := Zb pp
   have F2 := Zb (F1.out.trans (tt))
   have W2 := Zb (W1.out.trans ((tt).bel P1.out))
   have Na2 := Zb (Nod.fx Na1.out (tt) Qa1.out.1 Qa1.out.2)
   have Qa2 := Zb (And.intro Qa1.out.1 ((tt).ne (Ze Na1.out) Qa1.out.2))
   clear pp tt P1 F1 W1 Na1 Qa1 
   go_wp2_with fail
   go_end0
   exact ⟨rfl, _, by simpa [Zv] using P2.out, F2.out⟩
 by_cases h27 : kd = 27
 · subst h27
   obtain ⟨bt, hbt⟩ : ∃ bt : List UInt8, bt = (if (nz == 1) = true then [116, 114, 117, 101] else [102, 97, 108, 115, 101]) := ⟨_, rfl⟩
   have ebt : wrr tx (.mk 27 ps nm t nz z ob bi ks) = bt := by
    rw [hbt]
    simp [wrr, trueT, falseT]
   rw [ebt] at hl ⊢
   have HBT := Zb hbt
   have HL := Zb hl
   have hb1 := Zd w (.cells #[.int .i64 27, .int .i64 ps, .string nm, .int .i64 t, .int .i64 nz, .int .i64 z, .int .i64 ob, .int .u64 bi, .slice oa len cap] 29)
   have Na0 := Zb (show Nod (w.alloc (.cells #[.int .i64 27, .int .i64 ps, .string nm, .int .i64 t, .int .i64 nz, .int .i64 z, .int .i64 ob, .int .u64 bi, .slice oa len cap] 29)) w.heap.size (.int .i64 27) (.int .i64 ps) (.string nm) (.int .i64 t) (.int .i64 nz) (.int .i64 z) (.int .i64 ob) (.int .u64 bi) (.slice oa len cap) from B_ _ _)
   have Qa0 := Zb (hp.new (Nat.le_refl w.heap.size))
   have P0 := Zb (hp.bel hb1)
   have F0 := Zb (Fx.of_bel (g := g) (bo := bo) hb1)
   have W0 := Zb (hB.trans (hb1.mono hB.size))
   have S1 := Zb (show w.heap.size + 1 = (w.alloc (.cells #[.int .i64 27, .int .i64 ps, .string nm, .int .i64 t, .int .i64 nz, .int .i64 z, .int .i64 ob, .int .u64 bi, .slice oa len cap] 29)).heap.size by simp)
   clear hp hB hl hr hkk hln hsh hb1 hv0 hin hg ht hbt ebt
   go_enter Tryz.func64, Tryz.ntmps64
   go_wp2_with fail
   generalize w.alloc _ = w1 at *
   refine (bool_any (nz == 1) _).mono ?_
   rintro e yy ⟨rfl, rfl⟩
   rw [← HBT.out]
   go_wp2_with fail
   refine (ZB P0.out _ rfl [⟨bt.toArray⟩] 1 (by simp) (by have hz := HL.out; have z0 := lenT1 bt; omega)).mono ?_
   rintro e y0 ⟨rfl, bb0, pp, tt⟩
   have P1 := Zb pp
   have F1 := Zb (F0.out.trans (tt))
   have W1 := Zb (W0.out.trans ((tt).bel P0.out))
   have Na1 := Zb (Nod.fx Na0.out (tt) Qa0.out.1 Qa0.out.2)
   have Qa1 := Zb (And.intro Qa0.out.1 ((tt).ne (Ze Na0.out) Qa0.out.2))
   clear pp tt P0 F0 W0 Na0 Qa0 
   go_wp2_with fail
   go_end0
   exact ⟨rfl, _, by simpa [Zv] using P1.out, F1.out⟩
 by_cases h28 : kd = 28
 · subst h28
   replace hl : l.length + nm.data.toList.length <= 140737488355328 := by simpa [wrr] using hl
   rw [show wrr tx (.mk 28 ps nm t nz z ob bi ks) = nm.data.toList by simp [wrr]]
   have HL := Zb hl
   have hb1 := Zd w (.cells #[.int .i64 28, .int .i64 ps, .string nm, .int .i64 t, .int .i64 nz, .int .i64 z, .int .i64 ob, .int .u64 bi, .slice oa len cap] 29)
   have Na0 := Zb (show Nod (w.alloc (.cells #[.int .i64 28, .int .i64 ps, .string nm, .int .i64 t, .int .i64 nz, .int .i64 z, .int .i64 ob, .int .u64 bi, .slice oa len cap] 29)) w.heap.size (.int .i64 28) (.int .i64 ps) (.string nm) (.int .i64 t) (.int .i64 nz) (.int .i64 z) (.int .i64 ob) (.int .u64 bi) (.slice oa len cap) from B_ _ _)
   have Qa0 := Zb (hp.new (Nat.le_refl w.heap.size))
   have P0 := Zb (hp.bel hb1)
   have F0 := Zb (Fx.of_bel (g := g) (bo := bo) hb1)
   have W0 := Zb (hB.trans (hb1.mono hB.size))
   have S1 := Zb (show w.heap.size + 1 = (w.alloc (.cells #[.int .i64 28, .int .i64 ps, .string nm, .int .i64 t, .int .i64 nz, .int .i64 z, .int .i64 ob, .int .u64 bi, .slice oa len cap] 29)).heap.size by simp)
   clear hp hB hl hr hkk hln hsh hb1 hv0 hin hg ht
   go_enter Tryz.func64, Tryz.ntmps64
   go_wp2_with fail
   generalize w.alloc _ = w1 at *
   refine (ZB P0.out (w.heap.size + 1) S1.out [nm] 1 (by simp) (by have hz := HL.out; have z0 := Zw nm; first | omega | (simp only [List.length_append] at hz ⊢; omega) | (simp only [List.length_append] at hz; omega) | (simp only [List.length_append]; omega))).mono ?_
   rintro e y0 ⟨rfl, bb0, pp, tt⟩
   have P1 := Zb pp
   have F1 := Zb (F0.out.trans (tt))
   have W1 := Zb (W0.out.trans ((tt).bel P0.out))
   have Na1 := Zb (Nod.fx Na0.out (tt) Qa0.out.1 Qa0.out.2)
   have Qa1 := Zb (And.intro Qa0.out.1 ((tt).ne (Ze Na0.out) Qa0.out.2))
   clear pp tt P0 F0 W0 Na0 Qa0 
   go_wp2_with fail
   go_end0
   exact ⟨rfl, _, by simpa [Zv] using P1.out, F1.out⟩
 by_cases h29 : kd = 29
 · subst h29
   obtain ⟨x, rfl, _⟩ := Yg (ok := ex) (ks := ks) (by simp [exr, tgt] at hin; exact hin.2.1)
   obtain ⟨a, rfl, hc1, hc2, hkid⟩ : ∃ a, oa = some a /\ ([x] : List Nd).length <= cap /\ cap <= maxLen /\ ∀ j n, ([x] : List Nd)[j]? = some n -> ZD wB a (9 * j) n := by
    rcases hsh with h | h
    · cases h
    · exact h
   unfold maxLen at hc2
   have hc1 : 1 <= cap := by simpa using hc1
   have hln : len = 1 := by simpa using hln
   subst hln
   have HRX := Zb (hr x (by simp [Nd.kids]))
   have kA := Zb (hkid 0 _ rfl)
   replace hl : l.length + (nm.data.toList ++ ([91] ++ (tx x ++ [93]))).length <= 140737488355328 := by simpa [wrr] using hl
   rw [show wrr tx (.mk 29 ps nm t nz z ob bi [x]) = nm.data.toList ++ ([91] ++ (tx x ++ [93])) by simp [wrr]]
   have HL := Zb hl
   have hb1 := Zd w (.cells #[.int .i64 29, .int .i64 ps, .string nm, .int .i64 t, .int .i64 nz, .int .i64 z, .int .i64 ob, .int .u64 bi, .slice (some a) 1 cap] 29)
   have Na0 := Zb (show Nod (w.alloc (.cells #[.int .i64 29, .int .i64 ps, .string nm, .int .i64 t, .int .i64 nz, .int .i64 z, .int .i64 ob, .int .u64 bi, .slice (some a) 1 cap] 29)) w.heap.size (.int .i64 29) (.int .i64 ps) (.string nm) (.int .i64 t) (.int .i64 nz) (.int .i64 z) (.int .i64 ob) (.int .u64 bi) (.slice (some a) 1 cap) from B_ _ _)
   have Qa0 := Zb (hp.new (Nat.le_refl w.heap.size))
   have P0 := Zb (hp.bel hb1)
   have F0 := Zb (Fx.of_bel (g := g) (bo := bo) hb1)
   have W0 := Zb (hB.trans (hb1.mono hB.size))
   have S1 := Zb (show w.heap.size + 1 = (w.alloc (.cells #[.int .i64 29, .int .i64 ps, .string nm, .int .i64 t, .int .i64 nz, .int .i64 z, .int .i64 ob, .int .u64 bi, .slice (some a) 1 cap] 29)).heap.size by simp)
   clear hp hB hl hr hkk hsh hb1 hv0 hin hg ht hkid hln
   go_enter Tryz.func64, Tryz.ntmps64
   go_wp2_with fail
   generalize w.alloc _ = w1 at *
   refine (ZB P0.out (w.heap.size + 1) S1.out [nm] 1 (by simp) (by have hz := HL.out; have z0 := Zw nm; first | omega | (simp only [List.length_append] at hz ⊢; omega) | (simp only [List.length_append] at hz; omega) | (simp only [List.length_append]; omega))).mono ?_
   rintro e y0 ⟨rfl, bb0, pp, tt⟩
   have P1 := Zb pp
   have F1 := Zb (F0.out.trans (tt))
   have W1 := Zb (W0.out.trans ((tt).bel P0.out))
   have Na1 := Zb (Nod.fx Na0.out (tt) Qa0.out.1 Qa0.out.2)
   have Qa1 := Zb (And.intro Qa0.out.1 ((tt).ne (Ze Na0.out) Qa0.out.2))
   clear pp tt P0 F0 W0 Na0 Qa0 
   obtain ⟨_, va0, va1, va2, va3, va4, va5, va6, va7, va8⟩ := Na1.out.all
   obtain ⟨kx, px, nx, tyx, nzx, zx, obx, bix, ksx⟩ := x
   obtain ⟨oax, lx, cx, atx, hx⟩ := Yi kA.out W1.out
   rw [Nat.zero_mul, ZO] at atx
   obtain ⟨c0, c1, c2, c3, c4, c5, c6, c7, c8⟩ := atx
   have HXX := Zb (And.intro hx HRX.out)
   clear hx HRX kA
   go_wp2_with fail
   refine (within_from P1.out W1.out ⟨#[91]⟩ ⟨#[93]⟩ _ _ HXX.out.1 tx HXX.out.2 (by have hz := HL.out; have z0 := Zw nm; simp only [List.length_append] at hz ⊢; omega)).mono ?_
   rintro e y1 ⟨rfl, b2, p2, t2⟩
   have R := Zb (And.intro p2 (F1.out.trans t2))
   clear p2 t2 c0 c1 c2 c3 c4 c5 c6 c7 c8 va0 va1 va2 va3 va4 va5 va6 va7 va8
   go_wp2_with fail
   go_end0
   exact ⟨rfl, b2, by simpa [Zv] using R.out.1, R.out.2⟩
 by_cases h30 : kd = 30
 · subst h30
   obtain ⟨x, rfl, _⟩ := Yg (ok := ex) (ks := ks) (by simp [exr] at hin; exact hin.2.1)
   obtain ⟨TT, hTT⟩ : ∃ TT, TT = wrr tx (.mk 30 ps nm t nz z ob bi [x]) := ⟨_, rfl⟩
   have ET := Zb (show nm.data.toList ++ (if sgnF nm = true then prt (loB x) (tx x) else 40 :: (tx x ++ [41])) = TT by rw [hTT]; simp [wrr])
   rw [← hTT] at hl ⊢
   rw [← ET.out] at hl
   have HL := Zb hl
   clear hTT
   have HV := Zb hv0
   have HRS := Zb hr
   have hb1 := Zd w (.cells #[.int .i64 30, .int .i64 ps, .string nm, .int .i64 t, .int .i64 nz, .int .i64 z, .int .i64 ob, .int .u64 bi, .slice oa len cap] 29)
   have Na0 := Zb (show Nod (w.alloc (.cells #[.int .i64 30, .int .i64 ps, .string nm, .int .i64 t, .int .i64 nz, .int .i64 z, .int .i64 ob, .int .u64 bi, .slice oa len cap] 29)) w.heap.size (.int .i64 30) (.int .i64 ps) (.string nm) (.int .i64 t) (.int .i64 nz) (.int .i64 z) (.int .i64 ob) (.int .u64 bi) (.slice oa len cap) from B_ _ _)
   have Qa0 := Zb (hp.new (Nat.le_refl w.heap.size))
   have P0 := Zb (hp.bel hb1)
   have F0 := Zb (Fx.of_bel (g := g) (bo := bo) hb1)
   have W0 := Zb (hB.trans (hb1.mono hB.size))
   have S1 := Zb (show w.heap.size + 1 = (w.alloc (.cells #[.int .i64 30, .int .i64 ps, .string nm, .int .i64 t, .int .i64 nz, .int .i64 z, .int .i64 ob, .int .u64 bi, .slice oa len cap] 29)).heap.size by simp)
   clear hp hB hl hr hkk hln hsh hb1 hv0 hin hg ht
   go_enter Tryz.func64, Tryz.ntmps64
   go_wp2_with fail
   generalize w.alloc _ = w1 at *
   refine (unary_from P0.out W0.out ps nm t nz z ob bi x _ HV.out tx (HRS.out x (by simp [Nd.kids])) HL.out).mono ?_
   rintro e y1 ⟨rfl, b2, p2, t2⟩
   have R := Zb (And.intro p2 (F0.out.trans t2))
   clear p2 t2
   go_wp2_with fail
   go_end0
   exact ⟨rfl, b2, by rw [← ET.out]; exact R.out.1, R.out.2⟩
 by_cases h31 : kd = 31
 · subst h31
   obtain ⟨x, y, rfl, _, _⟩ := all2_shape (ok := ex) (ok' := ex) (ks := ks) (by simp [exr] at hin; exact hin.2.1)
   obtain ⟨TT, hTT⟩ : ∃ TT, TT = wrr tx (.mk 31 ps nm t nz z ob bi [x, y]) := ⟨_, rfl⟩
   have ET := Zb (show prt (leB (rankF nm) x) (tx x) ++ (32 :: (nm.data.toList ++ (32 :: prt (riB (rankF nm) y) (tx y)))) = TT by rw [hTT]; simp [wrr])
   rw [← hTT] at hl ⊢
   rw [← ET.out] at hl
   have HL := Zb hl
   clear hTT
   have HV := Zb hv0
   have HRS := Zb hr
   have hb1 := Zd w (.cells #[.int .i64 31, .int .i64 ps, .string nm, .int .i64 t, .int .i64 nz, .int .i64 z, .int .i64 ob, .int .u64 bi, .slice oa len cap] 29)
   have Na0 := Zb (show Nod (w.alloc (.cells #[.int .i64 31, .int .i64 ps, .string nm, .int .i64 t, .int .i64 nz, .int .i64 z, .int .i64 ob, .int .u64 bi, .slice oa len cap] 29)) w.heap.size (.int .i64 31) (.int .i64 ps) (.string nm) (.int .i64 t) (.int .i64 nz) (.int .i64 z) (.int .i64 ob) (.int .u64 bi) (.slice oa len cap) from B_ _ _)
   have Qa0 := Zb (hp.new (Nat.le_refl w.heap.size))
   have P0 := Zb (hp.bel hb1)
   have F0 := Zb (Fx.of_bel (g := g) (bo := bo) hb1)
   have W0 := Zb (hB.trans (hb1.mono hB.size))
   have S1 := Zb (show w.heap.size + 1 = (w.alloc (.cells #[.int .i64 31, .int .i64 ps, .string nm, .int .i64 t, .int .i64 nz, .int .i64 z, .int .i64 ob, .int .u64 bi, .slice oa len cap] 29)).heap.size by simp)
   clear hp hB hl hr hkk hln hsh hb1 hv0 hin hg ht
   go_enter Tryz.func64, Tryz.ntmps64
   go_wp2_with fail
   generalize w.alloc _ = w1 at *
   refine (binary_from P0.out W0.out ps nm t nz z ob bi x y _ HV.out tx (HRS.out x (by simp [Nd.kids])) (HRS.out y (by simp [Nd.kids])) HL.out).mono ?_
   rintro e y1 ⟨rfl, b2, p2, t2⟩
   have R := Zb (And.intro p2 (F0.out.trans t2))
   clear p2 t2
   go_wp2_with fail
   go_end0
   exact ⟨rfl, b2, by rw [← ET.out]; exact R.out.1, R.out.2⟩
 exfalso
 simp [exr, tgt, h25, h26, h27, h28, h29, h30, h31] at hin
theorem ex_kids {m : Nat} {n k : Nd} (h : exF (m + 1) n = true) (hk : k ∈ n.kids) : exF m k = true := by
 obtain ⟨kd, ps, nm, t, nz, z, ob, bi, ks⟩ := n
 have hk : k ∈ ks := hk
 have hno : ∀ (b : Bool) (nm : ByteArray) (t n z o b : Int), ZH nm t n z o b ks.length = true -> ks = [] := fun _ _ _ _ _ _ _ h => by
  simp [ZH] at h
  exact h.2.2.2.2.2.2
 have h1 : Yz (exF m) ks = true -> exF m k = true := fun h => by
  obtain ⟨x, rfl, hx⟩ := Yg h
  simp at hk
  rw [hk]; exact hx
 have h2 : all2B (exF m) (exF m) ks = true -> exF m k = true := fun h => by
  obtain ⟨x, y, rfl, hx, hy⟩ := all2_shape h
  simp at hk
  rcases hk with rfl | rfl
  · exact hx
  · exact hy
 have h0 : ks = [] -> exF m k = true := fun e => by rw [e] at hk; cases hk
 unfold exF exr at h
 dsimp only at h
 split at h
 · simp only [Bool.and_eq_true] at h
   exact h0 (hno true _ _ _ _ _ _ h.2)
 split at h
 · exact h0 (hno true _ _ _ _ _ _ h)
 split at h
 · simp only [Bool.and_eq_true] at h
   exact h0 (hno true _ _ _ _ _ _ h.2.2)
 split at h
 · simp only [Bool.and_eq_true] at h
   exact h1 h.2.1
 split at h
 · simp only [Bool.and_eq_true] at h
   exact h2 h.2.1
 unfold tgt at h
 dsimp only at h
 split at h
 · simp only [Bool.and_eq_true] at h
   exact h0 (hno true _ _ _ _ _ _ h.2)
 split at h
 · simp only [Bool.and_eq_true] at h
   exact h1 h.2.1
 · cases h
theorem pexpr_rule {wB : World} (ht : Tb wB) (hG : 23 <= wB.heap.size) : ∀ (m : Nat) (n : Nd), exF m n = true -> RgF m n -> RuleP 64 (wrF m) wB n
 | 0, _, h, _ => by cases h
 | m + 1, n, h, hg => pexpr_from ht hG (exF m) (wrF m) n h hg.1 (fun k hk => pexpr_rule ht hG m k (ex_kids h hk) (hg.2 k hk))
end Go.Proofs.YtfnplhfjfolojaaGreatDoor.Ck.Sho
