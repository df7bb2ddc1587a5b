/- Texts of this proof, packed: contracts of the program's functions, and the plain model that they are held against. -/
import Derived.ProofKit
import Derived.OpenShut
import Derived.ChangeOld
import Derived.Below
import Derived.Deep.Slices
import Derived.ChangeArms
import Derived.Carry
import Derived.SizedLaws
import Derived.Test.YtfojninaginnoaaGreatDoorVaq
set_option maxRecDepth 20000
set_option maxHeartbeats 4000000
namespace Go.Proofs.YtfojninaginnoaaGreatDoor.Ck
open Go.ChangeShapes Go.WideShapes Go.ChangeAt Go.RowKit
theorem block_lt {W : World} {a : Addr} {v : Value} (hc : W.cell? a = some v) : a.block < W.heap.size := by
 rcases Nat.lt_or_ge a.block W.heap.size with h' | h'
 · exact h'
 · simp [World.cell?, Array.getElem?_eq_none h'] at hc
theorem wf_i64 {z : Int} (h : (Lit.int .i64 z).wf = true) : -9223372036854775808 <= z /\ z <= 9223372036854775807 := by
 have := bounds_i64 h
 omega
theorem add_plain (b off i : Nat) : (Addr.mk b off none).add i = ⟨b, off + i, none⟩ := by
 unfold Addr.add
 by_cases h : i = 0 <;> simp [h]
theorem sl_open {H : Type} {enc : TypeId × Value -> H} {W : World} {a : Option Addr} {len cap : Nat} {d : DataW H} {p : List MemPlace}
 (h : DataW.Trod enc Tryz.prog W 0 (fun _ => true) true 22 (.slice a len cap) d p) : ∃ zs, Sl W (.slice a len cap) zs := by
 obtain ⟨fuel, hf⟩ := h
 rcases open_ints Tryz.underlying22 Tryz.underlying3 (by kernel_rfl) hf with ⟨hcs, _⟩ | ⟨x, l, c, zs, hcs, _, hl, hm, hz, _, hcell, hwz⟩
 · simp [Value.cells] at hcs
   obtain ⟨rfl, rfl, rfl⟩ := hcs
   exact ⟨[], Sl.nilS W⟩
 · simp [Value.cells] at hcs
   obtain ⟨rfl, rfl, rfl⟩ := hcs
   have hz' : zs.length = cap := by simpa using hz
   have hlen : (zs.take len).length = len := by simp; omega
   refine ⟨zs.take len, fun z hm' => wf_i64 (hwz z (List.mem_of_mem_take hm')), some x, cap, by rw [hlen], by omega, hm, fun i hi => ?_⟩
   rw [hlen] at hi
   have hc := hcell i (by omega)
   obtain ⟨b, off, spot⟩ := x
   have hspot : spot = none := by simpa [Addr.add] using World.cell?_spot (hcell 0 (by omega))
   subst hspot
   rw [add_plain] at hc
   refine ⟨b, off, rfl, block_lt hc, ?_⟩
   have e : (zs.take len).getD i 0 = zs.getD i 0 := by simp [List.getD, hi]
   rw [e]
   exact hc
end Go.Proofs.YtfojninaginnoaaGreatDoor.Ck
namespace Go.Proofs.YtfojninaginnoaaGreatDoor.Ck
open Go.ChangeShapes Go.WideShapes Go.ChangeAt Go.RowKit
theorem cells_at {W : World} {ad : Addr} {n : Nat} {cs : List Value} (h : W.cells? 0 ad n = some cs) (i : Nat) (hi : i < n) : W.cell? (ad.add i) = cs[i]? := by
 unfold World.cells? at h
 rw [if_pos (Nat.zero_le _)] at h
 exact mapM_some_get h i i (by rw [List.getElem?_range hi])
theorem cells_len {W : World} {ad : Addr} {n : Nat} {cs : List Value} (h : W.cells? 0 ad n = some cs) : cs.length = n := by
 unfold World.cells? at h
 rw [if_pos (Nat.zero_le _)] at h
 simpa using mapM_some_length h
theorem rows_of {α : Type} (d0 : α) {H : Type} {enc : TypeId × Value -> H} {W : World} {TS T : TypeId} {n fuel : Nat} {v : Value} {x : DataW H × List MemPlace} (hu : Tryz.prog.underlying TS = some (.slice T)) (hc : Tryz.prog.cellsOf T = n) (hn : 0 < n) (Q : α -> List Value -> Prop)
 (hP : ∀ (f : Nat) (cs : List Value) (y : DataW H × List MemPlace), f < fuel -> DataW.trod enc Tryz.prog W 0 (fun _ => true) true f T cs = some y -> ∃ x, Q x cs) (h : DataW.trod enc Tryz.prog W 0 (fun _ => true) true fuel TS [v] = some x) :
 ∃ (a : Option Addr) (cap : Nat) (l : List α), v = .slice a l.length cap /\ l.length <= cap /\ cap <= maxLen /\ ∀ (i : Nat) (y : α), l[i]? = some y -> ∃ (b o : Nat) (cs : List Value), a = some ⟨b, o, none⟩ /\ b < W.heap.size /\ Q y cs /\ cs.length = n /\ ∀ (j : Nat) (u : Value), cs[j]? = some u -> W.cell? ⟨b, o + i * n + j, none⟩ = some u := by
 rcases DataW.trod_slice hu h with ⟨e, _⟩ | ⟨a, len, cap, elems, rest, m, hm, e, _, _, hl1, hl2, hl3, hel, _⟩
 · simp at e
   subst e
   exact ⟨none, 0, [], rfl, Nat.le_refl _, Nat.zero_le _, fun i y hy => by simp at hy⟩
 · simp at e
   subst e
   have key : ∀ i, i < len -> ∃ (y : α) (b o : Nat) (cs : List Value), some a = some ⟨b, o, none⟩ /\ b < W.heap.size /\ Q y cs /\ cs.length = n /\ ∀ (j : Nat) (u : Value), cs[j]? = some u -> W.cell? ⟨b, o + i * n + j, none⟩ = some u := fun i hi => by
    have h9 := hel i hi
    rw [List.getElem?_eq_getElem (show i < elems.length by omega), hc] at h9
    cases hcs : W.cells? 0 (a.add (i * n)) n with
    | none => rw [hcs] at h9; cases h9
    | some cs =>
     rw [hcs] at h9
     obtain ⟨y, hy⟩ := hP m cs _ (by omega) h9
     have hlen := cells_len hcs
     have hcell : ∀ k, k < n -> W.cell? (a.add (i * n + k)) = cs[k]? := fun k hk => by
      rw [← cells_at hcs k hk, Go.Deep.add_add]
     obtain ⟨c0, hc0⟩ : ∃ c, cs[0]? = some c := ⟨_, List.getElem?_eq_getElem (by omega)⟩
     obtain ⟨b, off, spot⟩ := a
     have hspot : spot = none := by
      have h8 := hel 0 (by omega)
      rw [List.getElem?_eq_getElem (show 0 < elems.length by omega), hc] at h8
      cases hz : W.cells? 0 ((Addr.mk b off spot).add (0 * n)) n with
      | none => rw [hz] at h8; cases h8
      | some zs =>
       have h7 := cells_at hz 0 hn
       rw [List.getElem?_eq_getElem (show 0 < zs.length by rw [cells_len hz]; exact hn)] at h7
       simpa [Addr.add] using World.cell?_spot h7
     subst hspot
     have h0 := (hcell 0 hn).trans hc0
     rw [add_plain] at h0
     refine ⟨y, b, off, cs, rfl, block_lt h0, hy, hlen, fun j u hu => ?_⟩
     have hj := (G_ hu)
     have := (hcell j (by omega)).trans hu
     rw [add_plain] at this
     rw [Nat.add_assoc]
     exact this
   have hch : ∃ fn : Nat -> α, ∀ i, i < len -> ∃ (b o : Nat) (cs : List Value), some a = some ⟨b, o, none⟩ /\ b < W.heap.size /\ Q (fn i) cs /\ cs.length = n /\ ∀ (j : Nat) (u : Value), cs[j]? = some u -> W.cell? ⟨b, o + i * n + j, none⟩ = some u :=
    ⟨fun i => if h : i < len then Classical.choose (key i h) else d0, fun i hi => by dsimp only; rw [dif_pos hi]; exact Classical.choose_spec (key i hi)⟩
   obtain ⟨fn, hfn⟩ := hch
   refine ⟨some a, cap, (List.range len).map fn, by simp, by simpa using hl1, hl2, fun i y hy => ?_⟩
   obtain ⟨hj1, hj2⟩ := List.getElem?_eq_some_iff.1 hy
   simp at hj1 hj2
   rw [← hj2]
   exact hfn i hj1
theorem sl_of {H : Type} {enc : TypeId × Value -> H} {W : World} {fuel : Nat} {v : Value} {x : DataW H × List MemPlace} (h : DataW.trod enc Tryz.prog W 0 (fun _ => true) true fuel 22 [v] = some x) : ∃ zs, Sl W v zs := by
 rcases DataW.trod_slice Tryz.underlying22 h with ⟨e, _⟩ | ⟨a, len, cap, elems, rest, m, hm, e, _⟩
 · simp at e
   subst e
   exact ⟨[], Sl.nilS W⟩
 · simp at e
   subst e
   exact sl_open (d := x.1) (p := x.2) ⟨fuel, h⟩
end Go.Proofs.YtfojninaginnoaaGreatDoor.Ck
namespace Go.Proofs.YtfojninaginnoaaGreatDoor.Ck
open Go.ChangeShapes Go.WideShapes Go.RowKit
theorem cellsValue : Tryz.prog.cellsOf 64 = 3 := by kernel_rfl
def In64 (z : Int) : Prop := -9223372036854775808 <= z /\ z <= 9223372036854775807
def InU (z : Int) : Prop := 0 <= z /\ z <= 18446744073709551615
theorem in64 {z : Int} (h : (Lit.int .i64 z).wf = true) : In64 z := by
 simp [Lit.wf] at h
 exact h
theorem inU {z : Int} (h : (Lit.int .u64 z).wf = true) : InU z := by
 simp [Lit.wf] at h
 exact h
theorem val_of {H : Type} {enc : TypeId × Value -> H} {W : World} {fuel : Nat} {cs : List Value} {x : DataW H × List MemPlace} (h : DataW.trod enc Tryz.prog W 0 (fun _ => true) true fuel 64 cs = some x) :
 ∃ t n b, cs = [I_ t, I_ n, .int .u64 b] /\ In64 t /\ In64 n /\ InU b := by
 obtain ⟨xs, f, hfu, _, hl, hlen, hf⟩ := DataW.trod_struct Tryz.underlying64 h
 rw [cellsValue] at hl
 clear h
 have hx : xs.length = 3 := hlen
 match cs, hl with
 | [c0, c1, c2], _ =>
  have g : ∀ i, i < 3 -> ∃ y, xs[i]? = some y := fun i hi => ⟨_, List.getElem?_eq_getElem (by omega)⟩
  have h0 : DataW.trod enc Tryz.prog W 0 (fun _ => true) true f 3 (([c0, c1, c2].drop 0).take (Tryz.prog.cellsOf 3)) = xs[0]? := hf 0 _ rfl
  have h1 : DataW.trod enc Tryz.prog W 0 (fun _ => true) true f 3 (([c0, c1, c2].drop 1).take (Tryz.prog.cellsOf 3)) = xs[1]? := hf 1 _ rfl
  have h2 : DataW.trod enc Tryz.prog W 0 (fun _ => true) true f 62 (([c0, c1, c2].drop 2).take (Tryz.prog.cellsOf 62)) = xs[2]? := hf 2 _ rfl
  clear hf
  simp only [show Tryz.prog.cellsOf 3 = 1 by kernel_rfl, show Tryz.prog.cellsOf 62 = 1 by kernel_rfl, List.drop_zero, List.drop_succ_cons, List.take_succ_cons, List.take_zero] at h0 h1 h2
  obtain ⟨y0, e0⟩ := g 0 (by omega)
  obtain ⟨y1, e1⟩ := g 1 (by omega)
  obtain ⟨y2, e2⟩ := g 2 (by omega)
  rw [e0] at h0
  rw [e1] at h1
  rw [e2] at h2
  obtain ⟨z0, q0, r0, s0⟩ := DataW.trod_int Tryz.underlying3 h0
  obtain ⟨z1, q1, r1, s1⟩ := DataW.trod_int Tryz.underlying3 h1
  obtain ⟨z2, q2, r2, s2⟩ := DataW.trod_int Tryz.underlying62 h2
  simp at q0 q1 q2
  subst q0 q1 q2
  exact ⟨z0, z1, z2, rfl, in64 s0, in64 s1, inU s2⟩
end Go.Proofs.YtfojninaginnoaaGreatDoor.Ck
namespace Go.Proofs.YtfojninaginnoaaGreatDoor.Ck
open Go.ChangeShapes Go.WideShapes Go.ChangeAt Go.RowKit
theorem cells1 : Tryz.prog.cellsOf 3 = 1 := by kernel_rfl
def ccl (c : Int × Int) : List Value := [I_ c.1, I_ c.2]
theorem chan_of {H : Type} {enc : TypeId × Value -> H} {W : World} {fuel : Nat} {cs : List Value} {x : DataW H × List MemPlace} (h : DataW.trod enc Tryz.prog W 0 (fun _ => true) true fuel 94 cs = some x) : ∃ c : Int × Int, cs = ccl c := by
 obtain ⟨xs, f, hfu, _, hl, hlen, hf⟩ := DataW.trod_struct Tryz.underlying94 h
 rw [show Tryz.prog.cellsOf 94 = 2 by kernel_rfl] at hl
 clear h
 have hx : xs.length = 2 := hlen
 match cs, hl with
 | [c0, c1], _ =>
  have h0 : DataW.trod enc Tryz.prog W 0 (fun _ => true) true f 3 (([c0, c1].drop 0).take (Tryz.prog.cellsOf 3)) = xs[0]? := hf 0 _ rfl
  have h1 : DataW.trod enc Tryz.prog W 0 (fun _ => true) true f 3 (([c0, c1].drop 1).take (Tryz.prog.cellsOf 3)) = xs[1]? := hf 1 _ rfl
  clear hf
  simp only [cells1, List.drop_zero, List.drop_succ_cons, List.take_succ_cons, List.take_zero] at h0 h1
  rw [List.getElem?_eq_getElem (by omega)] at h0 h1
  obtain ⟨z0, q0, _⟩ := DataW.trod_int Tryz.underlying3 h0
  obtain ⟨z1, q1, _⟩ := DataW.trod_int Tryz.underlying3 h1
  simp at q0 q1
  subst q0 q1
  exact ⟨(z0, z1), rfl⟩
theorem chans_of {H : Type} {enc : TypeId × Value -> H} {W : World} {fuel : Nat} {v : Value} {x : DataW H × List MemPlace} (h : DataW.trod enc Tryz.prog W 0 (fun _ => true) true fuel 23 [v] = some x) : ∃ cs, SlC W v cs := by
 obtain ⟨a, cap, l, e, h1, h2, h3⟩ := rows_of (0, 0) Tryz.underlying23 (show Tryz.prog.cellsOf 94 = 2 by kernel_rfl) (by omega) (fun (c : Int × Int) cs => cs = ccl c) (fun f cs y _ hy => chan_of hy) h
 refine ⟨l, a, cap, e, h1, h2, fun i hi => ?_⟩
 obtain ⟨b, o, cs, ea, hb, rfl, _, hc⟩ := h3 i _ (List.getElem?_eq_getElem hi)
 have e2 : l.getD i (0, 0) = l[i] := by simp [List.getD, hi]
 rw [e2]
 exact ⟨b, o, ea, hb, hc 0 _ rfl, hc 1 _ rfl⟩
end Go.Proofs.YtfojninaginnoaaGreatDoor.Ck
namespace Go.Proofs.YtfojninaginnoaaGreatDoor.Ck
open Go.ChangeShapes Go.WideShapes Go.ChangeAt Go.RowKit
theorem app_srcV {w : World} {T TS : TypeId} {sz bytes : Nat} {z src : Value} {n k B : Nat} {xs : List Value} (hu : Tryz.prog.underlying TS = some (.slice T)) (hinfo : (Tryz.prog.info? T).map (fun i => (i.zero, i.size, i.bytes)) = some (some z, sz, bytes)) (hz : z.cells.size = sz) (hby : bytes <= 100)
 (hk : w.heap[k]? = some (.cells #[] T (0, 0))) (hBk : B <= k) (hlen : xs.length = n * sz) (hS : Src Tryz.prog sz TS src n xs w) (hn : n <= 10000000) (hB : B <= w.heap.size) (ty : TypeId) :
 ∃ v' w', (Builtin.append_ #[TS, TS] ty #[.slice (some ⟨k, 0, none⟩) 0 0, src]).run Tryz.prog w = .ok v' w' /\ (∃ a c, v' = .slice a n c) /\ w'.ownsRow B T sz v' n xs /\ Below w.heap.size w w' := by
 obtain ⟨i, hi, hz0, hz1, hz2⟩ := info_parts hinfo
 have own0 : w.ownsRow B T sz (.slice (some ⟨k, 0, none⟩) 0 0) 0 [] := ⟨by simp, .inr ⟨k, 0, #[], rfl, hBk, hk, Nat.le_refl _, by unfold maxLen; omega, by simp, by simp⟩⟩
 rw [← hz1] at hS
 by_cases hn0 : n = 0
 · subst hn0
   have e : xs = [] := by simpa using hlen
   subst e
   have hr := run_append_room_src (P := Tryz.prog) w TS TS ty T i hu hi k 0 0 0 src 0 [] hS (Nat.le_refl _) (fun j hj => absurd hj (Nat.not_lt_zero _)) (fun j hj => absurd hj (Nat.not_lt_zero _))
   exact ⟨_, w, hr, ⟨_, _, rfl⟩, own0, Below.refl _ _⟩
 · have hfit : Builtin.nextslicecap (0 + n) 0 * i.bytes <= 281474976710656 := growslice_fits (by omega) (by rw [hz2]; have : (0 + n) * bytes <= 10000000 * 100 := Nat.mul_le_mul (by omega) hby; omega)
   have hr := run_append_grow_src (P := Tryz.prog) w TS TS ty T i z hu hi hz0 (some ⟨k, 0, none⟩) 0 0 [] (run_firstCells_some w.drew i.size 0 ⟨k, 0, none⟩ 0 0 [] (by simp) (fun j u hj => by simp at hj)) src n xs hS (by omega) (by omega) hfit
   have hge := grownCap_ge w (0 + n) 0 T
   have hle := grownCap_le_maxLen w (0 + n) 0 T (by unfold maxLen; omega)
   refine ⟨_, _, hr, ⟨_, _, by rw [Nat.zero_add]⟩, ⟨hlen, .inr ⟨w.heap.size, grownCap w (0 + n) 0 T, _, by rw [Nat.zero_add], hB, B_ w.drew _, by omega, hle, ?_, ?_⟩⟩, (Zp (Below.refl _ _)).alloc (Nat.le_refl _) _⟩
   · simp [size_zeroCells, hz, hlen]
     have h3 : n * sz + (grownCap w n 0 T - n) * sz = grownCap w n 0 T * sz := by
      rw [← Nat.add_mul]
      rw [Nat.zero_add] at hge
      rw [show n + (grownCap w n 0 T - n) = grownCap w n 0 T from Nat.add_sub_cancel' hge]
     exact h3
   · simp only [List.nil_append, Array.toList_append]
     exact List.take_left' hlen
theorem cloneA {w : World} {a : Option Addr} {n c : Nat} {xs : List Value} (hlen : xs.length = n * 3) (h0 : a = none -> n = 0) (hc : ∀ (ad : Addr), a = some ad -> ∀ (j : Nat) (u : Value), xs[j]? = some u -> w.cell? (ad.add j) = some u /\ ad.block < w.heap.size) (hn : n <= 2000) (h1 : ∀ u ∈ xs, u.oneCell' = true) : Calls Tryz.prog 85 #[.slice a n c] w (ClP w 64 3 n xs) := by
  cases a with
  | none =>
    obtain rfl := h0 rfl
    have e : xs = [] := by simpa using hlen
    subst e
    clear hc hn h1 hlen h0
    have hE : ∀ w, (binOp .eql 65 (.slice none 0 c) (.slice none 0 0)).run Tryz.prog w = .ok (.bool true) w := fun w => by kernel_rfl
    go_enter Tryz.func85, Tryz.ntmps85
    go_wp2_with fail
    go_ret
    exact ⟨_, _, rfl, World.ownsRow_nil _ _ _ _, Below.refl _ _⟩
  | some ad =>
    have hb := Zd w (.cells #[] 64)
    have hS : Src Tryz.prog 3 65 (.slice (some ad) n c) n xs (w.alloc (.cells #[] 64)) := Src.ofSlice _ Tryz.underlying65 ad n c xs hlen (fun j u hj => by
      obtain ⟨h2, h3⟩ := hc ad rfl j u hj
      have hbl : (ad.add j).block < w.heap.size := by
        have : (ad.add j).block = ad.block := by unfold Addr.add; split <;> rfl
        omega
      exact (hb.cell hbl).trans h2) h1
    have AP := Za (fun ty => app_srcV (B := w.heap.size) Tryz.underlying65 Yj rfl (by decide) (B_ w (.cells #[] 64)) (Nat.le_refl _) hlen hS (by omega) hb.size ty)
    have HB := Za hb
    clear hb h1 hS hc h0 hlen hn
    have hE : ∀ w, (binOp .eql 65 (.slice (some ad) n c) (.slice none 0 0)).run Tryz.prog w = .ok (.bool false) w := fun w => by kernel_rfl
    go_enter Tryz.func85, Tryz.ntmps85
    go_wp2_with (first | (at_builtin; refine ZX (TS := 65) rfl (.tmp 5) (.tmp 6) rfl _ _ rfl rfl _ (AP.out _) ?_; rintro v9 w9 ⟨⟨a9, c9, rfl⟩, o9, b9⟩; have R9 := Za (And.intro o9 b9); clear o9 b9))
    go_ret
    exact ⟨_, _, rfl, R9.out.1, Zg HB.out R9.out.2⟩
def Wok {H : Type} (t : TypeId) (d : DataW H) : Prop := ∀ n ∈ d.weights Tryz.prog t, n <= reachBytes
theorem weights_all {H : Type} {e : TypeId} : ∀ {ds : List (DataW H)} {i : Nat} {d : DataW H}, ds[i]? = some d -> ∀ n ∈ d.weights Tryz.prog e, n ∈ DataW.weightsAll Tryz.prog e ds
 | [], i, d, h, n, _ => by simp at h
 | x :: ds, 0, d, h, n, hn => by
  simp at h
  subst h
  simp only [DataW.weightsAll, List.mem_append]
  exact .inl hn
 | x :: ds, i + 1, d, h, n, hn => by
  simp only [DataW.weightsAll, List.mem_append]
  exact .inr (weights_all (by simpa using h) n hn)
theorem wok_elem {H : Type} {TS T : TypeId} {elems rest : List (DataW H × List MemPlace)} {i : Nat} {y : DataW H × List MemPlace} (hu : Tryz.prog.underlying TS = some (.slice T)) (h : Wok TS (DataW.slice (elems.map (·.1)) (rest.map (·.1)))) (hy : elems[i]? = some y) : Wok T y.1 := fun n hn => by
 refine h n ?_
 simp only [DataW.weights, hu, List.mem_cons, List.mem_append]
 exact .inr (.inl (weights_all (i := i) (by rw [List.getElem?_map, hy]; rfl) n hn))
theorem wok_field {H : Type} {t : TypeId} {fs : Array Field} {xs : List (DataW H × List MemPlace)} {i : Nat} {y : DataW H × List MemPlace} {f : Field} (hu : Tryz.prog.underlying t = some (.struct fs)) (h : Wok t (DataW.agg (xs.map (·.1)))) (hf : fs[i]? = some f) (hy : xs[i]? = some y) : Wok f.type y.1 := fun n hn => by
 refine h n ?_
 simp only [DataW.weights, hu]
 exact DataW.weights_mem_each (j := i) (by rw [List.getElem?_map, Array.getElem?_toList, hf]; rfl) (by rw [List.getElem?_map, hy]; rfl) n hn
theorem rows_w {α : Type} (d0 : α) {H : Type} {enc : TypeId × Value -> H} {W : World} {TS T : TypeId} {n fuel : Nat} {v : Value} {x : DataW H × List MemPlace} (hu : Tryz.prog.underlying TS = some (.slice T)) (hc : Tryz.prog.cellsOf T = n) (hn : 0 < n) (Q : α -> List Value -> Prop)
 (hP : ∀ (f : Nat) (cs : List Value) (y : DataW H × List MemPlace), f < fuel -> DataW.trod enc Tryz.prog W 0 (fun _ => true) true f T cs = some y -> Wok T y.1 -> ∃ x, Q x cs) (hw : Wok TS x.1) (h : DataW.trod enc Tryz.prog W 0 (fun _ => true) true fuel TS [v] = some x) :
 ∃ (a : Option Addr) (cap : Nat) (l : List α), v = .slice a l.length cap /\ l.length * Tryz.prog.bytesOf T <= reachBytes /\ ∀ (i : Nat) (y : α), l[i]? = some y -> ∃ (b o : Nat) (cs : List Value), a = some ⟨b, o, none⟩ /\ b < W.heap.size /\ Q y cs /\ cs.length = n /\ ∀ (j : Nat) (u : Value), cs[j]? = some u -> W.cell? ⟨b, o + i * n + j, none⟩ = some u := by
 rcases DataW.trod_slice hu h with ⟨e, _⟩ | ⟨a, len, cap, elems, rest, m, hm, e, ex, _, hl1, hl2, hl3, hel, _⟩
 · simp at e
   subst e
   exact ⟨none, 0, [], rfl, by simp, fun i y hy => by simp at hy⟩
 · simp at e
   subst e
   have key : ∀ i, i < len -> ∃ (y : α) (b o : Nat) (cs : List Value), some a = some ⟨b, o, none⟩ /\ b < W.heap.size /\ Q y cs /\ cs.length = n /\ ∀ (j : Nat) (u : Value), cs[j]? = some u -> W.cell? ⟨b, o + i * n + j, none⟩ = some u := fun i hi => by
    have h9 := hel i hi
    rw [List.getElem?_eq_getElem (show i < elems.length by omega), hc] at h9
    cases hcs : W.cells? 0 (a.add (i * n)) n with
    | none => rw [hcs] at h9; cases h9
    | some cs =>
     rw [hcs] at h9
     obtain ⟨y, hy⟩ := hP m cs _ (by omega) h9 (wok_elem hu (by rw [ex] at hw; exact hw) (List.getElem?_eq_getElem (show i < elems.length by omega)))
     have hlen := cells_len hcs
     have hcell : ∀ k, k < n -> W.cell? (a.add (i * n + k)) = cs[k]? := fun k hk => by
      rw [← cells_at hcs k hk, Go.Deep.add_add]
     obtain ⟨c0, hc0⟩ : ∃ c, cs[0]? = some c := ⟨_, List.getElem?_eq_getElem (by omega)⟩
     obtain ⟨b, off, spot⟩ := a
     have hspot : spot = none := by
      have h8 := hel 0 (by omega)
      rw [List.getElem?_eq_getElem (show 0 < elems.length by omega), hc] at h8
      cases hz : W.cells? 0 ((Addr.mk b off spot).add (0 * n)) n with
      | none => rw [hz] at h8; cases h8
      | some zs =>
       have h7 := cells_at hz 0 hn
       rw [List.getElem?_eq_getElem (show 0 < zs.length by rw [cells_len hz]; exact hn)] at h7
       simpa [Addr.add] using World.cell?_spot h7
     subst hspot
     have h0 := (hcell 0 hn).trans hc0
     rw [add_plain] at h0
     refine ⟨y, b, off, cs, rfl, block_lt h0, hy, hlen, fun j u hu => ?_⟩
     have hj := (G_ hu)
     have := (hcell j (by omega)).trans hu
     rw [add_plain] at this
     rw [Nat.add_assoc]
     exact this
   have hch : ∃ fn : Nat -> α, ∀ i, i < len -> ∃ (b o : Nat) (cs : List Value), some a = some ⟨b, o, none⟩ /\ b < W.heap.size /\ Q (fn i) cs /\ cs.length = n /\ ∀ (j : Nat) (u : Value), cs[j]? = some u -> W.cell? ⟨b, o + i * n + j, none⟩ = some u :=
    ⟨fun i => if h : i < len then Classical.choose (key i h) else d0, fun i hi => by dsimp only; rw [dif_pos hi]; exact Classical.choose_spec (key i hi)⟩
   obtain ⟨fn, hfn⟩ := hch
   refine ⟨some a, cap, (List.range len).map fn, by simp, ?_, fun i y hy => ?_⟩
   · have h8 := hw ((elems.length + rest.length) * Tryz.prog.bytesOf T) (by rw [ex]; simp [DataW.weights, hu])
     simp only [List.length_map, List.length_range]
     exact Nat.le_trans (Nat.mul_le_mul_right _ (by omega)) h8
   obtain ⟨hj1, hj2⟩ := List.getElem?_eq_some_iff.1 hy
   simp at hj1 hj2
   rw [← hj2]
   exact hfn i hj1
def ArgU (w : World) (va : Value) : Prop := ∃ (a : Option Addr) (n c : Nat), va = .slice a n c /\ n <= 140737488351232 /\ (n <= 2000 -> ArgC w va)
def WSrcU (w : World) (v : Value) (l : List Wt) : Prop := ∃ (a : Option Addr) (c : Nat), v = .slice a l.length c /\ l.length <= 140737488351232 /\ ∀ (j : Nat) (x : Wt), l[j]? = some x -> ∃ (b o : Nat) (va : Value), a = some ⟨b, o, none⟩ /\ b < w.heap.size /\ (∀ (q : Nat) (u : Value), (wcs x va)[q]? = some u -> w.cell? ⟨b, o + j * 7 + q, none⟩ = some u) /\ ArgU w va
def SSrcU (w : World) (v : Value) (S : List (List Wt)) : Prop := ∃ (a : Option Addr) (c : Nat), v = .slice a S.length c /\ S.length <= 140737488351232 /\ ∀ (i : Nat) (l : List Wt), S[i]? = some l -> ∃ (b o : Nat) (vi : Value), a = some ⟨b, o, none⟩ /\ b < w.heap.size /\ w.cell? ⟨b, o + i, none⟩ = some vi /\ WSrcU w vi l
theorem ArgU.bel {w w' : World} {va : Value} (h : ArgU w va) (hb : Below w.heap.size w w') : ArgU w' va := by
 obtain ⟨a, n, c, h1, h2, h3⟩ := h
 exact ⟨a, n, c, h1, h2, fun h => (h3 h).bel hb⟩
theorem WSrcU.bel {w w' : World} {v : Value} {l : List Wt} (h : WSrcU w v l) (hb : Below w.heap.size w w') : WSrcU w' v l := by
 obtain ⟨a, c, h1, h2, h3⟩ := h
 refine ⟨a, c, h1, h2, fun j x hx => ?_⟩
 obtain ⟨b, o, va, e1, e2, e3, e4⟩ := h3 j x hx
 exact ⟨b, o, va, e1, Nat.lt_of_lt_of_le e2 hb.size, fun q u hu => (hb.cell (p := ⟨b, o + j * 7 + q, none⟩) e2).trans (e3 q u hu), e4.bel hb⟩
theorem SSrcU.bel {w w' : World} {v : Value} {S : List (List Wt)} (h : SSrcU w v S) (hb : Below w.heap.size w w') : SSrcU w' v S := by
 obtain ⟨a, c, h1, h2, h3⟩ := h
 refine ⟨a, c, h1, h2, fun i l hl => ?_⟩
 obtain ⟨b, o, vi, e1, e2, e3, e4⟩ := h3 i l hl
 exact ⟨b, o, vi, e1, Nat.lt_of_lt_of_le e2 hb.size, (hb.cell (p := ⟨b, o + i, none⟩) e2).trans e3, e4.bel hb⟩
def v3c (x : V3) : List Value := [I_ x.1, I_ x.2.1, .int .u64 x.2.2]
theorem vcs_get : ∀ (l : List V3) (j : Nat) (u : Value), (vcs l)[j]? = some u -> ∃ (i : Nat) (y : V3) (r : Nat), l[i]? = some y /\ j = i * 3 + r /\ (v3c y)[r]? = some u
 | [], j, u, h => by simp [vcs] at h
 | y :: l, 0, u, h => ⟨0, y, 0, rfl, rfl, h⟩
 | y :: l, 1, u, h => ⟨0, y, 1, rfl, rfl, h⟩
 | y :: l, 2, u, h => ⟨0, y, 2, rfl, rfl, h⟩
 | y :: l, j + 3, u, h => by
  obtain ⟨i, z, r, h1, h2, h3⟩ := vcs_get l j u (by simpa [vcs] using h)
  exact ⟨i + 1, z, r, by simpa using h1, by omega, h3⟩
section
variable {H : Type} {enc : TypeId × Value → H} {W : World} {fuel : Nat} {v : Value} {cs : List Value} {x : DataW H × List MemPlace}
theorem args_of (h : DataW.trod enc Tryz.prog W 0 (fun _ => true) true fuel 65 [v] = some x) (hw : Wok 65 x.1) : ArgU W v := by
  obtain ⟨a, cap, l, e, h1, h3⟩ := rows_w ((0, 0, 0) : V3) Tryz.underlying65 cellsValue (by omega) (fun (c : V3) cs => cs = v3c c) (fun f cs y _ hy _ => by
    obtain ⟨t, n, b, e, _⟩ := val_of hy
    exact ⟨(t, n, b), e⟩) hw h
  rw [show Tryz.prog.bytesOf 64 = 24 by kernel_rfl, show reachBytes = 140737488351232 from rfl] at h1
  refine ⟨a, l.length, cap, e, by omega, fun hn => ⟨a, l.length, cap, vcs l, e, hn, Yq l, fun w' hb => ?_⟩⟩
  subst e
  refine cloneA (vcs_len l) (fun ha => ?_) (fun ad ha j u hj => ?_) hn (Yq l)
  · cases l with
    | nil => rfl
    | cons y l =>
      obtain ⟨b, o, cs, ea, _⟩ := h3 0 y rfl
      rw [ha] at ea
      cases ea
  · obtain ⟨i, y, r, h4, h5, h6⟩ := vcs_get l j u hj
    obtain ⟨b, o, cs, ea, hbl, rfl, _, hc⟩ := h3 i y h4
    rw [ha] at ea
    cases ea
    rw [add_plain, h5, ← Nat.add_assoc]
    exact ⟨(hb.cell (p := ⟨b, o + i * 3 + r, none⟩) hbl).trans (hc r u h6), Nat.lt_of_lt_of_le hbl hb.size⟩
theorem wait_of (h : DataW.trod enc Tryz.prog W 0 (fun _ => true) true fuel 67 cs = some x) (hw : Wok 67 x.1) : ∃ y : Wt × Value, cs = wcs y.1 y.2 /\ ArgU W y.2 := by
 obtain ⟨xs, f, hfu, ex, hl, hlen, hf⟩ := DataW.trod_struct Tryz.underlying67 h
 rw [show Tryz.prog.cellsOf 67 = 7 by kernel_rfl] at hl
 clear h
 have hx : xs.length = 5 := hlen
 match cs, hl with
 | [c0, c1, c2, c3, c4, c5, c6], _ =>
  have h0 : DataW.trod enc Tryz.prog W 0 (fun _ => true) true f 3 (([c0, c1, c2, c3, c4, c5, c6].drop 0).take (Tryz.prog.cellsOf 3)) = xs[0]? := hf 0 _ rfl
  have h1 : DataW.trod enc Tryz.prog W 0 (fun _ => true) true f 3 (([c0, c1, c2, c3, c4, c5, c6].drop 1).take (Tryz.prog.cellsOf 3)) = xs[1]? := hf 1 _ rfl
  have h2 : DataW.trod enc Tryz.prog W 0 (fun _ => true) true f 3 (([c0, c1, c2, c3, c4, c5, c6].drop 2).take (Tryz.prog.cellsOf 3)) = xs[2]? := hf 2 _ rfl
  have h3 : DataW.trod enc Tryz.prog W 0 (fun _ => true) true f 64 (([c0, c1, c2, c3, c4, c5, c6].drop 3).take (Tryz.prog.cellsOf 64)) = xs[3]? := hf 3 _ rfl
  have h4 : DataW.trod enc Tryz.prog W 0 (fun _ => true) true f 65 (([c0, c1, c2, c3, c4, c5, c6].drop 6).take (Tryz.prog.cellsOf 65)) = xs[4]? := hf 4 _ rfl
  clear hf
  simp only [cells1, cellsValue, show Tryz.prog.cellsOf 65 = 1 by kernel_rfl, List.drop_zero, List.drop_succ_cons, List.take_succ_cons, List.take_zero] at h0 h1 h2 h3 h4
  rw [List.getElem?_eq_getElem (by omega)] at h0 h1 h2 h3 h4
  obtain ⟨z0, q0, _⟩ := DataW.trod_int Tryz.underlying3 h0
  obtain ⟨z1, q1, _⟩ := DataW.trod_int Tryz.underlying3 h1
  obtain ⟨z2, q2, _⟩ := DataW.trod_int Tryz.underlying3 h2
  obtain ⟨t, n, b, q3, _⟩ := val_of h3
  simp at q0 q1 q2 q3
  obtain ⟨rfl, rfl, rfl⟩ := q3
  subst q0 q1 q2
  exact ⟨(⟨z0, z1, z2, (t, n, b)⟩, c6), rfl, args_of h4 (wok_field (i := 4) Tryz.underlying67 (by rw [ex] at hw; exact hw) rfl (List.getElem?_eq_getElem (by omega)))⟩
theorem script_of (h : DataW.trod enc Tryz.prog W 0 (fun _ => true) true fuel 68 [v] = some x) (hw : Wok 68 x.1) : ∃ l, WSrcU W v l := by
 obtain ⟨a, cap, l, e, h1, h3⟩ := rows_w ((⟨0, 0, 0, (0, 0, 0)⟩, .slice none 0 0) : Wt × Value) Tryz.underlying68 (show Tryz.prog.cellsOf 67 = 7 by kernel_rfl) (by omega) (fun (c : Wt × Value) cs => cs = wcs c.1 c.2 /\ ArgU W c.2) (fun f cs y _ hy hz => wait_of hy hz) hw h
 rw [show Tryz.prog.bytesOf 67 = 72 by kernel_rfl, show reachBytes = 140737488351232 from rfl] at h1
 refine ⟨l.map Prod.fst, a, cap, by rw [List.length_map]; exact e, by rw [List.length_map]; omega, fun j y hy => ?_⟩
 rw [List.getElem?_map] at hy
 obtain ⟨z, hz, rfl⟩ := Option.map_eq_some_iff.1 hy
 obtain ⟨b, o, cs, ea, hb, ⟨rfl, ha⟩, _, hc⟩ := h3 j z hz
 exact ⟨b, o, z.2, ea, hb, hc, ha⟩
theorem scripts_of (h : DataW.trod enc Tryz.prog W 0 (fun _ => true) true fuel 24 [v] = some x) (hw : Wok 24 x.1) : ∃ S, SSrcU W v S := by
  obtain ⟨a, cap, l, e, h1, h3⟩ := rows_w ([] : List Wt) Tryz.underlying24 (show Tryz.prog.cellsOf 68 = 1 by kernel_rfl) (by omega) (fun (l : List Wt) cs => ∃ vi, cs = [vi] /\ WSrcU W vi l) (fun f cs y _ hy hz => by
    have hcs : ∃ vi, cs = [vi] := by
      rcases DataW.trod_slice Tryz.underlying68 hy with ⟨e, _⟩ | ⟨a, len, cap, elems, rest, m, hm, e, _⟩
      · exact ⟨_, e⟩
      · exact ⟨_, e⟩
    obtain ⟨vi, rfl⟩ := hcs
    obtain ⟨l, hl⟩ := script_of hy hz
    exact ⟨l, vi, rfl, hl⟩) hw h
  rw [show Tryz.prog.bytesOf 68 = 24 by kernel_rfl, show reachBytes = 140737488351232 from rfl] at h1
  refine ⟨l, a, cap, e, by omega, fun i y hy => ?_⟩
  obtain ⟨b, o, cs, ea, hb, ⟨vi, rfl, hw⟩, _, hc⟩ := h3 i y hy
  refine ⟨b, o, vi, ea, hb, ?_, hw⟩
  have := hc 0 vi rfl
  rw [Nat.mul_one] at this
  exact this
theorem len_of {TS T : TypeId} {l c n : Nat} {a : Option Addr} (hu : Tryz.prog.underlying TS = some (.slice T)) (hb : Tryz.prog.bytesOf T = n) (hn : 0 < n) (h : DataW.trod enc Tryz.prog W 0 (fun _ => true) true fuel TS [.slice a l c] = some x) (hw : Wok TS x.1) : l <= 140737488351232 := by
 rcases DataW.trod_slice hu h with ⟨e, _⟩ | ⟨a', len, cap, elems, rest, m, hm, e, ex, _, hl1, hl2, hl3, hel, _⟩
 · simp at e
   omega
 · simp at e
   obtain ⟨rfl, rfl, rfl⟩ := e
   have h8 := hw ((elems.length + rest.length) * Tryz.prog.bytesOf T) (by rw [ex]; simp [DataW.weights, hu])
   rw [hb, show reachBytes = 140737488351232 from rfl] at h8
   have := Nat.le_mul_of_pos_right (elems.length + rest.length) hn
   omega
theorem case_of (h : DataW.trod enc Tryz.prog W 0 (fun _ => true) true fuel 26 cs = some x) (hw : Wok 26 x.1) :
 ∃ vP m a vC vS fn ps qs S, cs = [vP, I_ m, I_ a, vC, vS, I_ fn] /\ (Sl W vP ps /\ ps.length <= 140737488351232) /\ (SlC W vC qs /\ qs.length <= 140737488351232) /\ SSrcU W vS S := by
 obtain ⟨xs, f, hfu, ex, hl, hlen, hf⟩ := DataW.trod_struct Tryz.underlying26 h
 rw [show Tryz.prog.cellsOf 26 = 6 by kernel_rfl] at hl
 clear h
 have hx : xs.length = 6 := hlen
 match cs, hl with
 | [c0, c1, c2, c3, c4, c5], _ =>
  have h0 : DataW.trod enc Tryz.prog W 0 (fun _ => true) true f 22 (([c0, c1, c2, c3, c4, c5].drop 0).take (Tryz.prog.cellsOf 22)) = xs[0]? := hf 0 _ rfl
  have h1 : DataW.trod enc Tryz.prog W 0 (fun _ => true) true f 3 (([c0, c1, c2, c3, c4, c5].drop 1).take (Tryz.prog.cellsOf 3)) = xs[1]? := hf 1 _ rfl
  have h2 : DataW.trod enc Tryz.prog W 0 (fun _ => true) true f 3 (([c0, c1, c2, c3, c4, c5].drop 2).take (Tryz.prog.cellsOf 3)) = xs[2]? := hf 2 _ rfl
  have h3 : DataW.trod enc Tryz.prog W 0 (fun _ => true) true f 23 (([c0, c1, c2, c3, c4, c5].drop 3).take (Tryz.prog.cellsOf 23)) = xs[3]? := hf 3 _ rfl
  have h4 : DataW.trod enc Tryz.prog W 0 (fun _ => true) true f 24 (([c0, c1, c2, c3, c4, c5].drop 4).take (Tryz.prog.cellsOf 24)) = xs[4]? := hf 4 _ rfl
  have h5 : DataW.trod enc Tryz.prog W 0 (fun _ => true) true f 3 (([c0, c1, c2, c3, c4, c5].drop 5).take (Tryz.prog.cellsOf 3)) = xs[5]? := hf 5 _ rfl
  clear hf
  simp only [cells1, show Tryz.prog.cellsOf 22 = 1 by kernel_rfl, show Tryz.prog.cellsOf 23 = 1 by kernel_rfl, show Tryz.prog.cellsOf 24 = 1 by kernel_rfl, List.drop_zero, List.drop_succ_cons, List.take_succ_cons, List.take_zero] at h0 h1 h2 h3 h4 h5
  rw [List.getElem?_eq_getElem (by omega)] at h0 h1 h2 h3 h4 h5
  obtain ⟨z1, q1, _⟩ := DataW.trod_int Tryz.underlying3 h1
  obtain ⟨z2, q2, _⟩ := DataW.trod_int Tryz.underlying3 h2
  obtain ⟨z5, q5, _⟩ := DataW.trod_int Tryz.underlying3 h5
  simp at q1 q2 q5
  subst q1 q2 q5
  obtain ⟨ps, hp⟩ := sl_of h0
  obtain ⟨qs, hc⟩ := chans_of h3
  rw [ex] at hw
  obtain ⟨S, hS⟩ := scripts_of h4 (wok_field (i := 4) Tryz.underlying26 hw rfl (List.getElem?_eq_getElem (by omega)))
  have w0 := wok_field (i := 0) Tryz.underlying26 hw rfl (List.getElem?_eq_getElem (show 0 < xs.length by omega))
  have w3 := wok_field (i := 3) Tryz.underlying26 hw rfl (List.getElem?_eq_getElem (show 3 < xs.length by omega))
  refine ⟨c0, z1, z2, c3, c4, z5, ps, qs, S, rfl, ⟨hp, ?_⟩, ⟨hc, ?_⟩, hS⟩
  · obtain ⟨aP, lP, cP, e, hlP⟩ := hp.slice
    subst e
    have := len_of Tryz.underlying22 (show Tryz.prog.bytesOf 3 = 8 by kernel_rfl) (by omega) h0 w0
    omega
  · obtain ⟨aC, cC, e, _⟩ := hc
    subst e
    exact len_of Tryz.underlying23 (show Tryz.prog.bytesOf 94 = 16 by kernel_rfl) (by omega) h3 w3
end
theorem case_open {H : Type} {enc : TypeId × Value -> H} {W : World} {c : Array Value} {d : DataW H} {p : List MemPlace} (h : DataW.Trod enc Tryz.prog W 0 (fun _ => true) true 26 (.agg c) d p) (hw : Wok 26 d) :
 ∃ vP m a vC vS fn ps qs S, Value.agg c = .agg #[vP, I_ m, I_ a, vC, vS, I_ fn] /\ (Sl W vP ps /\ ps.length <= 140737488351232) /\ (SlC W vC qs /\ qs.length <= 140737488351232) /\ SSrcU W vS S := by
 obtain ⟨fuel, h⟩ := h
 obtain ⟨vP, m, a, vC, vS, fn, ps, qs, S, e, h1, h2, h3⟩ := case_of h hw
 refine ⟨vP, m, a, vC, vS, fn, ps, qs, S, ?_, h1, h2, h3⟩
 congr 1
 have e' : c.toList = [vP, I_ m, I_ a, vC, vS, I_ fn] := e
 rw [← Array.toArray_toList (xs := c), e']
theorem wok_arg {H : Type} {ts : List TypeId} {ds : List (DataW H)} {j : Nat} {t : TypeId} {d : DataW H} (h : (DataW.weightsEach Tryz.prog ts ds).all (· <= reachBytes) = true) (ht : ts[j]? = some t) (hd : ds[j]? = some d) : Wok t d := fun n hn => by
 simpa using List.all_eq_true.1 h n (DataW.weights_mem_each ht hd n hn)
theorem Off.mk {G : Nat -> Prop} {N : Nat} (h : ∀ k, G k -> N <= k) {w : World} {p : List Addr} (h17 : E3 w p) (hN : w.heap.size <= N) : Off G :=
 ⟨fun e => absurd (h _ e) (by have := h17.e2.l0; omega), fun e => absurd (h _ e) (by have := h17.e2.l4; omega), fun e => absurd (h _ e) (by have := h17.l9; omega)⟩
theorem alive12 {w : World} {p : List Addr} (h17 : E3 w p) : Calls Tryz.prog 5 #[] w (Vb w (.bool true)) := by
  have NW := Za (new_ok (.slice none 0 0) (.slice none 0 0) [] [] 1 0 (Sl.nilS w) (SlC.nilS w) rfl)
  have H7 := Za h17
  have hf := enf0
  clear h17
  go_enter Tryz.func5, Tryz.ntmps5
  go_wp2_with fail
  refine NW.out.mono ?_
  rintro e w1 ⟨gs, F, rfl, hs, hl, hb⟩
  have S1 : Hid (Stt w1 F gs s0 /\ (∀ k, F k -> w.heap.size <= k) /\ Below w.heap.size w w1) := Za ⟨hs, hl, hb⟩
  clear hs hl hb NW
  have SC := Za (scripted_any (src0 w1))
  have B3 : Hid (Below w1.heap.size w1 (((w1.alloc (.cells #[I_ 10, I_ 1, I_ 0, I_ 0, I_ 0, .int .u64 0, .slice none 0 0, I_ 3, I_ 0, I_ 0, I_ 0, I_ 0, .int .u64 0, .slice none 0 0, I_ 4, I_ 0, I_ 0, I_ 0, I_ 0, .int .u64 0, .slice none 0 0] 67)).alloc (.cells #[I_ 3, I_ 0, I_ 0, I_ 0, I_ 0, .int .u64 0, .slice none 0 0] 67)).alloc (.cells #[.slice (some ⟨w1.heap.size, 0, none⟩) 3 3, .slice (some ⟨w1.heap.size + 1, 0, none⟩) 1 1] 68))) := Za (Zv (Zv (Zd w1 _) _) _)
  go_wp2_with fail
  generalize ((w1.alloc _).alloc _).alloc _ = W3 at *
  refine SC.out.mono ?_
  rintro e w5 ⟨vB, R, rfl, bg, hR, hb5⟩
  have PR : Hid (Pre w5 F R gs s0 vB S0) := Za ⟨(S1.out.1.bel B3.out).bel hb5, fun q hq => (by cases hq), bg, fun k hk hF => (by
    have h1 := S1.out.1.fb k hF
    have h2 := (hR k hk).1
    have h3 := B3.out.size
    omega), fun k hk => (hR k hk).2⟩
  have B5 := Za (Zg (Zg S1.out.2.2 B3.out) hb5)
  have LO : Hid (∀ k, (F k ∨ R k) -> w.heap.size <= k) := Za (fun k hk => hk.elim (S1.out.2.1 k) (fun h => by
    have h1 := (hR k h).1
    have h2 := B3.out.size
    have h3 := S1.out.2.2.size
    omega))
  have E5 := Za (And.intro (H7.out.below (Nat.le_refl _) B5.out) (Off.mk LO.out H7.out (Nat.le_refl _)))
  clear bg hR hb5 SC S1 B3
  have ST := Za (start_any PR.out E5.out.1 E5.out.2 0)
  rw [show startR S0 s0 0 = r0 from rfl] at ST
  go_wp2_with fail
  refine ST.out.mono ?_
  rintro e w6 ⟨g, G6, rfl, rn, ch⟩
  have R6 := Za (And.intro rn (And.intro (E5.out.1.ch E5.out.2 ch) ch))
  clear rn ch ST PR
  have DO := Za (Do_ok R6.out.1 R6.out.2.1.1 R6.out.2.1.2 0 (show runs r0 = true by decide +kernel) (show can r0 ((0 : Nat) : Int) = true by decide +kernel) (show r0.ev.length <= 90000 by decide +kernel))
  rw [show doR S0 r0 0 = r1 from rfl] at DO
  simp only [Int.ofNat_zero] at DO
  go_wp2_with fail
  refine DO.out.mono ?_
  rintro e w7 ⟨rfl, G7, rn, ch⟩
  have R7 := Za (And.intro rn (And.intro (R6.out.2.1.1.ch R6.out.2.1.2 ch) (R6.out.2.2.trans ch)))
  clear rn ch DO R6
  have DO := Za (Do_ok R7.out.1 R7.out.2.1.1 R7.out.2.1.2 1 (show runs r1 = true by decide +kernel) (show can r1 ((1 : Nat) : Int) = true by decide +kernel) (show r1.ev.length <= 90000 by decide +kernel))
  rw [show doR S0 r1 1 = r2 from rfl] at DO
  go_wp2_with fail
  refine DO.out.mono ?_
  rintro e w8 ⟨rfl, G8, rn, ch⟩
  have R8 := Za (And.intro rn (And.intro (R7.out.2.1.1.ch R7.out.2.1.2 ch) (R7.out.2.2.trans ch)))
  clear rn ch DO R7
  have DO := Za (Do_ok R8.out.1 R8.out.2.1.1 R8.out.2.1.2 1 (show runs r2 = true by decide +kernel) (show can r2 ((1 : Nat) : Int) = true by decide +kernel) (show r2.ev.length <= 90000 by decide +kernel))
  rw [show doR S0 r2 1 = r3 from rfl] at DO
  go_wp2_with fail
  refine DO.out.mono ?_
  rintro e w9 ⟨rfl, G9, rn, ch⟩
  have R9 := Za (And.intro rn (And.intro (R8.out.2.1.1.ch R8.out.2.1.2 ch) (R8.out.2.2.trans ch)))
  clear rn ch DO R8
  have EN := Za (End_any R9.out.1 R9.out.2.1.1.e2)
  rw [show endR r3 = ⟨2, 0, 0, 0, 0⟩ from by kernel_rfl] at EN
  unfold EnV at EN
  simp only at EN
  go_wp2_with fail
  refine EN.out.mono ?_
  rintro e w10 ⟨rfl, hb⟩
  have R10 := Za (And.intro (R9.out.1.bel hb) (And.intro (R9.out.2.1.1.below (Nat.le_refl _) hb) (R9.out.2.2.trans (Ch.of_bel hb))))
  clear hb EN R9
  have RU := Za (Runnable_any R10.out.1 R10.out.2.1.e2)
  rw [show runnR r3 = [] by decide +kernel] at RU
  go_wp2_with fail
  refine RU.out.mono ?_
  rintro e w11 ⟨a, c, rfl, _, hb⟩
  have R11 := Za (And.intro (R10.out.1.bel hb) (R10.out.2.2.trans (Ch.of_bel hb)))
  clear hb RU R10
  have CO := Za (Count_any R11.out.1)
  rw [show r3.ev.length = 3 by decide +kernel] at CO
  go_wp2_with fail
  refine CO.out.mono ?_
  rintro e w12 ⟨rfl, rfl⟩
  go_wp2_with fail
  go_ret
  exact Vb.mk rfl (B5.out.trans (R11.out.2.bel LO.out B5.out.size))
def MadeP (w : World) (ok : Bool) (S : List (List Wt)) (s : St) (fn : Int) (e : Ending) (w' : World) : Prop := (ok = false /\ e = .returned (.tuple #[.pointer none, .pointer none, .bool false]) /\ Below w.heap.size w w') ∨
 (ok = true /\ ∃ g gm G Gm, e = .returned (.tuple #[P_ g, P_ gm, .bool true]) /\ Rn w' G g S (startR S s fn) /\ Rr w' Gm 0 gm S (startZ S s fn) /\ (∀ k, G k -> ¬ Gm k) /\ (∀ k, G k ∨ Gm k -> w.heap.size <= k) /\ Below w.heap.size w w')
theorem new_ty {ps : List Int} {m a : Int} {qs : List (Int × Int)} (h : okN ps m qs a = true) : ∀ q ∈ (newS ps m qs a).C, 1 <= q.t /\ q.t <= 3 := fun q hq => by
 unfold okN at h
 simp only [Bool.and_eq_true] at h
 obtain ⟨_, _, _, _, _, h6⟩ := h
 simp only [newS, List.mem_map] at hq
 obtain ⟨c, hc, rfl⟩ := hq
 have := h6
 simp only [Bool.not_eq_true', List.any_eq_false] at this
 have h7 := this c hc
 show 1 <= c.1 /\ c.1 <= 3
 unfold badC chanB Yf at h7
 by_cases h8 : c.1 = 1 ∨ c.1 = 2 ∨ c.1 = 3
 · omega
 · rw [if_neg h8] at h7
   simp at h7
theorem errV_form (p : List Addr) (n : Nat) : ∃ a, errV p n = .iface 203 (.pointer (some a)) := ⟨_, rfl⟩
theorem made_bad {w : World} {aP aC aS : Option Addr} {lP cP lC cC nS cS : Nat} {ps : List Int} {qs : List (Int × Int)} {S : List (List Wt)} {p : List Addr} (h17 : E3 w p) (m a fn : Int) (hP : Sl w (.slice aP lP cP) ps) (hC : SlC w (.slice aC lC cC) qs) (hok : okN ps m qs a = false) : Calls Tryz.prog 7 #[.agg #[.slice aP lP cP, I_ m, I_ a, .slice aC lC cC, .slice aS nS cS, I_ fn]] w (MadeP w false S (newS ps m qs a) fn) := by
 have AB := Za (Zd w (.cells #[.slice aP lP cP, I_ m, I_ a, .slice aC lC cC, .slice aS nS cS, I_ fn] 26))
 have N2 := Za (fun w3 (h3 : Below w.heap.size w w3) => rnew_any (.slice aP lP cP) (.slice aC lC cC) ps qs m a (hP.below (Nat.le_refl _) h3) (hC.below h3))
 have BX := Za (B_ w (.cells #[.slice aP lP cP, I_ m, I_ a, .slice aC lC cC, .slice aS nS cS, I_ fn] 26))
 have N1 := Za (new_bad (.slice aP lP cP) (.slice aC lC cC) ps qs m a (h17.e2.below (Nat.le_refl _) AB.out) (hP.below (Nat.le_refl _) AB.out) (hC.below AB.out) hok)
 obtain ⟨ea, hea⟩ := errV_form p 0
 rw [hea] at N1
 rw [hok] at N2
 clear h17 hP hC hok hea
 go_enter Tryz.func7, Tryz.ntmps7
 go_wp2_with fail
 generalize w.alloc _ = w1 at *
 obtain ⟨bx, hbx⟩ : ∃ b, b = w.heap.size := ⟨_, rfl⟩
 rw [← hbx] at BX ⊢
 refine N1.out.mono ?_
 rintro e w2 ⟨rfl, hb2⟩
 replace BX := Za ((hb2.block bx (Ze BX.out)).trans BX.out)
 have x0 := Zb BX.out 0 _ rfl
 have x1 := Zb BX.out 1 _ rfl
 have x2 := Zb BX.out 2 _ rfl
 have x3 := Zb BX.out 3 _ rfl
 have x4 := Zb BX.out 4 _ rfl
 have x5 := Zb BX.out 5 _ rfl
 have B2 := Za (Zg AB.out hb2)
 clear hb2 hbx AB N1
 go_wp2_with fail
 refine (N2.out _ B2.out).mono ?_
 rintro e w3 (⟨_, rfl, hb3⟩ | ⟨h, _⟩)
 · have B3 := Za (Zg B2.out hb3)
   clear hb3 N2
   go_wp2_with fail
   refine bodyPost_ret (v := .tuple #[.pointer none, .pointer none, .bool false]) (by simp [results, Tryz.results7, go_sem]) rfl ?_
   exact .inl ⟨rfl, rfl, B3.out⟩
 · cases h
theorem made_ok {w : World} {aP aC aS : Option Addr} {lP cP lC cC nS cS : Nat} {ps : List Int} {qs : List (Int × Int)} {S : List (List Wt)} {p : List Addr} (h17 : E3 w p) (m a fn : Int) (hP : Sl w (.slice aP lP cP) ps) (hC : SlC w (.slice aC lC cC) qs) (hS : SSrc w (.slice aS nS cS) S) (hok : okN ps m qs a = true) : Calls Tryz.prog 7 #[.agg #[.slice aP lP cP, I_ m, I_ a, .slice aC lC cC, .slice aS nS cS, I_ fn]] w (MadeP w true S (newS ps m qs a) fn) := by
  have AB := Za (Zd w (.cells #[.slice aP lP cP, I_ m, I_ a, .slice aC lC cC, .slice aS nS cS, I_ fn] 26))
  have N2 := Za (fun w3 (h3 : Below w.heap.size w w3) => rnew_any (.slice aP lP cP) (.slice aC lC cC) ps qs m a (hP.below (Nat.le_refl _) h3) (hC.below h3))
  have BX := Za (B_ w (.cells #[.slice aP lP cP, I_ m, I_ a, .slice aC lC cC, .slice aS nS cS, I_ fn] 26))
  have N1 := Za (new_ok (.slice aP lP cP) (.slice aC lC cC) ps qs m a (hP.below (Nat.le_refl _) AB.out) (hC.below AB.out) hok)
  have TY := Za (new_ty hok)
  have H17 := Za h17
  have HS := Za hS
  rw [hok] at N2
  obtain ⟨_, _, eS, hS2, hS9⟩ := hS
  cases eS
  obtain ⟨nS, hnS⟩ : ∃ n, n = S.length := ⟨_, rfl⟩
  rw [← hnS] at HS AB BX N1 hS2 ⊢
  have HN := Za hnS
  clear h17 hP hC hok hnS hS9
  have HW1 : Hid (w.heap.size < (w.alloc (.cells #[.slice aP lP cP, I_ m, I_ a, .slice aC lC cC, .slice aS nS cS, I_ fn] 26)).heap.size) := Za (by simp)
  go_enter Tryz.func7, Tryz.ntmps7
  go_wp2_with fail
  generalize w.alloc _ = w1 at *
  obtain ⟨bx, hbx⟩ : ∃ b, b = w.heap.size := ⟨_, rfl⟩
  rw [← hbx] at BX ⊢
  refine N1.out.mono ?_
  rintro e w2 ⟨gs, F, rfl, hs, hlF, hb2⟩
  replace BX := Za ((hb2.block bx (Ze BX.out)).trans BX.out)
  have x0 := Zb BX.out 0 _ rfl
  have x1 := Zb BX.out 1 _ rfl
  have x2 := Zb BX.out 2 _ rfl
  have x3 := Zb BX.out 3 _ rfl
  have x4 := Zb BX.out 4 _ rfl
  have x5 := Zb BX.out 5 _ rfl
  have B2 := Za (Zg AB.out hb2)
  have LF : Hid (∀ k, F k -> bx < k) := Za (fun k hk => by have h1 := hlF k hk; have h2 := HW1.out; omega)
  have ST := Za hs
  have HBX : Hid (bx = w.heap.size) := Za hbx
  clear hs hlF hb2 AB N1 hbx HW1
  go_wp2_with fail
  refine (N2.out _ B2.out).mono ?_
  rintro e w3 (⟨h, _⟩ | ⟨_, gm, F2, rfl, hr, hlF2, hb3⟩)
  · cases h
  have AP : Hid (∀ k, F k -> ¬ F2 k) := Za (fun k h1 h2 => by have h3 := ST.out.fb k h1; have h4 := hlF2 k h2; omega)
  have LF2 : Hid (∀ k, F2 k -> bx < k) := Za (fun k hk => by have h1 := hlF2 k hk; have h2 := Ze BX.out; omega)
  clear x0 x1 x2 x3 x4 x5
  replace BX := Za ((hb3.block bx (Ze BX.out)).trans BX.out)
  replace ST := Za (ST.out.bel hb3)
  have RT := Za hr
  have B3 := Za (Zg B2.out hb3)
  clear hr hlF2 hb3 B2 N2
  have x0 := Zb BX.out 0 _ rfl
  have x1 := Zb BX.out 1 _ rfl
  have x2 := Zb BX.out 2 _ rfl
  have x3 := Zb BX.out 3 _ rfl
  have x4 := Zb BX.out 4 _ rfl
  have x5 := Zb BX.out 5 _ rfl
  have I0 : Hid (∃ vs, Cq w3 (w3.alloc (.cells #[] 39)) S 0 (.slice (some ⟨w3.heap.size, 0, none⟩) 0 0) vs) := Za ⟨_, Cq.start w3⟩
  go_upto_region 6 with fail
  clear x0 x1 x2 x3 x4 x5
  have BX4 := Za (((Zd w3 (.cells #[] 39)).block bx (Ze BX.out)).trans BX.out)
  obtain ⟨A0, hA0⟩ : ∃ z : Value, z = .slice (some ⟨w3.heap.size, 0, none⟩) 0 0 := ⟨_, rfl⟩
  have B0 : Hid (∃ c, A0 = .slice (some ⟨w3.heap.size, 0, none⟩) 0 c) := Za ⟨_, hA0⟩
  rw [← hA0] at I0 ⊢
  generalize w3.alloc _ = w4 at *
  clear hA0
  have x4 := Zb BX4.out 4 _ rfl
  go_wp2_with fail
  clear x4 BX4
  go_loopw [9, 11, 12, 14, 49] (fun x9 x11 x12 x14 q wr => ∃ (k : Nat) (aa : Option Addr) (ca : Nat), k <= nS /\ q = I_ k /\ x9 = .slice aa k ca /\ Hid (∃ vs, Cq w3 wr S k (.slice aa k ca) vs)) (fun _ _ _ _ q _ => nS - (intOf q).toNat)
  case atStart =>
    obtain ⟨c, e⟩ := B0.out
    rw [e] at I0 ⊢
    exact ⟨0, _, c, Nat.zero_le _, rfl, rfl, I0⟩
  case round =>
    clear I0 B0
    obtain ⟨k, aa, ca, hk, rfl, rfl, HI⟩ := hrel
    obtain ⟨vs, cq⟩ := HI.out
    by_cases hlt : k < nS
    · have hlt' : (k : Int) < (nS : Int) := by omega
      obtain ⟨l, hl⟩ : ∃ l, S[k]? = some l := ⟨_, List.getElem?_eq_getElem (by rw [← HN.out]; exact hlt)⟩
      have HW : Hid (∃ b o vi, aS = some ⟨b, o, none⟩ /\ b < w.heap.size /\ w.cell? ⟨b, o + k, none⟩ = some vi /\ WSrc w vi l) := Za (by
        obtain ⟨a', c', e', _, h3⟩ := HS.out
        cases e'
        exact h3 k l hl)
      obtain ⟨b, o, vi, rfl, hbl, hc1, hws⟩ := HW.out
      have HWS := Za hws
      obtain ⟨ai, ci, rfl, hm2, hws3⟩ := hws
      obtain ⟨ml, hm⟩ : ∃ m, m = l.length := ⟨_, rfl⟩
      rw [← hm] at hc1 hm2 HWS
      have HM := Za hm
      have HL := Za hl
      have CQ := Za cq
      have BWR := Za (Zg B3.out (cq.bel.mono (Nat.le_refl _)))
      have u := (BWR.out.cell (p := ⟨b, o + k, none⟩) hbl).trans hc1
      have J0 : Hid (∃ vs, Cq w3 (wr.alloc (.cells #[] 76)) S k (.slice aa k ca) vs /\ Ci w3 (wr.alloc (.cells #[] 76)) l 0 (.slice (some ⟨wr.heap.size, 0, none⟩) 0 0) vs) := Za ⟨vs, cq.low (Zd _ _), Ci.start cq⟩
      clear HW hws3 hl hm hc1 hbl cq HI
      go_wp2_with fail
      clear u
      generalize wr.alloc _ = w5 at *
      obtain ⟨wo, hwo⟩ : ∃ z, z = wr.heap.size := ⟨_, rfl⟩
      rw [← hwo] at J0 ⊢
      clear hwo CQ BWR
      go_loopw [12, 14, 56] (fun x12 x14 q wr => ∃ (j : Nat) (av : Option Addr) (cv : Nat), j <= ml /\ q = I_ j /\ x12 = .slice av j cv /\ Hid (∃ vs, Cq w3 wr S k (.slice aa k ca) vs /\ Ci w3 wr l j (.slice av j cv) vs)) (fun _ _ q _ => ml - (intOf q).toNat)
      case atStart => exact ⟨0, _, _, Nat.zero_le _, rfl, rfl, J0⟩
      case round =>
        clear J0
        obtain ⟨j, av, cv, hj, rfl, rfl, HJ⟩ := hrel
        obtain ⟨vs, cq, ci⟩ := HJ.out
        by_cases hjt : j < ml
        · have hjt' : (j : Int) < (ml : Int) := by omega
          obtain ⟨x, hxj⟩ : ∃ x, l[j]? = some x := ⟨_, List.getElem?_eq_getElem (by rw [← HM.out]; exact hjt)⟩
          have BWR := Za (Zg B3.out cq.bel)
          obtain ⟨ai', ci', ei', hq2, hq3⟩ := HWS.out.bel BWR.out
          cases ei'
          obtain ⟨b2, o2, va, rfl, hb2, hcl, hac⟩ := hq3 j x hxj
          obtain ⟨ax, nx, cx, xs, rfl, _⟩ := id hac
          obtain ⟨xk, xo, xa, x0, x1, x2⟩ := x
          have e0 : wr.cell? ⟨b2, o2 + j * 7, none⟩ = some (I_ xk) := hcl 0 _ rfl
          have e1 : wr.cell? ⟨b2, o2 + j * 7 + 1, none⟩ = some (I_ xo) := hcl 1 _ rfl
          have e2 : wr.cell? ⟨b2, o2 + j * 7 + 2, none⟩ = some (I_ xa) := hcl 2 _ rfl
          have e3 : wr.cell? ⟨b2, o2 + j * 7 + 3, none⟩ = some (I_ x0) := hcl 3 _ rfl
          have e4 : wr.cell? ⟨b2, o2 + j * 7 + 4, none⟩ = some (I_ x1) := hcl 4 _ rfl
          have e5 : wr.cell? ⟨b2, o2 + j * 7 + 5, none⟩ = some (.int .u64 x2) := hcl 5 _ rfl
          have e6 : wr.cell? ⟨b2, o2 + j * 7 + 6, none⟩ = some (.slice ax nx cx) := hcl 6 _ rfl
          have A2 := Za (Zv (Zd wr (.cells #[I_ xk, I_ xo, I_ xa, I_ x0, I_ x1, .int .u64 x2, .slice ax nx cx] 67)) (.cells #[I_ xk, I_ xo, I_ xa, I_ x0, I_ x1, .int .u64 x2] 76))
          have CQ := Za (cq.low A2.out)
          have CI := Za (ci.low A2.out)
          have HXJ := Za hxj
          have NB : Hid (((wr.alloc (.cells #[I_ xk, I_ xo, I_ xa, I_ x0, I_ x1, .int .u64 x2, .slice ax nx cx] 67)).alloc (.cells #[I_ xk, I_ xo, I_ xa, I_ x0, I_ x1, .int .u64 x2] 76)).heap[wr.heap.size + 1]? = some (.cells #[I_ xk, I_ xo, I_ xa, I_ x0, I_ x1, .int .u64 x2] 76 (0, 0))) := Za (by
            have h1 := B_ (wr.alloc (.cells #[I_ xk, I_ xo, I_ xa, I_ x0, I_ x1, .int .u64 x2, .slice ax nx cx] 67)) (.cells #[I_ xk, I_ xo, I_ xa, I_ x0, I_ x1, .int .u64 x2] 76)
            have hs : (wr.alloc (.cells #[I_ xk, I_ xo, I_ xa, I_ x0, I_ x1, .int .u64 x2, .slice ax nx cx] 67)).heap.size = wr.heap.size + 1 := by simp
            rw [hs] at h1
            exact h1)
          have PU := Za (fun ty => pushR (w := (wr.alloc (.cells #[I_ xk, I_ xo, I_ xa, I_ x0, I_ x1, .int .u64 x2, .slice ax nx cx] 67)).alloc (.cells #[I_ xk, I_ xo, I_ xa, I_ x0, I_ x1, .int .u64 x2] 76)) (gx := wr.heap.size + 1) (ys := w6s [⟨xk, xo, xa, (x0, x1, x2)⟩]) Tryz.underlying39 info_rw rfl (by decide) (by decide) CI.out.own (by omega) rfl (fun q u hu => Zb NB.out q u (by simpa [w6s] using hu)) (w6s_one _) ty)
          clear hq3 hcl hac hxj cq ci HJ BWR hq2 NB
          go_wp2_with (first | (at_builtin; refine ZX (TS := 39) rfl (.tmp 60) (.tmp 70) rfl _ _ rfl rfl _ (PU.out _) ?_; rintro v9 w9 ⟨⟨a9, c9, rfl⟩, o9, g9, b9⟩; have R9 := Za (And.intro o9 (And.intro g9 b9)); clear o9 g9 b9))
          go_roundw
          case rel =>
            obtain ⟨h1, h2⟩ := CQ.out.step CI.out HXJ.out R9.out.1 R9.out.2.1 R9.out.2.2
            exact ⟨j + 1, a9, c9, by omega, by go_num, rfl, Za ⟨vs, h1, h2⟩⟩
          case measure => simp [intOf]; omega
        · have ej : j = ml := by omega
          subst ej
          have A2 := Za (Zd wr (.cells #[.slice av j cv] 39))
          have CQ := Za (cq.low A2.out)
          have CI := Za (ci.low A2.out)
          have NB := Za (B_ wr (.cells #[.slice av j cv] 39))
          have PU := Za (fun ty => pushR (w := wr.alloc (.cells #[.slice av j cv] 39)) (gx := wr.heap.size) (ys := [.slice av j cv]) Tryz.underlying74 info_rsw rfl (by decide) (by decide) CQ.out.al (by omega) rfl (fun q u hu => Zb NB.out q u (by simpa using hu)) (fun u hu => by simp at hu; subst hu; rfl) ty)
          clear cq ci HJ NB
          go_wp2_with (first | (at_builtin; refine ZX (TS := 74) rfl (.tmp 73) (.tmp 75) rfl _ _ rfl rfl _ (PU.out _) ?_; rintro v9 w9 ⟨⟨a9, c9, rfl⟩, o9, g9, b9⟩; have R9 := Za (And.intro o9 (And.intro g9 b9)); clear o9 g9 b9))
          go_roundw
          case rel => exact ⟨k + 1, a9, c9, by omega, by go_num, rfl, Za ⟨_, CQ.out.push CI.out HL.out HM.out R9.out.1 R9.out.2.1 R9.out.2.2⟩⟩
          case measure => simp [intOf]; omega
    · have ek : k = nS := by omega
      subst ek
      have MT : Hid (Mt w w3 wr bx (.cells #[.slice aP lP cP, I_ m, I_ a, .slice aC lC cC, .slice aS k cS, I_ fn] 26 (0, 0)) F F2 (fun _ => False) gm (newS ps m qs a) S (.slice aa k ca) vs) := Za (by
        have hbl := Ze BX.out
        refine { bo := (cq.bel.block bx hbl).trans BX.out, xb := fun e => ?_, xl := fun q hq => ?_, xs := fun q hq => Nat.lt_of_lt_of_le (ST.out.fb q hq) cq.bel.size, rt := RT.out.bel cq.bel, al := ?_, row := cq.row, f2 := fun q hq => ⟨?_, RT.out.fb q hq⟩, yl := fun q hq => ?_, tl := fun q hq => hq.elim, ap := fun q hq => ⟨AP.out q hq, fun e => ?_, fun e => e⟩, s3 := B3.out.size, bel := Zg B3.out cq.bel }
        · have := LF.out bx e
          omega
        · have h1 := LF.out q hq
          have h2 := HBX.out
          omega
        · have h1 := cq.al
          rw [← HN.out]
          exact h1
        · have h1 := LF2.out q hq
          have h2 := HBX.out
          omega
        · rcases hq with h1 | ⟨v, hv, h1⟩
          · exact ⟨cq.lo q h1, (Zf cq.al h1).2.1⟩
          · exact cq.lr v hv q h1
        · have h2 := ST.out.fb q hq
          rcases e with h1 | ⟨v, hv, h1⟩
          · have := cq.lo q h1
            omega
          · have := (cq.lr v hv q h1).1
            omega)
      have ST4 := Za (ST.out.bel cq.bel)
      have SS4 := Za (HS.out.bel (Zg B3.out cq.bel))
      have W3 := Za cq.bel.size
      have VL : Hid (vs.length = S.length) := Za (by have h1 := cq.al.1; have h2 := HN.out; omega)
      have SZ : Hid (S.length <= 2000 /\ ∀ l ∈ S, l.length <= 2000) := Za (by
        obtain ⟨_, _, _, h1, h2⟩ := HS.out
        refine ⟨h1, fun l hl => ?_⟩
        obtain ⟨i, hi⟩ := List.mem_iff_getElem?.1 hl
        obtain ⟨_, _, _, _, _, _, _, _, _, h3, _⟩ := h2 i l hi
        exact h3)
      have LB : Hid (bx < w3.heap.size /\ ¬ F2 bx) := Za ⟨Ze BX.out, fun e => by have := LF2.out bx e; omega⟩
      clear cq HI BX ST RT AP LF LF2 HS HN hS2 hk hlt
      go_upto_region 17 with fail
      refine ZD (S := fun w' => w'.heap[bx]? = some (.cells #[.slice aP lP cP, I_ m, I_ a, .slice aC lC cC, .slice aS k cS, I_ fn] 26 (0, 0))) (fun _ => true) ZJ MT.out.bo (fun hH => ?_)
      replace MT := Za (MT.out.low (W' := wr.drew) (Zp (Below.refl _ _)))
      replace ST4 := Za (ST4.out.bel (w' := wr.drew) (Zp (Below.refl _ _)))
      replace SS4 := Za (SS4.out.bel (w' := wr.drew) (Zp (Below.refl _ _)))
      have W3' : Hid (w3.heap.size <= wr.drew.heap.size) := W3
      clear W3
      have W3 := W3'
      clear W3'
      generalize wr.drew = wd at *
      refine M_ 0 ?_
      simp only [Act.put, S_]
      refine M_ 1 ?_
      simp only [Act.put, S_]
      refine L_ 2 (v := ?_) ?_ hH ?_
      rotate_left 1
      · (intro w hSw; have q := Zb hSw 4 _ rfl; clear hSw; go_simp <;> with_reducible rfl)
      simp only [Act.put, S_]
      refine M_ 4 ?_
      simp only [Act.put, S_]
      refine L_ 5 (v := ?_) ?_ hH ?_
      rotate_left 1
      · (intro w hSw; have q := Zb hSw 5 _ rfl; clear hSw; go_simp <;> with_reducible rfl)
      simp only [Act.put, S_]
      refine M_ 7 ?_
      simp only [Act.put, S_]
      refine M_ 8 ?_
      simp only [Act.put, S_]
      refine M_ 9 ?_
      simp only [Act.put, S_]
      refine M_ 11 ?_
      simp only [Act.put, S_]
      refine L_ 12 (v := ?_) ?_ hH ?_
      rotate_left 1
      · (intro w hSw; have q := Zb hSw 5 _ rfl; clear hSw; go_simp <;> with_reducible rfl)
      simp only [Act.put, S_]
      clear hH
      refine ZS (rs := [3, 10]) (by kernel_rfl) (by decide) ?_
      refine Zn.cons rfl (fun K1 hK1 => ?_) (Zn.cons rfl (fun K1 hK1 => ?_) Zn.nil)
      · go_simp
        refine (scripted_any SS4.out).mono ?_
        rintro e V1 ⟨vB, R, rfl, bg, hR, hb⟩
        obtain ⟨cB, vSB, vsB, rfl, _⟩ := id bg
        have HB := Za hb
        have MT9 := Za (MT.out.more hb hR)
        refine hK1.out _ _ (fun _ => MT9.out.bo) (fun _ => ?_)
        clear hK1 K1 MT
        have MT := MT9
        clear MT9
        have PR := Za (Pre.mk (ST4.out.bel hb) TY.out bg (fun q hq e => by have h1 := ST4.out.fb q e; have h2 := (hR q hq).1; omega) (fun q hq => (hR q hq).2))
        replace W3 := Za (Nat.le_trans W3.out hb.size)
        clear ST4 SS4 bg hR hb HB
        refine ZS (rs := [6, 10]) (by kernel_rfl) (by decide) ?_
        refine Zn.cons rfl (fun K1 hK1 => ?_) (Zn.cons rfl (fun K1 hK1 => ?_) Zn.nil)
        · go_simp
          refine (start_any PR.out (H17.out.below (Nat.le_refl _) MT.out.bel) (Off.mk MT.out.xl H17.out (Nat.le_refl _)) fn).mono ?_
          rintro e V2 ⟨g, G, rfl, rn, ch⟩
          have MT9 := Za (MT.out.ch ch rn.fb)
          refine hK1.out _ _ (fun _ => MT9.out.bo) (fun _ => ?_)
          clear hK1 K1
          replace W3 := Za (Nat.le_trans W3.out ch.size)
          clear MT
          have MT := MT9
          clear MT9
          have RN := Za rn
          clear rn ch PR
          refine RT_ 10 (fun K1 hK1 => ?_)
          have HB := Za (Zd V2 (.cells #[.slice aa k ca, .slice none 0 0, .slice none 0 0] 79))
          have MT9 := Za (MT.out.box W3.out (.cells #[.slice aa k ca, .slice none 0 0, .slice none 0 0] 79))
          have GT := Za (B_ V2 (.cells #[.slice aa k ca, .slice none 0 0, .slice none 0 0] 79))
          go_simp
          refine hK1.out _ _ (fun _ => MT9.out.bo) (fun _ => ?_)
          clear hK1 K1 MT
          have MT := MT9
          clear MT9
          replace RN := Za (RN.out.bel HB.out)
          replace W3 := Za (Nat.le_trans W3.out HB.out.size)
          obtain ⟨gt, hgt⟩ : ∃ b, V2.heap.size = b := ⟨_, rfl⟩
          rw [hgt] at MT GT ⊢
          clear HB hgt
          generalize V2.alloc _ = V3 at *
          refine RT_ 13 (fun K1 hK1 => ?_)
          have hd : Hid (∀ k_, G k_ -> ¬ (F2 k_ ∨ False ∨ k_ = gt ∨ Yb (.slice aa k ca) vs k_)) := Za (fun q hq e => by
            obtain ⟨h1, h2, h3⟩ := MT.out.ap q hq
            rcases e with e | e | e | e
            · exact h1 e
            · exact e
            · exact h3 e
            · exact h2 e)
          go_simp
          refine (rStart_any (MT.out.pq (gt := gt) rfl GT.out SZ.out VL.out) (by omega) fn).mono ?_
          rintro e V4 ⟨gn, Gm, rfl, rr, ch⟩
          have RN9 := Za (RN.out.ch ch hd.out)
          have BO := Za ((ch.blk bx (Ze MT.out.bo) (fun e => by
            have h9 := LB.out
            rcases e with e | e | e | e
            · exact h9.2 e
            · exact e
            · have := (MT.out.tl gt rfl).1
              omega
            · have := (MT.out.yl bx e).1
              omega)).trans MT.out.bo)
          have LX : Hid ((∀ q, G q ∨ Gm q -> w.heap.size <= q) /\ Below w.heap.size w V4) := Za (by
            have hf : ∀ q, (F2 q ∨ False ∨ q = gt ∨ Yb (.slice aa k ca) vs q) -> w.heap.size <= q := fun q e => by
              have h3 := MT.out.s3
              rcases e with e | e | e | e
              · exact (MT.out.f2 q e).1
              · exact e.elim
              · have := (MT.out.tl q e).1
                omega
              · have := (MT.out.yl q e).1
                omega
            refine ⟨fun q hq => ?_, MT.out.bel.trans (ch.bel hf MT.out.bel.size)⟩
            rcases hq with e | e
            · exact MT.out.xl q e
            · rcases ch.grow q e with h1 | h1
              · exact hf q h1
              · have := MT.out.bel.size
                omega)
          have RR := Za rr
          refine hK1.out _ _ (fun _ => BO.out) (fun _ => ?_)
          clear hK1 K1 MT GT RN rr ch hd BO
          refine M_ 14 ?_
          simp only [Act.put, S_]
          refine M_ 15 ?_
          simp only [Act.put, S_]
          refine M_ 16 ?_
          simp only [Act.put, S_]
          refine ZW (by kernel_rfl) ?_ _
          go_wp2_with fail
          refine bodyPost_ret (v := .tuple #[P_ g, P_ gn, .bool true]) (by simp [results, Tryz.results7, go_sem]) rfl ?_
          exact .inr ⟨rfl, g, gn, G, Gm, rfl, RN9.out.1, RR.out, RN9.out.2, LX.out.1, LX.out.2⟩
        · have HB := Za (Zd V1 (.cells #[.slice aa k ca, .slice none 0 0, .slice none 0 0] 79))
          have MT9 := Za (MT.out.box W3.out (.cells #[.slice aa k ca, .slice none 0 0, .slice none 0 0] 79))
          have GT := Za (B_ V1 (.cells #[.slice aa k ca, .slice none 0 0, .slice none 0 0] 79))
          go_simp
          refine hK1.out _ _ (fun _ => MT9.out.bo) (fun _ => ?_)
          clear hK1 K1 MT
          have MT := MT9
          clear MT9
          replace PR := Za (PR.out.bel HB.out)
          replace W3 := Za (Nat.le_trans W3.out HB.out.size)
          obtain ⟨gt, hgt⟩ : ∃ b, V1.heap.size = b := ⟨_, rfl⟩
          rw [hgt] at MT GT ⊢
          clear HB hgt
          generalize V1.alloc _ = V2 at *
          refine RT_ 6 (fun K1 hK1 => ?_)
          go_simp
          refine (start_any PR.out (H17.out.below (Nat.le_refl _) MT.out.bel) (Off.mk MT.out.xl H17.out (Nat.le_refl _)) fn).mono ?_
          rintro e V3 ⟨g, G, rfl, rn, ch⟩
          have MT9 := Za (MT.out.ch ch rn.fb)
          refine hK1.out _ _ (fun _ => MT9.out.bo) (fun _ => ?_)
          clear hK1 K1
          replace W3 := Za (Nat.le_trans W3.out ch.size)
          replace GT := Za ((ch.blk gt (Ze GT.out) (fun e => (MT.out.ap gt e).2.2 rfl)).trans GT.out)
          clear MT
          have MT := MT9
          clear MT9
          have RN := Za rn
          clear rn ch PR
          refine RT_ 13 (fun K1 hK1 => ?_)
          have hd : Hid (∀ k_, G k_ -> ¬ (F2 k_ ∨ False ∨ k_ = gt ∨ Yb (.slice aa k ca) vs k_)) := Za (fun q hq e => by
            obtain ⟨h1, h2, h3⟩ := MT.out.ap q hq
            rcases e with e | e | e | e
            · exact h1 e
            · exact e
            · exact h3 e
            · exact h2 e)
          go_simp
          refine (rStart_any (MT.out.pq (gt := gt) rfl GT.out SZ.out VL.out) (by omega) fn).mono ?_
          rintro e V4 ⟨gn, Gm, rfl, rr, ch⟩
          have RN9 := Za (RN.out.ch ch hd.out)
          have BO := Za ((ch.blk bx (Ze MT.out.bo) (fun e => by
            have h9 := LB.out
            rcases e with e | e | e | e
            · exact h9.2 e
            · exact e
            · have := (MT.out.tl gt rfl).1
              omega
            · have := (MT.out.yl bx e).1
              omega)).trans MT.out.bo)
          have LX : Hid ((∀ q, G q ∨ Gm q -> w.heap.size <= q) /\ Below w.heap.size w V4) := Za (by
            have hf : ∀ q, (F2 q ∨ False ∨ q = gt ∨ Yb (.slice aa k ca) vs q) -> w.heap.size <= q := fun q e => by
              have h3 := MT.out.s3
              rcases e with e | e | e | e
              · exact (MT.out.f2 q e).1
              · exact e.elim
              · have := (MT.out.tl q e).1
                omega
              · have := (MT.out.yl q e).1
                omega
            refine ⟨fun q hq => ?_, MT.out.bel.trans (ch.bel hf MT.out.bel.size)⟩
            rcases hq with e | e
            · exact MT.out.xl q e
            · rcases ch.grow q e with h1 | h1
              · exact hf q h1
              · have := MT.out.bel.size
                omega)
          have RR := Za rr
          refine hK1.out _ _ (fun _ => BO.out) (fun _ => ?_)
          clear hK1 K1 MT GT RN rr ch hd BO
          refine M_ 14 ?_
          simp only [Act.put, S_]
          refine M_ 15 ?_
          simp only [Act.put, S_]
          refine M_ 16 ?_
          simp only [Act.put, S_]
          refine ZW (by kernel_rfl) ?_ _
          go_wp2_with fail
          refine bodyPost_ret (v := .tuple #[P_ g, P_ gn, .bool true]) (by simp [results, Tryz.results7, go_sem]) rfl ?_
          exact .inr ⟨rfl, g, gn, G, Gm, rfl, RN9.out.1, RR.out, RN9.out.2, LX.out.1, LX.out.2⟩
      · have HB := Za (Zd wd (.cells #[.slice aa k ca, .slice none 0 0, .slice none 0 0] 79))
        have MT9 := Za (MT.out.box W3.out (.cells #[.slice aa k ca, .slice none 0 0, .slice none 0 0] 79))
        have GT := Za (B_ wd (.cells #[.slice aa k ca, .slice none 0 0, .slice none 0 0] 79))
        go_simp
        refine hK1.out _ _ (fun _ => MT9.out.bo) (fun _ => ?_)
        clear hK1 K1 MT
        have MT := MT9
        clear MT9
        replace ST4 := Za (ST4.out.bel HB.out)
        replace SS4 := Za (SS4.out.bel HB.out)
        replace W3 := Za (Nat.le_trans W3.out HB.out.size)
        obtain ⟨gt, hgt⟩ : ∃ b, wd.heap.size = b := ⟨_, rfl⟩
        rw [hgt] at MT GT ⊢
        clear HB hgt
        generalize wd.alloc _ = V1 at *
        refine RT_ 3 (fun K1 hK1 => ?_)
        go_simp
        refine (scripted_any SS4.out).mono ?_
        rintro e V2 ⟨vB, R, rfl, bg, hR, hb⟩
        obtain ⟨cB, vSB, vsB, rfl, _⟩ := id bg
        have HB := Za hb
        have MT9 := Za (MT.out.more hb hR)
        refine hK1.out _ _ (fun _ => MT9.out.bo) (fun _ => ?_)
        clear hK1 K1 MT
        have MT := MT9
        clear MT9
        have PR := Za (Pre.mk (ST4.out.bel hb) TY.out bg (fun q hq e => by have h1 := ST4.out.fb q e; have h2 := (hR q hq).1; omega) (fun q hq => (hR q hq).2))
        replace W3 := Za (Nat.le_trans W3.out hb.size)
        replace GT := Za ((hb.block gt (Ze GT.out)).trans GT.out)
        clear ST4 SS4 bg hR hb HB
        refine RT_ 6 (fun K1 hK1 => ?_)
        go_simp
        refine (start_any PR.out (H17.out.below (Nat.le_refl _) MT.out.bel) (Off.mk MT.out.xl H17.out (Nat.le_refl _)) fn).mono ?_
        rintro e V3 ⟨g, G, rfl, rn, ch⟩
        have MT9 := Za (MT.out.ch ch rn.fb)
        refine hK1.out _ _ (fun _ => MT9.out.bo) (fun _ => ?_)
        clear hK1 K1
        replace W3 := Za (Nat.le_trans W3.out ch.size)
        replace GT := Za ((ch.blk gt (Ze GT.out) (fun e => (MT.out.ap gt e).2.2 rfl)).trans GT.out)
        clear MT
        have MT := MT9
        clear MT9
        have RN := Za rn
        clear rn ch PR
        refine RT_ 13 (fun K1 hK1 => ?_)
        have hd : Hid (∀ k_, G k_ -> ¬ (F2 k_ ∨ False ∨ k_ = gt ∨ Yb (.slice aa k ca) vs k_)) := Za (fun q hq e => by
          obtain ⟨h1, h2, h3⟩ := MT.out.ap q hq
          rcases e with e | e | e | e
          · exact h1 e
          · exact e
          · exact h3 e
          · exact h2 e)
        go_simp
        refine (rStart_any (MT.out.pq (gt := gt) rfl GT.out SZ.out VL.out) (by omega) fn).mono ?_
        rintro e V4 ⟨gn, Gm, rfl, rr, ch⟩
        have RN9 := Za (RN.out.ch ch hd.out)
        have BO := Za ((ch.blk bx (Ze MT.out.bo) (fun e => by
          have h9 := LB.out
          rcases e with e | e | e | e
          · exact h9.2 e
          · exact e
          · have := (MT.out.tl gt rfl).1
            omega
          · have := (MT.out.yl bx e).1
            omega)).trans MT.out.bo)
        have LX : Hid ((∀ q, G q ∨ Gm q -> w.heap.size <= q) /\ Below w.heap.size w V4) := Za (by
          have hf : ∀ q, (F2 q ∨ False ∨ q = gt ∨ Yb (.slice aa k ca) vs q) -> w.heap.size <= q := fun q e => by
            have h3 := MT.out.s3
            rcases e with e | e | e | e
            · exact (MT.out.f2 q e).1
            · exact e.elim
            · have := (MT.out.tl q e).1
              omega
            · have := (MT.out.yl q e).1
              omega
          refine ⟨fun q hq => ?_, MT.out.bel.trans (ch.bel hf MT.out.bel.size)⟩
          rcases hq with e | e
          · exact MT.out.xl q e
          · rcases ch.grow q e with h1 | h1
            · exact hf q h1
            · have := MT.out.bel.size
              omega)
        have RR := Za rr
        refine hK1.out _ _ (fun _ => BO.out) (fun _ => ?_)
        clear hK1 K1 MT GT RN rr ch hd BO
        refine M_ 14 ?_
        simp only [Act.put, S_]
        refine M_ 15 ?_
        simp only [Act.put, S_]
        refine M_ 16 ?_
        simp only [Act.put, S_]
        refine ZW (by kernel_rfl) ?_ _
        go_wp2_with fail
        refine bodyPost_ret (v := .tuple #[P_ g, P_ gn, .bool true]) (by simp [results, Tryz.results7, go_sem]) rfl ?_
        exact .inr ⟨rfl, g, gn, G, Gm, rfl, RN9.out.1, RR.out, RN9.out.2, LX.out.1, LX.out.2⟩
def BigP (w : World) (vS : Value) (S : List (List Wt)) (e : Ending) (w' : World) : Prop := ∃ b, e = .returned (.bool b) /\ Below w.heap.size w w' /\ (b = false -> SSrc w vS S)
def BigO (w : World) (a : Option Addr) (S : List (List Wt)) (k N : Nat) : Prop := k <= N /\ ∀ (i : Nat) (l : List Wt) (b o : Nat) (vi : Value), i < k -> S[i]? = some l -> a = some ⟨b, o, none⟩ -> w.cell? ⟨b, o + i, none⟩ = some vi -> N <= 2000 -> WSrc w vi l
def BigI (w : World) (a : Option Addr) (l : List Wt) (j N : Nat) : Prop := ∀ (q : Nat) (x : Wt) (b o : Nat) (va : Value), q < j -> l[q]? = some x -> a = some ⟨b, o, none⟩ -> w.cell? ⟨b, o + q * 7 + 6, none⟩ = some va -> N <= 2000 -> ArgC w va
theorem BigO.next {w : World} {a : Option Addr} {S : List (List Wt)} {k N M : Nat} {l : List Wt} {ai : Option Addr} {ci b o : Nat} (h : BigO w a S k N) (hm : N + 1 + l.length <= M) (hl : S[k]? = some l) (ha : a = some ⟨b, o, none⟩) (hc : w.cell? ⟨b, o + k, none⟩ = some (.slice ai l.length ci)) (hw : WSrcU w (.slice ai l.length ci) l) (hi : BigI w ai l l.length M) : BigO w a S (k + 1) M := by
 refine ⟨by have := h.1; omega, fun i l' b' o' vi h1 h2 h3 h4 h5 => ?_⟩
 by_cases e : i = k
 · subst e
   rw [hl] at h2
   cases h2
   rw [ha] at h3
   cases h3
   rw [hc] at h4
   cases h4
   obtain ⟨a2, c2, e2, q1, q2⟩ := hw
   cases e2
   refine ⟨ai, ci, rfl, by omega, fun j x hx => ?_⟩
   obtain ⟨b2, o2, va, r1, r2, r3, r4⟩ := q2 j x hx
   refine ⟨b2, o2, va, r1, r2, r3, ?_⟩
   exact hi j x b2 o2 va (G_ hx) hx r1 (r3 6 va rfl) h5
 · exact h.2 i l' b' o' vi (by omega) h2 h3 h4 (by have := h.1; omega)
theorem BigI.next {w : World} {a : Option Addr} {l : List Wt} {j N M n : Nat} {x : Wt} {b o c : Nat} {ax : Option Addr} (h : BigI w a l j N) (hm : N + n <= M) (hx : l[j]? = some x) (ha : a = some ⟨b, o, none⟩) (hc : w.cell? ⟨b, o + j * 7 + 6, none⟩ = some (.slice ax n c)) (hA : ArgU w (.slice ax n c)) : BigI w a l (j + 1) M := fun q x' b' o' va h1 h2 h3 h4 h5 => by
 by_cases e : q = j
 · subst e
   rw [ha] at h3
   cases h3
   rw [hc] at h4
   cases h4
   obtain ⟨a2, n2, c2, e2, q1, q2⟩ := hA
   cases e2
   exact q2 (by omega)
 · exact h q x' b' o' va (by omega) h2 h3 h4 (by omega)
theorem BigO.src {w : World} {a : Option Addr} {S : List (List Wt)} {N c : Nat} (h : BigO w a S S.length N) (hN : N <= 2000) (hS : SSrcU w (.slice a S.length c) S) : SSrc w (.slice a S.length c) S := by
 obtain ⟨a2, c2, e2, q1, q2⟩ := hS
 cases e2
 refine ⟨a, c, rfl, by have := h.1; omega, fun i l hl => ?_⟩
 obtain ⟨b, o, vi, r1, r2, r3, r4⟩ := q2 i l hl
 exact ⟨b, o, vi, r1, r2, r3, h.2 i l b o vi (G_ hl) hl r1 r3 hN⟩
theorem big_any {w : World} {vP vC vS : Value} {ps : List Int} {qs : List (Int × Int)} {S : List (List Wt)} (m a fn : Int) (hP : Sl w vP ps) (hp2 : ps.length <= 140737488351232) (hC : SlC w vC qs) (hq2 : qs.length <= 140737488351232) (hS : SSrcU w vS S) : Calls Tryz.prog 6 #[.agg #[vP, I_ m, I_ a, vC, vS, I_ fn]] w (BigP w vS S) := by
  obtain ⟨aP, lP, cP, rfl, hlP⟩ := hP.slice
  obtain ⟨aC, cC, rfl, _⟩ := hC
  have HS := Za hS
  obtain ⟨aS, cS, rfl, hS1, hS2⟩ := hS
  obtain ⟨nS, hnS⟩ : ∃ n, n = S.length := ⟨_, rfl⟩
  obtain ⟨lC, hlC⟩ : ∃ n, n = qs.length := ⟨_, rfl⟩
  rw [← hnS] at hS1 ⊢
  rw [← hnS] at HS
  rw [← hlC] at hq2 ⊢
  have HN := Za hnS
  obtain ⟨N0, hN0⟩ : ∃ N0, lP + lC = N0 := ⟨_, rfl⟩
  have hc0 : N0 <= 281474976702464 := by omega
  have hbP : (lP : Int) <= 140737488351232 := by omega
  have hbC : (lC : Int) <= 140737488351232 := by omega
  have HN0 := Za hN0
  clear hnS hlC hlP hS2 hP hp2 hN0 hq2
  have HB := Za (Zd w (.cells #[.slice aP lP cP, I_ m, I_ a, .slice aC lC cC, .slice aS nS cS, I_ fn] 26))
  go_enter Tryz.func6, Tryz.ntmps6
  go_wp2_with fail
  generalize w.alloc _ = w1 at *
  go_loopw [3, 5, 7, 18] (fun x3 x5 x7 q wr => ∃ k N : Nat, k <= nS /\ q = I_ k /\ x3 = I_ N /\ Hid (N <= N0 + 2000 + k /\ BigO w aS S k N /\ Below w.heap.size w wr)) (fun _ _ _ q _ => nS - (intOf q).toNat)
  case atStart => exact ⟨0, N0, Nat.zero_le _, rfl, by rw [← HN0.out]; go_num, Za ⟨by omega, ⟨Nat.zero_le _, fun i l b o vi hi => absurd hi (Nat.not_lt_zero _)⟩, HB.out⟩⟩
  case round =>
    obtain ⟨k, N, hk, rfl, rfl, HI⟩ := hrel
    have hNb := HI.out.1
    by_cases hlt : k < nS
    · have hlt' : (k : Int) < (nS : Int) := by omega
      obtain ⟨l, hl⟩ : ∃ l, S[k]? = some l := ⟨_, List.getElem?_eq_getElem (by rw [← HN.out]; exact hlt)⟩
      have HW : Hid (∃ b o ai ci, aS = some ⟨b, o, none⟩ /\ b < w.heap.size /\ w.cell? ⟨b, o + k, none⟩ = some (.slice ai l.length ci) /\ WSrcU w (.slice ai l.length ci) l) := Za (by
        obtain ⟨a', c', e', _, h3⟩ := HS.out
        cases e'
        obtain ⟨b, o, vi, e1, e2, e3, e4⟩ := h3 k l hl
        obtain ⟨ai, ci, e5, _⟩ := id e4
        subst e5
        exact ⟨b, o, ai, ci, e1, e2, e3, e4⟩)
      obtain ⟨b, o, ai, ci, rfl, hbl, hc1, hws⟩ := HW.out
      have HC1 := Za hc1
      have HL := Za hl
      have HWS := Za hws
      have hml : l.length <= 140737488351232 := by
        obtain ⟨_, _, _, q, _⟩ := hws
        exact q
      obtain ⟨ml, hm⟩ : ∃ m, m = l.length := ⟨_, rfl⟩
      rw [← hm] at hc1 hml
      have HM := Za hm
      have u := (HI.out.2.2.cell (p := ⟨b, o + k, none⟩) hbl).trans hc1
      obtain ⟨N1, hN1⟩ : ∃ M, M = N + 1 + ml := ⟨_, rfl⟩
      have HN1 := Za hN1
      have I0 : Hid ((0 < 0 -> N1 <= 2000) /\ N1 <= N1 /\ BigI w ai l 0 N1 /\ Below w.heap.size w wr) := Za ⟨fun h => absurd h (Nat.lt_irrefl _), Nat.le_refl _, fun q x b o va hq => absurd hq (Nat.not_lt_zero _), HI.out.2.2⟩
      have hN1b : N1 <= 600000000000000 := by omega
      clear HW hws hl hm hc1 hN1 hbl
      go_wp2_with fail
      obtain ⟨wo, hwo⟩ : ∃ z, z = wr := ⟨_, rfl⟩
      clear u
      go_loopw [3, 7, 29] (fun x3 x7 q wr => ∃ j M : Nat, j <= ml /\ q = I_ j /\ x3 = I_ M /\ M <= 600000000000000 /\ Hid ((0 < j -> M <= 2000) /\ N1 <= M /\ (j = 0 -> M = N1) /\ BigI w ai l j M /\ Below w.heap.size w wr)) (fun _ _ q _ => ml - (intOf q).toNat)
      case atStart => exact ⟨0, N1, Nat.zero_le _, rfl, by rw [HN1.out]; go_num, hN1b, Za ⟨I0.out.1, I0.out.2.1, fun _ => rfl, I0.out.2.2⟩⟩
      case round =>
        obtain ⟨j, M, hj, rfl, rfl, hMb, HJ⟩ := hrel
        by_cases hjt : j < ml
        · have hjt' : (j : Int) < (ml : Int) := by omega
          obtain ⟨x, hxj⟩ : ∃ x, l[j]? = some x := ⟨_, List.getElem?_eq_getElem (by rw [← HM.out]; exact hjt)⟩
          have HX : Hid (∃ b2 o2 ax nx cx, ai = some ⟨b2, o2, none⟩ /\ b2 < w.heap.size /\ (∀ (q : Nat) (u : Value), (wcs x (.slice ax nx cx))[q]? = some u -> w.cell? ⟨b2, o2 + j * 7 + q, none⟩ = some u) /\ ArgU w (.slice ax nx cx) /\ nx <= 140737488351232) := Za (by
            obtain ⟨a', c', e', _, h3⟩ := HWS.out
            cases e'
            obtain ⟨b2, o2, va, e1, e2, e3, e4⟩ := h3 j x hxj
            obtain ⟨ax, nx, cx, e5, e6, _⟩ := id e4
            subst e5
            exact ⟨b2, o2, ax, nx, cx, e1, e2, e3, e4, e6⟩)
          obtain ⟨b2, o2, ax, nx, cx, rfl, hb2, hcl, hA, hnx⟩ := HX.out
          have HXJ := Za hxj
          have HCL := Za (hcl 6 _ rfl)
          have HA := Za hA
          have hbe := HJ.out.2.2.2.2
          obtain ⟨xk, xo, xa, x0, x1, x2⟩ := x
          have e0 : wr.cell? ⟨b2, o2 + j * 7, none⟩ = some (I_ xk) := (hbe.cell (p := ⟨b2, o2 + j * 7, none⟩) hb2).trans (hcl 0 _ rfl)
          have e1 : wr.cell? ⟨b2, o2 + j * 7 + 1, none⟩ = some (I_ xo) := (hbe.cell (p := ⟨b2, o2 + j * 7 + 1, none⟩) hb2).trans (hcl 1 _ rfl)
          have e2 : wr.cell? ⟨b2, o2 + j * 7 + 2, none⟩ = some (I_ xa) := (hbe.cell (p := ⟨b2, o2 + j * 7 + 2, none⟩) hb2).trans (hcl 2 _ rfl)
          have e3 : wr.cell? ⟨b2, o2 + j * 7 + 3, none⟩ = some (I_ x0) := (hbe.cell (p := ⟨b2, o2 + j * 7 + 3, none⟩) hb2).trans (hcl 3 _ rfl)
          have e4 : wr.cell? ⟨b2, o2 + j * 7 + 4, none⟩ = some (I_ x1) := (hbe.cell (p := ⟨b2, o2 + j * 7 + 4, none⟩) hb2).trans (hcl 4 _ rfl)
          have e5 : wr.cell? ⟨b2, o2 + j * 7 + 5, none⟩ = some (.int .u64 x2) := (hbe.cell (p := ⟨b2, o2 + j * 7 + 5, none⟩) hb2).trans (hcl 5 _ rfl)
          have e6 : wr.cell? ⟨b2, o2 + j * 7 + 6, none⟩ = some (.slice ax nx cx) := (hbe.cell (p := ⟨b2, o2 + j * 7 + 6, none⟩) hb2).trans (hcl 6 _ rfl)
          obtain ⟨M1, hM1⟩ : ∃ K, K = M + nx := ⟨_, rfl⟩
          have hMM : (M : Int) + (nx : Int) = (M1 : Int) := by omega
          have HM1 := Za hM1
          have HB2 := Za (Zg hbe (Zd wr (.cells #[I_ xk, I_ xo, I_ xa, I_ x0, I_ x1, .int .u64 x2, .slice ax nx cx] 67)))
          clear HX hcl hA hxj hbe hM1 hb2
          by_cases hbig : 2000 < M1
          · have hbig' : (2000 : Int) < (M : Int) + (nx : Int) := by omega
            clear hMM
            go_wp2_with fail
            go_ret
            exact ⟨true, rfl, HB2.out, fun h => by cases h⟩
          · have hbig' : ¬ (2000 : Int) < (M : Int) + (nx : Int) := by omega
            clear hMM
            have hM2 : M1 <= 2000 := by omega
            go_wp2_with fail
            go_roundw
            case rel => exact ⟨j + 1, M1, by omega, by go_num, by rw [HM1.out]; go_num, by omega, Za ⟨fun _ => hM2, by have := HJ.out.2.1; have := HM1.out; omega, fun h => by omega, HJ.out.2.2.2.1.next (by have := HM1.out; omega) HXJ.out rfl HCL.out HA.out, HB2.out⟩⟩
            case measure => simp [intOf]; omega
        · have ej : j = ml := by omega
          subst ej
          have HO : Hid (M <= N0 + 2000 + (k + 1) /\ BigO w (some ⟨b, o, none⟩) S (k + 1) M /\ Below w.heap.size w wr) := Za (by
            obtain ⟨h1, h2, h3, h4, h5⟩ := HJ.out
            have hm := HM.out
            have hn1 := HN1.out
            refine ⟨?_, BigO.next (l := l) HI.out.2.1 (by omega) HL.out rfl HC1.out HWS.out (by rw [← hm]; exact h4), h5⟩
            by_cases hj0 : j = 0
            · have := h3 hj0
              omega
            · have := h1 (by omega)
              omega)
          clear HJ
          go_wp2_with fail
          go_roundw
          case rel => exact ⟨k + 1, M, by omega, by go_num, rfl, HO⟩
          case measure => simp [intOf]; omega
    · have ek : k = nS := by omega
      subst ek
      have HR : Hid (N <= 2000 -> SSrc w (.slice aS k cS) S) := Za (fun h => by
        have h1 := HN.out
        have h2 := HS.out
        have h3 := HI.out.2.1
        rw [h1] at h2 h3 ⊢
        exact h3.src h h2)
      have HB2 := Za HI.out.2.2
      clear HI HS
      by_cases hbig : 2000 < N
      · have hbig' : (2000 : Int) < (N : Int) := by omega
        go_wp2_with fail
        go_ret
        exact ⟨true, by simp, HB2.out, fun h => by cases h⟩
      · have hbig' : ¬ (2000 : Int) < (N : Int) := by omega
        go_wp2_with fail
        go_ret
        exact ⟨false, by simp, HB2.out, fun _ => HR.out (by omega)⟩
theorem made_any {w : World} {aP aC aS : Option Addr} {lP cP lC cC nS cS : Nat} {ps : List Int} {qs : List (Int × Int)} {S : List (List Wt)} {p : List Addr} (h17 : E3 w p) (m a fn : Int) (hP : Sl w (.slice aP lP cP) ps) (hC : SlC w (.slice aC lC cC) qs) (hS : SSrc w (.slice aS nS cS) S) : Calls Tryz.prog 7 #[.agg #[.slice aP lP cP, I_ m, I_ a, .slice aC lC cC, .slice aS nS cS, I_ fn]] w (MadeP w (okN ps m qs a) S (newS ps m qs a) fn) := by
 cases h : okN ps m qs a with
 | true => exact made_ok h17 m a fn hP hC hS h
 | false => exact made_bad h17 m a fn hP hC h
theorem Ch.lo {F F' : Nat -> Prop} {w w' : World} {N : Nat} (c : Ch F F' w w') (h : ∀ k, F k -> N <= k) (hN : N <= w.heap.size) : ∀ k, F' k -> N <= k := fun k hk => by
 rcases c.grow k hk with h1 | h1
 · exact h k h1
 · omega
theorem out_settle (r : Rm) : outR (Yr r) = outR r := rfl
theorem end_settle (r : Rm) : endR (Yr r) = (Yr r).e := by
 by_cases h : r.e.o = 0
 · have e1 : endR r = ⟨outR r, 0, 0, 0, 0⟩ := by unfold endR; rw [if_pos h]
   by_cases h2 : outR r = 0
   · have e2 : endR (Yr r) = ⟨outR (Yr r), 0, 0, 0, 0⟩ := by
      unfold endR
      rw [if_pos]
      show (endR r).o = 0
      rw [e1]
      exact h2
     rw [e2, out_settle]
     exact e1.symm
   · unfold endR
     rw [if_neg]
     show ¬ (endR r).o = 0
     rw [e1]
     exact h2
 · have e1 : endR r = r.e := by unfold endR; rw [if_neg h]
   unfold endR
   rw [if_neg]
   show ¬ (endR r).o = 0
   rw [e1]
   exact h
theorem ez_settle (r : Rm) : Ez (Yr r) := fun h => by
 have h1 : (endR r).o = 0 := h
 show endR r = zE
 unfold endR at h1 ⊢
 by_cases h0 : r.e.o = 0
 · rw [if_pos h0] at h1 ⊢
   have h2 : outR r = 0 := h1
   rw [h2]
   rfl
 · rw [if_neg h0] at h1
   exact absurd h1 h0
section
variable {w1 wr w' : World} {G G' G2 : Nat → Prop} {bE bA B B2 g a a2 : Nat} {S : List (List Wt)} {r r2 : Rm}
end
theorem rr_ev {W : World} {G : Nat -> Prop} {B g : Nat} {S : List (List Wt)} {r : Rz} (h : Rr W G B g S r) : ∃ aE cE, W.cell? ⟨g, 2, none⟩ = some (.slice aE r.ev.length cE) /\ W.cell? ⟨g, 3, none⟩ = some (I_ r.e.o) := by
 obtain ⟨Fs, Rs, Fo, R, gs, gt, vW, vE, vL, vO, vA, vs, os, as_, q, hG⟩ := h
 obtain ⟨aE, cE, eE, _⟩ := Zl q.ev
 subst eE
 exact ⟨aE, cE, q.cells.1.2.2.1, q.cells.2.1.1⟩
end Go.Proofs.YtfojninaginnoaaGreatDoor.Ck
