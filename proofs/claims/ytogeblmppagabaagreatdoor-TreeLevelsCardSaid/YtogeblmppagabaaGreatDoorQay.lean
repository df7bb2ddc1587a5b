/- Texts of this proof, packed: contracts of the program's functions, and the plain model that they are held against. -/
import Derived.Test.YtogeblmppagabaaGreatDoorQao
import Derived.Test.YtogeblmppagabaaGreatDoorQax
import Derived.Test.YtogeblmppagabaaGreatDoorQan
import Derived.Test.YtogeblmppagabaaGreatDoorQaq
import Derived.Test.YtogeblmppagabaaGreatDoorQas
import Derived.Test.YtogeblmppagabaaGreatDoorQau
import Derived.Test.YtogeblmppagabaaGreatDoorQaw
/- Comparisons. -/
namespace Go.Proofs.YtogeblmppagabaaGreatDoor.Ck
open Go.RowKit

def cmpT : List ByteArray := [⟨#[61, 61]⟩, ⟨#[33, 61]⟩, ⟨#[60]⟩, ⟨#[60, 61]⟩, ⟨#[62]⟩, ⟨#[62, 61]⟩]
def cmpO (rule : Nat → Out) (L : List Tk) (i : Nat) : Out :=
  match rule i with | .ok n j => if has L j cmpT then binO n (tx L j) (rule (j + 1)) else .ok n j | .bad k j => .bad k j

set_option maxRecDepth 20000 in
set_option maxHeartbeats 1000000 in
theorem cmp_any {w : World} {p : List Addr} {g gT : Nat} {L : List Tk} {i l : Nat} (h : Ps w p g gT L i l) (hE : Ends L) (rule : Nat → Out) (hge : ∀ j m j', rule j = .ok m j' → j ≤ j') (hr : ∀ j, i ≤ j → Rule 117 p g gT L l j (rule j)) :
    Calls Tryz.prog 83 #[.pointer (some ⟨g, 0, none⟩)] w fun e w' => PostN p g gT L l w e w' (cmpO rule L i) := by
  have hgl := h.lt_g
  have hT := h.row.lt
  have hb0 := hide (bel_new w nodZ)
  have hz0 : Hid (Nod (w.alloc nodZ) w.heap.size (.int .i64 0) (.int .i64 0) (.string ⟨#[]⟩) (.int .i64 0) (.int .i64 0) (.int .i64 0) (.int .i64 0) (.int .u64 0) (.slice none 0 0)) := Go.Deep.blk_alloc_new _ _
  have H0 := hide (h.below hb0.out)
  have HR := hide hr
  have HE := hide hE
  have HG := hide hge
  generalize hw : cmpO rule L i = out
  unfold cmpO at hw
  generalize hq : rule i = q at hw
  have HQ := hide hq
  have HW := hide hw
  have hR0 := HR.out i (Nat.le_refl _)
  rw [hq] at hR0
  have HR0 := hide hR0
  clear h hr hE hge hw hq hR0
  unfold nodZ at *
  go_enter Tryz.func83, Tryz.ntmps83
  go_wp2_with fail
  generalize w.alloc (.cells #[.int .i64 0, .int .i64 0, .string ⟨#[]⟩, .int .i64 0, .int .i64 0, .int .i64 0, .int .i64 0, .int .u64 0, .slice none 0 0] 27) = w0 at *
  cases q with
  | bad k j =>
    have hw := HW.out
    subst hw
    refine (HR0.out _ H0.out).mono ?_
    rintro e w1 ⟨rfl, r2⟩
    exact ⟨rfl, rfl, (Tn.of_bel hb0.out).trans r2⟩
  | ok n j =>
    refine (HR0.out _ H0.out).mono ?_
    rintro e w1 ⟨v, rfl, hv, r1, r2⟩
    have hij := HG.out i _ j HQ.out
    obtain ⟨kd, ps, nm, t, nz, z, o, bi, ks⟩ := n
    unfold NodeV at hv
    obtain ⟨s, rfl, hk⟩ := hv
    obtain ⟨a, len, ck, rfl⟩ := hk.shape
    have hw0 : w.heap.size < w0.heap.size := lt_of_blk hz0.out
    have hw1 : w0.heap.size ≤ w1.heap.size := r2.size
    have hb2 := bel_new w1 (.cells #[.int .i64 kd, .int .i64 ps, .string nm, .int .i64 t, .int .i64 nz, .int .i64 z, .int .i64 o, .int .u64 bi, .slice a len ck] 27)
    have X2 : Hid (Nod (w1.alloc (.cells #[.int .i64 kd, .int .i64 ps, .string nm, .int .i64 t, .int .i64 nz, .int .i64 z, .int .i64 o, .int .u64 bi, .slice a len ck] 27)) w1.heap.size (.int .i64 kd) (.int .i64 ps) (.string nm) (.int .i64 t) (.int .i64 nz) (.int .i64 z) (.int .i64 o) (.int .u64 bi) (.slice a len ck)) := Go.Deep.blk_alloc_new _ _
    have H2 := hide (r1.below hb2)
    have T2 := hide (((Tn.of_bel hb0.out).trans r2).trans (Tn.of_bel hb2))
    have Z2 := hide ((hz0.out.tn r2 (by omega)).bel hb2)
    have K2 := hide (hk.bel hb2)
    have e2 : (w1.alloc (.cells #[.int .i64 kd, .int .i64 ps, .string nm, .int .i64 t, .int .i64 nz, .int .i64 z, .int .i64 o, .int .u64 bi, .slice a len ck] 27)).heap.size = w1.heap.size + 1 := by simp
    clear hk r1 r2 hb2 hb0 hz0 H0 HR0
    go_wp2_with fail
    generalize w1.alloc (.cells #[.int .i64 kd, .int .i64 ps, .string nm, .int .i64 t, .int .i64 nz, .int .i64 z, .int .i64 o, .int .u64 bi, .slice a len ck] 27) = w2 at *
    rw [← e2]
    refine (sees_new H2.out cmpT 6 _ rfl rfl (by omega)).mono ?_
    rintro e w3 ⟨rfl, hb3⟩
    have H3 := hide (H2.out.below hb3)
    have T3 := hide (T2.out.trans (Tn.of_bel hb3))
    have Z3 := hide (Z2.out.bel hb3)
    have X3 := hide (X2.out.bel hb3)
    have K3 := hide (K2.out.bel hb3)
    have hs3 := hb3.size
    obtain ⟨_, d0, d1, d2, d3, d4, d5, d6, d7, d8⟩ := X3.out.all
    generalize w1.heap.size = b1 at *
    clear hb3 H2 T2 Z2 X2 K2
    by_cases hs : has L j cmpT = true
    · have hw := HW.out
      rw [if_pos hs] at hw
      rw [hs]
      have hj1 := has_next HE.out H3.out.lt (by decide) hs
      obtain ⟨q, hq⟩ : ∃ q, rule (j + 1) = q := ⟨_, rfl⟩
      rw [hq] at hw
      have HB := hide (binary_treeparsersum H3.out (Fr w0.heap.size) (fun k hk => Nat.le_trans (by omega) hk) (fun h => by have : w0.heap.size ≤ g := h; omega) (.mk kd ps nm t nz z o bi ks) _ (by unfold NodeV; exact ⟨_, rfl, K3.out⟩) hj1 q (by rw [← hq]; exact HR.out (j + 1) (by omega)))
      clear hs hq K3 HW
      have HW := hide hw
      clear hw
      go_wp2_with fail
      cases q with
      | bad k j' =>
        have hw := HW.out
        subst hw
        refine HB.out.mono ?_
        rintro e w4 ⟨rfl, r2⟩
        exact ⟨rfl, rfl, T3.out.trans r2⟩
      | ok m j' =>
        have hw := HW.out
        subst hw
        refine HB.out.mono ?_
        rintro e w4 ⟨v, rfl, hv, r1, r2⟩
        unfold binN nd NodeV at hv
        obtain ⟨s, rfl, hk⟩ := hv
        obtain ⟨a', len', ck', rfl⟩ := hk.shape
        unfold Nd.pos
        have hwz := hide hw0
        have H4 := hide r1
        have T4 := hide (T3.out.trans r2)
        have Z4 := hide (Z3.out.tn r2 (by omega))
        have K4 := hide hk
        obtain ⟨⟨f0, f1, f2, f3, f4, f5, f6, f7, f8⟩, b0, b1', b2, b3, b4, b5, b6, b7, b8⟩ := Z4.out.all
        obtain ⟨z9, s9⟩ := set9 Z4.out (.int .i64 31) (.int .i64 ps) (.string (tx L j)) (.int .i64 0) (.int .i64 0) (.int .i64 0) (.int .i64 0) (.int .u64 0) (.slice a' len' ck')
        have Z9 := hide z9
        have S9 := hide s9
        clear z9 s9 Z4 r1 r2 hk HB H3 T3 Z3 X3 d0 d1 d2 d3 d4 d5 d6 d7 d8
        go_wp2_with fail
        refine ret_nod w.heap.size rfl rfl Z9.out rfl ?_
        refine ⟨_, rfl, ?_, H4.out.tn S9.out (by have := H4.out.big; omega) (by omega) (by omega), T4.out.own S9.out (Nat.le_refl _)⟩
        unfold binN nd NodeV
        exact ⟨_, rfl, (K4.out.tn S9.out hwz.out).low (Nat.le_of_lt hwz.out)⟩
    · have hs : has L j cmpT = false := by simpa using hs
      have hw := HW.out
      rw [hs, if_neg (by decide)] at hw
      subst hw
      rw [hs]
      have hwz := hide hw0
      obtain ⟨⟨f0, f1, f2, f3, f4, f5, f6, f7, f8⟩, b0, b1', b2, b3, b4, b5, b6, b7, b8⟩ := Z3.out.all
      obtain ⟨z9, s9⟩ := set9 Z3.out (.int .i64 kd) (.int .i64 ps) (.string nm) (.int .i64 t) (.int .i64 nz) (.int .i64 z) (.int .i64 o) (.int .u64 bi) (.slice a len ck)
      have Z9 := hide z9
      have S9 := hide s9
      clear z9 s9 Z3 hs HW
      go_wp2_with fail
      refine ret_nod w.heap.size rfl rfl Z9.out rfl ?_
      refine ⟨_, rfl, ?_, H3.out.tn S9.out (by have := H3.out.big; omega) (by omega) (by omega), T3.out.own S9.out (Nat.le_refl _)⟩
      unfold NodeV
      exact ⟨_, rfl, (K3.out.tn S9.out hwz.out).low (Nat.le_of_lt hwz.out)⟩

end Go.Proofs.YtogeblmppagabaaGreatDoor.Ck

/- The parser of expressions, as a plain function; the rules' contracts joined. -/
namespace Go.Proofs.YtogeblmppagabaaGreatDoor.Ck
open Go.RowKit

def bTrue : ByteArray := ⟨#[116, 114, 117, 101]⟩
def bFalse : ByteArray := ⟨#[102, 97, 108, 115, 101]⟩
def primO (L : List Tk) (l i : Nat) (r1 r2 : Out) : Out :=
  if (tkAt L i).kind = 3 then .ok (.mk 25 (tkAt L i).pos ⟨#[]⟩ 0 (tkAt L i).n 0 0 (tkAt L i).bits []) (i + 1)
  else if (tkAt L i).kind = 4 then .ok (.mk 26 (tkAt L i).pos ⟨#[]⟩ 0 (tkAt L i).n 0 0 (tkAt L i).bits []) (i + 1)
  else if (tkAt L i).kind = 1 then targetO L l i r2
  else if has L i [⟨#[116, 114, 117, 101]⟩] then .ok (.mk 27 (tkAt L i).pos ⟨#[]⟩ 0 1 0 0 0 []) (i + 1)
  else if has L i [⟨#[102, 97, 108, 115, 101]⟩] then .ok (.mk 27 (tkAt L i).pos ⟨#[]⟩ 0 0 0 0 0 []) (i + 1)
  else if has L i [⟨#[105, 110, 116]⟩, ⟨#[102, 108, 111, 97, 116]⟩] then convO L l i r2
  else wrapO L l i bOpen bShut r1
/-- what stands at token i by the rule of a rank (expr, and, cmp, sum, prod, unary, prim), l levels deep -/
def pz (L : List Tk) : Nat → Nat → Nat → Nat → Out
  | 0, _, _, i => .bad 0 i
  | f + 1, 0, l, i => rowO (pz L f 1 l) orT L L.length i
  | f + 1, 1, l, i => rowO (pz L f 2 l) andT L L.length i
  | f + 1, 2, l, i => cmpO (pz L f 3 l) L i
  | f + 1, 3, l, i => rowO (pz L f 4 l) sumT L L.length i
  | f + 1, 4, l, i => rowO (pz L f 5 l) prodT L L.length i
  | f + 1, 5, l, i => if has L i unT then unO L l i (pz L f 5 (l + 1) (i + 1)) else pz L f 6 l i
  | f + 1, _, l, i => primO L l i (pz L f 0 (l + 1) (i + 1)) (pz L f 0 (l + 1) (i + 1 + 1))

theorem has_one {L : List Tk} {i : Nat} {z : ByteArray} (h : has L i [z] = true) : (tkAt L i).text = z := by
  have := (Lib.containsS_iff _ _).1 h
  simpa [tx] using this
theorem has_not {L : List Tk} {i : Nat} {zs : List ByteArray} (h : ¬ has L i zs = true) : ∀ z ∈ zs, ¬ (tkAt L i).text = z := fun z hz e =>
  h ((Lib.containsS_iff _ _).2 (by unfold tx; rw [e]; exact hz))

theorem prim_any {w : World} {p : List Addr} {g gT : Nat} {L : List Tk} {i l : Nat} (h : Ps w p g gT L i l) (hE : Ends L) (hl : l ≤ 16) (r1 r2 : Out)
    (h1 : l ≠ 16 → has L i [bOpen] = true → Rule 27 p g gT L (l + 1) (i + 1) r1) (h2 : l ≠ 16 → Rule 27 p g gT L (l + 1) (i + 1 + 1) r2) :
    Calls Tryz.prog 193 #[.pointer (some ⟨g, 0, none⟩)] w fun e w' => PostN p g gT L l w e w' (primO L l i r1 r2) := by
  have hnil : ∀ (w' : World) (S : Nat → Prop) (a b c d : Int) (bi : Int), NodeV w' S (.mk a b ⟨#[]⟩ 0 c 0 0 bi []) (.agg #[.int .i64 a, .int .i64 b, .string ⟨#[]⟩, .int .i64 0, .int .i64 c, .int .i64 0, .int .i64 0, .int .u64 bi, .slice none 0 0]) := fun w' S a b c d bi => by
    unfold NodeV
    exact ⟨_, rfl, by unfold KidsV; rfl⟩
  unfold primO
  by_cases k3 : (tkAt L i).kind = 3
  · rw [if_pos k3]
    have hi := hE i h.lt (.inr (by omega))
    refine prim_int h _ k3 (fun w1 h1 => (number_any h1 25 hi).mono ?_)
    rintro e w2 ⟨rfl, r1, r2⟩
    exact ⟨_, rfl, hnil _ _ _ _ _ 0 _, r1, r2⟩
  rw [if_neg k3]
  by_cases k4 : (tkAt L i).kind = 4
  · rw [if_pos k4]
    have hi := hE i h.lt (.inr (by omega))
    refine prim_float h _ k4 (fun w1 h1 => (number_any h1 26 hi).mono ?_)
    rintro e w2 ⟨rfl, r1, r2⟩
    exact ⟨_, rfl, hnil _ _ _ _ _ 0 _, r1, r2⟩
  rw [if_neg k4]
  by_cases k1 : (tkAt L i).kind = 1
  · rw [if_pos k1]
    exact prim_word h _ k1 (fun w1 hw => target_any hw hE hl r2 (fun a _ _ => h2 a))
  rw [if_neg k1]
  by_cases t1 : has L i [⟨#[116, 114, 117, 101]⟩] = true
  · rw [if_pos t1]
    have hi := has_next hE h.lt (by decide) t1
    refine prim_true h _ ⟨k3, k4, k1⟩ (has_one t1) (fun w1 h1 => (truth_any h1 1 hi).mono ?_)
    rintro e w2 ⟨rfl, r1, r2⟩
    exact ⟨_, rfl, hnil _ _ _ _ _ 0 _, r1, r2⟩
  rw [if_neg t1]
  by_cases t2 : has L i [⟨#[102, 97, 108, 115, 101]⟩] = true
  · rw [if_pos t2]
    have hi := has_next hE h.lt (by decide) t2
    refine prim_false h _ ⟨k3, k4, k1⟩ (has_one t2) (fun w1 h1 => (truth_any h1 0 hi).mono ?_)
    rintro e w2 ⟨rfl, r1, r2⟩
    exact ⟨_, rfl, hnil _ _ _ _ _ 0 _, r1, r2⟩
  rw [if_neg t2]
  by_cases t3 : has L i [⟨#[105, 110, 116]⟩, ⟨#[102, 108, 111, 97, 116]⟩] = true
  · rw [if_pos t3]
    have hi := has_next hE h.lt (by decide) t3
    have ht := (Lib.containsS_iff _ _).1 t3
    rcases (show (tkAt L i).text = ⟨#[105, 110, 116]⟩ ∨ (tkAt L i).text = ⟨#[102, 108, 111, 97, 116]⟩ by simpa [tx] using ht) with ht | ht
    · exact prim_toint h _ ⟨k3, k4, k1⟩ ht (fun w1 hw => converted_any hw hE hl hi r2 (fun a _ => h2 a))
    · exact prim_tofloat h _ ⟨k3, k4, k1⟩ ht (fun w1 hw => converted_any hw hE hl hi r2 (fun a _ => h2 a))
  rw [if_neg t3]
  refine prim_wrap h _ ⟨k3, k4, k1⟩ ?_ (fun w1 hw => within_any hw hE hl bOpen bShut (by decide) (by decide) r1 h1)
  have n1 := has_not t1
  have n2 := has_not t2
  have n3 := has_not t3
  cases hp : has L i priT with
  | false => rfl
  | true =>
    have := (Lib.containsS_iff _ _).1 hp
    simp [tx, priT] at this
    simp at n1 n2 n3
    rcases this with e | e | e | e
    · exact absurd e n1
    · exact absurd e n2
    · exact absurd e n3.1
    · exact absurd e n3.2

end Go.Proofs.YtogeblmppagabaaGreatDoor.Ck

/- The contracts of all rules of expressions, at once. -/
namespace Go.Proofs.YtogeblmppagabaaGreatDoor.Ck
open Go.RowKit

theorem rowF_ge {rule : Nat → Out} {zs : List ByteArray} {L : List Tk} (hge : ∀ j m j', rule j = .ok m j' → j ≤ j') : ∀ (f j : Nat) (n m : Nd) (j' : Nat), rowF rule zs L f j n = .ok m j' → j ≤ j'
  | 0, _, _, _, _, h => by unfold rowF at h; cases h
  | f + 1, j, n, m, j', h => by
    unfold rowF at h
    split at h
    · cases hq : rule (j + 1) with
      | bad k a => rw [hq] at h; cases h
      | ok m2 a =>
        rw [hq] at h
        have h1 := hge _ _ _ hq
        have h2 := rowF_ge hge f a _ m j' h
        omega
    · cases h
      exact Nat.le_refl _
theorem rowO_ge {rule : Nat → Out} {zs : List ByteArray} {L : List Tk} (hge : ∀ j m j', rule j = .ok m j' → j ≤ j') {f i : Nat} {m : Nd} {j' : Nat} (h : rowO rule zs L f i = .ok m j') : i ≤ j' := by
  unfold rowO at h
  cases hq : rule i with
  | bad k a => rw [hq] at h; cases h
  | ok m2 a =>
    rw [hq] at h
    exact Nat.le_trans (hge _ _ _ hq) (rowF_ge hge _ _ _ _ _ h)
theorem wrapO_ge {L : List Tk} {l i : Nat} {op sh : ByteArray} {r : Out} (hr : ∀ m j', r = .ok m j' → i + 1 ≤ j') {m : Nd} {j' : Nat} (h : wrapO L l i op sh r = .ok m j') : i ≤ j' := by
  unfold wrapO at h
  split at h
  · split at h
    · cases h
    · cases r with
      | bad k a => cases h
      | ok m2 a =>
        have := hr _ _ rfl
        dsimp only at h
        split at h
        · cases h; omega
        · cases h
  · cases h
theorem pz0 (L : List Tk) (f l i : Nat) : pz L (f + 1) 0 l i = rowO (pz L f 1 l) orT L L.length i := rfl
theorem pz1 (L : List Tk) (f l i : Nat) : pz L (f + 1) 1 l i = rowO (pz L f 2 l) andT L L.length i := rfl
theorem pz2 (L : List Tk) (f l i : Nat) : pz L (f + 1) 2 l i = cmpO (pz L f 3 l) L i := rfl
theorem pz3 (L : List Tk) (f l i : Nat) : pz L (f + 1) 3 l i = rowO (pz L f 4 l) sumT L L.length i := rfl
theorem pz4 (L : List Tk) (f l i : Nat) : pz L (f + 1) 4 l i = rowO (pz L f 5 l) prodT L L.length i := rfl
theorem pz5 (L : List Tk) (f l i : Nat) : pz L (f + 1) 5 l i = if has L i unT then unO L l i (pz L f 5 (l + 1) (i + 1)) else pz L f 6 l i := rfl
theorem pz6 (L : List Tk) (f rk l i : Nat) : pz L (f + 1) (rk + 6) l i = primO L l i (pz L f 0 (l + 1) (i + 1)) (pz L f 0 (l + 1) (i + 1 + 1)) := rfl
theorem pz_ge (L : List Tk) : ∀ (f rk l i : Nat) (n : Nd) (j : Nat), pz L f rk l i = .ok n j → i ≤ j
  | 0, _, _, _, _, _, h => by unfold pz at h; cases h
  | f + 1, 0, l, i, n, j, h => by rw [pz0] at h; exact rowO_ge (fun a b c => pz_ge L f 1 l a b c) h
  | f + 1, 1, l, i, n, j, h => by rw [pz1] at h; exact rowO_ge (fun a b c => pz_ge L f 2 l a b c) h
  | f + 1, 2, l, i, n, j, h => by
    rw [pz2] at h
    unfold cmpO at h
    cases hq : pz L f 3 l i with
    | bad k a => rw [hq] at h; cases h
    | ok m a =>
      rw [hq] at h
      have h1 := pz_ge L f 3 l i m a hq
      dsimp only at h
      split at h
      · cases hq2 : pz L f 3 l (a + 1) with
        | bad k b => rw [hq2] at h; cases h
        | ok m2 b =>
          rw [hq2] at h
          have h2 := pz_ge L f 3 l (a + 1) m2 b hq2
          unfold binO at h
          cases h
          omega
      · cases h; omega
  | f + 1, 3, l, i, n, j, h => by rw [pz3] at h; exact rowO_ge (fun a b c => pz_ge L f 4 l a b c) h
  | f + 1, 4, l, i, n, j, h => by rw [pz4] at h; exact rowO_ge (fun a b c => pz_ge L f 5 l a b c) h
  | f + 1, 5, l, i, n, j, h => by
    rw [pz5] at h
    split at h
    · unfold unO at h
      split at h
      · cases h
      · cases hq : pz L f 5 (l + 1) (i + 1) with
        | bad k a => rw [hq] at h; cases h
        | ok m a =>
          rw [hq] at h
          have := pz_ge L f 5 (l + 1) (i + 1) m a hq
          cases h
          omega
    · exact pz_ge L f 6 l i n j h
  | f + 1, rk + 6, l, i, n, j, h => by
    have g1 := fun a b => pz_ge L f 0 (l + 1) (i + 1) a b
    have g2 := fun a b => pz_ge L f 0 (l + 1) (i + 1 + 1) a b
    rw [pz6] at h
    generalize pz L f 0 (l + 1) (i + 1) = r1 at *
    generalize pz L f 0 (l + 1) (i + 1 + 1) = r2 at *
    have hw : ∀ {op sh : ByteArray} {m : Nd} {j' : Nat}, wrapO L l (i + 1) op sh r2 = .ok m j' → i + 1 ≤ j' := fun h => wrapO_ge g2 h
    unfold primO at h
    split at h
    · cases h; omega
    split at h
    · cases h; omega
    split at h
    · unfold targetO at h
      by_cases kk : (tkAt L i).kind = 1
      · rw [if_pos kk] at h
        by_cases hh : has L (i + 1) [bOpn] = true
        · rw [if_pos hh] at h
          cases hq : wrapO L l (i + 1) bOpn bSht r2 with
          | bad k a => rw [hq] at h; cases h
          | ok m a =>
            rw [hq] at h
            have := hw hq
            cases h
            omega
        · rw [if_neg hh] at h
          cases h
          omega
      · rw [if_neg kk] at h
        cases h
    split at h
    · cases h; omega
    split at h
    · cases h; omega
    split at h
    · unfold convO at h
      cases hq : wrapO L l (i + 1) bOpen bShut r2 with
      | bad k a => rw [hq] at h; cases h
      | ok m a =>
        rw [hq] at h
        have := hw hq
        cases h
        omega
    · exact wrapO_ge g1 h

/-- all rules at one fuel -/
structure Rules (p : List Addr) (g gT : Nat) (L : List Tk) (f : Nat) : Prop where
  e0 : ∀ l, l ≤ 16 → ∀ i, 8 * (L.length - i) + 7 ≤ f → Rule 27 p g gT L l i (pz L f 0 l i)
  e1 : ∀ l, l ≤ 16 → ∀ i, 8 * (L.length - i) + 6 ≤ f → Rule 54 p g gT L l i (pz L f 1 l i)
  e2 : ∀ l, l ≤ 16 → ∀ i, 8 * (L.length - i) + 5 ≤ f → Rule 83 p g gT L l i (pz L f 2 l i)
  e3 : ∀ l, l ≤ 16 → ∀ i, 8 * (L.length - i) + 4 ≤ f → Rule 117 p g gT L l i (pz L f 3 l i)
  e4 : ∀ l, l ≤ 16 → ∀ i, 8 * (L.length - i) + 3 ≤ f → Rule 150 p g gT L l i (pz L f 4 l i)
  e5 : ∀ l, l ≤ 16 → ∀ i, 8 * (L.length - i) + 2 ≤ f → Rule 169 p g gT L l i (pz L f 5 l i)
  e6 : ∀ l, l ≤ 16 → ∀ i, 8 * (L.length - i) + 1 ≤ f → Rule 193 p g gT L l i (pz L f 6 l i)
theorem rules (p : List Addr) (g gT : Nat) (L : List Tk) (hE : Ends L) : ∀ f, Rules p g gT L f
  | 0 => ⟨fun _ _ _ h => by omega, fun _ _ _ h => by omega, fun _ _ _ h => by omega, fun _ _ _ h => by omega, fun _ _ _ h => by omega, fun _ _ _ h => by omega, fun _ _ _ h => by omega⟩
  | f + 1 => by
    have R := rules p g gT L hE f
    refine ⟨?_, ?_, ?_, ?_, ?_, ?_, ?_⟩
    · intro l hl i hf w h
      rw [pz0]
      exact expr_row h hE _ _ (Nat.sub_le _ _) (fun a b c => pz_ge L f 1 l a b c) (fun j hj => R.e1 l hl j (by omega))
    · intro l hl i hf w h
      rw [pz1]
      exact and_row h hE _ _ (Nat.sub_le _ _) (fun a b c => pz_ge L f 2 l a b c) (fun j hj => R.e2 l hl j (by omega))
    · intro l hl i hf w h
      rw [pz2]
      exact cmp_any h hE _ (fun a b c => pz_ge L f 3 l a b c) (fun j hj => R.e3 l hl j (by omega))
    · intro l hl i hf w h
      rw [pz3]
      exact sum_row h hE _ _ (Nat.sub_le _ _) (fun a b c => pz_ge L f 4 l a b c) (fun j hj => R.e4 l hl j (by omega))
    · intro l hl i hf w h
      rw [pz4]
      exact prod_row h hE _ _ (Nat.sub_le _ _) (fun a b c => pz_ge L f 5 l a b c) (fun j hj => R.e5 l hl j (by omega))
    · intro l hl i hf w h
      have hi := h.lt
      rw [pz5]
      by_cases hu : has L i unT = true
      · rw [if_pos hu]
        exact unary_op h hE hl hu _ (fun h16 => R.e5 (l + 1) (by omega) (i + 1) (by omega))
      · rw [if_neg hu]
        exact unary_prim h (by simpa using hu) _ (R.e6 l hl i (by omega))
    · intro l hl i hf w h
      have hi := h.lt
      rw [show pz L (f + 1) 6 l i = _ from pz6 L f 0 l i]
      exact prim_any h hE hl _ _ (fun h16 _ => R.e0 (l + 1) (by omega) (i + 1) (by omega)) (fun h16 => R.e0 (l + 1) (by omega) (i + 1 + 1) (by omega))

end Go.Proofs.YtogeblmppagabaaGreatDoor.Ck
