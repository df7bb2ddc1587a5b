/- Texts of this proof, packed: contracts of the program's functions, and the plain model that they are held against. -/
import Derived.Test.YtogeblmppagabaaGreatDoorQan
import Derived.Deep.CutRange
/- Operators of two operands. -/
namespace Go.Proofs.YtogeblmppagabaaGreatDoor.Ck
open Go.RowKit

def binN (n : Nd) (op : ByteArray) (m : Nd) : Nd := nd 31 n.pos op [n, m]
/-- how a method ends whose tree's rows lie from block B on -/
def PostB (B : Nat → Prop) (p : List Addr) (g gT : Nat) (L : List Tk) (l : Nat) (w : World) (e : Ending) (w' : World) : Out → Prop
  | .ok n j => ∃ v, e = .returned v ∧ NodeV w' B n v ∧ Ps w' p g gT L j l ∧ Tn g w w'
  | .bad k j => e = stop (errV p k) (tkAt L j).pos ∧ Tn g w w'
def binO (n : Nd) (op : ByteArray) : Out → Out
  | .ok m j => .ok (binN n op m) j
  | .bad k j => .bad k j

theorem two_kids {W : World} {B : Nat → Prop} {bk : Nat} {kd ps : Int} {nm : ByteArray} {t nz z o bi : Int} {ks : List Nd} {a : Option Addr} {len ck : Nat} {kd' ps' : Int} {nm' : ByteArray} {t' nz' z' o' bi' : Int} {ks' : List Nd} {a' : Option Addr} {len' ck' : Nat}
    (kb : W.heap[bk]? = some (.cells #[.int .i64 kd, .int .i64 ps, .string nm, .int .i64 t, .int .i64 nz, .int .i64 z, .int .i64 o, .int .u64 bi, .slice a len ck, .int .i64 kd', .int .i64 ps', .string nm', .int .i64 t', .int .i64 nz', .int .i64 z', .int .i64 o', .int .u64 bi', .slice a' len' ck'] 27 (0, 0))) (h1 : KidsV W B ks (.slice a len ck)) (h2 : KidsV W B ks' (.slice a' len' ck')) (hB : B bk) :
    KidsV W B [.mk kd ps nm t nz z o bi ks, .mk kd' ps' nm' t' nz' z' o' bi' ks'] (.slice (some ⟨bk, 0, none⟩) 2 2) := by
  have hc : ∀ j u, (#[.int .i64 kd, .int .i64 ps, .string nm, .int .i64 t, .int .i64 nz, .int .i64 z, .int .i64 o, .int .u64 bi, .slice a len ck, .int .i64 kd', .int .i64 ps', .string nm', .int .i64 t', .int .i64 nz', .int .i64 z', .int .i64 o', .int .u64 bi', .slice a' len' ck'] : Array Value)[j]? = some u → cD W bk j = u := fun j u hu => by
    unfold cD
    rw [blk_cell kb j u hu]
    rfl
  unfold KidsV
  refine ⟨bk, 2, _, rfl, hB, kb, Nat.le_refl 2, by decide, rfl, ?_, ?_⟩
  · unfold NodeV
    refine ⟨_, ?_, h1⟩
    unfold nodeAt
    rw [hc 0 _ rfl, hc (0 + 1) _ rfl, hc (0 + 2) _ rfl, hc (0 + 3) _ rfl, hc (0 + 4) _ rfl, hc (0 + 5) _ rfl, hc (0 + 6) _ rfl, hc (0 + 7) _ rfl, hc (0 + 8) _ rfl]
    rfl
  · unfold RowV
    refine ⟨?_, by unfold RowV; trivial⟩
    unfold NodeV
    refine ⟨_, ?_, h2⟩
    unfold nodeAt
    rw [hc 9 _ rfl, hc (9 + 1) _ rfl, hc (9 + 2) _ rfl, hc (9 + 3) _ rfl, hc (9 + 4) _ rfl, hc (9 + 5) _ rfl, hc (9 + 6) _ rfl, hc (9 + 7) _ rfl, hc (9 + 8) _ rfl]
    rfl

end Go.Proofs.YtogeblmppagabaaGreatDoor.Ck

/- Rows of operators. -/
namespace Go.Proofs.YtogeblmppagabaaGreatDoor.Ck
open Go.RowKit

/-- what stands by a rule, with one of these operators between each two -/
def rowF (rule : Nat → Out) (zs : List ByteArray) (L : List Tk) : Nat → Nat → Nd → Out
  | 0, j, _ => .bad 0 j
  | f + 1, j, n => if has L j zs then (match rule (j + 1) with | .ok m j' => rowF rule zs L f j' (binN n (tx L j) m) | .bad k j' => .bad k j') else .ok n j
def rowO (rule : Nat → Out) (zs : List ByteArray) (L : List Tk) (f i : Nat) : Out :=
  match rule i with | .ok n j => rowF rule zs L f j n | .bad k j => .bad k j
def nextAt (w : World) (g : Nat) : Nat := match w.cell? ⟨g, 1, none⟩ with | some (.int _ z) => z.toNat | _ => 0
theorem Ps.next {w : World} {p : List Addr} {g gT : Nat} {L : List Tk} {i l : Nat} (h : Ps w p g gT L i l) : nextAt w g = i := by
  obtain ⟨cap, _, c1, _⟩ := h.cells
  unfold nextAt
  rw [c1]
  simp

mutual
theorem NodeV.within {w : World} {S : Nat → Prop} : ∀ {n : Nd} {v : Value}, NodeV w S n v → NodeV w (fun k => S k ∧ k < w.heap.size) n v
  | .mk _ _ _ _ _ _ _ _ ks, v, hn => by
    unfold NodeV at hn ⊢
    obtain ⟨s, h1, h2⟩ := hn
    exact ⟨s, h1, KidsV.within h2⟩
theorem KidsV.within {w : World} {S : Nat → Prop} : ∀ {ks : List Nd} {s : Value}, KidsV w S ks s → KidsV w (fun k => S k ∧ k < w.heap.size) ks s
  | [], _, hn => by
    unfold KidsV at hn ⊢
    exact hn
  | n :: ks, s, hn => by
    unfold KidsV at hn ⊢
    obtain ⟨g, cap, cur, h1, h2, h3, h4, h5, h6, h7, h8⟩ := hn
    exact ⟨g, cap, cur, h1, ⟨h2, lt_of_blk h3⟩, h3, h4, h5, h6, NodeV.within h7, RowV.within h8⟩
theorem RowV.within {w : World} {S : Nat → Prop} {g o : Nat} : ∀ {ks : List Nd}, RowV w S g o ks → RowV w (fun k => S k ∧ k < w.heap.size) g o ks
  | [], _ => by
    unfold RowV
    trivial
  | n :: ks, hn => by
    unfold RowV at hn ⊢
    exact ⟨NodeV.within hn.1, RowV.within hn.2⟩
end
/-- blocks from B on, but b -/
def Of (B b k : Nat) : Prop := B ≤ k ∧ k ≠ b
/-- where row stands: its variable in block b holds the tree n -/
structure Rr (w wr : World) (p : List Addr) (g gT : Nat) (L : List Tk) (l j b : Nat) (kd ps : Int) (nm : ByteArray) (t nz z o bi : Int) (ks : List Nd) (a : Option Addr) (len ck : Nat) : Prop where
  pr : Ps wr p g gT L j l
  tn : Tn g w wr
  zr : Nod wr w.heap.size (.int .i64 0) (.int .i64 0) (.string ⟨#[]⟩) (.int .i64 0) (.int .i64 0) (.int .i64 0) (.int .i64 0) (.int .u64 0) (.slice none 0 0)
  vr : Nod wr b (.int .i64 kd) (.int .i64 ps) (.string nm) (.int .i64 t) (.int .i64 nz) (.int .i64 z) (.int .i64 o) (.int .u64 bi) (.slice a len ck)
  kv : KidsV wr (Of (w.heap.size + 1) b) ks (.slice a len ck)

end Go.Proofs.YtogeblmppagabaaGreatDoor.Ck
