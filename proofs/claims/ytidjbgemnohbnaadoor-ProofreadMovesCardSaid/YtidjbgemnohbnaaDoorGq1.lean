/- Texts of this proof, packed. -/
import Derived.Test.YtidjbgemnohbnaaDoorBaseQ
import Derived.Test.YtidjbgemnohbnaaDoorNumQ
import Derived.WalkLawsBesides
import Derived.LaidEqlPtr
import Derived.StillTailTactics
import Derived.Deep.AppendSrc
import Derived.Maps.AppendAt
import Derived.Test.YtidjbgemnohbnaaDoorHoldQ
import Derived.Deep.Cut
import Derived.Deep.QuietTactic
/- What package code does, as plain functions: codes, their form, their bytes; no Go text is walked here. -/
namespace Go.Proofs.YtidjbgemnohbnaaDoor.Ck
open Go.RowKit

/-- an instruction -/
structure In5 where
  op : Int
  a : Int
  b : Int
  bits : Int
  at_ : Int
structure Fn3 where
  st : Int
  pa : Int
  lo : List Int
structure Cd where
  P : List Int
  M : Int
  A : Int
  C : List (Int × Int)
  F : List Fn3
  B : List In5
  mn : Int
def inN (n : Int) (c : Nat) : Bool := decide (0 ≤ n) && decide (n < (c : Int))
def inI (n c : Int) : Bool := decide (0 ≤ n) && decide (n < c)
def typB (t : Int) : Bool := decide (1 ≤ t) && decide (t ≤ 3)
/-- a row of b places from a on, of one type -/
def rowB (P : List Int) (a b : Int) : Bool := (List.range b.toNat).all fun i => P.getD (a.toNat + i) 0 == P.getD a.toNat 0
def insB (c : Cd) (x : In5) : Bool := decide (0 ≤ x.at_) && (decide (x.at_ ≤ 8192) &&
  (if x.op = 1 then decide (0 ≤ x.a) && (x.b == 0 && x.bits == 0)
  else if x.op = 2 then x.a == 0 && x.b == 0
  else if x.op = 3 then inI x.a 2 && (x.b == 0 && x.bits == 0)
  else if x.op = 4 ∨ x.op = 5 then inI x.a 32 && (x.b == 0 && x.bits == 0)
  else if x.op = 6 ∨ x.op = 7 then inN x.a c.P.length && (x.b == 0 && x.bits == 0)
  else if x.op = 8 ∨ x.op = 9 then (decide (1 ≤ x.b) && decide (x.b ≤ 64) && inN x.a c.P.length && decide (x.b ≤ (c.P.length : Int) - x.a) && rowB c.P x.a x.b) && x.bits == 0
  else if x.op = 10 then (decide (1 ≤ x.a) && decide (x.a ≤ 4)) && (x.b == 0 && x.bits == 0)
  else if x.op = 11 then (decide (1 ≤ x.a) && decide (x.a ≤ 11)) && (x.b == 0 && x.bits == 0)
  else if x.op = 12 then inN x.a c.B.length && (x.b == 0 && x.bits == 0)
  else if x.op = 13 ∨ x.op = 14 then inN x.a c.B.length && inI x.b 2 && x.bits == 0
  else if x.op = 15 ∨ x.op = 16 then inI x.a c.M && (x.b == 0 && x.bits == 0)
  else if x.op = 17 ∨ x.op = 18 then inN x.a c.C.length && (x.b == 0 && x.bits == 0)
  else if x.op = 19 ∨ x.op = 20 ∨ x.op = 21 then inI x.a c.A && (x.b == 0 && x.bits == 0)
  else if x.op = 22 ∨ x.op = 23 then inN x.a c.F.length && (x.b == 0 && x.bits == 0)
  else if x.op = 24 ∨ x.op = 25 ∨ x.op = 26 then x.a == 0 && (x.b == 0 && x.bits == 0)
  else false))
def chB (h : Int × Int) : Bool := typB h.1 && (decide (0 ≤ h.2) && decide (h.2 ≤ 8))
def fnB (n : Nat) (f : Fn3) : Bool := inN f.st n && (decide (0 ≤ f.pa) && (decide (f.pa ≤ 4) && (decide (f.pa ≤ f.lo.length) && (decide (f.lo.length ≤ 32) && f.lo.all typB))))
/-- each Start is greater than the one ahead -/
def stB : Int → List Fn3 → Bool
  | _, [] => true
  | p, f :: l => decide (p < f.st) && stB f.st l
def mainB (c : Cd) : Bool := if 0 ≤ c.mn then (match c.F[c.mn.toNat]? with | some f => f.pa == 0 | none => false) else false
def formB (c : Cd) : Bool :=
  (decide (c.P.length ≤ 128) && decide (0 ≤ c.M) && decide (0 ≤ c.A) && decide (c.M + c.A + c.C.length ≤ 32) && decide (c.F.length ≤ 16) && decide (c.B.length ≤ 8192) && mainB c) &&
  (c.P.all typB && c.C.all chB && c.F.all (fnB c.B.length) && (match c.F with | [] => true | f :: l => f.st == 0 && stB 0 l) && c.B.all (insB c))
/-- a number as so many bytes, the high one first -/
def bigL : Nat → Int → List Int
  | 0, _ => []
  | n + 1, u => bigL n (u / 256) ++ [u % 256]
def numL (l : List Int) : Int := l.foldl (fun u b => u * 256 + b) 0
def Byt (l : List Int) : Prop := ∀ b ∈ l, 0 ≤ b ∧ b < 256
theorem bigL_len : ∀ (n : Nat) (u : Int), (bigL n u).length = n
  | 0, _ => rfl
  | n + 1, u => by simp [bigL, bigL_len n]
theorem bigL_byt : ∀ (n : Nat) (u : Int), Byt (bigL n u)
  | 0, _ => fun b h => by cases h
  | n + 1, u => fun b h => by
    simp only [bigL, List.mem_append, List.mem_singleton] at h
    rcases h with h | h
    · exact bigL_byt n _ b h
    · subst h
      omega
theorem numL_snoc (l : List Int) (b : Int) : numL (l ++ [b]) = numL l * 256 + b := by simp [numL, List.foldl_append]
theorem num_big : ∀ (n : Nat) (u : Int), 0 ≤ u → u < 256 ^ n → numL (bigL n u) = u
  | 0, u, h0, h1 => by
    simp at h1
    have : u = 0 := by omega
    subst this
    rfl
  | n + 1, u, h0, h1 => by
    have h2 : u / 256 < 256 ^ n := by
      rw [Int.pow_succ] at h1
      exact Int.ediv_lt_of_lt_mul (by omega) h1
    simp only [bigL, numL_snoc, num_big n (u / 256) (by omega) h2]
    omega
theorem snoc_of {α : Type} {l : List α} {n : Nat} (h : l.length = n + 1) : ∃ m x, l = m ++ [x] ∧ m.length = n := by
  refine ⟨l.dropLast, l.getLast (by intro e; simp [e] at h), (List.dropLast_concat_getLast _).symm, by simp [h]⟩
theorem num_rng : ∀ (n : Nat) (l : List Int), l.length = n → Byt l → 0 ≤ numL l ∧ numL l < 256 ^ n
  | 0, l, h, _ => by
    have : l = [] := List.length_eq_zero_iff.1 h
    subst this
    exact ⟨Int.le_refl _, by decide⟩
  | n + 1, l, h, hb => by
    obtain ⟨m, x, rfl, hm⟩ := snoc_of h
    have h1 := num_rng n m hm (fun b hq => hb b (List.mem_append_left _ hq))
    have h2 := hb x (by simp)
    rw [numL_snoc, Int.pow_succ]
    omega
theorem big_num : ∀ (n : Nat) (l : List Int), l.length = n → Byt l → bigL n (numL l) = l
  | 0, l, h, _ => by
    have : l = [] := List.length_eq_zero_iff.1 h
    subst this
    rfl
  | n + 1, l, h, hb => by
    obtain ⟨m, x, rfl, hm⟩ := snoc_of h
    have h1 := big_num n m hm (fun b hq => hb b (List.mem_append_left _ hq))
    have h2 := hb x (by simp)
    rw [numL_snoc]
    simp only [bigL]
    rw [show (numL m * 256 + x) / 256 = numL m by omega, show (numL m * 256 + x) % 256 = x by omega, h1]
/-- reading: what is read, and what is left -/
def Pz (α : Type) := List Int → Option (α × List Int)
def rNum (n : Nat) : Pz Int := fun l => if n ≤ l.length then some (numL (l.take n), l.drop n) else none
def rBind {α β : Type} (p : Pz α) (f : α → Pz β) : Pz β := fun l => match p l with
  | some (x, r) => f x r
  | none => none
def rPure {α : Type} (x : α) : Pz α := fun l => some (x, l)
def rRep {α : Type} (p : Pz α) : Nat → Pz (List α)
  | 0 => rPure []
  | n + 1 => rBind p fun x => rBind (rRep p n) fun l => rPure (x :: l)
def rChan : Pz (Int × Int) := rBind (rNum 4) fun t => rBind (rNum 4) fun r => rPure (t, r)
def rFn : Pz Fn3 := rBind (rNum 4) fun s => rBind (rNum 4) fun p => rBind (rNum 4) fun n => rBind (rRep (rNum 4) n.toNat) fun l => rPure ⟨s, p, l⟩
def rIns : Pz In5 := rBind (rNum 1) fun o => rBind (rNum 8) fun a => rBind (rNum 4) fun b => rBind (rNum 8) fun t => rBind (rNum 4) fun k => rPure ⟨o, wrap64 a, b, t, k⟩
def rCode : Pz Cd := rBind (rNum 4) fun n0 => rBind (rNum 4) fun n1 => rBind (rNum 4) fun n2 => rBind (rNum 4) fun n3 => rBind (rNum 4) fun n4 => rBind (rNum 4) fun n5 => rBind (rNum 4) fun n6 =>
  rBind (rRep (rNum 4) n0.toNat) fun P => rBind (rRep rChan n3.toNat) fun C => rBind (rRep rFn n4.toNat) fun F => rBind (rRep rIns n5.toNat) fun B => rPure ⟨P, n1, n2, C, F, B, n6⟩
/-- the code of bytes -/
def codeB (l : List Int) : Option Cd := match rCode l with
  | some (c, []) => if formB c = true then some c else none
  | _ => none
def wChan (h : Int × Int) : List Int := bigL 4 h.1 ++ bigL 4 h.2
def wFn (f : Fn3) : List Int := bigL 4 f.st ++ (bigL 4 f.pa ++ (bigL 4 (f.lo.length : Int) ++ f.lo.flatMap (bigL 4)))
def wIns (x : In5) : List Int := bigL 1 x.op ++ (bigL 8 x.a ++ (bigL 4 x.b ++ (bigL 8 x.bits ++ bigL 4 x.at_)))
/-- a code's bytes -/
def bytesL (c : Cd) : List Int := bigL 4 (c.P.length : Int) ++ (bigL 4 c.M ++ (bigL 4 c.A ++ (bigL 4 (c.C.length : Int) ++ (bigL 4 (c.F.length : Int) ++ (bigL 4 (c.B.length : Int) ++ (bigL 4 c.mn ++
  (c.P.flatMap (bigL 4) ++ (c.C.flatMap wChan ++ (c.F.flatMap wFn ++ c.B.flatMap wIns)))))))))
/-- p reads x off s, whatever follows -/
def Reads {α : Type} (p : Pz α) (x : α) (s : List Int) : Prop := ∀ m, p (s ++ m) = some (x, m)
section
variable {α β : Type}
theorem Reads.num {n : Nat} {u : Int} (h0 : 0 ≤ u) (h1 : u < 256 ^ n) : Reads (rNum n) u (bigL n u) := fun m => by
  unfold rNum
  rw [if_pos (by simp [bigL_len]), List.take_left' (bigL_len n u), List.drop_left' (bigL_len n u), num_big n u h0 h1]
theorem Reads.bind {p : Pz α} {f : α → Pz β} {x : α} {y : β} {s t : List Int} (h1 : Reads p x s) (h2 : Reads (f x) y t) : Reads (rBind p f) y (s ++ t) := fun m => by
  unfold rBind
  rw [List.append_assoc, h1 (t ++ m)]
  exact h2 m
theorem Reads.last {p : Pz α} {f : α → Pz β} {x : α} {y : β} {s : List Int} (h1 : Reads p x s) (h2 : Reads (f x) y []) : Reads (rBind p f) y s := by
  have := h1.bind h2
  rw [List.append_nil] at this
  exact this
theorem Reads.pure (x : α) : Reads (rPure x) x [] := fun _ => rfl
theorem Reads.rep {p : Pz α} {q : α → List Int} : ∀ (l : List α), (∀ x ∈ l, Reads p x (q x)) → Reads (rRep p l.length) l (l.flatMap q)
  | [], _ => Reads.pure []
  | x :: l, h => by
    rw [List.flatMap_cons]
    exact (h x (List.mem_cons_self ..)).bind ((Reads.rep l fun y hy => h y (List.mem_cons_of_mem _ hy)).last (Reads.pure _))
/-- more behind changes nothing but what is left -/
def More (p : Pz α) : Prop := ∀ l x r m, p l = some (x, r) → p (l ++ m) = some (x, r ++ m)
theorem More.num (n : Nat) : More (rNum n) := fun l x r m h => by
  unfold rNum at h ⊢
  split at h
  · rename_i hn
    cases h
    rw [if_pos (by simp; omega), List.take_append_of_le_length hn, List.drop_append_of_le_length hn]
  · cases h
theorem More.pure (x : α) : More (rPure x) := fun l y r m h => by cases h; rfl
theorem More.bind {p : Pz α} {f : α → Pz β} (h1 : More p) (h2 : ∀ x, More (f x)) : More (rBind p f) := fun l y r m h => by
  unfold rBind at h ⊢
  cases hp : p l with
  | none => rw [hp] at h; cases h
  | some q =>
    obtain ⟨x, r1⟩ := q
    rw [hp] at h
    rw [h1 l x r1 m hp]
    exact h2 x r1 y r m h
theorem More.rep {p : Pz α} (h : More p) : ∀ n, More (rRep p n)
  | 0 => More.pure []
  | n + 1 => h.bind fun _ => (More.rep h n).bind fun _ => More.pure _
end
theorem more_code : More rCode :=
  (More.num 4).bind fun _ => (More.num 4).bind fun _ => (More.num 4).bind fun _ => (More.num 4).bind fun _ => (More.num 4).bind fun _ => (More.num 4).bind fun _ => (More.num 4).bind fun _ =>
    ((More.num 4).rep _).bind fun _ => (More.rep ((More.num 4).bind fun _ => (More.num 4).bind fun _ => More.pure _) _).bind fun _ =>
      (More.rep ((More.num 4).bind fun _ => (More.num 4).bind fun _ => (More.num 4).bind fun _ => ((More.num 4).rep _).bind fun _ => More.pure _) _).bind fun _ =>
        (More.rep ((More.num 1).bind fun _ => (More.num 8).bind fun _ => (More.num 4).bind fun _ => (More.num 8).bind fun _ => (More.num 4).bind fun _ => More.pure _) _).bind fun _ => More.pure _
section
theorem p256_4 : (256 : Int) ^ 4 = 4294967296 := by decide
theorem p256_8 : (256 : Int) ^ 8 = 18446744073709551616 := by decide
theorem p256_1 : (256 : Int) ^ 1 = 256 := by decide
theorem r4 {u : Int} (h0 : 0 ≤ u) (h1 : u < 4294967296) : Reads (rNum 4) u (bigL 4 u) := Reads.num h0 (by rw [p256_4]; exact h1)
theorem r8 {u : Int} (h0 : 0 ≤ u) (h1 : u < 18446744073709551616) : Reads (rNum 8) u (bigL 8 u) := Reads.num h0 (by rw [p256_8]; exact h1)
theorem r1 {u : Int} (h0 : 0 ≤ u) (h1 : u < 256) : Reads (rNum 1) u (bigL 1 u) := Reads.num h0 (by rw [p256_1]; exact h1)
/-- numbers that fit their bytes -/
def Sm (u : Int) : Prop := 0 ≤ u ∧ u < 4294967296
theorem Sm.r {u : Int} (h : Sm u) : Reads (rNum 4) u (bigL 4 u) := r4 h.1 h.2
def FnS (f : Fn3) : Prop := Sm f.st ∧ Sm f.pa ∧ Sm (f.lo.length : Int) ∧ ∀ x ∈ f.lo, Sm x
def InS (x : In5) : Prop := (0 ≤ x.op ∧ x.op < 256) ∧ (0 ≤ x.a ∧ x.a < 9223372036854775808) ∧ Sm x.b ∧ (0 ≤ x.bits ∧ x.bits < 18446744073709551616) ∧ Sm x.at_
structure CdS (c : Cd) : Prop where
  np : Sm (c.P.length : Int)
  nm : Sm c.M
  na : Sm c.A
  nc : Sm (c.C.length : Int)
  nf : Sm (c.F.length : Int)
  nb : Sm (c.B.length : Int)
  mn : Sm c.mn
  ps : ∀ x ∈ c.P, Sm x
  cs : ∀ h ∈ c.C, Sm h.1 ∧ Sm h.2
  fs : ∀ f ∈ c.F, FnS f
  bs : ∀ x ∈ c.B, InS x
theorem reads_chan {h : Int × Int} (h1 : Sm h.1) (h2 : Sm h.2) : Reads rChan h (wChan h) := h1.r.bind (h2.r.last (Reads.pure _))
theorem reads_fn {f : Fn3} (h : FnS f) : Reads rFn f (wFn f) := by
  obtain ⟨h1, h2, h3, h4⟩ := h
  refine h1.r.bind (h2.r.bind (h3.r.bind ?_))
  have := Reads.rep (p := rNum 4) (q := bigL 4) f.lo (fun x hx => (h4 x hx).r)
  exact Reads.last (by rw [Int.toNat_natCast]; exact this) (Reads.pure _)
theorem reads_ins {x : In5} (h : InS x) : Reads rIns x (wIns x) := by
  obtain ⟨⟨a1, a2⟩, ⟨b1, b2⟩, h3, ⟨d1, d2⟩, h5⟩ := h
  refine (r1 a1 a2).bind ((r8 b1 (by omega)).bind (h3.r.bind ((r8 d1 d2).bind (h5.r.last ?_))))
  have : wrap64 x.a = x.a := by unfold wrap64; omega
  rw [this]
  exact Reads.pure _
theorem reads_code {c : Cd} (h : CdS c) : Reads rCode c (bytesL c) := by
  refine h.np.r.bind (h.nm.r.bind (h.na.r.bind (h.nc.r.bind (h.nf.r.bind (h.nb.r.bind (h.mn.r.bind ?_))))))
  simp only [Int.toNat_natCast]
  exact (Reads.rep c.P (fun x hx => (h.ps x hx).r)).bind ((Reads.rep c.C (fun x hx => reads_chan (h.cs x hx).1 (h.cs x hx).2)).bind
    ((Reads.rep c.F (fun x hx => reads_fn (h.fs x hx))).bind ((Reads.rep c.B (fun x hx => reads_ins (h.bs x hx))).last (Reads.pure _))))
theorem code_bytes {c : Cd} (hf : formB c = true) (h : CdS c) : codeB (bytesL c) = some c := by
  have := reads_code h []
  rw [List.append_nil] at this
  unfold codeB
  rw [this]
  simp [hf]
/-- no shorter piece of a code's bytes is a code's -/
theorem code_cut {c : Cd} (h : CdS c) {l m : List Int} (e : bytesL c = l ++ m) (hm : m ≠ []) : codeB l = none := by
  have hr := reads_code h []
  rw [List.append_nil] at hr
  unfold codeB
  cases hc : rCode l with
  | none => rfl
  | some q =>
    obtain ⟨d, r⟩ := q
    have h2 := more_code l d r m hc
    rw [← e, hr] at h2
    cases r with
    | cons a r => rfl
    | nil =>
      simp at h2
      exact absurd h2.2.symm (by simpa using hm)
/-- nor is anything longer -/
theorem code_long {c : Cd} (h : CdS c) {m : List Int} (hm : m ≠ []) : codeB (bytesL c ++ m) = none := by
  unfold codeB
  rw [reads_code h m]
  cases m with
  | nil => exact absurd rfl hm
  | cons a m => rfl
/-- the way back: what was read is what is written -/
def Back {α : Type} (p : Pz α) (w : α → List Int) : Prop := ∀ l x r, Byt l → p l = some (x, r) → l = w x ++ r
theorem Byt.right {l m : List Int} (h : Byt (l ++ m)) : Byt m := fun b hb => h b (List.mem_append_right _ hb)
theorem Back.num (n : Nat) : Back (rNum n) (bigL n) := fun l x r hb h => by
  unfold rNum at h
  split at h
  · rename_i hn
    cases h
    rw [big_num n (l.take n) (by simp; omega) (fun b hq => hb b (List.mem_of_mem_take hq)), List.take_append_drop]
  · cases h
theorem back_bind {α β : Type} {p : Pz α} {w : α → List Int} {f : α → Pz β} {l : List Int} {y : β} {r : List Int} (hp : Back p w) (hb : Byt l) (h : rBind p f l = some (y, r)) :
    ∃ x m, l = w x ++ m ∧ Byt m ∧ f x m = some (y, r) := by
  unfold rBind at h
  cases hq : p l with
  | none => rw [hq] at h; cases h
  | some q =>
    obtain ⟨x, m⟩ := q
    rw [hq] at h
    have e := hp l x m hb hq
    exact ⟨x, m, e, Byt.right (e ▸ hb), h⟩
theorem Back.rep {α : Type} {p : Pz α} {w : α → List Int} (hp : Back p w) : ∀ n l (x : List α) r, Byt l → rRep p n l = some (x, r) → l = x.flatMap w ++ r ∧ x.length = n
  | 0, l, x, r, _, h => by
    cases h
    exact ⟨rfl, rfl⟩
  | n + 1, l, x, r, hb, h => by
    obtain ⟨y, m, e, hm, h⟩ := back_bind hp hb h
    unfold rBind at h
    cases hq : rRep p n m with
    | none => rw [hq] at h; cases h
    | some q =>
      obtain ⟨z, m2⟩ := q
      rw [hq] at h
      obtain ⟨e2, e3⟩ := Back.rep hp n m z m2 hm hq
      cases h
      exact ⟨by rw [e, e2, List.flatMap_cons, List.append_assoc], by simp [e3]⟩
theorem bigL_mod : ∀ (n : Nat) (u k : Int), bigL n (u + k * 256 ^ n) = bigL n u
  | 0, _, _ => rfl
  | n + 1, u, k => by
    have e : u + k * 256 ^ (n + 1) = u + (k * 256 ^ n) * 256 := by rw [Int.pow_succ, Int.mul_assoc]
    simp only [bigL]
    rw [e, show (u + (k * 256 ^ n) * 256) / 256 = u / 256 + k * 256 ^ n by omega, show (u + (k * 256 ^ n) * 256) % 256 = u % 256 by omega, bigL_mod n]
theorem big_wrap (u : Int) : bigL 8 (wrap64 u) = bigL 8 u := by
  obtain ⟨k, hk⟩ : ∃ k, wrap64 u = u + k * 256 ^ 8 := by
    refine ⟨(wrap64 u - u) / 256 ^ 8, ?_⟩
    rw [p256_8]
    unfold wrap64
    omega
  rw [hk, bigL_mod]
theorem back_chan : Back rChan wChan := fun l x r hb h => by
  obtain ⟨a, m, e, hm, h⟩ := back_bind (Back.num 4) hb h
  obtain ⟨b, m2, e2, _, h⟩ := back_bind (Back.num 4) hm h
  cases h
  simp only [wChan, e, e2, List.append_assoc]
theorem back_rep {α β : Type} {p : Pz α} {w : α → List Int} {n : Nat} {f : List α → Pz β} {l : List Int} {y : β} {r : List Int} (hp : Back p w) (hb : Byt l) (h : rBind (rRep p n) f l = some (y, r)) :
    ∃ x m, l = x.flatMap w ++ m ∧ x.length = n ∧ Byt m ∧ f x m = some (y, r) := by
  unfold rBind at h
  cases hq : rRep p n l with
  | none => rw [hq] at h; cases h
  | some q =>
    obtain ⟨x, m⟩ := q
    rw [hq] at h
    obtain ⟨e, e2⟩ := Back.rep hp n l x m hb hq
    exact ⟨x, m, e, e2, Byt.right (e ▸ hb), h⟩
theorem back_num {β : Type} {n : Nat} {f : Int → Pz β} {l : List Int} {y : β} {r : List Int} (hb : Byt l) (h : rBind (rNum n) f l = some (y, r)) :
    ∃ x m, l = bigL n x ++ m ∧ 0 ≤ x ∧ Byt m ∧ f x m = some (y, r) := by
  unfold rBind at h
  cases hq : rNum n l with
  | none => rw [hq] at h; cases h
  | some q =>
    obtain ⟨x, m⟩ := q
    rw [hq] at h
    have e := Back.num n l x m hb hq
    refine ⟨x, m, e, ?_, Byt.right (e ▸ hb), h⟩
    unfold rNum at hq
    split at hq
    · cases hq
      exact (num_rng _ (l.take n) rfl (fun b hq => hb b (List.mem_of_mem_take hq))).1
    · cases hq
theorem back_fn : Back rFn wFn := fun l x r hb h => by
  obtain ⟨a, m, e, _, hm, h⟩ := back_num hb h
  obtain ⟨b, m2, e2, _, hm2, h⟩ := back_num hm h
  obtain ⟨n, m3, e3, hn, hm3, h⟩ := back_num hm2 h
  obtain ⟨lo, m4, e4, hl, _, h⟩ := back_rep (Back.num 4) hm3 h
  cases h
  have en : ((lo.length : Nat) : Int) = n := by rw [hl, Int.toNat_of_nonneg hn]
  simp only [wFn, en, e, e2, e3, e4, List.append_assoc]
theorem back_ins : Back rIns wIns := fun l x r hb h => by
  obtain ⟨o, m, e, _, hm, h⟩ := back_num hb h
  obtain ⟨a, m2, e2, _, hm2, h⟩ := back_num hm h
  obtain ⟨b, m3, e3, _, hm3, h⟩ := back_num hm2 h
  obtain ⟨t, m4, e4, _, hm4, h⟩ := back_num hm3 h
  obtain ⟨k, m5, e5, _, _, h⟩ := back_num hm4 h
  cases h
  simp only [wIns, big_wrap, e, e2, e3, e4, e5, List.append_assoc]
theorem back_code : Back rCode bytesL := fun l x r hb h => by
  obtain ⟨n0, m0, e0, h0, hb, h⟩ := back_num hb h
  obtain ⟨n1, m1, e1, _, hb, h⟩ := back_num hb h
  obtain ⟨n2, m2, e2, _, hb, h⟩ := back_num hb h
  obtain ⟨n3, m3, e3, h3, hb, h⟩ := back_num hb h
  obtain ⟨n4, m4, e4, h4, hb, h⟩ := back_num hb h
  obtain ⟨n5, m5, e5, h5, hb, h⟩ := back_num hb h
  obtain ⟨n6, m6, e6, _, hb, h⟩ := back_num hb h
  obtain ⟨P, m7, e7, l7, hb, h⟩ := back_rep (Back.num 4) hb h
  obtain ⟨C, m8, e8, l8, hb, h⟩ := back_rep back_chan hb h
  obtain ⟨F, m9, e9, l9, hb, h⟩ := back_rep back_fn hb h
  obtain ⟨B, m10, e10, l10, hb, h⟩ := back_rep back_ins hb h
  cases h
  have q0 : ((P.length : Nat) : Int) = n0 := by rw [l7, Int.toNat_of_nonneg h0]
  have q3 : ((C.length : Nat) : Int) = n3 := by rw [l8, Int.toNat_of_nonneg h3]
  have q4 : ((F.length : Nat) : Int) = n4 := by rw [l9, Int.toNat_of_nonneg h4]
  have q5 : ((B.length : Nat) : Int) = n5 := by rw [l10, Int.toNat_of_nonneg h5]
  simp only [bytesL, q0, q3, q4, q5, e0, e1, e2, e3, e4, e5, e6, e7, e8, e9, e10, List.append_assoc]
/-- bytes that are a code's are that code's bytes, and the code is in form -/
theorem bytes_code {l : List Int} {c : Cd} (hb : Byt l) (h : codeB l = some c) : bytesL c = l ∧ formB c = true := by
  unfold codeB at h
  cases hc : rCode l with
  | none => rw [hc] at h; cases h
  | some q =>
    obtain ⟨d, r⟩ := q
    rw [hc] at h
    cases r with
    | cons a r => cases h
    | nil =>
      have h2 : (if formB d = true then some d else none) = some c := h
      split at h2
      · rename_i hf
        cases h2
        have := back_code l c [] hb hc
        rw [List.append_nil] at this
        exact ⟨this.symm, hf⟩
      · cases h2
/-- what an instruction's words hold for being an int and a uint64 -/
def InW (x : In5) : Prop := x.a < 9223372036854775808 ∧ 0 ≤ x.bits ∧ x.bits < 18446744073709551616
theorem ite_tt {p : Prop} [Decidable p] {a b : Bool} (h : (if p then a else b) = true) : (p ∧ a = true) ∨ (¬ p ∧ b = true) := by
  by_cases hp : p
  · rw [if_pos hp] at h
    exact Or.inl ⟨hp, h⟩
  · rw [if_neg hp] at h
    exact Or.inr ⟨hp, h⟩
theorem ins_sm {c : Cd} {x : In5} (hw : InW x) (h : insB c x = true) : InS x := by
  obtain ⟨w1, w2, w3⟩ := hw
  unfold insB at h
  simp only [Bool.and_eq_true, decide_eq_true_eq] at h
  obtain ⟨h1, h2, h⟩ := h
  have k : (0 ≤ x.op ∧ x.op < 256) ∧ 0 ≤ x.a ∧ 0 ≤ x.b ∧ x.b ≤ 64 := by
    iterate 15
      rcases ite_tt h with ⟨e, h⟩ | ⟨e, h⟩
      · simp only [inI, inN, Bool.and_eq_true, decide_eq_true_eq, beq_iff_eq] at h
        omega
      clear e
    cases h
  exact ⟨k.1, ⟨k.2.1, w1⟩, ⟨k.2.2.1, by omega⟩, ⟨w2, w3⟩, ⟨h1, by omega⟩⟩
theorem typ_sm {t : Int} (h : typB t = true) : Sm t := by
  simp only [typB, Bool.and_eq_true, decide_eq_true_eq] at h
  exact ⟨by omega, by omega⟩
theorem form_sm {c : Cd} (h : formB c = true) (hw : ∀ x ∈ c.B, InW x) : CdS c := by
  simp only [formB, Bool.and_eq_true, decide_eq_true_eq, List.all_eq_true] at h
  obtain ⟨⟨⟨⟨⟨⟨⟨hP, hM⟩, hA⟩, hS⟩, hF⟩, hB⟩, hm⟩, ⟨⟨⟨kP, kC⟩, kF⟩, _⟩, kB⟩ := h
  have hmn : Sm c.mn := by
    unfold mainB at hm
    split at hm
    · rename_i h0
      split at hm
      · rename_i f hf
        have := (List.getElem?_eq_some_iff.1 hf).1
        exact ⟨h0, by omega⟩
      · cases hm
    · cases hm
  refine ⟨⟨by omega, by omega⟩, ⟨hM, by omega⟩, ⟨hA, by omega⟩, ⟨by omega, by omega⟩, ⟨by omega, by omega⟩, ⟨by omega, by omega⟩, hmn, fun x hx => typ_sm (kP x hx), fun x hx => ?_, fun f hf => ?_, fun x hx => ins_sm (hw x hx) (kB x hx)⟩
  · have := kC x hx
    simp only [chB, Bool.and_eq_true, decide_eq_true_eq] at this
    exact ⟨typ_sm this.1, ⟨this.2.1, by omega⟩⟩
  · have := kF f hf
    simp only [fnB, inN, Bool.and_eq_true, decide_eq_true_eq, List.all_eq_true] at this
    obtain ⟨⟨a1, a2⟩, a3, a4, a5, a6, a7⟩ := this
    exact ⟨⟨a1, by omega⟩, ⟨a3, by omega⟩, ⟨by omega, by omega⟩, fun y hy => typ_sm (a7 y hy)⟩
/-- a code of one function and this body -/
def oneF (B : List In5) : Cd := ⟨[], 0, 0, [], [⟨0, 0, []⟩], B, 0⟩
theorem one_form {B : List In5} (h0 : B ≠ []) (h1 : B.length ≤ 8192) : formB (oneF B) = B.all (insB (oneF B)) := by
  have hl : 0 < B.length := List.length_pos_iff.2 h0
  have e1 : mainB (oneF B) = true := rfl
  have e2 : fnB B.length ⟨0, 0, []⟩ = true := by simp [fnB, inN, hl]
  unfold formB
  rw [e1]
  simp [oneF, h1, e2, stB]
theorem ins_plain {c : Cd} {o at_ : Int} (ho : o = 24 ∨ o = 25) : insB c ⟨o, 0, 0, 0, at_⟩ = decide (0 ≤ at_ ∧ at_ ≤ 8192) := by
  rcases ho with rfl | rfl <;> simp [insB]
theorem turns_form {n : Nat} (h1 : 1 ≤ n) (h2 : n ≤ 50) : formB (oneF (List.replicate n ⟨24, 0, 0, 0, 0⟩)) = true := by
  rw [one_form (by intro e; have := congrArg List.length e; simp at this; omega) (by simp; omega), List.all_eq_true]
  intro x hx
  rw [List.eq_of_mem_replicate hx, ins_plain (.inl rfl)]
  decide
theorem turns_at {n : Nat} (h1 : 1 ≤ n) (h2 : n ≤ 50) (at_ : Int) : formB (oneF (List.replicate n ⟨24, 0, 0, 0, 0⟩ ++ [⟨25, 0, 0, 0, at_⟩])) = decide (0 ≤ at_ ∧ at_ ≤ 8192) := by
  rw [one_form (by simp) (by simp; omega), List.all_append]
  have : (List.replicate n (⟨24, 0, 0, 0, 0⟩ : In5)).all (insB (oneF (List.replicate n ⟨24, 0, 0, 0, 0⟩ ++ [⟨25, 0, 0, 0, at_⟩]))) = true := by
    rw [List.all_eq_true]
    intro x hx
    rw [List.eq_of_mem_replicate hx, ins_plain (.inl rfl)]
    decide
  rw [this, List.all_cons, ins_plain (.inr rfl)]
  simp
theorem alive_form : formB (oneF [⟨25, 0, 0, 0, 0⟩]) = true := by decide
end
end Go.Proofs.YtidjbgemnohbnaaDoor.Ck

/- Package code: what gives up, and what is asked of numbers. -/
namespace Go.Proofs.YtidjbgemnohbnaaDoor.Ck
open Go.RowKit

theorem hide {p : Prop} (h : p) : Hid p := h
theorem bel_drawn {n : Nat} {w w' : World} (h : Below n w w') : Below n w w'.drew := ⟨h.os, h.tape, h.output, h.size, h.block⟩
theorem mixed : Tryd.prog.follows .mixedOrders = true := by kernel_rfl
theorem lt_of_blk {w : World} {g : Nat} {o : Obj} (h : w.heap[g]? = some o) : g < w.heap.size := (Array.getElem?_eq_some_iff.1 h).1
theorem blk_cell {w : World} {g : Nat} {c : Array Value} {T : TypeId} {r : Nat × Nat} (h : w.heap[g]? = some (.cells c T r)) (i : Nat) (v : Value) (hv : c[i]? = some v) : w.cell? ⟨g, i, none⟩ = some v := by simp [World.cell?, h, hv]
theorem blk_frz {w : World} {g : Nat} {c : Array Value} {T : TypeId} (h : w.heap[g]? = some (.cells c T (0, 0))) (i : Nat) : w.frozen? ⟨g, i, none⟩ = false := frozen_of_row w g i _ T h
def Vb (w : World) (v : Value) (e : Ending) (w' : World) : Prop := e = .returned v ∧ Below w.heap.size w w'
theorem Vb.mk {w w' : World} {v v' : Value} (h : v = v') (hb : Below w.heap.size w w') : Vb w v' (.returned v) w' := ⟨by rw [h], hb⟩
theorem still_of_quiet {P : Program} {ops : Array Oper} {w : World} {Q : Act → Prop} : ∀ (l : List Oper) (a : Act), wpQuiet P ops (fun w' => w' = w) Q l a → wpStill P ops w Q l a
  | [], _, h => h
  | o :: rest, a, h => by
    unfold wpQuiet at h
    unfold wpStill
    split
    · rename_i hw
      rw [if_pos hw] at h
      obtain ⟨v, hv, hn⟩ := h
      have hv := hv w rfl
      have hn := still_of_quiet rest _ hn
      unfold Oper.quietAt at hv
      unfold Oper.still
      generalize (execOp a.eval o).run P w = r at *
      cases r with
      | ok n w' =>
        cases n <;> simp only [Oper.quietUpon, Oper.stillUpon] at hv ⊢
        case enter f args => exact ⟨hv.1, v, hv.2, hn⟩
        case value u => exact ⟨hv.1, by rw [hv.2]; exact hn⟩
        case skip => exact ⟨hv.1, by rw [← hv.2]; exact hn⟩
      | halt x w' => simp only [Oper.quietUpon] at hv
    · rename_i hw
      rw [if_neg hw] at h
      exact still_of_quiet rest _ h

/-- a region that draws its order, all but the end of which only reads, and whose end is forced -/
theorem wp_quiet_tail {P : Program} {id : Nat} {Q : Exit → Act → World → Prop} {a : Act} {w : World} {l : List Oper} (n : Nat) (hm : P.follows .mixedOrders = true) (hB : Region.lexTailB .any l.toArray n = true)
    (h : wpQuiet P l.toArray (fun w' => w' = w.drew) (fun a' => wpList P l.toArray Q (l.drop n) a' w.drew) (l.take n) a) : (Code.region id l.toArray true).wp P Q a w :=
  wp_region_still_tail n hm hB (still_of_quiet _ _ h)
/-- the error that package code gives up with -/
def Ec (w : World) (p : List Addr) : Prop := w.cell? ⟨8, 0, none⟩ = some (errV p 8)
theorem Ec.bel {w w' : World} {p : List Addr} (h : Ec w p) (hb : Below w.heap.size w w') : Ec w' p := (hb.cell (p := ⟨8, 0, none⟩) (World.block_lt_of_cell? w _ h)).trans h
def codeStop (p : List Addr) : Ending := .panicked [{ v := errV p 8, recovered := false }]
/-- a call that returns r, or gives up -/
def Gt (p : List Addr) (w : World) (ok : Bool) (r : Value) (e : Ending) (w' : World) : Prop := e = (if ok = true then .returned r else codeStop p) ∧ Below w.heap.size w w'
theorem Gt.both {p : List Addr} {w : World} {ok : Bool} {r : Value} {e : Ending} {w' : World} (h : Gt p w ok r e w') : (ok = true ∧ e = .returned r ∧ Below w.heap.size w w') ∨ (ok = false ∧ e = codeStop p ∧ Below w.heap.size w w') := by
  cases ok with
  | true => exact .inl ⟨rfl, h.1, h.2⟩
  | false => exact .inr ⟨rfl, h.1, h.2⟩
theorem Gt.yes {p : List Addr} {w : World} {ok : Bool} {r : Value} {w' : World} (h : ok = true) (hb : Below w.heap.size w w') : Gt p w ok r (.returned r) w' := ⟨by rw [if_pos h], hb⟩
theorem Gt.no {p : List Addr} {w : World} {ok : Bool} {r : Value} {w' : World} (h : ok = false) (hb : Below w.heap.size w w') : Gt p w ok r (codeStop p) w' := ⟨by rw [if_neg (by simp [h])], hb⟩
theorem must_yes (w : World) : Calls Tryd.prog 37 #[.bool true] w fun e w' => e = .returned (.tuple #[]) ∧ w = w' := by
  go_enter Tryd.func37, Tryd.ntmps37
  go_wp2_with fail
  go_end0
  exact ⟨rfl, rfl⟩
theorem must_no {w : World} {p : List Addr} (h : Ec w p) : Calls Tryd.prog 37 #[.bool false] w fun e w' => e = codeStop p ∧ w = w' := by
  unfold Ec errV at h
  go_enter Tryd.func37, Tryd.ntmps37
  go_wp2_with fail
  exact ⟨rfl, rfl, rfl⟩
/-- what is asked: yes, and nothing has turned; or no -/
def Mp (p : List Addr) (w : World) (b : Bool) (e : Ending) (w' : World) : Prop := (b = true ∧ e = .returned (.tuple #[]) ∨ b = false ∧ e = codeStop p) ∧ w = w'
theorem must_any {w : World} {p : List Addr} (h : Ec w p) (b : Bool) : Calls Tryd.prog 37 #[.bool b] w (Mp p w b) := by
  cases b with
  | true => exact (must_yes w).mono (fun e w' hh => ⟨.inl ⟨rfl, hh.1⟩, hh.2⟩)
  | false => exact (must_no h).mono (fun e w' hh => ⟨.inr ⟨rfl, hh.1⟩, hh.2⟩)
/-- a span -/
def hasB (x y n : Int) : Bool := decide (x ≤ n) && decide (n ≤ y)
theorem has_any (x y n : Int) (w : World) : Calls Tryd.prog 47 #[.agg #[.int .i64 x, .int .i64 y], .int .i64 n] w (Vb w (.bool (hasB x y n))) := by
  have HB := hide (bel_new w (.cells #[.int .i64 x, .int .i64 y] 97))
  obtain ⟨r, hr⟩ : ∃ r, hasB x y n = r := ⟨_, rfl⟩
  rw [hr]
  have HR := hide hr
  clear hr
  go_enter Tryd.func47, Tryd.ntmps47
  go_wp2_with fail
  all_goals
    go_ret
    exact Vb.mk (congrArg Value.bool (by rw [← HR.out]; first | (simp_all [hasB]; done) | (simp_all [hasB]; omega))) HB.out
/-- a variable of a struct's type, in block g, as a call's result -/
theorem ret_agg {fn : Func} {R : Ending → World → Prop} {a : Act} {w : World} {p : Tmp} {T : TypeId} (g : Nat) (cs : Array Value) {d : TypeDesc} (hf : fn.results = #[.cell p T]) (hp : a.tmps.getD p undef = .pointer (some ⟨g, 0, none⟩))
    (hd : (match d with | .struct _ | .array _ _ => true | _ => false) = true) (h : w.heap[g]? = some (.cells cs T (0, 0))) (hu : Tryd.prog.underlying T = some d) (hi : (Tryd.prog.info? T).map (·.size) = some cs.size) (hdf : a.defers = []) (hR : R (.returned (.agg cs)) w) : bodyPost Tryd.prog fn R .ret a w :=
  bodyPost_ret (results_cell_row hf a.tmps w g T cs (0, 0) d hp h hu (by cases d <;> first | rfl | cases hd) hi) hdf hR
theorem oneOf_any (n : Int) (w : World) (h1 : -9223372036854775807 ≤ n) (h2 : n ≤ 9223372036854775807) : Calls Tryd.prog 46 #[.int .i64 n] w (Vb w (.agg #[.int .i64 0, .int .i64 (n - 1)])) := by
  have HB := hide (bel_new w (.cells #[.int .i64 0, .int .i64 (n - 1)] 97))
  have h : wrap64 (n - 1) = n - 1 := by unfold wrap64; omega
  go_enter Tryd.func46, Tryd.ntmps46
  go_wp2_with fail
  exact ret_agg w.heap.size _ rfl rfl rfl (Go.Deep.blk_alloc_new _ _) Tryd.underlying97 (by kernel_rfl) rfl ⟨rfl, HB.out⟩
end Go.Proofs.YtidjbgemnohbnaaDoor.Ck

/- What one call writes; no Go text is walked here. -/
namespace Go.Proofs.YtidjbgemnohbnaaDoor.Ck
open Go.RowKit

/-- nothing but the block g turned -/
structure Tn (g : Nat) (w w' : World) : Prop where
  os : w'.os = w.os
  tape : w'.tape = w.tape
  output : w'.output = w.output
  size : w.heap.size ≤ w'.heap.size
  blk : ∀ k, k < w.heap.size → k ≠ g → w'.heap[k]? = w.heap[k]?
theorem Tn.refl (g : Nat) (w : World) : Tn g w w := ⟨rfl, rfl, rfl, Nat.le_refl _, fun _ _ _ => rfl⟩
theorem Tn.trans {g : Nat} {a b c : World} (h : Tn g a b) (k : Tn g b c) : Tn g a c :=
  ⟨k.os.trans h.os, k.tape.trans h.tape, k.output.trans h.output, Nat.le_trans h.size k.size, fun x hx hs => (k.blk x (Nat.lt_of_lt_of_le hx h.size) hs).trans (h.blk x hx hs)⟩
theorem Tn.of_bel {g : Nat} {w w' : World} (h : Below w.heap.size w w') : Tn g w w' := ⟨h.os, h.tape, h.output, h.size, fun k hk _ => h.block k hk⟩
theorem Tn.bel {g : Nat} {w w' : World} (h : Tn g w w') {B : Nat} (hB : B ≤ g) (hw : B ≤ w.heap.size) : Below B w w' :=
  ⟨h.os, h.tape, h.output, h.size, fun k hk => h.blk k (by omega) (by omega)⟩
theorem set1 {w : World} {g : Nat} {c : Array Value} {t : TypeId} (h : w.heap[g]? = some (.cells c t (0, 0))) (k : Nat) (v : Value) :
    (w.setCell ⟨g, k, none⟩ v).heap[g]? = some (.cells (c.setIfInBounds k v) t (0, 0)) ∧ Tn g w (w.setCell ⟨g, k, none⟩ v) :=
  ⟨heap_setCell_same _ _ _ _ _ _ h, rfl, rfl, rfl, Nat.le_of_eq (by simp [World.setCell]), fun _ _ hk => Below.heap_setCell _ _ _ _ hk⟩
end Go.Proofs.YtidjbgemnohbnaaDoor.Ck

/- Rows of a call's own, and what turns where; no Go text is walked here. -/
namespace Go.Proofs.YtidjbgemnohbnaaDoor.Ck
open Go.RowKit

theorem size_setCell (w : World) (a : Addr) (v : Value) : (w.setCell a v).heap.size = w.heap.size := by
  simp only [World.setCell]
  split <;> simp
section
variable {w w' : World} {B : Nat} {T : TypeId} {n : Nat} {v : Value} {len : Nat} {xs : List Value}
theorem own_type (h : w.ownsRow B T n v len xs) {k : Nat} (hk : v.ownBlock = some k) : B ≤ k ∧ k < w.heap.size ∧ ∃ c, w.heap[k]? = some (.cells c T (0, 0)) := by
  obtain ⟨hl, h0 | ⟨gb, cap, cur, rfl, hB, hg, r⟩⟩ := h
  · rw [h0.1] at hk
    cases hk
  · have e : gb = k := Option.some.inj hk
    subst e
    exact ⟨hB, lt_of_blk hg, cur, hg⟩
theorem own_keep (h : w.ownsRow B T n v len xs) (hb : ∀ k, v.ownBlock = some k → w'.heap[k]? = w.heap[k]?) : w'.ownsRow B T n v len xs := by
  obtain ⟨hl, h0 | ⟨gb, cap, cur, rfl, hB, hg, r⟩⟩ := h
  · exact ⟨hl, .inl h0⟩
  · exact ⟨hl, .inr ⟨gb, cap, cur, rfl, hB, (hb gb rfl).trans hg, r⟩⟩
theorem own_form (h : w.ownsRow B T n v len xs) : (v = .slice none 0 0 ∧ len = 0) ∨ ∃ b c, v = .slice (some ⟨b, 0, none⟩) len c ∧ len ≤ c ∧ c ≤ maxLen := by
  obtain ⟨hl, h0 | ⟨gb, cap, cur, rfl, hB, hg, h1, h2, r⟩⟩ := h
  · exact .inl h0
  · exact .inr ⟨_, _, rfl, h1, h2⟩
theorem own_slice (h : w.ownsRow B T n v len xs) : ∃ a c, v = .slice a len c ∧ len ≤ c ∧ c ≤ maxLen := by
  rcases own_form h with ⟨rfl, rfl⟩ | ⟨b, c, rfl, h1, h2⟩
  · exact ⟨_, _, rfl, by omega, by unfold maxLen; omega⟩
  · exact ⟨_, _, rfl, h1, h2⟩
theorem own_some (h : w.ownsRow B T n v len xs) (hl : 0 < len) : ∃ b c, v = .slice (some ⟨b, 0, none⟩) len c ∧ len ≤ c ∧ c ≤ maxLen := by
  rcases own_form h with ⟨_, e⟩ | h
  · omega
  · exact h
theorem own_cell {b m c : Nat} (h : w.ownsRow B T n (.slice (some ⟨b, 0, none⟩) m c) len xs) (j : Nat) (u : Value) (hu : xs[j]? = some u) : w.cell? ⟨b, j, none⟩ = some u ∧ w.frozen? ⟨b, j, none⟩ = false := by
  obtain ⟨hl, ⟨h0, _⟩ | ⟨gb, cap, cur, e, hB, hg, h1, h2, h3, h4⟩⟩ := h
  · cases h0
  · simp only [Value.slice.injEq, Option.some.injEq, Addr.mk.injEq, and_true] at e
    obtain ⟨rfl, rfl, rfl⟩ := e
    refine ⟨?_, blk_frz hg j⟩
    have hj : j < xs.length := (List.getElem?_eq_some_iff.1 hu).1
    have e2 : (cur.toList.take (m * n))[j]? = xs[j]? := by rw [h4]
    rw [List.getElem?_take_of_lt (by omega), hu] at e2
    exact blk_cell hg j u (by rw [← Array.getElem?_toList]; exact e2)
theorem own_set {b m c : Nat} (h : w.ownsRow B T n (.slice (some ⟨b, 0, none⟩) m c) len xs) (j : Nat) (u : Value) : (w.setCell ⟨b, j, none⟩ u).ownsRow B T n (.slice (some ⟨b, 0, none⟩) m c) len (xs.set j u) := by
  obtain ⟨hl, ⟨h0, _⟩ | ⟨gb, cap, cur, e, hB, hg, h1, h2, h3, h4⟩⟩ := h
  · cases h0
  · simp only [Value.slice.injEq, Option.some.injEq, Addr.mk.injEq, and_true] at e
    obtain ⟨rfl, rfl, rfl⟩ := e
    refine ⟨by simpa using hl, .inr ⟨b, c, cur.setIfInBounds j u, rfl, hB, heap_setCell_same w b j _ T _ hg, h1, h2, by simpa using h3, ?_⟩⟩
    rw [Array.toList_setIfInBounds, List.take_set, h4]
end
theorem own_apart {w : World} {B B' : Nat} {T T' : TypeId} {n n' : Nat} {v v' : Value} {len len' : Nat} {xs xs' : List Value} (h : w.ownsRow B T n v len xs) (h' : w.ownsRow B' T' n' v' len' xs') (hT : T ≠ T') : ∀ k, v.ownBlock = some k → v'.ownBlock ≠ some k := fun k hk hk' => by
  obtain ⟨_, _, c, hc⟩ := own_type h hk
  obtain ⟨_, _, c', hc'⟩ := own_type h' hk'
  rw [hc] at hc'
  have := Option.some.inj hc'
  injection this with _ h2 _
  exact hT h2
theorem own_at {w : World} {B : Nat} {T T' : TypeId} {n : Nat} {v : Value} {len : Nat} {xs : List Value} (h : w.ownsRow B T n v len xs) {g : Nat} {c : Array Value} (hg : w.heap[g]? = some (.cells c T' (0, 0))) (hT : T ≠ T') : v.ownBlock ≠ some g := fun e => by
  obtain ⟨_, _, c', hc⟩ := own_type h e
  rw [hg] at hc
  have := Option.some.inj hc
  injection this with _ h2 _
  exact hT h2.symm

/-- from w to w' only blocks of F, and what is new, have turned; F' has none but of F and new ones -/
structure Ch (F F' : Nat → Prop) (w w' : World) : Prop where
  os : w'.os = w.os
  tape : w'.tape = w.tape
  output : w'.output = w.output
  size : w.heap.size ≤ w'.heap.size
  blk : ∀ k, k < w.heap.size → ¬ F k → w'.heap[k]? = w.heap[k]?
  grow : ∀ k, F' k → F k ∨ w.heap.size ≤ k
theorem Ch.refl (F : Nat → Prop) (w : World) : Ch F F w w := ⟨rfl, rfl, rfl, Nat.le_refl _, fun _ _ _ => rfl, fun _ h => .inl h⟩
theorem Ch.trans {F F' F'' : Nat → Prop} {a b c : World} (h : Ch F F' a b) (k : Ch F' F'' b c) : Ch F F'' a c :=
  ⟨k.os.trans h.os, k.tape.trans h.tape, k.output.trans h.output, Nat.le_trans h.size k.size, fun i hi hF => (k.blk i (Nat.lt_of_lt_of_le hi h.size) (fun hF' => by
    rcases h.grow i hF' with h1 | h1
    · exact hF h1
    · omega)).trans (h.blk i hi hF), fun i hi => by
    rcases k.grow i hi with h1 | h1
    · exact h.grow i h1
    · exact .inr (Nat.le_trans h.size h1)⟩
theorem Ch.of_bel {F : Nat → Prop} {w w' : World} (h : Below w.heap.size w w') : Ch F F w w' := ⟨h.os, h.tape, h.output, h.size, fun k hk _ => h.block k hk, fun _ h => .inl h⟩
theorem Ch.bel {F F' : Nat → Prop} {w w' : World} {B : Nat} (h : Ch F F' w w') (hF : ∀ k, F k → B ≤ k) (hB : B ≤ w.heap.size) : Below B w w' :=
  ⟨h.os, h.tape, h.output, h.size, fun k hk => h.blk k (by omega) (fun e => by have := hF k e; omega)⟩
theorem Ch.drew {F F' : Nat → Prop} {w w' : World} (h : Ch F F' w w') : Ch F F' w w'.drew := ⟨h.os, h.tape, h.output, h.size, h.blk, h.grow⟩
theorem Ch.below {F F' : Nat → Prop} {w wa wb : World} (h : Ch F F' w wa) (k : Below w.heap.size wa wb) : Ch F F' w wb :=
  ⟨k.os.trans h.os, k.tape.trans h.tape, k.output.trans h.output, Nat.le_trans h.size k.size, fun i hi hF => (k.block i hi).trans (h.blk i hi hF), h.grow⟩
theorem Ch.low {F F' : Nat → Prop} {w w' : World} {B : Nat} (h : Ch F F' w w') (hF : ∀ k, F k → B ≤ k) (hB : B ≤ w.heap.size) : ∀ k, F' k → B ≤ k := fun k hk => by
  rcases h.grow k hk with h1 | h1
  · exact hF k h1
  · omega

theorem own_cut {w : World} {B : Nat} {T : TypeId} {a : Option Addr} {un cU : Nat} {xs : List Value} (h : w.ownsRow B T 1 (.slice a un cU) un xs) {keep : Nat} (hk : keep ≤ un) : w.ownsRow B T 1 (.slice a keep cU) keep (xs.take keep) := by
  obtain ⟨hl, ⟨h0, h1⟩ | ⟨gb, cap, cur, hv, hB, hg, h2, h3, h4, h5⟩⟩ := h
  · obtain rfl : keep = 0 := by omega
    injection h0 with e1 e2 e3
    subst e1 e3
    exact ⟨by simp, .inl ⟨rfl, rfl⟩⟩
  · injection hv with e1 e2 e3
    subst e1 e3
    refine ⟨by rw [List.length_take]; omega, .inr ⟨gb, cU, cur, rfl, hB, hg, by omega, h3, h4, ?_⟩⟩
    rw [← h5, List.take_take]
    congr 1
    omega
theorem Ch.wide {F F' G G' : Nat → Prop} {w w' : World} (c : Ch F F' w w') (h1 : ∀ k, F k → G k) (h2 : ∀ k, G' k → G k ∨ w.heap.size ≤ k) : Ch G G' w w' :=
  ⟨c.os, c.tape, c.output, c.size, fun k hk hG => c.blk k hk (fun hF => hG (h1 k hF)), h2⟩
theorem Ch.keepB {G G' : Nat → Prop} {w w' : World} {b : Nat} (c : Ch G G' w w') (hn : ¬ G b) (hl : b < w.heap.size) : w'.heap[b]? = w.heap[b]? ∧ ¬ G' b ∧ b < w'.heap.size :=
  ⟨c.blk b hl hn, fun h => by
    rcases c.grow b h with h1 | h1
    · exact hn h1
    · omega, Nat.lt_of_lt_of_le hl c.size⟩
theorem Ch.of_tn {g : Nat} {w w' : World} (t : Tn g w w') : Ch (fun k => k = g) (fun k => k = g) w w' := ⟨t.os, t.tape, t.output, t.size, fun k hk hn => t.blk k hk hn, fun _ h => .inl h⟩
def nts (l : List Int) : List Value := l.map (Value.int .i64)
theorem nts_at {l : List Int} {i : Nat} {x : Int} (h : l[i]? = some x) : (nts l)[i]? = some (.int .i64 x) := by simp [nts, h]
theorem nts_len (l : List Int) : (nts l).length = l.length := by simp [nts]
/-- one int more -/
theorem push_any {TS : TypeId} (hu : Tryd.prog.underlying TS = some (.slice 3)) {w : World} {B : Nat} {v : Value} {l : List Int} {n : Nat} (hn : n = l.length) (hl : l.length ≤ 100000) (ho : w.ownsRow B 3 1 v n (nts l)) (hB : B ≤ w.heap.size) (x : Int) (ty : TypeId) :
    ∃ v' w', (Builtin.append_ #[TS, TS] ty #[v, .slice (some ⟨w.heap.size, 0, none⟩) 1 1]).run Tryd.prog (w.alloc (.cells #[.int .i64 x] 3)) = .ok v' w' ∧ ((∃ a c, v' = .slice a (n + 1) c) ∧ w'.ownsRow B 3 1 v' (n + 1) (nts (l ++ [x])) ∧ w.grownBy w' v.ownBlock ∧ (∀ k, v'.ownBlock = some k → v.ownBlock = some k ∨ w.heap.size ≤ k)) := by
  obtain ⟨ie, hi, hz0, hz1, hz2⟩ := info_parts info3
  have hb := bel_new w (.cells #[.int .i64 x] 3)
  have o1 := own_keep ho (fun k hk => hb.block k (own_type ho hk).2.1)
  have hc : ∀ (j : Nat) (u : Value), (nts [x])[j]? = some u → (w.alloc (.cells #[.int .i64 x] 3)).cell? ((⟨w.heap.size, 0, none⟩ : Addr).add j) = some u := fun j u hu => by
    rw [show (⟨w.heap.size, 0, none⟩ : Addr).add j = ⟨w.heap.size, j, none⟩ by unfold Addr.add; by_cases h : j = 0 <;> simp [h]]
    exact blk_cell (Go.Deep.blk_alloc_new w _) j u (by simpa [nts] using hu)
  obtain ⟨v', w', hr, ho', hg, _, hat⟩ := run_append_own_at (P := Tryd.prog) (w.alloc (.cells #[.int .i64 x] 3)) B TS ty 3 ie _ 1 8 hu hi hz0 hz1 hz2 rfl (by decide) v n (nts l) o1 ⟨w.heap.size, 0, none⟩ 1 1 (nts [x]) rfl hc (fun u hu => by simp [nts] at hu; subst hu; rfl) (by unfold maxLen; omega) (by omega) (Nat.le_trans hB hb.size)
  obtain ⟨a9, c9, e9, _⟩ := own_slice ho'
  refine ⟨v', w', hr, ⟨_, _, e9⟩, by rw [show nts (l ++ [x]) = nts l ++ nts [x] by simp [nts]]; exact ho', ⟨hg.os, hg.tape, hg.output, Nat.le_trans hb.size hg.size, fun k hk hne => (hg.block k (Nat.lt_of_lt_of_le hk hb.size) hne).trans (hb.block k hk)⟩, fun k hk => ?_⟩
  rcases hat with e | e
  · exact .inl (e.symm.trans hk)
  · rw [e] at hk
    right
    have := Option.some.inj hk
    have h9 := hb.size
    omega
theorem wpList_appV {TS : TypeId} {w : World} {ops : Array Oper} {rest : List Oper} {o : Oper} {a : Act} {Q : Exit → Act → World → Prop} (hgd : o.guard = none) (s x : Operand)
    (ho : o.op = .call { callee := .builtin .append, args := #[s, x], argTypes := #[TS, TS] }) (v vx : Value) (hs : a.eval s = v) (hx : a.eval x = vx) (R : Value → World → Prop)
    (hrun : ∃ v' w', (Builtin.append_ #[TS, TS] o.type #[v, vx]).run Tryd.prog w = .ok v' w' ∧ R v' w')
    (h : ∀ v' w', R v' w' → wpList Tryd.prog ops Q rest (a.put o.dst v') w') : wpList Tryd.prog ops Q (o :: rest) a w :=
  wpList_plain hgd fun _ hK => by
    obtain ⟨v', w', hr, hR⟩ := hrun
    unfold Oper.wp execOp
    simp only [ho, resolve, invoke, builtin, Sem.run_bind, Sem.run_pure, Result.andThen_ok, List.map_toArray, List.map_cons, List.map_nil, hs, hx, hr]
    exact hK _ _ (h v' w' hR)
end Go.Proofs.YtidjbgemnohbnaaDoor.Ck

/- Steps in a region that draws its order, written short; no Go text is walked here. -/
namespace Go.Proofs.YtidjbgemnohbnaaDoor.Ck
open Go.RowKit

theorem SA : (∀ {α : Type} (a : List α) (i : Nat) (h : i < a.toArray.size), a.toArray[i] = a[i]'(by simpa using h)) ∧ (∀ {α : Type} (a : α) (l : List α) (h : 0 < (a :: l).length), (a :: l)[0] = a) ∧ (∀ {α : Type} (a : α) (l : List α) (i : Nat) (h : i + 1 < (a :: l).length), (a :: l)[i + 1] = l[i]'(Nat.lt_of_succ_lt_succ h)) ∧ (∀ {α : Type} (l : List α) (i : Nat) (a : α), l.toArray.setIfInBounds i a = (l.set i a).toArray) ∧ (∀ {α : Type} (l : List α) (x a : α), (a :: l).set 0 x = x :: l) ∧ (∀ {α : Type} (l : List α) (i : Nat) (x a : α), (a :: l).set (i + 1) x = a :: l.set i x) :=
  ⟨fun _ _ _ => List.getElem_toArray _, fun _ _ _ => rfl, fun _ _ _ _ => rfl, fun _ _ _ => List.setIfInBounds_toArray _ _ _, fun _ _ _ => rfl, fun _ _ _ _ => rfl⟩
section
variable {P : Program} {md : Region.Mode} {ops : Array Oper} {Q : Exit → Act → World → Prop} {S : World → Prop} {M : Nat → Bool} {oi : Oper} {v : Value} {f : Nat} {L : Array Bool} {a : Act} {w : World}
/-- a value that any world gives -/
theorem Tm (i : Nat) (h : wpT P md ops Q S M f (L.setIfInBounds i true) (a.put oi.dst v) w) (hi : ops[i]? = some oi := by rfl) (hy : ∀ w, True → (execOp a.eval oi).run P w = .ok (.value v) w := by (intro w _; go_simp <;> with_reducible rfl)) (hw : Region.wanted oi (yielded ops a.tmps) = true := by rfl) (hs : Region.noSelect ops = true := by kernel_rfl) (hf : Region.free md ops L i = true := by kernel_rfl) (hr : (Region.ready md ops L).contains i = true := by kernel_rfl) (hQ : ∀ c a w, Q (.panic c) (a.put oi.dst v) w → Q (.panic c) a w := by exact fun _ _ _ h => h) : wpT P md ops Q S M (f + 1) L a w := T_move hi hs hf hr hQ (Or.inl ⟨hw, hy⟩) h
/-- a load that S tells -/
theorem Tl (i : Nat) (hy : ∀ w, S w → (execOp a.eval oi).run P w = .ok (.value v) w) (hS : S w) (h : wpT P md ops Q S M f (L.setIfInBounds i true) (a.put oi.dst v) w) (hi : ops[i]? = some oi := by rfl) (hw : Region.wanted oi (yielded ops a.tmps) = true := by rfl) (hs : Region.noSelect ops = true := by kernel_rfl) (hf : Region.free md ops L i = true := by kernel_rfl) (hr : (Region.ready md ops L).contains i = true := by kernel_rfl) (hN : waitsB md ops M i = true := by kernel_rfl) (hQ : ∀ c a w, Q (.panic c) (a.put oi.dst v) w → Q (.panic c) a w := by exact fun _ _ _ h => h) : wpT P md ops Q S M (f + 1) L a w := T_take hi hs hf hr hN hQ (Or.inl ⟨hw, hy⟩) hS h
/-- the one that is ready -/
theorem Tr (i : Nat) (h : ∀ K' : Act → World → Prop, Shut (∀ a w', (M i = true → S w') → ((M i = true → S w') → wpT P md ops Q S M f (L.setIfInBounds i true) a w') → K' a w') → if Region.wanted oi (yielded ops a.tmps) = true then Oper.wp P oi a w K' Q else K' (a.put oi.dst undef) w) (hr : Region.ready md ops L = [i] := by kernel_rfl) (ho : ops[i]? = some oi := by rfl) : wpT P md ops Q S M (f + 1) L a w := T_ready hr (by simp) (AllReadyT.cons ho h AllReadyT.nil)
end
end Go.Proofs.YtidjbgemnohbnaaDoor.Ck

/- Package proofread: what is asked; a stack: pop, push. -/
namespace Go.Proofs.YtidjbgemnohbnaaDoor.Ck
open Go.RowKit

theorem pmust_yes (w : World) : Calls Tryd.prog 40 #[.bool true] w fun e w' => e = .returned (.tuple #[]) ∧ w = w' := by
  go_enter Tryd.func40, Tryd.ntmps40
  go_wp2_with fail
  go_end0
  exact ⟨rfl, rfl⟩
theorem pmust_no {w : World} {p : List Addr} (h : Ec w p) : Calls Tryd.prog 40 #[.bool false] w fun e w' => e = codeStop p ∧ w = w' := by
  unfold Ec errV at h
  go_enter Tryd.func40, Tryd.ntmps40
  go_wp2_with fail
  exact ⟨rfl, rfl, rfl⟩
theorem pmust_any {w : World} {p : List Addr} (h : Ec w p) (b : Bool) : Calls Tryd.prog 40 #[.bool b] w (Mp p w b) := by
  cases b with
  | true => exact (pmust_yes w).mono (fun e w' hh => ⟨.inl ⟨rfl, hh.1⟩, hh.2⟩)
  | false => exact (pmust_no h).mono (fun e w' hh => ⟨.inr ⟨rfl, hh.1⟩, hh.2⟩)
/-- a stack in memory: its variable in block b, its types in a row of its own from block B on -/
structure Sk (w : World) (b B : Nat) (v : Value) (s : List Int) : Prop where
  at_ : w.heap[b]? = some (.cells #[v] 51 (0, 0))
  row : w.ownsRow B 3 1 v s.length (nts s)
  hb : B ≤ b
  n : s.length ≤ 1000
section
variable {w w' : World} {b B : Nat} {v : Value} {s : List Int}
theorem Sk.ne (h : Sk w b B v s) : v.ownBlock ≠ some b := own_at h.row h.at_ (by decide)
theorem Sk.bel (h : Sk w b B v s) (hb : Below w.heap.size w w') : Sk w' b B v s := ⟨(hb.block b (lt_of_blk h.at_)).trans h.at_, own_keep h.row (fun k hk => hb.block k (own_type h.row hk).2.1), h.hb, h.n⟩
theorem Sk.ch {F F' : Nat → Prop} (h : Sk w b B v s) (c : Ch F F' w w') (h1 : ¬ F b) (h2 : ∀ k, v.ownBlock = some k → ¬ F k) : Sk w' b B v s := ⟨(c.blk b (lt_of_blk h.at_) h1).trans h.at_, own_keep h.row (fun k hk => c.blk k (own_type h.row hk).2.1 (h2 k hk)), h.hb, h.n⟩
/-- the row within the stack's variable is put in another row's place -/
theorem Sk.put (hat : w.heap[b]? = some (.cells #[v] 51 (0, 0))) {v' : Value} (hr : w.ownsRow B 3 1 v' s.length (nts s)) (hb : B ≤ b) (hn : s.length ≤ 1000) : Sk (w.setCell ⟨b, 0, none⟩ v') b B v' s ∧ Tn b w (w.setCell ⟨b, 0, none⟩ v') := by
  obtain ⟨k1, t1⟩ := set1 hat 0 v'
  exact ⟨⟨k1, own_keep hr (fun k hk => t1.blk k (own_type hr hk).2.1 (fun e => own_at hr hat (by decide) (by rw [hk, e]))), hb, hn⟩, t1⟩
end
set_option maxRecDepth 20000 in
set_option maxHeartbeats 1000000 in
theorem pop_some {w : World} {b B : Nat} {v : Value} {s : List Int} {t : Int} (h : Sk w b B v (s ++ [t])) : Calls Tryd.prog 51 #[.pointer (some ⟨b, 0, none⟩)] w fun e w' => e = .returned (.int .i64 t) ∧ (∃ v', Sk w' b B v' s) ∧ Tn b w w' := by
  have hl : (s ++ [t]).length = s.length + 1 := by simp
  have hn := h.n
  have hr := h.row
  rw [hl] at hn hr
  obtain ⟨r, c, rfl, h1, h2⟩ := own_some hr (by omega)
  have x0 := blk_cell h.at_ 0 _ rfl
  have f0 := blk_frz h.at_ 0
  have x1 := (own_cell hr s.length (.int .i64 t) (by simp [nts])).1
  obtain ⟨n, hn0⟩ : ∃ n, n = s.length := ⟨_, rfl⟩
  obtain ⟨m, hm⟩ : ∃ m, m = s.length + 1 := ⟨_, rfl⟩
  have HC : Hid (w.ownsRow B 3 1 (.slice (some ⟨r, 0, none⟩) n c) n (nts s)) := hide (by
    have := own_cut hr (keep := s.length) (by omega)
    rw [hn0]
    rw [show (nts (s ++ [t])).take s.length = nts s by simp [nts]] at this
    exact this)
  have HA := hide (And.intro h.at_ (And.intro h.hb hn0))
  have HN : Hid (s.length ≤ 1000) := hide (by omega)
  rw [← hm] at hn h1 x0 HA
  rw [← hn0] at x1 hm
  have hw : wrap64 ((m : Int) - 1) = (n : Int) := by unfold wrap64; omega
  have hm0 : decide (0 < m) = true := decide_eq_true (by omega)
  have hnm : (n : Int) < (m : Int) := by omega
  have hnc : n ≤ c := by omega
  clear h hr hl hn hn0 h1 h2 hm
  go_enter Tryd.func51, Tryd.ntmps51
  go_wp2_with fail
  refine (pmust_yes _).mono ?_
  rintro e w1 ⟨rfl, rfl⟩
  go_wp2_with fail
  go_ret
  obtain ⟨k1, t1⟩ := Sk.put HA.out.1 (v' := .slice (some ⟨r, 0, none⟩) n c) (s := s) (by rw [← HA.out.2.2]; exact HC.out) HA.out.2.1 HN.out
  exact ⟨rfl, ⟨_, k1⟩, t1⟩
set_option maxRecDepth 20000 in
set_option maxHeartbeats 1000000 in
theorem pop_none {w : World} {p : List Addr} {b B : Nat} {v : Value} (hc : Ec w p) (h : Sk w b B v []) : Calls Tryd.prog 51 #[.pointer (some ⟨b, 0, none⟩)] w fun e w' => e = codeStop p ∧ w = w' := by
  obtain ⟨a, c, rfl, _⟩ := own_slice h.row
  have x0 := blk_cell h.at_ 0 _ rfl
  have MN := hide (pmust_no hc)
  simp only [List.length_nil] at x0
  clear h hc
  go_enter Tryd.func51, Tryd.ntmps51
  go_wp2_with fail
  refine MN.out.mono ?_
  rintro e w1 ⟨rfl, rfl⟩
  exact ⟨rfl, rfl, rfl⟩
set_option maxRecDepth 20000 in
set_option maxHeartbeats 1000000 in
theorem push_stk {w : World} {b B : Nat} {v : Value} {s : List Int} (h : Sk w b B v s) (t : Int) (hs : s.length ≤ 900) : Calls Tryd.prog 52 #[.pointer (some ⟨b, 0, none⟩), .int .i64 t] w fun e w' => e = .returned (.tuple #[]) ∧ (∃ v', Sk w' b B v' (s ++ [t])) ∧ Below B w w' := by
  obtain ⟨a, c, rfl, _⟩ := own_slice h.row
  have x0 := blk_cell h.at_ 0 _ rfl
  have hbs : B ≤ w.heap.size := by have := lt_of_blk h.at_; have := h.hb; omega
  have PU := hide (fun ty => push_any (TS := 51) Tryd.underlying51 (n := s.length) (l := s) rfl (by omega) h.row hbs t ty)
  have H := hide h
  have HS := hide (And.intro hs hbs)
  obtain ⟨n, hn⟩ : ∃ n, n = s.length := ⟨_, rfl⟩
  have HN := hide hn
  rw [← hn] at PU x0 H
  clear h hs hbs hn
  go_enter Tryd.func52, Tryd.ntmps52
  go_wp2_with (first | (at_builtin; refine wpList_appV (TS := 51) rfl (.tmp 7) (.tmp 9) rfl _ _ rfl rfl _ (PU.out _) ?_; rintro v9 w9 ⟨⟨a9, c9, rfl⟩, o9, g9, b9⟩; have hat := (g9.block b (lt_of_blk H.out.at_) (fun e => H.out.ne e.symm)).trans H.out.at_; have x9 := blk_cell hat 0 _ rfl; have f9 := blk_frz hat 0; have R9 := hide (And.intro hat (And.intro o9 g9)); clear o9 g9 b9 hat))
  go_end0
  obtain ⟨k1, t1⟩ := Sk.put R9.out.1 (s := s ++ [t]) (v' := .slice a9 (n + 1) c9) (by rw [List.length_append, List.length_singleton, ← HN.out]; exact R9.out.2.1) H.out.hb (by rw [List.length_append, List.length_singleton]; have := HS.out.1; omega)
  refine ⟨rfl, ⟨_, k1⟩, ?_⟩
  have g9 := R9.out.2.2
  have b1 : Below B w w9 := ⟨g9.os, g9.tape, g9.output, g9.size, fun k hk => g9.block k (by have := HS.out.2; omega) (fun e => by have := (own_type H.out.row e.symm).1; omega)⟩
  exact b1.trans (t1.bel H.out.hb (Nat.le_trans HS.out.2 g9.size))
end Go.Proofs.YtidjbgemnohbnaaDoor.Ck

/- A code (api.Code) in memory; no Go text is walked here. -/
namespace Go.Proofs.YtidjbgemnohbnaaDoor.Ck
open Go.RowKit

def z2 : Int × Int := (0, 0)
def zF : Fn3 := ⟨0, 0, []⟩
def zI : In5 := ⟨0, 0, 0, 0, 0⟩
/-- a slice of channels -/
def SlC (w : World) (v : Value) (cs : List (Int × Int)) : Prop := ∃ a cap, v = .slice a cs.length cap ∧ cs.length ≤ cap ∧ cap ≤ maxLen ∧
    ∀ i, i < cs.length → ∃ b off, a = some ⟨b, off, none⟩ ∧ b < w.heap.size ∧ w.cell? ⟨b, off + i * 2, none⟩ = some (.int .i64 (cs.getD i z2).1) ∧ w.cell? ⟨b, off + i * 2 + 1, none⟩ = some (.int .i64 (cs.getD i z2).2)
/-- of functions -/
def SlF (w : World) (v : Value) (F : List Fn3) : Prop := ∃ a cap, v = .slice a F.length cap ∧ F.length ≤ cap ∧ cap ≤ maxLen ∧
    ∀ i, i < F.length → ∃ b off vl, a = some ⟨b, off, none⟩ ∧ b < w.heap.size ∧ w.cell? ⟨b, off + i * 3, none⟩ = some (.int .i64 (F.getD i zF).st) ∧ w.cell? ⟨b, off + i * 3 + 1, none⟩ = some (.int .i64 (F.getD i zF).pa) ∧ w.cell? ⟨b, off + i * 3 + 2, none⟩ = some vl ∧ Sl w vl (F.getD i zF).lo
/-- of instructions -/
def SlB (w : World) (v : Value) (B : List In5) : Prop := ∃ a cap, v = .slice a B.length cap ∧ B.length ≤ cap ∧ cap ≤ maxLen ∧
    ∀ i, i < B.length → ∃ b off, a = some ⟨b, off, none⟩ ∧ b < w.heap.size ∧ w.cell? ⟨b, off + i * 5, none⟩ = some (.int .i64 (B.getD i zI).op) ∧ w.cell? ⟨b, off + i * 5 + 1, none⟩ = some (.int .i64 (B.getD i zI).a) ∧ w.cell? ⟨b, off + i * 5 + 2, none⟩ = some (.int .i64 (B.getD i zI).b) ∧ w.cell? ⟨b, off + i * 5 + 3, none⟩ = some (.int .u64 (B.getD i zI).bits) ∧ w.cell? ⟨b, off + i * 5 + 4, none⟩ = some (.int .i64 (B.getD i zI).at_)
section
variable {w w' : World} {v : Value}
theorem Sl.bel {l : List Int} (h : Sl w v l) (hb : Below w.heap.size w w') : Sl w' v l := h.below (Nat.le_refl _) hb
theorem SlC.bel {l : List (Int × Int)} (h : SlC w v l) (hb : Below w.heap.size w w') : SlC w' v l := by
  obtain ⟨a, cap, hv, h1, h2, h3⟩ := h
  refine ⟨a, cap, hv, h1, h2, fun i hi => ?_⟩
  obtain ⟨b, off, ha, hlt, hc, hd⟩ := h3 i hi
  exact ⟨b, off, ha, Nat.lt_of_lt_of_le hlt hb.size, (hb.cell (p := ⟨b, _, none⟩) hlt).trans hc, (hb.cell (p := ⟨b, _, none⟩) hlt).trans hd⟩
theorem SlF.bel {l : List Fn3} (h : SlF w v l) (hb : Below w.heap.size w w') : SlF w' v l := by
  obtain ⟨a, cap, hv, h1, h2, h3⟩ := h
  refine ⟨a, cap, hv, h1, h2, fun i hi => ?_⟩
  obtain ⟨b, off, vl, ha, hlt, hc, hd, he, hs⟩ := h3 i hi
  exact ⟨b, off, vl, ha, Nat.lt_of_lt_of_le hlt hb.size, (hb.cell (p := ⟨b, _, none⟩) hlt).trans hc, (hb.cell (p := ⟨b, _, none⟩) hlt).trans hd, (hb.cell (p := ⟨b, _, none⟩) hlt).trans he, hs.bel hb⟩
theorem SlB.bel {l : List In5} (h : SlB w v l) (hb : Below w.heap.size w w') : SlB w' v l := by
  obtain ⟨a, cap, hv, h1, h2, h3⟩ := h
  refine ⟨a, cap, hv, h1, h2, fun i hi => ?_⟩
  obtain ⟨b, off, ha, hlt, hc, hd, he, hf, hg⟩ := h3 i hi
  exact ⟨b, off, ha, Nat.lt_of_lt_of_le hlt hb.size, (hb.cell (p := ⟨b, _, none⟩) hlt).trans hc, (hb.cell (p := ⟨b, _, none⟩) hlt).trans hd, (hb.cell (p := ⟨b, _, none⟩) hlt).trans he, (hb.cell (p := ⟨b, _, none⟩) hlt).trans hf, (hb.cell (p := ⟨b, _, none⟩) hlt).trans hg⟩
theorem SlC.nilS (w : World) : SlC w (.slice none 0 0) [] := ⟨none, 0, rfl, Nat.le_refl _, Nat.zero_le _, fun _ h => absurd h (Nat.not_lt_zero _)⟩
theorem SlF.nilS (w : World) : SlF w (.slice none 0 0) [] := ⟨none, 0, rfl, Nat.le_refl _, Nat.zero_le _, fun _ h => absurd h (Nat.not_lt_zero _)⟩
theorem SlB.nilS (w : World) : SlB w (.slice none 0 0) [] := ⟨none, 0, rfl, Nat.le_refl _, Nat.zero_le _, fun _ h => absurd h (Nat.not_lt_zero _)⟩
theorem Sl.form {l : List Int} (h : Sl w v l) : ∃ a c, v = .slice a l.length c ∧ l.length ≤ c ∧ c ≤ maxLen := by
  obtain ⟨_, a, c, e, h1, h2, _⟩ := h
  exact ⟨a, c, e, h1, h2⟩
theorem SlC.form {l : List (Int × Int)} (h : SlC w v l) : ∃ a c, v = .slice a l.length c ∧ l.length ≤ c ∧ c ≤ maxLen := by
  obtain ⟨a, c, e, h1, h2, _⟩ := h
  exact ⟨a, c, e, h1, h2⟩
theorem SlF.form {l : List Fn3} (h : SlF w v l) : ∃ a c, v = .slice a l.length c ∧ l.length ≤ c ∧ c ≤ maxLen := by
  obtain ⟨a, c, e, h1, h2, _⟩ := h
  exact ⟨a, c, e, h1, h2⟩
theorem SlB.form {l : List In5} (h : SlB w v l) : ∃ a c, v = .slice a l.length c ∧ l.length ≤ c ∧ c ≤ maxLen := by
  obtain ⟨a, c, e, h1, h2, _⟩ := h
  exact ⟨a, c, e, h1, h2⟩
end
/-- what an instruction's words hold for being ints and a uint64 -/
def InX (x : In5) : Prop := InW x ∧ -9223372036854775808 ≤ x.op ∧ x.op ≤ 9223372036854775807
structure Cl (c : Cd) : Prop where
  P : c.P.length ≤ 140737488351232
  C : c.C.length ≤ 140737488351232
  F : c.F.length ≤ 140737488351232
  B : c.B.length ≤ 140737488351232
  L : ∀ f ∈ c.F, f.lo.length ≤ 140737488351232
  I : ∀ x ∈ c.B, InX x
  K : ∀ h ∈ c.C, -9223372036854775808 ≤ h.1 ∧ h.1 ≤ 9223372036854775807
/-- a code's four lists in memory -/
structure Cv (w : World) (vP vC vF vB : Value) (c : Cd) : Prop where
  L : Cl c
  P : Sl w vP c.P
  C : SlC w vC c.C
  F : SlF w vF c.F
  B : SlB w vB c.B
theorem Cv.bel {w w' : World} {vP vC vF vB : Value} {c : Cd} (h : Cv w vP vC vF vB c) (hb : Below w.heap.size w w') : Cv w' vP vC vF vB c := ⟨h.L, h.P.bel hb, h.C.bel hb, h.F.bel hb, h.B.bel hb⟩
theorem all_not {α : Type} {l : List α} {f : α → Bool} {d : α} (k : Nat) (hk : k < l.length) (h : f (l.getD k d) = false) : l.all f = false := by
  rw [List.all_eq_false]
  rw [List.getD_eq_getElem?_getD, List.getElem?_eq_getElem hk] at h
  exact ⟨l[k], List.getElem_mem hk, by simpa using h⟩
theorem all_yes {α : Type} {l : List α} {f : α → Bool} {d : α} (h : ∀ j, j < l.length → f (l.getD j d) = true) : l.all f = true := by
  rw [List.all_eq_true]
  intro x hx
  obtain ⟨i, hi, rfl⟩ := List.mem_iff_getElem.1 hx
  have := h i hi
  rw [List.getD_eq_getElem?_getD, List.getElem?_eq_getElem hi] at this
  simpa using this
end Go.Proofs.YtidjbgemnohbnaaDoor.Ck

/- What package proofread does, as plain functions; no Go text is walked here. -/
namespace Go.Proofs.YtidjbgemnohbnaaDoor.Ck
open Go.RowKit

/-- types that have to be the top ones go -/
def takeM (ts s : List Int) : Option (List Int) := if ts.length ≤ s.length ∧ s.drop (s.length - ts.length) = ts then some (s.take (s.length - ts.length)) else none
def unM (a t : Int) : Option Int := if a = 1 ∧ t ≠ 3 then some t else if a = 2 ∧ t = 3 then some 3 else if a = 3 ∧ t = 2 then some 1 else if a = 4 ∧ t = 1 then some 2 else none
def binM (a f s : Int) : Option Int := if f ≠ s then none else if a = 6 ∨ a = 7 then some 3 else if 8 ≤ a then (if f = 3 then none else some 3) else if a = 5 then (if f = 1 then some f else none) else (if f = 3 then none else some f)
/-- the top one, and what is beneath -/
def popM (s : List Int) : Option (Int × List Int) := match s.getLast? with
  | some t => some (t, s.dropLast)
  | none => none
def unS (a : Int) (s : List Int) : Option (List Int) := (popM s).bind fun p => (unM a p.1).map fun r => p.2 ++ [r]
def binS (a : Int) (s : List Int) : Option (List Int) := (popM s).bind fun p => (popM p.2).bind fun q => (binM a q.1 p.1).map fun r => q.2 ++ [r]
def chanT (c : Cd) (a : Int) : Int := (c.C.getD a.toNat z2).1
def parT (c : Cd) (a : Int) : List Int := (c.F.getD a.toNat zF).lo.take (c.F.getD a.toNat zF).pa.toNat
/-- what an instruction makes of a stack, of which the one behind alone is next -/
def changeM (c : Cd) (lo : List Int) (x : In5) (s : List Int) : Option (List Int) :=
  if x.op = 1 ∨ x.op = 19 then some (s ++ [1])
  else if x.op = 2 then some (s ++ [2])
  else if x.op = 3 then some (s ++ [3])
  else if x.op = 4 then (if x.a < lo.length then some (s ++ [lo.getD x.a.toNat 0]) else none)
  else if x.op = 5 then (if x.a < lo.length then takeM [lo.getD x.a.toNat 0] s else none)
  else if x.op = 6 then some (s ++ [c.P.getD x.a.toNat 0])
  else if x.op = 7 then takeM [c.P.getD x.a.toNat 0] s
  else if x.op = 8 then (takeM [1] s).map fun s' => s' ++ [c.P.getD x.a.toNat 0]
  else if x.op = 9 then takeM [1, c.P.getD x.a.toNat 0] s
  else if x.op = 10 then unS x.a s
  else if x.op = 11 then binS x.a s
  else if x.op = 17 then takeM [chanT c x.a] s
  else if x.op = 18 then some (s ++ [chanT c x.a])
  else if x.op = 20 ∨ x.op = 21 then takeM [1] s
  else if x.op = 22 ∨ x.op = 23 then takeM (parT c x.a) s
  else some s
/-- what is gone through: which were come to, their stacks, those that are left -/
structure Rw16 where
  met : List Bool
  st : List (List Int)
  left : List Nat
def comeM (lo hi : Int) (m : Rw16) (q : Int) (t : List Int) : Option Rw16 :=
  if lo ≤ q ∧ q < hi then
    (if t.length ≤ 64 then
      (if m.met.getD q.toNat false = true then (if m.st.getD q.toNat [] = t then some m else none)
      else some ⟨m.met.set q.toNat true, m.st.set q.toNat t, m.left ++ [q.toNat]⟩)
    else none)
  else none
def jumpM (c : Cd) (lo hi : Int) (m : Rw16) (i : Nat) (s : List Int) : Option Rw16 :=
  if (c.B.getD i zI).a > i ∨ (c.B.getD (c.B.getD i zI).a.toNat zI).op = 24 then comeM lo hi m (c.B.getD i zI).a s else none
def stepM (c : Cd) (f : Fn3) (hi : Int) (m : Rw16) (i : Nat) : Option Rw16 :=
  let s := m.st.getD i []
  let x := c.B.getD i zI
  if x.op = 12 then jumpM c f.st hi m i s
  else if x.op = 13 then (takeM [3] s).bind fun s' => (jumpM c f.st hi m i s').bind fun m' => comeM f.st hi m' (i + 1) s'
  else if x.op = 14 then (jumpM c f.st hi m i s).bind fun m' => (takeM [3] s).bind fun s' => comeM f.st hi m' (i + 1) s'
  else if x.op = 25 then (if s = [] then some m else none)
  else if x.op = 26 then (takeM [1] s).map fun _ => m
  else (changeM c f.lo x s).bind fun s' => comeM f.st hi m (i + 1) s'
theorem takeM_len {ts s s' : List Int} (h : takeM ts s = some s') : s'.length ≤ s.length := by
  unfold takeM at h
  split at h
  · cases h
    rw [List.length_take]
    omega
  · cases h
/-- take, from the last type on: k types are to come -/
theorem takeM_no {ts s : List Int} {k m : Nat} (hk : k + 1 ≤ ts.length) (hm : m + (ts.length - (k + 1)) = s.length) (h : m = 0 ∨ s.getD (m - 1) 0 ≠ ts.getD k 0) : takeM ts s = none := by
  unfold takeM
  rw [if_neg]
  rintro ⟨h1, h2⟩
  rcases h with h | h
  · omega
  · apply h
    have h3 := congrArg (fun l => l.getD k 0) h2
    simp only [List.getD_eq_getElem?_getD, List.getElem?_drop] at h3
    rw [show s.length - ts.length + k = m - 1 by omega] at h3
    simpa [List.getD_eq_getElem?_getD] using h3
theorem takeM_yes {ts s : List Int} {m : Nat} (hm : m + ts.length = s.length) (h : ∀ j, j < ts.length → s.getD (m + j) 0 = ts.getD j 0) : takeM ts s = some (s.take m) := by
  unfold takeM
  rw [if_pos, show s.length - ts.length = m by omega]
  refine ⟨by omega, ?_⟩
  rw [show s.length - ts.length = m by omega]
  apply List.ext_getElem?
  intro j
  rw [List.getElem?_drop]
  by_cases hj : j < ts.length
  · have h1 := h j hj
    simp only [List.getD_eq_getElem?_getD] at h1
    rw [List.getElem?_eq_getElem (show m + j < s.length by omega), List.getElem?_eq_getElem hj] at h1 ⊢
    simpa using h1
  · rw [List.getElem?_eq_none (by omega), List.getElem?_eq_none (by omega)]
theorem popM_snoc (s : List Int) (t : Int) : popM (s ++ [t]) = some (t, s) := by simp [popM]
end Go.Proofs.YtidjbgemnohbnaaDoor.Ck

/- Package proofread: take. -/
namespace Go.Proofs.YtidjbgemnohbnaaDoor.Ck
open Go.RowKit

/-- a call that turns the stack in block b alone: what it leaves, or that it gives up -/
def TkP (p : List Addr) (w : World) (b B : Nat) (o : Option (List Int)) (e : Ending) (w' : World) : Prop := Tn b w w' ∧ match o with
  | some s' => e = .returned (.tuple #[]) ∧ ∃ v', Sk w' b B v' s'
  | none => e = codeStop p
/-- ints in a block that isn't a stack's variable -/
theorem sl_tn {w w' : World} {b : Nat} {v vs : Value} {l : List Int} {a : Option Addr} {n c : Nat} (h : Sl w v l) (hb : w.heap[b]? = some (.cells #[vs] 51 (0, 0))) (hv : vs = .slice a n c) (t : Tn b w w') : Sl w' v l := by
  obtain ⟨hf, a', cap, e, h1, h2, h3⟩ := h
  refine ⟨hf, a', cap, e, h1, h2, fun i hi => ?_⟩
  obtain ⟨g, off, ha, hlt, hc⟩ := h3 i hi
  have hne : g ≠ b := fun e => by
    subst e
    have h4 : w.cell? ⟨g, off + i, none⟩ = (#[vs])[off + i]? := by simp [World.cell?, hb]
    rw [h4, hv] at hc
    by_cases h0 : off + i = 0
    · rw [h0] at hc
      cases hc
    · rw [Array.getElem?_eq_none (by simp; omega)] at hc
      cases hc
  refine ⟨g, off, ha, Nat.lt_of_lt_of_le hlt t.size, ?_⟩
  unfold World.cell? at hc ⊢
  rw [t.blk g hlt hne]
  exact hc
theorem Ec.tn {w w' : World} {p : List Addr} {b : Nat} (h : Ec w p) (t : Tn b w w') (hb : 8 ≠ b) : Ec w' p := by
  have hl := World.block_lt_of_cell? w _ h
  unfold Ec World.cell? at h ⊢
  rw [t.blk _ hl hb]
  exact h
theorem Sk.slice {w : World} {b B : Nat} {v : Value} {s : List Int} (h : Sk w b B v s) : ∃ a c, v = .slice a s.length c := by
  obtain ⟨a, c, e, _⟩ := own_slice h.row
  exact ⟨a, c, e⟩
theorem Ec.nb {w : World} {p : List Addr} {b : Nat} {v : Value} {a : Option Addr} {n c : Nat} (h : Ec w p) (hb : w.heap[b]? = some (.cells #[v] 51 (0, 0))) (hv : v = .slice a n c) : 8 ≠ b := fun e => by
  unfold Ec at h
  rw [e] at h
  have := (blk_cell hb 0 _ rfl).symm.trans h
  rw [hv] at this
  cases this
set_option maxRecDepth 20000 in
set_option maxHeartbeats 2000000 in
theorem take_any {w : World} {p : List Addr} {b B : Nat} {v : Value} {s ts : List Int} {aT : Option Addr} {cT : Nat} (hc : Ec w p) (h : Sk w b B v s) (hT : Sl w (.slice aT ts.length cT) ts) (hn : ts.length ≤ 1000) : Calls Tryd.prog 44 #[.pointer (some ⟨b, 0, none⟩), .slice aT ts.length cT] w (TkP p w b B (takeM ts s)) := by
  obtain ⟨n, hn0⟩ : ∃ n, n = ts.length := ⟨_, rfl⟩
  have HN := hide hn0
  have hnn : n ≤ 1000 := by omega
  have hw : wrap64 ((n : Int) - 1) = (n : Int) - 1 := by unfold wrap64; omega
  rw [← hn0] at hT ⊢
  have H0 : Hid (∃ v m, Sk w b B v (s.take m) ∧ Sl w (.slice aT n cT) ts ∧ Ec w p ∧ Tn b w w ∧ m + (n - n) = s.length ∧ ∀ j, n ≤ j → j < n → s.getD (m + (j - n)) 0 = ts.getD j 0) := hide ⟨v, s.length, by rw [List.take_length]; exact h, hT, hc, Tn.refl _ _, by omega, fun j h1 h2 => by omega⟩
  clear h hT hc hn hn0
  go_enter Tryd.func44, Tryd.ntmps44
  go_wp2_with fail
  go_loopw [4] (fun x4 wr => ∃ k : Nat, k ≤ n ∧ x4 = .int .i64 ((k : Int) - 1) ∧ Hid (∃ v m, Sk wr b B v (s.take m) ∧ Sl wr (.slice aT n cT) ts ∧ Ec wr p ∧ Tn b w wr ∧ m + (n - k) = s.length ∧ ∀ j, k ≤ j → j < n → s.getD (m + (j - k)) 0 = ts.getD j 0)) (fun x4 _ => (intOf x4 + 1).toNat)
  case atStart => exact ⟨n, Nat.le_refl _, rfl, H0⟩
  case round =>
    obtain ⟨k, hk, rfl, HI⟩ := hrel
    clear H0
    obtain ⟨v1, m, k1, sl, ec, tn, hm, hall⟩ := HI.out
    by_cases h0 : k = 0
    · subst h0
      have HT : Hid (TkP p w b B (takeM ts s) (.returned (.tuple #[])) wr) := hide (by
        rw [takeM_yes (m := m) (by have := HN.out; omega) (fun j hj => hall j (by omega) (by have := HN.out; omega))]
        exact ⟨tn, rfl, v1, k1⟩)
      clear HI v1 m k1 sl ec tn hm hall HN
      rw [show ((0 : Nat) : Int) - 1 = -1 from rfl]
      go_wp2_with fail
      go_end0
      exact HT.out
    · obtain ⟨j, rfl⟩ : ∃ j, k = j + 1 := ⟨k - 1, by omega⟩
      have ej : ((j + 1 : Nat) : Int) - 1 = (j : Int) := by omega
      have hjn : (j : Int) < (n : Int) := by omega
      have hw2 : wrap64 ((j : Int) - 1) = (j : Int) - 1 := by unfold wrap64; omega
      obtain ⟨bT, oT, rfl, hbT, cT1⟩ := sl.at j (by omega)
      obtain ⟨t, ht⟩ : ∃ t, t = ts.getD j 0 := ⟨_, rfl⟩
      rw [← ht] at cT1
      have HSL := hide sl
      have HK := hide k1
      have HEC := hide ec
      have HTN := hide tn
      have HM := hide (And.intro hm (And.intro hall ht))
      have hd : wr.drew.cell? ⟨bT, oT + j, none⟩ = some (.int .i64 t) := cT1
      have BD : Below wr.heap.size wr wr.drew := bel_drawn (Below.refl _ _)
      have HKD := hide (k1.bel BD)
      have HSD := hide (sl.bel BD)
      have HED := hide (ec.bel BD)
      have HTD := hide (tn.trans (Tn.of_bel BD))
      obtain ⟨a1, c1, e1⟩ := k1.slice
      clear HI k1 sl ec tn hm hall cT1 BD ht
      rw [ej]
      clear ej
      go_upto_region 3 with fail
      refine wp_region_T (S := fun w' => w'.cell? ⟨bT, oT + j, none⟩ = some (.int .i64 t)) (fun _ => true) mixed hd (fun hH => ?_)
      generalize wr.drew = wd at *
      refine Tm 0 ?_
      simp only [Act.put, SA]
      refine Tm 2 ?_
      simp only [Act.put, SA]
      refine Tm 3 ?_
      simp only [Act.put, SA]
      refine Tm 4 ?_
      simp only [Act.put, SA]
      refine Tl 5 (v := ?_) ?_ hH ?_
      rotate_left 1
      · (intro w hSw; go_simp <;> with_reducible rfl)
      simp only [Act.put, SA]
      refine Tr 1 (fun K1 hK1 => ?_)
      go_simp
      by_cases m0 : m = 0
      · subst m0
        refine (pop_none (B := B) (v := v1) HED.out (by have := HKD.out; simpa using this)).mono ?_
        rintro e w5 ⟨rfl, rfl⟩
        refine ⟨rfl, ?_⟩
        rw [takeM_no (k := j) (m := 0) (by have := HN.out; omega) (by have := HN.out; have := HM.out.1; omega) (.inl rfl)]
        exact ⟨HTD.out, rfl⟩
      · obtain ⟨m', rfl⟩ : ∃ q, m = q + 1 := ⟨m - 1, by omega⟩
        have hms : m' < s.length := by have := HM.out.1; omega
        have es : s.take (m' + 1) = s.take m' ++ [s.getD m' 0] := by
          rw [List.take_add_one, List.getD_eq_getElem?_getD, List.getElem?_eq_getElem hms]
          rfl
        have HKD2 := hide (es ▸ HKD.out)
        obtain ⟨t0, ht0⟩ : ∃ t, t = s.getD m' 0 := ⟨_, rfl⟩
        rw [← ht0] at HKD2
        have HT0 := hide (And.intro ht0 hms)
        clear ht0 hms es
        refine (pop_some HKD2.out).mono ?_
        rintro e w5 ⟨rfl, ⟨v2, k2⟩, t2⟩
        have hS5 := sl_tn HSD.out HKD.out.at_ e1 t2
        have hc5 : w5.cell? ⟨bT, oT + j, none⟩ = some (.int .i64 t) := by
          obtain ⟨b9, o9, e9, _, q9⟩ := hS5.at j (by omega)
          cases e9
          rw [HM.out.2.2]
          exact q9
        have HE5 := hide (HED.out.tn t2 (HED.out.nb HKD.out.at_ e1))
        have HT5 := hide (HTD.out.trans t2)
        have HK5 := hide k2
        have HS5 := hide hS5
        have HC5 := hide hc5
        refine hK1.out _ _ (fun _ => hc5) (fun _ => ?_)
        clear hK1 K1 k2 t2 hS5 hc5 HKD HKD2 HSD HED HTD hH
        refine Tm 6 ?_
        simp only [Act.put, SA]
        refine Tr 7 (fun K1 hK1 => ?_)
        go_simp
        by_cases heq : t0 = t
        · have hb : (t0 == t) = true := by simp [heq]
          have REL : Hid (∃ v m, Sk w5 b B v (s.take m) ∧ Sl w5 (.slice (some ⟨bT, oT, none⟩) n cT) ts ∧ Ec w5 p ∧ Tn b w w5 ∧ m + (n - j) = s.length ∧ ∀ i, j ≤ i → i < n → s.getD (m + (i - j)) 0 = ts.getD i 0) := hide ⟨v2, m', HK5.out, HS5.out, HE5.out, HT5.out, by have := HM.out.1; omega, fun i h1 h2 => by
            by_cases e : i = j
            · subst e
              rw [Nat.sub_self, Nat.add_zero, ← HT0.out.1, heq, HM.out.2.2]
            · have h3 := HM.out.2.1 i (by omega) h2
              rw [show m' + (i - j) = m' + 1 + (i - (j + 1)) by omega]
              exact h3⟩
          rw [hb]
          clear hb heq
          refine (pmust_yes _).mono ?_
          rintro e w6 ⟨rfl, rfl⟩
          refine hK1.out _ _ (fun _ => HC5.out) (fun _ => ?_)
          clear hK1 K1
          refine T_done (by kernel_rfl) ?_ _
          go_wp2_with fail
          go_roundw
          case rel => exact ⟨j, by omega, rfl, REL.out⟩
          case measure => simp [intOf]
        · have hb : (t0 == t) = false := by simp [heq]
          have HF : Hid (TkP p w b B (takeM ts s) (codeStop p) w5) := hide (by
            rw [takeM_no (k := j) (m := m' + 1) (by have := HN.out; omega) (by have := HN.out; have := HM.out.1; omega) (.inr (by rw [Nat.add_sub_cancel, ← HT0.out.1, ← HM.out.2.2]; exact heq))]
            exact ⟨HT5.out, rfl⟩)
          rw [hb]
          clear hb heq
          refine (pmust_no HE5.out).mono ?_
          rintro e w6 ⟨rfl, rfl⟩
          exact ⟨rfl, HF.out⟩
end Go.Proofs.YtidjbgemnohbnaaDoor.Ck
