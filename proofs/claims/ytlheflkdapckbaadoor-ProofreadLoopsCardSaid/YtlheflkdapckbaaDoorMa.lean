/- What package code does, as plain functions: codes, their form, their bytes; no Go text is walked here. -/
import Derived.Test.YtlheflkdapckbaaDoorBase
namespace Go.Proofs.YtlheflkdapckbaaDoor.Ck
open Go.RowKit

/-- an instruction -/
structure In5 where
  op : Int
  a : Int
  b : Int
  bits : Int
  at_ : Int
structure Fn3 where
  st : Int
  pa : Int
  lo : List Int
structure Cd where
  P : List Int
  M : Int
  A : Int
  C : List (Int × Int)
  F : List Fn3
  B : List In5
  mn : Int
def inN (n : Int) (c : Nat) : Bool := decide (0 ≤ n) && decide (n < (c : Int))
def inI (n c : Int) : Bool := decide (0 ≤ n) && decide (n < c)
def typB (t : Int) : Bool := decide (1 ≤ t) && decide (t ≤ 3)
/-- a row of b places from a on, of one type -/
def rowB (P : List Int) (a b : Int) : Bool := (List.range b.toNat).all fun i => P.getD (a.toNat + i) 0 == P.getD a.toNat 0
def insB (c : Cd) (x : In5) : Bool := decide (0 ≤ x.at_) && (decide (x.at_ ≤ 8192) &&
  (if x.op = 1 then decide (0 ≤ x.a) && (x.b == 0 && x.bits == 0)
  else if x.op = 2 then x.a == 0 && x.b == 0
  else if x.op = 3 then inI x.a 2 && (x.b == 0 && x.bits == 0)
  else if x.op = 4 ∨ x.op = 5 then inI x.a 32 && (x.b == 0 && x.bits == 0)
  else if x.op = 6 ∨ x.op = 7 then inN x.a c.P.length && (x.b == 0 && x.bits == 0)
  else if x.op = 8 ∨ x.op = 9 then (decide (1 ≤ x.b) && decide (x.b ≤ 64) && inN x.a c.P.length && decide (x.b ≤ (c.P.length : Int) - x.a) && rowB c.P x.a x.b) && x.bits == 0
  else if x.op = 10 then (decide (1 ≤ x.a) && decide (x.a ≤ 4)) && (x.b == 0 && x.bits == 0)
  else if x.op = 11 then (decide (1 ≤ x.a) && decide (x.a ≤ 11)) && (x.b == 0 && x.bits == 0)
  else if x.op = 12 then inN x.a c.B.length && (x.b == 0 && x.bits == 0)
  else if x.op = 13 ∨ x.op = 14 then inN x.a c.B.length && inI x.b 2 && x.bits == 0
  else if x.op = 15 ∨ x.op = 16 then inI x.a c.M && (x.b == 0 && x.bits == 0)
  else if x.op = 17 ∨ x.op = 18 then inN x.a c.C.length && (x.b == 0 && x.bits == 0)
  else if x.op = 19 ∨ x.op = 20 ∨ x.op = 21 then inI x.a c.A && (x.b == 0 && x.bits == 0)
  else if x.op = 22 ∨ x.op = 23 then inN x.a c.F.length && (x.b == 0 && x.bits == 0)
  else if x.op = 24 ∨ x.op = 25 ∨ x.op = 26 then x.a == 0 && (x.b == 0 && x.bits == 0)
  else false))
def chB (h : Int × Int) : Bool := typB h.1 && (decide (0 ≤ h.2) && decide (h.2 ≤ 8))
def fnB (n : Nat) (f : Fn3) : Bool := inN f.st n && (decide (0 ≤ f.pa) && (decide (f.pa ≤ 4) && (decide (f.pa ≤ f.lo.length) && (decide (f.lo.length ≤ 32) && f.lo.all typB))))
/-- each Start is greater than the one ahead -/
def stB : Int → List Fn3 → Bool
  | _, [] => true
  | p, f :: l => decide (p < f.st) && stB f.st l
def mainB (c : Cd) : Bool := if 0 ≤ c.mn then (match c.F[c.mn.toNat]? with | some f => f.pa == 0 | none => false) else false
def formB (c : Cd) : Bool :=
  (decide (c.P.length ≤ 128) && decide (0 ≤ c.M) && decide (0 ≤ c.A) && decide (c.M + c.A + c.C.length ≤ 32) && decide (c.F.length ≤ 16) && decide (c.B.length ≤ 8192) && mainB c) &&
  (c.P.all typB && c.C.all chB && c.F.all (fnB c.B.length) && (match c.F with | [] => true | f :: l => f.st == 0 && stB 0 l) && c.B.all (insB c))
/-- a number as so many bytes, the high one first -/
def bigL : Nat → Int → List Int
  | 0, _ => []
  | n + 1, u => bigL n (u / 256) ++ [u % 256]
def numL (l : List Int) : Int := l.foldl (fun u b => u * 256 + b) 0
def Byt (l : List Int) : Prop := ∀ b ∈ l, 0 ≤ b ∧ b < 256
theorem bigL_len : ∀ (n : Nat) (u : Int), (bigL n u).length = n
  | 0, _ => rfl
  | n + 1, u => by simp [bigL, bigL_len n]
theorem bigL_byt : ∀ (n : Nat) (u : Int), Byt (bigL n u)
  | 0, _ => fun b h => by cases h
  | n + 1, u => fun b h => by
    simp only [bigL, List.mem_append, List.mem_singleton] at h
    rcases h with h | h
    · exact bigL_byt n _ b h
    · subst h
      omega
theorem numL_snoc (l : List Int) (b : Int) : numL (l ++ [b]) = numL l * 256 + b := by simp [numL, List.foldl_append]
theorem num_big : ∀ (n : Nat) (u : Int), 0 ≤ u → u < 256 ^ n → numL (bigL n u) = u
  | 0, u, h0, h1 => by
    simp at h1
    have : u = 0 := by omega
    subst this
    rfl
  | n + 1, u, h0, h1 => by
    have h2 : u / 256 < 256 ^ n := by
      rw [Int.pow_succ] at h1
      exact Int.ediv_lt_of_lt_mul (by omega) h1
    simp only [bigL, numL_snoc, num_big n (u / 256) (by omega) h2]
    omega
theorem snoc_of {α : Type} {l : List α} {n : Nat} (h : l.length = n + 1) : ∃ m x, l = m ++ [x] ∧ m.length = n := by
  refine ⟨l.dropLast, l.getLast (by intro e; simp [e] at h), (List.dropLast_concat_getLast _).symm, by simp [h]⟩
theorem num_rng : ∀ (n : Nat) (l : List Int), l.length = n → Byt l → 0 ≤ numL l ∧ numL l < 256 ^ n
  | 0, l, h, _ => by
    have : l = [] := List.length_eq_zero_iff.1 h
    subst this
    exact ⟨Int.le_refl _, by decide⟩
  | n + 1, l, h, hb => by
    obtain ⟨m, x, rfl, hm⟩ := snoc_of h
    have h1 := num_rng n m hm (fun b hq => hb b (List.mem_append_left _ hq))
    have h2 := hb x (by simp)
    rw [numL_snoc, Int.pow_succ]
    omega
theorem big_num : ∀ (n : Nat) (l : List Int), l.length = n → Byt l → bigL n (numL l) = l
  | 0, l, h, _ => by
    have : l = [] := List.length_eq_zero_iff.1 h
    subst this
    rfl
  | n + 1, l, h, hb => by
    obtain ⟨m, x, rfl, hm⟩ := snoc_of h
    have h1 := big_num n m hm (fun b hq => hb b (List.mem_append_left _ hq))
    have h2 := hb x (by simp)
    rw [numL_snoc]
    simp only [bigL]
    rw [show (numL m * 256 + x) / 256 = numL m by omega, show (numL m * 256 + x) % 256 = x by omega, h1]
/-- reading: what is read, and what is left -/
def Pz (α : Type) := List Int → Option (α × List Int)
def rNum (n : Nat) : Pz Int := fun l => if n ≤ l.length then some (numL (l.take n), l.drop n) else none
def rBind {α β : Type} (p : Pz α) (f : α → Pz β) : Pz β := fun l => match p l with
  | some (x, r) => f x r
  | none => none
def rPure {α : Type} (x : α) : Pz α := fun l => some (x, l)
def rRep {α : Type} (p : Pz α) : Nat → Pz (List α)
  | 0 => rPure []
  | n + 1 => rBind p fun x => rBind (rRep p n) fun l => rPure (x :: l)
def rChan : Pz (Int × Int) := rBind (rNum 4) fun t => rBind (rNum 4) fun r => rPure (t, r)
def rFn : Pz Fn3 := rBind (rNum 4) fun s => rBind (rNum 4) fun p => rBind (rNum 4) fun n => rBind (rRep (rNum 4) n.toNat) fun l => rPure ⟨s, p, l⟩
def rIns : Pz In5 := rBind (rNum 1) fun o => rBind (rNum 8) fun a => rBind (rNum 4) fun b => rBind (rNum 8) fun t => rBind (rNum 4) fun k => rPure ⟨o, wrap64 a, b, t, k⟩
def rCode : Pz Cd := rBind (rNum 4) fun n0 => rBind (rNum 4) fun n1 => rBind (rNum 4) fun n2 => rBind (rNum 4) fun n3 => rBind (rNum 4) fun n4 => rBind (rNum 4) fun n5 => rBind (rNum 4) fun n6 =>
  rBind (rRep (rNum 4) n0.toNat) fun P => rBind (rRep rChan n3.toNat) fun C => rBind (rRep rFn n4.toNat) fun F => rBind (rRep rIns n5.toNat) fun B => rPure ⟨P, n1, n2, C, F, B, n6⟩
/-- the code of bytes -/
def codeB (l : List Int) : Option Cd := match rCode l with
  | some (c, []) => if formB c = true then some c else none
  | _ => none
def wChan (h : Int × Int) : List Int := bigL 4 h.1 ++ bigL 4 h.2
def wFn (f : Fn3) : List Int := bigL 4 f.st ++ (bigL 4 f.pa ++ (bigL 4 (f.lo.length : Int) ++ f.lo.flatMap (bigL 4)))
def wIns (x : In5) : List Int := bigL 1 x.op ++ (bigL 8 x.a ++ (bigL 4 x.b ++ (bigL 8 x.bits ++ bigL 4 x.at_)))
/-- a code's bytes -/
def bytesL (c : Cd) : List Int := bigL 4 (c.P.length : Int) ++ (bigL 4 c.M ++ (bigL 4 c.A ++ (bigL 4 (c.C.length : Int) ++ (bigL 4 (c.F.length : Int) ++ (bigL 4 (c.B.length : Int) ++ (bigL 4 c.mn ++
  (c.P.flatMap (bigL 4) ++ (c.C.flatMap wChan ++ (c.F.flatMap wFn ++ c.B.flatMap wIns)))))))))
/-- p reads x off s, whatever follows -/
def Reads {α : Type} (p : Pz α) (x : α) (s : List Int) : Prop := ∀ m, p (s ++ m) = some (x, m)
section
variable {α β : Type}
theorem Reads.num {n : Nat} {u : Int} (h0 : 0 ≤ u) (h1 : u < 256 ^ n) : Reads (rNum n) u (bigL n u) := fun m => by
  unfold rNum
  rw [if_pos (by simp [bigL_len]), List.take_left' (bigL_len n u), List.drop_left' (bigL_len n u), num_big n u h0 h1]
theorem Reads.bind {p : Pz α} {f : α → Pz β} {x : α} {y : β} {s t : List Int} (h1 : Reads p x s) (h2 : Reads (f x) y t) : Reads (rBind p f) y (s ++ t) := fun m => by
  unfold rBind
  rw [List.append_assoc, h1 (t ++ m)]
  exact h2 m
theorem Reads.last {p : Pz α} {f : α → Pz β} {x : α} {y : β} {s : List Int} (h1 : Reads p x s) (h2 : Reads (f x) y []) : Reads (rBind p f) y s := by
  have := h1.bind h2
  rw [List.append_nil] at this
  exact this
theorem Reads.pure (x : α) : Reads (rPure x) x [] := fun _ => rfl
theorem Reads.rep {p : Pz α} {q : α → List Int} : ∀ (l : List α), (∀ x ∈ l, Reads p x (q x)) → Reads (rRep p l.length) l (l.flatMap q)
  | [], _ => Reads.pure []
  | x :: l, h => by
    rw [List.flatMap_cons]
    exact (h x (List.mem_cons_self ..)).bind ((Reads.rep l fun y hy => h y (List.mem_cons_of_mem _ hy)).last (Reads.pure _))
/-- more behind changes nothing but what is left -/
def More (p : Pz α) : Prop := ∀ l x r m, p l = some (x, r) → p (l ++ m) = some (x, r ++ m)
theorem More.num (n : Nat) : More (rNum n) := fun l x r m h => by
  unfold rNum at h ⊢
  split at h
  · rename_i hn
    cases h
    rw [if_pos (by simp; omega), List.take_append_of_le_length hn, List.drop_append_of_le_length hn]
  · cases h
theorem More.pure (x : α) : More (rPure x) := fun l y r m h => by cases h; rfl
theorem More.bind {p : Pz α} {f : α → Pz β} (h1 : More p) (h2 : ∀ x, More (f x)) : More (rBind p f) := fun l y r m h => by
  unfold rBind at h ⊢
  cases hp : p l with
  | none => rw [hp] at h; cases h
  | some q =>
    obtain ⟨x, r1⟩ := q
    rw [hp] at h
    rw [h1 l x r1 m hp]
    exact h2 x r1 y r m h
theorem More.rep {p : Pz α} (h : More p) : ∀ n, More (rRep p n)
  | 0 => More.pure []
  | n + 1 => h.bind fun _ => (More.rep h n).bind fun _ => More.pure _
end
theorem more_code : More rCode :=
  (More.num 4).bind fun _ => (More.num 4).bind fun _ => (More.num 4).bind fun _ => (More.num 4).bind fun _ => (More.num 4).bind fun _ => (More.num 4).bind fun _ => (More.num 4).bind fun _ =>
    ((More.num 4).rep _).bind fun _ => (More.rep ((More.num 4).bind fun _ => (More.num 4).bind fun _ => More.pure _) _).bind fun _ =>
      (More.rep ((More.num 4).bind fun _ => (More.num 4).bind fun _ => (More.num 4).bind fun _ => ((More.num 4).rep _).bind fun _ => More.pure _) _).bind fun _ =>
        (More.rep ((More.num 1).bind fun _ => (More.num 8).bind fun _ => (More.num 4).bind fun _ => (More.num 8).bind fun _ => (More.num 4).bind fun _ => More.pure _) _).bind fun _ => More.pure _
section
theorem p256_4 : (256 : Int) ^ 4 = 4294967296 := by decide
theorem p256_8 : (256 : Int) ^ 8 = 18446744073709551616 := by decide
theorem p256_1 : (256 : Int) ^ 1 = 256 := by decide
theorem r4 {u : Int} (h0 : 0 ≤ u) (h1 : u < 4294967296) : Reads (rNum 4) u (bigL 4 u) := Reads.num h0 (by rw [p256_4]; exact h1)
theorem r8 {u : Int} (h0 : 0 ≤ u) (h1 : u < 18446744073709551616) : Reads (rNum 8) u (bigL 8 u) := Reads.num h0 (by rw [p256_8]; exact h1)
theorem r1 {u : Int} (h0 : 0 ≤ u) (h1 : u < 256) : Reads (rNum 1) u (bigL 1 u) := Reads.num h0 (by rw [p256_1]; exact h1)
/-- numbers that fit their bytes -/
def Sm (u : Int) : Prop := 0 ≤ u ∧ u < 4294967296
theorem Sm.r {u : Int} (h : Sm u) : Reads (rNum 4) u (bigL 4 u) := r4 h.1 h.2
def FnS (f : Fn3) : Prop := Sm f.st ∧ Sm f.pa ∧ Sm (f.lo.length : Int) ∧ ∀ x ∈ f.lo, Sm x
def InS (x : In5) : Prop := (0 ≤ x.op ∧ x.op < 256) ∧ (0 ≤ x.a ∧ x.a < 9223372036854775808) ∧ Sm x.b ∧ (0 ≤ x.bits ∧ x.bits < 18446744073709551616) ∧ Sm x.at_
structure CdS (c : Cd) : Prop where
  np : Sm (c.P.length : Int)
  nm : Sm c.M
  na : Sm c.A
  nc : Sm (c.C.length : Int)
  nf : Sm (c.F.length : Int)
  nb : Sm (c.B.length : Int)
  mn : Sm c.mn
  ps : ∀ x ∈ c.P, Sm x
  cs : ∀ h ∈ c.C, Sm h.1 ∧ Sm h.2
  fs : ∀ f ∈ c.F, FnS f
  bs : ∀ x ∈ c.B, InS x
theorem reads_chan {h : Int × Int} (h1 : Sm h.1) (h2 : Sm h.2) : Reads rChan h (wChan h) := h1.r.bind (h2.r.last (Reads.pure _))
theorem reads_fn {f : Fn3} (h : FnS f) : Reads rFn f (wFn f) := by
  obtain ⟨h1, h2, h3, h4⟩ := h
  refine h1.r.bind (h2.r.bind (h3.r.bind ?_))
  have := Reads.rep (p := rNum 4) (q := bigL 4) f.lo (fun x hx => (h4 x hx).r)
  exact Reads.last (by rw [Int.toNat_natCast]; exact this) (Reads.pure _)
theorem reads_ins {x : In5} (h : InS x) : Reads rIns x (wIns x) := by
  obtain ⟨⟨a1, a2⟩, ⟨b1, b2⟩, h3, ⟨d1, d2⟩, h5⟩ := h
  refine (r1 a1 a2).bind ((r8 b1 (by omega)).bind (h3.r.bind ((r8 d1 d2).bind (h5.r.last ?_))))
  have : wrap64 x.a = x.a := by unfold wrap64; omega
  rw [this]
  exact Reads.pure _
theorem reads_code {c : Cd} (h : CdS c) : Reads rCode c (bytesL c) := by
  refine h.np.r.bind (h.nm.r.bind (h.na.r.bind (h.nc.r.bind (h.nf.r.bind (h.nb.r.bind (h.mn.r.bind ?_))))))
  simp only [Int.toNat_natCast]
  exact (Reads.rep c.P (fun x hx => (h.ps x hx).r)).bind ((Reads.rep c.C (fun x hx => reads_chan (h.cs x hx).1 (h.cs x hx).2)).bind
    ((Reads.rep c.F (fun x hx => reads_fn (h.fs x hx))).bind ((Reads.rep c.B (fun x hx => reads_ins (h.bs x hx))).last (Reads.pure _))))
theorem code_bytes {c : Cd} (hf : formB c = true) (h : CdS c) : codeB (bytesL c) = some c := by
  have := reads_code h []
  rw [List.append_nil] at this
  unfold codeB
  rw [this]
  simp [hf]
/-- no shorter piece of a code's bytes is a code's -/
theorem code_cut {c : Cd} (h : CdS c) {l m : List Int} (e : bytesL c = l ++ m) (hm : m ≠ []) : codeB l = none := by
  have hr := reads_code h []
  rw [List.append_nil] at hr
  unfold codeB
  cases hc : rCode l with
  | none => rfl
  | some q =>
    obtain ⟨d, r⟩ := q
    have h2 := more_code l d r m hc
    rw [← e, hr] at h2
    cases r with
    | cons a r => rfl
    | nil =>
      simp at h2
      exact absurd h2.2.symm (by simpa using hm)
/-- nor is anything longer -/
theorem code_long {c : Cd} (h : CdS c) {m : List Int} (hm : m ≠ []) : codeB (bytesL c ++ m) = none := by
  unfold codeB
  rw [reads_code h m]
  cases m with
  | nil => exact absurd rfl hm
  | cons a m => rfl
/-- the way back: what was read is what is written -/
def Back {α : Type} (p : Pz α) (w : α → List Int) : Prop := ∀ l x r, Byt l → p l = some (x, r) → l = w x ++ r
theorem Byt.right {l m : List Int} (h : Byt (l ++ m)) : Byt m := fun b hb => h b (List.mem_append_right _ hb)
theorem Back.num (n : Nat) : Back (rNum n) (bigL n) := fun l x r hb h => by
  unfold rNum at h
  split at h
  · rename_i hn
    cases h
    rw [big_num n (l.take n) (by simp; omega) (fun b hq => hb b (List.mem_of_mem_take hq)), List.take_append_drop]
  · cases h
theorem back_bind {α β : Type} {p : Pz α} {w : α → List Int} {f : α → Pz β} {l : List Int} {y : β} {r : List Int} (hp : Back p w) (hb : Byt l) (h : rBind p f l = some (y, r)) :
    ∃ x m, l = w x ++ m ∧ Byt m ∧ f x m = some (y, r) := by
  unfold rBind at h
  cases hq : p l with
  | none => rw [hq] at h; cases h
  | some q =>
    obtain ⟨x, m⟩ := q
    rw [hq] at h
    have e := hp l x m hb hq
    exact ⟨x, m, e, Byt.right (e ▸ hb), h⟩
theorem Back.rep {α : Type} {p : Pz α} {w : α → List Int} (hp : Back p w) : ∀ n l (x : List α) r, Byt l → rRep p n l = some (x, r) → l = x.flatMap w ++ r ∧ x.length = n
  | 0, l, x, r, _, h => by
    cases h
    exact ⟨rfl, rfl⟩
  | n + 1, l, x, r, hb, h => by
    obtain ⟨y, m, e, hm, h⟩ := back_bind hp hb h
    unfold rBind at h
    cases hq : rRep p n m with
    | none => rw [hq] at h; cases h
    | some q =>
      obtain ⟨z, m2⟩ := q
      rw [hq] at h
      obtain ⟨e2, e3⟩ := Back.rep hp n m z m2 hm hq
      cases h
      exact ⟨by rw [e, e2, List.flatMap_cons, List.append_assoc], by simp [e3]⟩
theorem bigL_mod : ∀ (n : Nat) (u k : Int), bigL n (u + k * 256 ^ n) = bigL n u
  | 0, _, _ => rfl
  | n + 1, u, k => by
    have e : u + k * 256 ^ (n + 1) = u + (k * 256 ^ n) * 256 := by rw [Int.pow_succ, Int.mul_assoc]
    simp only [bigL]
    rw [e, show (u + (k * 256 ^ n) * 256) / 256 = u / 256 + k * 256 ^ n by omega, show (u + (k * 256 ^ n) * 256) % 256 = u % 256 by omega, bigL_mod n]
theorem big_wrap (u : Int) : bigL 8 (wrap64 u) = bigL 8 u := by
  obtain ⟨k, hk⟩ : ∃ k, wrap64 u = u + k * 256 ^ 8 := by
    refine ⟨(wrap64 u - u) / 256 ^ 8, ?_⟩
    rw [p256_8]
    unfold wrap64
    omega
  rw [hk, bigL_mod]
theorem back_chan : Back rChan wChan := fun l x r hb h => by
  obtain ⟨a, m, e, hm, h⟩ := back_bind (Back.num 4) hb h
  obtain ⟨b, m2, e2, _, h⟩ := back_bind (Back.num 4) hm h
  cases h
  simp only [wChan, e, e2, List.append_assoc]
theorem back_rep {α β : Type} {p : Pz α} {w : α → List Int} {n : Nat} {f : List α → Pz β} {l : List Int} {y : β} {r : List Int} (hp : Back p w) (hb : Byt l) (h : rBind (rRep p n) f l = some (y, r)) :
    ∃ x m, l = x.flatMap w ++ m ∧ x.length = n ∧ Byt m ∧ f x m = some (y, r) := by
  unfold rBind at h
  cases hq : rRep p n l with
  | none => rw [hq] at h; cases h
  | some q =>
    obtain ⟨x, m⟩ := q
    rw [hq] at h
    obtain ⟨e, e2⟩ := Back.rep hp n l x m hb hq
    exact ⟨x, m, e, e2, Byt.right (e ▸ hb), h⟩
theorem back_num {β : Type} {n : Nat} {f : Int → Pz β} {l : List Int} {y : β} {r : List Int} (hb : Byt l) (h : rBind (rNum n) f l = some (y, r)) :
    ∃ x m, l = bigL n x ++ m ∧ 0 ≤ x ∧ Byt m ∧ f x m = some (y, r) := by
  unfold rBind at h
  cases hq : rNum n l with
  | none => rw [hq] at h; cases h
  | some q =>
    obtain ⟨x, m⟩ := q
    rw [hq] at h
    have e := Back.num n l x m hb hq
    refine ⟨x, m, e, ?_, Byt.right (e ▸ hb), h⟩
    unfold rNum at hq
    split at hq
    · cases hq
      exact (num_rng _ (l.take n) rfl (fun b hq => hb b (List.mem_of_mem_take hq))).1
    · cases hq
theorem back_fn : Back rFn wFn := fun l x r hb h => by
  obtain ⟨a, m, e, _, hm, h⟩ := back_num hb h
  obtain ⟨b, m2, e2, _, hm2, h⟩ := back_num hm h
  obtain ⟨n, m3, e3, hn, hm3, h⟩ := back_num hm2 h
  obtain ⟨lo, m4, e4, hl, _, h⟩ := back_rep (Back.num 4) hm3 h
  cases h
  have en : ((lo.length : Nat) : Int) = n := by rw [hl, Int.toNat_of_nonneg hn]
  simp only [wFn, en, e, e2, e3, e4, List.append_assoc]
theorem back_ins : Back rIns wIns := fun l x r hb h => by
  obtain ⟨o, m, e, _, hm, h⟩ := back_num hb h
  obtain ⟨a, m2, e2, _, hm2, h⟩ := back_num hm h
  obtain ⟨b, m3, e3, _, hm3, h⟩ := back_num hm2 h
  obtain ⟨t, m4, e4, _, hm4, h⟩ := back_num hm3 h
  obtain ⟨k, m5, e5, _, _, h⟩ := back_num hm4 h
  cases h
  simp only [wIns, big_wrap, e, e2, e3, e4, e5, List.append_assoc]
theorem back_code : Back rCode bytesL := fun l x r hb h => by
  obtain ⟨n0, m0, e0, h0, hb, h⟩ := back_num hb h
  obtain ⟨n1, m1, e1, _, hb, h⟩ := back_num hb h
  obtain ⟨n2, m2, e2, _, hb, h⟩ := back_num hb h
  obtain ⟨n3, m3, e3, h3, hb, h⟩ := back_num hb h
  obtain ⟨n4, m4, e4, h4, hb, h⟩ := back_num hb h
  obtain ⟨n5, m5, e5, h5, hb, h⟩ := back_num hb h
  obtain ⟨n6, m6, e6, _, hb, h⟩ := back_num hb h
  obtain ⟨P, m7, e7, l7, hb, h⟩ := back_rep (Back.num 4) hb h
  obtain ⟨C, m8, e8, l8, hb, h⟩ := back_rep back_chan hb h
  obtain ⟨F, m9, e9, l9, hb, h⟩ := back_rep back_fn hb h
  obtain ⟨B, m10, e10, l10, hb, h⟩ := back_rep back_ins hb h
  cases h
  have q0 : ((P.length : Nat) : Int) = n0 := by rw [l7, Int.toNat_of_nonneg h0]
  have q3 : ((C.length : Nat) : Int) = n3 := by rw [l8, Int.toNat_of_nonneg h3]
  have q4 : ((F.length : Nat) : Int) = n4 := by rw [l9, Int.toNat_of_nonneg h4]
  have q5 : ((B.length : Nat) : Int) = n5 := by rw [l10, Int.toNat_of_nonneg h5]
  simp only [bytesL, q0, q3, q4, q5, e0, e1, e2, e3, e4, e5, e6, e7, e8, e9, e10, List.append_assoc]
/-- bytes that are a code's are that code's bytes, and the code is in form -/
theorem bytes_code {l : List Int} {c : Cd} (hb : Byt l) (h : codeB l = some c) : bytesL c = l ∧ formB c = true := by
  unfold codeB at h
  cases hc : rCode l with
  | none => rw [hc] at h; cases h
  | some q =>
    obtain ⟨d, r⟩ := q
    rw [hc] at h
    cases r with
    | cons a r => cases h
    | nil =>
      have h2 : (if formB d = true then some d else none) = some c := h
      split at h2
      · rename_i hf
        cases h2
        have := back_code l c [] hb hc
        rw [List.append_nil] at this
        exact ⟨this.symm, hf⟩
      · cases h2
/-- what an instruction's words hold for being an int and a uint64 -/
def InW (x : In5) : Prop := x.a < 9223372036854775808 ∧ 0 ≤ x.bits ∧ x.bits < 18446744073709551616
theorem ite_tt {p : Prop} [Decidable p] {a b : Bool} (h : (if p then a else b) = true) : (p ∧ a = true) ∨ (¬ p ∧ b = true) := by
  by_cases hp : p
  · rw [if_pos hp] at h
    exact Or.inl ⟨hp, h⟩
  · rw [if_neg hp] at h
    exact Or.inr ⟨hp, h⟩
theorem ins_sm {c : Cd} {x : In5} (hw : InW x) (h : insB c x = true) : InS x := by
  obtain ⟨w1, w2, w3⟩ := hw
  unfold insB at h
  simp only [Bool.and_eq_true, decide_eq_true_eq] at h
  obtain ⟨h1, h2, h⟩ := h
  have k : (0 ≤ x.op ∧ x.op < 256) ∧ 0 ≤ x.a ∧ 0 ≤ x.b ∧ x.b ≤ 64 := by
    iterate 15
      rcases ite_tt h with ⟨e, h⟩ | ⟨e, h⟩
      · simp only [inI, inN, Bool.and_eq_true, decide_eq_true_eq, beq_iff_eq] at h
        omega
      clear e
    cases h
  exact ⟨k.1, ⟨k.2.1, w1⟩, ⟨k.2.2.1, by omega⟩, ⟨w2, w3⟩, ⟨h1, by omega⟩⟩
theorem typ_sm {t : Int} (h : typB t = true) : Sm t := by
  simp only [typB, Bool.and_eq_true, decide_eq_true_eq] at h
  exact ⟨by omega, by omega⟩
theorem form_sm {c : Cd} (h : formB c = true) (hw : ∀ x ∈ c.B, InW x) : CdS c := by
  simp only [formB, Bool.and_eq_true, decide_eq_true_eq, List.all_eq_true] at h
  obtain ⟨⟨⟨⟨⟨⟨⟨hP, hM⟩, hA⟩, hS⟩, hF⟩, hB⟩, hm⟩, ⟨⟨⟨kP, kC⟩, kF⟩, _⟩, kB⟩ := h
  have hmn : Sm c.mn := by
    unfold mainB at hm
    split at hm
    · rename_i h0
      split at hm
      · rename_i f hf
        have := (List.getElem?_eq_some_iff.1 hf).1
        exact ⟨h0, by omega⟩
      · cases hm
    · cases hm
  refine ⟨⟨by omega, by omega⟩, ⟨hM, by omega⟩, ⟨hA, by omega⟩, ⟨by omega, by omega⟩, ⟨by omega, by omega⟩, ⟨by omega, by omega⟩, hmn, fun x hx => typ_sm (kP x hx), fun x hx => ?_, fun f hf => ?_, fun x hx => ins_sm (hw x hx) (kB x hx)⟩
  · have := kC x hx
    simp only [chB, Bool.and_eq_true, decide_eq_true_eq] at this
    exact ⟨typ_sm this.1, ⟨this.2.1, by omega⟩⟩
  · have := kF f hf
    simp only [fnB, inN, Bool.and_eq_true, decide_eq_true_eq, List.all_eq_true] at this
    obtain ⟨⟨a1, a2⟩, a3, a4, a5, a6, a7⟩ := this
    exact ⟨⟨a1, by omega⟩, ⟨a3, by omega⟩, ⟨by omega, by omega⟩, fun y hy => typ_sm (a7 y hy)⟩
/-- a code of one function and this body -/
def oneF (B : List In5) : Cd := ⟨[], 0, 0, [], [⟨0, 0, []⟩], B, 0⟩
theorem one_form {B : List In5} (h0 : B ≠ []) (h1 : B.length ≤ 8192) : formB (oneF B) = B.all (insB (oneF B)) := by
  have hl : 0 < B.length := List.length_pos_iff.2 h0
  have e1 : mainB (oneF B) = true := rfl
  have e2 : fnB B.length ⟨0, 0, []⟩ = true := by simp [fnB, inN, hl]
  unfold formB
  rw [e1]
  simp [oneF, h1, e2, stB]
theorem ins_plain {c : Cd} {o at_ : Int} (ho : o = 24 ∨ o = 25) : insB c ⟨o, 0, 0, 0, at_⟩ = decide (0 ≤ at_ ∧ at_ ≤ 8192) := by
  rcases ho with rfl | rfl <;> simp [insB]
theorem turns_form {n : Nat} (h1 : 1 ≤ n) (h2 : n ≤ 50) : formB (oneF (List.replicate n ⟨24, 0, 0, 0, 0⟩)) = true := by
  rw [one_form (by intro e; have := congrArg List.length e; simp at this; omega) (by simp; omega), List.all_eq_true]
  intro x hx
  rw [List.eq_of_mem_replicate hx, ins_plain (.inl rfl)]
  decide
theorem turns_at {n : Nat} (h1 : 1 ≤ n) (h2 : n ≤ 50) (at_ : Int) : formB (oneF (List.replicate n ⟨24, 0, 0, 0, 0⟩ ++ [⟨25, 0, 0, 0, at_⟩])) = decide (0 ≤ at_ ∧ at_ ≤ 8192) := by
  rw [one_form (by simp) (by simp; omega), List.all_append]
  have : (List.replicate n (⟨24, 0, 0, 0, 0⟩ : In5)).all (insB (oneF (List.replicate n ⟨24, 0, 0, 0, 0⟩ ++ [⟨25, 0, 0, 0, at_⟩]))) = true := by
    rw [List.all_eq_true]
    intro x hx
    rw [List.eq_of_mem_replicate hx, ins_plain (.inl rfl)]
    decide
  rw [this, List.all_cons, ins_plain (.inr rfl)]
  simp
theorem alive_form : formB (oneF [⟨25, 0, 0, 0, 0⟩]) = true := by decide
end
end Go.Proofs.YtlheflkdapckbaaDoor.Ck
