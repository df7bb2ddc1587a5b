/- Texts of this proof, packed: contracts of the program's functions, and the plain model that they are held against. -/
import Derived.Test.YtogeblmppagabaaGreatDoorQbc
import Derived.Test.YtogeblmppagabaaGreatDoorQbd
import Derived.Test.YtogeblmppagabaaGreatDoorQbe
import Derived.Test.YtogeblmppagabaaGreatDoorQba
/- The grammar as one function. -/
namespace Go.Proofs.YtogeblmppagabaaGreatDoor.Ck
open Go.RowKit

theorem endO_gt {L : List Tk} {j : Nat} {n m : Nd} {j' : Nat} (h : endO L j n = .ok m j') : j < j' := by
  unfold endO at h
  split at h
  · cases h; omega
  · cases h
theorem boundO_gt {L : List Tk} {i : Nat} {t : Int} {j : Nat} (h : boundO L i = .ok t j) : i < j := by
  unfold boundO at h
  split at h
  · split at h
    · split at h
      · cases h; omega
      · cases h
    · cases h
  · cases h
theorem variableO_gt {L : List Tk} {i : Nat} {n : Nd} {j : Nat} (h : variableO L i = .ok n j) : i < j := by
  unfold variableO at h
  split at h
  · split at h
    · cases hq : boundO L (i + 1 + 1) with
      | bad k a => rw [hq] at h; cases h
      | ok z a =>
        rw [hq] at h
        dsimp only at h
        have h1 := boundO_gt hq
        cases hq2 : typedO L a with
        | bad k b => rw [hq2] at h; cases h
        | ok t b =>
          rw [hq2] at h
          have h2 := typedO_gt hq2
          have h3 := endO_gt h
          omega
    · cases hq2 : typedO L (i + 1 + 1) with
      | bad k b => rw [hq2] at h; cases h
      | ok t b =>
        rw [hq2] at h
        have h2 := typedO_gt hq2
        have h3 := endO_gt h
        omega
  · cases h
theorem channelO_gt {L : List Tk} {i : Nat} {n : Nd} {j : Nat} (h : channelO L i = .ok n j) : i < j := by
  unfold channelO at h
  split at h
  · cases hq : boundO L (i + 1 + 1) with
    | bad k a => rw [hq] at h; cases h
    | ok z a =>
      rw [hq] at h
      dsimp only at h
      have h1 := boundO_gt hq
      cases hq2 : typedO L a with
      | bad k b => rw [hq2] at h; cases h
      | ok t b =>
        rw [hq2] at h
        have h2 := typedO_gt hq2
        have h3 := endO_gt h
        omega
  · cases h
theorem named0O_gt {L : List Tk} {kd : Int} {i : Nat} {n : Nd} {j : Nat} (h : named0O L kd i = .ok n j) : i < j := by
  unfold named0O at h
  split at h
  · have := endO_gt h
    omega
  · cases h
theorem named1O_gt {L : List Tk} {kd : Int} {i : Nat} {r : Out} {n : Nd} {j : Nat} (hr : ∀ m j', r = .ok m j' → i + 1 + 1 + 1 ≤ j') (h : named1O L kd i r = .ok n j) : i < j := by
  unfold named1O at h
  split at h
  · split at h
    · cases r with
      | bad k a => cases h
      | ok m a =>
        have h1 := hr _ _ rfl
        have h2 := endO_gt h
        omega
    · cases h
  · cases h
theorem wrapL_gt {L : List Tk} {l i : Nat} {op sh : ByteArray} {r : OutL} (hr : ∀ m j', r = .ok m j' → i + 1 ≤ j') {ns : List Nd} {j : Nat} (h : wrapL L l i op sh r = .ok ns j) : i < j := by
  unfold wrapL at h
  split at h
  · split at h
    · cases h
    · cases r with
      | bad k a => cases h
      | ok m a =>
        have h1 := hr _ _ rfl
        dsimp only at h
        split at h
        · cases h; omega
        · cases h
  · cases h
theorem listF_ge' {rule : Nat → Out} {L : List Tk} (hge : ∀ j m j', rule j = .ok m j' → j ≤ j') : ∀ (f j : Nat) (ns ms : List Nd) (j' : Nat), listF rule L f j ns = .ok ms j' → j ≤ j'
  | 0, _, _, _, _, h => by unfold listF at h; cases h
  | f + 1, j, ns, ms, j', h => by
    unfold listF at h
    split at h
    · cases hq : rule (j + 1) with
      | bad k a => rw [hq] at h; cases h
      | ok m a =>
        rw [hq] at h
        have h1 := hge _ _ _ hq
        have h2 := listF_ge' hge f a _ ms j' h
        omega
    · cases h
      exact Nat.le_refl _
theorem argsO_ge {L : List Tk} {i : Nat} {rule : Nat → Out} (hge : ∀ j m j', rule j = .ok m j' → j ≤ j') {ns : List Nd} {j : Nat} (h : argsO L i rule = .ok ns j) : i ≤ j := by
  unfold argsO at h
  split at h
  · cases h; exact Nat.le_refl _
  · unfold listO at h
    cases hq : rule i with
    | bad k a => rw [hq] at h; cases h
    | ok m a =>
      rw [hq] at h
      exact Nat.le_trans (hge _ _ _ hq) (listF_ge' hge _ _ _ _ _ h)
theorem calledO_gt {L : List Tk} {l i : Nat} {rule : Nat → Out} (hge : ∀ j m j', rule j = .ok m j' → j ≤ j') {mkn : List Nd → Nd} {n : Nd} {j : Nat} (h : calledO L l i rule mkn = .ok n j) : i < j := by
  unfold calledO at h
  cases hq : wrapL L l i bOpen bShut (argsO L (i + 1) rule) with
  | bad k a => rw [hq] at h; cases h
  | ok ns a =>
    rw [hq] at h
    have h1 := wrapL_gt (fun _ _ hh => argsO_ge hge hh) hq
    have h2 := endO_gt h
    omega
theorem goesO_gt {L : List Tk} {l i : Nat} {rule : Nat → Out} (hge : ∀ j m j', rule j = .ok m j' → j ≤ j') {n : Nd} {j : Nat} (h : goesO L l i rule = .ok n j) : i < j := by
  unfold goesO at h
  split at h
  · have := calledO_gt hge h
    omega
  · cases h
theorem blockO_gt {L : List Tk} {l i : Nat} {r : OutL} (hr : ∀ m j', r = .ok m j' → i + 1 ≤ j') {n : Nd} {j : Nat} (h : blockO L l i r = .ok n j) : i < j := by
  unfold blockO at h
  cases hq : wrapL L l i bCur bCue r with
  | bad k a => rw [hq] at h; cases h
  | ok ns a =>
    rw [hq] at h
    have := wrapL_gt hr hq
    cases h
    omega
theorem stmtsF_ge {rule : Nat → Out} {L : List Tk} (hge : ∀ j m j', rule j = .ok m j' → j ≤ j') : ∀ (f j : Nat) (ns ms : List Nd) (j' : Nat), stmtsF rule L f j ns = .ok ms j' → j ≤ j'
  | 0, _, _, _, _, h => by unfold stmtsF at h; cases h
  | f + 1, j, ns, ms, j', h => by
    unfold stmtsF at h
    split at h
    · cases h
      exact Nat.le_refl _
    · cases hq : rule j with
      | bad k a => rw [hq] at h; cases h
      | ok m a =>
        rw [hq] at h
        have h1 := hge _ _ _ hq
        have h2 := stmtsF_ge hge f a _ ms j' h
        omega
theorem branchO_gt {L : List Tk} {i : Nat} {ex bl : Nat → Out} (h1 : ∀ n j, ex (i + 1) = .ok n j → i + 1 ≤ j) (h2 : ∀ q n j, bl q = .ok n j → q ≤ j) {n : Nd} {j : Nat} (h : branchO L i ex bl = .ok n j) : i < j := by
  unfold branchO at h
  cases hq : all2O ex bl (i + 1) with
  | bad k a => rw [hq] at h; cases h
  | ok ns a =>
    rw [hq] at h
    have h3 := (all2_ge h1 h2 hq).1
    dsimp only at h
    split at h
    · cases hq2 : bl (a + 1) with
      | bad k b => rw [hq2] at h; cases h
      | ok m b =>
        rw [hq2] at h
        have h4 := h2 _ _ _ hq2
        cases h
        omega
    · cases h
      omega
theorem loopO_gt {L : List Tk} {i : Nat} {ex bl : Nat → Out} (h1 : ∀ n j, ex (i + 1) = .ok n j → i + 1 ≤ j) (h2 : ∀ q n j, bl q = .ok n j → q ≤ j) {n : Nd} {j : Nat} (h : loopO L i ex bl = .ok n j) : i < j := by
  unfold loopO at h
  cases hq : all2O ex bl (i + 1) with
  | bad k a => rw [hq] at h; cases h
  | ok ns a =>
    rw [hq] at h
    have h3 := (all2_ge h1 h2 hq).1
    cases h
    omega
theorem targetO_gt {L : List Tk} {l i : Nat} {r : Out} (hr : ∀ m j', r = .ok m j' → i + 1 + 1 ≤ j') {n : Nd} {j : Nat} (h : targetO L l i r = .ok n j) : i < j := by
  unfold targetO at h
  split at h
  · by_cases hh : has L (i + 1) [bOpn] = true
    · rw [if_pos hh] at h
      cases hq : wrapO L l (i + 1) bOpn bSht r with
      | bad k a => rw [hq] at h; cases h
      | ok m a =>
        rw [hq] at h
        have := wrapO_ge (i := i + 1) hr hq
        cases h
        omega
    · rw [if_neg hh] at h
      cases h
      omega
  · cases h
theorem wordFirstO_gt {L : List Tk} {l i : Nat} {tg : Out} {ex exI : Nat → Out} (h1 : ∀ n j, tg = .ok n j → i < j) (h2 : ∀ q n j, ex q = .ok n j → q ≤ j) (h3 : ∀ q n j, exI q = .ok n j → q ≤ j) {n : Nd} {j : Nat} (h : wordFirstO L l tg ex exI = .ok n j) : i < j := by
  unfold wordFirstO at h
  cases tg with
  | bad k a => cases h
  | ok m a =>
    have h4 := h1 _ _ rfl
    dsimp only at h
    split at h
    · have := calledO_gt h3 h
      omega
    · split at h
      · cases hq : ex (a + 1) with
        | bad k b => rw [hq] at h; cases h
        | ok m2 b =>
          rw [hq] at h
          have h5 := h2 _ _ _ hq
          have h6 := endO_gt h
          omega
      · split at h
        · cases hq : ex (a + 1) with
          | bad k b => rw [hq] at h; cases h
          | ok m2 b =>
            rw [hq] at h
            have h5 := h2 _ _ _ hq
            have h6 := endO_gt h
            omega
        · cases h
theorem functionO_gt {L : List Tk} {i : Nat} {bl : Nat → Out} (h2 : ∀ q n j, bl q = .ok n j → q ≤ j) {n : Nd} {j : Nat} (h : functionO L i bl = .ok n j) : i < j := by
  unfold functionO at h
  split at h
  · split at h
    · split at h
      · split at h
        · rename_i ns a hq
          have h3 : i ≤ a := by
            split at hq
            · cases hq; omega
            · have := (listO_ge (fun _ _ _ hh => paramO_gt hh) hq).1
              omega
          split at h
          · cases hq2 : bl (a + 1) with
            | bad k b => rw [hq2] at h; cases h
            | ok m b =>
              rw [hq2] at h
              have h4 := h2 _ _ _ hq2
              cases h
              omega
          · cases h
        · cases h
      · cases h
    · cases h
  · cases h

def stO (L : List Tk) (l i : Nat) (ex exI tg bl : Nat → Out) : Out :=
  if has L i [⟨#[103, 111]⟩] = true then goesO L l i exI else
  if has L i [⟨#[108, 111, 99, 107]⟩] = true then named0O L 14 i else
  if has L i [⟨#[117, 110, 108, 111, 99, 107]⟩] = true then named0O L 15 i else
  if has L i [⟨#[115, 101, 110, 100]⟩] = true then named1O L 16 i (ex (i + 1 + 1 + 1)) else
  if has L i [⟨#[114, 101, 99, 118]⟩] = true then named1O L 17 i (tg (i + 1 + 1 + 1)) else
  if has L i [⟨#[97, 100, 100]⟩] = true then named1O L 18 i (ex (i + 1 + 1 + 1)) else
  if has L i [⟨#[112, 117, 116]⟩] = true then named1O L 19 i (ex (i + 1 + 1 + 1)) else
  if has L i [⟨#[103, 101, 116]⟩] = true then named1O L 20 i (tg (i + 1 + 1 + 1)) else
  if has L i [⟨#[105, 102]⟩] = true then branchO L i ex bl else
  if has L i [⟨#[119, 104, 105, 108, 101]⟩] = true then loopO L i ex bl else
  if has L i [⟨#[114, 101, 116, 117, 114, 110]⟩] = true then leave0O L i else
  if has L i [⟨#[102, 97, 105, 108]⟩] = true then leave1O L i (ex (i + 1)) else
  wordFirstO L l (tg i) ex exI
def dcO (L : List Tk) (bl : Nat → Out) (i : Nat) : Out :=
  if has L i [⟨#[118, 97, 114]⟩] = true then variableO L i else
  if has L i [⟨#[109, 117, 116, 101, 120]⟩] = true then named0O L 4 i else
  if has L i [⟨#[99, 104, 97, 110]⟩] = true then channelO L i else
  if has L i [⟨#[97, 116, 111, 109, 105, 99]⟩] = true then named0O L 6 i else
  functionO L i bl
def exD (L : List Tk) (l i : Nat) : Out := pz L (8 * L.length + 7) 0 l i
def tgD (L : List Tk) (l i : Nat) : Out := targetO L l i (pz L (8 * L.length + 7) 0 (l + 1) (i + 1 + 1))
/-- the statement at token i, l levels deep -/
def stF (L : List Tk) : Nat → Nat → Nat → Out
  | 0, _, i => .bad 0 i
  | f + 1, l, i => stO L l i (exD L l) (exD L (l + 1)) (tgD L l) (fun j => blockO L l j (stmtsF (stF L f (l + 1)) L L.length (j + 1) []))
def blD (L : List Tk) (f l j : Nat) : Out := blockO L l j (stmtsF (stF L f (l + 1)) L L.length (j + 1) [])
def prD (L : List Tk) : Out := programO L 0 (dcO L (blD L (L.length + 1) 0))
theorem exD_ge {L : List Tk} {l q : Nat} {n : Nd} {j : Nat} (h : exD L l q = .ok n j) : q ≤ j := pz_ge _ _ _ _ _ _ _ h
theorem tgD_gt {L : List Tk} {l q : Nat} {n : Nd} {j : Nat} (h : tgD L l q = .ok n j) : q < j := targetO_gt (fun _ _ hh => pz_ge _ _ _ _ _ _ _ hh) h
theorem leave1O_gt {L : List Tk} {i : Nat} {r : Out} {n : Nd} {j : Nat} (hr : ∀ m j', r = .ok m j' → i + 1 ≤ j') (h : leave1O L i r = .ok n j) : i < j := by
  unfold leave1O at h
  cases r with
  | bad k a => cases h
  | ok m a =>
    have h1 := hr _ _ rfl
    have h2 := endO_gt h
    omega
theorem leave0O_gt {L : List Tk} {i : Nat} {n : Nd} {j : Nat} (h : leave0O L i = .ok n j) : i < j := by
  unfold leave0O at h
  have := endO_gt h
  omega
theorem stO_gt {L : List Tk} {l i : Nat} {ex exI tg bl : Nat → Out} (h1 : ∀ q n j, ex q = .ok n j → q ≤ j) (h2 : ∀ q n j, exI q = .ok n j → q ≤ j) (h3 : ∀ q n j, tg q = .ok n j → q < j) (h4 : ∀ q n j, bl q = .ok n j → q ≤ j) {n : Nd} {j : Nat} (h : stO L l i ex exI tg bl = .ok n j) : i < j := by
  unfold stO at h
  by_cases hc : has L i [⟨#[103, 111]⟩] = true
  · rw [if_pos hc] at h
    exact goesO_gt h2 h
  rw [if_neg hc] at h
  clear hc
  by_cases hc : has L i [⟨#[108, 111, 99, 107]⟩] = true
  · rw [if_pos hc] at h
    exact named0O_gt h
  rw [if_neg hc] at h
  clear hc
  by_cases hc : has L i [⟨#[117, 110, 108, 111, 99, 107]⟩] = true
  · rw [if_pos hc] at h
    exact named0O_gt h
  rw [if_neg hc] at h
  clear hc
  by_cases hc : has L i [⟨#[115, 101, 110, 100]⟩] = true
  · rw [if_pos hc] at h
    exact named1O_gt (h1 _) h
  rw [if_neg hc] at h
  clear hc
  by_cases hc : has L i [⟨#[114, 101, 99, 118]⟩] = true
  · rw [if_pos hc] at h
    exact named1O_gt (fun m j' hh => Nat.le_of_lt (h3 _ m j' hh)) h
  rw [if_neg hc] at h
  clear hc
  by_cases hc : has L i [⟨#[97, 100, 100]⟩] = true
  · rw [if_pos hc] at h
    exact named1O_gt (h1 _) h
  rw [if_neg hc] at h
  clear hc
  by_cases hc : has L i [⟨#[112, 117, 116]⟩] = true
  · rw [if_pos hc] at h
    exact named1O_gt (h1 _) h
  rw [if_neg hc] at h
  clear hc
  by_cases hc : has L i [⟨#[103, 101, 116]⟩] = true
  · rw [if_pos hc] at h
    exact named1O_gt (fun m j' hh => Nat.le_of_lt (h3 _ m j' hh)) h
  rw [if_neg hc] at h
  clear hc
  by_cases hc : has L i [⟨#[105, 102]⟩] = true
  · rw [if_pos hc] at h
    exact branchO_gt (h1 _) h4 h
  rw [if_neg hc] at h
  clear hc
  by_cases hc : has L i [⟨#[119, 104, 105, 108, 101]⟩] = true
  · rw [if_pos hc] at h
    exact loopO_gt (h1 _) h4 h
  rw [if_neg hc] at h
  clear hc
  by_cases hc : has L i [⟨#[114, 101, 116, 117, 114, 110]⟩] = true
  · rw [if_pos hc] at h
    exact leave0O_gt h
  rw [if_neg hc] at h
  clear hc
  by_cases hc : has L i [⟨#[102, 97, 105, 108]⟩] = true
  · rw [if_pos hc] at h
    exact leave1O_gt (h1 _) h
  rw [if_neg hc] at h
  clear hc
  exact wordFirstO_gt (h3 i) h1 h2 h
theorem stF_gt (L : List Tk) : ∀ (f l i : Nat) (n : Nd) (j : Nat), stF L f l i = .ok n j → i < j
  | 0, _, _, _, _, h => by unfold stF at h; cases h
  | f + 1, l, i, n, j, h => by
    unfold stF at h
    exact stO_gt (fun _ _ _ hh => exD_ge hh) (fun _ _ _ hh => exD_ge hh) (fun _ _ _ hh => tgD_gt hh) (fun _ _ _ hh => Nat.le_of_lt (blockO_gt (fun _ _ hq => stmtsF_ge (fun a b c hc => Nat.le_of_lt (stF_gt L f (l + 1) a b c hc)) _ _ _ _ _ hq) hh)) h
theorem blD_gt {L : List Tk} {f l q : Nat} {n : Nd} {j : Nat} (h : blD L f l q = .ok n j)   : q < j := blockO_gt (fun _ _ hq => stmtsF_ge (fun a b c hc => Nat.le_of_lt (stF_gt L f (l + 1) a b c hc)) _ _ _ _ _ hq) h
theorem dcO_gt {L : List Tk} {bl : Nat → Out} (h2 : ∀ q n j, bl q = .ok n j → q ≤ j) {i : Nat} {n : Nd} {j : Nat} (h : dcO L bl i = .ok n j) : i < j := by
  unfold dcO at h
  split at h
  · exact variableO_gt h
  split at h
  · exact named0O_gt h
  split at h
  · exact channelO_gt h
  split at h
  · exact named0O_gt h
  · exact functionO_gt h2 h

end Go.Proofs.YtogeblmppagabaaGreatDoor.Ck

/- Variables. -/
namespace Go.Proofs.YtogeblmppagabaaGreatDoor.Ck
open Go.RowKit

set_option maxRecDepth 20000 in
set_option maxHeartbeats 1000000 in
theorem variable_any {w : World} {p : List Addr} {g gT : Nat} {L : List Tk} {i l : Nat} (h : Ps w p g gT L i l) (hE : Ends L) (hi : i + 1 < L.length) :
    Calls Tryz.prog 102 #[.pointer (some ⟨g, 0, none⟩)] w fun e w' => PostN p g gT L l w e w' (variableO L i) := by
  have HP := hide h
  have HE := hide hE
  have HI := hide hi
  have hb0 := hide (bel_new w nodZ)
  have hz0 := hide (nod_new w)
  have H0 := hide (h.below hb0.out)
  obtain ⟨out, ho⟩ : ∃ out, variableO L i = out := ⟨_, rfl⟩
  rw [ho]
  have HW := hide ho
  clear h hE ho hi
  unfold nodZ at *
  go_enter Tryz.func102, Tryz.ntmps102
  go_wp2_with fail
  generalize w.alloc (.cells #[.int .i64 0, .int .i64 0, .string ⟨#[]⟩, .int .i64 0, .int .i64 0, .int .i64 0, .int .i64 0, .int .u64 0, .slice none 0 0] 27) = w0 at *
  refine (open_any H0.out (2) HI.out).mono ?_
  rintro e w1 ⟨rfl, r1, r2⟩
  have S2 := hide (Sn.start HP.out hb0.out hz0.out r1 r2 (2) (tkAt L i).pos ⟨#[]⟩ 0 0)
  clear r1 r2 hb0 hz0 H0
  go_wp2_with fail
  generalize w1.alloc (.cells #[.int .i64 (2), .int .i64 (tkAt L i).pos, .string ⟨#[]⟩, .int .i64 0, .int .i64 0, .int .i64 0, .int .i64 0, .int .u64 0, .slice none 0 0] 27) = w2 at *
  generalize w1.heap.size = n at *
  refine (word_both S2.out.pr HE.out ).mono ?_
  rintro e w3 (⟨c3, rfl, r2⟩ | ⟨c3, rfl, r1, r2⟩)
  · have hw := HW.out
    simp only [variableO, endO, if_neg c3] at hw
    subst hw
    exact ⟨rfl, rfl, S2.out.tn.trans r2⟩
  have C3 := hide c3
  have S3 := hide (S2.out.call r1 r2)
  clear c3 r1 r2 S2
  obtain ⟨⟨fr0, fr1, fr2, fr3, fr4, fr5, fr6, fr7, fr8⟩, ce0, ce1, ce2, ce3, ce4, ce5, ce6, ce7, ce8⟩ := S3.out.vr.all
  have S4 := hide (S3.out.setName (tx L (i + 1)))
  clear S3
  go_wp2_with fail
  clear fr0 fr1 fr2 fr3 fr4 fr5 fr6 fr7 fr8 ce0 ce1 ce2 ce3 ce4 ce5 ce6 ce7 ce8
  have e4 : (w3.setCell ⟨n, 2, none⟩ (.string (tx L (i + 1)))).heap.size = w3.heap.size := by simp
  generalize w3.setCell ⟨n, 2, none⟩ (.string (tx L (i + 1))) = w4 at *
  rw [← e4]
  clear e4
  refine (sees_both S4.out.pr bOpn).mono ?_
  rintro e w5 (⟨c5, rfl, hb⟩ | ⟨c5, rfl, hb⟩)
  · have C5 := hide c5
    have S5 := hide (S4.out.bel hb)
    clear c5 hb S4
    obtain ⟨⟨fr0, fr1, fr2, fr3, fr4, fr5, fr6, fr7, fr8⟩, ce0, ce1, ce2, ce3, ce4, ce5, ce6, ce7, ce8⟩ := S5.out.vr.all
    have S6 := hide (S5.out.setK (3))
    clear S5
    go_wp2_with fail
    clear fr0 fr1 fr2 fr3 fr4 fr5 fr6 fr7 fr8 ce0 ce1 ce2 ce3 ce4 ce5 ce6 ce7 ce8
    generalize w5.setCell ⟨n, 0, none⟩ (.int .i64 (3)) = w6 at *
    refine (bound_any S6.out.pr HE.out).mono ?_
    intro e w7 hp
    rcases hp.both with ⟨kb, jb, c7, rfl, r2⟩ | ⟨z7, j7, c7, rfl, r1, r2⟩
    · have hw := HW.out
      simp only [variableO, endO, if_pos C3.out, if_pos C5.out, c7] at hw
      subst hw
      exact ⟨rfl, rfl, S6.out.tn.trans r2⟩
    have C7 := hide c7
    have S7 := hide (S6.out.call r1 r2)
    clear c7 r1 r2 S6
    obtain ⟨⟨fr0, fr1, fr2, fr3, fr4, fr5, fr6, fr7, fr8⟩, ce0, ce1, ce2, ce3, ce4, ce5, ce6, ce7, ce8⟩ := S7.out.vr.all
    have S8 := hide (S7.out.setN (z7))
    clear S7
    go_wp2_with fail
    clear fr0 fr1 fr2 fr3 fr4 fr5 fr6 fr7 fr8 ce0 ce1 ce2 ce3 ce4 ce5 ce6 ce7 ce8
    generalize w7.setCell ⟨n, 4, none⟩ (.int .i64 (z7)) = w8 at *
    refine (typed_any S8.out.pr HE.out).mono ?_
    intro e w9 hp
    rcases hp.both with ⟨kb, jb, c9, rfl, r2⟩ | ⟨t9, j9, c9, rfl, r1, r2⟩
    · have hw := HW.out
      simp only [variableO, endO, if_pos C3.out, if_pos C5.out, C7.out, c9] at hw
      subst hw
      exact ⟨rfl, rfl, S8.out.tn.trans r2⟩
    have C9 := hide c9
    have S9 := hide (S8.out.call r1 r2)
    clear c9 r1 r2 S8
    obtain ⟨⟨fr0, fr1, fr2, fr3, fr4, fr5, fr6, fr7, fr8⟩, ce0, ce1, ce2, ce3, ce4, ce5, ce6, ce7, ce8⟩ := S9.out.vr.all
    have S10 := hide (S9.out.setT (t9))
    clear S9
    go_wp2_with fail
    clear fr0 fr1 fr2 fr3 fr4 fr5 fr6 fr7 fr8 ce0 ce1 ce2 ce3 ce4 ce5 ce6 ce7 ce8
    have e10 : (w9.setCell ⟨n, 3, none⟩ (.int .i64 (t9))).heap.size = w9.heap.size := by simp
    generalize w9.setCell ⟨n, 3, none⟩ (.int .i64 (t9)) = w10 at *
    rw [← e10]
    clear e10
    refine (take_both S10.out.pr HE.out bSemi (by decide)).mono ?_
    rintro e w11 (⟨c11, rfl, r2⟩ | ⟨c11, rfl, r1, r2⟩)
    · have hw := HW.out
      simp only [variableO, endO, if_pos C3.out, if_pos C5.out, C7.out, C9.out, if_neg c11] at hw
      subst hw
      exact ⟨rfl, rfl, S10.out.tn.trans r2⟩
    have C11 := hide c11
    have S11 := hide (S10.out.call r1 r2)
    clear c11 r1 r2 S10
    obtain ⟨⟨fz0, fz1, fz2, fz3, fz4, fz5, fz6, fz7, fz8⟩, bz0, bz1, bz2, bz3, bz4, bz5, bz6, bz7, bz8⟩ := S11.out.zr.all
    obtain ⟨_, cg0, cg1, cg2, cg3, cg4, cg5, cg6, cg7, cg8⟩ := S11.out.vr.all
    obtain ⟨_, rfl, z9, v9, p9, t9⟩ := S11.out.done
    have Z9 := hide z9
    have D9 := hide (And.intro v9 (And.intro p9 t9))
    clear z9 v9 p9 t9 S11
    go_wp2_with fail
    refine ret_nod (w.heap.size) rfl rfl Z9.out rfl ?_
    have hw := HW.out
    simp only [variableO, endO, if_pos C3.out, if_pos C5.out, C7.out, C9.out, if_pos C11.out] at hw
    subst hw
    exact ⟨_, rfl, D9.out⟩
  · have C5 := hide c5
    have S5 := hide (S4.out.bel hb)
    clear c5 hb S4
    go_wp2_with fail
    refine (typed_any S5.out.pr HE.out).mono ?_
    intro e w6 hp
    rcases hp.both with ⟨kb, jb, c6, rfl, r2⟩ | ⟨t6, j6, c6, rfl, r1, r2⟩
    · have hw := HW.out
      simp only [variableO, endO, if_pos C3.out, if_neg C5.out, c6] at hw
      subst hw
      exact ⟨rfl, rfl, S5.out.tn.trans r2⟩
    have C6 := hide c6
    have S6 := hide (S5.out.call r1 r2)
    clear c6 r1 r2 S5
    obtain ⟨⟨fr0, fr1, fr2, fr3, fr4, fr5, fr6, fr7, fr8⟩, ce0, ce1, ce2, ce3, ce4, ce5, ce6, ce7, ce8⟩ := S6.out.vr.all
    have S7 := hide (S6.out.setT (t6))
    clear S6
    go_wp2_with fail
    clear fr0 fr1 fr2 fr3 fr4 fr5 fr6 fr7 fr8 ce0 ce1 ce2 ce3 ce4 ce5 ce6 ce7 ce8
    have e7 : (w6.setCell ⟨n, 3, none⟩ (.int .i64 (t6))).heap.size = w6.heap.size := by simp
    generalize w6.setCell ⟨n, 3, none⟩ (.int .i64 (t6)) = w7 at *
    rw [← e7]
    clear e7
    refine (take_both S7.out.pr HE.out bSemi (by decide)).mono ?_
    rintro e w8 (⟨c8, rfl, r2⟩ | ⟨c8, rfl, r1, r2⟩)
    · have hw := HW.out
      simp only [variableO, endO, if_pos C3.out, if_neg C5.out, C6.out, if_neg c8] at hw
      subst hw
      exact ⟨rfl, rfl, S7.out.tn.trans r2⟩
    have C8 := hide c8
    have S8 := hide (S7.out.call r1 r2)
    clear c8 r1 r2 S7
    obtain ⟨⟨fz0, fz1, fz2, fz3, fz4, fz5, fz6, fz7, fz8⟩, bz0, bz1, bz2, bz3, bz4, bz5, bz6, bz7, bz8⟩ := S8.out.zr.all
    obtain ⟨_, cg0, cg1, cg2, cg3, cg4, cg5, cg6, cg7, cg8⟩ := S8.out.vr.all
    obtain ⟨_, rfl, z9, v9, p9, t9⟩ := S8.out.done
    have Z9 := hide z9
    have D9 := hide (And.intro v9 (And.intro p9 t9))
    clear z9 v9 p9 t9 S8
    go_wp2_with fail
    refine ret_nod (w.heap.size) rfl rfl Z9.out rfl ?_
    have hw := HW.out
    simp only [variableO, endO, if_pos C3.out, if_neg C5.out, C6.out, if_pos C8.out] at hw
    subst hw
    exact ⟨_, rfl, D9.out⟩

end Go.Proofs.YtogeblmppagabaaGreatDoor.Ck

/- Lists of expressions. -/
namespace Go.Proofs.YtogeblmppagabaaGreatDoor.Ck
open Go.RowKit

set_option maxRecDepth 20000 in
set_option maxHeartbeats 1000000 in
theorem list_expr {w : World} {p : List Addr} {g gT : Nat} {L : List Tk} {i l : Nat} (h : Ps w p g gT L i l) (hE : Ends L) (rule : Nat → Out) (hge : ∀ j m j', rule j = .ok m j' → j ≤ j') (hr : ∀ j, i ≤ j → Rule 27 p g gT L l j (rule j)) :
    Calls Tryz.prog 136 #[.pointer (some ⟨g, 0, none⟩), .func (.func 27) #[.pointer (some ⟨g, 0, none⟩)] #[]] w fun e w' => PostR p g gT L l w e w' (listO rule L i) := by
  have HP := hide h
  have HE := hide hE
  have HR := hide hr
  have HG := hide hge
  have hgl := h.lt_g
  have hT := h.row.lt
  have hL := h.len
  obtain ⟨out, ho⟩ : ∃ out, listO rule L i = out := ⟨_, rfl⟩
  rw [ho]
  have HW := hide ho
  clear h hE ho hr hge
  go_enter Tryz.func136, Tryz.ntmps136
  go_wp2_with fail
  refine (HR.out i (Nat.le_refl _) _ HP.out).mono ?_
  intro e w1 hp
  rcases hp.both with ⟨kb, jb, c1, rfl, r2⟩ | ⟨kd, ps, nm, t, nz, z, ob, bi, ks, a, len, ck, j0, c1, rfl, hk, r1, r2⟩
  · have hw := HW.out
    simp only [listO, c1] at hw
    subst hw
    exact ⟨rfl, rfl, r2⟩
  have hj0 := HG.out i _ j0 c1
  have hb2 := bel_new w1 (.cells #[.int .i64 kd, .int .i64 ps, .string nm, .int .i64 t, .int .i64 nz, .int .i64 z, .int .i64 ob, .int .u64 bi, .slice a len ck] 27)
  have M0 : Hid (∃ f', L.length - j0 ≤ f' ∧ listF rule L f' j0 [Nd.mk kd ps nm t nz z ob bi ks] = out) := by
    have hw := HW.out
    simp only [listO, c1] at hw
    exact ⟨L.length, Nat.sub_le _ _, hw⟩
  have I0 := hide (And.intro (Row.one (kd := kd) (p := ps) (nm := nm) (t := t) (n := nz) (z := z) (o := ob) (bits_ := bi) r2.size hk) (And.intro (r1.below hb2) (r2.trans (Tn.of_bel hb2))))
  clear hk r1 r2 hb2 c1 HW
  go_wp2_with fail
  generalize w1.alloc (.cells #[.int .i64 kd, .int .i64 ps, .string nm, .int .i64 t, .int .i64 nz, .int .i64 z, .int .i64 ob, .int .u64 bi, .slice a len ck] 27) = w2 at *
  generalize w1.heap.size = b1 at *
  go_loopw [5] (fun v wr => ∃ (j : Nat) (ns : List Nd) (a : Option Addr) (n ck : Nat), i ≤ j ∧ v = .slice a n ck ∧ ns.length ≤ j + 1 ∧ Hid (n = ns.length ∧ Row wr w.heap.size ns (.slice a n ck) ∧ Ps wr p g gT L j l ∧ Tn g w wr ∧ ∃ f', L.length - j ≤ f' ∧ listF rule L f' j ns = out)) (fun _ wr => L.length - nextAt wr g)
  case atStart => exact ⟨j0, [Nd.mk kd ps nm t nz z ob bi ks], _, 1, 1, hj0, rfl, by simp, rfl, I0.out.1, I0.out.2.1, I0.out.2.2, M0.out⟩
  case round =>
    clear I0 M0 hj0
    obtain ⟨j, ns, a, n, ck, hij, rfl, hnl, I⟩ := hrel
    have N3 := hide I.out.2.2.1.next
    go_wp2_with fail
    refine (taken_both I.out.2.2.1 HE.out bComma (by decide)).mono ?_
    rintro e w4 (⟨c4, rfl, r1, r2⟩ | ⟨c4, rfl, r1, r2⟩)
    · have C4 := hide c4
      have H4 := hide r1
      have T4 := hide (I.out.2.2.2.1.trans r2)
      have R4 := hide (I.out.2.1.tn r2 hgl)
      have EN := hide I.out.1
      have hlt := I.out.2.2.1.lt
      have F4 := hide I.out.2.2.2.2
      clear c4 r1 r2 I
      go_wp2_with fail
      refine (HR.out (j + 1) (by omega) _ H4.out).mono ?_
      intro e w5 hp
      rcases hp.both with ⟨kb, jb, c5, rfl, r2⟩ | ⟨kd, ps, nm, t, nz, z, ob, bi, ks, a', len, ck', j', c5, rfl, hk, r1, r2⟩
      · obtain ⟨f', hf1, hf2⟩ := F4.out
        obtain ⟨f2, rfl⟩ : ∃ f2, f' = f2 + 1 := ⟨f' - 1, by omega⟩
        simp only [listF, if_pos C4.out, c5] at hf2
        subst hf2
        exact ⟨rfl, rfl, T4.out.trans r2⟩
      have hj' := HG.out _ _ j' c5
      have F5 : Hid (∃ f', L.length - j' ≤ f' ∧ listF rule L f' j' (ns ++ [Nd.mk kd ps nm t nz z ob bi ks]) = out) := by
        obtain ⟨f', hf1, hf2⟩ := F4.out
        obtain ⟨f2, rfl⟩ : ∃ f2, f' = f2 + 1 := ⟨f' - 1, by omega⟩
        simp only [listF, if_pos C4.out, c5] at hf2
        exact ⟨f2, by omega, hf2⟩
      clear c5 C4 F4
      have hb6 := bel_new w5 (.cells #[.int .i64 kd, .int .i64 ps, .string nm, .int .i64 t, .int .i64 nz, .int .i64 z, .int .i64 ob, .int .u64 bi, .slice a' len ck'] 27)
      have hC : ∀ k, _ → k < w4.heap.size := fun k hk => (R4.out.own k hk).2
      have PU := hide (fun ty => Row.push (c := 1) ((R4.out.tn r2 (hgl)).bel hb6) (T4.out.size) hC (Nat.le_trans r2.size hb6.size) (by omega) (hk.bel hb6) (Go.Deep.blk_alloc_new w5 _) ty)
      have R6 := hide (And.intro (r1.below hb6) ((T4.out.trans r2).trans (Tn.of_bel hb6)))
      clear hk hb6 r1 r2 hC R4 T4 H4
      go_wp2_with (first | (at_builtin; refine wpList_appN (.tmp 11) (.tmp 14) _ _ _ PU.out rfl rfl rfl rfl ?_; rintro v7 w7 ⟨o7, t7⟩))
      obtain ⟨a7, c7, e7⟩ := o7.len
      obtain ⟨n7, hn7⟩ : ∃ n7, n7 = (ns ++ [Nd.mk kd ps nm t nz z ob bi ks]).length := ⟨_, rfl⟩
      rw [← hn7] at e7
      subst e7
      have I7 := hide (And.intro hn7 (And.intro o7 (And.intro (R6.out.1.belB t7 hgl hT) (R6.out.2.belB t7 (Nat.le_refl _)))))
      clear hn7 o7 t7 PU R6
      go_wp2_with fail
      go_roundw
      case rel => exact ⟨j', _, _, _, _, by omega, rfl, by rw [List.length_append, List.length_singleton]; omega, I7.out.1, I7.out.2.1, I7.out.2.2.1, I7.out.2.2.2, F5.out⟩
      case measure =>
        have h7 := I7.out.2.2.1.next
        rw [h7, N3.out]
        omega
    · have R4 := hide (I.out.2.1.tn r2 hgl)
      have H4 := hide (And.intro r1 (I.out.2.2.2.1.trans r2))
      have hw : OutL.ok ns j = out := by
        obtain ⟨f', hf1, hf2⟩ := I.out.2.2.2.2
        have hlt := I.out.2.2.1.lt
        obtain ⟨f2, rfl⟩ : ∃ f2, f' = f2 + 1 := ⟨f' - 1, by omega⟩
        simp only [listF, if_neg c4] at hf2
        exact hf2
      have HW := hide hw
      clear hw c4 r1 r2 I
      go_wp2_with fail
      go_ret
      have hw := HW.out
      subst hw
      exact ⟨_, rfl, R4.out, H4.out⟩

end Go.Proofs.YtogeblmppagabaaGreatDoor.Ck
