/- The contracts of package token's questions on one byte. -/
import Derived.Test.YtpeebpnoldadjaaDoorChecked
import Derived.WalkKit
import Derived.Outline
import Derived.BigQuiet
import Derived.Deep.QuietTactic
import Derived.WalkSmall
import Derived.Deep.OwnRows
namespace Go.Proofs.YtpeebpnoldadjaaDoor.Ck
open Go.RowKit

def isBlank (c : Int) : Bool := c == 32 || c == 9 || c == 10 || c == 13
def isLetter (c : Int) : Bool := decide (97 ≤ c ∧ c ≤ 122) || decide (65 ≤ c ∧ c ≤ 90) || c == 95
def isDigit (c : Int) : Bool := decide (48 ≤ c ∧ c ≤ 57)
def isHex (c : Int) : Bool := isDigit c || decide (97 ≤ c ∧ c ≤ 102)
def isWord (c : Int) : Bool := isLetter c || isDigit c
def notNl (c : Int) : Bool := c != 10

theorem blank_any (c : Int) (w : World) : Calls Tryd.prog 39 #[.int .u8 c] w fun e w' => e = .returned (.bool (isBlank c)) ∧ w = w' := by
  go_enter Tryd.func39, Tryd.ntmps39
  go_wp2_with (fail)
  all_goals
    go_ret
    refine ⟨congrArg Ending.returned (congrArg Value.bool ?_), rfl⟩
    rw [Bool.eq_iff_iff]
    first
      | (simp [isBlank] <;> done)
      | (simp [isBlank] <;> omega)
      | (simp_all [isBlank] <;> done)
      | (simp_all [isBlank] <;> omega)
theorem digit_any (c : Int) (w : World) : Calls Tryd.prog 44 #[.int .u8 c] w fun e w' => e = .returned (.bool (isDigit c)) ∧ w = w' := by
  go_enter Tryd.func44, Tryd.ntmps44
  go_wp2_with (fail)
  all_goals
    go_ret
    refine ⟨congrArg Ending.returned (congrArg Value.bool ?_), rfl⟩
    rw [Bool.eq_iff_iff]
    first
      | (simp [isDigit] <;> done)
      | (simp [isDigit] <;> omega)
      | (simp_all [isDigit] <;> done)
      | (simp_all [isDigit] <;> omega)
theorem letter_any (c : Int) (w : World) : Calls Tryd.prog 42 #[.int .u8 c] w fun e w' => e = .returned (.bool (isLetter c)) ∧ w = w' := by
  go_enter Tryd.func42, Tryd.ntmps42
  go_wp2_with (fail)
  all_goals
    go_ret
    refine ⟨congrArg Ending.returned (congrArg Value.bool ?_), rfl⟩
    rw [Bool.eq_iff_iff]
    first
      | (simp [isLetter] <;> done)
      | (simp [isLetter] <;> omega)
      | (simp_all [isLetter] <;> done)
      | (simp_all [isLetter] <;> omega)
theorem rdigit_any (c : Int) (w : World) : Calls Tryd.prog 33 #[.int .u8 c] w fun e w' => e = .returned (.bool (isDigit c)) ∧ w = w' := by
  go_enter Tryd.func33, Tryd.ntmps33
  go_wp2_with (fail)
  all_goals
    go_ret
    refine ⟨congrArg Ending.returned (congrArg Value.bool ?_), rfl⟩
    rw [Bool.eq_iff_iff]
    first
      | (simp [isDigit] <;> done)
      | (simp [isDigit] <;> omega)
      | (simp_all [isDigit] <;> done)
      | (simp_all [isDigit] <;> omega)
theorem rletter_any (c : Int) (w : World) : Calls Tryd.prog 32 #[.int .u8 c] w fun e w' => e = .returned (.bool (isLetter c)) ∧ w = w' := by
  go_enter Tryd.func32, Tryd.ntmps32
  go_wp2_with (fail)
  all_goals
    go_ret
    refine ⟨congrArg Ending.returned (congrArg Value.bool ?_), rfl⟩
    rw [Bool.eq_iff_iff]
    first
      | (simp [isLetter] <;> done)
      | (simp [isLetter] <;> omega)
      | (simp_all [isLetter] <;> done)
      | (simp_all [isLetter] <;> omega)
theorem wordByte_any (c : Int) (w : World) : Calls Tryd.prog 50 #[.int .u8 c] w fun e w' => e = .returned (.bool (isWord c)) ∧ w = w' := by
  go_enter Tryd.func50, Tryd.ntmps50
  go_wp2_with (first | (go_at_call 42; refine (letter_any _ _).mono ?_; rintro e w' ⟨rfl, rfl⟩) | (go_at_call 44; refine (digit_any _ _).mono ?_; rintro e w' ⟨rfl, rfl⟩))
  all_goals
    go_ret
    refine ⟨congrArg Ending.returned (congrArg Value.bool ?_), rfl⟩
    rw [Bool.eq_iff_iff]
    first
      | (simp [isWord] <;> done)
      | (simp [isWord] <;> omega)
      | (simp_all [isWord] <;> done)
      | (simp_all [isWord] <;> omega)
theorem hexDigit_any (c : Int) (w : World) : Calls Tryd.prog 55 #[.int .u8 c] w fun e w' => e = .returned (.bool (isHex c)) ∧ w = w' := by
  go_enter Tryd.func55, Tryd.ntmps55
  go_wp2_with (first | (go_at_call 42; refine (letter_any _ _).mono ?_; rintro e w' ⟨rfl, rfl⟩) | (go_at_call 44; refine (digit_any _ _).mono ?_; rintro e w' ⟨rfl, rfl⟩))
  all_goals
    go_ret
    refine ⟨congrArg Ending.returned (congrArg Value.bool ?_), rfl⟩
    rw [Bool.eq_iff_iff]
    first
      | (simp [isHex] <;> done)
      | (simp [isHex] <;> omega)
      | (simp_all [isHex] <;> done)
      | (simp_all [isHex] <;> omega)
theorem notNl_any (c : Int) (w : World) : Calls Tryd.prog 41 #[.int .u8 c] w fun e w' => e = .returned (.bool (notNl c)) ∧ w = w' := by
  go_enter Tryd.func41, Tryd.ntmps41
  go_wp2_with (fail)
  all_goals
    go_ret
    refine ⟨congrArg Ending.returned (congrArg Value.bool ?_), rfl⟩
    rw [Bool.eq_iff_iff]
    first
      | (simp [notNl] <;> done)
      | (simp [notNl] <;> omega)
      | (simp_all [notNl] <;> done)
      | (simp_all [notNl] <;> omega)

end Go.Proofs.YtpeebpnoldadjaaDoor.Ck
