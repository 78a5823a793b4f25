/- Points: which may be, and how two compare. -/
import Derived.Test.YtenaelkbgkpllaaGreatDoorRows
import Derived.Test.YtenaelkbgkpllaaGreatDoorWard
import Derived.WalkKit
import Derived.WalkSpells
import Derived.WalkLawsBesides
import Derived.BigQuiet
import Derived.Deep.RegionHeld3
namespace Go.Proofs.YtenaelkbgkpllaaGreatDoor
open Go.RowKit

theorem hide {p : Prop} (h : p) : Hid p := h
/-- an int as a value -/
abbrev I (n : Int) : Value := .int .i64 n
/-- a point's cells -/
def P3 (p : Ward.Pt) : List Value := [I p.id, I p.x, I p.y]

set_option maxHeartbeats 400000 in
theorem isID_any (n : Int) (w : World) :
    Calls Tryz.prog 31 #[I n] w fun e w' => e = .returned (.bool (decide (1 ≤ n ∧ n ≤ 1000000))) ∧ w' = w := by
  by_cases h1 : 1 ≤ n
  · by_cases h2 : n ≤ 1000000
    · have e : decide (1 ≤ n ∧ n ≤ 1000000) = true := by simp [h1, h2]
      rw [e]
      go_enter Tryz.func31, Tryz.ntmps31
      go_wp2
      go_ret
      exact ⟨rfl, rfl⟩
    · have e : decide (1 ≤ n ∧ n ≤ 1000000) = false := by simp [h2]
      rw [e]
      go_enter Tryz.func31, Tryz.ntmps31
      go_wp2
      go_ret
      exact ⟨rfl, rfl⟩
  · have e : decide (1 ≤ n ∧ n ≤ 1000000) = false := by simp [h1]
    rw [e]
    go_enter Tryz.func31, Tryz.ntmps31
    go_wp2
    go_ret
    exact ⟨rfl, rfl⟩
set_option maxHeartbeats 400000 in
theorem isCoord_any (n : Int) (w : World) :
    Calls Tryz.prog 32 #[I n] w fun e w' => e = .returned (.bool (decide (-1000000 ≤ n ∧ n ≤ 1000000))) ∧ w' = w := by
  by_cases h1 : -1000000 ≤ n
  · by_cases h2 : n ≤ 1000000
    · have e : decide (-1000000 ≤ n ∧ n ≤ 1000000) = true := by simp [h1, h2]
      rw [e]
      go_enter Tryz.func32, Tryz.ntmps32
      go_wp2
      go_ret
      exact ⟨rfl, rfl⟩
    · have e : decide (-1000000 ≤ n ∧ n ≤ 1000000) = false := by simp [h2]
      rw [e]
      go_enter Tryz.func32, Tryz.ntmps32
      go_wp2
      go_ret
      exact ⟨rfl, rfl⟩
  · have e : decide (-1000000 ≤ n ∧ n ≤ 1000000) = false := by simp [h1]
    rw [e]
    go_enter Tryz.func32, Tryz.ntmps32
    go_wp2
    go_ret
    exact ⟨rfl, rfl⟩
/-- what cmp.Compare says of two numbers -/
def cmpI (a b : Int) : Int := if a < b then -1 else if b < a then 1 else 0
set_option maxHeartbeats 400000 in
theorem isNaN_any (n : Int) (w : World) :
    Calls Tryz.prog 108 #[I n] w fun e w' => e = .returned (.bool false) ∧ w' = w := by
  go_enter Tryz.func108, Tryz.ntmps108
  go_wp2
  go_ret
  exact ⟨rfl, rfl⟩
set_option maxHeartbeats 400000 in
theorem cmpInt_any (a b : Int) (w : World) :
    Calls Tryz.prog 67 #[I a, I b] w fun e w' => e = .returned (I (cmpI a b)) ∧ w' = w := by
  rcases Int.lt_trichotomy a b with h | h | h
  · have e : cmpI a b = -1 := by simp [cmpI, h]
    rw [e]
    go_enter Tryz.func67, Tryz.ntmps67
    go_wp2_with (go_at_call 108; refine (isNaN_any _ _).mono ?_; rintro _ _ ⟨rfl, rfl⟩)
    go_ret
    exact ⟨rfl, rfl⟩
  · have e : cmpI a b = 0 := by subst h; simp [cmpI]
    rw [e]
    subst h
    go_enter Tryz.func67, Tryz.ntmps67
    go_wp2_with (go_at_call 108; refine (isNaN_any _ _).mono ?_; rintro _ _ ⟨rfl, rfl⟩)
    go_ret
    exact ⟨rfl, rfl⟩
  · have e : cmpI a b = 1 := by simp [cmpI, h, show ¬ a < b by omega]
    have h' : ¬ a < b := by omega
    rw [e]
    go_enter Tryz.func67, Tryz.ntmps67
    go_wp2_with (go_at_call 108; refine (isNaN_any _ _).mono ?_; rintro _ _ ⟨rfl, rfl⟩)
    go_ret
    exact ⟨rfl, rfl⟩
end Go.Proofs.YtenaelkbgkpllaaGreatDoor
