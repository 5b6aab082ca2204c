/-
  Walks: what is wrong with a text, and how long its longest whole beginning is; the document's examples.
-/
import Derived.Test.YtajedohgcepkiaaDoorRows
import Derived.Test.YtajedohgcepkiaaDoorUtB
namespace Go.Proofs.YtajedohgcepkiaaDoor.Utf
open Go.RowKit

/-- The last place up to k that goes. -/
def goesUp (s : ByteArray) : Nat → Nat
  | 0 => 0
  | k + 1 => if stateAt s (k + 1) = -1 then goesUp s k else k + 1
def goesN (s : ByteArray) : Nat := goesUp s s.size
/-- The last place up to k that is whole. -/
def wholeUp (s : ByteArray) : Nat → Nat
  | 0 => 0
  | k + 1 => if stateAt s (k + 1) = 0 then k + 1 else wholeUp s k
def wholeN (s : ByteArray) : Nat := wholeUp s s.size

theorem stateAt_end (s : ByteArray) (j : Nat) (h : s.size < j) : stateAt s j = -1 :=
  stateAt_fail s (s.size + 1) j (by show (if s.size < s.size then _ else -1) = -1; rw [if_neg (by omega)]) h

theorem goesUp_is (s : ByteArray) (k : Nat) : goesUp s k ≤ k ∧ stateAt s (goesUp s k) ≠ -1 ∧ ∀ j, goesUp s k < j → j ≤ k → stateAt s j = -1 := by
  induction k with
  | zero => exact ⟨Nat.le_refl _, by show (0 : Int) ≠ -1; omega, fun j h1 h2 => by have : goesUp s 0 = 0 := rfl; omega⟩
  | succ k ih =>
    unfold goesUp
    split
    · rename_i h
      refine ⟨by omega, ih.2.1, fun j h1 h2 => ?_⟩
      by_cases e : j = k + 1
      · rw [e]; exact h
      · exact ih.2.2 j h1 (by omega)
    · rename_i h
      exact ⟨Nat.le_refl _, h, fun j h1 h2 => by omega⟩

theorem goesN_is (s : ByteArray) : Goes s (goesN s) := by
  obtain ⟨h1, h2, h3⟩ := goesUp_is s s.size
  refine ⟨h1, h2, ?_⟩
  show stateAt s (goesN s + 1) = -1
  by_cases h : goesN s + 1 ≤ s.size
  · exact h3 _ (Nat.lt_succ_self _) h
  · exact stateAt_end s _ (by omega)

theorem wholeUp_is (s : ByteArray) (k : Nat) : wholeUp s k ≤ k ∧ stateAt s (wholeUp s k) = 0 ∧ ∀ j, wholeUp s k < j → j ≤ k → stateAt s j ≠ 0 := by
  induction k with
  | zero => exact ⟨Nat.le_refl _, rfl, fun j h1 h2 => by have : wholeUp s 0 = 0 := rfl; omega⟩
  | succ k ih =>
    unfold wholeUp
    split
    · rename_i h
      exact ⟨Nat.le_refl _, h, fun j h1 h2 => by omega⟩
    · rename_i h
      refine ⟨by omega, ih.2.1, fun j h1 h2 => ?_⟩
      by_cases e : j = k + 1
      · rw [e]; exact h
      · exact ih.2.2 j h1 (by omega)

theorem wholeN_is (s : ByteArray) : Whole s (wholeN s) := by
  obtain ⟨h1, h2, h3⟩ := wholeUp_is s s.size
  refine ⟨h1, h2, fun j hj => ?_⟩
  by_cases h : j ≤ s.size
  · exact h3 j hj h
  · rw [stateAt_end s j (by omega)]; omega

theorem whole_goes (s : ByteArray) : wholeN s ≤ goesN s := by
  have h1 := wholeN_is s
  have h2 := goesN_is s
  refine Classical.byContradiction fun h => ?_
  have := stateAt_fail s (goesN s + 1) (wholeN s) h2.2.2 (by omega)
  rw [h1.2.1] at this
  omega

def refBad (s : ByteArray) : Int := if goesN s < s.size then (goesN s : Int) else -1
theorem refBad_any (s : ByteArray) (w : World) (hs : s.size ≤ 4294967296) : Calls Tryd.prog 32 #[.string s] w (Gives (.int .i64 (refBad s)) w) := by
  refine (bad_W s w hs).mono ?_
  rintro e w' ⟨⟨n, hg, h⟩, hb⟩
  refine ⟨?_, hb⟩
  have hn : n = goesN s := goes_unique s n _ hg (goesN_is s)
  subst hn
  unfold refBad
  rcases h with ⟨h1, h2⟩ | ⟨h1, h2⟩
  · rw [if_pos h1, h2]
  · rw [if_neg (by omega), h2]
theorem refWhole_any (s : ByteArray) (w : World) (hs : s.size ≤ maxLen) : Calls Tryd.prog 18 #[.string s] w (Gives (.int .i64 (wholeN s)) w) := by
  refine (whole_W s w hs).mono ?_
  rintro e w' ⟨⟨k, he, hk⟩, hb⟩
  have hn : k = wholeN s := whole_unique s k _ hk (wholeN_is s)
  subst hn
  exact ⟨he, hb⟩

end Go.Proofs.YtajedohgcepkiaaDoor.Utf
