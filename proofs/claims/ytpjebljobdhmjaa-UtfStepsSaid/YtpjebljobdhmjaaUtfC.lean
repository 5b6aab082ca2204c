/-
  One byte behind a state: what the document asks is the table: plain mathematics.
-/
import Derived.Test.YtpjebljobdhmjaaRows
import Derived.Test.YtpjebljobdhmjaaUtfB
namespace Go.Proofs.Ytpjebljobdhmjaa
open Go.RowKit

def oneB (b : Nat) : ByteArray := ⟨#[UInt8.ofNat b]⟩
def fitsStep (st : Int) (b : Nat) : Bool :=
  goesF (beginM st ++ oneB b) == decide (stepI st b ≠ -1) && (decide (stepI st b = -1) || stateM (beginM st ++ oneB b) == stepI st b)
theorem steps0 : ∀ b : Fin 256, fitsStep 0 b.val = true := by decide +kernel
theorem steps4 : ∀ b : Fin 256, fitsStep 4 b.val = true := by decide +kernel
theorem steps5 : ∀ b : Fin 256, fitsStep 5 b.val = true := by decide +kernel
theorem steps6 : ∀ b : Fin 256, fitsStep 6 b.val = true := by decide +kernel
theorem steps7 : ∀ b : Fin 256, fitsStep 7 b.val = true := by decide +kernel

theorem steps_fit (st : Int) (b : Nat) (hb : b < 256) (h : st = 0 ∨ st = 4 ∨ st = 5 ∨ st = 6 ∨ st = 7) :
    goesF (beginM st ++ oneB b) = decide (stepI st b ≠ -1) ∧ (stepI st b ≠ -1 → stateM (beginM st ++ oneB b) = stepI st b) := by
  have hf : fitsStep st b = true := by
    rcases h with rfl | rfl | rfl | rfl | rfl
    · exact steps0 ⟨b, hb⟩
    · exact steps4 ⟨b, hb⟩
    · exact steps5 ⟨b, hb⟩
    · exact steps6 ⟨b, hb⟩
    · exact steps7 ⟨b, hb⟩
  unfold fitsStep at hf
  simp only [Bool.and_eq_true, beq_iff_eq, Bool.or_eq_true, decide_eq_true_eq] at hf
  exact ⟨hf.1, fun h => hf.2.resolve_left h⟩

end Go.Proofs.Ytpjebljobdhmjaa
