/-
  Plain: fields that mean nothing, byte by byte; the widest limits are no limits.
-/
import Derived.Test.YtajedohgcepkiaaDoorRows
import Derived.Test.YtajedohgcepkiaaDoorNdM
namespace Go.Proofs.YtajedohgcepkiaaDoor.Nd
open Go.RowKit

section
variable {p q : Nat} {n : Int} {t : ByteArray}

/-- None of its bytes means something. -/
def Bare (p q : Nat) (f : ByteArray) : Prop := ∀ j, j < f.size → bytN f j ≠ p ∧ bytN f j ≠ q ∧ bytN f j ≠ 13 ∧ bytN f j ≠ 10

theorem extract_snoc (f : ByteArray) (j : Nat) (h : j < f.size) : f.extract 0 (j + 1) = f.extract 0 j ++ ⟨#[UInt8.ofNat (bytN f j)]⟩ := by
  rw [← extract_one f j h]
  apply byt_inj
  · rw [ByteArray.size_append, ByteArray.size_extract, ByteArray.size_extract, ByteArray.size_extract]; omega
  · intro i hi
    rw [ByteArray.size_extract] at hi
    rw [byt_append, ByteArray.size_extract, byt_extract, byt_extract, byt_extract]
    rw [if_pos (by omega)]
    by_cases c : i < min j f.size - 0
    · rw [if_pos c, if_pos (by omega)]
    · rw [if_neg c, if_pos (by omega)]
      congr 1
      omega
theorem extract_none (f : ByteArray) : f.extract 0 0 = ⟨#[]⟩ := size_none _ (by rw [ByteArray.size_extract]; omega)
theorem extract_all (f : ByteArray) : f.extract 0 f.size = f := by
  apply byt_inj
  · rw [ByteArray.size_extract]; omega
  · intro i hi
    rw [ByteArray.size_extract] at hi
    rw [byt_extract, if_pos (by omega), Nat.zero_add]

theorem fldE_wide (m : Mkr) (h : m.rc.length ≤ 100000) : fldE wLim m = 0 := by
  unfold fldE fieldV wLim
  simp only []
  rw [if_neg (by omega), if_neg (by simp [must])]
theorem linE_wide (m : Mkr) : linE wLim m = 0 := by
  unfold linE lineV wLim
  simp only []
  rw [if_neg (by simp [must])]

theorem bare_of {f : ByteArray} {al fi : Bool} (h : whyN p q f al fi = 0) : Bare p q f ∧ ¬ (f.size = 0 ∧ al = true) ∧ ¬ (fi = true ∧ Bom.hadB f = true) := by
  unfold whyN at h
  split at h
  · cases h
  · rename_i c1
    split at h
    · cases h
    · rename_i c2
      split at h
      · cases h
      · rename_i c3
        split at h
        · cases h
        · rename_i c4
          split at h
          · cases h
          · rename_i c5
            refine ⟨fun j hj => ?_, c4, c5⟩
            have e : ∀ b : Nat, hasC f b ≠ true → bytN f j ≠ b := fun b hb hc => hb (hasC_yes hj (by rw [← bytN_is, hc]))
            have c3' : hasC f 13 ≠ true ∧ hasC f 10 ≠ true := by
              refine ⟨fun c => c3 (by rw [c]; rfl), fun c => c3 (by rw [c, Bool.or_true])⟩
            exact ⟨e p c1, e q c2, e 13 c3'.1, e 10 c3'.2⟩

end

end Go.Proofs.YtajedohgcepkiaaDoor.Nd
