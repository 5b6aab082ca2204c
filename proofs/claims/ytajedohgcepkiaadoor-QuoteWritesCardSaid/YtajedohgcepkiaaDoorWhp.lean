/-
  A text, plain: the machine that asks UTF-8 first.
-/
import Derived.Test.YtajedohgcepkiaaDoorRows
import Derived.Test.YtajedohgcepkiaaDoorWhoM
import Derived.Test.YtajedohgcepkiaaDoorUtA
import Derived.Test.YtajedohgcepkiaaDoorBmR
namespace Go.Proofs.YtajedohgcepkiaaDoor
open Go.RowKit

def stepU (p q : Nat) (n : Int) (l : Lim) (t : ByteArray) (x : MS) (i : Nat) : MS :=
  if x.ft.1 ≠ 0 then x else if Utf.stateAt t (i + 1) = -1 then ⟨x.st, x.mr, x.out, (3, i)⟩ else stepM p q n l x (bytN t i) i
def runU (p q : Nat) (n : Int) (l : Lim) (t : ByteArray) : Nat → MS
  | 0 => ms0
  | k + 1 => stepU p q n l t (runU p q n l t k) k
def endU (l : Lim) (t : ByteArray) (x : MS) (i : Nat) : MS :=
  if x.ft.1 ≠ 0 then x else if Utf.stateAt t i ≠ 0 then ⟨x.st, x.mr, x.out, (12, i)⟩ else endM l x i
def finU (p q : Nat) (n : Int) (l : Lim) (t : ByteArray) : MS := endU l t (runU p q n l t t.size) t.size
/-- Behind k places; the end is one more. -/
def xAt (p q : Nat) (n : Int) (l : Lim) (t : ByteArray) (k : Nat) : MS := if k ≤ t.size then runU p q n l t k else finU p q n l t
def recs (x : MS) : List (List ByteArray) := x.out.map Prod.fst

theorem bytN_one (s : ByteArray) (i : Nat) : bytN s i < 256 := bytN_lt s i
/-- The places of a text with its mark. -/
def offN (s : ByteArray) : Nat := s.size - (Bom.stripS s).size
theorem strip_at (s : ByteArray) : (Bom.stripS s).size ≤ s.size ∧ ∀ k, k < (Bom.stripS s).size → bytN s (offN s + k) = bytN (Bom.stripS s) k := by
  unfold offN
  have h3 := Bom.preN_le s
  by_cases h : Bom.preN s = 3
  · have e : Bom.stripS s = s.extract 3 s.size := by unfold Bom.stripS; rw [if_pos h]
    have hz : (s.extract 3 s.size).size = s.size - 3 := by rw [ByteArray.size_extract]; omega
    rw [e, hz]
    refine ⟨by omega, fun k hk => ?_⟩
    unfold bytN
    rw [byt_extract, if_pos (by omega), show s.size - (s.size - 3) + k = 3 + k by omega]
  · have e : Bom.stripS s = s := by unfold Bom.stripS; rw [if_neg h]
    rw [e]
    refine ⟨Nat.le_refl _, fun k _ => ?_⟩
    rw [show s.size - s.size + k = k by omega]

section
variable {p q : Nat} {n : Int} {l : Lim} {t : ByteArray}
theorem runU_stuck {i : Nat} (h : (runU p q n l t i).ft.1 ≠ 0) : ∀ k, runU p q n l t (i + k) = runU p q n l t i
  | 0 => rfl
  | k + 1 => by
    show stepU p q n l t (runU p q n l t (i + k)) _ = _
    rw [runU_stuck h k]
    unfold stepU
    rw [if_pos h]
theorem finU_stuck {i : Nat} (hi : i ≤ t.size) (h : (runU p q n l t i).ft.1 ≠ 0) : finU p q n l t = runU p q n l t i := by
  unfold finU
  have e := runU_stuck h (t.size - i)
  rw [show i + (t.size - i) = t.size by omega] at e
  rw [e]
  unfold endU
  rw [if_pos h]
theorem xAt_le {k : Nat} (h : k ≤ t.size) : xAt p q n l t k = runU p q n l t k := by unfold xAt; rw [if_pos h]
theorem xAt_end : xAt p q n l t (t.size + 1) = finU p q n l t := by unfold xAt; rw [if_neg (by omega)]
/-- Behind a fault nothing comes. -/
theorem xAt_stuck {k : Nat} (hk : k ≤ t.size + 1) (h : (xAt p q n l t k).ft.1 ≠ 0) : finU p q n l t = xAt p q n l t k := by
  by_cases h1 : k ≤ t.size
  · rw [xAt_le h1] at h ⊢
    exact finU_stuck h1 h
  · rw [show k = t.size + 1 by omega, xAt_end]

theorem outW_map (o : List (List ByteArray × Nat)) (r : Option (List ByteArray)) (i : Nat) : (outW o r i).map Prod.fst = o.map Prod.fst ++ r.toList := by
  cases r with
  | none => simp [outW]
  | some R => simp [outW]

theorem step_sz {x : MS} {b i k : Nat} (h : Sz x.mr k) : Sz (stepM p q n l x b i).mr (k + 5) := by
  unfold stepM takeM
  split
  · exact h.mono (by omega)
  · split
    · exact h.mono (by omega)
    · split
      · exact take_sz h
      · exact h.mono (by omega)
theorem runU_sz : ∀ k, Sz (runU p q n l t k).mr (5 * k)
  | 0 => Sz.zero _
  | k + 1 => by
    have h := runU_sz k
    show Sz (stepU p q n l t (runU p q n l t k) k).mr _
    unfold stepU
    split
    · exact h.mono (by omega)
    · split
      · exact h.mono (by omega)
      · exact step_sz h
theorem runU_st : ∀ k, (runU p q n l t k).st ≤ 6
  | 0 => Nat.zero_le _
  | k + 1 => by
    have h := runU_st k
    show (stepU p q n l t (runU p q n l t k) k).st ≤ 6
    unfold stepU stepM takeM
    split
    · exact h
    · split
      · exact h
      · split
        · exact h
        · split
          · exact step_to _ _ _ _ _
          · exact h
theorem out_len {x : MS} {e : Ev} {to_ i : Nat} : (takeM l x e to_ i).out.length ≤ x.out.length + 1 := by
  unfold takeM
  split
  · cases (takeV l x.mr e).2 <;> simp [outW]
  · simp
theorem runU_len : ∀ k, (runU p q n l t k).out.length ≤ k
  | 0 => Nat.zero_le _
  | k + 1 => by
    have h := runU_len k
    show (stepU p q n l t (runU p q n l t k) k).out.length ≤ k + 1
    unfold stepU stepM
    split
    · exact Nat.le_succ_of_le h
    · split
      · exact Nat.le_succ_of_le h
      · split
        · exact Nat.le_succ_of_le h
        · exact Nat.le_trans out_len (Nat.succ_le_succ h)
end

end Go.Proofs.YtajedohgcepkiaaDoor
