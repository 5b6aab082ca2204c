/-
  A text, plain: the machine that asks UTF-8 first.
-/
import Derived.Test.YtdkdbmiafnadmaaRows
import Derived.Test.YtdkdbmiafnadmaaWhoM
import Derived.Test.YtdkdbmiafnadmaaUtA
import Derived.Test.YtdkdbmiafnadmaaBmS
import Derived.Test.YtdkdbmiafnadmaaTak
namespace Go.Proofs.Ytdkdbmiafnadmaa
open Go.RowKit

def stepU (p q : Nat) (n : Int) (l : Lim) (t : ByteArray) (x : MS) (i : Nat) : MS :=
  if x.ft.1 ≠ 0 then x else if Utf.stateAt t (i + 1) = -1 then ⟨x.st, x.mr, x.out, (3, i)⟩ else stepM p q n l x (bytN t i) i
def runU (p q : Nat) (n : Int) (l : Lim) (t : ByteArray) : Nat → MS
  | 0 => ms0
  | k + 1 => stepU p q n l t (runU p q n l t k) k
def endU (l : Lim) (t : ByteArray) (x : MS) (i : Nat) : MS :=
  if x.ft.1 ≠ 0 then x else if Utf.stateAt t i ≠ 0 then ⟨x.st, x.mr, x.out, (12, i)⟩ else endM l x i
def finU (p q : Nat) (n : Int) (l : Lim) (t : ByteArray) : MS := endU l t (runU p q n l t t.size) t.size
/-- Behind k places; the end is one more. -/
def xAt (p q : Nat) (n : Int) (l : Lim) (t : ByteArray) (k : Nat) : MS := if k ≤ t.size then runU p q n l t k else finU p q n l t
def recs (x : MS) : List (List ByteArray) := x.out.map Prod.fst

theorem bytN_one (s : ByteArray) (i : Nat) : bytN s i < 256 := bytN_lt s i
/-- The places of a text with its mark. -/
def offN (s : ByteArray) : Nat := s.size - (Bom.stripS s).size
theorem strip_at (s : ByteArray) : (Bom.stripS s).size ≤ s.size ∧ ∀ k, k < (Bom.stripS s).size → bytN s (offN s + k) = bytN (Bom.stripS s) k := by
  unfold offN
  have h3 := Bom.preN_le s
  by_cases h : Bom.preN s = 3
  · have e : Bom.stripS s = s.extract 3 s.size := by unfold Bom.stripS; rw [if_pos h]
    have hz : (s.extract 3 s.size).size = s.size - 3 := by rw [ByteArray.size_extract]; omega
    rw [e, hz]
    refine ⟨by omega, fun k hk => ?_⟩
    unfold bytN
    rw [byt_extract, if_pos (by omega), show s.size - (s.size - 3) + k = 3 + k by omega]
  · have e : Bom.stripS s = s := by unfold Bom.stripS; rw [if_neg h]
    rw [e]
    refine ⟨Nat.le_refl _, fun k _ => ?_⟩
    rw [show s.size - s.size + k = k by omega]

section
variable {p q : Nat} {n : Int} {l : Lim} {t : ByteArray}
theorem runU_stuck {i : Nat} (h : (runU p q n l t i).ft.1 ≠ 0) : ∀ k, runU p q n l t (i + k) = runU p q n l t i
  | 0 => rfl
  | k + 1 => by
    show stepU p q n l t (runU p q n l t (i + k)) _ = _
    rw [runU_stuck h k]
    unfold stepU
    rw [if_pos h]
theorem finU_stuck {i : Nat} (hi : i ≤ t.size) (h : (runU p q n l t i).ft.1 ≠ 0) : finU p q n l t = runU p q n l t i := by
  unfold finU
  have e := runU_stuck h (t.size - i)
  rw [show i + (t.size - i) = t.size by omega] at e
  rw [e]
  unfold endU
  rw [if_pos h]
theorem xAt_le {k : Nat} (h : k ≤ t.size) : xAt p q n l t k = runU p q n l t k := by unfold xAt; rw [if_pos h]
theorem xAt_end : xAt p q n l t (t.size + 1) = finU p q n l t := by unfold xAt; rw [if_neg (by omega)]
/-- Behind a fault nothing comes. -/
theorem xAt_stuck {k : Nat} (hk : k ≤ t.size + 1) (h : (xAt p q n l t k).ft.1 ≠ 0) : finU p q n l t = xAt p q n l t k := by
  by_cases h1 : k ≤ t.size
  · rw [xAt_le h1] at h ⊢
    exact finU_stuck h1 h
  · rw [show k = t.size + 1 by omega, xAt_end]

theorem outW_map (o : List (List ByteArray × Nat)) (r : Option (List ByteArray)) (i : Nat) : (outW o r i).map Prod.fst = o.map Prod.fst ++ r.toList := by
  cases r with
  | none => simp [outW]
  | some R => simp [outW]

theorem step_sz {x : MS} {b i k : Nat} (h : Sz x.mr k) : Sz (stepM p q n l x b i).mr (k + 5) := by
  unfold stepM takeM
  split
  · exact h.mono (by omega)
  · split
    · exact h.mono (by omega)
    · split
      · exact take_sz h
      · exact h.mono (by omega)
theorem runU_sz : ∀ k, Sz (runU p q n l t k).mr (5 * k)
  | 0 => Sz.zero _
  | k + 1 => by
    have h := runU_sz k
    show Sz (stepU p q n l t (runU p q n l t k) k).mr _
    unfold stepU
    split
    · exact h.mono (by omega)
    · split
      · exact h.mono (by omega)
      · exact step_sz h
theorem runU_st : ∀ k, (runU p q n l t k).st ≤ 6
  | 0 => Nat.zero_le _
  | k + 1 => by
    have h := runU_st k
    show (stepU p q n l t (runU p q n l t k) k).st ≤ 6
    unfold stepU stepM takeM
    split
    · exact h
    · split
      · exact h
      · split
        · exact h
        · split
          · exact step_to _ _ _ _ _
          · exact h
theorem out_len {x : MS} {e : Ev} {to_ i : Nat} : (takeM l x e to_ i).out.length ≤ x.out.length + 1 := by
  unfold takeM
  split
  · cases (takeV l x.mr e).2 <;> simp [outW]
  · simp
theorem runU_len : ∀ k, (runU p q n l t k).out.length ≤ k
  | 0 => Nat.zero_le _
  | k + 1 => by
    have h := runU_len k
    show (stepU p q n l t (runU p q n l t k) k).out.length ≤ k + 1
    unfold stepU stepM
    split
    · exact Nat.le_succ_of_le h
    · split
      · exact Nat.le_succ_of_le h
      · split
        · exact Nat.le_succ_of_le h
        · exact Nat.le_trans out_len (Nat.succ_le_succ h)
/-- What the parser's step is, in the machine's words. -/
theorem x_fault {s : ByteArray} {k : Nat} (hs : s.size = offN s + (Bom.stripS s).size) (hk : k ≤ (Bom.stripS s).size) (h0 : (runU p q n l (Bom.stripS s) k).ft.1 = 0) (hb : k < (Bom.stripS s).size → bytN s (offN s + k) = bytN (Bom.stripS s) k)
    (he : (lookO p q n (Utf.stateAt (Bom.stripS s) k) (runU p q n l (Bom.stripS s) k).st s (offN s + k)).er ≠ 0) :
    (xAt p q n l (Bom.stripS s) (k + 1)).ft = ((lookO p q n (Utf.stateAt (Bom.stripS s) k) (runU p q n l (Bom.stripS s) k).st s (offN s + k)).er, k) ∧ recs (xAt p q n l (Bom.stripS s) (k + 1)) = recs (runU p q n l (Bom.stripS s) k) := by
  unfold lookO at he ⊢
  by_cases hlt : k < (Bom.stripS s).size
  · have h1 : offN s + k < s.size := by omega
    rw [if_pos h1, hb hlt] at he ⊢
    rw [xAt_le (by omega)]
    show (stepU p q n l (Bom.stripS s) (runU p q n l (Bom.stripS s) k) k).ft = _ ∧ recs (stepU p q n l (Bom.stripS s) (runU p q n l (Bom.stripS s) k) k) = _
    have hst : Utf.stateAt (Bom.stripS s) (k + 1) = Utf.stepI (Utf.stateAt (Bom.stripS s) k) (bytN (Bom.stripS s) k) := by
      show (if k < (Bom.stripS s).size then Utf.stepI (Utf.stateAt (Bom.stripS s) k) (byt (Bom.stripS s) k) else -1) = _
      rw [if_pos hlt, bytN_is]
    unfold stepU
    rw [if_neg (by rw [h0]; simp), hst]
    by_cases hno : Utf.stepI (Utf.stateAt (Bom.stripS s) k) (bytN (Bom.stripS s) k) = -1
    · have ho : Utf.okI (Utf.stateAt (Bom.stripS s) k) (bytN (Bom.stripS s) k) = false := by unfold Utf.okI; rw [hno]; rfl
      rw [if_pos ho, if_pos hno]
      exact ⟨rfl, rfl⟩
    · have ho : ¬ Utf.okI (Utf.stateAt (Bom.stripS s) k) (bytN (Bom.stripS s) k) = false := by unfold Utf.okI; simp [hno]
      rw [if_neg ho] at he ⊢
      rw [if_neg hno]
      unfold stepM
      rw [if_neg (by rw [h0]; simp), if_pos he]
      exact ⟨rfl, rfl⟩
  · have h1 : ¬ offN s + k < s.size := by omega
    have hke : k = (Bom.stripS s).size := by omega
    rw [if_neg h1] at he ⊢
    rw [hke, xAt_end]
    rw [hke] at h0 he
    unfold finU endU
    rw [if_neg (by rw [h0]; simp)]
    by_cases hz : Utf.stateAt (Bom.stripS s) (Bom.stripS s).size = 0
    · rw [if_pos hz] at he ⊢
      rw [if_neg (by rw [hz]; simp)]
      unfold endM
      rw [if_neg (by rw [h0]; simp), if_pos he]
      exact ⟨rfl, rfl⟩
    · rw [if_neg hz, if_pos hz]
      exact ⟨rfl, rfl⟩
/-- .. where it is no fault by itself. -/
theorem x_takes {s : ByteArray} {k : Nat} {c : Out} (hc : lookO p q n (Utf.stateAt (Bom.stripS s) k) (runU p q n l (Bom.stripS s) k).st s (offN s + k) = c) (hs : s.size = offN s + (Bom.stripS s).size) (hk : k ≤ (Bom.stripS s).size) (h0 : (runU p q n l (Bom.stripS s) k).ft.1 = 0) (hb : k < (Bom.stripS s).size → bytN s (offN s + k) = bytN (Bom.stripS s) k) (he : c.er = 0) :
    ((takeV l (runU p q n l (Bom.stripS s) k).mr c.ev).1.st ≠ 0 → (xAt p q n l (Bom.stripS s) (k + 1)).ft = ((takeV l (runU p q n l (Bom.stripS s) k).mr c.ev).1.st, k) ∧ recs (xAt p q n l (Bom.stripS s) (k + 1)) = recs (runU p q n l (Bom.stripS s) k)) ∧
    ((takeV l (runU p q n l (Bom.stripS s) k).mr c.ev).1.st = 0 → (xAt p q n l (Bom.stripS s) (k + 1)).ft.1 = 0 ∧ recs (xAt p q n l (Bom.stripS s) (k + 1)) = recs (runU p q n l (Bom.stripS s) k) ++ (takeV l (runU p q n l (Bom.stripS s) k).mr c.ev).2.toList ∧
      (k < (Bom.stripS s).size → (runU p q n l (Bom.stripS s) (k + 1)).mr = (takeV l (runU p q n l (Bom.stripS s) k).mr c.ev).1 ∧ (runU p q n l (Bom.stripS s) (k + 1)).st = lookS p q n (runU p q n l (Bom.stripS s) k).st s (offN s + k) ∧ Utf.stateAt (Bom.stripS s) (k + 1) = lookQ (Utf.stateAt (Bom.stripS s) k) s (offN s + k))) := by
  have key : ∀ to_, (takeM l (runU p q n l (Bom.stripS s) k) c.ev to_ k = xAt p q n l (Bom.stripS s) (k + 1)) →
      ((takeV l (runU p q n l (Bom.stripS s) k).mr c.ev).1.st ≠ 0 → (xAt p q n l (Bom.stripS s) (k + 1)).ft = ((takeV l (runU p q n l (Bom.stripS s) k).mr c.ev).1.st, k) ∧ recs (xAt p q n l (Bom.stripS s) (k + 1)) = recs (runU p q n l (Bom.stripS s) k)) ∧
      ((takeV l (runU p q n l (Bom.stripS s) k).mr c.ev).1.st = 0 → (xAt p q n l (Bom.stripS s) (k + 1)).ft.1 = 0 ∧ recs (xAt p q n l (Bom.stripS s) (k + 1)) = recs (runU p q n l (Bom.stripS s) k) ++ (takeV l (runU p q n l (Bom.stripS s) k).mr c.ev).2.toList ∧ (xAt p q n l (Bom.stripS s) (k + 1)).mr = (takeV l (runU p q n l (Bom.stripS s) k).mr c.ev).1 ∧ (xAt p q n l (Bom.stripS s) (k + 1)).st = to_) := by
    intro to_ hx
    rw [← hx]
    unfold takeM
    refine ⟨fun hn => ?_, fun hz => ?_⟩
    · rw [if_neg hn]
      exact ⟨rfl, rfl⟩
    · rw [if_pos hz]
      exact ⟨rfl, outW_map _ _ _, rfl, rfl⟩
  unfold lookO at hc
  by_cases hlt : k < (Bom.stripS s).size
  · have h1 : offN s + k < s.size := by omega
    rw [if_pos h1, hb hlt] at hc
    have hst : Utf.stateAt (Bom.stripS s) (k + 1) = Utf.stepI (Utf.stateAt (Bom.stripS s) k) (bytN (Bom.stripS s) k) := by
      show (if k < (Bom.stripS s).size then Utf.stepI (Utf.stateAt (Bom.stripS s) k) (byt (Bom.stripS s) k) else -1) = _
      rw [if_pos hlt, bytN_is]
    have hx : xAt p q n l (Bom.stripS s) (k + 1) = runU p q n l (Bom.stripS s) (k + 1) := xAt_le (by omega)
    by_cases ho : Utf.okI (Utf.stateAt (Bom.stripS s) k) (bytN (Bom.stripS s) k) = false
    · rw [if_pos ho] at hc
      rw [← hc] at he
      cases he
    · rw [if_neg ho] at hc
      have hno : ¬ Utf.stepI (Utf.stateAt (Bom.stripS s) k) (bytN (Bom.stripS s) k) = -1 := fun hh => ho (by unfold Utf.okI; rw [hh]; rfl)
      have hrun : takeM l (runU p q n l (Bom.stripS s) k) c.ev c.to_ k = xAt p q n l (Bom.stripS s) (k + 1) := by
        rw [hx]
        show _ = stepU p q n l (Bom.stripS s) (runU p q n l (Bom.stripS s) k) k
        unfold stepU
        rw [if_neg (by rw [h0]; simp), hst, if_neg hno]
        unfold stepM
        rw [hc, if_neg (by rw [h0]; simp), if_neg (by rw [he]; simp)]
      obtain ⟨k1, k2⟩ := key c.to_ hrun
      refine ⟨k1, fun hz => ?_⟩
      obtain ⟨a1, a2, a3, a4⟩ := k2 hz
      refine ⟨a1, a2, fun _ => ?_⟩
      rw [← hx]
      refine ⟨a3, ?_, ?_⟩
      · rw [a4]
        unfold lookS
        rw [if_pos h1, hb hlt, hc]
      · rw [hst]
        unfold lookQ Utf.nxI
        rw [if_pos h1, hb hlt, if_neg hno]
  · have h1 : ¬ offN s + k < s.size := by omega
    have hke : k = (Bom.stripS s).size := by omega
    rw [if_neg h1] at hc
    have hrun : takeM l (runU p q n l (Bom.stripS s) k) c.ev 0 k = xAt p q n l (Bom.stripS s) (k + 1) := by
      subst hke
      rw [xAt_end]
      unfold finU endU
      rw [if_neg (by rw [h0]; simp)]
      by_cases hz : Utf.stateAt (Bom.stripS s) (Bom.stripS s).size = 0
      · rw [if_pos hz] at hc
        rw [if_neg (by rw [hz]; simp)]
        unfold endM
        rw [hc, if_neg (by rw [h0]; simp), if_neg (by rw [he]; simp)]
      · rw [if_neg hz] at hc
        rw [← hc] at he
        cases he
    obtain ⟨k1, k2⟩ := key 0 hrun
    refine ⟨k1, fun hz => ?_⟩
    obtain ⟨a1, a2, _⟩ := k2 hz
    exact ⟨a1, a2, fun hc' => absurd hc' hlt⟩
theorem look_by {sq : Int} {st : Nat} {s : ByteArray} {a : Nat} : (lookO p q n sq st s a).ev.by_ < 256 := by
  unfold lookO
  split
  · split
    · exact Nat.zero_lt_succ _
    · have := bytN_lt s a
      rcases step_by p q n st (bytN s a) with h | h <;> rw [h] <;> omega
  · split
    · unfold closeV
      repeat' split
      all_goals simp [ev0]
    · exact Nat.zero_lt_succ _
end

end Go.Proofs.Ytdkdbmiafnadmaa
