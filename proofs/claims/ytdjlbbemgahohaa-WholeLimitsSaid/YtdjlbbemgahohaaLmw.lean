/-
  Within the widest limits a text without a fault within narrower ones comes to the same: plain.
-/
import Derived.Test.YtdjlbbemgahohaaRows
import Derived.Test.YtdjlbbemgahohaaFro
namespace Go.Proofs.Ytdjlbbemgahohaa
open Go.RowKit

section
variable {l : Lim} {m : Mkr} {e : Ev}
/-- Limits that the widest ones hold. -/
def inW (l : Lim) : Prop := l.fs ≤ 2147483648 ∧ l.fl ≤ 2147483648 ∧ l.rs ≤ 2147483648
theorem inW_fits (h : fitsB l.fs l.fl l.rs = true) : inW l := by unfold fitsB at h; simp at h; unfold inW; omega
theorem begin_w (hl : inW l) (h : (beginV l m).2 = 0) : beginV wLim m = beginV l m := by
  unfold beginV at h ⊢
  by_cases c : l.rs ≤ (m.bg : Int)
  · rw [if_pos c] at h; cases h
  · rw [if_neg c, if_neg (by unfold inW at hl; simp only [wLim]; omega)]
theorem add_w (hl : inW l) {b : Nat} (h : (addV l m b).2 = 0) : addV wLim m b = addV l m b := by
  unfold addV at h ⊢
  by_cases c : l.fs ≤ (m.fd.size : Int)
  · rw [if_pos c] at h; cases h
  · rw [if_neg c, if_neg (by unfold inW at hl; simp only [wLim]; omega)]
theorem must_w : must wLim m = false := by simp [must, wLim]
theorem field_w (hl : inW l) (h : (fieldV l m).2 = 0) : fieldV wLim m = fieldV l m := by
  unfold fieldV at h ⊢
  simp only [] at h ⊢
  by_cases c : l.fl ≤ (m.rc.length : Int) + 1
  · rw [if_pos c] at h; cases h
  · rw [if_neg c] at h
    rw [if_neg c, h, if_neg (by unfold inW at hl; simp only [wLim]; omega), if_neg (by rw [must_w]; simp)]
theorem line_w (h : (lineV l m).2 = 0) : lineV wLim m = lineV l m := by
  unfold lineV at h ⊢
  simp only [] at h ⊢
  rw [h, if_neg (by rw [must_w]; simp)]
theorem on_w {c : Bool} {o o' : Mkr × Nat} (ho : o.2 = 0 → o' = o) (h : (onV c m o).2 = 0) : onV c m o' = onV c m o := by
  unfold onV at h ⊢
  cases c
  · rfl
  · simp only [if_true] at h ⊢
    exact ho h
theorem then_w {o o' : Mkr × Nat} {f f' : Mkr → Mkr × Nat} (ho : o.2 = 0 → o' = o) (hf : ∀ k, (f k).2 = 0 → f' k = f k) (h : (thenV o f).2 = 0) : thenV o' f' = thenV o f := by
  by_cases c : o.2 = 0
  · rw [then_ok c] at h
    rw [ho c, then_ok c, then_ok c, hf _ h]
  · rw [then_no c] at h
    exact absurd h c
theorem gather_w (hl : inW l) (h : (gatherV l m e).2 = 0) : gatherV wLim m e = gatherV l m e := by
  unfold gatherV at h ⊢
  refine then_w (on_w (begin_w hl)) (fun m1 h1 => ?_) h
  refine then_w (on_w (add_w hl)) (fun m2 h2 => ?_) h1
  refine then_w (on_w (field_w hl)) (fun m3 h3 => ?_) h2
  exact on_w line_w h3
theorem take_w (hl : inW l) (h : (takeV l m e).1.st = 0) : takeV wLim m e = takeV l m e := by
  have hm : (midV l m e).st = 0 := by
    unfold takeV at h
    split at h
    · rename_i c; exact c.1
    · exact h
  have hmid : midV wLim m e = midV l m e := by
    unfold midV at hm ⊢
    by_cases c : m.st = 0
    · rw [if_pos c] at hm
      rw [if_pos c, if_pos c, gather_w hl hm]
    · rw [if_neg c, if_neg c]
  unfold takeV
  rw [hmid]
theorem takeM_w (hl : inW l) {x : MS} {to_ i : Nat} (h : (takeM l x e to_ i).ft.1 = 0) : takeM wLim x e to_ i = takeM l x e to_ i := by
  unfold takeM at h ⊢
  by_cases c : (takeV l x.mr e).1.st = 0
  · rw [take_w hl c]
  · rw [if_neg c] at h
    exact absurd h c
end
section
variable {p q : Nat} {n : Int} {l : Lim} {t : ByteArray}
theorem stepU_w (hl : inW l) {x : MS} {i : Nat} (h : (stepU p q n l t x i).ft.1 = 0) : x.ft.1 = 0 ∧ stepU p q n wLim t x i = stepU p q n l t x i := by
  unfold stepU at h ⊢
  by_cases c : x.ft.1 ≠ 0
  · rw [if_pos c] at h; exact absurd h c
  · refine ⟨by omega, ?_⟩
    rw [if_neg c] at h
    rw [if_neg c, if_neg c]
    by_cases c2 : Utf.stateAt t (i + 1) = -1
    · rw [if_pos c2] at h; cases h
    · rw [if_neg c2] at h
      rw [if_neg c2, if_neg c2]
      unfold stepM at h ⊢
      rw [if_neg c] at h
      rw [if_neg c, if_neg c]
      by_cases c3 : (stepV p q n x.st (bytN t i)).er ≠ 0
      · rw [if_pos c3, if_pos c3]
      · rw [if_neg c3] at h
        rw [if_neg c3, if_neg c3]
        exact takeM_w hl h
theorem runU_w (hl : inW l) : ∀ k, (runU p q n l t k).ft.1 = 0 → runU p q n wLim t k = runU p q n l t k
  | 0, _ => rfl
  | k + 1, h => by
    obtain ⟨h1, h2⟩ := stepU_w hl (show (stepU p q n l t (runU p q n l t k) k).ft.1 = 0 from h)
    show stepU p q n wLim t (runU p q n wLim t k) k = stepU p q n l t (runU p q n l t k) k
    rw [runU_w hl k h1, h2]
theorem finU_w (hl : inW l) (h : (finU p q n l t).ft.1 = 0) : finU p q n wLim t = finU p q n l t := by
  have h0 : (runU p q n l t t.size).ft.1 = 0 := by
    refine Classical.byContradiction fun hc => ?_
    rw [finU_stuck (Nat.le_refl _) hc] at h
    exact hc h
  have hf : ¬ (runU p q n l t t.size).ft.1 ≠ 0 := by omega
  unfold finU at h ⊢
  rw [runU_w hl _ h0]
  unfold endU at h ⊢
  simp only [if_neg hf] at h ⊢
  by_cases c2 : Utf.stateAt t t.size ≠ 0
  · simp only [if_pos c2]
  · simp only [if_neg c2] at h ⊢
    unfold endM at h ⊢
    simp only [if_neg hf] at h ⊢
    by_cases c3 : (closeV (runU p q n l t t.size).st).er ≠ 0
    · simp only [if_pos c3]
    · simp only [if_neg c3] at h ⊢
      exact takeM_w hl h
end

end Go.Proofs.Ytdjlbbemgahohaa
