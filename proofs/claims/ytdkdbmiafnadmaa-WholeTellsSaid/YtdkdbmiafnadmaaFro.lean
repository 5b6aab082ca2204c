/-
  A text and a beginning of it, plain.
-/
import Derived.Test.YtdkdbmiafnadmaaRows
import Derived.Test.YtdkdbmiafnadmaaPse
import Derived.Test.YtdkdbmiafnadmaaWhoS
namespace Go.Proofs.Ytdkdbmiafnadmaa
open Go.RowKit

def wLim : Lim := ⟨2147483648, 2147483648, 2147483648, false⟩
section
variable {p q : Nat} {n : Int} {l : Lim} {t t' : ByteArray}
theorem state_same {m : Nat} (h1 : m ≤ t.size) (h2 : m ≤ t'.size) (hb : ∀ i, i < m → byt t i = byt t' i) : ∀ i, i ≤ m → Utf.stateAt t i = Utf.stateAt t' i
  | 0, _ => rfl
  | i + 1, hi => by
    show (if i < t.size then Utf.stepI (Utf.stateAt t i) (byt t i) else -1) = (if i < t'.size then Utf.stepI (Utf.stateAt t' i) (byt t' i) else -1)
    rw [if_pos (by omega), if_pos (by omega), state_same h1 h2 hb i (by omega), hb i (by omega)]
theorem run_same {m : Nat} (h1 : m ≤ t.size) (h2 : m ≤ t'.size) (hb : ∀ i, i < m → byt t i = byt t' i) : ∀ i, i ≤ m → runU p q n l t i = runU p q n l t' i
  | 0, _ => rfl
  | i + 1, hi => by
    show stepU p q n l t (runU p q n l t i) i = stepU p q n l t' (runU p q n l t' i) i
    rw [run_same h1 h2 hb i (by omega)]
    unfold stepU bytN
    rw [state_same h1 h2 hb (i + 1) hi, hb i (by omega)]
/-- What was handed out stays. -/
theorem take_out (x : MS) (e : Ev) (to_ i : Nat) : x.out <+: (takeM l x e to_ i).out := by
  unfold takeM
  split
  · cases (takeV l x.mr e).2 with
    | none => exact List.prefix_refl _
    | some R => exact List.prefix_append _ _
  · exact List.prefix_refl _
theorem stepU_out (x : MS) (i : Nat) : x.out <+: (stepU p q n l t x i).out := by
  unfold stepU stepM
  repeat' split
  all_goals first
    | exact List.prefix_refl _
    | exact take_out _ _ _ _
theorem endU_out (x : MS) (i : Nat) : x.out <+: (endU l t x i).out := by
  unfold endU endM
  repeat' split
  all_goals first
    | exact List.prefix_refl _
    | exact take_out _ _ _ _
theorem run_out (i : Nat) : ∀ k, (runU p q n l t i).out <+: (runU p q n l t (i + k)).out
  | 0 => List.prefix_refl _
  | k + 1 => (run_out i k).trans (stepU_out _ _)
theorem fin_out {i : Nat} (hi : i ≤ t.size) : recs (runU p q n l t i) <+: recs (finU p q n l t) := by
  unfold recs
  have h := (run_out (p := p) (q := q) (n := n) (l := l) (t := t) i (t.size - i)).trans (endU_out (l := l) (t := t) (runU p q n l t (i + (t.size - i))) t.size)
  rw [show i + (t.size - i) = t.size by omega] at h
  exact h.map _
/-- The end makes one record more at most, and none with a fault. -/
theorem end_out : recs (finU p q n l t) = recs (runU p q n l t t.size) ∨ ((finU p q n l t).ft.1 = 0 ∧ ∃ R, recs (finU p q n l t) = recs (runU p q n l t t.size) ++ [R]) := by
  unfold finU endU endM
  split
  · exact .inl rfl
  · split
    · exact .inl rfl
    · split
      · exact .inl rfl
      · unfold takeM
        split
        · cases (takeV l (runU p q n l t t.size).mr (closeV (runU p q n l t t.size).st).ev).2 with
          | none => exact .inl rfl
          | some R => exact .inr ⟨rfl, R, outW_map (runU p q n l t t.size).out (some R) t.size⟩
        · exact .inl rfl
/-- A fault ahead of the end is a run's. -/
theorem fin_fault (h0 : (finU p q n l t).ft.1 ≠ 0) (h : (finU p q n l t).ft.2 < t.size) : finU p q n l t = runU p q n l t t.size ∧ (runU p q n l t t.size).ft.1 ≠ 0 := by
  by_cases hr : (runU p q n l t t.size).ft.1 ≠ 0
  · exact ⟨finU_stuck (Nat.le_refl _) hr, hr⟩
  · exfalso
    have hz : ∀ x : MS, x.ft.1 = 0 → (endU l t x t.size).ft.1 ≠ 0 → (endU l t x t.size).ft.2 = t.size := by
      intro x hx
      unfold endU endM takeM
      rw [if_neg (by rw [hx]; simp)]
      split
      · intro _; rfl
      · rw [if_neg (by rw [hx]; simp)]
        split
        · intro _; rfl
        · split
          · intro hc; exact absurd rfl hc
          · intro _; rfl
    have := hz _ (by omega) h0
    unfold finU at h
    omega

/-- Where one text is a beginning of the other. -/
def FrontM (T1 T2 : List (List ByteArray)) (K1 A1 K2 A2 k : Nat) : Prop :=
  (K1 ≠ 0 → A1 < k → K1 = K2 ∧ A1 = A2) ∧ (T1.length - (if K1 = 0 ∧ 0 < T1.length then 1 else 0)) ≤ T2.length ∧ ∀ i, i < T1.length - (if K1 = 0 ∧ 0 < T1.length then 1 else 0) → T1[i]? = T2[i]?
theorem front_plain {off : Nat} (hle : t.size ≤ t'.size) (hb : ∀ i, i < t.size → byt t i = byt t' i) :
    FrontM (recs (finU p q n l t)) (recs (finU p q n l t')) (finU p q n l t).ft.1 (if (finU p q n l t).ft.1 = 0 then 0 else off + (finU p q n l t).ft.2) (finU p q n l t').ft.1 (if (finU p q n l t').ft.1 = 0 then 0 else off + (finU p q n l t').ft.2) (off + t.size) := by
  have hrs := run_same (p := p) (q := q) (n := n) (l := l) (Nat.le_refl t.size) hle hb t.size (Nat.le_refl _)
  have hpre : recs (runU p q n l t t.size) <+: recs (finU p q n l t') := by rw [hrs]; exact fin_out hle
  refine ⟨fun h0 h1 => ?_, ?_⟩
  · rw [if_neg h0] at h1 ⊢
    obtain ⟨e1, e2⟩ := fin_fault h0 (by omega)
    have e3 : finU p q n l t' = runU p q n l t' t.size := finU_stuck hle (by rw [← hrs]; exact e2)
    have e4 : finU p q n l t' = finU p q n l t := by rw [e3, e1, hrs]
    rw [e4, if_neg h0]
    exact ⟨rfl, rfl⟩
  · have key : ∀ m, m ≤ (recs (runU p q n l t t.size)).length → (∀ i, i < m → (recs (finU p q n l t))[i]? = (recs (runU p q n l t t.size))[i]?) → m ≤ (recs (finU p q n l t')).length ∧ ∀ i, i < m → (recs (finU p q n l t))[i]? = (recs (finU p q n l t'))[i]? := by
      intro m hm h
      obtain ⟨u, hu⟩ := hpre
      rw [← hu]
      refine ⟨by rw [List.length_append]; omega, fun i hi => ?_⟩
      rw [h i hi, List.getElem?_append_left (by omega)]
    rcases end_out (p := p) (q := q) (n := n) (l := l) (t := t) with e | ⟨hz, R, e⟩
    · exact key _ (by rw [e]; omega) (fun i _ => by rw [e])
    · refine key _ ?_ (fun i hi => ?_)
      · rw [e, hz, List.length_append, List.length_singleton, if_pos ⟨rfl, by omega⟩]; omega
      · rw [e, hz, List.length_append, List.length_singleton, if_pos ⟨rfl, by omega⟩] at hi
        rw [e, List.getElem?_append_left (by omega)]

theorem pre_front (s : ByteArray) (k : Nat) (hk : k ≤ s.size) : (3 ≤ k → (Bom.preN (s.extract 0 k) = 3 ↔ Bom.preN s = 3)) ∧ (k < 3 → Bom.preN (s.extract 0 k) ≠ 3) := by
  have hz : (s.extract 0 k).size = k := by rw [ByteArray.size_extract]; omega
  have hb : ∀ i, byt (s.extract 0 k) i = if i < k then byt s i else 0 := fun i => by rw [byt_extract, Nat.zero_add]
  refine ⟨fun h3 => ?_, fun h3 => ?_⟩
  · have e0 : byt (s.extract 0 k) 0 = byt s 0 := by rw [hb, if_pos (by omega)]
    have e1 : byt (s.extract 0 k) 1 = byt s 1 := by rw [hb, if_pos (by omega)]
    have e2 : byt (s.extract 0 k) 2 = byt s 2 := by rw [hb, if_pos (by omega)]
    unfold Bom.preN
    rw [e0, e1, e2]
  · have := Bom.preN_le (s.extract 0 k)
    omega

theorem whyE_wide (hok : okB p q n = true) : ¬ whyE p q n wLim ≠ 0 := by
  unfold whyE
  rw [if_neg (by simp [hok]), if_neg (by decide)]
  simp

theorem run_mark1 (hok : okB p q n = true) : runU p q n wLim ⟨#[239]⟩ 1 = ⟨2, ⟨⟨#[239]⟩, [], 1, 0, 0, 0⟩, [], (0, 0)⟩ := by
  have h := okB_spec hok
  have hst : stepV p q n 0 239 = ⟨⟨true, true, false, false, false, 239⟩, 2, 0⟩ := step_plain (st := 0) (.inl rfl) (by omega) (by omega) (by omega) (by omega)
  show stepU p q n wLim ⟨#[239]⟩ ms0 0 = _
  unfold stepU
  rw [if_neg (by decide), if_neg (by decide)]
  unfold stepM
  rw [if_neg (by decide), show stepV p q n ms0.st (bytN ⟨#[239]⟩ 0) = _ from hst, if_neg (by decide)]
  rfl
theorem run_mark2 (hok : okB p q n = true) : runU p q n wLim ⟨#[239, 187]⟩ 2 = ⟨2, ⟨⟨#[239, 187]⟩, [], 1, 0, 0, 0⟩, [], (0, 0)⟩ := by
  have h := okB_spec hok
  have hst : stepV p q n 0 239 = ⟨⟨true, true, false, false, false, 239⟩, 2, 0⟩ := step_plain (st := 0) (.inl rfl) (by omega) (by omega) (by omega) (by omega)
  have hst2 : stepV p q n 2 187 = ⟨⟨false, true, false, false, false, 187⟩, 2, 0⟩ := step_plain (st := 2) (.inr (.inr rfl)) (by omega) (by omega) (by omega) (by omega)
  have h1 : runU p q n wLim ⟨#[239, 187]⟩ 1 = ⟨2, ⟨⟨#[239]⟩, [], 1, 0, 0, 0⟩, [], (0, 0)⟩ := by
    show stepU p q n wLim ⟨#[239, 187]⟩ ms0 0 = _
    unfold stepU
    rw [if_neg (by decide), if_neg (by decide)]
    unfold stepM
    rw [if_neg (by decide), show stepV p q n ms0.st (bytN ⟨#[239, 187]⟩ 0) = _ from hst, if_neg (by decide)]
    rfl
  show stepU p q n wLim ⟨#[239, 187]⟩ (runU p q n wLim ⟨#[239, 187]⟩ 1) 1 = _
  rw [h1]
  unfold stepU
  rw [if_neg (by decide), if_neg (by decide)]
  unfold stepM
  rw [if_neg (by decide), show stepV p q n 2 (bytN ⟨#[239, 187]⟩ 1) = _ from hst2, if_neg (by decide)]
  rfl
theorem fin_mark (hok : okB p q n = true) {u : ByteArray} (hu : u = ⟨#[]⟩ ∨ u = ⟨#[239]⟩ ∨ u = ⟨#[239, 187]⟩) : recs (finU p q n wLim u) = [] ∧ ((finU p q n wLim u).ft.1 = 0 ∨ (finU p q n wLim u).ft.2 = u.size) := by
  rcases hu with rfl | rfl | rfl
  · refine ⟨?_, .inl ?_⟩ <;> rfl
  · have e : finU p q n wLim ⟨#[239]⟩ = ⟨2, ⟨⟨#[239]⟩, [], 1, 0, 0, 0⟩, [], (12, 1)⟩ := by
      unfold finU
      rw [show (ByteArray.mk #[239]).size = 1 from rfl, run_mark1 hok]
      unfold endU
      rw [if_neg (by decide), if_pos (by decide)]
    rw [e]
    exact ⟨rfl, .inr rfl⟩
  · have e : finU p q n wLim ⟨#[239, 187]⟩ = ⟨2, ⟨⟨#[239, 187]⟩, [], 1, 0, 0, 0⟩, [], (12, 2)⟩ := by
      unfold finU
      rw [show (ByteArray.mk #[239, 187]).size = 2 from rfl, run_mark2 hok]
      unfold endU
      rw [if_neg (by decide), if_pos (by decide)]
    rw [e]
    exact ⟨rfl, .inr rfl⟩

set_option maxHeartbeats 1000000 in
theorem front_res {s : ByteArray} {k : Nat} (hok : okB p q n = true) (hk : k ≤ s.size) :
    FrontM (resT p q n wLim (s.extract 0 k)) (resT p q n wLim s) (resK p q n wLim (s.extract 0 k)) (resA p q n wLim (s.extract 0 k)) (resK p q n wLim s) (resA p q n wLim s) k := by
  have hy := whyE_wide hok
  unfold resT resK resA
  simp only [if_neg hy]
  have hz : (s.extract 0 k).size = k := by rw [ByteArray.size_extract]; omega
  have hb : ∀ i, byt (s.extract 0 k) i = if i < k then byt s i else 0 := fun i => by rw [byt_extract, Nat.zero_add]
  obtain ⟨h1, h2⟩ := pre_front s k hk
  by_cases hs : Bom.preN s = 3
  · have h3s := (Bom.preN_le s).1
    have es : Bom.stripS s = s.extract 3 s.size := by unfold Bom.stripS; rw [if_pos hs]
    have zs : (s.extract 3 s.size).size = s.size - 3 := by rw [ByteArray.size_extract]; omega
    have os : offN s = 3 := by unfold offN; rw [es, zs]; omega
    by_cases h3 : 3 ≤ k
    · have hp := (h1 h3).2 hs
      have eu : Bom.stripS (s.extract 0 k) = (s.extract 0 k).extract 3 (s.extract 0 k).size := by unfold Bom.stripS; rw [if_pos hp]
      have zu : ((s.extract 0 k).extract 3 (s.extract 0 k).size).size = k - 3 := by rw [ByteArray.size_extract]; omega
      have ou : offN (s.extract 0 k) = 3 := by unfold offN; rw [eu, zu]; omega
      have hf := front_plain (p := p) (q := q) (n := n) (l := wLim) (off := 3) (t := Bom.stripS (s.extract 0 k)) (t' := Bom.stripS s) (by rw [eu, es, zu, zs]; omega) (fun i hi => by
        rw [eu, zu] at hi
        have a1 : byt ((s.extract 0 k).extract 3 (s.extract 0 k).size) i = byt s (3 + i) := by rw [byt_extract, if_pos (by omega), hb, if_pos (by omega)]
        have a2 : byt (s.extract 3 s.size) i = byt s (3 + i) := by rw [byt_extract, if_pos (by omega)]
        rw [eu, es, a1, a2])
      rw [show 3 + (Bom.stripS (s.extract 0 k)).size = k by rw [eu, zu]; omega] at hf
      rw [os, ou]
      exact hf
    · have hp := h2 (by omega)
      have eu : Bom.stripS (s.extract 0 k) = s.extract 0 k := by unfold Bom.stripS; rw [if_neg hp]
      have ou : offN (s.extract 0 k) = 0 := by unfold offN; rw [eu]; omega
      have hm := (Bom.pre_is s).2.1
      rw [hs] at hm
      have hu : s.extract 0 k = ⟨#[]⟩ ∨ s.extract 0 k = ⟨#[239]⟩ ∨ s.extract 0 k = ⟨#[239, 187]⟩ := by
        rcases (by omega : k = 0 ∨ k = 1 ∨ k = 2) with rfl | rfl | rfl
        · exact .inl (byt_inj hz (fun i hi => by omega))
        · refine .inr (.inl (byt_inj hz (fun i hi => ?_)))
          obtain rfl : i = 0 := by omega
          rw [hb, if_pos (by omega), hm 0 (by omega)]
          rfl
        · refine .inr (.inr (byt_inj hz (fun i hi => ?_)))
          rcases (by omega : i = 0 ∨ i = 1) with rfl | rfl
          · rw [hb, if_pos (by omega), hm 0 (by omega)]; rfl
          · rw [hb, if_pos (by omega), hm 1 (by omega)]; rfl
      obtain ⟨m1, m2⟩ := fin_mark (p := p) (q := q) (n := n) hok hu
      rw [eu, ou, m1]
      generalize finU p q n wLim (s.extract 0 k) = X at m2 ⊢
      generalize finU p q n wLim (Bom.stripS s) = Y
      unfold FrontM
      refine ⟨fun c1 c2 => ?_, by simp, fun i hi => by simp at hi⟩
      rw [if_neg c1] at c2
      rcases m2 with m2 | m2
      · exact absurd m2 c1
      · omega
  · have es : Bom.stripS s = s := by unfold Bom.stripS; rw [if_neg hs]
    have os : offN s = 0 := by unfold offN; rw [es]; omega
    have hp : Bom.preN (s.extract 0 k) ≠ 3 := fun hc => by
      by_cases h3 : 3 ≤ k
      · exact hs ((h1 h3).1 hc)
      · exact h2 (by omega) hc
    have eu : Bom.stripS (s.extract 0 k) = s.extract 0 k := by unfold Bom.stripS; rw [if_neg hp]
    have ou : offN (s.extract 0 k) = 0 := by unfold offN; rw [eu]; omega
    have hf := front_plain (p := p) (q := q) (n := n) (l := wLim) (off := 0) (t := s.extract 0 k) (t' := s) (by omega) (fun i hi => by rw [hb, if_pos (by omega)])
    rw [hz, show 0 + k = k from Nat.zero_add k] at hf
    rw [es, os, eu, ou]
    exact hf
end

end Go.Proofs.Ytdkdbmiafnadmaa
