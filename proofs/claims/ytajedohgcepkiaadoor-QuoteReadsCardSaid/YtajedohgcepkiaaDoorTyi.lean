/-
  A text, plain: the machine that asks UTF-8 first, and the one that doesn't, side by side.
-/
import Derived.Test.YtajedohgcepkiaaDoorRows
import Derived.Test.YtajedohgcepkiaaDoorWhp
import Derived.Test.YtajedohgcepkiaaDoorUtQ
namespace Go.Proofs.YtajedohgcepkiaaDoor
open Go.RowKit

section
variable {p q : Nat} {n : Int} {l : Lim} {t : ByteArray}

/-- What is known of the records and the fault behind k places. -/
structure OutK (x : MS) (k : Nat) : Prop where
  lt : ∀ e ∈ x.out, e.2 < k
  ft : x.ft.1 ≠ 0 → x.ft.2 < k ∧ ∀ e ∈ x.out, e.2 < x.ft.2
/-- What a step does to them. -/
def Grew (x y : MS) (i : Nat) : Prop :=
  y = x ∨ (x.ft.1 = 0 ∧ y.out = x.out ∧ y.ft.1 ≠ 0 ∧ y.ft.2 = i) ∨ (x.ft.1 = 0 ∧ y.ft.1 = 0 ∧ (y.out = x.out ∨ ∃ R, y.out = x.out ++ [(R, i)]))
theorem grew_take {x : MS} {e : Ev} {to_ i : Nat} (h0 : x.ft.1 = 0) : Grew x (takeM l x e to_ i) i := by
  unfold takeM
  by_cases h : (takeV l x.mr e).1.st = 0
  · rw [if_pos h]
    refine .inr (.inr ⟨h0, rfl, ?_⟩)
    show outW x.out _ i = x.out ∨ _
    cases (takeV l x.mr e).2 with
    | none => exact .inl rfl
    | some R => exact .inr ⟨R, rfl⟩
  · rw [if_neg h]
    exact .inr (.inl ⟨h0, rfl, h, rfl⟩)
theorem grew_step (x : MS) (b i : Nat) : Grew x (stepM p q n l x b i) i := by
  unfold stepM
  by_cases h0 : x.ft.1 ≠ 0
  · rw [if_pos h0]; exact .inl rfl
  · rw [if_neg h0]
    by_cases h1 : (stepV p q n x.st b).er ≠ 0
    · rw [if_pos h1]; exact .inr (.inl ⟨by omega, rfl, h1, rfl⟩)
    · rw [if_neg h1]; exact grew_take (by omega)
theorem grew_end (x : MS) (i : Nat) : Grew x (endM l x i) i := by
  unfold endM
  by_cases h0 : x.ft.1 ≠ 0
  · rw [if_pos h0]; exact .inl rfl
  · rw [if_neg h0]
    by_cases h1 : (closeV x.st).er ≠ 0
    · rw [if_pos h1]; exact .inr (.inl ⟨by omega, rfl, h1, rfl⟩)
    · rw [if_neg h1]; exact grew_take (by omega)
theorem OutK.step {x y : MS} {i : Nat} (h : OutK x i) (g : Grew x y i) : OutK y (i + 1) := by
  rcases g with rfl | ⟨h0, ho, h1, h2⟩ | ⟨h0, h1, ho⟩
  · exact ⟨fun e he => by have := h.lt e he; omega, fun hf => ⟨by have := (h.ft hf).1; omega, (h.ft hf).2⟩⟩
  · exact ⟨fun e he => by rw [ho] at he; have := h.lt e he; omega, fun _ => ⟨by omega, fun e he => by rw [ho] at he; have := h.lt e he; omega⟩⟩
  · refine ⟨fun e he => ?_, fun hf => absurd h1 hf⟩
    rcases ho with ho | ⟨R, ho⟩
    · rw [ho] at he; have := h.lt e he; omega
    · rw [ho] at he
      rcases List.mem_append.1 he with he | he
      · have := h.lt e he; omega
      · have := List.mem_singleton.1 he
        subst this
        show i < i + 1
        omega
theorem run_outK : ∀ k, OutK (runM p q n l t k) k
  | 0 => ⟨(fun e he => by cases he), fun h => absurd rfl h⟩
  | k + 1 => (run_outK k).step (grew_step _ _ _)
theorem fin_outK : OutK (finM p q n l t) (t.size + 1) := (run_outK t.size).step (grew_end _ _)

/-- What comes behind k places: later ends, and a later fault. -/
structure Tail (k : Nat) (x y : MS) : Prop where
  out : ∃ r, y.out = x.out ++ r ∧ ∀ e ∈ r, k ≤ e.2
  ft : x.ft.1 = 0 → y.ft.1 ≠ 0 → k ≤ y.ft.2
theorem Tail.step {k i : Nat} {x y z : MS} (h : Tail k x y) (hi : k ≤ i) (g : Grew y z i) : Tail k x z := by
  obtain ⟨r, h1, h2⟩ := h.out
  rcases g with rfl | ⟨h0, ho, h3, h4⟩ | ⟨h0, h3, ho⟩
  · exact h
  · exact ⟨⟨r, by rw [ho, h1], h2⟩, fun _ _ => by omega⟩
  · refine ⟨?_, fun _ hf => absurd h3 hf⟩
    rcases ho with ho | ⟨R, ho⟩
    · exact ⟨r, by rw [ho, h1], h2⟩
    · refine ⟨r ++ [(R, i)], by rw [ho, h1, List.append_assoc], fun e he => ?_⟩
      rcases List.mem_append.1 he with he | he
      · exact h2 e he
      · have := List.mem_singleton.1 he
        subst this
        exact hi
theorem run_tail (k : Nat) : ∀ d, Tail k (runM p q n l t k) (runM p q n l t (k + d))
  | 0 => ⟨⟨[], by simp, (fun e he => by cases he)⟩, fun h hf => absurd h hf⟩
  | d + 1 => (run_tail k d).step (Nat.le_add_right k d) (grew_step _ _ _)
theorem fin_tail {k : Nat} (hk : k ≤ t.size) : Tail k (runM p q n l t k) (finM p q n l t) := by
  have h := run_tail (p := p) (q := q) (n := n) (l := l) (t := t) k (t.size - k)
  rw [show k + (t.size - k) = t.size by omega] at h
  exact h.step hk (grew_end _ _)

/-- Up to where UTF-8 goes, the two machines are one. -/
theorem runU_runM : ∀ k, (∀ j, j ≤ k → Utf.stateAt t j ≠ -1) → runU p q n l t k = runM p q n l t k
  | 0, _ => rfl
  | k + 1, h => by
    show stepU p q n l t (runU p q n l t k) k = stepM p q n l (runM p q n l t k) (bytN t k) k
    rw [runU_runM k (fun j hj => h j (by omega))]
    unfold stepU
    rw [if_neg (h (k + 1) (Nat.le_refl _))]
    unfold stepM
    by_cases h0 : (runM p q n l t k).ft.1 ≠ 0
    · rw [if_pos h0, if_pos h0]
    · rw [if_neg h0]

/-- The document's answer of what its reader tells: the kind, the place in the text with its mark, the records. -/
def refK (M : MS) (off size : Nat) (g : Nat) (wh : Bool) : Nat × Nat :=
  let a := if M.ft.1 = 0 then size else M.ft.2 + off
  if g < size then (if M.ft.1 = 0 ∨ g ≤ a then (3, g) else (M.ft.1, a))
  else if wh = true ∧ a = size then (12, a) else (M.ft.1, a)
def refT (M : MS) (off : Nat) (k a : Nat) : List (List ByteArray) := (M.out.filter fun e => decide (k = 0 ∨ e.2 + off < a)).map Prod.fst

theorem filter_all {α : Type} {L : List α} {f : α → Bool} (h : ∀ e ∈ L, f e = true) : L.filter f = L := List.filter_eq_self.2 h
theorem filter_none {α : Type} {L : List α} {f : α → Bool} (h : ∀ e ∈ L, f e = false) : L.filter f = [] := by
  rw [List.filter_eq_nil_iff]
  intro e he
  rw [h e he]
  decide

/-- THE TIE: what the document's reader and its UTF-8 come to is what the machine that asks UTF-8 first comes to. -/
theorem tieU (off : Nat) : ∀ K A : Nat, (K, A) = refK (finM p q n l t) off (off + t.size) (off + Utf.goesN t) (decide (Utf.wholeN t < t.size)) → (finM p q n l t).ft.1 ≠ 1 →
    K = (finU p q n l t).ft.1 ∧ (K ≠ 0 → A = off + (finU p q n l t).ft.2) ∧ refT (finM p q n l t) off K A = recs (finU p q n l t) := by
  intro K A hKA _
  obtain ⟨hg1, hg2, hg3⟩ := Utf.goesN_is t
  have hgj : ∀ j, j ≤ Utf.goesN t → Utf.stateAt t j ≠ -1 := fun j hj hc => by
    by_cases e : j = Utf.goesN t
    · exact hg2 (e ▸ hc)
    · exact hg2 (Utf.stateAt_fail t j _ hc (by omega))
  have hrun := runU_runM (p := p) (q := q) (n := n) (l := l) (Utf.goesN t) hgj
  generalize hG : Utf.goesN t = G at *
  unfold refK at hKA
  simp only [] at hKA
  have hT := fin_tail (p := p) (q := q) (n := n) (l := l) (t := t) (k := G) (by omega)
  have hO := run_outK (p := p) (q := q) (n := n) (l := l) (t := t) G
  by_cases hf : (runM p q n l t G).ft.1 ≠ 0
  · -- a fault ahead of the place where UTF-8 stops
    have hM : finM p q n l t = runM p q n l t G := fin_stuck (by omega) hf
    have hU : finU p q n l t = runM p q n l t G := by rw [finU_stuck (i := G) (by omega) (by rw [hrun]; exact hf), hrun]
    obtain ⟨h1, h2⟩ := hO.ft hf
    rw [hM] at hKA ⊢
    rw [hU]
    have hz : ¬ (runM p q n l t G).ft.1 = 0 := hf
    rw [if_neg hz] at hKA
    have hK : (K, A) = ((runM p q n l t G).ft.1, (runM p q n l t G).ft.2 + off) := by
      by_cases hlt : off + G < off + t.size
      · rw [if_pos hlt, if_neg (by omega)] at hKA; exact hKA
      · rw [if_neg hlt, if_neg (by omega)] at hKA; exact hKA
    injection hK with hK1 hK2
    subst hK1 hK2
    refine ⟨rfl, fun _ => by omega, ?_⟩
    unfold refT recs
    rw [filter_all (fun e he => decide_eq_true (.inr (by have := h2 e he; omega)))]
  · have hf0 : (runM p q n l t G).ft.1 = 0 := by omega
    obtain ⟨r, hr1, hr2⟩ := hT.out
    by_cases hlt : G < t.size
    · -- UTF-8 stops first
      have hU1 : runU p q n l t (G + 1) = ⟨(runM p q n l t G).st, (runM p q n l t G).mr, (runM p q n l t G).out, (3, G)⟩ := by
        show stepU p q n l t (runU p q n l t G) G = _
        rw [hrun]
        unfold stepU
        rw [if_neg hf, if_pos hg3]
      have hU : finU p q n l t = runU p q n l t (G + 1) := finU_stuck (by omega) (by rw [hU1]; show (3 : Nat) ≠ 0; decide)
      rw [hU, hU1]
      have hc : (finM p q n l t).ft.1 = 0 ∨ off + G ≤ (if (finM p q n l t).ft.1 = 0 then off + t.size else (finM p q n l t).ft.2 + off) := by
        by_cases h : (finM p q n l t).ft.1 = 0
        · exact .inl h
        · right; rw [if_neg h]; have := hT.ft hf0 h; omega
      rw [if_pos (by omega), if_pos hc] at hKA
      injection hKA with hK1 hK2
      subst hK1 hK2
      refine ⟨rfl, fun _ => rfl, ?_⟩
      unfold refT recs
      rw [hr1, List.filter_append, filter_all (fun e he => decide_eq_true (.inr (by have := hO.lt e he; omega))), filter_none (fun e he => decide_eq_false (by have := hr2 e he; omega)), List.append_nil]
    · obtain rfl : G = t.size := by omega
      have hU : finU p q n l t = endU l t (runM p q n l t t.size) t.size := by unfold finU; rw [hrun]
      have hM : finM p q n l t = endM l (runM p q n l t t.size) t.size := rfl
      have hW := Utf.wholeN_is t
      rw [if_neg (by omega)] at hKA
      by_cases hs0 : Utf.stateAt t t.size = 0
      · -- all is whole
        have hw : Utf.wholeN t = t.size := by
          obtain ⟨a, b, c⟩ := hW
          apply Classical.byContradiction
          intro hne
          exact c t.size (by omega) hs0
        have hUM : finU p q n l t = finM p q n l t := by
          rw [hU, hM]
          unfold endU
          rw [if_neg hf, if_neg (by rw [hs0]; decide)]
        rw [hUM]
        have hd : decide (Utf.wholeN t < t.size) = false := decide_eq_false (by omega)
        rw [hd, if_neg (by simp)] at hKA
        injection hKA with hK1 hK2
        subst hK1 hK2
        refine ⟨rfl, fun hk => by rw [if_neg hk]; omega, ?_⟩
        unfold refT recs
        rw [filter_all]
        intro e he
        apply decide_eq_true
        by_cases hk : (finM p q n l t).ft.1 = 0
        · exact .inl hk
        · right
          rw [if_neg hk]
          have := ((fin_outK (p := p) (q := q) (n := n) (l := l) (t := t)).ft hk).2 e he
          omega
      · -- the text ends within a sequence
        have hw : Utf.wholeN t < t.size := by
          obtain ⟨a, b, c⟩ := hW
          have : Utf.wholeN t ≠ t.size := fun e => hs0 (e ▸ b)
          omega
        have hUM : finU p q n l t = ⟨(runM p q n l t t.size).st, (runM p q n l t t.size).mr, (runM p q n l t t.size).out, (12, t.size)⟩ := by
          rw [hU]
          unfold endU
          rw [if_neg hf, if_pos hs0]
        rw [hUM]
        have ha : (if (finM p q n l t).ft.1 = 0 then off + t.size else (finM p q n l t).ft.2 + off) = off + t.size := by
          by_cases h : (finM p q n l t).ft.1 = 0
          · rw [if_pos h]
          · rw [if_neg h]
            have h1 := hT.ft hf0 h
            have h2 := ((fin_outK (p := p) (q := q) (n := n) (l := l) (t := t)).ft h).1
            omega
        rw [ha] at hKA
        have hd : decide (Utf.wholeN t < t.size) = true := decide_eq_true hw
        rw [hd, if_pos ⟨rfl, rfl⟩] at hKA
        injection hKA with hK1 hK2
        subst hK1 hK2
        refine ⟨rfl, fun _ => rfl, ?_⟩
        unfold refT recs
        rw [hr1, List.filter_append, filter_all (fun e he => decide_eq_true (.inr (by have := hO.lt e he; omega))), filter_none (fun e he => decide_eq_false (by have := hr2 e he; omega)), List.append_nil]
/-- No fault of the reader's is the number 1. -/
theorem step_er1 (s b : Nat) : (stepV p q n s b).er ≠ 1 := by
  unfold stepV inV behV outV quoV endV
  repeat' split
  all_goals simp
theorem close_er1 (s : Nat) : (closeV s).er ≠ 1 := by
  unfold closeV
  repeat' split
  all_goals simp
theorem then_ne {o : Mkr × Nat} {f : Mkr → Mkr × Nat} (h : o.2 ≠ 1) (hf : ∀ m, (f m).2 ≠ 1) : (thenV o f).2 ≠ 1 := by unfold thenV; split; exact hf _; exact h
theorem on_ne {c : Bool} {m : Mkr} {o : Mkr × Nat} (h : o.2 ≠ 1) : (onV c m o).2 ≠ 1 := by unfold onV; split; exact h; show (0 : Nat) ≠ 1; omega
theorem gather_ne (m : Mkr) (e : Ev) : (gatherV l m e).2 ≠ 1 := by
  unfold gatherV
  refine then_ne (on_ne (by unfold beginV; split <;> simp)) fun m1 => then_ne (on_ne (by unfold addV; split <;> simp)) fun m2 => then_ne (on_ne ?_) fun m3 => on_ne ?_
  · unfold fieldV; simp only []; repeat' split
    all_goals omega
  · unfold lineV; simp only []; split <;> omega
theorem take_ne {m : Mkr} (e : Ev) (h : m.st ≠ 1) : (takeV l m e).1.st ≠ 1 := by
  have hm : (midV l m e).st ≠ 1 := by
    unfold midV
    split
    · exact gather_ne m e
    · exact h
  unfold takeV
  split <;> exact hm
def Not1 (x : MS) : Prop := x.mr.st ≠ 1 ∧ x.ft.1 ≠ 1
theorem Not1.take {x : MS} (h : Not1 x) (e : Ev) (to_ i : Nat) : Not1 (takeM l x e to_ i) := by
  have ht := take_ne (l := l) e h.1
  unfold takeM
  split
  · exact ⟨ht, by show (0 : Nat) ≠ 1; omega⟩
  · exact ⟨h.1, ht⟩
theorem run_not1 : ∀ k, Not1 (runM p q n l t k)
  | 0 => ⟨by show (0 : Nat) ≠ 1; omega, by show (0 : Nat) ≠ 1; omega⟩
  | k + 1 => by
    have h := run_not1 k
    show Not1 (stepM p q n l (runM p q n l t k) (bytN t k) k)
    unfold stepM
    split
    · exact h
    · split
      · exact ⟨h.1, step_er1 _ _⟩
      · exact h.take _ _ _
theorem fin_not1 : (finM p q n l t).ft.1 ≠ 1 := by
  have h := run_not1 (p := p) (q := q) (n := n) (l := l) (t := t) t.size
  unfold finM endM
  split
  · exact h.2
  · split
    · exact close_er1 _
    · exact (h.take _ _ _).2
end

/-- Behind the mark UTF-8 begins anew. -/
theorem mark_state (s : ByteArray) (h : Bom.preN s = 3) : ∀ i, Utf.stateAt s (3 + i) = Utf.stateAt (s.extract 3 s.size) i
  | 0 => by
    have hz := (Bom.preN_le s).1
    have hb : byt s 0 = 239 ∧ byt s 1 = 187 ∧ byt s 2 = 191 := by
      unfold Bom.preN at h
      repeat' split at h
      all_goals omega
    have e1 : Utf.stateAt s 1 = 2 := by
      show (if 0 < s.size then Utf.stepI 0 (byt s 0) else -1) = 2
      rw [if_pos (by omega), hb.1]; rfl
    have e2 : Utf.stateAt s 2 = 1 := by
      show (if 1 < s.size then Utf.stepI (Utf.stateAt s 1) (byt s 1) else -1) = 1
      rw [if_pos (by omega), e1, hb.2.1]; rfl
    show (if 2 < s.size then Utf.stepI (Utf.stateAt s 2) (byt s 2) else -1) = 0
    rw [if_pos (by omega), e2, hb.2.2]; rfl
  | i + 1 => by
    have ih := mark_state s h i
    have hz : (s.extract 3 s.size).size = s.size - 3 := by rw [ByteArray.size_extract]; omega
    have h3 := (Bom.preN_le s).1
    show (if 3 + i < s.size then Utf.stepI (Utf.stateAt s (3 + i)) (byt s (3 + i)) else -1) = (if i < (s.extract 3 s.size).size then Utf.stepI (Utf.stateAt (s.extract 3 s.size) i) (byt (s.extract 3 s.size) i) else -1)
    rw [ih, hz]
    by_cases hi : 3 + i < s.size
    · rw [if_pos hi, if_pos (by omega), byt_extract, if_pos hi]
    · rw [if_neg hi, if_neg (by omega)]
theorem strip_off (s : ByteArray) : s.size = offN s + (Bom.stripS s).size ∧ Utf.goesN s = offN s + Utf.goesN (Bom.stripS s) ∧ (Utf.wholeN s < s.size ↔ Utf.wholeN (Bom.stripS s) < (Bom.stripS s).size) := by
  have h3 := Bom.preN_le s
  by_cases h : Bom.preN s = 3
  · have e : Bom.stripS s = s.extract 3 s.size := by unfold Bom.stripS; rw [if_pos h]
    have hz : (s.extract 3 s.size).size = s.size - 3 := by rw [ByteArray.size_extract]; omega
    have eo : offN s = 3 := by unfold offN; rw [e, hz]; omega
    have hm := mark_state s h
    rw [e, eo, hz]
    obtain ⟨g1, g2, g3⟩ := Utf.goesN_is (s.extract 3 s.size)
    obtain ⟨w1, w2, w3⟩ := Utf.wholeN_is (s.extract 3 s.size)
    rw [hz] at g1 w1
    have hg : Utf.Goes s (3 + Utf.goesN (s.extract 3 s.size)) := ⟨by omega, by rw [hm]; exact g2, by rw [Nat.add_assoc, hm]; exact g3⟩
    have hw : Utf.Whole s (3 + Utf.wholeN (s.extract 3 s.size)) := by
      refine ⟨by omega, by rw [hm]; exact w2, fun j hj => ?_⟩
      obtain ⟨i, rfl⟩ : ∃ i, j = 3 + i := ⟨j - 3, by omega⟩
      rw [hm]
      exact w3 i (by omega)
    have e1 := Utf.goes_unique s _ _ (Utf.goesN_is s) hg
    have e2 := Utf.whole_unique s _ _ (Utf.wholeN_is s) hw
    exact ⟨by omega, e1, by omega⟩
  · have e : Bom.stripS s = s := by unfold Bom.stripS; rw [if_neg h]
    have eo : offN s = 0 := by unfold offN; rw [e]; omega
    rw [e, eo]
    exact ⟨by omega, by omega, Iff.rfl⟩

end Go.Proofs.YtajedohgcepkiaaDoor
