/-
  A text, plain: what a record comes to that stands as it is, and what must be so that a field is read as it stands.
-/
import Derived.Test.YtajedohgcepkiaaDoorRows
import Derived.Test.YtajedohgcepkiaaDoorTyi
import Derived.Test.YtajedohgcepkiaaDoorWhoS
import Derived.Test.YtajedohgcepkiaaDoorNdY
namespace Go.Proofs.YtajedohgcepkiaaDoor.Nd
open Go.RowKit

/-- The widest limits. -/
def wLim : Lim := ⟨2147483648, 2147483648, 2147483648, false⟩

section
variable {p q : Nat} {n : Int} {l : Lim} {t : ByteArray}
/-! ### Where all of a text is whole, UTF-8 is not asked for -/
theorem finU_whole (h : Utf.stateAt t t.size = 0) : finU p q n l t = finM p q n l t := by
  have hr : runU p q n l t t.size = runM p q n l t t.size := runU_runM t.size (fun j hj hc => by
    have := Utf.stateAt_fail t j t.size hc hj
    rw [h] at this
    omega)
  unfold finU endU finM
  rw [hr]
  by_cases hf : (runM p q n l t t.size).ft.1 ≠ 0
  · rw [if_pos hf]
    unfold endM
    rw [if_pos hf]
  · rw [if_neg hf, if_neg (by rw [h]; decide)]

theorem state_append (a b : ByteArray) (h : Utf.stateAt a a.size = 0) : ∀ i, i ≤ b.size → Utf.stateAt (a ++ b) (a.size + i) = Utf.stateAt b i := by
  have h1 : ∀ j, j ≤ a.size → Utf.stateAt (a ++ b) j = Utf.stateAt a j := by
    intro j
    induction j with
    | zero => intro _; rfl
    | succ j ih =>
      intro hj
      show (if j < (a ++ b).size then Utf.stepI (Utf.stateAt (a ++ b) j) (byt (a ++ b) j) else -1) = (if j < a.size then Utf.stepI (Utf.stateAt a j) (byt a j) else -1)
      rw [if_pos (by rw [ByteArray.size_append]; omega), if_pos (by omega), ih (by omega), byt_append, if_pos (by omega)]
  intro i
  induction i with
  | zero => intro _; rw [Nat.add_zero, h1 _ (Nat.le_refl _), h]; rfl
  | succ i ih =>
    intro hi
    show (if a.size + i < (a ++ b).size then Utf.stepI (Utf.stateAt (a ++ b) (a.size + i)) (byt (a ++ b) (a.size + i)) else -1) = (if i < b.size then Utf.stepI (Utf.stateAt b i) (byt b i) else -1)
    rw [if_pos (by rw [ByteArray.size_append]; omega), if_pos (by omega), ih (by omega), byt_append, if_neg (by omega), show a.size + i - a.size = i by omega]
theorem whole_append {a b : ByteArray} (ha : Utf.stateAt a a.size = 0) (hb : Utf.stateAt b b.size = 0) : Utf.stateAt (a ++ b) (a ++ b).size = 0 := by
  rw [ByteArray.size_append, state_append a b ha _ (Nat.le_refl _), hb]
theorem whole_none : Utf.stateAt ⟨#[]⟩ (⟨#[]⟩ : ByteArray).size = 0 := rfl
theorem whole_one {x : UInt8} (h : x.toNat < 128) : Utf.stateAt ⟨#[x]⟩ (⟨#[x]⟩ : ByteArray).size = 0 := by
  show (if 0 < 1 then Utf.stepI 0 (byt ⟨#[x]⟩ 0) else -1) = 0
  rw [if_pos (by omega), byt_one]
  rcases Utf.step0 (x.toNat : Int) with h1 | h1 | h1 | h1 | h1 | h1 | h1 | h1 | h1
  · exact h1.2
  all_goals omega
theorem whole_of {f : ByteArray} (h : ¬ Utf.wholeN f < f.size) : Utf.stateAt f f.size = 0 := by
  have h1 := Utf.wholeN_is f
  have : Utf.wholeN f = f.size := by have := h1.1; omega
  rw [← this]
  exact h1.2.1

/-! ### How much of a text are fields -/
def sizeR (R : List ByteArray) : Nat := (R.map (·.size)).sum
theorem sizeR_snoc (R : List ByteArray) (f : ByteArray) : sizeR (R ++ [f]) = sizeR R + f.size := by unfold sizeR; simp
def sizeO (o : List (List ByteArray × Nat)) : Nat := (o.map fun e => sizeR e.1).sum
theorem sizeO_snoc (o : List (List ByteArray × Nat)) (R : List ByteArray) (i : Nat) : sizeO (o ++ [(R, i)]) = sizeO o + sizeR R := by unfold sizeO; simp
def sizeM (m : Mkr) : Nat := sizeR m.rc + m.fd.size
def conN (x : MS) : Nat := sizeO x.out + sizeM x.mr

theorem sizeM_gather (l : Lim) (m : Mkr) (e : Ev) (h : (gatherV l m e).2 = 0) : sizeM (gatherV l m e).1 = sizeM m + (if e.ad = true then 1 else 0) := by
  obtain ⟨be, ad, fi, li, re, b⟩ := e
  have hb : ∀ m : Mkr, (onV be m (beginV l m)).2 = 0 → sizeM (onV be m (beginV l m)).1 = sizeM m := by
    intro m h
    cases be
    · rfl
    · unfold onV beginV at h ⊢
      simp only [if_true] at h ⊢
      split at h
      · cases h
      · rename_i c; rw [if_neg c]; rfl
  have ha : ∀ m : Mkr, (onV ad m (addV l m b)).2 = 0 → sizeM (onV ad m (addV l m b)).1 = sizeM m + (if ad = true then 1 else 0) := by
    intro m h
    cases ad
    · rfl
    · unfold onV addV at h ⊢
      simp only [if_true] at h ⊢
      split at h
      · cases h
      · rename_i c
        rw [if_neg c]
        show sizeR m.rc + (m.fd ++ ⟨#[UInt8.ofNat b]⟩).size = sizeR m.rc + m.fd.size + 1
        rw [one_size]
        omega
  have hp : ∀ m : Mkr, sizeM (putV m) = sizeM m := by
    intro m
    unfold putV sizeM
    simp only []
    rw [sizeR_snoc]
    show sizeR m.rc + m.fd.size + 0 = _
    omega
  have hf : ∀ m : Mkr, sizeM (onV fi m (fieldV l m)).1 = sizeM m := by
    intro m
    cases fi
    · rfl
    · exact hp m
  have hl : ∀ m : Mkr, sizeM (onV li m (lineV l m)).1 = sizeM m := by
    intro m
    cases li
    · rfl
    · exact hp m
  unfold gatherV at h ⊢
  simp only [] at h ⊢
  by_cases e1 : (onV be m (beginV l m)).2 = 0
  · rw [then_ok e1] at h ⊢
    by_cases e2 : (onV ad (onV be m (beginV l m)).1 (addV l (onV be m (beginV l m)).1 b)).2 = 0
    · rw [then_ok e2] at h ⊢
      by_cases e3 : (onV fi (onV ad (onV be m (beginV l m)).1 (addV l (onV be m (beginV l m)).1 b)).1 (fieldV l (onV ad (onV be m (beginV l m)).1 (addV l (onV be m (beginV l m)).1 b)).1)).2 = 0
      · rw [then_ok e3, hl, hf, ha _ e2, hb _ e1]
      · rw [then_no e3] at h
        exact absurd h e3
    · rw [then_no e2] at h
      exact absurd h e2
  · rw [then_no e1] at h
    exact absurd h e1

theorem sizeM_take (l : Lim) (m : Mkr) (e : Ev) (h0 : m.st = 0) (h : (takeV l m e).1.st = 0) :
    sizeM (takeV l m e).1 + (match (takeV l m e).2 with | none => 0 | some R => sizeR R) = sizeM m + (if e.ad = true then 1 else 0) := by
  have hm : midV l m e = stopV (gatherV l m e).1 (gatherV l m e).2 := by unfold midV; rw [if_pos h0]
  have hms : (midV l m e).st = (gatherV l m e).2 := by rw [hm]; rfl
  have hg : (gatherV l m e).2 = 0 := by
    unfold takeV at h
    split at h
    · rename_i c; rw [← hms]; exact c.1
    · rw [← hms]; exact h
  have hsz : sizeM (midV l m e) = sizeM m + (if e.ad = true then 1 else 0) := by rw [hm, ← sizeM_gather l m e hg]; rfl
  unfold takeV
  split
  · simp only []
    rw [← hsz]
    unfold handV sizeM
    simp only []
    show sizeR [] + _ + _ = _
    unfold sizeR
    simp
    omega
  · simp only []
    omega

theorem con_take {x : MS} {e : Ev} {to_ i : Nat} (h0 : x.mr.st = 0) (h : (takeM l x e to_ i).ft.1 = 0) :
    conN (takeM l x e to_ i) = conN x + (if e.ad = true then 1 else 0) ∧ (takeM l x e to_ i).st = to_ ∧ (takeM l x e to_ i).mr.st = 0 := by
  unfold takeM at h ⊢
  by_cases c : (takeV l x.mr e).1.st = 0
  · rw [if_pos c]
    have hs := sizeM_take l x.mr e h0 c
    refine ⟨?_, rfl, c⟩
    unfold conN
    simp only []
    cases hr : (takeV l x.mr e).2 with
    | none => rw [hr] at hs; simp only [outW] at hs ⊢; omega
    | some R => rw [hr] at hs; simp only [outW] at hs ⊢; rw [sizeO_snoc]; omega
  · rw [if_neg c] at h
    exact absurd h c

theorem con_step {x : MS} {b i : Nat} (h0 : x.mr.st = 0) (h : (stepM p q n l x b i).ft.1 = 0) :
    x.ft.1 = 0 ∧ (stepV p q n x.st b).er = 0 ∧ conN (stepM p q n l x b i) = conN x + (if (stepV p q n x.st b).ev.ad = true then 1 else 0) ∧ (stepM p q n l x b i).st = (stepV p q n x.st b).to_ ∧ (stepM p q n l x b i).mr.st = 0 := by
  have hf : x.ft.1 = 0 := by
    refine Classical.byContradiction fun c => ?_
    unfold stepM at h
    rw [if_pos c] at h
    exact c h
  have he : (stepV p q n x.st b).er = 0 := by
    refine Classical.byContradiction fun c => ?_
    unfold stepM at h
    rw [if_neg (by rw [hf]; simp), if_pos c] at h
    exact c h
  have hs : stepM p q n l x b i = takeM l x (stepV p q n x.st b).ev (stepV p q n x.st b).to_ i := by
    unfold stepM
    rw [if_neg (by rw [hf]; simp), if_neg (by rw [he]; simp)]
  rw [hs] at h ⊢
  obtain ⟨h1, h2, h3⟩ := con_take h0 h
  exact ⟨hf, he, h1, h2, h3⟩

theorem run_mr0 : ∀ i, (runM p q n l t i).ft.1 = 0 → (runM p q n l t i).mr.st = 0
  | 0, _ => rfl
  | i + 1, h => by
    have hf : (runM p q n l t i).ft.1 = 0 := by
      refine Classical.byContradiction fun c => ?_
      rw [run_step] at h
      unfold stepM at h
      rw [if_pos c] at h
      exact c h
    exact (con_step (run_mr0 i hf) (by rw [← run_step]; exact h)).2.2.2.2
theorem run_ok {i j : Nat} (h : (runM p q n l t (i + j)).ft.1 = 0) : (runM p q n l t i).ft.1 = 0 := by
  refine Classical.byContradiction fun c => ?_
  rw [run_stuck c j] at h
  exact c h
theorem run_con {i : Nat} (h : (runM p q n l t (i + 1)).ft.1 = 0) :
    (runM p q n l t i).ft.1 = 0 ∧ (stepV p q n (runM p q n l t i).st (bytN t i)).er = 0 ∧ conN (runM p q n l t (i + 1)) = conN (runM p q n l t i) + (if (stepV p q n (runM p q n l t i).st (bytN t i)).ev.ad = true then 1 else 0) ∧ (runM p q n l t (i + 1)).st = (stepV p q n (runM p q n l t i).st (bytN t i)).to_ := by
  have hf := run_ok h
  rw [run_step] at h ⊢
  obtain ⟨h1, h2, h3, h4, _⟩ := con_step (run_mr0 i hf) h
  exact ⟨h1, h2, h3, h4⟩
theorem con_le : ∀ i, (runM p q n l t i).ft.1 = 0 → conN (runM p q n l t i) ≤ i
  | 0, _ => Nat.le_refl _
  | i + 1, h => by
    obtain ⟨h1, _, h3, _⟩ := run_con h
    have := con_le i h1
    rw [h3]
    split <;> omega

theorem end_ad (s b : Nat) : (endV n s b).ev.ad = false := by
  unfold endV
  repeat' split
  all_goals rfl
/-- A byte that adds to a field where none was begun, or in a bare one. -/
theorem adds_bare {s b : Nat} (hs : s = 0 ∨ s = 2) (h : (stepV p q n s b).ev.ad = true) : b ≠ p ∧ b ≠ q ∧ b ≠ 13 ∧ b ≠ 10 ∧ (stepV p q n s b).to_ = 2 := by
  unfold stepV at h ⊢
  rw [if_neg (by omega), if_neg (by omega), if_neg (by omega)] at h ⊢
  unfold outV at h ⊢
  by_cases c1 : b = q
  · rw [if_pos c1] at h
    unfold quoV at h
    rcases hs with rfl | rfl
    · simp at h
    · simp [ev0] at h
  · rw [if_neg c1] at h ⊢
    by_cases c2 : b = p
    · rw [if_pos c2] at h
      simp at h
    · rw [if_neg c2] at h ⊢
      by_cases c3 : b = 13
      · rw [if_pos c3, end_ad] at h
        cases h
      · rw [if_neg c3] at h ⊢
        by_cases c4 : b = 10
        · rw [if_pos c4, end_ad] at h
          cases h
        · rw [if_neg c4] at h ⊢
          rw [if_neg (by omega)]
          exact ⟨c2, c1, c3, c4, rfl⟩
/-- An end of line that adds to a field stands within quotes. -/
theorem adds_end {s b : Nat} (hb : b = 13 ∨ b = 10) (hq : b ≠ q) (hp : b ≠ p) (h : (stepV p q n s b).ev.ad = true) : (stepV p q n s b).to_ = 3 := by
  unfold stepV at h ⊢
  by_cases c3 : s = 3
  · rw [if_pos c3]
    unfold inV
    rw [if_neg hq]
  · rw [if_neg c3] at h ⊢
    by_cases c5 : s = 5
    · rw [if_pos c5] at h
      unfold behV at h
      split at h <;> simp [ev0] at h
    · rw [if_neg c5] at h
      by_cases c6 : s = 6
      · rw [if_pos c6] at h
        unfold behV at h
        split at h <;> simp [ev0] at h
      · rw [if_neg c6] at h
        unfold outV at h
        rw [if_neg hq, if_neg hp] at h
        rcases hb with rfl | rfl
        · rw [if_pos rfl, end_ad] at h; cases h
        · rw [if_neg (by omega), if_pos rfl, end_ad] at h; cases h

theorem pure_run : ∀ i, (runM p q n l t i).ft.1 = 0 → conN (runM p q n l t i) = i → ((i = 0 ∧ (runM p q n l t i).st = 0) ∨ (runM p q n l t i).st = 2) ∧ ∀ j, j < i → bytN t j ≠ p ∧ bytN t j ≠ q ∧ bytN t j ≠ 13 ∧ bytN t j ≠ 10
  | 0, _, _ => ⟨.inl ⟨rfl, rfl⟩, fun j hj => by omega⟩
  | i + 1, h, hc => by
    obtain ⟨h1, _, h3, h4⟩ := run_con h
    have hle := con_le i h1
    have had : (stepV p q n (runM p q n l t i).st (bytN t i)).ev.ad = true := by
      refine Classical.byContradiction fun c => ?_
      rw [if_neg c] at h3
      omega
    rw [if_pos had] at h3
    obtain ⟨i1, i2⟩ := pure_run i h1 (by omega)
    obtain ⟨a1, a2, a3, a4, a5⟩ := adds_bare (i1.imp (·.2) id) had
    refine ⟨.inr (by rw [h4, a5]), fun j hj => ?_⟩
    by_cases e : j = i
    · subst e; exact ⟨a1, a2, a3, a4⟩
    · exact i2 j (by omega)

/-- The end of a text without a fault. -/
theorem fin_con (h : (finM p q n l t).ft.1 = 0) : (runM p q n l t t.size).ft.1 = 0 ∧ (runM p q n l t t.size).st ≠ 3 ∧ conN (finM p q n l t) = conN (runM p q n l t t.size) := by
  have hf : (runM p q n l t t.size).ft.1 = 0 := by
    refine Classical.byContradiction fun c => ?_
    unfold finM endM at h
    rw [if_pos c] at h
    exact c h
  have he : (closeV (runM p q n l t t.size).st).er = 0 := by
    refine Classical.byContradiction fun c => ?_
    unfold finM endM at h
    rw [if_neg (by rw [hf]; simp), if_pos c] at h
    exact c h
  have hs : finM p q n l t = takeM l (runM p q n l t t.size) (closeV (runM p q n l t t.size).st).ev 0 t.size := by
    unfold finM endM
    rw [if_neg (by rw [hf]; simp), if_neg (by rw [he]; simp)]
  refine ⟨hf, fun e => ?_, ?_⟩
  · rw [e] at he
    revert he
    decide
  · rw [hs] at h ⊢
    obtain ⟨h1, _, _⟩ := con_take (run_mr0 _ hf) h
    rw [h1]
    have hno : (closeV (runM p q n l t t.size).st).ev.ad = false := by
      unfold closeV
      repeat' split
      all_goals rfl
    rw [hno]
    rfl
/-- The last byte of a text without a fault, if it is a line feed, is no field's; a carriage return ahead of it neither. -/
theorem last_lf {k : Nat} (hk : t.size = k + 1) (h : (finM p q n l t).ft.1 = 0) (hb : bytN t k = 10) (hp : 10 ≠ p) (hq : 10 ≠ q) : (runM p q n l t k).ft.1 = 0 ∧ (runM p q n l t k).st ≠ 3 ∧ conN (finM p q n l t) = conN (runM p q n l t k) := by
  obtain ⟨h1, h2, h3⟩ := fin_con h
  rw [hk] at h1 h2 h3
  obtain ⟨g1, _, g3, g4⟩ := run_con h1
  rw [hb] at g3 g4
  have hno : (stepV p q n (runM p q n l t k).st 10).ev.ad = false := by
    refine Bool.eq_false_iff.2 fun c => h2 ?_
    rw [g4, adds_end (.inr rfl) hq hp c]
  refine ⟨g1, fun e => ?_, ?_⟩
  · rw [e] at hno
    unfold stepV inV at hno
    rw [if_pos rfl, if_neg hq] at hno
    cases hno
  · rw [h3, g3, hno]
    rfl
theorem last_crlf {k : Nat} (hk : t.size = k + 2) (h : (finM p q n l t).ft.1 = 0) (h13 : bytN t k = 13) (h10 : bytN t (k + 1) = 10) (hp : 10 ≠ p ∧ 13 ≠ p) (hq : 10 ≠ q ∧ 13 ≠ q) : (runM p q n l t k).ft.1 = 0 ∧ conN (finM p q n l t) = conN (runM p q n l t k) := by
  obtain ⟨h1, h2, h3⟩ := last_lf (k := k + 1) hk h h10 hp.1 hq.1
  obtain ⟨g1, _, g3, g4⟩ := run_con h1
  rw [h13] at g3 g4
  have hno : (stepV p q n (runM p q n l t k).st 13).ev.ad = false := by
    refine Bool.eq_false_iff.2 fun c => h2 ?_
    rw [g4, adds_end (.inl rfl) hq.2 hp.2 c]
  exact ⟨g1, by rw [h3, g3, hno]; rfl⟩

/-- A right dialect's end of line. -/
def endS (n : Int) : ByteArray := if n = 2 then ⟨#[13, 10]⟩ else ⟨#[10]⟩

/-- A text of so many bytes and an end of line, read as one field of as many bytes, has none in it that means something. -/
theorem all_bare {f g : ByteArray} (hok : okB p q n = true) (ht : t = g ++ endS n) (h : (finM p q n l t).ft.1 = 0) (hr : recs (finM p q n l t) = [[f]]) (hs : g.size ≤ f.size) :
    g.size = f.size ∧ ∀ j, j < g.size → bytN t j ≠ p ∧ bytN t j ≠ q ∧ bytN t j ≠ 13 ∧ bytN t j ≠ 10 := by
  obtain ⟨⟨_, hp13, hp10⟩, ⟨_, hq13, hq10⟩, _, hn⟩ := okB_spec hok
  have hcon : f.size ≤ conN (finM p q n l t) := by
    unfold conN
    have : sizeO (finM p q n l t).out = ((recs (finM p q n l t)).map sizeR).sum := by unfold sizeO recs; rw [List.map_map]; rfl
    rw [this, hr]
    simp [sizeR]
  have key : (runM p q n l t g.size).ft.1 = 0 ∧ conN (finM p q n l t) = conN (runM p q n l t g.size) := by
    by_cases h2 : n = 2
    · have he : endS n = ⟨#[13, 10]⟩ := by unfold endS; rw [if_pos h2]
      rw [he] at ht
      refine last_crlf (by rw [ht, ByteArray.size_append]; rfl) h ?_ ?_ ⟨by omega, by omega⟩ ⟨by omega, by omega⟩
      · unfold bytN; rw [ht, byt_append, if_neg (by omega), Nat.sub_self]; rfl
      · unfold bytN; rw [ht, byt_append, if_neg (by omega), show g.size + 1 - g.size = 1 by omega]; rfl
    · have he : endS n = ⟨#[10]⟩ := by unfold endS; rw [if_neg h2]
      rw [he] at ht
      have := last_lf (k := g.size) (by rw [ht, ByteArray.size_append]; rfl) h (by unfold bytN; rw [ht, byt_append, if_neg (by omega), Nat.sub_self]; rfl) (by omega) (by omega)
      exact ⟨this.1, this.2.2⟩
  obtain ⟨k1, k2⟩ := key
  have hle := con_le g.size k1
  exact ⟨by omega, (pure_run g.size k1 (by omega)).2⟩

theorem whole_end (n : Int) : Utf.stateAt (endS n) (endS n).size = 0 := by
  unfold endS
  split
  · rw [show (⟨#[13, 10]⟩ : ByteArray) = ⟨#[13]⟩ ++ ⟨#[10]⟩ from rfl]
    exact whole_append (whole_one (by decide)) (whole_one (by decide))
  · exact whole_one (by decide)
theorem step_nothing {st b to_ i : Nat} (h : stepV p q n st b = ⟨ev0, to_, 0⟩) : stepM p q n l ⟨st, mkr0, [], (0, 0)⟩ b i = ⟨to_, mkr0, [], (0, 0)⟩ := by
  unfold stepM takeM
  rw [if_neg (by simp)]
  simp only []
  rw [h]
  simp only []
  have ht : takeV l mkr0 ev0 = (mkr0, none) := take_nothing rfl
  rw [ht, if_neg (by simp)]
  rfl
theorem end_nothing {i : Nat} : recs (endM l ⟨0, mkr0, [], (0, 0)⟩ i) = [] := by
  unfold endM takeM
  rw [if_neg (by simp)]
  simp only []
  have hc : closeV 0 = ⟨ev0, 0, 0⟩ := rfl
  have ht : takeV l mkr0 ev0 = (mkr0, none) := take_nothing rfl
  rw [hc, if_neg (by simp), ht]
  rfl
theorem step_lf0 (hp : 10 ≠ p) (hq : 10 ≠ q) (h2 : n ≠ 2) : stepV p q n 0 10 = ⟨ev0, 0, 0⟩ := by
  unfold stepV
  rw [if_neg (by omega), if_neg (by omega), if_neg (by omega)]
  unfold outV
  rw [if_neg hq, if_neg hp, if_neg (by omega), if_pos rfl]
  unfold endV mayV
  simp [h2]
theorem step_cr0 (hp : 13 ≠ p) (hq : 13 ≠ q) : stepV p q 2 0 13 = ⟨ev0, 6, 0⟩ := by
  unfold stepV
  rw [if_neg (by omega), if_neg (by omega), if_neg (by omega)]
  unfold outV
  rw [if_neg hq, if_neg hp, if_pos rfl]
  rfl
/-- No field that must be quoted is read as it stands. -/
theorem must_no {f : ByteArray} (hok : okB p q n = true) (hw : Utf.stateAt f f.size = 0) (hy : whyN p q f true true ≠ 0) :
    ¬ ((finU p q n l (Bom.stripS (f ++ endS n))).ft.1 = 0 ∧ recs (finU p q n l (Bom.stripS (f ++ endS n))) = [[f]]) := by
  obtain ⟨⟨_, hp13, hp10⟩, ⟨_, hq13, hq10⟩, _, hn⟩ := okB_spec hok
  have hwe := whole_end n
  have he1 : 1 ≤ (endS n).size ∧ byt (endS n) 0 ≠ 239 ∧ byt (endS n) 0 ≠ 187 ∧ byt (endS n) 0 ≠ 191 := by
    unfold endS
    split
    · rw [show byt ⟨#[13, 10]⟩ 0 = 13 from rfl]; exact ⟨by show 1 ≤ 2; omega, by omega, by omega, by omega⟩
    · rw [show byt ⟨#[10]⟩ 0 = 10 from rfl]; exact ⟨by show 1 ≤ 1; omega, by omega, by omega, by omega⟩
  have hpre : Bom.preN (f ++ endS n) = 3 ↔ Bom.preN f = 3 := by
    constructor
    · intro h
      have hp := Bom.pre_is (f ++ endS n)
      rw [h] at hp
      have hf : ∀ i, i < 3 → i < f.size := by
        intro i hi
        refine Classical.byContradiction fun c => ?_
        have h0 := hp.2.1 f.size (by omega)
        rw [byt_append, if_neg (by omega), Nat.sub_self] at h0
        unfold Bom.mk at h0
        split at h0
        · exact he1.2.1 h0
        · split at h0
          · exact he1.2.2.1 h0
          · exact he1.2.2.2 h0
      refine Bom.pre_unique (Bom.pre_is f) ⟨Nat.le_refl _, fun i hi => ?_, fun hc => by omega⟩
      have := hp.2.1 i hi
      rwa [byt_append, if_pos (hf i hi)] at this
    · intro h
      have hp := Bom.pre_is f
      have hz := (Bom.preN_le f).1
      rw [h] at hp hz
      refine Bom.pre_unique (Bom.pre_is _) ⟨Nat.le_refl _, fun i hi => ?_, fun hc => by omega⟩
      rw [byt_append, if_pos (by omega)]
      exact hp.2.1 i hi
  rintro ⟨h1, h2⟩
  by_cases hm : Bom.preN f = 3
  · -- the mark is taken for the text's own
    have hz := (Bom.preN_le f).1
    have hs : Bom.stripS (f ++ endS n) = f.extract 3 f.size ++ endS n := by
      unfold Bom.stripS
      rw [if_pos (hpre.2 hm), Bom.extract_append_left _ _ _ (by omega)]
    have hsz : (f.extract 3 f.size).size = f.size - 3 := by rw [ByteArray.size_extract]; omega
    have hwx : Utf.stateAt (f.extract 3 f.size) (f.extract 3 f.size).size = 0 := by
      rw [← mark_state f hm, hsz, show 3 + (f.size - 3) = f.size by omega]
      exact hw
    rw [hs, finU_whole (whole_append hwx hwe)] at h1 h2
    have := (all_bare hok rfl h1 h2 (by omega)).1
    omega
  · have hs : Bom.stripS (f ++ endS n) = f ++ endS n := by
      unfold Bom.stripS
      rw [if_neg (fun c => hm (hpre.1 c))]
    rw [hs, finU_whole (whole_append hw hwe)] at h1 h2
    obtain ⟨_, ha⟩ := all_bare hok rfl h1 h2 (Nat.le_refl _)
    have hno : ∀ b : Nat, (∀ j, j < f.size → bytN (f ++ endS n) j ≠ b) → hasC f b = false := fun b hb => hasC_no (fun i hi e => hb i hi (by
      unfold bytN
      rw [byt_append, if_pos hi, e]
      rfl))
    have e1 := hno p (fun j hj => (ha j hj).1)
    have e2 := hno q (fun j hj => (ha j hj).2.1)
    have e3 := hno 13 (fun j hj => (ha j hj).2.2.1)
    have e4 := hno 10 (fun j hj => (ha j hj).2.2.2)
    have e5 : Bom.hadB f = false := by unfold Bom.hadB; exact decide_eq_false hm
    by_cases h0 : f.size = 0
    · -- an empty line is no record
      obtain rfl := size_none f h0
      rw [none_append] at h1 h2
      have hout : recs (finM p q n l (endS n)) = [] := by
        by_cases h2 : n = 2
        · subst h2
          have e : endS 2 = ⟨#[13, 10]⟩ := rfl
          rw [e]
          have r1 : runM p q 2 l ⟨#[13, 10]⟩ 1 = ⟨6, mkr0, [], (0, 0)⟩ := step_nothing (b := 13) (step_cr0 (by omega) (by omega))
          have r2 : runM p q 2 l ⟨#[13, 10]⟩ 2 = ⟨0, mkr0, [], (0, 0)⟩ := by
            rw [run_step, r1]
            exact step_nothing (b := 10) (by unfold stepV behV; rfl)
          show recs (endM l (runM p q 2 l ⟨#[13, 10]⟩ 2) 2) = []
          rw [r2]
          exact end_nothing
        · have e : endS n = ⟨#[10]⟩ := by unfold endS; rw [if_neg h2]
          rw [e]
          have r1 : runM p q n l ⟨#[10]⟩ 1 = ⟨0, mkr0, [], (0, 0)⟩ := step_nothing (b := 10) (step_lf0 (by omega) (by omega) h2)
          show recs (endM l (runM p q n l ⟨#[10]⟩ 1) 1) = []
          rw [r1]
          exact end_nothing
      rw [hout] at h2
      cases h2
    · unfold whyN at hy
      rw [e1, e2, e3, e4, e5] at hy
      simp [h0] at hy
end

end Go.Proofs.YtajedohgcepkiaaDoor.Nd
