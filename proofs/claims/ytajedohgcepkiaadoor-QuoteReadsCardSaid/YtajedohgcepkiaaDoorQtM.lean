/-
  Plain: a field quoted; the field that a quoted text is.
-/
import Derived.Test.YtajedohgcepkiaaDoorRows
import Derived.Test.YtajedohgcepkiaaDoorByt
import Derived.Lib.CountLaws
import Derived.Lib.Replace
namespace Go.Proofs.YtajedohgcepkiaaDoor
open Go.RowKit
namespace Qt

def dbl (q : UInt8) : List UInt8 → List UInt8
  | [] => []
  | b :: l => if b = q then q :: q :: dbl q l else b :: dbl q l
def unp (q : UInt8) : List UInt8 → List UInt8
  | [] => []
  | [a] => [a]
  | a :: b :: l => if a = q ∧ b = q then q :: unp q l else a :: unp q (b :: l)
def sc (q : UInt8) : List UInt8 → List UInt8
  | [] => []
  | [_] => []
  | a :: b :: l => if a = q then (if l = [] then [] else b :: sc q l) else a :: sc q (b :: l)

theorem dbl_cons (q b : UInt8) (l : List UInt8) : dbl q (b :: l) = if b = q then q :: q :: dbl q l else b :: dbl q l := rfl
theorem dbl_append (q : UInt8) : ∀ a b : List UInt8, dbl q (a ++ b) = dbl q a ++ dbl q b
  | [], b => rfl
  | x :: a, b => by
    show dbl q (x :: (a ++ b)) = _
    rw [dbl_cons, dbl_cons, dbl_append q a b]
    split <;> rfl
theorem dbl_len (q : UInt8) : ∀ l : List UInt8, (dbl q l).length = l.length + l.count q
  | [] => rfl
  | x :: l => by
    unfold dbl
    by_cases h : x = q
    · subst h
      rw [if_pos rfl, List.count_cons_self]
      simp only [List.length_cons, dbl_len x l]
      omega
    · rw [if_neg h, List.count_cons_of_ne h]
      simp only [List.length_cons, dbl_len q l]
      omega
theorem unp_dbl (q : UInt8) : ∀ l : List UInt8, unp q (dbl q l) = l
  | [] => rfl
  | x :: l => by
    unfold dbl
    by_cases h : x = q
    · subst h
      rw [if_pos rfl]
      show (if x = x ∧ x = x then x :: unp x (dbl x l) else x :: unp x (x :: dbl x l)) = x :: l
      rw [if_pos ⟨rfl, rfl⟩, unp_dbl x l]
    · rw [if_neg h]
      have ih := unp_dbl q l
      cases hd : dbl q l with
      | nil =>
        rw [hd] at ih
        rw [← ih]
        rfl
      | cons b r =>
        rw [hd] at ih
        show (if x = q ∧ b = q then q :: unp q r else x :: unp q (b :: r)) = x :: l
        rw [if_neg (fun e => h e.1), ih]
theorem dbl_inj (q : UInt8) {a b : List UInt8} (h : dbl q a = dbl q b) : a = b := by
  rw [← unp_dbl q a, h, unp_dbl]
theorem unp_len (q : UInt8) : ∀ l : List UInt8, l.length ≤ (unp q l).length + (unp q l).count q ∧ (l.length = (unp q l).length + (unp q l).count q → l = dbl q (unp q l))
  | [] => ⟨Nat.le_refl _, fun _ => rfl⟩
  | [a] => by
    show 1 ≤ 1 + List.count q [a] ∧ (1 = 1 + List.count q [a] → [a] = dbl q [a])
    refine ⟨by omega, fun h => ?_⟩
    by_cases e : a = q
    · subst e
      rw [List.count_cons_self] at h
      omega
    · unfold dbl
      rw [if_neg e]
      rfl
  | a :: b :: l => by
    unfold unp
    by_cases h : a = q ∧ b = q
    · obtain ⟨h1, h2⟩ := h
      subst h1; subst h2
      obtain ⟨i1, i2⟩ := unp_len b l
      rw [if_pos ⟨rfl, rfl⟩, List.count_cons_self]
      simp only [List.length_cons]
      refine ⟨by omega, fun e => ?_⟩
      show b :: b :: l = (if b = b then b :: b :: dbl b (unp b l) else b :: dbl b (unp b l))
      rw [if_pos rfl, ← i2 (by omega)]
    · obtain ⟨i1, i2⟩ := unp_len q (b :: l)
      rw [if_neg h]
      by_cases ha : a = q
      · subst ha
        rw [List.count_cons_self]
        simp only [List.length_cons] at i1 ⊢
        exact ⟨by omega, fun e => by omega⟩
      · rw [List.count_cons_of_ne ha]
        simp only [List.length_cons] at i1 i2 ⊢
        refine ⟨by omega, fun e => ?_⟩
        show a :: b :: l = (if a = q then q :: q :: dbl q (unp q (b :: l)) else a :: dbl q (unp q (b :: l)))
        rw [if_neg ha, ← i2 (by omega)]
theorem unp_le (q : UInt8) : ∀ l : List UInt8, (unp q l).length ≤ l.length
  | [] => Nat.le_refl _
  | [_] => Nat.le_refl _
  | a :: b :: l => by
    unfold unp
    have h1 := unp_le q l
    have h2 := unp_le q (b :: l)
    split
    · simp only [List.length_cons]; omega
    · simp only [List.length_cons] at h2 ⊢; omega
theorem sc_dbl (q : UInt8) : ∀ l : List UInt8, sc q (dbl q l ++ [q]) = l
  | [] => rfl
  | x :: l => by
    unfold dbl
    by_cases h : x = q
    · subst h
      rw [if_pos rfl]
      show (if x = x then (if dbl x l ++ [x] = [] then [] else x :: sc x (dbl x l ++ [x])) else x :: sc x (x :: (dbl x l ++ [x]))) = x :: l
      rw [if_pos rfl, if_neg (by simp), sc_dbl x l]
    · rw [if_neg h]
      have ih := sc_dbl q l
      show sc q (x :: (dbl q l ++ [q])) = x :: l
      cases hd : dbl q l ++ [q] with
      | nil => simp at hd
      | cons b r =>
        rw [hd] at ih
        show (if x = q then (if r = [] then [] else b :: sc q r) else x :: sc q (b :: r)) = x :: l
        rw [if_neg h, ih]

/-- The field quoted. -/
def quo (q : UInt8) (l : List UInt8) : List UInt8 := q :: (dbl q l ++ [q])
theorem quo_inj (q : UInt8) {a b : List UInt8} (h : quo q a = quo q b) : a = b := by
  unfold quo at h
  simp only [List.cons.injEq, true_and, List.append_cancel_right_eq] at h
  exact dbl_inj q h
theorem quo_len (q : UInt8) (l : List UInt8) : (quo q l).length = l.length + l.count q + 2 := by
  unfold quo
  simp [dbl_len]

/-- What the program asks of a text that begins with a Quote is what the document asks. -/
theorem fits_iff (q : UInt8) (t : List UInt8) :
    (∃ m, t = m ++ [q] ∧ m.length = (unp q m).length + (unp q m).count q) ↔ quo q (sc q t) = q :: t := by
  constructor
  · rintro ⟨m, rfl, h⟩
    have e := (unp_len q m).2 h
    unfold quo
    rw [e, sc_dbl]
  · intro h
    unfold quo at h
    simp only [List.cons.injEq, true_and] at h
    exact ⟨dbl q (sc q t), h.symm, by rw [unp_dbl, dbl_len]⟩
theorem fits_same (q : UInt8) (m : List UInt8) (h : m.length = (unp q m).length + (unp q m).count q) : sc q (m ++ [q]) = unp q m := by
  have e := (unp_len q m).2 h
  generalize unp q m = u at e
  rw [e, sc_dbl]

/- What replaceAll does. -/
def rep (old new s : List UInt8) : List UInt8 := Lib.replaceK old new (Lib.count s old) s
theorem rep_miss {old new s : List UInt8} (h : Lib.index s old = -1) : rep old new s = s := by
  unfold rep
  rw [Lib.count_miss h, Lib.replaceK]
theorem rep_hit {old new s : List UInt8} {i : Nat} (h0 : old ≠ []) (h : Lib.index s old = i) : rep old new s = s.take i ++ new ++ rep old new (s.drop (i + old.length)) := by
  unfold rep
  rw [Lib.count_hit h0 h, Nat.add_comm, Lib.replaceK_hit _ _ _ _ _ h]
theorem index_cases (s sub : List UInt8) : Lib.index s sub = -1 ∨ ∃ i : Nat, Lib.index s sub = i := by
  have := Lib.index_ge s sub
  by_cases h : Lib.index s sub = -1
  · exact Or.inl h
  · exact Or.inr ⟨(Lib.index s sub).toNat, by omega⟩
theorem rep_nil {old new : List UInt8} (h0 : old ≠ []) : rep old new [] = [] := by
  apply rep_miss
  unfold Lib.index
  cases old with
  | nil => exact absurd rfl h0
  | cons a l => rfl
theorem rep_skip {old new s : List UInt8} {b : UInt8} (h0 : old ≠ []) (h : old.isPrefixOf (b :: s) = false) : rep old new (b :: s) = b :: rep old new s := by
  have e : Lib.index (b :: s) old = if (Lib.index s old == -1) = true then -1 else Lib.index s old + 1 := by
    rw [Lib.index, h]
    rfl
  rcases index_cases s old with hi | ⟨i, hi⟩
  · rw [hi] at e
    rw [rep_miss (s := b :: s) e, rep_miss hi]
  · rw [hi, if_neg (by simp)] at e
    rw [rep_hit (s := b :: s) (i := i + 1) h0 (by rw [e]; rfl), rep_hit h0 hi, show i + 1 + old.length = i + old.length + 1 by omega, List.drop_succ_cons, List.take_succ_cons]
    rfl
theorem rep_take {old new s : List UInt8} {b : UInt8} (h0 : old ≠ []) (h : old.isPrefixOf (b :: s) = true) : rep old new (b :: s) = new ++ rep old new ((b :: s).drop old.length) := by
  have e : Lib.index (b :: s) old = (0 : Nat) := by
    rw [Lib.index, h]
    rfl
  rw [rep_hit h0 e, List.take_zero, Nat.zero_add]
  rfl
theorem all_rep {s old new : List UInt8} (h : (old == new) = false) : Lib.replaceAll s old new = rep old new s := by
  unfold Lib.replaceAll Lib.replace Lib.replaceNum
  rw [h, if_neg Bool.false_ne_true, if_pos (Or.inl (by decide))]
  rfl
theorem rep_one (q : UInt8) : ∀ s : List UInt8, rep [q] [q, q] s = dbl q s
  | [] => rep_nil (by simp)
  | b :: s => by
    unfold dbl
    by_cases h : b = q
    · subst h
      rw [rep_take (by simp) (by simp [List.isPrefixOf]), if_pos rfl]
      show [b, b] ++ rep [b] [b, b] s = _
      rw [rep_one b s]
      rfl
    · rw [rep_skip (by simp) (by simp [List.isPrefixOf]; exact fun e => h e.symm), if_neg h, rep_one q s]
theorem rep_two (q : UInt8) : ∀ s : List UInt8, rep [q, q] [q] s = unp q s
  | [] => rep_nil (by simp)
  | [a] => by
    rw [rep_skip (by simp) (by simp [List.isPrefixOf]), rep_nil (by simp)]
    rfl
  | a :: b :: l => by
    unfold unp
    by_cases h : a = q ∧ b = q
    · obtain ⟨h1, h2⟩ := h
      subst h1; subst h2
      rw [rep_take (by simp) (by simp [List.isPrefixOf]), if_pos ⟨rfl, rfl⟩]
      show [b] ++ rep [b, b] [b] l = _
      rw [rep_two b l]
      rfl
    · rw [rep_skip (by simp) (by
        cases hp : List.isPrefixOf [q, q] (a :: b :: l) with
        | false => rfl
        | true =>
          simp [List.isPrefixOf] at hp
          exact absurd ⟨hp.1.symm, hp.2.symm⟩ h), if_neg h, rep_two q (b :: l)]
theorem all_one (q : UInt8) (s : List UInt8) : Lib.replaceAll s [q] [q, q] = dbl q s := by rw [all_rep (by simp), rep_one]
theorem all_two (q : UInt8) (s : List UInt8) : Lib.replaceAll s [q, q] [q] = unp q s := by rw [all_rep (by simp), rep_two]

end Qt
end Go.Proofs.YtajedohgcepkiaaDoor
