/-
  What a byte comes to, plain.
-/
import Derived.Test.YtajedohgcepkiaaDoorRows
import Derived.Test.YtajedohgcepkiaaDoorOk
import Derived.Test.YtajedohgcepkiaaDoorByt
import Derived.Test.YtajedohgcepkiaaDoorEv
namespace Go.Proofs.YtajedohgcepkiaaDoor
open Go.RowKit

def ev0 : Ev := ⟨false, false, false, false, false, 0⟩
def evA (b : Nat) : Ev := ⟨false, true, false, false, false, b⟩

/-- What a byte comes to, the state then, the error. -/
structure Out where
  ev : Ev
  to_ : Nat
  er : Nat
deriving DecidableEq
def outP (o : Out) : Value := .tuple #[evP o.ev, .int .i64 o.to_, .int .i64 o.er]
def outR (o : Out) : Value := .tuple #[evR o.ev, .int .i64 o.to_, .int .i64 o.er]

def inV (q b : Nat) : Out := if b = q then ⟨ev0, 4, 0⟩ else ⟨evA b, 3, 0⟩
def behV (e : Ev) (b : Nat) : Out := if b = 10 then ⟨e, 0, 0⟩ else ⟨ev0, 0, 6⟩
def quoV (s b : Nat) : Out := if s = 2 then ⟨ev0, 0, 4⟩ else if s = 4 then ⟨evA b, 3, 0⟩ else ⟨⟨decide (s = 0), false, false, false, false, 0⟩, 3, 0⟩
def mayV (n : Int) (b : Nat) : Bool := if b = 13 then n != 1 else n != 2
def endV (n : Int) (s b : Nat) : Out :=
  if mayV n b = false then ⟨ev0, 0, 6⟩
  else if b = 13 then (if s = 0 then ⟨ev0, 6, 0⟩ else ⟨⟨false, false, false, true, false, 0⟩, 5, 0⟩)
  else (if s = 0 then ⟨ev0, 0, 0⟩ else ⟨⟨false, false, false, true, true, 0⟩, 0, 0⟩)
def outV (p q : Nat) (n : Int) (s b : Nat) : Out :=
  if b = q then quoV s b
  else if b = p then ⟨⟨decide (s = 0), false, true, false, false, 0⟩, 1, 0⟩
  else if b = 13 then endV n s b
  else if b = 10 then endV n s b
  else if s = 4 then ⟨ev0, 0, 5⟩
  else ⟨⟨decide (s = 0), true, false, false, false, b⟩, 2, 0⟩
def stepV (p q : Nat) (n : Int) (s b : Nat) : Out :=
  if s = 3 then inV q b
  else if s = 5 then behV ⟨false, false, false, false, true, 0⟩ b
  else if s = 6 then behV ev0 b
  else outV p q n s b

/-- What the end comes to. -/
def closeV (s : Nat) : Out :=
  if s = 1 ∨ s = 2 ∨ s = 4 then ⟨⟨false, false, false, true, true, 0⟩, 0, 0⟩
  else if s = 3 then ⟨ev0, 0, 11⟩
  else if s = 5 ∨ s = 6 then ⟨ev0, 0, 6⟩
  else ⟨ev0, 0, 0⟩

theorem step_to (p q : Nat) (n : Int) (s b : Nat) : (stepV p q n s b).to_ ≤ 6 := by
  unfold stepV inV behV outV quoV endV
  repeat' split
  all_goals simp
theorem step_er (p q : Nat) (n : Int) (s b : Nat) : (stepV p q n s b).er ≤ 11 := by
  unfold stepV inV behV outV quoV endV
  repeat' split
  all_goals simp
theorem close_er (s : Nat) : (closeV s).er ≤ 11 := by
  unfold closeV
  repeat' split
  all_goals simp
theorem step_by (p q : Nat) (n : Int) (s b : Nat) : (stepV p q n s b).ev.by_ = 0 ∨ (stepV p q n s b).ev.by_ = b := by
  unfold stepV inV behV outV quoV endV ev0 evA
  repeat' split
  all_goals simp

/-- What is no error is the same where either end of line may be. -/
theorem step_either (p q : Nat) (n : Int) (s b : Nat) (h : (stepV p q n s b).er = 0) : stepV p q 3 s b = stepV p q n s b := by
  unfold stepV at h ⊢
  split
  · rfl
  · rename_i h3
    rw [if_neg h3] at h
    split
    · rfl
    · rename_i h5
      rw [if_neg h5] at h
      split
      · rfl
      · rename_i h6
        rw [if_neg h6] at h
        unfold outV at h ⊢
        have key : (endV n s b).er = 0 → endV 3 s b = endV n s b := by
          intro h0
          unfold endV at h0 ⊢
          have hm : mayV 3 b = true := by unfold mayV; split <;> decide
          by_cases hmn : mayV n b = false
          · rw [if_pos hmn] at h0
            simp at h0
          · rw [hm, if_neg hmn]
            simp
        split
        · rfl
        · rename_i h7
          rw [if_neg h7] at h
          split
          · rfl
          · rename_i h8
            rw [if_neg h8] at h
            split
            · rename_i h9
              rw [if_pos h9] at h
              exact key h
            · rename_i h9
              rw [if_neg h9] at h
              split
              · rename_i h10
                rw [if_pos h10] at h
                exact key h
              · rfl

/-- A byte, as a number. -/
def bytN (s : ByteArray) (i : Nat) : Nat := (byt s i).toNat
theorem bytN_is (s : ByteArray) (i : Nat) : (bytN s i : Int) = byt s i := by
  have := byt_range s i
  unfold bytN
  omega
theorem bytN_lt (s : ByteArray) (i : Nat) : bytN s i < 256 := by
  have := byt_range s i
  unfold bytN
  omega

/-- The state ahead of byte i. -/
def stA (p q : Nat) (n : Int) (s : ByteArray) : Nat → Nat
  | 0 => 0
  | i + 1 => (stepV p q n (stA p q n s i) (bytN s i)).to_
/-- What byte i comes to; behind the last byte what the end comes to. -/
def atV (p q : Nat) (n : Int) (s : ByteArray) (i : Nat) : Out := if i < s.size then stepV p q n (stA p q n s i) (bytN s i) else closeV (stA p q n s i)
def evs (p q : Nat) (n : Int) (s : ByteArray) (k : Nat) : List Ev := (List.range k).map fun i => (atV p q n s i).ev
def okTo (p q : Nat) (n : Int) (s : ByteArray) (k : Nat) : Prop := ∀ j, j < k → (atV p q n s j).er = 0

theorem evs_succ (p q : Nat) (n : Int) (s : ByteArray) (k : Nat) : evs p q n s (k + 1) = evs p q n s k ++ [(atV p q n s k).ev] := by
  unfold evs
  rw [List.range_succ, List.map_append]
  rfl
theorem evs_len (p q : Nat) (n : Int) (s : ByteArray) (k : Nat) : (evs p q n s k).length = k := by
  unfold evs
  rw [List.length_map, List.length_range]
theorem evs_get (p q : Nat) (n : Int) (s : ByteArray) (k i : Nat) (h : i < k) : (evs p q n s k)[i]? = some (atV p q n s i).ev := by
  unfold evs
  simp [h]

theorem sta_le (p q : Nat) (n : Int) (s : ByteArray) : ∀ i, stA p q n s i ≤ 6
  | 0 => Nat.zero_le _
  | _ + 1 => step_to _ _ _ _ _

theorem either_at (p q : Nat) (n : Int) (s : ByteArray) (k : Nat) (hk : k ≤ s.size) (h : okTo p q n s k) : ∀ i, i ≤ k → stA p q 3 s i = stA p q n s i := by
  intro i
  induction i with
  | zero => intro _; rfl
  | succ i ih =>
    intro hi
    have h1 := ih (by omega)
    have h2 := h i (by omega)
    unfold atV at h2
    rw [if_pos (by omega)] at h2
    show (stepV p q 3 (stA p q 3 s i) (bytN s i)).to_ = (stepV p q n (stA p q n s i) (bytN s i)).to_
    rw [h1, step_either _ _ _ _ _ h2]

theorem either_ev (p q : Nat) (n : Int) (s : ByteArray) (h : okTo p q n s (s.size + 1)) : ∀ i, i ≤ s.size → atV p q 3 s i = atV p q n s i := by
  intro i hi
  have h1 := either_at p q n s s.size (Nat.le_refl _) (fun j hj => h j (by omega)) i hi
  unfold atV
  rw [h1]
  by_cases hi' : i < s.size
  · rw [if_pos hi', if_pos hi']
    have h2 := h i (by omega)
    unfold atV at h2
    rw [if_pos hi'] at h2
    exact step_either _ _ _ _ _ h2
  · rw [if_neg hi', if_neg hi']

/-- What a run tells: the events, the error's kind, where it is. -/
def RunSays (p q : Nat) (n : Int) (s : ByteArray) (k kind at_ : Nat) : Prop :=
  k ≤ s.size + 1 ∧ okTo p q n s k ∧ ((k ≤ s.size ∧ (atV p q n s k).er ≠ 0 ∧ kind = (atV p q n s k).er ∧ at_ = k) ∨ (k = s.size + 1 ∧ kind = 0 ∧ at_ = 0))

end Go.Proofs.YtajedohgcepkiaaDoor
