/-
  The document's reader and the machine: they go side by side.
-/
import Derived.Test.YtajedohgcepkiaaDoorRows
import Derived.Test.YtajedohgcepkiaaDoorWhoM
import Derived.Test.YtajedohgcepkiaaDoorRdW
namespace Go.Proofs.YtajedohgcepkiaaDoor
open Go.RowKit

def outs (x : Rd) : List (List ByteArray × Nat) := x.rs.zip x.en
def goR (x : Rd) (j : Nat) : Rd := ⟨j, x.bg, x.rc, x.rs, x.en, x.kd, x.pl⟩
theorem extract_one (s : ByteArray) (i : Nat) (h : i < s.size) : s.extract i (i + 1) = ⟨#[UInt8.ofNat (bytN s i)]⟩ := by
  apply byt_inj
  · rw [ByteArray.size_extract]
    show _ = 1
    omega
  · intro j hj
    rw [ByteArray.size_extract] at hj
    obtain rfl : j = 0 := by omega
    rw [byt_extract, if_pos (by omega), byt_one]
    have := bytN_lt s i
    have h2 := bytN_is s i
    simp only [UInt8.toNat_ofNat', Nat.add_zero]
    omega
theorem one_size (b : Nat) (f : ByteArray) : (f ++ ⟨#[UInt8.ofNat b]⟩).size = f.size + 1 := by rw [ByteArray.size_append]; rfl

/-- Within a record: the field so far, the scanner's state. -/
structure At (p q : Nat) (n : Int) (l : Lim) (s : ByteArray) (x : Rd) (f : ByteArray) (st : Nat) : Prop where
  kd : x.kd = 0
  len : x.rs.length = x.en.length
  i : x.i ≤ s.size
  rc : (x.rc.length : Int) < l.fl
  fd : (f.size : Int) ≤ l.fs
  bd : x.rc.length ≤ x.i ∧ x.rs.length ≤ x.i ∧ x.bg ≤ x.i + 1 ∧ f.size ≤ x.i
  run : runM p q n l s x.i = ⟨st, ⟨f, x.rc, x.bg - (if st = 0 then 1 else 0), x.rs.length, headN x, 0⟩, outs x, (0, 0)⟩
  z0 : st = 0 → x.rc = [] ∧ f = ⟨#[]⟩ ∧ 0 < x.bg ∧ (x.bg : Int) ≤ l.rs ∧ x.i < s.size ∧ bytN s x.i ≠ 10 ∧ bytN s x.i ≠ 13
  z1 : st = 1 → f = ⟨#[]⟩
  z2 : st = 2 → 0 < f.size

/-- A fault was told, and it is the first one. -/
structure Dead (p q : Nat) (n : Int) (l : Lim) (s : ByteArray) (x : Rd) : Prop where
  kd : x.kd ≠ 0
  len : x.rs.length = x.en.length
  ft : (finM p q n l s).ft = (x.kd, x.pl)
  out : (finM p q n l s).out = outs x
  bd : x.rs.length ≤ s.size

section
variable {p q : Nat} {n : Int} {l : Lim} {s : ByteArray} {x : Rd} {f : ByteArray} {st : Nat}
theorem dead_at {j k : Nat} (hk : x.kd = 0) (hl : x.rs.length = x.en.length) (hb : x.rs.length ≤ s.size) (hj : j < s.size) (h : (runM p q n l s (j + 1)).ft = (k, j)) (ho : (runM p q n l s (j + 1)).out = outs x) (h0 : k ≠ 0) : Dead p q n l s (wrongV x k j) := by
  have e : wrongV x k j = ⟨x.i, x.bg, x.rc, x.rs, x.en, k, j⟩ := by unfold wrongV; rw [if_pos hk]
  have hf : finM p q n l s = runM p q n l s (j + 1) := fin_stuck (by omega) (by rw [h]; exact h0)
  rw [e]
  exact ⟨h0, hl, by rw [hf, h], by rw [hf, ho]; rfl, hb⟩

/-- A scanner's error. -/
theorem At.scan (h : At p q n l s x f st) (hi : x.i < s.size) {k : Nat} (he : (stepV p q n st (bytN s x.i)).er = k) (h0 : k ≠ 0) : Dead p q n l s (wrongV x k x.i) := by
  have hr := run_step (p := p) (q := q) (n := n) (l := l) (s := s) x.i
  rw [h.run] at hr
  unfold stepM at hr
  rw [if_neg (by simp), if_pos (by rw [he]; exact h0)] at hr
  exact dead_at h.kd h.len (by have := h.bd; omega) hi (by rw [hr, he]) (by rw [hr]) h0
/-- A maker's error. -/
theorem At.make (h : At p q n l s x f st) (hi : x.i < s.size) {e : Ev} {to_ k : Nat} (hs : stepV p q n st (bytN s x.i) = ⟨e, to_, 0⟩) (hk : (takeV l ⟨f, x.rc, x.bg - (if st = 0 then 1 else 0), x.rs.length, headN x, 0⟩ e).1.st = k) (h0 : k ≠ 0) : Dead p q n l s (wrongV x k x.i) := by
  have hr := run_step (p := p) (q := q) (n := n) (l := l) (s := s) x.i
  rw [h.run] at hr
  unfold stepM takeM at hr
  rw [hs, if_neg (by simp), if_neg (by simp)] at hr
  simp only [] at hr
  rw [hk, if_neg h0] at hr
  exact dead_at h.kd h.len (by have := h.bd; omega) hi (by rw [hr]) (by rw [hr]) h0
/-- No error. -/
theorem At.next (h : At p q n l s x f st) {e : Ev} {to_ : Nat} {m' : Mkr} {r : Option (List ByteArray)} (hs : stepV p q n st (bytN s x.i) = ⟨e, to_, 0⟩) (hk : takeV l ⟨f, x.rc, x.bg - (if st = 0 then 1 else 0), x.rs.length, headN x, 0⟩ e = (m', r)) (h0 : m'.st = 0) :
    runM p q n l s (x.i + 1) = ⟨to_, m', outW (outs x) r x.i, (0, 0)⟩ := by
  have hr := run_step (p := p) (q := q) (n := n) (l := l) (s := s) x.i
  rw [h.run] at hr
  unfold stepM takeM at hr
  rw [hs, if_neg (by simp), if_neg (by simp)] at hr
  simp only [] at hr
  rw [hk, if_pos h0] at hr
  exact hr

theorem step_plain {b : Nat} (hst : st = 0 ∨ st = 1 ∨ st = 2) (hp : b ≠ p) (hq : b ≠ q) (h10 : b ≠ 10) (h13 : b ≠ 13) : stepV p q n st b = ⟨⟨decide (st = 0), true, false, false, false, b⟩, 2, 0⟩ := by
  unfold stepV
  rw [if_neg (by omega), if_neg (by omega), if_neg (by omega)]
  unfold outV
  rw [if_neg hq, if_neg hp, if_neg h13, if_neg h10, if_neg (by omega)]

/-- A byte of a bare field. -/
theorem At.add (h : At p q n l s x f st) (hfs : 1 ≤ l.fs) (hst : st = 0 ∨ st = 1 ∨ st = 2) (hi : x.i < s.size) (hp : bytN s x.i ≠ p) (hq : bytN s x.i ≠ q) (h10 : bytN s x.i ≠ 10) (h13 : bytN s x.i ≠ 13) :
    ((f.size : Int) = l.fs → Dead p q n l s (wrongV x 7 x.i)) ∧ ((f.size : Int) ≠ l.fs → At p q n l s (goR x (x.i + 1)) (f ++ s.extract x.i (x.i + 1)) 2) := by
  have hs := step_plain (n := n) hst hp hq h10 h13
  have hfd := h.fd
  have hbd := h.bd
  refine ⟨fun hf => ?_, fun hf => ?_⟩
  · have hst0 : st ≠ 0 := fun e => by
      have := (h.z0 e).2.1
      subst this
      have : (ByteArray.mk #[]).size = 0 := rfl
      omega
    rw [show decide (st = 0) = false from decide_eq_false hst0] at hs
    exact h.make hi hs (take_full rfl (by simp only []; omega)) (by decide)
  · rw [extract_one s x.i hi]
    have hrun : runM p q n l s (x.i + 1) = ⟨2, ⟨f ++ ⟨#[UInt8.ofNat (bytN s x.i)]⟩, x.rc, x.bg, x.rs.length, headN x, 0⟩, outs x, (0, 0)⟩ := by
      by_cases e : st = 0
      · subst e
        obtain ⟨_, _, z3, z4, _⟩ := h.z0 rfl
        have := h.next (r := none) hs (take_begin_add (l := l) (m := ⟨f, x.rc, x.bg - (if 0 = 0 then 1 else 0), x.rs.length, headN x, 0⟩) (b := bytN s x.i) rfl (by simp only [if_true]; omega) (by simp only []; omega)) rfl
        rw [this]
        simp only [if_true, outW]
        rw [show x.bg - 1 + 1 = x.bg by omega]
      · rw [show decide (st = 0) = false from decide_eq_false e] at hs
        have := h.next (r := none) hs (take_add (l := l) (m := ⟨f, x.rc, x.bg - (if st = 0 then 1 else 0), x.rs.length, headN x, 0⟩) (b := bytN s x.i) rfl (by simp only []; omega)) rfl
        rw [this]
        simp only [if_neg e, outW, Nat.sub_zero]
    exact ⟨h.kd, h.len, by simp only [goR]; omega, h.rc, by rw [one_size]; omega, by simp only [goR]; rw [one_size]; omega, by rw [show (goR x (x.i + 1)).i = x.i + 1 from rfl, hrun]; rfl, fun e => by omega, fun e => by omega, fun _ => by rw [one_size]; omega⟩
/-- A quote within a bare field. -/
theorem At.quote (h : At p q n l s x f st) (hst : st = 2) (hi : x.i < s.size) (hq : bytN s x.i = q) : Dead p q n l s (wrongV x 4 x.i) := by
  subst hst
  refine h.scan hi ?_ (by decide)
  unfold stepV
  rw [if_neg (by omega), if_neg (by omega), if_neg (by omega)]
  unfold outV
  rw [if_pos hq]
  rfl
/-- The quote that a quoted field begins with. -/
theorem At.open_ (h : At p q n l s x f st) (hst : st = 0 ∨ st = 1) (hi : x.i < s.size) (hq : bytN s x.i = q) : At p q n l s (goR x (x.i + 1)) ⟨#[]⟩ 3 := by
  have hbd := h.bd
  have hf : f = ⟨#[]⟩ := by
    rcases hst with e | e
    · exact (h.z0 e).2.1
    · exact h.z1 e
  subst hf
  have hs : stepV p q n st (bytN s x.i) = ⟨⟨decide (st = 0), false, false, false, false, 0⟩, 3, 0⟩ := by
    unfold stepV
    rw [if_neg (by omega), if_neg (by omega), if_neg (by omega)]
    unfold outV
    rw [if_pos hq]
    unfold quoV
    rw [if_neg (by omega), if_neg (by omega)]
  have hrun : runM p q n l s (x.i + 1) = ⟨3, ⟨⟨#[]⟩, x.rc, x.bg, x.rs.length, headN x, 0⟩, outs x, (0, 0)⟩ := by
    by_cases e : st = 0
    · subst e
      obtain ⟨_, _, z3, z4, _⟩ := h.z0 rfl
      have := h.next (r := none) hs (take_begin (l := l) (m := ⟨⟨#[]⟩, x.rc, x.bg - (if 0 = 0 then 1 else 0), x.rs.length, headN x, 0⟩) (b := 0) rfl (by simp only [if_true]; omega)) rfl
      rw [this]
      simp only [if_true, outW]
      rw [show x.bg - 1 + 1 = x.bg by omega]
    · rw [show decide (st = 0) = false from decide_eq_false e] at hs
      have := h.next (r := none) hs (take_nothing (l := l) (m := ⟨⟨#[]⟩, x.rc, x.bg - (if st = 0 then 1 else 0), x.rs.length, headN x, 0⟩) (b := 0) rfl) rfl
      rw [this]
      simp only [if_neg e, outW, Nat.sub_zero]
  exact ⟨h.kd, h.len, by simp only [goR]; omega, h.rc, h.fd, by simp only [goR]; refine ⟨by omega, by omega, by omega, Nat.zero_le _⟩, by rw [show (goR x (x.i + 1)).i = x.i + 1 from rfl, hrun]; rfl, fun e => by omega, fun e => by omega, fun e => by omega⟩
/-- A byte within quotes. -/
theorem At.within (h : At p q n l s x f 3) (hi : x.i < s.size) (hq : bytN s x.i ≠ q) :
    ((f.size : Int) = l.fs → Dead p q n l s (wrongV x 7 x.i)) ∧ ((f.size : Int) ≠ l.fs → At p q n l s (goR x (x.i + 1)) (f ++ s.extract x.i (x.i + 1)) 3) := by
  have hfd := h.fd
  have hbd := h.bd
  have hs : stepV p q n 3 (bytN s x.i) = ⟨⟨false, true, false, false, false, bytN s x.i⟩, 3, 0⟩ := by
    unfold stepV inV evA
    rw [if_pos rfl, if_neg hq]
  refine ⟨fun hf => h.make hi hs (take_full rfl (by simp only []; omega)) (by decide), fun hf => ?_⟩
  rw [extract_one s x.i hi]
  have hrun := h.next (r := none) hs (take_add (l := l) (b := bytN s x.i) rfl (by simp only []; omega)) rfl
  exact ⟨h.kd, h.len, by simp only [goR]; omega, h.rc, by rw [one_size]; omega, by simp only [goR]; rw [one_size]; omega, by rw [show (goR x (x.i + 1)).i = x.i + 1 from rfl, hrun]; rfl, fun e => by omega, fun e => by omega, fun e => by omega⟩
/-- A quote within quotes. -/
theorem At.close (h : At p q n l s x f 3) (hi : x.i < s.size) (hq : bytN s x.i = q) : At p q n l s (goR x (x.i + 1)) f 4 := by
  have hbd := h.bd
  have hs : stepV p q n 3 (bytN s x.i) = ⟨ev0, 4, 0⟩ := by
    unfold stepV inV
    rw [if_pos rfl, if_pos hq]
  have hrun := h.next (r := none) hs (take_nothing (l := l) (b := 0) rfl) rfl
  exact ⟨h.kd, h.len, by simp only [goR]; omega, h.rc, h.fd, by simp only [goR]; omega, by rw [show (goR x (x.i + 1)).i = x.i + 1 from rfl, hrun]; rfl, fun e => by omega, fun e => by omega, fun e => by omega⟩
/-- .. and another one behind it. -/
theorem At.twice (h : At p q n l s x f 4) (hi : x.i < s.size) (hq : bytN s x.i = q) :
    ((f.size : Int) = l.fs → Dead p q n l s (wrongV x 7 x.i)) ∧ ((f.size : Int) ≠ l.fs → At p q n l s (goR x (x.i + 1)) (f ++ s.extract x.i (x.i + 1)) 3) := by
  have hfd := h.fd
  have hbd := h.bd
  have hs : stepV p q n 4 (bytN s x.i) = ⟨⟨false, true, false, false, false, bytN s x.i⟩, 3, 0⟩ := by
    unfold stepV
    rw [if_neg (by omega), if_neg (by omega), if_neg (by omega)]
    unfold outV
    rw [if_pos hq]
    unfold quoV evA
    rw [if_neg (by omega), if_pos rfl]
  refine ⟨fun hf => h.make hi hs (take_full rfl (by simp only []; omega)) (by decide), fun hf => ?_⟩
  rw [extract_one s x.i hi]
  have hrun := h.next (r := none) hs (take_add (l := l) (b := bytN s x.i) rfl (by simp only []; omega)) rfl
  exact ⟨h.kd, h.len, by simp only [goR]; omega, h.rc, by rw [one_size]; omega, by simp only [goR]; rw [one_size]; omega, by rw [show (goR x (x.i + 1)).i = x.i + 1 from rfl, hrun]; rfl, fun e => by omega, fun e => by omega, fun e => by omega⟩
/-- What may not stand behind a quoted field. -/
theorem At.after (h : At p q n l s x f 4) (hi : x.i < s.size) (hp : bytN s x.i ≠ p) (hq : bytN s x.i ≠ q) (h10 : bytN s x.i ≠ 10) (h13 : bytN s x.i ≠ 13) : Dead p q n l s (wrongV x 5 x.i) := by
  refine h.scan hi ?_ (by decide)
  unfold stepV
  rw [if_neg (by omega), if_neg (by omega), if_neg (by omega)]
  unfold outV
  rw [if_neg hq, if_neg hp, if_neg h13, if_neg h10, if_pos rfl]
end

end Go.Proofs.YtajedohgcepkiaaDoor
