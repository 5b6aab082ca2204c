/-
  Walks: the document's reader, its small parts.
-/
import Derived.Test.YtajedohgcepkiaaDoorRows
import Derived.Test.YtajedohgcepkiaaDoorTbl
import Derived.Test.YtajedohgcepkiaaDoorFldM
import Derived.Test.YtajedohgcepkiaaDoorScanM
import Derived.StillTailTactics
import Derived.Deep.RegionWith
import Derived.BigRegion
import Derived.OwnWalk
import Derived.Laws.AppendOwnNone
import Derived.Maps.AppendAt
import Derived.Deep.AppendLies
import Derived.Deep.RegionLaw
namespace Go.Proofs.YtajedohgcepkiaaDoor
open Go.RowKit

/-- The reader, plain: the place, the records begun, the open record, the whole ones and where they were so, the fault. -/
structure Rd where
  i : Nat
  bg : Nat
  rc : List ByteArray
  rs : List (List ByteArray)
  en : List Nat
  kd : Nat
  pl : Nat

def apart (a b : Value) : Prop := ∀ g, a.ownBlock = some g → b.ownBlock ≠ some g
theorem apart.symm {a b : Value} (h : apart a b) : apart b a := fun g hb ha => h g ha hb
def intC (L : List Nat) : List Value := L.map fun n => Value.int .i64 ((n : Nat) : Int)
theorem intC_len (L : List Nat) : (intC L).length = L.length := by unfold intC; simp
def rdcells (p q : Nat) (n : Int) (l : Lim) (s : ByteArray) (x : Rd) (vc vr ve : Value) : Array Value :=
  #[.int .i64 p, .int .i64 q, .int .i64 n, .int .i64 l.fs, .int .i64 l.fl, .int .i64 l.rs, .int .i64 (n01 l.un), .string s, .int .i64 x.i, .int .i64 x.bg, vc, vr, ve, .int .i64 x.kd, .int .i64 x.pl]
/-- The reader at block o. -/
def RdB (w : World) (o p q : Nat) (n : Int) (l : Lim) (s : ByteArray) (x : Rd) (vc vr ve : Value) (vs : List Value) : Prop :=
  Box w o 74 (rdcells p q n l s x vc vr ve) ∧ OwnS w (o + 1) vc x.rc ∧ w.ownsRow (o + 1) 49 1 vr x.rs.length vs ∧ w.ownsRow (o + 1) 3 1 ve x.en.length (intC x.en) ∧
    (∀ (k : Nat) (r : Value) (L : List ByteArray), vs[k]? = some r → x.rs[k]? = some L → OwnS w (o + 1) r L) ∧ apart vc vr ∧ apart vc ve ∧ apart vr ve ∧ ∀ r ∈ vs, apart r vc ∧ apart r vr ∧ apart r ve
def RdIn (w : World) (o p q : Nat) (n : Int) (l : Lim) (s : ByteArray) (x : Rd) : Prop := ∃ vc vr ve vs, RdB w o p q n l s x vc vr ve vs

section
variable {w w' : World} {o p q : Nat} {n : Int} {l : Lim} {s : ByteArray} {x : Rd} {vc vr ve : Value} {vs : List Value}
theorem RdB.lt (h : RdB w o p q n l s x vc vr ve vs) : o < w.heap.size := h.1.lt
theorem RdB.cell (h : RdB w o p q n l s x vc vr ve vs) (i : Nat) : w.cell? ⟨o, i, none⟩ = (rdcells p q n l s x vc vr ve)[i]? := h.1.cell i
theorem own_ne {b : Nat} {e : TypeId} {size k : Nat} {v : Value} {xs : List Value} (h : w.ownsRow b e size v k xs) {o : Nat} (ho : o < b) : v.ownBlock = none ∨ v.ownBlock ≠ some o := by
  cases e : v.ownBlock with
  | none => exact .inl rfl
  | some g => exact .inr (fun hc => by injection hc with hc; have := h.lt g e; omega)
theorem RdB.below (h : RdB w o p q n l s x vc vr ve vs) (hb : Below w.heap.size w w') : RdB w' o p q n l s x vc vr ve vs := by
  obtain ⟨h1, h2, h3, h4, h5, h6⟩ := h
  have k := keeps_below hb (fun _ => False)
  exact ⟨h1.keeps k id, owns_keeps h2 k (fun _ _ => id), owns_keeps h3 k (fun _ _ => id), owns_keeps h4 k (fun _ _ => id), fun i r L hr hL => owns_keeps (h5 i r L hr hL) k (fun _ _ => id), h6⟩
theorem RdIn.below (h : RdIn w o p q n l s x) (hb : Below w.heap.size w w') : RdIn w' o p q n l s x := by
  obtain ⟨vc, vr, ve, vs, h⟩ := h
  exact ⟨vc, vr, ve, vs, h.below hb⟩
/-- A number of the reader's. -/
theorem RdB.scalar (h : RdB w o p q n l s x vc vr ve vs) (i : Nat) (u : Value) (x' : Rd) (hr : x'.rc = x.rc ∧ x'.rs = x.rs ∧ x'.en = x.en) (hc : (rdcells p q n l s x vc vr ve).setIfInBounds i u = rdcells p q n l s x' vc vr ve) : RdB (w.setCell ⟨o, i, none⟩ u) o p q n l s x' vc vr ve vs := by
  obtain ⟨h1, h2, h3, h4, h5, h6⟩ := h
  obtain ⟨e1, e2, e3⟩ := hr
  refine ⟨?_, ?_, ?_, ?_, ?_, h6⟩
  · have := h1.set i u
    rw [hc] at this
    exact this
  · rw [e1]; exact h2.kept (grown_set _ _ _ _) (own_ne h2 (Nat.lt_succ_self _))
  · rw [e2]; exact h3.kept (grown_set _ _ _ _) (own_ne h3 (Nat.lt_succ_self _))
  · rw [e3]; exact h4.kept (grown_set _ _ _ _) (own_ne h4 (Nat.lt_succ_self _))
  · rw [e2]; exact fun k r L hr hL => (h5 k r L hr hL).kept (grown_set _ _ _ _) (own_ne (h5 k r L hr hL) (Nat.lt_succ_self _))
end
theorem below_set (w : World) (o i : Nat) (u : Value) : Below o w (w.setCell ⟨o, i, none⟩ u) := Below.setCell (p := ⟨o, i, none⟩) (Below.refl o w) (Nat.le_refl _) u

def wrongV (x : Rd) (k a : Nat) : Rd := if x.kd = 0 then ⟨x.i, x.bg, x.rc, x.rs, x.en, k, a⟩ else x

theorem wrong_any (o p q : Nat) (n : Int) (l : Lim) (s : ByteArray) (x : Rd) (k a : Nat) (w : World) (h : RdIn w o p q n l s x) :
    Calls Tryd.prog 55 #[.pointer (some ⟨o, 0, none⟩), .int .i64 k, .int .i64 a] w (fun e w' => e = .returned (.bool false) ∧ RdIn w' o p q n l s (wrongV x k a) ∧ Below o w w') := by
  obtain ⟨vc, vr, ve, vs, h⟩ := h
  have q13 : w.cell? ⟨o, 13, none⟩ = some (.int .i64 x.kd) := h.cell 13
  have q14 : w.cell? ⟨o, 14, none⟩ = some (.int .i64 x.pl) := h.cell 14
  have qf := h.1.frozen
  have hlt := h.lt
  have H := Lib.hid h
  clear h
  by_cases hz : x.kd = 0
  · have d1 : ((x.kd : Int) == 0) = true := by simp; omega
    have d2 : decide ((x.kd : Int) = 0) = true := decide_eq_true (by omega)
    have e : wrongV x k a = ⟨x.i, x.bg, x.rc, x.rs, x.en, k, a⟩ := by unfold wrongV; rw [if_pos hz]
    rw [e]
    go_enter Tryd.func55, Tryd.ntmps55
    go_wp2_with fail
    go_ret
    exact ⟨rfl, ⟨vc, vr, ve, vs, (H.out.scalar 13 (.int .i64 k) ⟨x.i, x.bg, x.rc, x.rs, x.en, k, x.pl⟩ ⟨rfl, rfl, rfl⟩ rfl).scalar 14 (.int .i64 a) _ ⟨rfl, rfl, rfl⟩ rfl⟩, (below_set _ _ _ _).trans (below_set _ _ _ _)⟩
  · have d1 : ((x.kd : Int) == 0) = false := by simp; omega
    have d2 : decide ((x.kd : Int) = 0) = false := decide_eq_false (by omega)
    have e : wrongV x k a = x := by unfold wrongV; rw [if_neg hz]
    rw [e]
    go_enter Tryd.func55, Tryd.ntmps55
    go_wp2_with fail
    go_ret
    exact ⟨rfl, ⟨vc, vr, ve, vs, H.out⟩, Below.refl _ _⟩

def isB (s : ByteArray) (i b : Nat) : Bool := decide (i < s.size ∧ byt s i = b)

theorem is_any (o p q : Nat) (n : Int) (l : Lim) (s : ByteArray) (x : Rd) (b : Nat) (w : World) (h : RdIn w o p q n l s x) (_hs : s.size ≤ 1000000) :
    Calls Tryd.prog 42 #[.pointer (some ⟨o, 0, none⟩), .int .i64 b] w (Gives (.bool (isB s x.i b)) w) := by
  apply Gives.of
  obtain ⟨vc, vr, ve, vs, h⟩ := h
  have hcell := fun (W : World) (x : Later W) => x.cell
  have q7 : w.cell? ⟨o, 7, none⟩ = some (.string s) := h.cell 7
  have q8 : w.cell? ⟨o, 8, none⟩ = some (.int .i64 x.i) := h.cell 8
  have hlt := h.lt
  clear h
  by_cases c1 : x.i < s.size
  · have e1 : decide ((x.i : Int) < (s.size : Int)) = true := decide_eq_true (by omega)
    have e2 : decide (x.i < s.size) = true := decide_eq_true c1
    have i1 : (x.i : Int) < (s.size : Int) := by omega
    have b1 := byt_eq s x.i c1
    have hw : wrap64 (byt s x.i) = byt s x.i := by have := byt_range s x.i; unfold wrap64; omega
    go_enter Tryd.func42, Tryd.ntmps42
    go_wp2_with fail
    refine wp_region_later_lit (by kernel_rfl) (by kernel_rfl) ?_
    repeat (go_big_quiet_step (fail))
    refine wpQuiet_nil ?_
    rintro w' ⟨y, rfl⟩
    go_wp2_with fail
    go_ret
    refine ⟨ret_bool ?_, y.below⟩
    unfold isB
    rw [Bool.eq_iff_iff]
    simp [c1]
  · have e1 : decide ((x.i : Int) < (s.size : Int)) = false := decide_eq_false (by omega)
    have e2 : decide (x.i < s.size) = false := decide_eq_false c1
    have i1 : ¬ (x.i : Int) < (s.size : Int) := by omega
    go_enter Tryd.func42, Tryd.ntmps42
    go_wp2_with fail
    refine wp_region_later_lit (by kernel_rfl) (by kernel_rfl) ?_
    repeat (go_big_quiet_step (fail))
    refine wpQuiet_nil ?_
    rintro w' ⟨y, rfl⟩
    go_wp2_with fail
    go_ret
    refine ⟨ret_bool ?_, y.below⟩
    unfold isB
    symm
    exact decide_eq_false (fun hc => c1 hc.1)

def feedV (n : Int) (s : ByteArray) (x : Rd) : Nat × Rd :=
  if isB s x.i 10 = true then (if n = 2 then (0, wrongV x 6 x.i) else (1, x)) else (if n = 1 then (0, wrongV x 6 x.i) else (2, x))
theorem feed_any (o p q : Nat) (n : Int) (l : Lim) (s : ByteArray) (x : Rd) (w : World) (h : RdIn w o p q n l s x) (hs : s.size ≤ 1000000) :
    Calls Tryd.prog 43 #[.pointer (some ⟨o, 0, none⟩)] w (fun e w' => e = .returned (.int .i64 (feedV n s x).1) ∧ RdIn w' o p q n l s (feedV n s x).2 ∧ Below o w w') := by
  have hcell := fun (W : World) (x : Later W) => x.cell
  obtain ⟨vc, vr, ve, vs, h1⟩ := h
  have q2 : w.cell? ⟨o, 2, none⟩ = some (.int .i64 n) := h1.cell 2
  have q8 : w.cell? ⟨o, 8, none⟩ = some (.int .i64 x.i) := h1.cell 8
  have hlt := h1.lt
  have HX := Lib.hid (show ∀ y : Later w, RdIn y.w o p q n l s x from fun y => RdIn.below ⟨vc, vr, ve, vs, h1⟩ y.below)
  have HI := Lib.hid (is_any o p q n l s x 10 w ⟨vc, vr, ve, vs, h1⟩ hs)
  have HW := Lib.hid (fun y : Later w => wrong_any o p q n l s x 6 x.i y.w (HX.out y))
  clear h1
  unfold feedV
  cases hb : isB s x.i 10
  · rw [hb] at HI
    simp only [Bool.false_eq_true, if_false]
    by_cases hn : n = 1
    · subst hn
      simp only [if_true]
      go_enter Tryd.func43, Tryd.ntmps43
      go_wp2_with (first | (go_at_call 42; refine (call_later HI.out).mono ?_; rintro e w' ⟨rfl, y, rfl⟩) | (go_at_call 55; refine (HW.out y).mono ?_; rintro e w' ⟨rfl, hR, hB⟩))
      go_ret
      exact ⟨rfl, hR, (y.below.mono (Nat.le_of_lt hlt)).trans hB⟩
    · rw [if_neg hn]
      have d1 : (n == 1) = false := by simp [hn]
      have d2 : decide (n = 1) = false := decide_eq_false hn
      go_enter Tryd.func43, Tryd.ntmps43
      go_wp2_with (first | (go_at_call 42; refine (call_later HI.out).mono ?_; rintro e w' ⟨rfl, y, rfl⟩) | (go_at_call 55; refine (HW.out y).mono ?_; rintro e w' ⟨rfl, hR, hB⟩))
      go_ret
      exact ⟨rfl, HX.out y, y.below.mono (Nat.le_of_lt hlt)⟩
  · rw [hb] at HI
    simp only [if_true]
    by_cases hn : n = 2
    · subst hn
      simp only [if_true]
      go_enter Tryd.func43, Tryd.ntmps43
      go_wp2_with (first | (go_at_call 42; refine (call_later HI.out).mono ?_; rintro e w' ⟨rfl, y, rfl⟩) | (go_at_call 55; refine (HW.out y).mono ?_; rintro e w' ⟨rfl, hR, hB⟩))
      go_ret
      exact ⟨rfl, hR, (y.below.mono (Nat.le_of_lt hlt)).trans hB⟩
    · rw [if_neg hn]
      have d1 : (n == 2) = false := by simp [hn]
      have d2 : decide (n = 2) = false := decide_eq_false hn
      go_enter Tryd.func43, Tryd.ntmps43
      go_wp2_with (first | (go_at_call 42; refine (call_later HI.out).mono ?_; rintro e w' ⟨rfl, y, rfl⟩) | (go_at_call 55; refine (HW.out y).mono ?_; rintro e w' ⟨rfl, hR, hB⟩))
      go_ret
      exact ⟨rfl, HX.out y, y.below.mono (Nat.le_of_lt hlt)⟩

def secondV (s : ByteArray) (x : Rd) : Bool × Rd := if isB s (x.i + 1) 10 = true then (true, x) else (false, wrongV x 6 (x.i + 1))
theorem second_any (o p q : Nat) (n : Int) (l : Lim) (s : ByteArray) (x : Rd) (w : World) (h : RdIn w o p q n l s x) (hs : s.size ≤ 1000000) (hx : x.i ≤ s.size) :
    Calls Tryd.prog 44 #[.pointer (some ⟨o, 0, none⟩)] w (fun e w' => e = .returned (.bool (secondV s x).1) ∧ RdIn w' o p q n l s (secondV s x).2 ∧ Below o w w') := by
  have hcell := fun (W : World) (x : Later W) => x.cell
  obtain ⟨vc, vr, ve, vs, h1⟩ := h
  have q7 : w.cell? ⟨o, 7, none⟩ = some (.string s) := h1.cell 7
  have q8 : w.cell? ⟨o, 8, none⟩ = some (.int .i64 x.i) := h1.cell 8
  have hlt := h1.lt
  have HX := Lib.hid (show ∀ y : Later w, RdIn y.w o p q n l s x from fun y => RdIn.below ⟨vc, vr, ve, vs, h1⟩ y.below)
  have HW := Lib.hid (fun y : Later w => wrong_any o p q n l s x 6 (x.i + 1) y.w (HX.out y))
  have hw : wrap64 ((x.i : Int) + 1) = x.i + 1 := by unfold wrap64; omega
  clear h1
  unfold secondV isB
  by_cases c1 : x.i + 1 < s.size
  · have e1 : decide ((s.size : Int) ≤ (x.i : Int) + 1) = false := decide_eq_false (by omega)
    have i0 : (0 : Int) ≤ (x.i : Int) + 1 := by omega
    have i1 : (x.i : Int) + 1 < (s.size : Int) := by omega
    have i2 : ((x.i : Int) + 1).toNat = x.i + 1 := by omega
    have b1 := byt_eq s (x.i + 1) c1
    by_cases hb : byt s (x.i + 1) = 10
    · have d1 : (byt s (x.i + 1) != 10) = false := by simp [hb]
      have d2 : decide (byt s (x.i + 1) = 10) = true := decide_eq_true hb
      rw [if_pos (by simp [c1, hb])]
      go_enter Tryd.func44, Tryd.ntmps44
      go_wp2_with fail
      refine wp_region_later_lit (by kernel_rfl) (by kernel_rfl) ?_
      repeat (go_big_quiet_step (fail))
      refine wpQuiet_nil ?_
      rintro w' ⟨y, rfl⟩
      go_wp2_with (go_at_call 55; refine (HW.out y).mono ?_; rintro e w' ⟨rfl, hR, hB⟩)
      go_ret
      exact ⟨rfl, HX.out y, y.below.mono (Nat.le_of_lt hlt)⟩
    · have d1 : (byt s (x.i + 1) != 10) = true := by simp [hb]
      have d2 : decide (byt s (x.i + 1) = 10) = false := decide_eq_false hb
      rw [if_neg (by simp [hb])]
      go_enter Tryd.func44, Tryd.ntmps44
      go_wp2_with fail
      refine wp_region_later_lit (by kernel_rfl) (by kernel_rfl) ?_
      repeat (go_big_quiet_step (fail))
      refine wpQuiet_nil ?_
      rintro w' ⟨y, rfl⟩
      go_wp2_with (go_at_call 55; refine (HW.out y).mono ?_; rintro e w' ⟨rfl, hR, hB⟩)
      go_ret
      exact ⟨rfl, hR, (y.below.mono (Nat.le_of_lt hlt)).trans hB⟩
  · have e1 : decide ((s.size : Int) ≤ (x.i : Int) + 1) = true := decide_eq_true (by omega)
    rw [if_neg (by simp; omega)]
    go_enter Tryd.func44, Tryd.ntmps44
    go_wp2_with fail
    refine wp_region_later_lit (by kernel_rfl) (by kernel_rfl) ?_
    repeat (go_big_quiet_step (fail))
    refine wpQuiet_nil ?_
    rintro w' ⟨y, rfl⟩
    go_wp2_with (go_at_call 55; refine (HW.out y).mono ?_; rintro e w' ⟨rfl, hR, hB⟩)
    go_ret
    exact ⟨rfl, hR, (y.below.mono (Nat.le_of_lt hlt)).trans hB⟩

def addR (l : Lim) (s f : ByteArray) (a : Nat) (x : Rd) : ByteArray × Bool × Rd := if (f.size : Int) = l.fs then (f, false, wrongV x 7 a) else (f ++ s.extract a (a + 1), true, x)
theorem addR_any (o p q : Nat) (n : Int) (l : Lim) (s f : ByteArray) (a : Nat) (x : Rd) (w : World) (h : RdIn w o p q n l s x) (hs : s.size ≤ 1000000) (hf : f.size ≤ 1000000) (ha : a < s.size) :
    Calls Tryd.prog 69 #[.pointer (some ⟨o, 0, none⟩), .string f, .int .i64 a] w (fun e w' => e = .returned (.tuple #[.string (addR l s f a x).1, .bool (addR l s f a x).2.1]) ∧ RdIn w' o p q n l s (addR l s f a x).2.2 ∧ Below o w w') := by
  have hcell := fun (W : World) (x : Later W) => x.cell
  obtain ⟨vc, vr, ve, vs, h1⟩ := h
  have q3 : w.cell? ⟨o, 3, none⟩ = some (.int .i64 l.fs) := h1.cell 3
  have q7 : w.cell? ⟨o, 7, none⟩ = some (.string s) := h1.cell 7
  have hlt := h1.lt
  have HX := Lib.hid (show ∀ y : Later w, RdIn y.w o p q n l s x from fun y => RdIn.below ⟨vc, vr, ve, vs, h1⟩ y.below)
  have HW := Lib.hid (fun W (hW : Below w.heap.size w W) => wrong_any o p q n l s x 7 a W (RdIn.below ⟨vc, vr, ve, vs, h1⟩ hW))
  have H := Lib.hid h1
  have hw : wrap64 ((a : Int) + 1) = a + 1 := by unfold wrap64; omega
  clear h1
  unfold addR
  by_cases c1 : (f.size : Int) = l.fs
  · have d1 : ((f.size : Int) == l.fs) = true := by simp [c1]
    have d2 : decide ((f.size : Int) = l.fs) = true := decide_eq_true c1
    rw [if_pos c1]
    go_enter Tryd.func69, Tryd.ntmps69
    go_wp2_with (go_at_call 55; refine (HW.out _ (Below.refl _ _)).mono ?_; rintro e w' ⟨rfl, hR, hB⟩)
    refine bodyPost_ret (v := .tuple #[.string f, .bool false]) (by simp [results, Tryd.results69, go_sem]) rfl ?_
    exact ⟨rfl, hR, hB⟩
  · have d1 : ((f.size : Int) == l.fs) = false := by simp [c1]
    have d2 : decide ((f.size : Int) = l.fs) = false := decide_eq_false c1
    rw [if_neg c1]
    go_enter Tryd.func69, Tryd.ntmps69
    go_wp2_with fail
    refine bodyPost_ret (v := .tuple #[.string (f ++ s.extract a (a + 1)), .bool true]) (by simp [results, Tryd.results69, go_sem]) rfl ?_
    exact ⟨rfl, ⟨vc, vr, ve, vs, H.out⟩, Below.refl _ _⟩

def headN (x : Rd) : Nat := (x.rs.head?.getD []).length
def widthB (l : Lim) (x : Rd) : Bool := l.un && decide (0 < x.rs.length) && decide (x.rc.length ≠ headN x)
def widthV (l : Lim) (a : Nat) (x : Rd) : Bool × Rd := if widthB l x = true then (false, wrongV x 10 a) else (true, x)
theorem RdB.rec_len {w : World} {o p q : Nat} {n : Int} {l : Lim} {s : ByteArray} {x : Rd} {vc vr ve : Value} {vs : List Value} (h : RdB w o p q n l s x vc vr ve vs) : ∃ A cap, vc = .slice A x.rc.length cap ∧ x.rc.length ≤ cap ∧ cap ≤ 9223372036854775807 := owns_len h.2.1
theorem RdB.tab_len {w : World} {o p q : Nat} {n : Int} {l : Lim} {s : ByteArray} {x : Rd} {vc vr ve : Value} {vs : List Value} (h : RdB w o p q n l s x vc vr ve vs) : ∃ A cap, vr = .slice A x.rs.length cap ∧ x.rs.length ≤ cap ∧ cap ≤ 9223372036854775807 := owns_len h.2.2.1
/-- The first whole record's slice. -/
theorem RdB.first {w : World} {o p q cap : Nat} {n : Int} {l : Lim} {s : ByteArray} {x : Rd} {vc ve : Value} {vs : List Value} {A : Option Addr} (h : RdB w o p q n l s x vc (.slice A x.rs.length cap) ve vs) (h0 : 0 < x.rs.length) :
    ∃ g B c, A = some ⟨g, 0, none⟩ ∧ g < w.heap.size ∧ w.cell? ⟨g, 0, none⟩ = some (.slice B (headN x) c) ∧ headN x ≤ c ∧ c ≤ 9223372036854775807 := by
  obtain ⟨_, _, h3, _, h5, _⟩ := h
  rcases owns_cases h3 with ⟨_, hz⟩ | ⟨g, cap', he, h4, h6, h7, h8⟩
  · omega
  · injection he with he1 he2 he3
    subst he1
    have hl : vs.length = x.rs.length * 1 := h3.1
    have hv : vs[0]? = some (vs[0]'(by omega)) := List.getElem?_eq_getElem (by omega)
    obtain ⟨L, hL⟩ : ∃ L, x.rs[0]? = some L := ⟨_, List.getElem?_eq_getElem h0⟩
    have ho := h5 0 _ L hv hL
    obtain ⟨B, c, hB, hc1, hc2⟩ := owns_len ho
    have hh : headN x = L.length := by unfold headN; rw [List.head?_eq_getElem?, hL]; rfl
    refine ⟨g, B, c, rfl, h6, ?_, by omega, hc2⟩
    rw [h3.cellAt 0 (by omega), hv, hB, hh]

set_option maxHeartbeats 2000000 in
theorem width_any (o p q : Nat) (n : Int) (l : Lim) (s : ByteArray) (a : Nat) (x : Rd) (w : World) (h : RdIn w o p q n l s x) :
    Calls Tryd.prog 58 #[.pointer (some ⟨o, 0, none⟩), .int .i64 a] w (fun e w' => e = .returned (.bool (widthV l a x).1) ∧ RdIn w' o p q n l s (widthV l a x).2 ∧ Below o w w') := by
  have hcell := fun (W : World) (x : Later W) => x.cell
  obtain ⟨vc, vr, ve, vs, h1⟩ := h
  obtain ⟨Ac, cc, rfl, hc1, hc2⟩ := h1.rec_len
  obtain ⟨Ar, cr, rfl, hr1, hr2⟩ := h1.tab_len
  have q6 : w.cell? ⟨o, 6, none⟩ = some (.int .i64 (n01 l.un)) := h1.cell 6
  have q10 : w.cell? ⟨o, 10, none⟩ = some (.slice Ac x.rc.length cc) := h1.cell 10
  have q11 : w.cell? ⟨o, 11, none⟩ = some (.slice Ar x.rs.length cr) := h1.cell 11
  have hlt := h1.lt
  have H1 := Lib.hid h1
  have HX := Lib.hid (show ∀ y : Later w, RdIn y.w o p q n l s x from fun y => RdIn.below ⟨_, _, ve, vs, h1⟩ y.below)
  have HW := Lib.hid (fun y : Later w => wrong_any o p q n l s x 10 a y.w (HX.out y))
  clear h1
  unfold widthV widthB
  cases hu : l.un
  · rw [hu] at q6
    have q6' : w.cell? ⟨o, 6, none⟩ = some (.int .i64 0) := q6
    simp only [Bool.false_and, Bool.false_eq_true, if_false]
    clear q6
    go_enter Tryd.func58, Tryd.ntmps58
    go_wp2_with fail
    refine wp_region_later_lit (by kernel_rfl) (by kernel_rfl) ?_
    repeat (go_big_quiet_step (fail))
    refine wpQuiet_nil ?_
    rintro w' ⟨y, rfl⟩
    go_wp2_with (go_at_call 55; refine (HW.out y).mono ?_; rintro e w' ⟨rfl, hR, hB⟩)
    go_ret
    exact ⟨rfl, HX.out y, y.below.mono (Nat.le_of_lt hlt)⟩
  · rw [hu] at q6
    have q6' : w.cell? ⟨o, 6, none⟩ = some (.int .i64 1) := q6
    clear q6
    by_cases c0 : 0 < x.rs.length
    · obtain ⟨g, B, cb, rfl, hg, hcg, hb1, hb2⟩ := H1.out.first c0
      have k0 : decide ((0 : Int) < (x.rs.length : Int)) = true := decide_eq_true (by omega)
      have i0 : (0 : Int) < (x.rs.length : Int) := by omega
      by_cases c1 : x.rc.length = headN x
      · have k1 : ((x.rc.length : Int) != (headN x : Int)) = false := by simp; omega
        have k2 : decide ((x.rc.length : Int) = (headN x : Int)) = true := decide_eq_true (by omega)
        rw [if_neg (by simp [c1])]
        go_enter Tryd.func58, Tryd.ntmps58
        go_wp2_with fail
        refine wp_region_later_lit (by kernel_rfl) (by kernel_rfl) ?_
        repeat (go_big_quiet_step (fail))
        refine wpQuiet_nil ?_
        rintro w' ⟨y, rfl⟩
        go_wp2_with (go_at_call 55; refine (HW.out y).mono ?_; rintro e w' ⟨rfl, hR, hB⟩)
        go_ret
        exact ⟨rfl, HX.out y, y.below.mono (Nat.le_of_lt hlt)⟩
      · have k1 : ((x.rc.length : Int) != (headN x : Int)) = true := by simp; omega
        have k2 : decide ((x.rc.length : Int) = (headN x : Int)) = false := decide_eq_false (by omega)
        rw [if_pos (by simp [c0, c1])]
        go_enter Tryd.func58, Tryd.ntmps58
        go_wp2_with fail
        refine wp_region_later_lit (by kernel_rfl) (by kernel_rfl) ?_
        repeat (go_big_quiet_step (fail))
        refine wpQuiet_nil ?_
        rintro w' ⟨y, rfl⟩
        go_wp2_with (go_at_call 55; refine (HW.out y).mono ?_; rintro e w' ⟨rfl, hR, hB⟩)
        go_ret
        exact ⟨rfl, hR, (y.below.mono (Nat.le_of_lt hlt)).trans hB⟩
    · have k0 : decide ((0 : Int) < (x.rs.length : Int)) = false := decide_eq_false (by omega)
      rw [if_neg (by simp [c0])]
      go_enter Tryd.func58, Tryd.ntmps58
      go_wp2_with fail
      refine wp_region_later_lit (by kernel_rfl) (by kernel_rfl) ?_
      repeat (go_big_quiet_step (fail))
      refine wpQuiet_nil ?_
      rintro w' ⟨y, rfl⟩
      go_wp2_with (go_at_call 55; refine (HW.out y).mono ?_; rintro e w' ⟨rfl, hR, hB⟩)
      go_ret
      exact ⟨rfl, HX.out y, y.below.mono (Nat.le_of_lt hlt)⟩

end Go.Proofs.YtajedohgcepkiaaDoor
