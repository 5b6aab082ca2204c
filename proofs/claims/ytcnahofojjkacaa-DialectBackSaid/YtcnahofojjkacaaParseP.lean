/-
  Walks: the dialect of a text, and what the text then is.
-/
import Derived.Test.YtcnahofojjkacaaRows
import Derived.Test.YtcnahofojjkacaaParseW
namespace Go.Proofs.Ytcnahofojjkacaa
open Go.RowKit

def cutA (s : ByteArray) : ByteArray := if blank s < 0 then s else s.extract 0 (blank s).toNat
def cutR (s : ByteArray) : ByteArray := if blank s < 0 then ⟨#[]⟩ else s.extract ((blank s).toNat + 1) s.size
def cutF (s : ByteArray) : Bool := !decide (blank s < 0)

theorem indexByte_lt (l : List UInt8) (c : UInt8) : Lib.indexByte l c < l.length ∨ Lib.indexByte l c = -1 := by
  induction l with
  | nil => right; rfl
  | cons b l ih =>
    unfold Lib.indexByte
    split
    · left; simp only [List.length_cons]; omega
    · split
      · right; rfl
      · left
        rename_i h
        rcases ih with h1 | h1
        · simp only [List.length_cons]; omega
        · rw [h1] at h; simp at h

theorem blank_lt (s : ByteArray) : blank s < s.size := by
  have hsz : s.data.toList.length = s.size := by simp
  rcases indexByte_lt s.data.toList 32 with h | h
  · unfold blank; omega
  · unfold blank; rw [h]; omega

theorem cut_any (s : ByteArray) (w : World) (hs : s.size ≤ maxLen) :
    Calls Try.prog 25 #[.string s, .string ⟨#[32]⟩] w (Gives (.tuple #[.string (cutA s), .string (cutR s), .bool (cutF s)]) w) := by
  by_cases h : blank s < 0
  · have e1 : cutA s = s := by unfold cutA; rw [if_pos h]
    have e2 : cutR s = ⟨#[]⟩ := by unfold cutR; rw [if_pos h]
    have e3 : cutF s = false := by unfold cutF; simp [h]
    rw [e1, e2, e3]
    exact stCut_no s w h
  · have e1 : cutA s = s.extract 0 (blank s).toNat := by unfold cutA; rw [if_neg h]
    have e2 : cutR s = s.extract ((blank s).toNat + 1) s.size := by unfold cutR; rw [if_neg h]
    have e3 : cutF s = true := by unfold cutF; simp [h]
    rw [e1, e2, e3]
    have hb := blank_lt s
    exact stCut_yes s _ w hs (by omega) (by omega)

theorem cutR_size (s : ByteArray) : (cutR s).size ≤ s.size := by
  unfold cutR
  split
  · exact Nat.zero_le _
  · rw [ByteArray.size_extract]; omega

/-- Two digits. -/
def hexB (s : ByteArray) : Bool := if h : s.size = 2 then decide (0 ≤ hexV (s[0]'(by omega)) ∧ 0 ≤ hexV (s[1]'(by omega))) else false
def hexN (s : ByteArray) : Int := if h : s.size = 2 then (if 0 ≤ hexV (s[0]'(by omega)) ∧ 0 ≤ hexV (s[1]'(by omega)) then hexV (s[0]'(by omega)) * 16 + hexV (s[1]'(by omega)) else 0) else 0

theorem hexByte_any (s : ByteArray) (w : World) : Calls Try.prog 26 #[.string s] w (Gives (.tuple #[.int .u8 (hexN s), .bool (hexB s)]) w) := by
  by_cases h : s.size = 2
  · by_cases hh : 0 ≤ hexV (s[0]'(by omega)) ∧ 0 ≤ hexV (s[1]'(by omega))
    · have e1 : hexN s = hexV (s[0]'(by omega)) * 16 + hexV (s[1]'(by omega)) := by unfold hexN; rw [dif_pos h, if_pos hh]
      have e2 : hexB s = true := by unfold hexB; rw [dif_pos h]; exact decide_eq_true hh
      rw [e1, e2]
      exact hexByte_yes s w (by omega) (by omega) (by omega) hh.1 hh.2
    · have e1 : hexN s = 0 := by unfold hexN; rw [dif_pos h, if_neg hh]
      have e2 : hexB s = false := by unfold hexB; rw [dif_pos h]; simp only [decide_eq_false hh]
      rw [e1, e2]
      exact hexByte_no s w (by omega) (by omega) (by omega) (by omega)
  · have e1 : hexN s = 0 := by unfold hexN; rw [dif_neg h]
    have e2 : hexB s = false := by unfold hexB; rw [dif_neg h]
    rw [e1, e2]
    exact hexByte_len s w h

theorem endOf_yes (s : ByteArray) (w : World) (n : Int) (h : wordE s = n) (hn : n ≠ 0) : Calls Try.prog 27 #[.string s] w (Gives (.tuple #[.int .i64 n, .bool true]) w) := by
  have h1 := endOf_any s w
  rw [h] at h1
  have e : (n != 0) = true := by simpa using hn
  rw [e] at h1
  exact h1
theorem endOf_no (s : ByteArray) (w : World) (h : wordE s = 0) : Calls Try.prog 27 #[.string s] w (Gives (.tuple #[.int .i64 0, .bool false]) w) := by
  have h1 := endOf_any s w
  rw [h] at h1
  exact h1
theorem hexByte_t (s : ByteArray) (w : World) (h : hexB s = true) : Calls Try.prog 26 #[.string s] w (Gives (.tuple #[.int .u8 (hexN s), .bool true]) w) := h ▸ hexByte_any s w
theorem hexByte_f (s : ByteArray) (w : World) (h : hexB s = false) : Calls Try.prog 26 #[.string s] w (Gives (.tuple #[.int .u8 (hexN s), .bool false]) w) := h ▸ hexByte_any s w

/-- Is it a dialect's text? -/
def formB (s : ByteArray) : Bool := hexB (cutA s) && (hexB (cutA (cutR s)) && wordE (cutR (cutR s)) != 0)

theorem parse_no (s : ByteArray) (w : World) (hs : s.size ≤ maxLen) (h : formB s = false) :
    Calls Try.prog 19 #[.string s] w (Gives (.tuple #[.agg #[.int .u8 0, .int .u8 0, .int .i64 0], .int .i64 23]) w) := by
  apply Gives.of
  have hc1 := Lib.hid (fun W => cut_any s W hs)
  have hc2 := Lib.hid (fun W => cut_any (cutR s) W (Nat.le_trans (cutR_size s) hs))
  have hcell := fun (W : World) (x : Later W) => x.cell
  have hfrozen := fun (W : World) (x : Later W) => x.frozen
  have hset := set_same
  clear hs
  cases h1 : hexB (cutA s)
  · clear h
    go_enter Try.func19, Try.ntmps19
    go_wp2_with (first | (go_at_call 25; (first | (with_reducible refine (later_call _ (hc1.out _)).mono ?_) | (with_reducible refine (call_later (hc1.out _)).mono ?_)); rintro e w' ⟨rfl, x, rfl⟩) | (go_at_call 25; (first | (with_reducible refine (later_call _ (hc2.out _)).mono ?_) | (with_reducible refine (call_later (hc2.out _)).mono ?_)); rintro e w' ⟨rfl, x, rfl⟩) | (go_at_call 26; (first | (with_reducible refine (later_call _ (hexByte_f _ _ h1)).mono ?_) | (with_reducible refine (call_later (hexByte_f _ _ h1)).mono ?_)); rintro e w' ⟨rfl, x, rfl⟩) | (go_at_call 26; (first | (with_reducible refine (later_call _ (hexByte_any _ _)).mono ?_) | (with_reducible refine (call_later (hexByte_any _ _)).mono ?_)); rintro e w' ⟨rfl, x, rfl⟩) | (go_at_call 27; (first | (with_reducible refine (later_call _ (endOf_any _ _)).mono ?_) | (with_reducible refine (call_later (endOf_any _ _)).mono ?_)); rintro e w' ⟨rfl, x, rfl⟩))
    refine bodyPost_ret (v := .tuple #[.agg #[.int .u8 0, .int .u8 0, .int .i64 0], .int .i64 23]) (by simp [results, Try.results19, go_sem, hcell, hset]) rfl ⟨rfl, ?_⟩
    (repeat (first | (with_reducible exact Below.refl _ _) | (with_reducible refine later_below _ ?_) | (with_reducible refine alloc_below ?_ _) | (with_reducible refine Below.drew ?_) | (refine Below.setCell ?_ (by first | exact Nat.le_refl _ | (simp; done) | (simp; omega) | omega) _)))
  · cases h2 : hexB (cutA (cutR s))
    · clear h
      go_enter Try.func19, Try.ntmps19
      go_wp2_with (first | (go_at_call 25; (first | (with_reducible refine (later_call _ (hc1.out _)).mono ?_) | (with_reducible refine (call_later (hc1.out _)).mono ?_)); rintro e w' ⟨rfl, x, rfl⟩) | (go_at_call 25; (first | (with_reducible refine (later_call _ (hc2.out _)).mono ?_) | (with_reducible refine (call_later (hc2.out _)).mono ?_)); rintro e w' ⟨rfl, x, rfl⟩) | (go_at_call 26; (first | (with_reducible refine (later_call _ (hexByte_t _ _ h1)).mono ?_) | (with_reducible refine (call_later (hexByte_t _ _ h1)).mono ?_)); rintro e w' ⟨rfl, x, rfl⟩) | (go_at_call 26; (first | (with_reducible refine (later_call _ (hexByte_f _ _ h2)).mono ?_) | (with_reducible refine (call_later (hexByte_f _ _ h2)).mono ?_)); rintro e w' ⟨rfl, x, rfl⟩) | (go_at_call 27; (first | (with_reducible refine (later_call _ (endOf_any _ _)).mono ?_) | (with_reducible refine (call_later (endOf_any _ _)).mono ?_)); rintro e w' ⟨rfl, x, rfl⟩))
      refine bodyPost_ret (v := .tuple #[.agg #[.int .u8 0, .int .u8 0, .int .i64 0], .int .i64 23]) (by simp [results, Try.results19, go_sem, hcell, hset]) rfl ⟨rfl, ?_⟩
      (repeat (first | (with_reducible exact Below.refl _ _) | (with_reducible refine later_below _ ?_) | (with_reducible refine alloc_below ?_ _) | (with_reducible refine Below.drew ?_) | (refine Below.setCell ?_ (by first | exact Nat.le_refl _ | (simp; done) | (simp; omega) | omega) _)))
    · have h3 : wordE (cutR (cutR s)) = 0 := by
        unfold formB at h
        rw [h1, h2] at h
        simpa using h
      have H3 := Lib.hid h3
      clear h h3
      go_enter Try.func19, Try.ntmps19
      go_wp2_with (first | (go_at_call 25; (first | (with_reducible refine (later_call _ (hc1.out _)).mono ?_) | (with_reducible refine (call_later (hc1.out _)).mono ?_)); rintro e w' ⟨rfl, x, rfl⟩) | (go_at_call 25; (first | (with_reducible refine (later_call _ (hc2.out _)).mono ?_) | (with_reducible refine (call_later (hc2.out _)).mono ?_)); rintro e w' ⟨rfl, x, rfl⟩) | (go_at_call 26; (first | (with_reducible refine (later_call _ (hexByte_t _ _ h1)).mono ?_) | (with_reducible refine (call_later (hexByte_t _ _ h1)).mono ?_)); rintro e w' ⟨rfl, x, rfl⟩) | (go_at_call 26; (first | (with_reducible refine (later_call _ (hexByte_t _ _ h2)).mono ?_) | (with_reducible refine (call_later (hexByte_t _ _ h2)).mono ?_)); rintro e w' ⟨rfl, x, rfl⟩) | (go_at_call 27; (first | (with_reducible refine (later_call _ (endOf_no _ _ H3.out)).mono ?_) | (with_reducible refine (call_later (endOf_no _ _ H3.out)).mono ?_)); rintro e w' ⟨rfl, x, rfl⟩))
      refine bodyPost_ret (v := .tuple #[.agg #[.int .u8 0, .int .u8 0, .int .i64 0], .int .i64 23]) (by simp [results, Try.results19, go_sem, hcell, hset]) rfl ⟨rfl, ?_⟩
      (repeat (first | (with_reducible exact Below.refl _ _) | (with_reducible refine later_below _ ?_) | (with_reducible refine alloc_below ?_ _) | (with_reducible refine Below.drew ?_) | (refine Below.setCell ?_ (by first | exact Nat.le_refl _ | (simp; done) | (simp; omega) | omega) _)))

/-- A text in three parts. -/
structure Parts (s : ByteArray) (p q : Nat) (n : Int) : Prop where
  h1 : hexB (cutA s) = true
  h2 : hexB (cutA (cutR s)) = true
  e1 : hexN (cutA s) = p
  e2 : hexN (cutA (cutR s)) = q
  e3 : wordE (cutR (cutR s)) = n
  ne : n ≠ 0

theorem hexByte_p (s : ByteArray) (w : World) (p : Nat) (h : hexB s = true) (e : hexN s = p) : Calls Try.prog 26 #[.string s] w (Gives (.tuple #[.int .u8 p, .bool true]) w) := e ▸ hexByte_t s w h

theorem parse_bad (s : ByteArray) (p q : Nat) (n : Int) (w : World) (hs : s.size ≤ maxLen) (h : Parts s p q n) (hk : okB p q n = false) :
    Calls Try.prog 19 #[.string s] w (Gives (.tuple #[.agg #[.int .u8 0, .int .u8 0, .int .i64 0], .int .i64 1]) w) := by
  apply Gives.of
  have hc1 := Lib.hid (fun W => cut_any s W hs)
  have hc2 := Lib.hid (fun W => cut_any (cutR s) W (Nat.le_trans (cutR_size s) hs))
  have hd1 := Lib.hid (fun W => hexByte_p (cutA s) W p h.h1 h.e1)
  have hd2 := Lib.hid (fun W => hexByte_p (cutA (cutR s)) W q h.h2 h.e2)
  have hd3 := Lib.hid (fun W => endOf_yes (cutR (cutR s)) W n h.e3 h.ne)
  have hcell := fun (W : World) (x : Later W) => x.cell
  have hfrozen := fun (W : World) (x : Later W) => x.frozen
  have hset := set_same
  clear hs
  go_enter Try.func19, Try.ntmps19
  go_wp2_with (first | (go_at_call 25; (first | (with_reducible refine (later_call _ (hc1.out _)).mono ?_) | (with_reducible refine (call_later (hc1.out _)).mono ?_)); rintro e w' ⟨rfl, x, rfl⟩) | (go_at_call 25; (first | (with_reducible refine (later_call _ (hc2.out _)).mono ?_) | (with_reducible refine (call_later (hc2.out _)).mono ?_)); rintro e w' ⟨rfl, x, rfl⟩) | (go_at_call 26; (first | (with_reducible refine (later_call _ (hd1.out _)).mono ?_) | (with_reducible refine (call_later (hd1.out _)).mono ?_)); rintro e w' ⟨rfl, x, rfl⟩) | (go_at_call 26; (first | (with_reducible refine (later_call _ (hd2.out _)).mono ?_) | (with_reducible refine (call_later (hd2.out _)).mono ?_)); rintro e w' ⟨rfl, x, rfl⟩) | ((go_at_call 27; (first | (with_reducible refine (later_call _ (hd3.out _)).mono ?_) | (with_reducible refine (call_later (hd3.out _)).mono ?_)); rintro e w' ⟨rfl, x, rfl⟩); have hz := Later.lt1 x; have hz' : w.heap.size < x.w.heap.size + 1 := Nat.lt_succ_of_lt hz) | (go_at_call 10; (first | (with_reducible refine (later_call _ (check_no _ _ _ _ hk)).mono ?_) | (with_reducible refine (call_later (check_no _ _ _ _ hk)).mono ?_)); rintro e w' ⟨rfl, x, rfl⟩))
  refine bodyPost_ret (v := .tuple #[.agg #[.int .u8 0, .int .u8 0, .int .i64 0], .int .i64 1]) (by simp [results, Try.results19, go_sem, hcell, hset, hz, hz']) rfl ⟨rfl, ?_⟩
  (repeat (first | (with_reducible exact Below.refl _ _) | (with_reducible refine later_below _ ?_) | (with_reducible refine alloc_below ?_ _) | (with_reducible refine Below.drew ?_) | (refine Below.setCell ?_ (by first | exact Nat.le_refl _ | (simp; done) | (simp; omega) | omega) _)))

theorem parse_yes (s : ByteArray) (p q : Nat) (n : Int) (w : World) (hs : s.size ≤ maxLen) (h : Parts s p q n) (hk : okB p q n = true) :
    Calls Try.prog 19 #[.string s] w (Gives (.tuple #[.agg #[.int .u8 p, .int .u8 q, .int .i64 n], .int .i64 0]) w) := by
  apply Gives.of
  have hc1 := Lib.hid (fun W => cut_any s W hs)
  have hc2 := Lib.hid (fun W => cut_any (cutR s) W (Nat.le_trans (cutR_size s) hs))
  have hd1 := Lib.hid (fun W => hexByte_p (cutA s) W p h.h1 h.e1)
  have hd2 := Lib.hid (fun W => hexByte_p (cutA (cutR s)) W q h.h2 h.e2)
  have hd3 := Lib.hid (fun W => endOf_yes (cutR (cutR s)) W n h.e3 h.ne)
  have hcell := fun (W : World) (x : Later W) => x.cell
  have hfrozen := fun (W : World) (x : Later W) => x.frozen
  have hset := set_same
  clear hs
  go_enter Try.func19, Try.ntmps19
  go_wp2_with (first | (go_at_call 25; (first | (with_reducible refine (later_call _ (hc1.out _)).mono ?_) | (with_reducible refine (call_later (hc1.out _)).mono ?_)); rintro e w' ⟨rfl, x, rfl⟩) | (go_at_call 25; (first | (with_reducible refine (later_call _ (hc2.out _)).mono ?_) | (with_reducible refine (call_later (hc2.out _)).mono ?_)); rintro e w' ⟨rfl, x, rfl⟩) | (go_at_call 26; (first | (with_reducible refine (later_call _ (hd1.out _)).mono ?_) | (with_reducible refine (call_later (hd1.out _)).mono ?_)); rintro e w' ⟨rfl, x, rfl⟩) | (go_at_call 26; (first | (with_reducible refine (later_call _ (hd2.out _)).mono ?_) | (with_reducible refine (call_later (hd2.out _)).mono ?_)); rintro e w' ⟨rfl, x, rfl⟩) | ((go_at_call 27; (first | (with_reducible refine (later_call _ (hd3.out _)).mono ?_) | (with_reducible refine (call_later (hd3.out _)).mono ?_)); rintro e w' ⟨rfl, x, rfl⟩); have hz := Later.lt1 x; have hz' : w.heap.size < x.w.heap.size + 1 := Nat.lt_succ_of_lt hz) | (go_at_call 10; (first | (with_reducible refine (later_call _ (check_ok _ _ _ _ hk)).mono ?_) | (with_reducible refine (call_later (check_ok _ _ _ _ hk)).mono ?_)); rintro e w' ⟨rfl, x, rfl⟩))
  refine bodyPost_ret (v := .tuple #[.agg #[.int .u8 p, .int .u8 q, .int .i64 n], .int .i64 0]) (by simp [results, Try.results19, go_sem, hcell, hset, hz, hz']) rfl ⟨rfl, ?_⟩
  (repeat (first | (with_reducible exact Below.refl _ _) | (with_reducible refine later_below _ ?_) | (with_reducible refine alloc_below ?_ _) | (with_reducible refine Below.drew ?_) | (refine Below.setCell ?_ (by first | exact Nat.le_refl _ | (simp; done) | (simp; omega) | omega) _)))

end Go.Proofs.Ytcnahofojjkacaa
