/-
  A dialect's text as a list of bytes.
-/
import Derived.Test.YtcnahofojjkacaaRows
import Derived.Test.YtcnahofojjkacaaDialT
import Derived.Test.YtcnahofojjkacaaParseP
namespace Go.Proofs.Ytcnahofojjkacaa
open Go.RowKit

theorem bytes_ext {a b : ByteArray} (h : a.data.toList = b.data.toList) : a = b := by
  apply ByteArray.ext
  exact Array.toList_inj.1 h

theorem dialT_list (p q : Nat) (n : Int) : (dialT p q n).data.toList = [hexDigit (p / 16), hexDigit (p % 16), 32, hexDigit (q / 16), hexDigit (q % 16), 32] ++ (endW n).data.toList := by
  unfold dialT hexT
  simp [ByteArray.data_append]

theorem endW_list (n : Int) (h : n = 1 ∨ n = 2 ∨ n = 3) : (endW n).data.toList = (if n = 1 then [108, 102] else if n = 2 then [99, 114, 108, 102] else [101, 105, 116, 104, 101, 114]) := by
  unfold endW
  rcases h with rfl | rfl | rfl <;> rfl

theorem endW_inj (n m : Int) (hn : n = 1 ∨ n = 2 ∨ n = 3) (hm : m = 1 ∨ m = 2 ∨ m = 3) (h : (endW n).data.toList = (endW m).data.toList) : n = m := by
  rw [endW_list n hn, endW_list m hm] at h
  rcases hn with rfl | rfl | rfl <;> rcases hm with rfl | rfl | rfl <;> first | rfl | (simp at h)

theorem hexDigit_inj (a b : Nat) (ha : a < 16) (hb : b < 16) (h : hexDigit a = hexDigit b) : a = b := by
  have h1 := hexV_digit a ha
  have h2 := hexV_digit b hb
  rw [h] at h1
  omega

theorem dialT_inj (p q p' q' : Nat) (n n' : Int) (hp : p < 256) (hq : q < 256) (hp' : p' < 256) (hq' : q' < 256) (hn : n = 1 ∨ n = 2 ∨ n = 3) (hn' : n' = 1 ∨ n' = 2 ∨ n' = 3)
    (h : dialT p q n = dialT p' q' n') : p = p' ∧ q = q' ∧ n = n' := by
  have hl : (dialT p q n).data.toList = (dialT p' q' n').data.toList := by rw [h]
  rw [dialT_list, dialT_list] at hl
  simp only [List.cons_append, List.nil_append, List.cons.injEq, true_and] at hl
  obtain ⟨h1, h2, h3, h4, h5⟩ := hl
  have e1 := hexDigit_inj _ _ (by omega) (by omega) h1
  have e2 := hexDigit_inj _ _ (by omega) (by omega) h2
  have e3 := hexDigit_inj _ _ (by omega) (by omega) h3
  have e4 := hexDigit_inj _ _ (by omega) (by omega) h4
  exact ⟨by omega, by omega, endW_inj _ _ hn hn' h5⟩

theorem dialT_size (p q : Nat) (n : Int) (h : n = 1 ∨ n = 2 ∨ n = 3) : 8 ≤ (dialT p q n).size ∧ (dialT p q n).size ≤ 12 := by
  have e : (dialT p q n).size = (dialT p q n).data.toList.length := by simp
  rw [e, dialT_list, endW_list n h]
  rcases h with rfl | rfl | rfl <;> simp

theorem byte_list (s : ByteArray) (i : Nat) (h : i < s.size) : s.data.toList[i]? = some s[i] := by
  have hl : i < s.data.toList.length := by simpa using h
  rw [List.getElem?_eq_getElem hl]
  rfl

theorem size_list (s : ByteArray) : s.size = s.data.toList.length := by simp

/-- A list of bytes in which no blank stands ahead of one: where it stands. -/
theorem indexByte_two (a b : UInt8) (l : List UInt8) (ha : a ≠ 32) (hb : b ≠ 32) : Lib.indexByte (a :: b :: 32 :: l) 32 = 2 := by
  have e1 : (a == 32) = false := by simpa using ha
  have e2 : (b == 32) = false := by simpa using hb
  simp [Lib.indexByte, ha, hb]

theorem hexDigit_ne (n : Nat) (h : n < 16) : hexDigit n ≠ 32 := by
  have hh : ∀ n : Fin 16, hexDigit n.val ≠ 32 := by decide
  exact hh ⟨n, h⟩

theorem indexByte_spec : ∀ (l : List UInt8) (c : UInt8) (i : Nat), Lib.indexByte l c = i → l = l.take i ++ c :: l.drop (i + 1) ∧ i < l.length
  | [], c, i, h => by
    have : (-1 : Int) = i := h
    omega
  | b :: l, c, i, h => by
    unfold Lib.indexByte at h
    split at h
    · rename_i hb
      have hb' : b = c := by simpa using hb
      have : i = 0 := by omega
      subst this
      simp [hb']
    · split at h
      · omega
      · have h1 : Lib.indexByte l c = ((i - 1 : Nat) : Int) := by
          have := Lib.indexByte_ge l c
          rename_i h2
          have h3 : Lib.indexByte l c ≠ -1 := by simpa using h2
          omega
        obtain ⟨h2, h3⟩ := indexByte_spec l c (i - 1) h1
        have hi : i = (i - 1) + 1 := by
          have := Lib.indexByte_ge l c
          rename_i h4
          have h5 : Lib.indexByte l c ≠ -1 := by simpa using h4
          omega
        rw [hi]
        refine ⟨?_, by simp; omega⟩
        simp only [List.take_succ_cons, List.drop_succ_cons, List.cons_append]
        exact congrArg _ h2

theorem extract_list (s : ByteArray) (i j : Nat) : (s.extract i j).data.toList = (s.data.toList.take j).drop i := by
  rw [ByteArray.data_extract, Array.toList_extract, List.drop_take]

/-- The parts of a text, as lists. -/
theorem cut_list (s : ByteArray) : (blank s < 0 ∧ cutR s = ⟨#[]⟩) ∨ s.data.toList = (cutA s).data.toList ++ 32 :: (cutR s).data.toList := by
  by_cases h : blank s < 0
  · left; exact ⟨h, by unfold cutR; rw [if_pos h]⟩
  · right
    unfold cutA cutR
    rw [if_neg h, if_neg h, extract_list, extract_list]
    have h1 : Lib.indexByte s.data.toList 32 = ((blank s).toNat : Int) := by
      show blank s = _
      omega
    obtain ⟨h2, h3⟩ := indexByte_spec _ _ _ h1
    rw [List.drop_zero, size_list, List.take_length]
    exact h2

theorem hexB_list (s : ByteArray) (h : hexB s = true) : ∃ p : Nat, p < 256 ∧ hexN s = p ∧ s.data.toList = [hexDigit (p / 16), hexDigit (p % 16)] := by
  unfold hexB at h
  split at h
  · rename_i h2
    have hh : 0 ≤ hexV (s[0]'(by omega)) ∧ 0 ≤ hexV (s[1]'(by omega)) := of_decide_eq_true h
    have e1 : hexN s = hexV (s[0]'(by omega)) * 16 + hexV (s[1]'(by omega)) := by unfold hexN; rw [dif_pos h2, if_pos hh]
    rcases hexV_spec (s[0]'(by omega)) with k | ⟨k1, k2, k3⟩
    · omega
    rcases hexV_spec (s[1]'(by omega)) with k | ⟨k4, k5, k6⟩
    · omega
    have b0 := byte_list s 0 (by omega)
    have b1 := byte_list s 1 (by omega)
    have hlen : s.data.toList.length = 2 := by rw [← size_list]; exact h2
    refine ⟨(hexN s).toNat, by omega, by omega, ?_⟩
    have e2 : (hexN s).toNat / 16 = (hexV (s[0]'(by omega))).toNat := by omega
    have e3 : (hexN s).toNat % 16 = (hexV (s[1]'(by omega))).toNat := by omega
    rw [e2, e3, k3, k6]
    match hl : s.data.toList, hlen with
    | [x, y], _ =>
      rw [hl] at b0 b1
      simp at b0 b1
      rw [b0, b1]
  · cases h

theorem wordE_list (s : ByteArray) (h : wordE s ≠ 0) : (wordE s = 1 ∨ wordE s = 2 ∨ wordE s = 3) ∧ s.data.toList = (endW (wordE s)).data.toList := by
  unfold wordE at *
  split
  · rename_i h1; exact ⟨by simp, by rw [h1]; rfl⟩
  · split
    · rename_i h1; exact ⟨by simp, by rw [h1]; rfl⟩
    · split
      · rename_i h1; exact ⟨by simp, by rw [h1]; rfl⟩
      · rename_i a b c
        rw [if_neg a, if_neg b, if_neg c] at h
        exact absurd rfl h

/-- What has the form of a dialect's text is one. -/
theorem form_is (s : ByteArray) (h : formB s = true) : ∃ (p q : Nat) (n : Int), p < 256 ∧ q < 256 ∧ (n = 1 ∨ n = 2 ∨ n = 3) ∧ s = dialT p q n ∧ Parts s p q n := by
  unfold formB at h
  simp only [Bool.and_eq_true, bne_iff_ne, ne_eq] at h
  obtain ⟨h1, h2, h3⟩ := h
  obtain ⟨p, hp, e1, l1⟩ := hexB_list _ h1
  obtain ⟨q, hq, e2, l2⟩ := hexB_list _ h2
  obtain ⟨hn, l3⟩ := wordE_list _ h3
  refine ⟨p, q, wordE (cutR (cutR s)), hp, hq, hn, ?_, ⟨h1, h2, e1, e2, rfl, h3⟩⟩
  apply bytes_ext
  rw [dialT_list]
  rcases cut_list s with ⟨_, hr⟩ | hs
  · rw [hr] at l2
    exfalso
    have : cutA (⟨#[]⟩ : ByteArray) = ⟨#[]⟩ := rfl
    rw [this] at l2
    simp at l2
  · rcases cut_list (cutR s) with ⟨_, hr⟩ | hs2
    · exfalso
      rw [hr] at h3
      exact h3 rfl
    · rw [hs, hs2, l1, l2, l3]
      simp

/-- A dialect's text has its form. -/
theorem is_form (p q : Nat) (n : Int) (hp : p < 256) (hq : q < 256) (hn : n = 1 ∨ n = 2 ∨ n = 3) : formB (dialT p q n) = true := by
  have key : ∀ (s : ByteArray) (a b : Nat) (l : List UInt8), a < 16 → b < 16 → s.data.toList = hexDigit a :: hexDigit b :: 32 :: l →
      (cutA s).data.toList = [hexDigit a, hexDigit b] ∧ (cutR s).data.toList = l := by
    intro s a b l ha hb hs
    have hbl : blank s = 2 := by unfold blank; rw [hs]; exact indexByte_two _ _ _ (hexDigit_ne a ha) (hexDigit_ne b hb)
    unfold cutA cutR
    rw [if_neg (by omega), if_neg (by omega), hbl, extract_list, extract_list, hs]
    refine ⟨rfl, ?_⟩
    rw [size_list, hs]
    simp
  have hex : ∀ (s : ByteArray) (a b : Nat), a < 16 → b < 16 → s.data.toList = [hexDigit a, hexDigit b] → hexB s = true := by
    intro s a b ha hb hs
    have hsz : s.size = 2 := by rw [size_list, hs]; rfl
    have b0 := byte_list s 0 (by omega)
    have b1 := byte_list s 1 (by omega)
    rw [hs] at b0 b1
    simp at b0 b1
    unfold hexB
    rw [dif_pos hsz]
    rw [← b0, ← b1, hexV_digit a ha, hexV_digit b hb]
    exact decide_eq_true ⟨by omega, by omega⟩
  have hl := dialT_list p q n
  obtain ⟨k1, k2⟩ := key (dialT p q n) (p / 16) (p % 16) ([hexDigit (q / 16), hexDigit (q % 16), 32] ++ (endW n).data.toList) (by omega) (by omega) (by rw [hl]; rfl)
  obtain ⟨k3, k4⟩ := key (cutR (dialT p q n)) (q / 16) (q % 16) ((endW n).data.toList) (by omega) (by omega) (by rw [k2]; rfl)
  unfold formB
  rw [hex _ _ _ (by omega) (by omega) k1, hex _ _ _ (by omega) (by omega) k3]
  have hw : wordE (cutR (cutR (dialT p q n))) = n := by
    unfold wordE
    rw [k4, endW_list n hn]
    rcases hn with rfl | rfl | rfl <;> simp
  rw [hw]
  rcases hn with rfl | rfl | rfl <;> rfl

end Go.Proofs.Ytcnahofojjkacaa
