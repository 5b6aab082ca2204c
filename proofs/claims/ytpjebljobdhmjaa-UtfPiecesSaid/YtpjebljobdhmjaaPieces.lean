/-
  The law UtfPieces returns true for every text and place. Conditions: none.
-/
import Derived.Test.YtpjebljobdhmjaaRows
import Derived.Test.YtpjebljobdhmjaaOpenA
import Derived.Test.YtpjebljobdhmjaaUtfL
namespace Go.Proofs.Ytpjebljobdhmjaa
open Go.ChangeShapes Go.WideShapes Go.ChangeAt Go.RowKit Go.Joins

theorem byt_cut (s : ByteArray) (k j i : Nat) (h : k + i < j) : byt (s.extract k j) i = byt s (k + i) := by rw [byt_extract, if_pos h]

/-- The states of a beginning are the text's. -/
theorem state_front (s : ByteArray) (k : Nat) (hk : k ≤ s.size) (i : Nat) (hi : i ≤ k) : stateAt (s.extract 0 k) i = stateAt s i := by
  induction i with
  | zero => rfl
  | succ i ih =>
    unfold stateAt
    rw [ih (by omega), byt_cut s 0 k i (by omega), Nat.zero_add, if_pos (by rw [ByteArray.size_extract]; omega), if_pos (by omega)]

theorem state_rest (s : ByteArray) (k : Nat) (hk : k ≤ s.size) (i : Nat) : stFrom (stateAt s k) (s.extract k s.size) i = stateAt s (k + i) := by
  induction i with
  | zero => rfl
  | succ i ih =>
    have e : stateAt s (k + (i + 1)) = if k + i < s.size then stepI (stateAt s (k + i)) (byt s (k + i)) else -1 := rfl
    rw [e]
    unfold stFrom
    rw [ih, ByteArray.size_extract, Nat.min_self]
    by_cases h : k + i < s.size
    · rw [if_pos (by omega), if_pos h, byt_cut s k s.size i h]
    · rw [if_neg (by omega), if_neg h]

theorem goes_front (s : ByteArray) (k : Nat) (hk : k ≤ s.size) : goesN (s.extract 0 k) = if goesN s < k then goesN s else k := by
  have hg := goesN_is s
  have hsz : (s.extract 0 k).size = k := by rw [ByteArray.size_extract]; omega
  refine goes_unique _ _ _ (goesN_is _) ?_
  unfold Goes
  rw [hsz]
  split
  · rename_i h
    refine ⟨by omega, ?_, ?_⟩
    · rw [state_front s k hk _ (by omega)]; exact hg.2.1
    · rw [state_front s k hk _ (by omega)]; exact hg.2.2
  · rename_i h
    refine ⟨by omega, ?_, stateAt_end _ _ (by omega)⟩
    rw [state_front s k hk _ (by omega)]
    intro hc
    exact hg.2.1 (stateAt_fail s k (goesN s) hc (by omega))

/-- The rest of a text, behind what went on: the state and the bytes are the text's. -/
theorem rest_any (s : ByteArray) (k : Nat) (w : World) (hs : s.size ≤ maxLen) (hk : k ≤ goesN s) : Calls Try.prog 17 #[.int .i64 (stateAt s k), .string (s.extract k s.size)] w
    (fun e w' => e = .returned (.tuple #[.int .i64 (stateAt s (goesN s)), .int .i64 ((goesN s : Int) - (k : Int))]) ∧ w = w') := by
  have hg := goesN_is s
  have hr := stateAt_range s k
  have hn : stateAt s k ≠ -1 := fun hc => hg.2.1 (stateAt_fail s k (goesN s) hc hk)
  refine (run_any (stateAt s k) _ w (by rw [ByteArray.size_extract]; omega) (by omega)).mono ?_
  rintro e w' ⟨t, n, ⟨h1, h2, h3, h4, _⟩, rfl, rfl⟩
  rw [state_rest s k (by have := hg.1; omega)] at h2 h4
  rw [ByteArray.size_extract, Nat.min_self] at h1
  have hn' : k + n = goesN s := goes_unique s _ _ ⟨by have := hg.1; omega, by rw [h2]; exact h3, h4⟩ hg
  refine ⟨?_, rfl⟩
  rw [← h2, hn', show (n : Int) = (goesN s : Int) - (k : Int) by omega]

theorem pieces_long (s : ByteArray) (a : Nat) (w : World) (h : 200 < s.size) : Calls Try.prog 5 #[.string s, .int .u8 a] w (Gives (.bool true) w) := by
  apply Gives.of
  go_enter Try.func5, Try.ntmps5
  go_wp2_with (go_at_call 10; (first | (with_reducible refine (later_call _ (awake_any _)).mono ?_) | (with_reducible refine (call_later (awake_any _)).mono ?_)); rintro e w' ⟨rfl, x, rfl⟩)
  go_ret
  refine ⟨rfl, ?_⟩
  (repeat (first | (with_reducible exact Below.refl _ _) | (with_reducible refine later_below _ ?_) | (with_reducible refine alloc_below ?_ _) | (with_reducible refine Below.drew ?_) | (refine Below.setCell ?_ (by first | exact Nat.le_refl _ | (simp; done) | (simp; omega) | omega) _)))

theorem pieces_any (s : ByteArray) (a : Nat) (w : World) (ha : a < 256) : Calls Try.prog 5 #[.string s, .int .u8 a] w (Gives (.bool true) w) := by
  by_cases h : 200 < s.size
  · exact pieces_long s a w h
  apply Gives.of
  have h200 : (s.size : Int) ≤ 200 := by omega
  have hcell := fun (W : World) (x : Later W) => x.cell
  obtain ⟨k, hk⟩ : ∃ k : Nat, (a : Int) % ((s.size : Int) + 1) = k := ⟨a % (s.size + 1), by rw [Int.natCast_emod]; rfl⟩
  have hkn : k ≤ s.size := by
    have := Int.emod_lt_of_pos (a : Int) (show (0 : Int) < (s.size : Int) + 1 by omega)
    omega
  have hm : s.size ≤ maxLen := by unfold maxLen; omega
  have HA := Lib.hid (fun W => run0_any s W hm)
  have hf := goes_front s k hkn
  have hsz : (s.extract 0 k).size ≤ maxLen := by rw [ByteArray.size_extract]; omega
  by_cases hlt : goesN s < k
  · rw [if_pos hlt] at hf
    have hst := state_front s k hkn (goesN s) (by omega)
    have HF := Lib.hid (fun W => run0_any (s.extract 0 k) W hsz)
    rw [hf, hst] at HF
    have hltI : (goesN s : Int) < (k : Int) := by omega
    clear hf hst hsz
    go_enter Try.func5, Try.ntmps5
    go_wp2_with (first | (go_at_call 17; ((with_reducible refine (HA.out _).mono ?_)); rintro e w' ⟨rfl, rfl⟩) | (go_at_call 17; ((with_reducible refine (HF.out _).mono ?_)); rintro e w' ⟨rfl, rfl⟩) | (go_at_call 10; (first | (with_reducible refine (later_call _ (awake_any _)).mono ?_) | (with_reducible refine (call_later (awake_any _)).mono ?_)); rintro e w' ⟨rfl, x, rfl⟩))
    go_ret
    refine ⟨rfl, ?_⟩
    (repeat (first | (with_reducible exact Below.refl _ _) | (with_reducible refine later_below _ ?_) | (with_reducible refine alloc_below ?_ _) | (with_reducible refine Below.drew ?_) | (refine Below.setCell ?_ (by first | exact Nat.le_refl _ | (simp; done) | (simp; omega) | omega) _)))
  · rw [if_neg hlt] at hf
    have hst := state_front s k hkn k (by omega)
    have HF := Lib.hid (fun W => run0_any (s.extract 0 k) W hsz)
    rw [hf, hst] at HF
    have HR := Lib.hid (fun W => rest_any s k W hm (by omega))
    have hltI : ¬ (k : Int) < (k : Int) := by omega
    have hkg : (k : Int) ≤ (goesN s : Int) := by omega
    have hgs : (goesN s : Int) ≤ (s.size : Int) := by have := (goesN_is s).1; omega
    have hsum : (k : Int) + ((goesN s : Int) - (k : Int)) = (goesN s : Int) := by omega
    clear hf hst hsz
    go_enter Try.func5, Try.ntmps5
    go_wp2_with (first | (go_at_call 17; ((with_reducible refine (HA.out _).mono ?_)); rintro e w' ⟨rfl, rfl⟩) | (go_at_call 17; ((with_reducible refine (HF.out _).mono ?_)); rintro e w' ⟨rfl, rfl⟩) | (go_at_call 17; ((with_reducible refine (HR.out _).mono ?_)); rintro e w' ⟨rfl, rfl⟩) | (go_at_call 10; (first | (with_reducible refine (later_call _ (awake_any _)).mono ?_) | (with_reducible refine (call_later (awake_any _)).mono ?_)); rintro e w' ⟨rfl, x, rfl⟩))
    go_ret
    refine ⟨rfl, ?_⟩
    (repeat (first | (with_reducible exact Below.refl _ _) | (with_reducible refine later_below _ ?_) | (with_reducible refine alloc_below ?_ _) | (with_reducible refine Below.drew ?_) | (refine Below.setCell ?_ (by first | exact Nat.le_refl _ | (simp; done) | (simp; omega) | omega) _)))

set_option maxRecDepth 100000 in
theorem utfPieces_lifted (os : Os) (started : os.Started) (H : Type) (enc : TypeId × Value → H) :
    ReturnsInHanded {} Try.checked os 5 .any (Rows.utfPiecesSpec.pre6 enc Try.prog Try.f5 Rows.utfPiecesRow.domain false) (Rows.utfPiecesSpec.post enc Try.prog Try.f5 false true false false) := by
  refine law_lift (C := Try.checked) (tb := 4) Try.own Try.laidOut started (by kernel_rfl) Try.func5
    (ChangeSpec.witness6 (enc := enc) (C := Try.checked) false ⟨#[], #[.string ⟨#[]⟩, .int .u8 0], []⟩ 8 (by kernel_rfl) (by kernel_rfl) (by kernel_rfl) (by kernel_rfl))
    rfl Try.underlying4 (by intro t ht; have ht' : t ∈ [9, 5] := ht; simp at ht'; rcases ht' with rfl | rfl <;> exact ⟨by kernel_rfl, of_decide_eq_true (by kernel_rfl)⟩) rfl
    (fun ds h => match ds, h with | [_, _], _ => rfl) ?_
  intro W base args ds ps hh
  obtain ⟨v, v', d, d', p, p', rfl, hv, hv', h0, h0'⟩ := handed_two Try.params5 hh
  obtain ⟨s, rfl, _⟩ := open_text hv h0
  obtain ⟨b, hb, rfl⟩ := open_byte hv' h0'
  exact pieces_any s b W hb

theorem utfPieces_holds : Rows.UtfPiecesSaid :=
  OpenClaim.holds_of_wide 5 Try.f5 rfl rfl rfl rfl rfl rfl rfl ⟨rfl, rfl, rfl, rfl, rfl⟩ rfl rfl rfl rfl rfl (by kernel_rfl) Try.func5 (by kernel_rfl)
    (of_decide_eq_true (by kernel_rfl)) (by unfold Func.isWrapper; first | (rw [if_pos (by decide +kernel)]; kernel_rfl) | (rw [if_neg (by decide +kernel)]; exact ⟨rfl, rfl⟩))
    (fun os started H enc _ => utfPieces_lifted os started H enc)
#print axioms utfPieces_holds

end Go.Proofs.Ytpjebljobdhmjaa
