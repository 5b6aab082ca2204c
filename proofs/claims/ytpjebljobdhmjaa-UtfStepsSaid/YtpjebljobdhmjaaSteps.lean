/-
  The law UtfSteps returns true for every state and byte. Conditions: none.
-/
import Derived.Test.YtpjebljobdhmjaaRows
import Derived.Test.YtpjebljobdhmjaaOpenA
import Derived.Test.YtpjebljobdhmjaaUtfC
import Derived.Test.YtpjebljobdhmjaaUtfL
namespace Go.Proofs.Ytpjebljobdhmjaa
open Go.ChangeShapes Go.WideShapes Go.ChangeAt Go.RowKit Go.Joins

theorem beginM_size (n : Int) : (beginM n).size ≤ 1 := by
  unfold beginM
  repeat' split
  all_goals exact (by decide)

theorem oneB_is (n : Nat) (h : n < 256) : ((UInt8.ofNat n).toNat : Int) = n := by
  rw [UInt8.toNat_ofNat']; omega

theorem oneB_size (n : Nat) : (oneB n).size = 1 := rfl

/-- What the document's calls say of one byte behind a state's text. -/
theorem goes1 (st : Int) (b : Nat) (w : World) : Calls Try.prog 9 #[.string (beginM st ++ ⟨#[UInt8.ofNat b]⟩)] w (Gives (.bool (goesF (beginM st ++ oneB b))) w) :=
  goesF_any _ w (by have := beginM_size st; rw [ByteArray.size_append, show (⟨#[UInt8.ofNat b]⟩ : ByteArray).size = 1 from rfl]; unfold maxLen; omega)
theorem state1 (st : Int) (b : Nat) (w : World) : Calls Try.prog 11 #[.string (beginM st ++ ⟨#[UInt8.ofNat b]⟩)] w (Gives (.int .i64 (stateM (beginM st ++ oneB b))) w) :=
  state_any _ w (by have := beginM_size st; rw [ByteArray.size_append, show (⟨#[UInt8.ofNat b]⟩ : ByteArray).size = 1 from rfl]; unfold maxLen; omega)

theorem stepI_123 (st b : Int) (h : 1 ≤ st ∧ st ≤ 3) : stepI st b = if 128 ≤ b ∧ b ≤ 191 then st - 1 else -1 := by
  unfold stepI
  rw [if_neg (by omega), if_pos (by omega)]

set_option maxHeartbeats 2000000 in
theorem steps_any (a b : Nat) (w : World) (ha : a < 256) (hb : b < 256) : Calls Try.prog 3 #[.int .u8 a, .int .u8 b] w (Gives (.bool true) w) := by
  apply Gives.of
  have hcell := fun (W : World) (x : Later W) => x.cell
  obtain ⟨st, hst⟩ : ∃ st : Int, (a : Int) % 8 = st := ⟨_, rfl⟩
  have hst0 : 0 ≤ st := by omega
  have hst7 : st ≤ 7 := by omega
  have hcv := fun W => convert_oneI (P := Try.prog) W 26 9 5 Try.underlying26 Try.underlying5 Try.underlying9 b (UInt8.ofNat b) (oneB_is b hb).symm
  have HB := Lib.hid (fun W => begin_any st W ⟨hst0, by omega⟩)
  have HG := Lib.hid (fun W => goes1 st b W)
  have HT := Lib.hid (fun W => state1 st b W)
  have hbs := beginM_size st
  have hone : (⟨#[UInt8.ofNat b]⟩ : ByteArray).size = 1 := rfl
  by_cases h13 : 1 ≤ st ∧ st ≤ 3
  · have hS := stepI_123 st b h13
    obtain ⟨h1, h3⟩ := h13
    by_cases hbb : 128 ≤ b ∧ b ≤ 191
    · rw [if_pos (by omega)] at hS
      have ho : okI st b = true := by unfold okI; rw [hS, decide_eq_true_eq]; omega
      have hn : nxI st b = st - 1 := by unfold nxI; rw [hS, if_neg (by omega)]
      have HS := Lib.hid (fun W => hn ▸ ho ▸ step_any st b W (by omega) ⟨hst0, hst7⟩)
      have hb1 : (128 : Int) ≤ b := by omega
      have hb2 : (b : Int) ≤ 191 := by omega
      have hd2 : decide ((b : Int) ≤ 191) = true := decide_eq_true hb2
      clear hbb
      clear hS ho hn
      go_enter Try.func3, Try.ntmps3
      go_wp2_with (first | (go_at_call 7; refine (HS.out _).mono ?_; rintro e w' ⟨rfl, rfl⟩) | (go_at_call 8; (first | (with_reducible refine (later_call _ (HB.out _)).mono ?_) | (with_reducible refine (call_later (HB.out _)).mono ?_)); rintro e w' ⟨rfl, x, rfl⟩) | (go_at_call 9; (first | (with_reducible refine (later_call _ (HG.out _)).mono ?_) | (with_reducible refine (call_later (HG.out _)).mono ?_)); rintro e w' ⟨rfl, x, rfl⟩) | (go_at_call 11; (first | (with_reducible refine (later_call _ (HT.out _)).mono ?_) | (with_reducible refine (call_later (HT.out _)).mono ?_)); rintro e w' ⟨rfl, x, rfl⟩) | (go_at_call 10; (first | (with_reducible refine (later_call _ (awake_any _)).mono ?_) | (with_reducible refine (call_later (awake_any _)).mono ?_)); rintro e w' ⟨rfl, x, rfl⟩))
      go_ret
      refine ⟨rfl, ?_⟩
      (repeat (first | (with_reducible exact Below.refl _ _) | (with_reducible refine later_below _ ?_) | (with_reducible refine alloc_below ?_ _) | (with_reducible refine Below.drew ?_) | (refine Below.setCell ?_ (by first | exact Nat.le_refl _ | (simp; done) | (simp; omega) | omega) _)))
    · rw [if_neg (by omega)] at hS
      have ho : okI st b = false := by unfold okI; rw [hS]; rfl
      have hn : nxI st b = 0 := by unfold nxI; rw [hS, if_pos rfl]
      have HS := Lib.hid (fun W => hn ▸ ho ▸ step_any st b W (by omega) ⟨hst0, hst7⟩)
      clear hS ho hn
      by_cases hb1 : (128 : Int) ≤ b
      · have hb2 : ¬ (b : Int) ≤ 191 := by omega
        have hd2 : decide ((b : Int) ≤ 191) = false := decide_eq_false hb2
        clear hbb
        go_enter Try.func3, Try.ntmps3
        go_wp2_with (first | (go_at_call 7; refine (HS.out _).mono ?_; rintro e w' ⟨rfl, rfl⟩) | (go_at_call 8; (first | (with_reducible refine (later_call _ (HB.out _)).mono ?_) | (with_reducible refine (call_later (HB.out _)).mono ?_)); rintro e w' ⟨rfl, x, rfl⟩) | (go_at_call 9; (first | (with_reducible refine (later_call _ (HG.out _)).mono ?_) | (with_reducible refine (call_later (HG.out _)).mono ?_)); rintro e w' ⟨rfl, x, rfl⟩) | (go_at_call 11; (first | (with_reducible refine (later_call _ (HT.out _)).mono ?_) | (with_reducible refine (call_later (HT.out _)).mono ?_)); rintro e w' ⟨rfl, x, rfl⟩) | (go_at_call 10; (first | (with_reducible refine (later_call _ (awake_any _)).mono ?_) | (with_reducible refine (call_later (awake_any _)).mono ?_)); rintro e w' ⟨rfl, x, rfl⟩))
        go_ret
        refine ⟨rfl, ?_⟩
        (repeat (first | (with_reducible exact Below.refl _ _) | (with_reducible refine later_below _ ?_) | (with_reducible refine alloc_below ?_ _) | (with_reducible refine Below.drew ?_) | (refine Below.setCell ?_ (by first | exact Nat.le_refl _ | (simp; done) | (simp; omega) | omega) _)))
      · have hd1 : decide ((128 : Int) ≤ b) = false := decide_eq_false hb1
        clear hbb
        go_enter Try.func3, Try.ntmps3
        go_wp2_with (first | (go_at_call 7; refine (HS.out _).mono ?_; rintro e w' ⟨rfl, rfl⟩) | (go_at_call 8; (first | (with_reducible refine (later_call _ (HB.out _)).mono ?_) | (with_reducible refine (call_later (HB.out _)).mono ?_)); rintro e w' ⟨rfl, x, rfl⟩) | (go_at_call 9; (first | (with_reducible refine (later_call _ (HG.out _)).mono ?_) | (with_reducible refine (call_later (HG.out _)).mono ?_)); rintro e w' ⟨rfl, x, rfl⟩) | (go_at_call 11; (first | (with_reducible refine (later_call _ (HT.out _)).mono ?_) | (with_reducible refine (call_later (HT.out _)).mono ?_)); rintro e w' ⟨rfl, x, rfl⟩) | (go_at_call 10; (first | (with_reducible refine (later_call _ (awake_any _)).mono ?_) | (with_reducible refine (call_later (awake_any _)).mono ?_)); rintro e w' ⟨rfl, x, rfl⟩))
        go_ret
        refine ⟨rfl, ?_⟩
        (repeat (first | (with_reducible exact Below.refl _ _) | (with_reducible refine later_below _ ?_) | (with_reducible refine alloc_below ?_ _) | (with_reducible refine Below.drew ?_) | (refine Below.setCell ?_ (by first | exact Nat.le_refl _ | (simp; done) | (simp; omega) | omega) _)))
  · obtain ⟨hf1, hf2⟩ := steps_fit st b hb (by omega)
    have HF1 := Lib.hid hf1
    have HF2 := Lib.hid hf2
    clear hf1 hf2
    by_cases hf : stepI st b = -1
    · have ho : okI st b = false := by unfold okI; rw [hf]; rfl
      have hn : nxI st b = 0 := by unfold nxI; rw [hf, if_pos rfl]
      have HS := Lib.hid (fun W => hn ▸ ho ▸ step_any st b W (by omega) ⟨hst0, hst7⟩)
      have hg : goesF (beginM st ++ oneB b) = false := by rw [HF1.out, hf]; rfl
      rw [hg] at HG
      clear ho hn hg hf
      by_cases h1 : 1 ≤ st
      · have h3 : ¬ st ≤ 3 := by omega
        clear h13
        go_enter Try.func3, Try.ntmps3
        go_wp2_with (first | (go_at_call 7; refine (HS.out _).mono ?_; rintro e w' ⟨rfl, rfl⟩) | (go_at_call 8; (first | (with_reducible refine (later_call _ (HB.out _)).mono ?_) | (with_reducible refine (call_later (HB.out _)).mono ?_)); rintro e w' ⟨rfl, x, rfl⟩) | (go_at_call 9; (first | (with_reducible refine (later_call _ (HG.out _)).mono ?_) | (with_reducible refine (call_later (HG.out _)).mono ?_)); rintro e w' ⟨rfl, x, rfl⟩) | (go_at_call 11; (first | (with_reducible refine (later_call _ (HT.out _)).mono ?_) | (with_reducible refine (call_later (HT.out _)).mono ?_)); rintro e w' ⟨rfl, x, rfl⟩) | (go_at_call 10; (first | (with_reducible refine (later_call _ (awake_any _)).mono ?_) | (with_reducible refine (call_later (awake_any _)).mono ?_)); rintro e w' ⟨rfl, x, rfl⟩))
        go_ret
        refine ⟨rfl, ?_⟩
        (repeat (first | (with_reducible exact Below.refl _ _) | (with_reducible refine later_below _ ?_) | (with_reducible refine alloc_below ?_ _) | (with_reducible refine Below.drew ?_) | (refine Below.setCell ?_ (by first | exact Nat.le_refl _ | (simp; done) | (simp; omega) | omega) _)))
      · clear h13
        go_enter Try.func3, Try.ntmps3
        go_wp2_with (first | (go_at_call 7; refine (HS.out _).mono ?_; rintro e w' ⟨rfl, rfl⟩) | (go_at_call 8; (first | (with_reducible refine (later_call _ (HB.out _)).mono ?_) | (with_reducible refine (call_later (HB.out _)).mono ?_)); rintro e w' ⟨rfl, x, rfl⟩) | (go_at_call 9; (first | (with_reducible refine (later_call _ (HG.out _)).mono ?_) | (with_reducible refine (call_later (HG.out _)).mono ?_)); rintro e w' ⟨rfl, x, rfl⟩) | (go_at_call 11; (first | (with_reducible refine (later_call _ (HT.out _)).mono ?_) | (with_reducible refine (call_later (HT.out _)).mono ?_)); rintro e w' ⟨rfl, x, rfl⟩) | (go_at_call 10; (first | (with_reducible refine (later_call _ (awake_any _)).mono ?_) | (with_reducible refine (call_later (awake_any _)).mono ?_)); rintro e w' ⟨rfl, x, rfl⟩))
        go_ret
        refine ⟨rfl, ?_⟩
        (repeat (first | (with_reducible exact Below.refl _ _) | (with_reducible refine later_below _ ?_) | (with_reducible refine alloc_below ?_ _) | (with_reducible refine Below.drew ?_) | (refine Below.setCell ?_ (by first | exact Nat.le_refl _ | (simp; done) | (simp; omega) | omega) _)))
    · have ho : okI st b = true := by unfold okI; rw [decide_eq_true_eq]; exact hf
      have hn : nxI st b = stepI st b := by unfold nxI; rw [if_neg hf]
      have HS := Lib.hid (fun W => hn ▸ ho ▸ step_any st b W (by omega) ⟨hst0, hst7⟩)
      have hg : goesF (beginM st ++ oneB b) = true := by rw [HF1.out, decide_eq_true_eq]; exact hf
      have ht : stateM (beginM st ++ oneB b) = stepI st b := HF2.out hf
      rw [hg] at HG
      rw [ht] at HT
      clear ho hn hg hf ht
      by_cases h1 : 1 ≤ st
      · have h3 : ¬ st ≤ 3 := by omega
        clear h13
        go_enter Try.func3, Try.ntmps3
        go_wp2_with (first | (go_at_call 7; refine (HS.out _).mono ?_; rintro e w' ⟨rfl, rfl⟩) | (go_at_call 8; (first | (with_reducible refine (later_call _ (HB.out _)).mono ?_) | (with_reducible refine (call_later (HB.out _)).mono ?_)); rintro e w' ⟨rfl, x, rfl⟩) | (go_at_call 9; (first | (with_reducible refine (later_call _ (HG.out _)).mono ?_) | (with_reducible refine (call_later (HG.out _)).mono ?_)); rintro e w' ⟨rfl, x, rfl⟩) | (go_at_call 11; (first | (with_reducible refine (later_call _ (HT.out _)).mono ?_) | (with_reducible refine (call_later (HT.out _)).mono ?_)); rintro e w' ⟨rfl, x, rfl⟩) | (go_at_call 10; (first | (with_reducible refine (later_call _ (awake_any _)).mono ?_) | (with_reducible refine (call_later (awake_any _)).mono ?_)); rintro e w' ⟨rfl, x, rfl⟩))
        go_ret
        refine ⟨rfl, ?_⟩
        (repeat (first | (with_reducible exact Below.refl _ _) | (with_reducible refine later_below _ ?_) | (with_reducible refine alloc_below ?_ _) | (with_reducible refine Below.drew ?_) | (refine Below.setCell ?_ (by first | exact Nat.le_refl _ | (simp; done) | (simp; omega) | omega) _)))
      · clear h13
        go_enter Try.func3, Try.ntmps3
        go_wp2_with (first | (go_at_call 7; refine (HS.out _).mono ?_; rintro e w' ⟨rfl, rfl⟩) | (go_at_call 8; (first | (with_reducible refine (later_call _ (HB.out _)).mono ?_) | (with_reducible refine (call_later (HB.out _)).mono ?_)); rintro e w' ⟨rfl, x, rfl⟩) | (go_at_call 9; (first | (with_reducible refine (later_call _ (HG.out _)).mono ?_) | (with_reducible refine (call_later (HG.out _)).mono ?_)); rintro e w' ⟨rfl, x, rfl⟩) | (go_at_call 11; (first | (with_reducible refine (later_call _ (HT.out _)).mono ?_) | (with_reducible refine (call_later (HT.out _)).mono ?_)); rintro e w' ⟨rfl, x, rfl⟩) | (go_at_call 10; (first | (with_reducible refine (later_call _ (awake_any _)).mono ?_) | (with_reducible refine (call_later (awake_any _)).mono ?_)); rintro e w' ⟨rfl, x, rfl⟩))
        go_ret
        refine ⟨rfl, ?_⟩
        (repeat (first | (with_reducible exact Below.refl _ _) | (with_reducible refine later_below _ ?_) | (with_reducible refine alloc_below ?_ _) | (with_reducible refine Below.drew ?_) | (refine Below.setCell ?_ (by first | exact Nat.le_refl _ | (simp; done) | (simp; omega) | omega) _)))

set_option maxRecDepth 100000 in
theorem utfSteps_lifted (os : Os) (started : os.Started) (H : Type) (enc : TypeId × Value → H) :
    ReturnsInHanded {} Try.checked os 3 .any (Rows.utfStepsSpec.pre6 enc Try.prog Try.f3 Rows.utfStepsRow.domain false) (Rows.utfStepsSpec.post enc Try.prog Try.f3 false true false false) := by
  refine law_lift (C := Try.checked) (tb := 4) Try.own Try.laidOut started (by kernel_rfl) Try.func3
    (ChangeSpec.witness6 (enc := enc) (C := Try.checked) false ⟨#[], #[.int .u8 0, .int .u8 0], []⟩ 8 (by kernel_rfl) (by kernel_rfl) (by kernel_rfl) (by kernel_rfl))
    rfl Try.underlying4 (by intro t ht; have ht' : t ∈ [5, 5] := ht; simp at ht'; rcases ht' with rfl <;> exact ⟨by kernel_rfl, of_decide_eq_true (by kernel_rfl)⟩) rfl
    (fun ds h => match ds, h with | [_, _], _ => rfl) ?_
  intro W base args ds ps hh
  obtain ⟨v, v', d, d', p, p', rfl, hv, hv', h0, h0'⟩ := handed_two Try.params3 hh
  obtain ⟨a, ha, rfl⟩ := open_byte hv h0
  obtain ⟨b, hb, rfl⟩ := open_byte hv' h0'
  exact steps_any a b W ha hb

theorem utfSteps_holds : Rows.UtfStepsSaid :=
  OpenClaim.holds_of_wide 3 Try.f3 rfl rfl rfl rfl rfl rfl rfl ⟨rfl, rfl, rfl, rfl, rfl⟩ rfl rfl rfl rfl rfl (by kernel_rfl) Try.func3 (by kernel_rfl)
    (of_decide_eq_true (by kernel_rfl)) (by unfold Func.isWrapper; first | (rw [if_pos (by decide +kernel)]; kernel_rfl) | (rw [if_neg (by decide +kernel)]; exact ⟨rfl, rfl⟩))
    (fun os started H enc _ => utfSteps_lifted os started H enc)
#print axioms utfSteps_holds

end Go.Proofs.Ytpjebljobdhmjaa
