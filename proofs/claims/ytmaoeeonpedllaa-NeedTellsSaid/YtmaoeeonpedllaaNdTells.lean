/-
  Why any field must be quoted is what the document says: the law NeedTells returns true for every dialect, field and place.
  Conditions: none.
-/
import Derived.Test.YtmaoeeonpedllaaRows
import Derived.Test.YtmaoeeonpedllaaOpenD
import Derived.Test.YtmaoeeonpedllaaOpenS
import Derived.Test.YtmaoeeonpedllaaNdA
namespace Go.Proofs.Ytmaoeeonpedllaa
open Go.RowKit

theorem tells_long (p q : Nat) (n : Int) (f : ByteArray) (x : Nat) (w : World) (hf : 200 < f.size) : Calls Try.prog 3 #[.agg #[.int .u8 p, .int .u8 q, .int .i64 n], .string f, .int .u8 x] w (Gives (.bool true) w) := by
  apply Gives.of
  have hcell := fun (W : World) (x : Later W) => x.cell
  have HA := Lib.hid awake_any
  have h1 : (200 : Int) < (f.size : Int) := by omega
  have h2 : decide ((200 : Int) < (f.size : Int)) = true := decide_eq_true h1
  clear hf
  go_enter Try.func3, Try.ntmps3
  go_wp2_with ((go_at_call 9; (first | (with_reducible refine (later_call _ (HA.out _)).mono ?_) | (with_reducible refine (call_later (HA.out _)).mono ?_)); rintro e w' ⟨rfl, x, rfl⟩))
  go_ret
  refine ⟨rfl, ?_⟩
  (repeat (first | (with_reducible exact Below.refl _ _) | (with_reducible refine later_below _ ?_) | (with_reducible refine alloc_below ?_ _) | (with_reducible refine Below.drew ?_) | (refine Below.setCell ?_ (by first | exact Nat.le_refl _ | (simp; done) | (simp; omega) | omega) _)))

theorem tells_bad (p q : Nat) (n : Int) (f : ByteArray) (x : Nat) (w : World) (hp : p < 256) (hq : q < 256) (hf : ¬ 200 < f.size) (hok : okB p q n = false) : Calls Try.prog 3 #[.agg #[.int .u8 p, .int .u8 q, .int .i64 n], .string f, .int .u8 x] w (Gives (.bool true) w) := by
  apply Gives.of
  have hcell := fun (W : World) (x : Later W) => x.cell
  have HA := Lib.hid awake_any
  have HF := Lib.hid (fun W => ref_any p q n W hp hq)
  have HR := Lib.hid (fun W => hok ▸ right_any p q n W)
  have h1 : ¬ (200 : Int) < (f.size : Int) := by omega
  have h2 : decide ((200 : Int) < (f.size : Int)) = false := decide_eq_false h1
  clear hf hp hq hok
  go_enter Try.func3, Try.ntmps3
  go_wp2_with (first | (go_at_call 9; (first | (with_reducible refine (later_call _ (HA.out _)).mono ?_) | (with_reducible refine (call_later (HA.out _)).mono ?_)); rintro e w' ⟨rfl, x, rfl⟩) | (go_at_call 8; (first | (with_reducible refine (later_call _ (HF.out _)).mono ?_) | (with_reducible refine (call_later (HF.out _)).mono ?_)); rintro e w' ⟨rfl, x, rfl⟩) | (go_at_call 7; (first | (with_reducible refine (later_call _ (HR.out _)).mono ?_) | (with_reducible refine (call_later (HR.out _)).mono ?_)); rintro e w' ⟨rfl, x, rfl⟩))
  go_ret
  refine ⟨rfl, ?_⟩
  (repeat (first | (with_reducible exact Below.refl _ _) | (with_reducible refine later_below _ ?_) | (with_reducible refine alloc_below ?_ _) | (with_reducible refine Below.drew ?_) | (refine Below.setCell ?_ (by first | exact Nat.le_refl _ | (simp; done) | (simp; omega) | omega) _)))

set_option maxHeartbeats 4000000 in
theorem tells_main (p q : Nat) (n : Int) (f : ByteArray) (x : Nat) (w : World) (hp : p < 256) (hq : q < 256) (hf : ¬ 200 < f.size) (hok : okB p q n = true) : Calls Try.prog 3 #[.agg #[.int .u8 p, .int .u8 q, .int .i64 n], .string f, .int .u8 x] w (Gives (.bool true) w) := by
  apply Gives.of
  have hcell := fun (W : World) (x : Later W) => x.cell
  have HA := Lib.hid awake_any
  have HF := Lib.hid (fun W => ref_any p q n W hp hq)
  have HR := Lib.hid (fun W => hok ▸ right_any p q n W)
  have h1 : ¬ (200 : Int) < (f.size : Int) := by omega
  have h2 : decide ((200 : Int) < (f.size : Int)) = false := decide_eq_false h1
  obtain ⟨al, hal⟩ : ∃ al, (bits BinOp.and IntKind.u8 (x : Int) 1 == 1) = al := ⟨_, rfl⟩
  obtain ⟨fi, hfi⟩ : ∃ fi, (bits BinOp.and IntKind.u8 (x : Int) 2 == 2) = fi := ⟨_, rfl⟩
  have HO : Hid (∀ b W, Calls Try.prog 11 #[.bool b] W (Gives (.int .i64 (one01 b)) W)) := Lib.hid (fun b W => one_any b W)
  have HW := Lib.hid (fun W => refWhy_any p q n f al fi W (by unfold maxLen; omega))
  have HY := Lib.hid (fun W => why_any p q n f al fi W (by omega) hp hq)
  have HN := Lib.hid (fun W => need_any p q n f al fi W (by omega) hp hq)
  obtain ⟨N, hN⟩ : ∃ N, whyN p q f al fi = N := ⟨_, rfl⟩
  rw [hN] at HW HY HN
  clear hN hf hok hp hq
  by_cases h0 : N = 0
  · subst h0
    go_enter Try.func3, Try.ntmps3
    go_wp2_with (first | (go_at_call 9; (first | (with_reducible refine (later_call _ (HA.out _)).mono ?_) | (with_reducible refine (call_later (HA.out _)).mono ?_)); rintro e w' ⟨rfl, x, rfl⟩) | (go_at_call 8; (first | (with_reducible refine (later_call _ (HF.out _)).mono ?_) | (with_reducible refine (call_later (HF.out _)).mono ?_)); rintro e w' ⟨rfl, x, rfl⟩) | (go_at_call 7; (first | (with_reducible refine (later_call _ (HR.out _)).mono ?_) | (with_reducible refine (call_later (HR.out _)).mono ?_)); rintro e w' ⟨rfl, x, rfl⟩) | (go_at_call 11; (first | (with_reducible refine (later_call _ (HO.out _ _)).mono ?_) | (with_reducible refine (call_later (HO.out _ _)).mono ?_)); rintro e w' ⟨rfl, x, rfl⟩) | (go_at_call 10; (first | (with_reducible refine (later_call _ (HW.out _)).mono ?_) | (with_reducible refine (call_later (HW.out _)).mono ?_)); rintro e w' ⟨rfl, x, rfl⟩) | (go_at_call 12; (first | (with_reducible refine (later_call _ (HY.out _)).mono ?_) | (with_reducible refine (call_later (HY.out _)).mono ?_)); rintro e w' ⟨rfl, x, rfl⟩) | (go_at_call 13; (first | (with_reducible refine (later_call _ (HN.out _)).mono ?_) | (with_reducible refine (call_later (HN.out _)).mono ?_)); rintro e w' ⟨rfl, x, rfl⟩))
    all_goals (go_ret; refine ⟨rfl, ?_⟩; (repeat (first | (with_reducible exact Below.refl _ _) | (with_reducible refine later_below _ ?_) | (with_reducible refine alloc_below ?_ _) | (with_reducible refine Below.drew ?_) | (refine Below.setCell ?_ (by first | exact Nat.le_refl _ | (simp; done) | (simp; omega) | omega) _))))
  · have k0 : ((N : Int) != 0) = true := by simp; omega
    have k1 : decide (N ≠ 0) = true := decide_eq_true h0
    rw [k1] at HN
    clear h0
    go_enter Try.func3, Try.ntmps3
    go_wp2_with (first | (go_at_call 9; (first | (with_reducible refine (later_call _ (HA.out _)).mono ?_) | (with_reducible refine (call_later (HA.out _)).mono ?_)); rintro e w' ⟨rfl, x, rfl⟩) | (go_at_call 8; (first | (with_reducible refine (later_call _ (HF.out _)).mono ?_) | (with_reducible refine (call_later (HF.out _)).mono ?_)); rintro e w' ⟨rfl, x, rfl⟩) | (go_at_call 7; (first | (with_reducible refine (later_call _ (HR.out _)).mono ?_) | (with_reducible refine (call_later (HR.out _)).mono ?_)); rintro e w' ⟨rfl, x, rfl⟩) | (go_at_call 11; (first | (with_reducible refine (later_call _ (HO.out _ _)).mono ?_) | (with_reducible refine (call_later (HO.out _ _)).mono ?_)); rintro e w' ⟨rfl, x, rfl⟩) | (go_at_call 10; (first | (with_reducible refine (later_call _ (HW.out _)).mono ?_) | (with_reducible refine (call_later (HW.out _)).mono ?_)); rintro e w' ⟨rfl, x, rfl⟩) | (go_at_call 12; (first | (with_reducible refine (later_call _ (HY.out _)).mono ?_) | (with_reducible refine (call_later (HY.out _)).mono ?_)); rintro e w' ⟨rfl, x, rfl⟩) | (go_at_call 13; (first | (with_reducible refine (later_call _ (HN.out _)).mono ?_) | (with_reducible refine (call_later (HN.out _)).mono ?_)); rintro e w' ⟨rfl, x, rfl⟩))
    all_goals (go_ret; refine ⟨rfl, ?_⟩; (repeat (first | (with_reducible exact Below.refl _ _) | (with_reducible refine later_below _ ?_) | (with_reducible refine alloc_below ?_ _) | (with_reducible refine Below.drew ?_) | (refine Below.setCell ?_ (by first | exact Nat.le_refl _ | (simp; done) | (simp; omega) | omega) _))))

theorem tells_any (p q : Nat) (n : Int) (f : ByteArray) (x : Nat) (w : World) (hp : p < 256) (hq : q < 256) : Calls Try.prog 3 #[.agg #[.int .u8 p, .int .u8 q, .int .i64 n], .string f, .int .u8 x] w (Gives (.bool true) w) := by
  by_cases h : 200 < f.size
  · exact tells_long p q n f x w h
  · cases hok : okB p q n
    · exact tells_bad p q n f x w hp hq h hok
    · exact tells_main p q n f x w hp hq h hok

open Go.ChangeShapes Go.WideShapes Go.ChangeAt Go.Joins

set_option maxRecDepth 100000 in
theorem needTells_lifted (os : Os) (started : os.Started) (H : Type) (enc : TypeId × Value → H) :
    ReturnsInHanded {} Try.checked os 3 .any (Rows.needTellsSpec.pre6 enc Try.prog Try.f3 Rows.needTellsRow.domain false) (Rows.needTellsSpec.post enc Try.prog Try.f3 false true false false) := by
  refine law_lift (C := Try.checked) (tb := 4) Try.own Try.laidOut started (by kernel_rfl) Try.func3
    (ChangeSpec.witness6 (enc := enc) (C := Try.checked) false ⟨#[], #[.agg #[.int .u8 0, .int .u8 0, .int .i64 0], .string ⟨#[]⟩, .int .u8 0], []⟩ 8 (by kernel_rfl) (by kernel_rfl) (by kernel_rfl) (by kernel_rfl))
    rfl Try.underlying4 (by intro t ht; have ht' : t ∈ [23, 9, 5] := ht; simp at ht'; rcases ht' with rfl | rfl | rfl <;> exact ⟨by kernel_rfl, of_decide_eq_true (by kernel_rfl)⟩) rfl
    (fun ds h => match ds, h with | [_, _, _], _ => rfl) ?_
  intro W base args ds ps hh
  obtain ⟨v, v', v'', d, d', d'', p, p', p'', rfl, ⟨hv, hv', hv''⟩, h0, h0', h0''⟩ := handed_three Try.params3 hh
  obtain ⟨a, b, n, ha, hb, rfl⟩ := open_dialect hv h0
  obtain ⟨s, rfl, hs⟩ := open_text hv' h0'
  obtain ⟨x, hx, rfl⟩ := open_byte hv'' h0''
  exact tells_any a b n s x W ha hb

theorem needTells_holds : Rows.NeedTellsSaid :=
  OpenClaim.holds_of_wide 3 Try.f3 rfl rfl rfl rfl rfl rfl rfl ⟨rfl, rfl, rfl, rfl, rfl⟩ rfl rfl rfl rfl rfl (by kernel_rfl) Try.func3 (by kernel_rfl)
    (of_decide_eq_true (by kernel_rfl)) (by unfold Func.isWrapper; first | (rw [if_pos (by decide +kernel)]; kernel_rfl) | (rw [if_neg (by decide +kernel)]; exact ⟨rfl, rfl⟩))
    (fun os started H enc _ => needTells_lifted os started H enc)
#print axioms needTells_holds

end Go.Proofs.Ytmaoeeonpedllaa
