/-
  Walks: why a field must be quoted, by the program.
-/
import Derived.Test.YtajedohgcepkiaaDoorRows
import Derived.Test.YtajedohgcepkiaaDoorNdY
namespace Go.Proofs.YtajedohgcepkiaaDoor
open Go.RowKit

theorem empty_list (f : ByteArray) : (f.toList == []) = decide (f.size = 0) := by
  cases h : decide (f.size = 0)
  · rw [ByteArray.toList_eq]
    cases hl : f.data.toList with
    | nil =>
      have : f.size = 0 := by rw [← ByteArray.size_data, ← Array.length_toList, hl]; rfl
      rw [decide_eq_true this] at h
      cases h
    | cons a l => rfl
  · have := size_none f (of_decide_eq_true h)
    subst this
    rw [ByteArray.toList_eq]
    rfl
theorem empty_bool (f : ByteArray) : f.toList.isEmpty = decide (f.size = 0) := by
  rw [← empty_list]
  cases f.toList <;> rfl

set_option maxHeartbeats 4000000 in
theorem why_any (p q : Nat) (n : Int) (f : ByteArray) (al fi : Bool) (w : World) (hs : f.size ≤ 1000000) (hp : p < 256) (hq : q < 256) :
    Calls Tryd.prog 35 #[.agg #[.int .u8 p, .int .u8 q, .int .i64 n], .string f, .bool al, .bool fi] w (Gives (.int .i64 (whyN p q f al fi)) w) := by
  apply Gives.of
  have hcell := fun (W : World) (x : Later W) => x.cell
  have HP := Lib.hid (fun W => indexByte_any f p W hp)
  have HQ := Lib.hid (fun W => indexByte_any f q W hq)
  have HE := Lib.hid (fun W => containsAny_any f W hs)
  have H3 := Lib.hid (fun W => hasPrefix_any f W (by unfold maxLen; omega))
  have he1 := empty_list f
  have he2 := empty_bool f
  generalize hwn : whyN p q f al fi = N
  have HWN := Lib.hid hwn
  clear hwn hp hq
  cases c1 : hasC f p
  · cases c2 : hasC f q
    · cases c3 : hasE f
      · have k3 : (hasC f 13 || hasC f 10) = false := c3
        rw [c3] at HE
        have K3 := Lib.hid k3
        clear k3 c3
        by_cases c5 : f.size = 0
        · rw [decide_eq_true c5] at he1 he2
          cases al
          · cases fi
            · obtain rfl : N = 0 := by rw [← HWN.out]; unfold whyN; simp [c1, c2, K3.out]
              go_enter Tryd.func35, Tryd.ntmps35
              go_wp2_with (first | (go_at_call 51; (with_reducible refine (HP.out _).mono ?_); rintro e w' ⟨x, rfl, h1, h2, rfl⟩; have hx := h2 c1; clear h1 h2) | (go_at_call 51; (with_reducible refine (HQ.out _).mono ?_); rintro e w' ⟨x, rfl, h1, h2, rfl⟩; have hx := h2 c2; clear h1 h2) | (go_at_call 52; (first | (with_reducible refine (later_call _ (HE.out _)).mono ?_) | (with_reducible refine (call_later (HE.out _)).mono ?_)); rintro e w' ⟨rfl, x, rfl⟩) | (go_at_call 26; (first | (with_reducible refine (later_call _ (H3.out _)).mono ?_) | (with_reducible refine (call_later (H3.out _)).mono ?_)); rintro e w' ⟨rfl, x, rfl⟩))
              all_goals (go_ret; refine ⟨rfl, ?_⟩; (repeat (first | (with_reducible exact Below.refl _ _) | (with_reducible refine later_below _ ?_) | (with_reducible refine alloc_below ?_ _) | (with_reducible refine Below.drew ?_) | (refine Below.setCell ?_ (by first | exact Nat.le_refl _ | (simp; done) | (simp; omega) | omega) _))))
            · cases c6 : Bom.hadB f
              · obtain rfl : N = 0 := by rw [← HWN.out]; unfold whyN; simp [c1, c2, K3.out, c6]
                go_enter Tryd.func35, Tryd.ntmps35
                go_wp2_with (first | (go_at_call 51; (with_reducible refine (HP.out _).mono ?_); rintro e w' ⟨x, rfl, h1, h2, rfl⟩; have hx := h2 c1; clear h1 h2) | (go_at_call 51; (with_reducible refine (HQ.out _).mono ?_); rintro e w' ⟨x, rfl, h1, h2, rfl⟩; have hx := h2 c2; clear h1 h2) | (go_at_call 52; (first | (with_reducible refine (later_call _ (HE.out _)).mono ?_) | (with_reducible refine (call_later (HE.out _)).mono ?_)); rintro e w' ⟨rfl, x, rfl⟩) | (go_at_call 26; (first | (with_reducible refine (later_call _ (H3.out _)).mono ?_) | (with_reducible refine (call_later (H3.out _)).mono ?_)); rintro e w' ⟨rfl, x, rfl⟩))
                all_goals (go_ret; refine ⟨rfl, ?_⟩; (repeat (first | (with_reducible exact Below.refl _ _) | (with_reducible refine later_below _ ?_) | (with_reducible refine alloc_below ?_ _) | (with_reducible refine Below.drew ?_) | (refine Below.setCell ?_ (by first | exact Nat.le_refl _ | (simp; done) | (simp; omega) | omega) _))))
              · obtain rfl : N = 5 := by rw [← HWN.out]; unfold whyN; simp [c1, c2, K3.out, c6]
                go_enter Tryd.func35, Tryd.ntmps35
                go_wp2_with (first | (go_at_call 51; (with_reducible refine (HP.out _).mono ?_); rintro e w' ⟨x, rfl, h1, h2, rfl⟩; have hx := h2 c1; clear h1 h2) | (go_at_call 51; (with_reducible refine (HQ.out _).mono ?_); rintro e w' ⟨x, rfl, h1, h2, rfl⟩; have hx := h2 c2; clear h1 h2) | (go_at_call 52; (first | (with_reducible refine (later_call _ (HE.out _)).mono ?_) | (with_reducible refine (call_later (HE.out _)).mono ?_)); rintro e w' ⟨rfl, x, rfl⟩) | (go_at_call 26; (first | (with_reducible refine (later_call _ (H3.out _)).mono ?_) | (with_reducible refine (call_later (H3.out _)).mono ?_)); rintro e w' ⟨rfl, x, rfl⟩))
                all_goals (go_ret; refine ⟨rfl, ?_⟩; (repeat (first | (with_reducible exact Below.refl _ _) | (with_reducible refine later_below _ ?_) | (with_reducible refine alloc_below ?_ _) | (with_reducible refine Below.drew ?_) | (refine Below.setCell ?_ (by first | exact Nat.le_refl _ | (simp; done) | (simp; omega) | omega) _))))
          · skip
            obtain rfl : N = 4 := by rw [← HWN.out]; unfold whyN; simp [c1, c2, K3.out, c5]
            go_enter Tryd.func35, Tryd.ntmps35
            go_wp2_with (first | (go_at_call 51; (with_reducible refine (HP.out _).mono ?_); rintro e w' ⟨x, rfl, h1, h2, rfl⟩; have hx := h2 c1; clear h1 h2) | (go_at_call 51; (with_reducible refine (HQ.out _).mono ?_); rintro e w' ⟨x, rfl, h1, h2, rfl⟩; have hx := h2 c2; clear h1 h2) | (go_at_call 52; (first | (with_reducible refine (later_call _ (HE.out _)).mono ?_) | (with_reducible refine (call_later (HE.out _)).mono ?_)); rintro e w' ⟨rfl, x, rfl⟩) | (go_at_call 26; (first | (with_reducible refine (later_call _ (H3.out _)).mono ?_) | (with_reducible refine (call_later (H3.out _)).mono ?_)); rintro e w' ⟨rfl, x, rfl⟩))
            all_goals (go_ret; refine ⟨rfl, ?_⟩; (repeat (first | (with_reducible exact Below.refl _ _) | (with_reducible refine later_below _ ?_) | (with_reducible refine alloc_below ?_ _) | (with_reducible refine Below.drew ?_) | (refine Below.setCell ?_ (by first | exact Nat.le_refl _ | (simp; done) | (simp; omega) | omega) _))))
        · rw [decide_eq_false c5] at he1 he2
          cases fi
          · obtain rfl : N = 0 := by rw [← HWN.out]; unfold whyN; simp [c1, c2, K3.out, c5]
            go_enter Tryd.func35, Tryd.ntmps35
            go_wp2_with (first | (go_at_call 51; (with_reducible refine (HP.out _).mono ?_); rintro e w' ⟨x, rfl, h1, h2, rfl⟩; have hx := h2 c1; clear h1 h2) | (go_at_call 51; (with_reducible refine (HQ.out _).mono ?_); rintro e w' ⟨x, rfl, h1, h2, rfl⟩; have hx := h2 c2; clear h1 h2) | (go_at_call 52; (first | (with_reducible refine (later_call _ (HE.out _)).mono ?_) | (with_reducible refine (call_later (HE.out _)).mono ?_)); rintro e w' ⟨rfl, x, rfl⟩) | (go_at_call 26; (first | (with_reducible refine (later_call _ (H3.out _)).mono ?_) | (with_reducible refine (call_later (H3.out _)).mono ?_)); rintro e w' ⟨rfl, x, rfl⟩))
            all_goals (go_ret; refine ⟨rfl, ?_⟩; (repeat (first | (with_reducible exact Below.refl _ _) | (with_reducible refine later_below _ ?_) | (with_reducible refine alloc_below ?_ _) | (with_reducible refine Below.drew ?_) | (refine Below.setCell ?_ (by first | exact Nat.le_refl _ | (simp; done) | (simp; omega) | omega) _))))
          · cases c6 : Bom.hadB f
            · obtain rfl : N = 0 := by rw [← HWN.out]; unfold whyN; simp [c1, c2, K3.out, c5, c6]
              go_enter Tryd.func35, Tryd.ntmps35
              go_wp2_with (first | (go_at_call 51; (with_reducible refine (HP.out _).mono ?_); rintro e w' ⟨x, rfl, h1, h2, rfl⟩; have hx := h2 c1; clear h1 h2) | (go_at_call 51; (with_reducible refine (HQ.out _).mono ?_); rintro e w' ⟨x, rfl, h1, h2, rfl⟩; have hx := h2 c2; clear h1 h2) | (go_at_call 52; (first | (with_reducible refine (later_call _ (HE.out _)).mono ?_) | (with_reducible refine (call_later (HE.out _)).mono ?_)); rintro e w' ⟨rfl, x, rfl⟩) | (go_at_call 26; (first | (with_reducible refine (later_call _ (H3.out _)).mono ?_) | (with_reducible refine (call_later (H3.out _)).mono ?_)); rintro e w' ⟨rfl, x, rfl⟩))
              all_goals (go_ret; refine ⟨rfl, ?_⟩; (repeat (first | (with_reducible exact Below.refl _ _) | (with_reducible refine later_below _ ?_) | (with_reducible refine alloc_below ?_ _) | (with_reducible refine Below.drew ?_) | (refine Below.setCell ?_ (by first | exact Nat.le_refl _ | (simp; done) | (simp; omega) | omega) _))))
            · obtain rfl : N = 5 := by rw [← HWN.out]; unfold whyN; simp [c1, c2, K3.out, c5, c6]
              go_enter Tryd.func35, Tryd.ntmps35
              go_wp2_with (first | (go_at_call 51; (with_reducible refine (HP.out _).mono ?_); rintro e w' ⟨x, rfl, h1, h2, rfl⟩; have hx := h2 c1; clear h1 h2) | (go_at_call 51; (with_reducible refine (HQ.out _).mono ?_); rintro e w' ⟨x, rfl, h1, h2, rfl⟩; have hx := h2 c2; clear h1 h2) | (go_at_call 52; (first | (with_reducible refine (later_call _ (HE.out _)).mono ?_) | (with_reducible refine (call_later (HE.out _)).mono ?_)); rintro e w' ⟨rfl, x, rfl⟩) | (go_at_call 26; (first | (with_reducible refine (later_call _ (H3.out _)).mono ?_) | (with_reducible refine (call_later (H3.out _)).mono ?_)); rintro e w' ⟨rfl, x, rfl⟩))
              all_goals (go_ret; refine ⟨rfl, ?_⟩; (repeat (first | (with_reducible exact Below.refl _ _) | (with_reducible refine later_below _ ?_) | (with_reducible refine alloc_below ?_ _) | (with_reducible refine Below.drew ?_) | (refine Below.setCell ?_ (by first | exact Nat.le_refl _ | (simp; done) | (simp; omega) | omega) _))))
      · have k3 : (hasC f 13 || hasC f 10) = true := c3
        rw [c3] at HE
        have K3 := Lib.hid k3
        clear k3 c3
        obtain rfl : N = 3 := by rw [← HWN.out]; unfold whyN; simp [c1, c2, K3.out]
        go_enter Tryd.func35, Tryd.ntmps35
        go_wp2_with (first | (go_at_call 51; (with_reducible refine (HP.out _).mono ?_); rintro e w' ⟨x, rfl, h1, h2, rfl⟩; have hx := h2 c1; clear h1 h2) | (go_at_call 51; (with_reducible refine (HQ.out _).mono ?_); rintro e w' ⟨x, rfl, h1, h2, rfl⟩; have hx := h2 c2; clear h1 h2) | (go_at_call 52; (first | (with_reducible refine (later_call _ (HE.out _)).mono ?_) | (with_reducible refine (call_later (HE.out _)).mono ?_)); rintro e w' ⟨rfl, x, rfl⟩) | (go_at_call 26; (first | (with_reducible refine (later_call _ (H3.out _)).mono ?_) | (with_reducible refine (call_later (H3.out _)).mono ?_)); rintro e w' ⟨rfl, x, rfl⟩))
        all_goals (go_ret; refine ⟨rfl, ?_⟩; (repeat (first | (with_reducible exact Below.refl _ _) | (with_reducible refine later_below _ ?_) | (with_reducible refine alloc_below ?_ _) | (with_reducible refine Below.drew ?_) | (refine Below.setCell ?_ (by first | exact Nat.le_refl _ | (simp; done) | (simp; omega) | omega) _))))
    · obtain rfl : N = 2 := by rw [← HWN.out]; unfold whyN; simp [c1, c2]
      go_enter Tryd.func35, Tryd.ntmps35
      go_wp2_with (first | (go_at_call 51; (with_reducible refine (HP.out _).mono ?_); rintro e w' ⟨x, rfl, h1, h2, rfl⟩; have hx := h2 c1; clear h1 h2) | (go_at_call 51; (with_reducible refine (HQ.out _).mono ?_); rintro e w' ⟨x, rfl, h1, h2, rfl⟩; have hx := h1 c2; clear h1 h2) | (go_at_call 52; (first | (with_reducible refine (later_call _ (HE.out _)).mono ?_) | (with_reducible refine (call_later (HE.out _)).mono ?_)); rintro e w' ⟨rfl, x, rfl⟩) | (go_at_call 26; (first | (with_reducible refine (later_call _ (H3.out _)).mono ?_) | (with_reducible refine (call_later (H3.out _)).mono ?_)); rintro e w' ⟨rfl, x, rfl⟩))
      all_goals (go_ret; refine ⟨rfl, ?_⟩; (repeat (first | (with_reducible exact Below.refl _ _) | (with_reducible refine later_below _ ?_) | (with_reducible refine alloc_below ?_ _) | (with_reducible refine Below.drew ?_) | (refine Below.setCell ?_ (by first | exact Nat.le_refl _ | (simp; done) | (simp; omega) | omega) _))))
  · obtain rfl : N = 1 := by rw [← HWN.out]; unfold whyN; simp [c1]
    go_enter Tryd.func35, Tryd.ntmps35
    go_wp2_with (first | (go_at_call 51; (with_reducible refine (HP.out _).mono ?_); rintro e w' ⟨x, rfl, h1, h2, rfl⟩; have hx := h1 c1; clear h1 h2) | (go_at_call 52; (first | (with_reducible refine (later_call _ (HE.out _)).mono ?_) | (with_reducible refine (call_later (HE.out _)).mono ?_)); rintro e w' ⟨rfl, x, rfl⟩) | (go_at_call 26; (first | (with_reducible refine (later_call _ (H3.out _)).mono ?_) | (with_reducible refine (call_later (H3.out _)).mono ?_)); rintro e w' ⟨rfl, x, rfl⟩))
    all_goals (go_ret; refine ⟨rfl, ?_⟩; (repeat (first | (with_reducible exact Below.refl _ _) | (with_reducible refine later_below _ ?_) | (with_reducible refine alloc_below ?_ _) | (with_reducible refine Below.drew ?_) | (refine Below.setCell ?_ (by first | exact Nat.le_refl _ | (simp; done) | (simp; omega) | omega) _))))

theorem need_any (p q : Nat) (n : Int) (f : ByteArray) (al fi : Bool) (w : World) (hs : f.size ≤ 1000000) (hp : p < 256) (hq : q < 256) :
    Calls Tryd.prog 24 #[.agg #[.int .u8 p, .int .u8 q, .int .i64 n], .string f, .bool al, .bool fi] w (Gives (.bool (decide (whyN p q f al fi ≠ 0))) w) := by
  apply Gives.of
  have hcell := fun (W : World) (x : Later W) => x.cell
  have H := Lib.hid (fun W => why_any p q n f al fi W hs hp hq)
  generalize whyN p q f al fi = N at H ⊢
  clear hs hp hq
  by_cases h : N = 0
  · subst h
    go_enter Tryd.func24, Tryd.ntmps24
    go_wp2_with (go_at_call 35; (first | (with_reducible refine (later_call _ (H.out _)).mono ?_) | (with_reducible refine (call_later (H.out _)).mono ?_)); rintro e w' ⟨rfl, x, rfl⟩)
    go_ret
    refine ⟨rfl, ?_⟩
    (repeat (first | (with_reducible exact Below.refl _ _) | (with_reducible refine later_below _ ?_) | (with_reducible refine alloc_below ?_ _) | (with_reducible refine Below.drew ?_) | (refine Below.setCell ?_ (by first | exact Nat.le_refl _ | (simp; done) | (simp; omega) | omega) _)))
  · have h1 : ((N : Int) != 0) = true := by simp; omega
    have h2 : decide (N ≠ 0) = true := decide_eq_true h
    rw [h2]
    go_enter Tryd.func24, Tryd.ntmps24
    go_wp2_with (go_at_call 35; (first | (with_reducible refine (later_call _ (H.out _)).mono ?_) | (with_reducible refine (call_later (H.out _)).mono ?_)); rintro e w' ⟨rfl, x, rfl⟩)
    go_ret
    refine ⟨rfl, ?_⟩
    (repeat (first | (with_reducible exact Below.refl _ _) | (with_reducible refine later_below _ ?_) | (with_reducible refine alloc_below ?_ _) | (with_reducible refine Below.drew ?_) | (refine Below.setCell ?_ (by first | exact Nat.le_refl _ | (simp; done) | (simp; omega) | omega) _)))

end Go.Proofs.YtajedohgcepkiaaDoor
