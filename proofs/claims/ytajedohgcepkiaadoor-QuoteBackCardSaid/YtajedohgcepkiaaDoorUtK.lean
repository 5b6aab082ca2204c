/-
  Walks: whether a text goes, how much of one is whole, and the first bad byte.
-/
import Derived.Test.YtajedohgcepkiaaDoorRows
import Derived.Test.YtajedohgcepkiaaDoorUtH
namespace Go.Proofs.YtajedohgcepkiaaDoor.Utf
open Go.RowKit

def goesF (s : ByteArray) : Bool := decide (s.size ≤ 4) && goesB s

theorem goesF_any (s : ByteArray) (w : World) (hs : s.size ≤ maxLen) : Calls Tryd.prog 46 #[.string s] w (Gives (.bool (goesF s)) w) := by
  apply Gives.of
  have HS := Lib.hid (fun W => size_M s W hs)
  unfold maxLen at hs
  by_cases h4 : s.size ≤ 4
  · by_cases h0 : s.size = 0
    · have ht : s.toList = [] := by
        rw [ByteArray.toList_eq]
        have hl : s.data.toList.length = s.size := by simp
        exact List.length_eq_zero_iff.1 (by omega)
      have hg : goesF s = true := by unfold goesF goesB goesM; simp [h0]
      have HG := Lib.hid hg
      clear hg h0
      go_enter Tryd.func46, Tryd.ntmps46
      go_wp2
      go_ret
      exact ⟨ret_bool HG.out.symm, Below.refl _ _⟩
    · have ht : ¬ s.toList = [] := by
        rw [ByteArray.toList_eq]
        have hl : s.data.toList.length = s.size := by simp
        intro h; rw [h] at hl; simp at hl; omega
      have ht' : s.toList.isEmpty = false := by simpa using ht
      by_cases hm : sizeM s = s.size
      · have hg : goesF s = true := by
          unfold goesF goesB
          simp only [Bool.and_eq_true, decide_eq_true_eq]
          exact ⟨h4, .inr (size_pref s (by omega) hm)⟩
        have HG := Lib.hid hg
        have HM : Hid (∀ W, Calls Tryd.prog 29 #[.string s] W (Gives (.int .i64 s.size) W)) := by rw [← hm]; exact HS.out
        clear hg h0 hm
        go_enter Tryd.func46, Tryd.ntmps46
        go_wp2_with (go_at_call 29; (first | (with_reducible refine (later_call _ (HM.out _)).mono ?_) | (with_reducible refine (call_later (HM.out _)).mono ?_)); rintro e w' ⟨rfl, x, rfl⟩)
        go_ret
        refine ⟨ret_bool HG.out.symm, ?_⟩
        (repeat (first | (with_reducible exact Below.refl _ _) | (with_reducible refine later_below _ ?_) | (with_reducible refine alloc_below ?_ _) | (with_reducible refine Below.drew ?_) | (refine Below.setCell ?_ (by first | exact Nat.le_refl _ | (simp; done) | (simp; omega) | omega) _)))
      · have hg : goesF s = goesB s := by unfold goesF; simp [h4]
        have HG := Lib.hid hg
        have hm' : ((sizeM s : Int) == (s.size : Int)) = false := by simp; omega
        have HR := Lib.hid (fun W => goesR s W (by omega) h4)
        clear hg h0 hm
        go_enter Tryd.func46, Tryd.ntmps46
        go_wp2_with (first | (go_at_call 29; (first | (with_reducible refine (later_call _ (HS.out _)).mono ?_) | (with_reducible refine (call_later (HS.out _)).mono ?_)); rintro e w' ⟨rfl, x, rfl⟩) | (go_at_call 60; (first | (with_reducible refine (later_call _ (HR.out _)).mono ?_) | (with_reducible refine (call_later (HR.out _)).mono ?_)); rintro e w' ⟨rfl, x, rfl⟩))
        go_ret
        refine ⟨ret_bool HG.out.symm, ?_⟩
        (repeat (first | (with_reducible exact Below.refl _ _) | (with_reducible refine later_below _ ?_) | (with_reducible refine alloc_below ?_ _) | (with_reducible refine Below.drew ?_) | (refine Below.setCell ?_ (by first | exact Nat.le_refl _ | (simp; done) | (simp; omega) | omega) _)))
  · have hg : goesF s = false := by unfold goesF; simp [h4]
    have HG := Lib.hid hg
    clear hg
    go_enter Tryd.func46, Tryd.ntmps46
    go_wp2
    go_ret
    exact ⟨ret_bool HG.out.symm, Below.refl _ _⟩

/-- The places between sequences, from the beginning on. -/
inductive Seqs (s : ByteArray) : Nat → Prop
  | zero : Seqs s 0
  | step (k : Nat) (h : Seqs s k) (hk : k < s.size) (hm : 0 < sizeM (s.extract k s.size)) : Seqs s (k + sizeM (s.extract k s.size))

theorem seqN_le (n : Nat) (a b d e : Int) : seqN n a b d e ≤ n := by
  unfold seqN
  repeat' split
  all_goals omega
theorem sizeM_le (s : ByteArray) : sizeM s ≤ s.size := seqN_le _ _ _ _ _

def WholeSays (s : ByteArray) (w : World) (e : Ending) (w' : World) : Prop :=
  (∃ k : Nat, e = .returned (.int .i64 k) ∧ Seqs s k ∧ k ≤ s.size ∧ (k < s.size → sizeM (s.extract k s.size) = 0)) ∧ Below w.heap.size w w'

set_option maxHeartbeats 1000000 in
theorem whole_any (s : ByteArray) (w : World) (hs : s.size ≤ maxLen) : Calls Tryd.prog 18 #[.string s] w (WholeSays s w) := by
  have hx : ∀ k, (s.extract k s.size).size ≤ s.size := fun k => by rw [ByteArray.size_extract]; omega
  have HS := Lib.hid (fun k W => size_M (s.extract k s.size) W (Nat.le_trans (hx k) hs))
  clear hx
  unfold maxLen at hs
  go_enter Tryd.func18, Tryd.ntmps18
  go_wp2
  go_loopw [3] (fun n wr => ∃ k : Nat, k ≤ s.size ∧ n = .int .i64 k ∧ Below w.heap.size w wr ∧ Seqs s k) (fun n _ => s.size - (intOf n).toNat)
  case atStart => exact ⟨0, by omega, rfl, Below.refl _ _, .zero⟩
  case round =>
    obtain ⟨k, hk, rfl, hb, hq⟩ := hrel
    have HQ := Lib.hid hq
    clear hq
    by_cases hlt : k < s.size
    · by_cases hm : 0 < sizeM (s.extract k s.size)
      · have hle := sizeM_le (s.extract k s.size)
        rw [ByteArray.size_extract] at hle
        have hm' : (0 : Int) < (sizeM (s.extract k s.size) : Int) := by omega
        have HN := Lib.hid (Seqs.step k HQ.out hlt hm)
        obtain ⟨m, hM⟩ : ∃ m, sizeM (s.extract k s.size) = m := ⟨_, rfl⟩
        rw [hM] at hle hm hm'
        have HM : Hid (∀ W, Calls Tryd.prog 29 #[.string (s.extract k s.size)] W (Gives (.int .i64 m) W)) := by rw [← hM]; exact fun W => HS.out k W
        have HE := Lib.hid hM
        clear hM
        have hle' : (k : Int) + (m : Int) ≤ (s.size : Int) := by omega
        go_wp2_with (go_at_call 29; (first | (with_reducible refine (later_call _ (HM.out _)).mono ?_) | (with_reducible refine (call_later (HM.out _)).mono ?_)); rintro e w' ⟨rfl, x, rfl⟩)
        go_roundw
        case rel => exact ⟨k + m, by omega, by go_num, by (repeat (first | (with_reducible exact hb) | (with_reducible refine later_below _ ?_) | (with_reducible refine Below.drew ?_))), by have := HN.out; rw [HE.out] at this; exact this⟩
        case measure => simp [intOf]; omega
      · have hm0 : sizeM (s.extract k s.size) = 0 := by omega
        have HM : Hid (∀ W, Calls Tryd.prog 29 #[.string (s.extract k s.size)] W (Gives (.int .i64 0) W)) := by
          have e : ((sizeM (s.extract k s.size) : Nat) : Int) = 0 := by omega
          exact fun W => e ▸ HS.out k W
        have HE := Lib.hid hm0
        clear hm0 hm
        go_wp2_with (go_at_call 29; (first | (with_reducible refine (later_call _ (HM.out _)).mono ?_) | (with_reducible refine (call_later (HM.out _)).mono ?_)); rintro e w' ⟨rfl, x, rfl⟩)
        go_ret
        refine ⟨⟨k, rfl, HQ.out, by omega, fun _ => HE.out⟩, ?_⟩
        (repeat (first | (with_reducible exact hb) | (with_reducible refine later_below _ ?_) | (with_reducible refine Below.drew ?_)))
    · go_wp2
      go_ret
      exact ⟨⟨k, rfl, HQ.out, by omega, fun h => absurd h hlt⟩, hb⟩

def BadSays (s : ByteArray) (w : World) (e : Ending) (w' : World) : Prop :=
  (∃ k : Nat, Seqs s k ∧ k ≤ s.size ∧ (k < s.size → sizeM (s.extract k s.size) = 0) ∧
    ((∃ n : Nat, 1 ≤ n ∧ k + n ≤ s.size ∧ goesF (s.extract k (k + n)) = false ∧ (∀ m, 1 ≤ m → m < n → goesF (s.extract k (k + m)) = true) ∧ e = .returned (.int .i64 ((k : Int) + n - 1))) ∨
     ((∀ m, 1 ≤ m → k + m ≤ s.size → goesF (s.extract k (k + m)) = true) ∧ e = .returned (.int .i64 (-1))))) ∧ Below w.heap.size w w'

set_option maxHeartbeats 1000000 in
theorem bad_any (s : ByteArray) (w : World) (hs' : s.size ≤ 4294967296) : Calls Tryd.prog 32 #[.string s] w (BadSays s w) := by
  have hs : s.size ≤ maxLen := by unfold maxLen; omega
  have hx : ∀ k n, (s.extract k (k + n)).size ≤ s.size := fun k n => by rw [ByteArray.size_extract]; omega
  have HG := Lib.hid (fun k n W => goesF_any (s.extract k (k + n)) W (Nat.le_trans (hx k n) hs))
  have HW := Lib.hid (fun W => whole_any s W hs)
  clear hx hs
  go_enter Tryd.func32, Tryd.ntmps32
  go_wp2_with (go_at_call 18; refine (HW.out _).mono ?_; rintro e w1 ⟨⟨k, rfl, hq, hk, hz⟩, hb1⟩; have HQ := Lib.hid hq; have HZ := Lib.hid hz; clear hq hz)
  go_loopw [4] (fun n wr => ∃ j : Nat, 1 ≤ j ∧ j ≤ s.size + 1 ∧ n = .int .i64 j ∧ Below w.heap.size w wr ∧ ∀ m, 1 ≤ m → m < j → goesF (s.extract k (k + m)) = true) (fun n _ => s.size + 2 - (intOf n).toNat)
  case atStart => exact ⟨1, by omega, by omega, rfl, hb1, fun m h1 h2 => by omega⟩
  case round =>
    obtain ⟨j, hj1, hj, rfl, hb, hpast⟩ := hrel
    have HP := Lib.hid hpast
    clear hpast
    by_cases hlt : k + j ≤ s.size
    · have hlt' : (k : Int) + (j : Int) ≤ (s.size : Int) := by omega
      cases hg : goesF (s.extract k (k + j))
      · have HM : Hid (∀ W, Calls Tryd.prog 46 #[.string (s.extract k (k + j))] W (Gives (.bool false) W)) := fun W => hg ▸ HG.out k j W
        have HE := Lib.hid hg
        clear hg
        go_wp2_with (go_at_call 46; (first | (with_reducible refine (later_call _ (HM.out _)).mono ?_) | (with_reducible refine (call_later (HM.out _)).mono ?_)); rintro e w' ⟨rfl, x, rfl⟩)
        go_ret
        refine ⟨⟨k, HQ.out, hk, HZ.out, .inl ⟨j, hj1, hlt, HE.out, HP.out, rfl⟩⟩, ?_⟩
        (repeat (first | (with_reducible exact hb) | (with_reducible refine later_below _ ?_) | (with_reducible refine Below.drew ?_)))
      · have HM : Hid (∀ W, Calls Tryd.prog 46 #[.string (s.extract k (k + j))] W (Gives (.bool true) W)) := fun W => hg ▸ HG.out k j W
        have HE := Lib.hid hg
        clear hg
        go_wp2_with (go_at_call 46; (first | (with_reducible refine (later_call _ (HM.out _)).mono ?_) | (with_reducible refine (call_later (HM.out _)).mono ?_)); rintro e w' ⟨rfl, x, rfl⟩)
        go_roundw
        case rel => exact ⟨j + 1, by omega, by omega, by go_num, by (repeat (first | (with_reducible exact hb) | (with_reducible refine later_below _ ?_) | (with_reducible refine Below.drew ?_))), fun m h1 h2 => by
          by_cases e : m = j
          · rw [e]; exact HE.out
          · exact HP.out m h1 (by omega)⟩
        case measure => simp [intOf]; omega
    · have hlt' : ¬ (k : Int) + (j : Int) ≤ (s.size : Int) := by omega
      go_wp2
      go_ret
      exact ⟨⟨k, HQ.out, hk, HZ.out, .inr ⟨fun m h1 h2 => HP.out m h1 (by omega), rfl⟩⟩, hb⟩

end Go.Proofs.YtajedohgcepkiaaDoor.Utf
