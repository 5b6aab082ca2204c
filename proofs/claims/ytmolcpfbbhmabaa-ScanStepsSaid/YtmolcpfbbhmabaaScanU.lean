/-
  The document's step, in every state.
-/
import Derived.Test.YtmolcpfbbhmabaaRows
import Derived.Test.YtmolcpfbbhmabaaScanSA
import Derived.Test.YtmolcpfbbhmabaaScanSB
import Derived.Test.YtmolcpfbbhmabaaScanSC
import Derived.Test.YtmolcpfbbhmabaaScanSD
import Derived.Test.YtmolcpfbbhmabaaScanSE
import Derived.Test.YtmolcpfbbhmabaaScanSF
import Derived.Test.YtmolcpfbbhmabaaScanSG
namespace Go.Proofs.Ytmolcpfbbhmabaa
open Go.RowKit

theorem col_cases (p q b : Nat) (_hp : p ≠ 13 ∧ p ≠ 10) (_hq : q ≠ 13 ∧ q ≠ 10) (_hpq : p ≠ q) :
    (b = q ∧ colN p q b = 0) ∨ (b ≠ q ∧ b = p ∧ colN p q b = 1) ∨ (b ≠ q ∧ b ≠ p ∧ b = 13 ∧ colN p q b = 2) ∨ (b ≠ q ∧ b ≠ p ∧ b = 10 ∧ colN p q b = 3) ∨ (b ≠ q ∧ b ≠ p ∧ b ≠ 13 ∧ b ≠ 10 ∧ colN p q b = 4) := by
  unfold colN
  by_cases h1 : b = q
  · simp [h1]
  · by_cases h2 : b = p
    · subst h2; simp [h1]
    · by_cases h3 : b = 13
      · subst h3; simp [h1, h2]
      · by_cases h4 : b = 10
        · subst h4; simp [h1, h2]
        · simp [h1, h2, h3, h4]

set_option maxHeartbeats 4000000 in
theorem table_bar (p q s b : Nat) (n : Int) (hp : p ≠ 13 ∧ p ≠ 10) (hq : q ≠ 13 ∧ q ≠ 10) (hpq : p ≠ q) (h : barB n s (colN p q b) = true) : outR (stepV p q n s b) = outR ⟨ev0, 0, 6⟩ := by
  unfold barB at h
  simp only [Bool.and_eq_true, Bool.or_eq_true, beq_iff_eq, decide_eq_true_eq] at h
  obtain ⟨hs, hc⟩ := h
  have h3 : s ≠ 3 ∧ s ≠ 5 ∧ s ≠ 6 := by omega
  rcases col_cases p q b hp hq hpq with ⟨_, h1⟩ | ⟨_, _, h1⟩ | ⟨a, b', rfl, h1⟩ | ⟨a, b', rfl, h1⟩ | ⟨_, _, _, _, h1⟩ <;> rw [h1] at hc <;> simp at hc
  · subst hc
    simp [stepV, outV, endV, mayV, a, b', h3]
  · subst hc
    simp [stepV, outV, endV, mayV, a, b', h3]

set_option maxHeartbeats 8000000 in
theorem table_row (p q s b : Nat) (n : Int) (hs : s ≤ 6) (hp : p ≠ 13 ∧ p ≠ 10) (hq : q ≠ 13 ∧ q ≠ 10) (hpq : p ≠ q) (h : barB n s (colN p q b) = false) : outR (stepV p q n s b) = rowOut (rowE s (colN p q b)) b := by
  have hk : s = 0 ∨ s = 1 ∨ s = 2 ∨ s = 3 ∨ s = 4 ∨ s = 5 ∨ s = 6 := by omega
  rcases col_cases p q b hp hq hpq with ⟨rfl, h1⟩ | ⟨a, rfl, h1⟩ | ⟨a, b', rfl, h1⟩ | ⟨a, b', rfl, h1⟩ | ⟨a, b', c, d, h1⟩
  · rw [h1]
    rcases hk with rfl | rfl | rfl | rfl | rfl | rfl | rfl
    all_goals simp [stepV, outV, inV, behV, quoV, outR, evR, ev0, evA, n01, rowOut, rowE, rowA, hq]
  · rw [h1]
    rcases hk with rfl | rfl | rfl | rfl | rfl | rfl | rfl
    all_goals simp [stepV, outV, inV, behV, outR, evR, ev0, evA, n01, rowOut, rowE, rowA, hp, a]
  · rw [h1] at h ⊢
    rcases hk with rfl | rfl | rfl | rfl | rfl | rfl | rfl
    all_goals (simp [barB] at h; simp [stepV, outV, inV, behV, endV, mayV, outR, evR, ev0, evA, n01, rowOut, rowE, rowA, a, b', h])
  · rw [h1] at h ⊢
    rcases hk with rfl | rfl | rfl | rfl | rfl | rfl | rfl
    all_goals (simp [barB] at h; simp [stepV, outV, inV, behV, endV, mayV, outR, evR, ev0, evA, n01, rowOut, rowE, rowA, a, b', h])
  · rw [h1]
    rcases hk with rfl | rfl | rfl | rfl | rfl | rfl | rfl
    all_goals simp [stepV, outV, inV, behV, outR, evR, ev0, evA, n01, rowOut, rowE, rowA, a, b', c, d]

theorem rstep_any (p q s b : Nat) (n : Int) (w : World) (hs : s ≤ 6) (hok : okB p q n = true) : Calls Try.prog 11 #[.agg #[.int .i64 p, .int .i64 q, .int .i64 n], .int .i64 s, .int .i64 b] w (Gives (outR (stepV p q n s b)) w) := by
  obtain ⟨⟨_, hp1, hp2⟩, ⟨_, hq1, hq2⟩, hpq, _⟩ := okB_spec hok
  have hp : p ≠ 13 ∧ p ≠ 10 := by omega
  have hq : q ≠ 13 ∧ q ≠ 10 := by omega
  have hpq' : p ≠ q := by omega
  have h5 : colN p q b < 5 := by
    rcases col_cases p q b hp hq hpq' with ⟨_, h1⟩ | ⟨_, _, h1⟩ | ⟨_, _, _, h1⟩ | ⟨_, _, _, h1⟩ | ⟨_, _, _, _, h1⟩ <;> omega
  have hb := table_bar p q s b n hp hq hpq'
  have hr := table_row p q s b n hs hp hq hpq'
  have hk : s = 0 ∨ s = 1 ∨ s = 2 ∨ s = 3 ∨ s = 4 ∨ s = 5 ∨ s = 6 := by omega
  rcases hk with rfl | rfl | rfl | rfl | rfl | rfl | rfl
  · exact rstep_0 p q b _ n w _ _ rfl h5 rfl hb hr
  · exact rstep_1 p q b _ n w _ _ rfl h5 rfl hb hr
  · exact rstep_2 p q b _ n w _ _ rfl h5 rfl hb hr
  · exact rstep_3 p q b _ n w _ _ rfl h5 rfl hb hr
  · exact rstep_4 p q b _ n w _ _ rfl h5 rfl hb hr
  · exact rstep_5 p q b _ n w _ _ rfl h5 rfl hb hr
  · exact rstep_6 p q b _ n w _ _ rfl h5 rfl hb hr

end Go.Proofs.Ytmolcpfbbhmabaa
