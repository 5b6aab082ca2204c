/-
  Walks: the document's pieces of sizes.
-/
import Derived.Test.YtmfhnmdgcjlnpaaRows
import Derived.Test.YtmfhnmdgcjlnpaaCtB
import Derived.Lib.Hide
import Derived.StillTailTactics
namespace Go.Proofs.Ytmfhnmdgcjlnpaa
open Go.RowKit

theorem pos_more (n : Int) (sz : List Int) (hn : 0 ≤ n) (k d : Nat) : pos n sz k ≤ pos n sz (k + d) := by
  induction d with
  | zero => exact Int.le_refl _
  | succ d ih => exact Int.le_trans ih (pos_le n sz hn (k + d))
theorem pos_pass (n : Int) (sz : List Int) (hn : 0 ≤ n) (p jj : Nat) (hj : jj < sz.length) (hp : 0 < sz.getD jj 0) (h : pos n sz (p * sz.length) < n) : pos n sz (p * sz.length) + 1 ≤ pos n sz ((p + 1) * sz.length) := by
  have e : (p + 1) * sz.length = (p * sz.length + jj + 1) + (sz.length - jj - 1) := by rw [Nat.add_mul]; omega
  have h1 := pos_more n sz hn (p * sz.length) jj
  have h2 := pos_more n sz hn (p * sz.length + jj + 1) (sz.length - jj - 1)
  rw [← e] at h2
  have h3 : pos n sz (p * sz.length + jj + 1) = pos n sz (p * sz.length + jj) + held (sz.getD ((p * sz.length + jj) % sz.length) 0) (n - pos n sz (p * sz.length + jj)) := rfl
  have h4 : (p * sz.length + jj) % sz.length = jj := by rw [Nat.mul_comm, Nat.mul_add_mod]; exact Nat.mod_eq_of_lt hj
  have h5 := pos_range n sz hn (p * sz.length + jj)
  rw [h4] at h3
  unfold held at h3
  rw [if_neg (by omega)] at h3
  split at h3 <;> omega

def anyB (sz : List Int) (k : Nat) : Bool := (sz.take k).any fun x => decide (0 < x)
theorem anyB_step (sz : List Int) (k : Nat) (x : Int) (h : sz[k]? = some x) : anyB sz (k + 1) = (anyB sz k || decide (0 < x)) := by
  unfold anyB
  rw [List.take_add_one, h, List.any_append]
  simp
theorem anyB_all (sz : List Int) : anyB sz sz.length = true ↔ ∃ x ∈ sz, 0 < x := by
  unfold anyB
  rw [List.take_length, List.any_eq_true]
  constructor
  · rintro ⟨x, hx, hp⟩; exact ⟨x, hx, of_decide_eq_true hp⟩
  · rintro ⟨x, hx, hp⟩; exact ⟨x, hx, decide_eq_true hp⟩

set_option maxHeartbeats 2000000 in
theorem refBy_any (s : ByteArray) (v : Value) (sz : List Int) (w : World) (h : Ints w v sz) (hs : s.size ≤ 200) (hp : sz.length ≤ 20) :
    Calls Try.prog 15 #[.string s, v] w (fun e w' => ∃ v', e = .returned v' ∧ ∃ L, OwnS w' w.heap.size v' L ∧ ByL s sz L ∧ Below w.heap.size w w') := by
  have hown := fun (s : ByteArray) (W : World) (B : Nat) (hB : B ≤ W.heap.size) => World.ownsRow_lit (base := B) (e := 9) (size := 1) W #[.string s] 1 hB (by unfold maxLen; omega) rfl
  have HOWN := Lib.hid hown
  clear hown
  obtain ⟨A, c, rfl, hc1, hc2, hA⟩ := h
  unfold maxLen at hc2
  have HA := Lib.hid hA
  have HH := Lib.hid (fun n m W => held_any n m W)
  have h200 : (s.size : Int) ≤ 200 := by omega
  clear hA
  go_enter Try.func15, Try.ntmps15
  go_wp2
  go_loopw [5, 7, 15] (fun b _ i (wr : World) => ∃ k : Nat, k ≤ sz.length ∧ i = .int .i64 k ∧ b = .bool (anyB sz k) ∧ Below w.heap.size w wr) (fun _ _ i _ => sz.length - (intOf i).toNat)
  case atStart => exact ⟨0, by omega, rfl, rfl, Below.refl _ _⟩
  case round =>
    obtain ⟨k, hk, rfl, rfl, hb⟩ := hrel
    have HB := Lib.hid hb
    clear hb
    by_cases c1 : k < sz.length
    · have i1 : (k : Int) < (sz.length : Int) := by omega
      obtain ⟨x, hx⟩ : ∃ x, sz[k]? = some x := ⟨_, List.getElem?_eq_getElem c1⟩
      obtain ⟨a, rfl, ha⟩ := HA.out k x hx
      have ha' := (HB.out.cell (World.block_lt_of_cell? w _ ha)).trans ha
      have hst := anyB_step sz k x hx
      have HST := Lib.hid hst
      clear hst ha hx
      cases hab : anyB sz k with
      | true =>
        have HAB := Lib.hid hab
        clear hab
        go_wp2
        go_roundw
        case rel => exact ⟨k + 1, by omega, by go_num, by rw [HST.out, HAB.out]; rfl, HB.out⟩
        case measure => simp [intOf]; omega
      | false =>
        have HAB := Lib.hid hab
        clear hab
        go_wp2
        go_roundw
        case rel => exact ⟨k + 1, by omega, by go_num, by rw [HST.out, HAB.out]; simp, HB.out⟩
        case measure => simp [intOf]; omega
    · obtain rfl : k = sz.length := by omega
      have i1 : ¬ (sz.length : Int) < (sz.length : Int) := by omega
      by_cases h0 : s.size = 0
      · obtain rfl := size_none s h0
        cases hab : anyB sz sz.length with
        | true =>
          have HAB := Lib.hid hab
          clear hab
          go_wp2
          refine bodyPost_ret (v := _) (by simp [results, Try.results15]; rfl) rfl ?_
          exact ⟨_, rfl, [⟨#[]⟩], HOWN.out _ _ _ HB.out.size, .inl ⟨.inl rfl, rfl⟩, HB.out.alloc HB.out.size _⟩
        | false =>
          have HAB := Lib.hid hab
          clear hab
          go_wp2
          refine bodyPost_ret (v := _) (by simp [results, Try.results15]; rfl) rfl ?_
          exact ⟨_, rfl, [⟨#[]⟩], HOWN.out _ _ _ HB.out.size, .inl ⟨.inl rfl, rfl⟩, HB.out.alloc HB.out.size _⟩
      · have es := nonempty_list s h0
        cases hab : anyB sz sz.length with
        | false =>
          have HAB := Lib.hid hab
          clear hab
          go_wp2
          refine bodyPost_ret (v := _) (by simp [results, Try.results15]; rfl) rfl ?_
          exact ⟨_, rfl, [s], HOWN.out _ _ _ HB.out.size, .inl ⟨.inr (fun x hx hp => by have := (anyB_all sz).2 ⟨x, hx, hp⟩; rw [HAB.out] at this; cases this), rfl⟩, HB.out.alloc HB.out.size _⟩
        | true =>
          obtain ⟨jj, hjj, hpj⟩ : ∃ jj, jj < sz.length ∧ 0 < sz.getD jj 0 := by
            obtain ⟨y, hy, hp⟩ := (anyB_all sz).1 hab
            obtain ⟨jj, hj, rfl⟩ := List.getElem_of_mem hy
            exact ⟨jj, hj, by simpa [List.getD, hj] using hp⟩
          have HW : Hid (¬ wholeB s sz) := Lib.hid (by
            rintro (h | h)
            · exact h0 h
            · obtain ⟨y, hy, hp⟩ := (anyB_all sz).1 hab
              exact h y hy hp)
          have HJ := Lib.hid (And.intro hjj hpj)
          clear hab hpj
          go_wp2
          go_loopw [8, 9, 11, 12] (fun o a _ _ (wr : World) => ∃ p : Nat, a = .int .i64 (pos s.size sz (p * sz.length)) ∧ OwnS wr w.heap.size o (outB s sz (p * sz.length)) ∧ Below w.heap.size w wr ∧ (p : Int) ≤ pos s.size sz (p * sz.length)) (fun _ a _ _ _ => s.size - (intOf a).toNat)
          case atStart => exact ⟨0, by rw [Nat.zero_mul]; rfl, by rw [Nat.zero_mul]; exact World.ownsRow_nil _ _ _ _, HB.out, by rw [Nat.zero_mul]; exact Int.le_refl _⟩
          case round =>
            clear HB
            obtain ⟨p, rfl, ho, hb, hpp⟩ := hrel
            have hpr := pos_range s.size sz (by omega) (p * sz.length)
            have hp200 : p ≤ 200 := by omega
            have hpm : p * sz.length ≤ 200 * 20 := Nat.mul_le_mul hp200 hp
            have HO := Lib.hid ho
            have HB := Lib.hid hb
            clear ho hb
            by_cases c4 : pos s.size sz (p * sz.length) < s.size
            · have hpass := pos_pass s.size sz (by omega) p jj HJ.out.1 HJ.out.2 c4
              have HPASS := Lib.hid hpass
              clear hpass
              go_wp2
              go_loopw [8, 9, 11, 12, 39] (fun o a _ _ i (wx : World) => ∃ j : Nat, j ≤ sz.length ∧ i = .int .i64 j ∧ a = .int .i64 (pos s.size sz (p * sz.length + j)) ∧ OwnS wx w.heap.size o (outB s sz (p * sz.length + j)) ∧ Below w.heap.size w wx) (fun _ _ _ _ i _ => sz.length - (intOf i).toNat)
              case atStart => exact ⟨0, by omega, rfl, rfl, HO.out, HB.out⟩
              case round =>
                clear HB HO
                obtain ⟨j, hj, rfl, rfl, ho, hb⟩ := hrel
                have HO := Lib.hid ho
                have HB := Lib.hid hb
                clear ho hb
                have hpq := pos_range s.size sz (by omega) (p * sz.length + j)
                by_cases c5 : j < sz.length
                · have i5 : (j : Int) < (sz.length : Int) := by omega
                  obtain ⟨x, hx⟩ : ∃ x, sz[j]? = some x := ⟨_, List.getElem?_eq_getElem c5⟩
                  obtain ⟨a, rfl, ha⟩ := HA.out j x hx
                  have ha' := (HB.out.cell (World.block_lt_of_cell? w _ ha)).trans ha
                  have hmod : (p * sz.length + j) % sz.length = j := by rw [Nat.mul_comm, Nat.mul_add_mod]; exact Nat.mod_eq_of_lt c5
                  have hq : pos s.size sz (p * sz.length + j + 1) = pos s.size sz (p * sz.length + j) + held x (s.size - pos s.size sz (p * sz.length + j)) := by
                    show _ + held (sz.getD ((p * sz.length + j) % sz.length) 0) _ = _
                    rw [hmod]
                    simp [List.getD, hx]
                  have hhr := held_range x (s.size - pos s.size sz (p * sz.length + j)) (by omega)
                  have HQ := Lib.hid hq
                  clear hq ha hx hmod
                  by_cases c6 : pos s.size sz (p * sz.length + j) < s.size
                  · have HS6 := Lib.hid c6
                    go_wp2_with (first
                      | (go_at_call 23; refine (HH.out _ _ _).mono ?_; rintro e w1 ⟨rfl, hb1⟩; have HO1 := Lib.hid (owns_later HO.out hb1); have HB1 := Lib.hid (below_next HB.out (Nat.le_refl _) hb1); clear hb1)
                      | (at_builtin; refine append_str rfl (.tmp 55) (.tmp 60) rfl w.heap.size u8 _ _ rfl rfl HO1.out (by have := outB_len s sz (p * sz.length + j); omega) HB1.out.size ?_; intro A2 p2 w3 ho3 hb3 _ _; have HO3 := Lib.hid ho3; have HB3 := Lib.hid hb3; clear ho3 hb3))
                    have HO4 := HO3.out
                    rw [← HQ.out] at HO4
                    go_roundw
                    case rel => exact ⟨j + 1, by omega, by go_num, congrArg _ HQ.out.symm, by rw [← Nat.add_assoc, outB_some s sz _ HS6.out]; exact HO4, HB1.out.trans HB3.out⟩
                    case measure => simp [intOf]; omega
                  · have HS6 := Lib.hid c6
                    have hh0 : pos s.size sz (p * sz.length + j + 1) = pos s.size sz (p * sz.length + j) := by rw [HQ.out]; omega
                    have HH0 := Lib.hid hh0
                    clear hh0
                    go_wp2
                    go_roundw
                    case rel => exact ⟨j + 1, by omega, by go_num, congrArg _ HH0.out.symm, by rw [← Nat.add_assoc, outB_none s sz _ (by have := HS6.out; omega)]; exact HO.out, HB.out⟩
                    case measure => simp [intOf]; omega
                · obtain rfl : j = sz.length := by omega
                  have i5 : ¬ (sz.length : Int) < (sz.length : Int) := by omega
                  have hnx : p * sz.length + sz.length = (p + 1) * sz.length := by rw [Nat.add_mul, Nat.one_mul]
                  rw [hnx] at hpq ⊢
                  have HO' := Lib.hid (hnx ▸ HO.out)
                  clear HO
                  go_wp2
                  go_roundw
                  case rel => exact ⟨p + 1, rfl, HO'.out, HB.out, by have := HPASS.out; omega⟩
                  case measure =>
                    have := HPASS.out
                    show s.size - (pos s.size sz ((p + 1) * sz.length)).toNat < s.size - (pos s.size sz (p * sz.length)).toNat
                    omega
            · have hpe : pos s.size sz (p * sz.length) = s.size := by omega
              have HPE := Lib.hid hpe
              clear hpe
              go_wp2
              refine bodyPost_ret (v := u8) (by simp [results, Try.results15]) rfl ?_
              exact ⟨_, rfl, _, HO.out, .inr ⟨HW.out, _, HPE.out, rfl⟩, HB.out⟩

end Go.Proofs.Ytmfhnmdgcjlnpaa
