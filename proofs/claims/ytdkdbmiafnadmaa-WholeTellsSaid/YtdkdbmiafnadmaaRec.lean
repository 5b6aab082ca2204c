/-
  Walks: a parser at a text's beginning; the records that are gathered one by one.
-/
import Derived.Test.YtdkdbmiafnadmaaRows
import Derived.Test.YtdkdbmiafnadmaaPar
import Derived.Test.YtdkdbmiafnadmaaFldN
import Derived.Test.YtdkdbmiafnadmaaChk
import Derived.Test.YtdkdbmiafnadmaaRdW
namespace Go.Proofs.Ytdkdbmiafnadmaa
open Go.RowKit

theorem beg_ok (p q : Nat) (n : Int) (l : Lim) (w : World) (hok : okB p q n = true) (hf : fitsB l.fs l.fl l.rs = true) :
    Calls Try.prog 26 #[.agg #[.int .u8 p, .int .u8 q, .int .i64 n], .agg #[.int .i64 l.fs, .int .i64 l.fl, .int .i64 l.rs, .bool l.un]] w (fun e w' => ∃ o m, e = .returned (.tuple #[.pointer (some ⟨o, 0, none⟩), .int .i64 0]) ∧ w.heap.size ≤ m ∧ m < o ∧ PB w' o p q n 0 0 m ∧ MBox w' m none 0 (.slice none 0 0) l mkr0 ∧ Below w.heap.size w w') := by
  have hcell := fun (W : World) (x : Later W) => x.cell
  have HC := Lib.hid (fun W => check_ok p q n W hok)
  have HN := Lib.hid (fun W => new_ok l W hf)
  have hsz := fun (W : World) (x : Later W) => x.size
  go_enter Try.func26, Try.ntmps26
  go_wp2_with (first | ((go_at_call 36; (first | (with_reducible refine (later_call _ (HC.out _)).mono ?_) | (with_reducible refine (call_later (HC.out _)).mono ?_)); rintro e w' ⟨rfl, x, rfl⟩); have hz := Later.lt2 x) | (go_at_call 37; refine (HN.out _).mono ?_; rintro e w2 ⟨m, hm, rfl, hM, hB⟩; have hd : Box w2 w.heap.size 23 #[.int .u8 p, .int .u8 q, .int .i64 n] := (((Box.new w _ _).alloc _).below x.below (by simp; omega)).below hB hz.1; have q0 : w2.cell? ⟨w.heap.size, 0, none⟩ = some (.int .u8 p) := hd.cell 0; have q1 : w2.cell? ⟨w.heap.size, 1, none⟩ = some (.int .u8 q) := hd.cell 1; have q2 : w2.cell? ⟨w.heap.size, 2, none⟩ = some (.int .i64 n) := hd.cell 2))
  refine bodyPost_ret (v := .tuple #[.pointer (some ⟨w2.heap.size, 0, none⟩), .int .i64 0]) (by simp [results, Try.results26]) rfl ?_
  refine ⟨w2.heap.size, m, rfl, by omega, hM.lt, Box.new _ _ _, hM.below ((Below.refl _ _).alloc (Nat.le_refl _) _), ?_⟩
  have hx : Below w.heap.size w x.w := (((Below.refl _ _).alloc (Nat.le_refl _) _).alloc (by simp) _).trans (x.below.mono (by simp; omega))
  have hs := hx.size
  exact (hx.trans (hB.mono hs)).alloc (Nat.le_trans hs hB.size) _

theorem beg_no (p q : Nat) (n : Int) (l : Lim) (w : World) (hok : okB p q n = false) :
    Calls Try.prog 26 #[.agg #[.int .u8 p, .int .u8 q, .int .i64 n], .agg #[.int .i64 l.fs, .int .i64 l.fl, .int .i64 l.rs, .bool l.un]] w (Gives (.tuple #[.pointer none, .int .i64 1]) w) := by
  apply Gives.of
  have hcell := fun (W : World) (x : Later W) => x.cell
  have HC := Lib.hid (fun W => check_no p q n W hok)
  go_enter Try.func26, Try.ntmps26
  go_wp2_with ((go_at_call 36; (first | (with_reducible refine (later_call _ (HC.out _)).mono ?_) | (with_reducible refine (call_later (HC.out _)).mono ?_)); rintro e w' ⟨rfl, x, rfl⟩))
  refine bodyPost_ret (v := .tuple #[.pointer none, .int .i64 1]) (by simp [results, Try.results26]) rfl ?_
  refine ⟨rfl, ?_⟩
  (repeat (first | (with_reducible exact Below.refl _ _) | (with_reducible refine later_below _ ?_) | (with_reducible refine alloc_below ?_ _) | (with_reducible refine Below.drew ?_)))
theorem beg_lim (p q : Nat) (n : Int) (l : Lim) (w : World) (hok : okB p q n = true) (hf : fitsB l.fs l.fl l.rs = false) :
    Calls Try.prog 26 #[.agg #[.int .u8 p, .int .u8 q, .int .i64 n], .agg #[.int .i64 l.fs, .int .i64 l.fl, .int .i64 l.rs, .bool l.un]] w (Gives (.tuple #[.pointer none, .int .i64 2]) w) := by
  apply Gives.of
  have hcell := fun (W : World) (x : Later W) => x.cell
  have HC := Lib.hid (fun W => check_ok p q n W hok)
  have HN := Lib.hid (fun W => new_no l W hf)
  go_enter Try.func26, Try.ntmps26
  go_wp2_with (first | ((go_at_call 36; (first | (with_reducible refine (later_call _ (HC.out _)).mono ?_) | (with_reducible refine (call_later (HC.out _)).mono ?_)); rintro e w' ⟨rfl, x, rfl⟩); have hz := Later.lt2 x) | (go_at_call 37; (first | (with_reducible refine (later_call _ (HN.out _)).mono ?_) | (with_reducible refine (call_later (HN.out _)).mono ?_)); rintro e w' ⟨rfl, x, rfl⟩))
  refine bodyPost_ret (v := .tuple #[.pointer none, .int .i64 2]) (by simp [results, Try.results26]) rfl ?_
  refine ⟨rfl, ?_⟩
  (repeat (first | (with_reducible exact Below.refl _ _) | (with_reducible refine later_below _ ?_) | (with_reducible refine alloc_below ?_ _) | (with_reducible refine Below.drew ?_)))

/-- A variable with the records so far. -/
def RecB (w : World) (q : Nat) (v : Value) (vs : List Value) (L : List (List ByteArray)) : Prop :=
  Box w q 27 #[v] ∧ w.ownsRow (q + 1) 50 1 v L.length vs ∧ (∀ (k : Nat) (r : Value) (R : List ByteArray), vs[k]? = some r → L[k]? = some R → OwnS w (q + 1) r R) ∧ ∀ r ∈ vs, apart r v
def rfoot (q : Nat) (v : Value) (vs : List Value) (k : Nat) : Prop := k = q ∨ v.ownBlock = some k ∨ ∃ r ∈ vs, r.ownBlock = some k

theorem RecB.keeps {w w' : World} {S : Nat → Prop} {q : Nat} {v : Value} {vs : List Value} {L : List (List ByteArray)} (h : RecB w q v vs L) (k : Keeps w w' S) (hS : ∀ i, rfoot q v vs i → ¬ S i) : RecB w' q v vs L := by
  obtain ⟨h1, h2, h3, h4⟩ := h
  refine ⟨h1.keeps k (hS _ (.inl rfl)), owns_keeps h2 k (fun g hg => hS g (.inr (.inl hg))), fun i r R hr hR => owns_keeps (h3 i r R hr hR) k (fun g hg => hS g (.inr (.inr ⟨r, List.mem_of_getElem? hr, hg⟩))), h4⟩
theorem RecB.foot_lt {w : World} {q : Nat} {v : Value} {vs : List Value} {L : List (List ByteArray)} (h : RecB w q v vs L) (k : Nat) (hk : rfoot q v vs k) : k < w.heap.size := by
  obtain ⟨h1, h2, h3, h4⟩ := h
  rcases hk with rfl | hk | ⟨r, hr, hk⟩
  · exact h1.lt
  · exact (h2.lt k hk).2
  · obtain ⟨i, hi⟩ := List.getElem?_of_mem hr
    have hl : vs.length = L.length := by have := h2.1; omega
    have hil : i < vs.length := (List.getElem?_eq_some_iff.1 hi).1
    exact ((h3 i r _ hi (List.getElem?_eq_getElem (by omega : i < L.length))).lt k hk).2

/-- One record more. -/
theorem RecB.more {w1 w2 : World} {q : Nat} {v v2 r : Value} {vs : List Value} {L : List (List ByteArray)} {R : List ByteArray} (h : RecB w1 q v vs L) (hr : OwnS w1 (q + 1) r R) (ha : apart r v) (ho : w2.ownsRow (q + 1) 50 1 v2 (L.length + 1) (vs ++ [r])) (hg : w1.grownBy w2 v.ownBlock) (hat : v2.ownBlock = v.ownBlock ∨ v2.ownBlock = some w1.heap.size) :
    RecB (w2.setCell ⟨q, 0, none⟩ v2) q v2 (vs ++ [r]) (L ++ [R]) := by
  obtain ⟨h1, h2, h3, h4⟩ := h
  have hlen : vs.length = L.length := by have := h2.1; omega
  have kset : ∀ {b : Nat} {e : TypeId} {size k : Nat} {u : Value} {xs : List Value}, w2.ownsRow b e size u k xs → q < b → (w2.setCell ⟨q, 0, none⟩ v2).ownsRow b e size u k xs := fun h ho => h.kept (grown_set _ _ _ _) (own_ne h ho)
  refine ⟨?_, ?_, ?_, ?_⟩
  · have := (h1.grown hg (ne_some h2 (Nat.lt_succ_self _))).set 0 v2
    simpa using this
  · have := kset ho (Nat.lt_succ_self _)
    simpa using this
  · intro k u U hu hU
    refine kset ?_ (Nat.lt_succ_self _)
    by_cases hk : k < vs.length
    · rw [List.getElem?_append_left hk] at hu
      rw [List.getElem?_append_left (by omega)] at hU
      exact (h3 k u U hu hU).kept hg (apart_kept (h4 u (List.mem_of_getElem? hu)))
    · rw [List.getElem?_append_right (by omega)] at hu
      rw [List.getElem?_append_right (by omega)] at hU
      have hk0 : k - vs.length = 0 := by
        rcases Nat.eq_zero_or_pos (k - vs.length) with h | h
        · exact h
        · rw [List.getElem?_eq_none (by simp; omega)] at hu; cases hu
      rw [hk0] at hu
      rw [show k - L.length = 0 by omega] at hU
      simp at hu hU
      subst hu hU
      exact hr.kept hg (apart_kept ha)
  · intro u hu
    rcases List.mem_append.1 hu with hu | hu
    · obtain ⟨k, hk⟩ := List.getElem?_of_mem hu
      have hkl : k < vs.length := (List.getElem?_eq_some_iff.1 hk).1
      exact apart_at (h3 k u _ hk (List.getElem?_eq_getElem (by omega : k < L.length))) (h4 u hu) hat
    · simp at hu
      subst hu
      exact apart_at hr ha hat

set_option maxHeartbeats 2000000 in
theorem gather_rec (q : Nat) (v r : Value) (vs : List Value) (L : List (List ByteArray)) (R : List ByteArray) (w : World) (h : RecB w q v vs L) (hr : OwnS w (q + 1) r R) (ha : apart r v) (hL : L.length ≤ 1000000) :
    Calls Try.prog 18 #[r, .pointer (some ⟨q, 0, none⟩)] w (fun e w' => e = .returned (.bool true) ∧ ∃ v', RecB w' q v' (vs ++ [r]) (L ++ [R]) ∧ Keeps w w' (fun k => k = q ∨ v.ownBlock = some k) ∧ (v'.ownBlock = v.ownBlock ∨ ∃ g, v'.ownBlock = some g ∧ w.heap.size ≤ g)) := by
  obtain ⟨i0, hi0, hz0, hz1, hz2⟩ := info_parts rec_info
  obtain ⟨Av, cv, rfl, _, _⟩ := owns_len hr
  have hlt := h.1.lt
  have q0 : w.cell? ⟨q, 0, none⟩ = some v := h.1.cell 0
  have hAl : Keeps w (w.alloc (.cells #[.slice Av R.length cv] 50)) (fun _ => False) := (Keeps.refl _ _).alloc _
  have HA := Lib.hid (h.keeps hAl (fun _ _ => id))
  have HR := Lib.hid (owns_keeps hr hAl (fun _ _ => id))
  have HAP := Lib.hid ha
  have HX := Lib.hid h
  clear h hr hAl ha
  go_enter Try.func18, Try.ntmps18
  go_wp2_with (at_builtin; refine wpList_append_own_at _ rfl (.tmp 4) (.tmp 6) 27 rfl (q + 1) 50 i0 _ 1 _ Try.underlying27 hi0 hz0 hz1 hz2 rfl (by omega) v L.length _ rfl HA.out.2.1 ⟨w.heap.size, 0, none⟩ 1 1 [.slice Av R.length cv] rfl rfl (cell_one_new w _ _) (by intro u hu; simp at hu; subst hu; rfl) (by unfold maxLen; omega) (by omega) (by simp; omega) ?_; intro v4 w4 ho4 hg4 _hn4 hat4; obtain ⟨A4, p4, rfl, _hp⟩ := owns_len ho4; have H5 := Lib.hid (HA.out.more HR.out HAP.out ho4 hg4 hat4); have HG4 := Lib.hid hg4; have HT4 := Lib.hid hat4; have KE := HA.out.1.grown hg4 (ne_some HA.out.2.1 (Nat.lt_succ_self _)); have j0 : w4.cell? ⟨q, 0, none⟩ = some v := KE.cell 0; have jf := KE.frozen; clear ho4 hat4 _hn4 hg4)
  go_ret
  refine ⟨rfl, _, H5.out, ?_, ?_⟩
  · exact ((((Keeps.refl w _).alloc _).grown HG4.out (fun g hg => .inl (.inr hg)))).set q 0 _ (.inl (.inl rfl))
  · rcases HT4.out with h | h
    · exact .inl h
    · exact .inr ⟨_, h, by simp⟩

theorem first_rec (r : Value) (w : World) : Calls Try.prog 24 #[r] w (Gives (.bool true) w) := by
  apply Gives.of
  go_enter Try.func24, Try.ntmps24
  go_wp2_with fail
  go_ret
  exact ⟨rfl, Below.refl _ _⟩

end Go.Proofs.Ytdkdbmiafnadmaa
