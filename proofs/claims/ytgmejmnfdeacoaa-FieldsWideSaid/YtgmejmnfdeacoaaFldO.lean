/-
  Walks: what a maker tells of itself; a new one.
-/
import Derived.Test.YtgmejmnfdeacoaaRows
import Derived.Test.YtgmejmnfdeacoaaFldG
import Derived.Test.YtgmejmnfdeacoaaLimC
import Derived.Lib.SliceRun
namespace Go.Proofs.Ytgmejmnfdeacoaa
open Go.RowKit

theorem count_any (q c : Nat) (A : Option Addr) (v : Value) (l : Lim) (m : Mkr) (w : World) (h : MBox w q A c v l m) :
    Calls Try.prog 11 #[.pointer (some ⟨q, 0, none⟩)] w (fun e w' => e = .returned (.int .i64 m.ct) ∧ w' = w) := by
  have q7 : w.cell? ⟨q, 7, none⟩ = some (.int .i64 m.ct) := h.cell 7
  go_enter Try.func11, Try.ntmps11
  go_wp2_with fail
  go_ret
  exact ⟨rfl, rfl⟩
theorem begun_any (q c : Nat) (A : Option Addr) (v : Value) (l : Lim) (m : Mkr) (w : World) (h : MBox w q A c v l m) :
    Calls Try.prog 12 #[.pointer (some ⟨q, 0, none⟩)] w (fun e w' => e = .returned (.int .i64 m.bg) ∧ w' = w) := by
  have q6 : w.cell? ⟨q, 6, none⟩ = some (.int .i64 m.bg) := h.cell 6
  go_enter Try.func12, Try.ntmps12
  go_wp2_with fail
  go_ret
  exact ⟨rfl, rfl⟩
theorem stopped_any (q c : Nat) (A : Option Addr) (v : Value) (l : Lim) (m : Mkr) (w : World) (h : MBox w q A c v l m) :
    Calls Try.prog 9 #[.pointer (some ⟨q, 0, none⟩)] w (fun e w' => e = .returned (.int .i64 m.st) ∧ w' = w) := by
  have q9 : w.cell? ⟨q, 9, none⟩ = some (.int .i64 m.st) := h.cell 9
  go_enter Try.func9, Try.ntmps9
  go_wp2_with fail
  go_ret
  exact ⟨rfl, rfl⟩

/-- A copy of a slice of strings is the call's own. -/
theorem clone_any (b : Nat) (v : Value) (L : List ByteArray) (w : World) (h : OwnS w b v L) (hs : L.length ≤ 2000000) :
    Calls Try.prog 20 #[v] w (fun e w' => ∃ v', e = .returned v' ∧ OwnS w' w.heap.size v' L ∧ Below w.heap.size w w') := by
  obtain ⟨i0, hi, hz0, hz1, hz2⟩ := info_parts str_info
  have hnil := fun (w : World) (a : Option Addr) (n c n' c' : Nat) => Lib.run_eql_slice_nil (P := Try.prog) w 32 9 a n c n' c' Try.underlying32
  rcases owns_cases h with ⟨rfl, hn⟩ | ⟨g, cap, rfl, h4, h5, h6, h7⟩
  · have : L = [] := List.length_eq_zero_iff.1 hn
    subst this
    clear h
    go_enter Try.func20, Try.ntmps20
    go_wp2_with fail
    refine bodyPost_ret (v := .slice none 0 0) (by simp [results, Try.results20]) rfl ?_
    exact ⟨_, rfl, World.ownsRow_nil _ _ _ _, Below.refl _ _⟩
  · have hm := h7
    unfold maxLen at hm
    have H := Lib.hid h
    have hnew : Hid (∀ j u, (strC L)[j]? = some u → (w.alloc (.cells #[] 9)).cell? ((⟨g, 0, none⟩ : Addr).add j) = some u) := Lib.hid (fun j u hu => by
      have h0 := h.cells (g := g) rfl j u hu
      rw [add_zero_off] at h0 ⊢
      rw [World.cell?_of_block (w := w) (a := ⟨g, j, none⟩) (Below.heap_alloc w _ g h5)]
      exact h0)
    have hmade : Hid ((w.alloc (.cells #[] 9)).ownsRow w.heap.size 9 1 (.slice (some ⟨w.heap.size, 0, none⟩) 0 0) 0 []) := Lib.hid (World.ownsRow_made w #[] 0 (Nat.le_refl _) (by omega) rfl)
    clear h
    go_enter Try.func20, Try.ntmps20
    go_wp2_with (at_builtin; refine wpList_append_own_at _ rfl (.tmp 5) (.tmp 6) 32 rfl w.heap.size 9 i0 _ 1 _ Try.underlying32 hi hz0 hz1 hz2 rfl (by omega) (.slice (some ⟨w.heap.size, 0, none⟩) 0 0) 0 [] rfl hmade.out ⟨g, 0, none⟩ L.length cap (strC L) rfl (by rw [strC_len]; omega) hnew.out (strC_one L) (by unfold maxLen; omega) (by omega) (by simp) ?_; intro v2 w2 ho2 hg2 _hn2 hat)
    refine bodyPost_ret (v := v2) (by simp [results, Try.results20]) rfl ?_
    have e1 : 0 + L.length = L.length := Nat.zero_add _
    rw [e1, List.nil_append] at ho2
    refine ⟨_, rfl, ho2, ((Below.refl _ _).alloc (Nat.le_refl _) _).grown hg2 (by simp) (fun g hg => by injection hg with hg; subst hg; exact Nat.le_refl _)⟩

def OpenPost (w : World) (m : Mkr) (e : Ending) (w' : World) : Prop := ∃ r, e = .returned (.tuple #[r, .string m.fd]) ∧ OwnS w' w.heap.size r m.rc ∧ Below w.heap.size w w'

set_option maxHeartbeats 2000000 in
theorem open_any (q c : Nat) (A : Option Addr) (v : Value) (l : Lim) (m : Mkr) (w : World) (h : MBox w q A c v l m) (hs : m.rc.length ≤ 2000000) :
    Calls Try.prog 10 #[.pointer (some ⟨q, 0, none⟩)] w (OpenPost w m) := by
  have hlt := h.lt
  have q4 : w.cell? ⟨q, 4, none⟩ = some (.slice A m.fd.size c) := h.cell 4
  have q5 : w.cell? ⟨q, 5, none⟩ = some v := h.cell 5
  have hcv : (convert 54 9 (.slice A m.fd.size c)).run Try.prog w.drew = .ok (.string m.fd) w.drew := h.2.1.txt.drew.str _ _ _ Try.underlying54 Try.underlying5 Try.underlying9
  have H := Lib.hid h
  clear h
  go_enter Try.func10, Try.ntmps10
  go_wp2_with fail
  go_region_with (go_at_call 20; refine (clone_any (q + 1) v m.rc w.drew H.out.2.2.1 hs).mono ?_; rintro e w2 ⟨v', rfl, ho, hb⟩; have hb' : Below w.heap.size w w2 := (Below.refl _ _).drew.trans hb; have k4 : w2.cell? ⟨q, 4, none⟩ = some (.slice A m.fd.size c) := (hb'.cell (p := ⟨q, 4, none⟩) hlt).trans q4; have hcv2 : (convert 54 9 (.slice A m.fd.size c)).run Try.prog w2 = .ok (.string m.fd) w2 := (H.out.2.1.txt.below hb').str _ _ _ Try.underlying54 Try.underlying5 Try.underlying9; have HO := Lib.hid ho; have HB := Lib.hid hb'; clear ho hb hb')
  all_goals
    go_wp2_with fail
    refine bodyPost_ret (v := .tuple #[v', .string m.fd]) (by simp [results, Try.results10, go_sem]) rfl ?_
    exact ⟨v', rfl, HO.out, HB.out⟩

theorem new_ok (l : Lim) (w : World) (hf : fitsB l.fs l.fl l.rs = true) :
    Calls Try.prog 6 #[.agg #[.int .i64 l.fs, .int .i64 l.fl, .int .i64 l.rs, .bool l.un]] w (fun e w' => ∃ q, w.heap.size ≤ q ∧ e = .returned (.tuple #[.pointer (some ⟨q, 0, none⟩), .int .i64 0]) ∧ MBox w' q none 0 (.slice none 0 0) l mkr0 ∧ Below w.heap.size w w') := by
  have hcell := fun (W : World) (x : Later W) => x.cell
  have HC := Lib.hid (fun W => checkLimits_ok l.fs l.fl l.rs l.un W hf)
  go_enter Try.func6, Try.ntmps6
  go_wp2_with ((go_at_call 17; (first | (with_reducible refine (later_call _ (HC.out _)).mono ?_) | (with_reducible refine (call_later (HC.out _)).mono ?_)); rintro e w' ⟨rfl, x, rfl⟩))
  refine bodyPost_ret (v := .tuple #[.pointer (some ⟨x.w.heap.size, 0, none⟩), .int .i64 0]) (by simp [results, Try.results6]) rfl ?_
  refine ⟨x.w.heap.size, ?_, rfl, ⟨Box.new _ _ _, Own.nil _ _, World.ownsRow_nil _ _ _ _, fun a ha => by cases ha⟩, ?_⟩
  · have := x.size; simp at this; omega
  · (repeat (first | (with_reducible exact Below.refl _ _) | (with_reducible refine later_below _ ?_) | (with_reducible refine alloc_below ?_ _) | (with_reducible refine Below.drew ?_)))
theorem new_no (l : Lim) (w : World) (hf : fitsB l.fs l.fl l.rs = false) :
    Calls Try.prog 6 #[.agg #[.int .i64 l.fs, .int .i64 l.fl, .int .i64 l.rs, .bool l.un]] w (Gives (.tuple #[.pointer none, .int .i64 2]) w) := by
  apply Gives.of
  have hcell := fun (W : World) (x : Later W) => x.cell
  have HC := Lib.hid (fun W => checkLimits_no l.fs l.fl l.rs l.un W hf)
  go_enter Try.func6, Try.ntmps6
  go_wp2_with ((go_at_call 17; (first | (with_reducible refine (later_call _ (HC.out _)).mono ?_) | (with_reducible refine (call_later (HC.out _)).mono ?_)); rintro e w' ⟨rfl, x, rfl⟩))
  refine bodyPost_ret (v := .tuple #[.pointer none, .int .i64 2]) (by simp [results, Try.results6]) rfl ?_
  refine ⟨rfl, ?_⟩
  (repeat (first | (with_reducible exact Below.refl _ _) | (with_reducible refine later_below _ ?_) | (with_reducible refine alloc_below ?_ _) | (with_reducible refine Below.drew ?_)))

end Go.Proofs.Ytgmejmnfdeacoaa
