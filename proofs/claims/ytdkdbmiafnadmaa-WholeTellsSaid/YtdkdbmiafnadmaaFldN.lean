/-
  Walks: a new maker.
-/
import Derived.Test.YtdkdbmiafnadmaaRows
import Derived.Test.YtdkdbmiafnadmaaFldP
import Derived.Test.YtdkdbmiafnadmaaLimC
namespace Go.Proofs.Ytdkdbmiafnadmaa
open Go.RowKit

theorem new_ok (l : Lim) (w : World) (hf : fitsB l.fs l.fl l.rs = true) :
    Calls Try.prog 37 #[.agg #[.int .i64 l.fs, .int .i64 l.fl, .int .i64 l.rs, .bool l.un]] w (fun e w' => ∃ q, w.heap.size ≤ q ∧ e = .returned (.tuple #[.pointer (some ⟨q, 0, none⟩), .int .i64 0]) ∧ MBox w' q none 0 (.slice none 0 0) l mkr0 ∧ Below w.heap.size w w') := by
  have hcell := fun (W : World) (x : Later W) => x.cell
  have HC := Lib.hid (fun W => checkLimits_ok l.fs l.fl l.rs l.un W hf)
  go_enter Try.func37, Try.ntmps37
  go_wp2_with ((go_at_call 50; (first | (with_reducible refine (later_call _ (HC.out _)).mono ?_) | (with_reducible refine (call_later (HC.out _)).mono ?_)); rintro e w' ⟨rfl, x, rfl⟩))
  refine bodyPost_ret (v := .tuple #[.pointer (some ⟨x.w.heap.size, 0, none⟩), .int .i64 0]) (by simp [results, Try.results37]) rfl ?_
  refine ⟨x.w.heap.size, ?_, rfl, ⟨Box.new _ _ _, Own.nil _ _, World.ownsRow_nil _ _ _ _, fun a ha => by cases ha⟩, ?_⟩
  · have := x.size; simp at this; omega
  · (repeat (first | (with_reducible exact Below.refl _ _) | (with_reducible refine later_below _ ?_) | (with_reducible refine alloc_below ?_ _) | (with_reducible refine Below.drew ?_)))
theorem new_no (l : Lim) (w : World) (hf : fitsB l.fs l.fl l.rs = false) :
    Calls Try.prog 37 #[.agg #[.int .i64 l.fs, .int .i64 l.fl, .int .i64 l.rs, .bool l.un]] w (Gives (.tuple #[.pointer none, .int .i64 2]) w) := by
  apply Gives.of
  have hcell := fun (W : World) (x : Later W) => x.cell
  have HC := Lib.hid (fun W => checkLimits_no l.fs l.fl l.rs l.un W hf)
  go_enter Try.func37, Try.ntmps37
  go_wp2_with ((go_at_call 50; (first | (with_reducible refine (later_call _ (HC.out _)).mono ?_) | (with_reducible refine (call_later (HC.out _)).mono ?_)); rintro e w' ⟨rfl, x, rfl⟩))
  refine bodyPost_ret (v := .tuple #[.pointer none, .int .i64 2]) (by simp [results, Try.results37]) rfl ?_
  refine ⟨rfl, ?_⟩
  (repeat (first | (with_reducible exact Below.refl _ _) | (with_reducible refine later_below _ ?_) | (with_reducible refine alloc_below ?_ _) | (with_reducible refine Below.drew ?_)))

end Go.Proofs.Ytdkdbmiafnadmaa
