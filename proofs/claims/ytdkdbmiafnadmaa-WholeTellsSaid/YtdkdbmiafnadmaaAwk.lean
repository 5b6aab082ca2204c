/-
  Walks: the document's example on whole texts.
-/
import Derived.Test.YtdkdbmiafnadmaaRows
import Derived.Test.YtdkdbmiafnadmaaPse
namespace Go.Proofs.Ytdkdbmiafnadmaa
open Go.RowKit

def exS : ByteArray := ⟨#[97, 44, 34, 98, 34, 34, 99, 34, 10, 10, 100]⟩
def exLim : Lim := ⟨9, 9, 9, false⟩
def exT : List (List ByteArray) := [[⟨#[97]⟩, ⟨#[98, 34, 99]⟩], [⟨#[100]⟩]]
theorem ex_res : resT 44 34 1 exLim exS = exT ∧ resK 44 34 1 exLim exS = 0 ∧ resA 44 34 1 exLim exS = 0 := by
  refine ⟨?_, ?_, ?_⟩ <;> (refine (?_ : _ = _); kernel_rfl)

theorem Tbl.at_ {w : World} {v : Value} {T : List (List ByteArray)} (h : Tbl w v T) : ∃ A c, v = .slice A T.length c ∧ T.length ≤ c ∧ c ≤ 9223372036854775807 ∧ ∀ j L, T[j]? = some L → ∃ a r, A = some a ∧ w.cell? (a.add j) = some r ∧ Strs w r L := by
  obtain ⟨A, c, h1, h2, h3, h4⟩ := h
  exact ⟨A, c, h1, h2, by unfold maxLen at h3; omega, h4⟩
/-- A literal of strings. -/
theorem strs_lit (w : World) (t : TypeId) (L : List ByteArray) (n : Nat) (hn : n = L.length) (hl : n ≤ maxLen) (cs : Array Value) (hcs : cs = (strC L).toArray) : Strs (w.alloc (.cells cs t)) (.slice (some ⟨w.heap.size, 0, none⟩) n n) L := by
  subst hn hcs
  refine ⟨_, _, rfl, Nat.le_refl _, hl, fun j s hs => ⟨_, rfl, ?_⟩⟩
  rw [add_zero_off]
  refine Eq.trans (World.cell?_alloc_mark w (strC L).toArray t (0, 0) j) ?_
  rw [List.getElem?_toArray, strC_get, hs]
  rfl

set_option maxHeartbeats 2000000 in
theorem awake_any (w : World) : Calls Try.prog 5 #[] w (Gives (.bool true) w) := by
  apply Gives.of
  have hcell := fun (W : World) (x : Later W) => x.cell
  have HP := Lib.hid (parse_any 44 34 1 exLim exS w (by decide))
  unfold ParP at HP
  rw [ex_res.1, ex_res.2.1, ex_res.2.2] at HP
  go_enter Try.func5, Try.ntmps5
  go_upto_region 2 with (go_at_call 6; refine HP.out.mono ?_; rintro e w1 ⟨v, rfl, ht, hb⟩; have HT := Lib.hid ht; have HB := Lib.hid hb; clear ht hb)
  obtain ⟨A, c, rfl, hc1, hc2, hA⟩ := HT.out.at_
  obtain ⟨a, r0, rfl, h0, hs0⟩ := hA 0 _ rfl
  obtain ⟨a', r1, ha, h1, hs1⟩ := hA 1 _ rfl
  injection ha with ha
  subst ha
  have hl : exT.length = 2 := rfl
  rw [hl] at hc1 ⊢
  have b0 := World.block_lt_of_cell? w1 _ h0
  have b1 := World.block_lt_of_cell? w1 _ h1
  clear hA HT HP
  have H0 := Lib.hid hs0
  have H1 := Lib.hid hs1
  have HA := Lib.hid (show ∀ W : World, Below w1.heap.size w1 W → Calls Try.prog 16 #[r0, .slice (some ⟨W.heap.size, 0, none⟩) 2 2] (W.alloc (.cells #[.string ⟨#[97]⟩, .string ⟨#[98, 34, 99]⟩] 9)) (Gives (.bool true) (W.alloc (.cells #[.string ⟨#[97]⟩, .string ⟨#[98, 34, 99]⟩] 9))) from fun W hW => same_any r0 _ _ [⟨#[97]⟩, ⟨#[98, 34, 99]⟩] _ ((H0.out.below hW).below ((Below.refl _ _).alloc (Nat.le_refl _) _)) (strs_lit W _ _ 2 rfl (by decide) _ rfl))
  have HC := Lib.hid (show ∀ W : World, Below w1.heap.size w1 W → Calls Try.prog 16 #[r1, .slice (some ⟨W.heap.size, 0, none⟩) 1 1] (W.alloc (.cells #[.string ⟨#[100]⟩] 9)) (Gives (.bool true) (W.alloc (.cells #[.string ⟨#[100]⟩] 9))) from fun W hW => same_any r1 _ _ [⟨#[100]⟩] _ ((H1.out.below hW).below ((Below.refl _ _).alloc (Nat.le_refl _) _)) (strs_lit W _ _ 1 rfl (by decide) _ rfl))
  clear hs0 hs1
  have ea : a.add 1 = ⟨a.block, a.off + 1, none⟩ := rfl
  have k1 : w1.cell? ⟨a.block, a.off + 1, none⟩ = some r1 := ea ▸ h1
  have kb1 : (⟨a.block, a.off + 1, none⟩ : Addr).block < w1.heap.size := b0
  have hf := Box.new w1 30 #[.int .i64 0, .int .i64 0]
  have hb1 : Below w1.heap.size w1 (w1.alloc (.cells #[.int .i64 0, .int .i64 0] 30)) := (Below.refl _ _).alloc (Nat.le_refl _) _
  have a0 : a.add 0 = a := rfl
  rw [a0] at h0 b0
  generalize hW : w1.alloc (.cells #[.int .i64 0, .int .i64 0] 30) = W0 at hf hb1 ⊢
  have g0 : W0.cell? a = some r0 := (hb1.cell b0).trans h0
  have f0 : W0.cell? ⟨w1.heap.size, 0, none⟩ = some (.int .i64 0) := hf.cell 0
  have f1 : W0.cell? ⟨w1.heap.size, 1, none⟩ = some (.int .i64 0) := hf.cell 1
  have HB1 := Lib.hid hb1
  have HS1 := Lib.hid hb1.size
  clear hf hb1 hW
  go_wp2_with (first | (go_at_call 16; with_reducible refine (call_later (HA.out W0 HB1.out)).mono ?_; rintro e w' ⟨rfl, x, rfl⟩; have hb2 := HB1.out.trans (x.end1.mono HS1.out); have k1' : x.w.cell? ⟨a.block, a.off + 1, none⟩ = some r1 := (hb2.cell kb1).trans k1; have HB2 := Lib.hid hb2; clear hb2) | (go_at_call 16; with_reducible refine (call_later (HC.out x.w HB2.out)).mono ?_; rintro e w' ⟨rfl, y, rfl⟩; have HB3 := Lib.hid (HB2.out.trans (y.end1.mono HB2.out.size))))
  go_ret
  exact ⟨rfl, HB.out.trans (HB3.out.mono HB.out.size)⟩

end Go.Proofs.Ytdkdbmiafnadmaa
