/-
  Walks: the document's example on the mark.
-/
import Derived.Test.YtnmcbilnebfcfaaRows
import Derived.Test.YtnmcbilnebfcfaaBomR
import Derived.Test.YtnmcbilnebfcfaaBomP
namespace Go.Proofs.Ytnmcbilnebfcfaa
open Go.RowKit

def FeedIs (w : World) (q : Nat) (a u : ByteArray) (e : Ending) (w' : World) : Prop :=
  ∃ A c, e = .returned (.slice A u.size c) ∧ Own w' w.heap.size A u.size c u ∧ w.grownBy w' (some q) ∧ StBox w' q a false

theorem feed_is {a s a' u : ByteArray} {A : Option Addr} {n c q : Nat} {w : World} (h : Txt w w.heap.size A n c s) (hB : StBox w q a false) (hk : n ≤ 900000) (hu : outS a s = u) (ha : a ++ s = a') :
    Calls Try.prog 10 #[.pointer (some ⟨q, 0, none⟩), .slice A n c] w (FeedIs w q a' u) := by
  subst hu ha
  exact feed_any a s A n c q w h hB hk

theorem ex1 : outS ⟨#[]⟩ ⟨#[239]⟩ = ⟨#[]⟩ ∧ (⟨#[]⟩ ++ ⟨#[239]⟩ : ByteArray) = ⟨#[239]⟩ := by decide +kernel
theorem ex2 : outS ⟨#[239]⟩ ⟨#[187]⟩ = ⟨#[]⟩ ∧ (⟨#[239]⟩ ++ ⟨#[187]⟩ : ByteArray) = ⟨#[239, 187]⟩ := by decide +kernel
theorem ex3 : outS ⟨#[239, 187]⟩ ⟨#[65]⟩ = ⟨#[239, 187, 65]⟩ ∧ (⟨#[239, 187]⟩ ++ ⟨#[65]⟩ : ByteArray) = ⟨#[239, 187, 65]⟩ := by decide +kernel

set_option maxHeartbeats 1000000 in
theorem awake_any (w : World) : Calls Try.prog 8 #[] w (Gives (.bool true) w) := by
  apply Gives.of
  go_enter Try.func8, Try.ntmps8
  go_wp2_with fail
  go_at_call 9
  refine (new_any w).mono ?_
  rintro e w1 ⟨q, hq, rfl, hst, hb⟩
  have HS1 := Lib.hid hst
  have HB1 := Lib.hid hb
  have hlt1 : q < w1.heap.size := hst.lt
  clear hst hb
  go_wp2_with fail
  go_at_call 10
  refine (feed_is (txt_one w1 _ 239 239 rfl) (HS1.out.alloc _) (by omega) ex1.1 ex1.2).mono ?_
  rintro e w2 ⟨A2, c2, rfl, _, hg2, hst2⟩
  have HS2 := Lib.hid hst2
  have HB2 := Lib.hid ((HB1.out.alloc HB1.out.size _).grown hg2 (by have := HB1.out.size; simp; omega) (fun g hg => by injection hg with hg; omega))
  clear hst2 hg2
  go_wp2_with fail
  go_at_call 10
  refine (feed_is (txt_one w2 _ 187 187 rfl) (HS2.out.alloc _) (by omega) ex2.1 ex2.2).mono ?_
  rintro e w3 ⟨A3, c3, rfl, _, hg3, hst3⟩
  have HS3 := Lib.hid hst3
  have HB3 := Lib.hid ((HB2.out.alloc HB2.out.size _).grown hg3 (by have := HB2.out.size; simp; omega) (fun g hg => by injection hg with hg; omega))
  clear hst3 hg3
  go_wp2_with fail
  go_at_call 10
  refine (feed_is (txt_one w3 _ 65 65 rfl) (HS3.out.alloc _) (by omega) ex3.1 ex3.2).mono ?_
  rintro e w4 ⟨A4, c4, rfl, ho4, hg4, _⟩
  have HB4 := Lib.hid ((HB3.out.alloc HB3.out.size _).grown hg4 (by have := HB3.out.size; simp; omega) (fun g hg => by injection hg with hg; omega))
  have hcv : (convert 31 9 (.slice A4 3 c4)).run Try.prog w4 = .ok (.string ⟨#[239, 187, 65]⟩) w4 := ho4.txt.str _ _ _ Try.underlying31 Try.underlying5 Try.underlying9
  clear hg4 ho4
  go_wp2_with fail
  go_ret
  exact ⟨rfl, HB4.out⟩

end Go.Proofs.Ytnmcbilnebfcfaa
