/-
  Walks: the document's answers on UTF-8.
-/
import Derived.Test.YtajedohgcepkiaaDoorRows
import Derived.Test.YtajedohgcepkiaaDoorBase
import Derived.Lib.Hide
namespace Go.Proofs.YtajedohgcepkiaaDoor.Utf
open Go.RowKit

/-- The bytes of a code point. -/
def putL (c : Int) : List Int :=
  if c < 128 then [c] else if c < 2048 then [192 + c / 64, 128 + c % 64] else if c < 65536 then [224 + c / 4096, 128 + c / 64 % 64, 128 + c % 64]
  else [240 + c / 262144, 128 + c / 4096 % 64, 128 + c / 64 % 64, 128 + c % 64]
def putM (c : Int) : ByteArray := ⟨((putL c).map toB).toArray⟩

theorem put_any (c : Int) (w : World) (h0 : 0 ≤ c) (h1 : c ≤ 1114111) : Calls Tryd.prog 41 #[.int .i64 c] w (Gives (.string (putM c)) w) := by
  apply Gives.of
  have hcv := fun W => convert_ints (P := Tryd.prog) W 56 9 5 Tryd.underlying56 Tryd.underlying5 Tryd.underlying9
  by_cases c1 : c < 128
  · have k := fun W => hcv W [c] (by simp; omega) 1 rfl _ rfl
    clear hcv
    simp only [List.map] at k
    go_enter Tryd.func41, Tryd.ntmps41
    go_wp2
    go_ret
    refine ⟨ret_string ?_, by go_grown⟩
    unfold putM putL
    rw [if_pos c1]; rfl
  by_cases c2 : c < 2048
  · have k := fun W => hcv W [192 + c / 64, 128 + c % 64] (by simp; omega) 2 rfl _ rfl
    clear hcv
    simp only [List.map] at k
    go_enter Tryd.func41, Tryd.ntmps41
    go_wp2
    go_ret
    refine ⟨ret_string ?_, by go_grown⟩
    unfold putM putL
    rw [if_neg (by omega), if_pos c2]; rfl
  by_cases c3 : c < 65536
  · have k := fun W => hcv W [224 + c / 4096, 128 + c / 64 % 64, 128 + c % 64] (by simp; omega) 3 rfl _ rfl
    clear hcv
    simp only [List.map] at k
    go_enter Tryd.func41, Tryd.ntmps41
    go_wp2
    go_ret
    refine ⟨ret_string ?_, by go_grown⟩
    unfold putM putL
    rw [if_neg (by omega), if_neg (by omega), if_pos c3]; rfl
  · have k := fun W => hcv W [240 + c / 262144, 128 + c / 4096 % 64, 128 + c / 64 % 64, 128 + c % 64] (by simp; omega) 4 rfl _ rfl
    clear hcv
    simp only [List.map] at k
    go_enter Tryd.func41, Tryd.ntmps41
    go_wp2
    go_ret
    refine ⟨ret_string ?_, by go_grown⟩
    unfold putM putL
    rw [if_neg (by omega), if_neg (by omega), if_neg (by omega)]; rfl

end Go.Proofs.YtajedohgcepkiaaDoor.Utf
