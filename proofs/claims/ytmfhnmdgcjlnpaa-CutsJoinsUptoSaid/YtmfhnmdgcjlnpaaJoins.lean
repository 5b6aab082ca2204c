/-
  Any pieces are joined, one behind the other.
  Conditions: what comes in is of the bulk that the statement names.
-/
import Derived.Test.YtmfhnmdgcjlnpaaRows
import Derived.Test.YtmfhnmdgcjlnpaaLawU
import Derived.Test.YtmfhnmdgcjlnpaaOpenI
import Derived.Test.YtmfhnmdgcjlnpaaCtL
import Derived.Lib.Hide
namespace Go.Proofs.Ytmfhnmdgcjlnpaa
open Go.RowKit Go.ChangeShapes Go.WideShapes Go.ChangeAt

theorem bulk_texts {H : Type} (L : List ByteArray) : (catB L).size + L.length ≤ Rows.uptoBulkAll (strs (H := H) L) := by
  induction L with
  | nil => simp [catB]; show (⟨#[]⟩ : ByteArray).size ≤ _; exact Nat.zero_le _
  | cons s L ih =>
    show (s ++ catB L).size + (L.length + 1) ≤ Rows.uptoBulkAll (DataW.lit (.string s.data.toList) :: strs L)
    have e : s.data.toList.length = s.size := by rw [Array.length_toList]; rfl
    simp only [ByteArray.size_append, Rows.uptoBulkAll, Rows.uptoBulk]
    omega

theorem open_joined {H : Type} {enc : TypeId × Value → H} {W : World} {base : Nat} {v : Value} {d : DataW H} {p : List MemPlace}
    (hv : Value.okWide Try.prog W .any base 24 v) (h : DataW.Trod enc Try.prog W 0 (fun _ => true) true 24 v d p) (hb : Rows.uptoBulkAll [d] ≤ 1048576) : ∃ L, Strs W v L ∧ (catB L).size + L.length ≤ 1048576 := by
  obtain ⟨A, len, cap, rfl⟩ := okWide_slice Try.underlying24 hv
  obtain ⟨fuel, hf⟩ := h
  rcases open_strings Try.underlying24 Try.underlying9 (by kernel_rfl) hf with ⟨hcs, _⟩ | ⟨a, len', cap', zs, hcs, _, hl, hm, hz, hx, hcell, hwz⟩
  · simp [Value.cells] at hcs
    obtain ⟨rfl, rfl, rfl⟩ := hcs
    exact ⟨[], ⟨none, 0, rfl, Nat.le_refl _, Nat.zero_le _, fun j x hx => by simp at hx⟩, by show (⟨#[]⟩ : ByteArray).size + 0 ≤ _; exact Nat.zero_le _⟩
  · simp [Value.cells] at hcs
    obtain ⟨rfl, rfl, rfl⟩ := hcs
    simp only [if_true] at hz
    simp only [Prod.mk.injEq] at hx
    have hl' : (zs.take len).length = len := by rw [List.length_take]; omega
    refine ⟨zs.take len, ⟨some a, cap, by rw [hl'], by rw [hl']; exact hl, hm, fun j x hx => ⟨a, rfl, ?_⟩⟩, ?_⟩
    · have hj : j < len := by have := (List.getElem?_eq_some_iff.1 hx).1; omega
      rw [hcell j (by omega)]
      rw [List.getElem?_take_of_lt hj] at hx
      simp [List.getD, hx]
    · rw [hx.1] at hb
      have := bulk_texts (H := H) (zs.take len)
      simp only [Rows.uptoBulkAll, Rows.uptoBulk] at hb
      omega

set_option maxHeartbeats 4000000 in
theorem joins_any (v : Value) (L : List ByteArray) (w : World) (h : Strs w v L) (hs : (catB L).size + L.length ≤ 1048576) : Calls Try.prog 5 #[v] w (Gives (.bool true) w) := by
  apply Gives.of
  by_cases h1 : L.length ≤ 60
  · have i1 : ¬ ((L.length : Int) > 60) := by omega
    have HP := Lib.hid (joinP_any v L w h (by omega) (by omega))
    have HJ := Lib.hid (fun W (hb : Below w.heap.size w W) => joined_any v L W (h.below hb) (by omega))
    have HW := Lib.hid (fun W => awake_any W)
    obtain ⟨A, c, rfl, _, _, _⟩ := h
    go_enter Try.func5, Try.ntmps5
    go_wp2_with (first
      | (go_at_call 13; refine HP.out.mono ?_; rintro e w2 ⟨rfl, hb2⟩; have HB2 := Lib.hid hb2; clear hb2)
      | (go_at_call 12; refine (HJ.out _ HB2.out).mono ?_; rintro e w6 ⟨rfl, hb6⟩; have HB6 := Lib.hid (below_next HB2.out (Nat.le_refl _) hb6); clear hb6)
      | (go_at_call 8; refine (awake_any w6).mono ?_; rintro e w8 ⟨rfl, hb8⟩; have HB8 := Lib.hid (below_next HB6.out (Nat.le_refl _) hb8); clear hb8))
    go_ret
    exact ⟨rfl, HB8.out⟩
  · have i1 : (L.length : Int) > 60 := by omega
    obtain ⟨A, c, rfl, _, _, _⟩ := h
    have HW := Lib.hid (fun W => awake_any W)
    clear h1
    go_enter Try.func5, Try.ntmps5
    go_wp2_with ((go_at_call 8; (first | (with_reducible refine (later_call _ (HW.out _)).mono ?_) | (with_reducible refine (call_later (HW.out _)).mono ?_)); rintro e w' ⟨rfl, x, rfl⟩))
    go_ret
    exact ⟨rfl, x.below⟩

set_option maxRecDepth 100000 in
theorem joins_lifted (os : Os) (started : os.Started) (H : Type) (enc : TypeId × Value → H) (I : Stop.Interp) :
    ReturnsInHanded {} Try.checked os 5 .any ((Rows.OpenSpec.upto Rows.cutsJoinsSpec).pre6 enc Try.prog Try.f5 Rows.cutsJoinsUptoRow.domain false) (((Rows.OpenSpec.upto Rows.cutsJoinsSpec).at I).post enc Try.prog Try.f5 false true false false) := by
  refine upto_lift (tb := 4) I started (by kernel_rfl) Try.func5
    (OpenSpec.witness (enc := enc) (C := Try.checked) (s := Rows.OpenSpec.upto Rows.cutsJoinsSpec) (k := Rows.uptoSmall) rfl false ⟨#[], #[.slice none 0 0], []⟩ 8 (by kernel_rfl) (by kernel_rfl) (by kernel_rfl)
      (x := ([.nil], [], [])) (by kernel_rfl) rfl (by kernel_rfl))
    rfl Try.underlying4 (by intro t ht; have ht' : t ∈ [24] := ht; simp at ht'; subst ht'; exact ⟨by kernel_rfl, of_decide_eq_true (by kernel_rfl)⟩) rfl
    (fun ds h => match ds, h with | [_], _ => rfl) ?_
  intro W base args ds ps hh hb
  obtain ⟨v, d, p, rfl, hv, h0, hd⟩ : ∃ v d p, args = #[v] ∧ Value.okWide Try.prog W .any base 24 v ∧ DataW.Trod enc Try.prog W 0 (fun _ => true) true 24 v d p ∧ ds = [d] := by
    obtain ⟨hval, hA, _⟩ := hh
    have hpar : Try.f5.params = #[24] := Try.params5
    rw [hpar] at hA hval
    obtain ⟨v, d, rfl, hd, h0⟩ := trodAll_one hA
    exact ⟨v, d, ps, rfl, hval 0 _ v rfl rfl, h0, hd⟩
  subst hd
  obtain ⟨L, hL, hbl⟩ := open_joined hv h0 hb
  exact joins_any v L W hL hbl

theorem joins_holds : Rows.CutsJoinsUptoSaid :=
  OpenClaim.holds_of_cond 5 Try.f5 rfl rfl rfl rfl rfl rfl rfl ⟨rfl, rfl, rfl, rfl, rfl⟩ rfl rfl rfl rfl rfl (by kernel_rfl) Try.func5 (by kernel_rfl)
    (of_decide_eq_true (by kernel_rfl)) (by unfold Func.isWrapper; first | (rw [if_pos (by decide +kernel)]; kernel_rfl) | (rw [if_neg (by decide +kernel)]; exact ⟨rfl, rfl⟩))
    (fun os started H enc _ I => joins_lifted os started H enc I)
#print axioms joins_holds

end Go.Proofs.Ytmfhnmdgcjlnpaa
