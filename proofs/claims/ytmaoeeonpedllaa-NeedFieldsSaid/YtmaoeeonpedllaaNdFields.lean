/-
  Which fields of any record must be quoted is what the document says, field by field: the law NeedFields returns true for every dialect and record.
  Conditions: none.
-/
import Derived.Test.YtmaoeeonpedllaaRows
import Derived.Test.YtmaoeeonpedllaaOpenD
import Derived.Test.YtmaoeeonpedllaaOpenS
import Derived.Test.YtmaoeeonpedllaaNdA
namespace Go.Proofs.Ytmaoeeonpedllaa
open Go.RowKit

theorem below_next {w W W' : World} (h : Below w.heap.size w W) (_hl : W.heap.size ≤ W.heap.size) (hb : Below W.heap.size W W') : Below w.heap.size w W' := h.trans (hb.mono h.size)

theorem fields_few (p q : Nat) (n : Int) (v : Value) (L : List ByteArray) (fi : Bool) (w : World) (hv : Strs w v L) (hm : ∀ s ∈ L, s.size ≤ 140737488351232) (hf : fewB L = false) : Calls Try.prog 4 #[.agg #[.int .u8 p, .int .u8 q, .int .i64 n], v, .bool fi] w (Gives (.bool true) w) := by
  apply Gives.of
  have hcell := fun (W : World) (x : Later W) => x.cell
  have HA := Lib.hid awake_any
  have HW : Hid (∀ x : Later w, Calls Try.prog 14 #[v] x.w (Gives (.bool false) x.w)) := Lib.hid (fun x => hf ▸ few_any v L x.w (hv.below x.below) hm)
  obtain ⟨A, c, rfl, _, _, _⟩ := hv
  clear hm hf
  go_enter Try.func4, Try.ntmps4
  go_wp2_with (first | (go_at_call 9; (first | (with_reducible refine (later_call _ (HA.out _)).mono ?_) | (with_reducible refine (call_later (HA.out _)).mono ?_)); rintro e w' ⟨rfl, x, rfl⟩) | (go_at_call 14; refine (call_later (HW.out ⟨_, one_alloc _ _⟩)).mono ?_; rintro e w' ⟨rfl, x, rfl⟩))
  go_ret
  refine ⟨rfl, ?_⟩
  (repeat (first | (with_reducible exact Below.refl _ _) | (with_reducible refine later_below _ ?_) | (with_reducible refine alloc_below ?_ _) | (with_reducible refine Below.drew ?_) | (refine Below.setCell ?_ (by first | exact Nat.le_refl _ | (simp; done) | (simp; omega) | omega) _)))

theorem fields_bad (p q : Nat) (n : Int) (v : Value) (L : List ByteArray) (fi : Bool) (w : World) (hp : p < 256) (hq : q < 256) (hv : Strs w v L) (hm : ∀ s ∈ L, s.size ≤ 140737488351232) (hf : fewB L = true) (hok : okB p q n = false) : Calls Try.prog 4 #[.agg #[.int .u8 p, .int .u8 q, .int .i64 n], v, .bool fi] w (Gives (.bool true) w) := by
  apply Gives.of
  have hcell := fun (W : World) (x : Later W) => x.cell
  have HA := Lib.hid awake_any
  have HF := Lib.hid (fun W => ref_any p q n W hp hq)
  have HR := Lib.hid (fun W => hok ▸ right_any p q n W)
  have HW : Hid (∀ x : Later w, Calls Try.prog 14 #[v] x.w (Gives (.bool true) x.w)) := Lib.hid (fun x => hf ▸ few_any v L x.w (hv.below x.below) hm)
  obtain ⟨A, c, rfl, _, _, _⟩ := hv
  clear hm hf hok hp hq
  go_enter Try.func4, Try.ntmps4
  go_wp2_with (first | (go_at_call 9; (first | (with_reducible refine (later_call _ (HA.out _)).mono ?_) | (with_reducible refine (call_later (HA.out _)).mono ?_)); rintro e w' ⟨rfl, x, rfl⟩) | (go_at_call 8; (first | (with_reducible refine (later_call _ (HF.out _)).mono ?_) | (with_reducible refine (call_later (HF.out _)).mono ?_)); rintro e w' ⟨rfl, x, rfl⟩) | (go_at_call 7; (first | (with_reducible refine (later_call _ (HR.out _)).mono ?_) | (with_reducible refine (call_later (HR.out _)).mono ?_)); rintro e w' ⟨rfl, x, rfl⟩) | (go_at_call 14; refine (call_later (HW.out ⟨_, one_alloc _ _⟩)).mono ?_; rintro e w' ⟨rfl, x, rfl⟩))
  go_ret
  refine ⟨rfl, ?_⟩
  (repeat (first | (with_reducible exact Below.refl _ _) | (with_reducible refine later_below _ ?_) | (with_reducible refine alloc_below ?_ _) | (with_reducible refine Below.drew ?_) | (refine Below.setCell ?_ (by first | exact Nat.le_refl _ | (simp; done) | (simp; omega) | omega) _)))

set_option maxHeartbeats 4000000 in
theorem fields_main (p q : Nat) (n : Int) (v : Value) (L : List ByteArray) (fi : Bool) (w : World) (hp : p < 256) (hq : q < 256) (hv : Strs w v L) (hm : ∀ s ∈ L, s.size ≤ 140737488351232) (hf : fewB L = true) (hok : okB p q n = true) : Calls Try.prog 4 #[.agg #[.int .u8 p, .int .u8 q, .int .i64 n], v, .bool fi] w (Gives (.bool true) w) := by
  apply Gives.of
  have hcell := fun (W : World) (x : Later W) => x.cell
  have HA := Lib.hid awake_any
  have HF := Lib.hid (fun W => ref_any p q n W hp hq)
  have HR := Lib.hid (fun W => hok ▸ right_any p q n W)
  have HO : Hid (∀ b W, Calls Try.prog 11 #[.bool b] W (Gives (.int .i64 (one01 b)) W)) := Lib.hid (fun b W => one_any b W)
  have HW : Hid (∀ x : Later w, Calls Try.prog 14 #[v] x.w (Gives (.bool true) x.w)) := Lib.hid (fun x => hf ▸ few_any v L x.w (hv.below x.below) hm)
  obtain ⟨hl20, hs4⟩ := fewB_spec hf
  have hsm : ∀ s ∈ L, s.size ≤ 400 := fun s hs => Nat.le_trans (sumN_mem L s hs) hs4
  have HSM := Lib.hid hsm
  have HL := Lib.hid hl20
  have HC : Hid (∀ W, Strs W v L → Calls Try.prog 15 #[.agg #[.int .u8 p, .int .u8 q, .int .i64 n], v, .bool fi] W (BoolsP (fieldB p q L fi) L.length W)) := Lib.hid (fun W hW => fields_any p q n v L fi W hW (by omega) (fun s hs => by have := hsm s hs; omega) hp hq)
  have HV := Lib.hid hv
  obtain ⟨al, hal⟩ : ∃ al, ((L.length : Int) == 1) = al := ⟨_, rfl⟩
  have hal2 : decide (L.length = 1) = al := by rw [← hal]; rw [Bool.eq_iff_iff]; simp; omega
  have HFB : Hid (∀ j s, L[j]? = some s → fieldB p q L fi j = decide (whyN p q s al (fi && decide (j = 0)) ≠ 0)) := Lib.hid (fun j s h => by
    unfold fieldB
    rw [hal2]
    have : L.getD j ⟨#[]⟩ = s := by rw [List.getD_eq_getElem?_getD, h]; rfl
    rw [this])
  obtain ⟨A, c, rfl, hc1, hc2, hA⟩ := hv
  have HAA := Lib.hid hA
  unfold maxLen at hc2
  clear hm hf hok hp hq hsm hs4 hal2 hA hl20
  go_enter Try.func4, Try.ntmps4
  go_wp2_with (first | (go_at_call 8; (first | (with_reducible refine (later_call _ (HF.out _)).mono ?_) | (with_reducible refine (call_later (HF.out _)).mono ?_)); rintro e w' ⟨rfl, x, rfl⟩) | (go_at_call 7; (first | (with_reducible refine (later_call _ (HR.out _)).mono ?_) | (with_reducible refine (call_later (HR.out _)).mono ?_)); rintro e w' ⟨rfl, x, rfl⟩) | (go_at_call 14; refine (call_later (HW.out ⟨_, one_alloc _ _⟩)).mono ?_; rintro e w' ⟨rfl, x, rfl⟩) | (go_at_call 15; refine (HC.out _ (HV.out.below x.end1)).mono ?_; rintro e w2 ⟨g, rfl, hg0, hg, hb2⟩; have HG := Lib.hid hg; have HB2 := Lib.hid hb2; clear hg hb2))
  have hx1 := x.lt1
  have hd : Box w2 w.heap.size 23 #[.int .u8 p, .int .u8 q, .int .i64 n] := (((Box.new w _ _).below x.below (by simp))).below HB2.out hx1
  have HD := Lib.hid hd
  have HBW : Hid (Below w.heap.size w w2) := Lib.hid (x.end1.trans (HB2.out.mono (by omega)))
  clear hd HC HW hx1 HB2
  go_loopw [31] (fun i (wr : World) => ∃ k : Nat, k ≤ L.length ∧ i = .int .i64 k ∧ Below w2.heap.size w2 wr) (fun i _ => L.length - (intOf i).toNat)
  case atStart => exact ⟨0, by omega, rfl, Below.refl _ _⟩
  case round =>
    obtain ⟨k, hk, rfl, hb⟩ := hrel
    have hdr := HD.out.below hb HD.out.lt
    have hgr := HG.out.below hb HG.out.lt
    have d0 : wr.cell? ⟨w.heap.size, 0, none⟩ = some (.int .u8 p) := hdr.cell 0
    have d1 : wr.cell? ⟨w.heap.size, 1, none⟩ = some (.int .u8 q) := hdr.cell 1
    have d2 : wr.cell? ⟨w.heap.size, 2, none⟩ = some (.int .i64 n) := hdr.cell 2
    have hlt := hgr.lt
    have hlt0 := hdr.lt
    have HGR := Lib.hid hgr
    have HB := Lib.hid hb
    clear hdr hgr hb
    by_cases c1 : k < L.length
    · have i1 : (k : Int) < (L.length : Int) := by omega
      obtain ⟨s, hs⟩ : ∃ s, L[k]? = some s := ⟨_, List.getElem?_eq_getElem c1⟩
      obtain ⟨a, rfl, ha⟩ := HAA.out k s hs
      have ha' := (HB.out.cell (World.block_lt_of_cell? w2 _ ((HBW.out.cell (World.block_lt_of_cell? w _ ha)).trans ha))).trans ((HBW.out.cell (World.block_lt_of_cell? w _ ha)).trans ha)
      have hsz : s.size ≤ maxLen := by have := HSM.out s (List.mem_of_getElem? hs); unfold maxLen; omega
      clear ha
      cases fi
      · have HX := Lib.hid (fun W => refWhy_any p q n s al false W hsz)
        obtain ⟨N, hN⟩ : ∃ N, whyN p q s al false = N := ⟨_, rfl⟩
        have HFK : Hid (fieldB p q L false k = decide (N ≠ 0)) := Lib.hid (by rw [HFB.out k s hs, ← hN]; simp)
        rw [hN] at HX
        clear hN hs hsz
        by_cases h0 : N = 0
        · subst h0
          have g1 : wr.cell? ⟨g, k, none⟩ = some (.bool false) := by rw [HGR.out.cell k, cellsB_at _ _ _ _ c1, decide_eq_true c1, Bool.true_and, HFK.out]; rfl
          go_wp2
          refine wp_region_later_lit (by kernel_rfl) (by kernel_rfl) ?_
          repeat (go_big_quiet_step (first | (go_at_call 8; exact later_call _ (HF.out _)) | (go_at_call 11; exact later_call _ (HO.out _ _)) | (go_at_call 10; exact later_call _ (HX.out _))))
          refine wpQuiet_nil ?_
          rintro w' ⟨y, rfl⟩
          go_wp2
          go_roundw
          case rel => exact ⟨k + 1, by omega, by go_num, below_next HB.out (Nat.le_refl _) y.below⟩
          case measure => simp [intOf]; omega
        · have k0 : ((N : Int) != 0) = true := by simp; omega
          have g1 : wr.cell? ⟨g, k, none⟩ = some (.bool true) := by rw [HGR.out.cell k, cellsB_at _ _ _ _ c1, decide_eq_true c1, Bool.true_and, HFK.out, decide_eq_true h0]
          clear h0
          go_wp2
          refine wp_region_later_lit (by kernel_rfl) (by kernel_rfl) ?_
          repeat (go_big_quiet_step (first | (go_at_call 8; exact later_call _ (HF.out _)) | (go_at_call 11; exact later_call _ (HO.out _ _)) | (go_at_call 10; exact later_call _ (HX.out _))))
          refine wpQuiet_nil ?_
          rintro w' ⟨y, rfl⟩
          go_wp2
          go_roundw
          case rel => exact ⟨k + 1, by omega, by go_num, below_next HB.out (Nat.le_refl _) y.below⟩
          case measure => simp [intOf]; omega
      · by_cases k0' : k = 0
        · subst k0'
          have ha2 : wr.cell? a = some (.string s) := ha'
          have HX := Lib.hid (fun W => refWhy_any p q n s al true W hsz)
          obtain ⟨N, hN⟩ : ∃ N, whyN p q s al true = N := ⟨_, rfl⟩
          have HFK : Hid (fieldB p q L true 0 = decide (N ≠ 0)) := Lib.hid (by rw [HFB.out 0 s hs, ← hN]; rfl)
          rw [hN] at HX
          clear hN hs hsz
          by_cases h0 : N = 0
          · subst h0
            have g1 : wr.cell? ⟨g, 0, none⟩ = some (.bool false) := by rw [HGR.out.cell 0, cellsB_at _ _ _ _ c1, decide_eq_true c1, Bool.true_and, HFK.out]; rfl
            go_wp2
            refine wp_region_later_lit (by kernel_rfl) (by kernel_rfl) ?_
            repeat (go_big_quiet_step (first | (go_at_call 8; exact later_call _ (HF.out _)) | (go_at_call 11; exact later_call _ (HO.out _ _)) | (go_at_call 10; exact later_call _ (HX.out _))))
            refine wpQuiet_nil ?_
            rintro w' ⟨y, rfl⟩
            go_wp2
            go_roundw
            case rel => exact ⟨1, by omega, by go_num, below_next HB.out (Nat.le_refl _) y.below⟩
            case measure => simp [intOf]; omega
          · have k0 : ((N : Int) != 0) = true := by simp; omega
            have g1 : wr.cell? ⟨g, 0, none⟩ = some (.bool true) := by rw [HGR.out.cell 0, cellsB_at _ _ _ _ c1, decide_eq_true c1, Bool.true_and, HFK.out, decide_eq_true h0]
            clear h0
            go_wp2
            refine wp_region_later_lit (by kernel_rfl) (by kernel_rfl) ?_
            repeat (go_big_quiet_step (first | (go_at_call 8; exact later_call _ (HF.out _)) | (go_at_call 11; exact later_call _ (HO.out _ _)) | (go_at_call 10; exact later_call _ (HX.out _))))
            refine wpQuiet_nil ?_
            rintro w' ⟨y, rfl⟩
            go_wp2
            go_roundw
            case rel => exact ⟨1, by omega, by go_num, below_next HB.out (Nat.le_refl _) y.below⟩
            case measure => simp [intOf]; omega
        · have k1 : ((k : Int) == 0) = false := beq_eq_false_iff_ne.2 (by omega)
          have HX := Lib.hid (fun W => refWhy_any p q n s al false W hsz)
          obtain ⟨N, hN⟩ : ∃ N, whyN p q s al false = N := ⟨_, rfl⟩
          have HFK : Hid (fieldB p q L true k = decide (N ≠ 0)) := Lib.hid (by rw [HFB.out k s hs, ← hN]; rw [decide_eq_false k0']; rfl)
          rw [hN] at HX
          clear hN hs hsz
          by_cases h0 : N = 0
          · subst h0
            have g1 : wr.cell? ⟨g, k, none⟩ = some (.bool false) := by rw [HGR.out.cell k, cellsB_at _ _ _ _ c1, decide_eq_true c1, Bool.true_and, HFK.out]; rfl
            go_wp2
            refine wp_region_later_lit (by kernel_rfl) (by kernel_rfl) ?_
            repeat (go_big_quiet_step (first | (go_at_call 8; exact later_call _ (HF.out _)) | (go_at_call 11; exact later_call _ (HO.out _ _)) | (go_at_call 10; exact later_call _ (HX.out _))))
            refine wpQuiet_nil ?_
            rintro w' ⟨y, rfl⟩
            go_wp2
            go_roundw
            case rel => exact ⟨k + 1, by omega, by go_num, below_next HB.out (Nat.le_refl _) y.below⟩
            case measure => simp [intOf]; omega
          · have k0 : ((N : Int) != 0) = true := by simp; omega
            have g1 : wr.cell? ⟨g, k, none⟩ = some (.bool true) := by rw [HGR.out.cell k, cellsB_at _ _ _ _ c1, decide_eq_true c1, Bool.true_and, HFK.out, decide_eq_true h0]
            clear h0
            go_wp2
            refine wp_region_later_lit (by kernel_rfl) (by kernel_rfl) ?_
            repeat (go_big_quiet_step (first | (go_at_call 8; exact later_call _ (HF.out _)) | (go_at_call 11; exact later_call _ (HO.out _ _)) | (go_at_call 10; exact later_call _ (HX.out _))))
            refine wpQuiet_nil ?_
            rintro w' ⟨y, rfl⟩
            go_wp2
            go_roundw
            case rel => exact ⟨k + 1, by omega, by go_num, below_next HB.out (Nat.le_refl _) y.below⟩
            case measure => simp [intOf]; omega
    · obtain rfl : k = L.length := by omega
      have i1 : ¬ (L.length : Int) < (L.length : Int) := by omega
      have HT := Lib.hid (HBW.out.trans (HB.out.mono HBW.out.size))
      clear HB
      go_wp2_with ((go_at_call 9; (first | (with_reducible refine (later_call _ (HA.out _)).mono ?_) | (with_reducible refine (call_later (HA.out _)).mono ?_)); rintro e w' ⟨rfl, x, rfl⟩))
      go_ret
      exact ⟨rfl, HT.out.trans (x.below.mono HT.out.size)⟩

theorem fields_law (p q : Nat) (n : Int) (v : Value) (L : List ByteArray) (fi : Bool) (w : World) (hp : p < 256) (hq : q < 256) (hv : Strs w v L) (hm : ∀ s ∈ L, s.size ≤ 140737488351232) : Calls Try.prog 4 #[.agg #[.int .u8 p, .int .u8 q, .int .i64 n], v, .bool fi] w (Gives (.bool true) w) := by
  cases hf : fewB L
  · exact fields_few p q n v L fi w hv hm hf
  · cases hok : okB p q n
    · exact fields_bad p q n v L fi w hp hq hv hm hf hok
    · exact fields_main p q n v L fi w hp hq hv hm hf hok

open Go.ChangeShapes Go.WideShapes Go.ChangeAt Go.Joins

set_option maxRecDepth 100000 in
theorem needFields_lifted (os : Os) (started : os.Started) (H : Type) (enc : TypeId × Value → H) :
    ReturnsInHanded {} Try.checked os 4 .any (Rows.needFieldsSpec.pre6 enc Try.prog Try.f4 Rows.needFieldsRow.domain false) (Rows.needFieldsSpec.post enc Try.prog Try.f4 false true false false) := by
  refine law_lift (C := Try.checked) (tb := 4) Try.own Try.laidOut started (by kernel_rfl) Try.func4
    (ChangeSpec.witness6 (enc := enc) (C := Try.checked) false ⟨#[], #[.agg #[.int .u8 0, .int .u8 0, .int .i64 0], .slice none 0 0, .bool false], []⟩ 8 (by kernel_rfl) (by kernel_rfl) (by kernel_rfl) (by kernel_rfl))
    rfl Try.underlying4 (by intro t ht; have ht' : t ∈ [23, 34, 4] := ht; simp at ht'; rcases ht' with rfl | rfl | rfl <;> exact ⟨by kernel_rfl, of_decide_eq_true (by kernel_rfl)⟩) rfl
    (fun ds h => match ds, h with | [_, _, _], _ => rfl) ?_
  intro W base args ds ps hh
  obtain ⟨v, v', v'', d, d', d'', p, p', p'', rfl, ⟨hv, h0, _⟩, ⟨hv', h0', hw'⟩, ⟨hv'', h0'', _⟩⟩ := weigh_three Try.params4 hh
  obtain ⟨a, b, n, ha, hb, rfl⟩ := open_dialect hv h0
  obtain ⟨L, hL, hm⟩ := open_record hv' h0' hw'
  obtain ⟨fi, rfl⟩ := open_truth hv'' h0''
  exact fields_law a b n v' L fi W ha hb hL hm

theorem needFields_holds : Rows.NeedFieldsSaid :=
  OpenClaim.holds_of_wide 4 Try.f4 rfl rfl rfl rfl rfl rfl rfl ⟨rfl, rfl, rfl, rfl, rfl⟩ rfl rfl rfl rfl rfl (by kernel_rfl) Try.func4 (by kernel_rfl)
    (of_decide_eq_true (by kernel_rfl)) (by unfold Func.isWrapper; first | (rw [if_pos (by decide +kernel)]; kernel_rfl) | (rw [if_neg (by decide +kernel)]; exact ⟨rfl, rfl⟩))
    (fun os started H enc _ => needFields_lifted os started H enc)
#print axioms needFields_holds

end Go.Proofs.Ytmaoeeonpedllaa
