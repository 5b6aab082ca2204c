/-
  A record none of whose fields must be quoted, laid with Delims between and an end of line behind, is read as it was: the law NeedPlain returns true for every dialect and record.
  Conditions: none.
-/
import Derived.Test.YtmaoeeonpedllaaRows
import Derived.Test.YtmaoeeonpedllaaOpenD
import Derived.Test.YtmaoeeonpedllaaOpenS
import Derived.Test.YtmaoeeonpedllaaNdE
import Derived.Test.YtmaoeeonpedllaaNdJ
import Derived.Deep.RegionHeld
import Derived.Deep.DeepCutAuto
namespace Go.Proofs.Ytmaoeeonpedllaa
open Go.RowKit Nd

theorem plain_few (p q : Nat) (n : Int) (v : Value) (L : List ByteArray) (w : World) (hv : Strs w v L) (hm : ∀ s ∈ L, s.size ≤ 140737488351232) (hf : fewB L = false) : Calls Try.prog 5 #[.agg #[.int .u8 p, .int .u8 q, .int .i64 n], v] w (Gives (.bool true) w) := by
  apply Gives.of
  have hcell := fun (W : World) (x : Later W) => x.cell
  have HA := Lib.hid awake_any
  have HW : Hid (∀ x : Later w, Calls Try.prog 14 #[v] x.w (Gives (.bool false) x.w)) := Lib.hid (fun x => hf ▸ few_any v L x.w (hv.below x.below) hm)
  obtain ⟨A, c, rfl, _, _, _⟩ := hv
  clear hm hf
  go_enter Try.func5, Try.ntmps5
  go_wp2_with (first | (go_at_call 9; (first | (with_reducible refine (later_call _ (HA.out _)).mono ?_) | (with_reducible refine (call_later (HA.out _)).mono ?_)); rintro e w' ⟨rfl, x, rfl⟩) | (go_at_call 14; refine (call_later (HW.out ⟨_, one_alloc _ _⟩)).mono ?_; rintro e w' ⟨rfl, x, rfl⟩))
  go_ret
  refine ⟨rfl, ?_⟩
  (repeat (first | (with_reducible exact Below.refl _ _) | (with_reducible refine later_below _ ?_) | (with_reducible refine alloc_below ?_ _) | (with_reducible refine Below.drew ?_) | (refine Below.setCell ?_ (by first | exact Nat.le_refl _ | (simp; done) | (simp; omega) | omega) _)))

theorem plain_none (p q : Nat) (n : Int) (v : Value) (w : World) (hv : Strs w v []) : Calls Try.prog 5 #[.agg #[.int .u8 p, .int .u8 q, .int .i64 n], v] w (Gives (.bool true) w) := by
  apply Gives.of
  have hcell := fun (W : World) (x : Later W) => x.cell
  have HA := Lib.hid awake_any
  have HW : Hid (∀ x : Later w, Calls Try.prog 14 #[v] x.w (Gives (.bool true) x.w)) := Lib.hid (fun x => (show fewB [] = true from rfl) ▸ few_any v [] x.w (hv.below x.below) (fun s hs => by cases hs))
  obtain ⟨A, c, rfl, _, _, _⟩ := hv
  go_enter Try.func5, Try.ntmps5
  go_wp2_with (first | (go_at_call 9; (first | (with_reducible refine (later_call _ (HA.out _)).mono ?_) | (with_reducible refine (call_later (HA.out _)).mono ?_)); rintro e w' ⟨rfl, x, rfl⟩) | (go_at_call 14; refine (call_later (HW.out ⟨_, one_alloc _ _⟩)).mono ?_; rintro e w' ⟨rfl, x, rfl⟩))
  go_ret
  refine ⟨rfl, ?_⟩
  (repeat (first | (with_reducible exact Below.refl _ _) | (with_reducible refine later_below _ ?_) | (with_reducible refine alloc_below ?_ _) | (with_reducible refine Below.drew ?_) | (refine Below.setCell ?_ (by first | exact Nat.le_refl _ | (simp; done) | (simp; omega) | omega) _)))

theorem plain_bad (p q : Nat) (n : Int) (v : Value) (L : List ByteArray) (w : World) (hp : p < 256) (hq : q < 256) (hv : Strs w v L) (hm : ∀ s ∈ L, s.size ≤ 140737488351232) (hf : fewB L = true) (h0 : L ≠ []) (hok : okB p q n = false) : Calls Try.prog 5 #[.agg #[.int .u8 p, .int .u8 q, .int .i64 n], v] w (Gives (.bool true) w) := by
  apply Gives.of
  have hcell := fun (W : World) (x : Later W) => x.cell
  have HA := Lib.hid awake_any
  have HF := Lib.hid (fun W => ref_any p q n W hp hq)
  have HR := Lib.hid (fun W => hok ▸ right_any p q n W)
  have HW : Hid (∀ x : Later w, Calls Try.prog 14 #[v] x.w (Gives (.bool true) x.w)) := Lib.hid (fun x => hf ▸ few_any v L x.w (hv.below x.below) hm)
  have hl0 : 0 < L.length := List.length_pos_iff.2 h0
  have k0 : ((L.length : Int) == 0) = false := beq_eq_false_iff_ne.2 (by omega)
  obtain ⟨A, c, rfl, _, _, _⟩ := hv
  clear hm hf hok hp hq hl0
  go_enter Try.func5, Try.ntmps5
  go_wp2_with (first | (go_at_call 9; (first | (with_reducible refine (later_call _ (HA.out _)).mono ?_) | (with_reducible refine (call_later (HA.out _)).mono ?_)); rintro e w' ⟨rfl, x, rfl⟩) | (go_at_call 8; (first | (with_reducible refine (later_call _ (HF.out _)).mono ?_) | (with_reducible refine (call_later (HF.out _)).mono ?_)); rintro e w' ⟨rfl, x, rfl⟩) | (go_at_call 7; (first | (with_reducible refine (later_call _ (HR.out _)).mono ?_) | (with_reducible refine (call_later (HR.out _)).mono ?_)); rintro e w' ⟨rfl, x, rfl⟩) | (go_at_call 14; refine (call_later (HW.out ⟨_, one_alloc _ _⟩)).mono ?_; rintro e w' ⟨rfl, x, rfl⟩))
  go_ret
  refine ⟨rfl, ?_⟩
  (repeat (first | (with_reducible exact Below.refl _ _) | (with_reducible refine later_below _ ?_) | (with_reducible refine alloc_below ?_ _) | (with_reducible refine Below.drew ?_) | (refine Below.setCell ?_ (by first | exact Nat.le_refl _ | (simp; done) | (simp; omega) | omega) _)))

set_option maxRecDepth 100000 in
set_option maxHeartbeats 4000000 in
theorem plain_main (p q : Nat) (n : Int) (v : Value) (L : List ByteArray) (w : World) (hp : p < 256) (hq : q < 256) (hv : Strs w v L) (hm : ∀ s ∈ L, s.size ≤ 140737488351232) (hf : fewB L = true) (h0 : L ≠ []) (hok : okB p q n = true) : Calls Try.prog 5 #[.agg #[.int .u8 p, .int .u8 q, .int .i64 n], v] w (Gives (.bool true) w) := by
  apply Gives.of
  have hcell := fun (W : World) (x : Later W) => x.cell
  have HA := Lib.hid awake_any
  have HF := Lib.hid (fun W => ref_any p q n W hp hq)
  have HR := Lib.hid (fun W => hok ▸ right_any p q n W)
  have HW : Hid (∀ x : Later w, Calls Try.prog 14 #[v] x.w (Gives (.bool true) x.w)) := Lib.hid (fun x => hf ▸ few_any v L x.w (hv.below x.below) hm)
  obtain ⟨hl20, hs4⟩ := fewB_spec hf
  have hl0 : 0 < L.length := List.length_pos_iff.2 h0
  have k0 : ((L.length : Int) == 0) = false := beq_eq_false_iff_ne.2 (by omega)
  have hsm : ∀ s ∈ L, s.size ≤ 400 := fun s hs => Nat.le_trans (sumN_mem L s hs) hs4
  have HSM := Lib.hid hsm
  obtain ⟨x8, hx8⟩ : ∃ x8 : UInt8, x8.toNat = p := ⟨UInt8.ofNat p, by rw [UInt8.toNat_ofNat']; omega⟩
  have hJ : ∀ k, k ≤ L.length → (jn x8 L k).size ≤ 420 := fun k hk => by have := jn_size x8 L k hk; have := sumN_le L k L.length hk; omega
  have HJ := Lib.hid hJ
  have HE := Lib.hid (fun W => end_any p q n W)
  have hsz := endS_size n
  obtain ⟨A0, hP⟩ := parse_wide p q n (jn x8 L L.length ++ endS n) (by rw [ByteArray.size_append]; have := hJ L.length (Nat.le_refl _); omega) hok
  have hyes := fun hy => plain_yes (x := x8) (L := L) hok hx8 h0 (by omega) (fun f hf => by have := hsm f hf; omega) hy
  generalize recs (finU p q n wLim (Bom.stripS (jn x8 L L.length ++ endS n))) = T at hP hyes
  generalize (finU p q n wLim (Bom.stripS (jn x8 L L.length ++ endS n))).ft.1 = K at hP hyes
  generalize endS n = es at HE hP hsz
  have HP := Lib.hid hP
  have HYES := Lib.hid hyes
  have HESZ := Lib.hid hsz
  have HX8 := Lib.hid hx8
  have HN := Lib.hid (fun f al fi W hs => need_any p q n f al fi W hs hp hq)
  have HWH := Lib.hid (fun f W hs => Utf.refWhole_any f W hs)
  have HV := Lib.hid hv
  obtain ⟨al, hal⟩ : ∃ al, ((L.length : Int) == 1) = al := ⟨_, rfl⟩
  have HAL : Hid (decide (L.length = 1) = al) := Lib.hid (by rw [← hal]; rw [Bool.eq_iff_iff]; simp; omega)
  have HL20 := Lib.hid hl20
  obtain ⟨A, c, rfl, hc1, hc2, hAA⟩ := hv
  have HAA := Lib.hid hAA
  unfold maxLen at hc2
  clear hm hf hok hp hq hsm hs4 hJ hsz hP hyes hAA hl20 hx8 hl0
  go_enter Try.func5, Try.ntmps5
  go_wp2_with (first | (go_at_call 8; (first | (with_reducible refine (later_call _ (HF.out _)).mono ?_) | (with_reducible refine (call_later (HF.out _)).mono ?_)); rintro e w' ⟨rfl, x, rfl⟩) | (go_at_call 7; (first | (with_reducible refine (later_call _ (HR.out _)).mono ?_) | (with_reducible refine (call_later (HR.out _)).mono ?_)); rintro e w' ⟨rfl, x, rfl⟩) | (go_at_call 14; refine (call_later (HW.out ⟨_, one_alloc _ _⟩)).mono ?_; rintro e w' ⟨rfl, x, rfl⟩))
  have hx1 := x.lt1
  have hd : Box x.w w.heap.size 23 #[.int .u8 p, .int .u8 q, .int .i64 n] := (Box.new w _ _).below x.below (by simp)
  have HD := Lib.hid hd
  have HB1 := Lib.hid x.end1
  obtain ⟨W0, hW0⟩ : ∃ W0, x.w = W0 := ⟨_, rfl⟩
  rw [hW0] at HD HB1 ⊢
  clear hx1 hd HW
  go_loopw [5, 29] (fun z i (wr : World) => ∃ k : Nat, k ≤ L.length ∧ i = .int .i64 k ∧ z = .string (jn x8 L k) ∧ (∀ (j : Nat) (f : ByteArray), j < k → L[j]? = some f → whyN p q f al (decide (j = 0)) = 0 ∧ Utf.stateAt f f.size = 0) ∧ Below W0.heap.size W0 wr) (fun _ i _ => L.length - (intOf i).toNat)
  case atStart => exact ⟨0, by omega, rfl, rfl, (fun j f hj => by omega), Below.refl _ _⟩
  case round =>
    obtain ⟨k, hk, rfl, rfl, hy, hb⟩ := hrel
    have HY := Lib.hid hy
    have HB := Lib.hid hb
    have hdr := HD.out.below hb HD.out.lt
    have d0 : wr.cell? ⟨w.heap.size, 0, none⟩ = some (.int .u8 p) := hdr.cell 0
    have d1 : wr.cell? ⟨w.heap.size, 1, none⟩ = some (.int .u8 q) := hdr.cell 1
    have d2 : wr.cell? ⟨w.heap.size, 2, none⟩ = some (.int .i64 n) := hdr.cell 2
    have hlt0 := hdr.lt
    have HDR := Lib.hid hdr
    have HBW := Lib.hid (HB1.out.trans (hb.mono HB1.out.size))
    clear hy hb hdr
    by_cases c1 : k < L.length
    · have i1 : (k : Int) < (L.length : Int) := by omega
      obtain ⟨s, hs⟩ : ∃ s, L[k]? = some s := ⟨_, List.getElem?_eq_getElem c1⟩
      obtain ⟨a, rfl, ha⟩ := HAA.out k s hs
      have ha' := (HBW.out.cell (World.block_lt_of_cell? w _ ha)).trans ha
      have hss := HSM.out s (List.mem_of_getElem? hs)
      have hjs := HJ.out k hk
      have HHS := Lib.hid hs
      have HWS := Lib.hid (fun W => HWH.out s W (by unfold maxLen; omega))
      have HM := Lib.hid (whole_of (f := s))
      generalize Utf.wholeN s = M at HWS HM
      clear ha hs
      by_cases e0 : k = 0
      · subst e0
        have HNS := Lib.hid (fun W => HN.out s al true W (by omega))
        have HYN : Hid (∀ V, whyN p q s al true = V → V = 0 → ¬ M < s.size → ∀ (j : Nat) (f : ByteArray), j < 1 → L[j]? = some f → whyN p q f al (decide (j = 0)) = 0 ∧ Utf.stateAt f f.size = 0) := Lib.hid (fun V h1 h2 h3 j f hj hf => by
          obtain rfl : j = 0 := by omega
          rw [HHS.out] at hf
          injection hf with hf
          subst hf
          exact ⟨by rw [decide_eq_true rfl, h1, h2], HM.out h3⟩)
        generalize hVV : whyN p q s al true = V at HNS
        have HYN := Lib.hid (HYN.out V hVV)
        have ha2 : wr.cell? a = some (.string s) := ha'
        have hz : ((⟨#[]⟩ : ByteArray).size : Int) + (s.size : Int) ≤ 9223372036854775807 := by show (0 : Int) + _ ≤ _; omega
        have hz' : 0 + s.size ≤ 9223372036854775807 := by omega
        have HJ1 : Hid (jn x8 L 1 = s) := Lib.hid (by show (⟨#[]⟩ : ByteArray) ++ L.getD 0 ⟨#[]⟩ = s; rw [none_append, getD_of HHS.out])
        rw [show jn x8 L 0 = ⟨#[]⟩ from rfl]
        clear hjs ha' hVV
        by_cases cv : V = 0
        · subst cv
          by_cases cm : M < s.size
          · have m1 : (M : Int) < (s.size : Int) := by omega
            have m2 : decide ((M : Int) < (s.size : Int)) = true := decide_eq_true m1
            clear cm hss hk
            go_wp2_with (first | (go_at_call 13; (first | (with_reducible refine (later_call _ (HNS.out _)).mono ?_) | (with_reducible refine (call_later (HNS.out _)).mono ?_)); rintro e w' ⟨rfl, x, rfl⟩) | (go_at_call 16; (first | (with_reducible refine (later_call _ (HWS.out _)).mono ?_) | (with_reducible refine (call_later (HWS.out _)).mono ?_)); rintro e w' ⟨rfl, x, rfl⟩) | (go_at_call 9; (first | (with_reducible refine (later_call _ (HA.out _)).mono ?_) | (with_reducible refine (call_later (HA.out _)).mono ?_)); rintro e w' ⟨rfl, x, rfl⟩))
            go_ret
            exact ⟨rfl, later_below _ HBW.out⟩
          · have m1 : ¬ (M : Int) < (s.size : Int) := by omega
            have m2 : decide ((M : Int) < (s.size : Int)) = false := decide_eq_false m1
            have HCM := Lib.hid cm
            clear cm hss hk
            go_wp2_with (first | (go_at_call 13; (first | (with_reducible refine (later_call _ (HNS.out _)).mono ?_) | (with_reducible refine (call_later (HNS.out _)).mono ?_)); rintro e w' ⟨rfl, x, rfl⟩) | (go_at_call 16; (first | (with_reducible refine (later_call _ (HWS.out _)).mono ?_) | (with_reducible refine (call_later (HWS.out _)).mono ?_)); rintro e w' ⟨rfl, x, rfl⟩) | (go_at_call 9; (first | (with_reducible refine (later_call _ (HA.out _)).mono ?_) | (with_reducible refine (call_later (HA.out _)).mono ?_)); rintro e w' ⟨rfl, x, rfl⟩))
            go_roundw
            case rel => exact ⟨1, by omega, by go_num, by rw [HJ1.out]; first | rfl | rw [none_append], HYN.out (by first | rfl | trivial) HCM.out, later_below _ HB.out⟩
            case measure => simp [intOf]; omega
        · have v2 : decide (V ≠ 0) = true := decide_eq_true cv
          rw [v2] at HNS
          clear cv hss hk v2
          go_wp2_with (first | (go_at_call 13; (first | (with_reducible refine (later_call _ (HNS.out _)).mono ?_) | (with_reducible refine (call_later (HNS.out _)).mono ?_)); rintro e w' ⟨rfl, x, rfl⟩) | (go_at_call 16; (first | (with_reducible refine (later_call _ (HWS.out _)).mono ?_) | (with_reducible refine (call_later (HWS.out _)).mono ?_)); rintro e w' ⟨rfl, x, rfl⟩) | (go_at_call 9; (first | (with_reducible refine (later_call _ (HA.out _)).mono ?_) | (with_reducible refine (call_later (HA.out _)).mono ?_)); rintro e w' ⟨rfl, x, rfl⟩))
          go_ret
          exact ⟨rfl, later_below _ HBW.out⟩
      · have HNS := Lib.hid (fun W => HN.out s al false W (by omega))
        have HYN : Hid (∀ V, whyN p q s al false = V → V = 0 → ¬ M < s.size → ∀ (j : Nat) (f : ByteArray), j < k + 1 → L[j]? = some f → whyN p q f al (decide (j = 0)) = 0 ∧ Utf.stateAt f f.size = 0) := Lib.hid (fun V h1 h2 h3 j f hj hf => by
          by_cases e : j = k
          · subst e
            rw [HHS.out] at hf
            injection hf with hf
            subst hf
            exact ⟨by rw [decide_eq_false e0, h1, h2], HM.out h3⟩
          · exact HY.out j f (by omega) hf)
        generalize hVV : whyN p q s al false = V at HNS
        have HYN := Lib.hid (HYN.out V hVV)
        have e1 : ((k : Int) == 0) = false := beq_eq_false_iff_ne.2 (by omega)
        have e2 : (0 : Int) < (k : Int) := by omega
        have e3 : decide ((0 : Int) < (k : Int)) = true := decide_eq_true e2
        have HJ1 : Hid (jn x8 L (k + 1) = jn x8 L k ++ ⟨#[x8]⟩ ++ s) := Lib.hid (by
          show (if k = 0 then _ else _) ++ L.getD k ⟨#[]⟩ = _
          rw [if_neg e0, getD_of HHS.out])
        generalize jn x8 L k = J at hjs HJ1 ⊢
        have hcv : ∀ W : World, (convert 40 9 (.slice (some ⟨W.heap.size, 0, none⟩) 1 1)).run Try.prog (W.alloc (.cells #[.int .u8 (p : Int)] 5)) = .ok (.string ⟨#[x8]⟩) (W.alloc (.cells #[.int .u8 (p : Int)] 5)) := fun W => convert_oneI W 40 9 5 Try.underlying40 Try.underlying5 Try.underlying9 (p : Int) x8 (by rw [HX8.out])
        have z1 : (⟨#[x8]⟩ : ByteArray).size = 1 := rfl
        have z2 : J.size + (⟨#[x8]⟩ : ByteArray).size ≤ 9223372036854775807 := by rw [z1]; omega
        have z3 : J.size + 1 ≤ 9223372036854775807 := by omega
        have z4 : J.size + 1 + s.size ≤ 9223372036854775807 := by omega
        have z5 : (J ++ ⟨#[x8]⟩).size + s.size ≤ 9223372036854775807 := by rw [ByteArray.size_append, z1]; omega
        clear hjs hVV e0
        by_cases cv : V = 0
        · subst cv
          by_cases cm : M < s.size
          · have m1 : (M : Int) < (s.size : Int) := by omega
            have m2 : decide ((M : Int) < (s.size : Int)) = true := decide_eq_true m1
            clear cm hss hk z1 z2 z3 z4 z5
            go_wp2_with (first | (go_at_call 13; (first | (with_reducible refine (later_call _ (HNS.out _)).mono ?_) | (with_reducible refine (call_later (HNS.out _)).mono ?_)); rintro e w' ⟨rfl, x, rfl⟩) | (go_at_call 16; (first | (with_reducible refine (later_call _ (HWS.out _)).mono ?_) | (with_reducible refine (call_later (HWS.out _)).mono ?_)); rintro e w' ⟨rfl, x, rfl⟩) | (go_at_call 9; (first | (with_reducible refine (later_call _ (HA.out _)).mono ?_) | (with_reducible refine (call_later (HA.out _)).mono ?_)); rintro e w' ⟨rfl, x, rfl⟩))
            go_ret
            exact ⟨rfl, later_below _ HBW.out⟩
          · have m1 : ¬ (M : Int) < (s.size : Int) := by omega
            have m2 : decide ((M : Int) < (s.size : Int)) = false := decide_eq_false m1
            have HCM := Lib.hid cm
            clear cm hss hk
            go_wp2_with (first | (go_at_call 13; (first | (with_reducible refine (later_call _ (HNS.out _)).mono ?_) | (with_reducible refine (call_later (HNS.out _)).mono ?_)); rintro e w' ⟨rfl, x, rfl⟩) | (go_at_call 16; (first | (with_reducible refine (later_call _ (HWS.out _)).mono ?_) | (with_reducible refine (call_later (HWS.out _)).mono ?_)); rintro e w' ⟨rfl, x, rfl⟩) | (go_at_call 9; (first | (with_reducible refine (later_call _ (HA.out _)).mono ?_) | (with_reducible refine (call_later (HA.out _)).mono ?_)); rintro e w' ⟨rfl, x, rfl⟩))
            go_roundw
            case rel => exact ⟨k + 1, by omega, by go_num, by rw [HJ1.out], HYN.out (by first | rfl | trivial) HCM.out, alloc_below (later_below _ HB.out) _⟩
            case measure => simp [intOf]; omega
        · have v2 : decide (V ≠ 0) = true := decide_eq_true cv
          rw [v2] at HNS
          clear cv hss hk v2 z1 z2 z3 z4 z5
          go_wp2_with (first | (go_at_call 13; (first | (with_reducible refine (later_call _ (HNS.out _)).mono ?_) | (with_reducible refine (call_later (HNS.out _)).mono ?_)); rintro e w' ⟨rfl, x, rfl⟩) | (go_at_call 16; (first | (with_reducible refine (later_call _ (HWS.out _)).mono ?_) | (with_reducible refine (call_later (HWS.out _)).mono ?_)); rintro e w' ⟨rfl, x, rfl⟩) | (go_at_call 9; (first | (with_reducible refine (later_call _ (HA.out _)).mono ?_) | (with_reducible refine (call_later (HA.out _)).mono ?_)); rintro e w' ⟨rfl, x, rfl⟩))
          go_ret
          exact ⟨rfl, later_below _ HBW.out⟩
    · obtain rfl : k = L.length := by omega
      have i1 : ¬ (L.length : Int) < (L.length : Int) := by omega
      obtain ⟨y1, y2⟩ := HYES.out (fun k f hf => by rw [HAL.out]; exact HY.out k f (List.getElem?_eq_some_iff.1 hf).1 hf)
      subst y1 y2
      have hjs := HJ.out L.length (Nat.le_refl _)
      have hes := HESZ.out
      have h3 : (jn x8 L L.length).size + es.size ≤ 9223372036854775807 := by omega
      generalize jn x8 L L.length = J at hjs h3 HP ⊢
      clear hjs hes
      go_upto_region 14 with fail
      have hd := HDR.out.alloc (.cells #[.int .i64 2147483648, .int .i64 2147483648, .int .i64 2147483648, .int .i64 0] 42)
      have hlb := Box.new wr 42 #[.int .i64 2147483648, .int .i64 2147483648, .int .i64 2147483648, .int .i64 0]
      have HB4 := Lib.hid (alloc_below HBW.out (.cells #[.int .i64 2147483648, .int .i64 2147483648, .int .i64 2147483648, .int .i64 0] 42))
      obtain ⟨db, hdb⟩ : ∃ db, w.heap.size = db := ⟨_, rfl⟩
      obtain ⟨lb, hlbe⟩ : ∃ lb, wr.heap.size = lb := ⟨_, rfl⟩
      generalize wr.alloc (.cells #[.int .i64 2147483648, .int .i64 2147483648, .int .i64 2147483648, .int .i64 0] 42) = W1 at hd hlb HB4 ⊢
      rw [hdb] at hd ⊢
      rw [hlbe] at hlb ⊢
      have hS : PaS W1 db lb p q n W1 := ⟨hd.cell 0, hd.cell 1, hd.cell 2, hlb.cell 0, hlb.cell 1, hlb.cell 2, hlb.cell 3, hd.lt, hlb.lt, Below.refl _ _⟩
      clear hd hlb hdb hlbe d0 d1 d2 hlt0 i1 hk c1 hal k0 hc1 hc2
      go_cut [9, 10, 11] (fun z9 z10 z11 wx => ∃ v2, z9 = v2 ∧ z10 = .int .i64 0 ∧ z11 = .int .i64 (A0 : Int) ∧ Tbl wx v2 [L] ∧ Below W1.heap.size W1 wx)
      case first =>
        go_region_held (fun w' => w'.cell? ⟨db, 0, none⟩ = some (.int .u8 p) ∧ w'.cell? ⟨db, 1, none⟩ = some (.int .u8 q) ∧ w'.cell? ⟨db, 2, none⟩ = some (.int .i64 n) ∧
            w'.cell? ⟨lb, 0, none⟩ = some (.int .i64 2147483648) ∧ w'.cell? ⟨lb, 1, none⟩ = some (.int .i64 2147483648) ∧ w'.cell? ⟨lb, 2, none⟩ = some (.int .i64 2147483648) ∧ w'.cell? ⟨lb, 3, none⟩ = some (.int .i64 0) ∧
            db < w'.heap.size ∧ lb < w'.heap.size ∧ Below W1.heap.size W1 w')
          (first | exact paS_next (w := W1) (db := db) (lb := lb) (p := p) (q := q) (n := n) (by assumption) x.below | exact paS_next (w := W1) (db := db) (lb := lb) (p := p) (q := q) (n := n) hS (Below.refl _ _).drew | go_keep)
          (first
            | (go_at_call 8; refine (call_later (HF.out _)).mono ?_; rintro e w' ⟨rfl, x, rfl⟩)
            | (go_at_call 18; refine (call_later (HE.out _)).mono ?_; rintro e w' ⟨rfl, x, rfl⟩)
            | (go_at_call 17; refine (HP.out _).mono ?_; rintro e w' ⟨v2, rfl, ht2, hb2⟩; obtain ⟨x, rfl⟩ : ∃ x : Later _, w' = x.w := ⟨⟨w', hb2⟩, rfl⟩; have HT2 := Lib.hid ht2; clear ht2 hb2))
        all_goals
          go_wp2_with fail
          go_meet
          exact ⟨_, rfl, rfl, rfl, HT2.out, (show PaS W1 db lb p q n _ from by assumption).2.2.2.2.2.2.2.2.2⟩
      case rest =>
        obtain ⟨v2, rfl, rfl, rfl, ht2, hbw⟩ := hcut
        have HB5 := Lib.hid (HB4.out.trans (hbw.mono HB4.out.size))
        clear hbw hS
        obtain ⟨A2, c2, rfl, hTc, hcm, hTA⟩ := ht2
        obtain ⟨a, r, rfl, ha, hr⟩ := hTA 0 L rfl
        have ha0 : wc.cell? a = some r := ha
        have HQ := Lib.hid ((show decide (L = L) = true from decide_eq_true rfl) ▸ same_any r _ L L wc hr (HV.out.below HB5.out))
        obtain ⟨rB, rD, hr0, _⟩ := hr
        subst hr0
        clear ha hTc hTA hcm
        go_wp2_with (first | (go_at_call 19; refine (call_later HQ.out).mono ?_; rintro e w' ⟨rfl, x, rfl⟩) | (go_at_call 9; (first | (with_reducible refine (later_call _ (HA.out _)).mono ?_) | (with_reducible refine (call_later (HA.out _)).mono ?_)); rintro e w' ⟨rfl, x, rfl⟩))
        go_ret
        exact ⟨rfl, HB5.out.trans (x.below.mono HB5.out.size)⟩

theorem plain_any (p q : Nat) (n : Int) (v : Value) (L : List ByteArray) (w : World) (hp : p < 256) (hq : q < 256) (hv : Strs w v L) (hm : ∀ s ∈ L, s.size ≤ 140737488351232) : Calls Try.prog 5 #[.agg #[.int .u8 p, .int .u8 q, .int .i64 n], v] w (Gives (.bool true) w) := by
  cases hf : fewB L
  · exact plain_few p q n v L w hv hm hf
  · by_cases h0 : L = []
    · subst h0; exact plain_none p q n v w hv
    · cases hok : okB p q n
      · exact plain_bad p q n v L w hp hq hv hm hf h0 hok
      · exact plain_main p q n v L w hp hq hv hm hf h0 hok

open Go.ChangeShapes Go.WideShapes Go.ChangeAt Go.Joins

set_option maxRecDepth 100000 in
theorem needPlain_lifted (os : Os) (started : os.Started) (H : Type) (enc : TypeId × Value → H) :
    ReturnsInHanded {} Try.checked os 5 .any (Rows.needPlainSpec.pre6 enc Try.prog Try.f5 Rows.needPlainRow.domain false) (Rows.needPlainSpec.post enc Try.prog Try.f5 false true false false) := by
  refine law_lift (C := Try.checked) (tb := 4) Try.own Try.laidOut started (by kernel_rfl) Try.func5
    (ChangeSpec.witness6 (enc := enc) (C := Try.checked) false ⟨#[], #[.agg #[.int .u8 0, .int .u8 0, .int .i64 0], .slice none 0 0], []⟩ 8 (by kernel_rfl) (by kernel_rfl) (by kernel_rfl) (by kernel_rfl))
    rfl Try.underlying4 (by intro t ht; have ht' : t ∈ [23, 34] := ht; simp at ht'; rcases ht' with rfl | rfl <;> exact ⟨by kernel_rfl, of_decide_eq_true (by kernel_rfl)⟩) rfl
    (fun ds h => match ds, h with | [_, _], _ => rfl) ?_
  intro W base args ds ps hh
  obtain ⟨v, v', d, d', p, p', rfl, ⟨hv, h0, _⟩, ⟨hv', h0', hw'⟩⟩ := weigh_two Try.params5 hh
  obtain ⟨a, b, n, ha, hb, rfl⟩ := open_dialect hv h0
  obtain ⟨L, hL, hm⟩ := open_record hv' h0' hw'
  exact plain_any a b n v' L W ha hb hL hm

theorem needPlain_holds : Rows.NeedPlainSaid :=
  OpenClaim.holds_of_wide 5 Try.f5 rfl rfl rfl rfl rfl rfl rfl ⟨rfl, rfl, rfl, rfl, rfl⟩ rfl rfl rfl rfl rfl (by kernel_rfl) Try.func5 (by kernel_rfl)
    (of_decide_eq_true (by kernel_rfl)) (by unfold Func.isWrapper; first | (rw [if_pos (by decide +kernel)]; kernel_rfl) | (rw [if_neg (by decide +kernel)]; exact ⟨rfl, rfl⟩))
    (fun os started H enc _ => needPlain_lifted os started H enc)
#print axioms needPlain_holds

end Go.Proofs.Ytmaoeeonpedllaa
