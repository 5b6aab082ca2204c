/-
  Walks: the field that a text is, by the document.
-/
import Derived.Test.YtajedohgcepkiaaDoorRows
import Derived.Test.YtajedohgcepkiaaDoorQtD
namespace Go.Proofs.YtajedohgcepkiaaDoor
open Go.RowKit Qt Nd

/- The field that a text is. -/
theorem wrap_nat {k m : Nat} (h : k + 1 = m) (hm : k ≤ 1000000) : wrap64 ((k : Int) + 1) = (m : Int) := by subst h; unfold wrap64; omega
theorem wrap_byt (s : ByteArray) (k : Nat) : wrap64 (byt s k) = byt s k := by have := byt_range s k; unfold wrap64; omega
theorem eq_byt {x : UInt8} {s : ByteArray} {k q : Nat} (hx : x.toNat = q) (h : byt s k = (q : Int)) : bytN s k = x.toNat := by have := bytN_is s k; omega
theorem ne_byt {x : UInt8} {s : ByteArray} {k q : Nat} (hx : x.toNat = q) (h : ¬ byt s k = (q : Int)) : bytN s k ≠ x.toNat := by have := bytN_is s k; omega
theorem le_mil {s : ByteArray} {k : Nat} (hs : s.size ≤ 400000) (h : k < s.size) : k ≤ 1000000 := by omega
theorem ints_lt {k m n : Nat} (hm : k + 1 = m) (h : m < n) : (m : Int) < (n : Int) ∧ (k : Int) ≤ (m : Int) ∧ (m : Int) ≤ (n : Int) ∧ (0 : Int) ≤ (k : Int) := by omega
theorem ext_size {s : ByteArray} {k m : Nat} (hm : k + 1 = m) (h : m < s.size) : (s.extract k m).size = 1 := by rw [ByteArray.size_extract]; omega
theorem ext_size' {s : ByteArray} {k m : Nat} (hm : k + 1 = m) (h : m ≤ s.size) : (s.extract k m).size = 1 := by rw [ByteArray.size_extract]; omega
theorem two_size {F s : ByteArray} {k K M : Nat} (hF : F.size ≤ k) (hK : k + 1 = K) (hM : K + 1 = M) (h : M < s.size) : (F ++ s.extract K M).size ≤ M := by rw [ByteArray.size_append, ext_size hM h]; omega
theorem int_one {k n : Nat} (h : k + 1 < n) : (k : Int) + 1 < (n : Int) := by omega
theorem int_one' {k n : Nat} (h : k + 1 < n) : (k : Int) ≤ (k : Int) + 1 ∧ (k : Int) + 1 ≤ (n : Int) := by omega
theorem int_none {k n : Nat} (h : ¬ k + 1 < n) : ¬ (k : Int) + 1 < (n : Int) := by omega
theorem int_two {k n : Nat} (h : k + 1 + 1 < n) : (k : Int) + 1 + 1 < (n : Int) ∧ (k : Int) + 1 ≤ (k : Int) + 1 + 1 ∧ (k : Int) + 1 + 1 ≤ (n : Int) ∧ (0 : Int) ≤ (k : Int) + 1 := by omega
theorem int_two' {k n : Nat} (h : ¬ k + 1 + 1 < n) : ¬ (k : Int) + 1 + 1 < (n : Int) := by omega
theorem meas_two {k n : Nat} (h : n - (k + 1 + 1) < n - k) : n - ((k : Int) + 1 + 1).toNat < n - k := by omega
theorem ints_ge {k n : Nat} (h : ¬ k < n) : ¬ (k : Int) < (n : Int) := by omega
theorem ints_up {k K n : Nat} (hK : k + 1 = K) (h : K < n) : (k : Int) < (n : Int) := by omega
theorem lt_up {k K n : Nat} (hK : k + 1 = K) (h : K < n) : k < n := by omega
theorem k_mil {s : ByteArray} {k : Nat} (hs : s.size ≤ 400000) (h : k ≤ s.size) : k ≤ 1000000 := by omega
theorem f_mil {s F : ByteArray} {k : Nat} (hs : s.size ≤ 400000) (hF : F.size ≤ k) (h : k ≤ s.size) : F.size + 1 ≤ 1000000 := by omega
theorem f_mil' {s F : ByteArray} {k : Nat} (hs : s.size ≤ 400000) (hF : F.size ≤ k) (h : k ≤ s.size) : F.size ≤ 1000000 := by omega
theorem sc_end {x : UInt8} {l : List UInt8} (h : l.length ≤ 1) : sc x l = [] := by
  match l, h with
  | [], _ => rfl
  | [_], _ => rfl
theorem drop_at (s : ByteArray) (k : Nat) (h : k < s.size) : s.data.toList.drop k = UInt8.ofNat (bytN s k) :: s.data.toList.drop (k + 1) := by
  have hl : k < s.data.toList.length := by rw [size_list]; exact h
  rw [List.drop_eq_getElem_cons hl]
  congr 1
  refine UInt8.toNat_inj.1 ?_
  rw [ofNat_byt]
  have h1 := byt_list s k
  rw [List.getElem?_eq_getElem hl] at h1
  have h2 := bytN_is s k
  simp only [Option.map_some, Option.getD_some] at h1
  omega
theorem drop_none (s : ByteArray) (k : Nat) (h : s.size ≤ k) : s.data.toList.drop k = [] := List.drop_eq_nil_of_le (by rw [size_list]; exact h)
theorem ext_list (s : ByteArray) (k : Nat) (h : k < s.size) : (s.extract k (k + 1)).data.toList = [UInt8.ofNat (bytN s k)] := by rw [ext_one s k h]

def scS (x : UInt8) (s F : ByteArray) (k : Nat) : Prop := F.data.toList ++ sc x (s.data.toList.drop k) = sc x (s.data.toList.drop 1)
theorem scS_plain {x : UInt8} {s F : ByteArray} {k : Nat} (h : scS x s F k) (hk : k + 1 < s.size) (e : bytN s k ≠ x.toNat) : scS x s (F ++ s.extract k (k + 1)) (k + 1) := by
  unfold scS at h ⊢
  rw [toList_app, ext_list s k (by omega), ← h, drop_at s k (by omega), drop_at s (k + 1) hk]
  have e' : UInt8.ofNat (bytN s k) ≠ x := fun c => e (by rw [← ofNat_byt, c])
  rw [show sc x (UInt8.ofNat (bytN s k) :: UInt8.ofNat (bytN s (k + 1)) :: s.data.toList.drop (k + 1 + 1)) = UInt8.ofNat (bytN s k) :: sc x (UInt8.ofNat (bytN s (k + 1)) :: s.data.toList.drop (k + 1 + 1)) from if_neg e']
  simp
theorem scS_two {x : UInt8} {s F : ByteArray} {k : Nat} (h : scS x s F k) (hk : k + 1 + 1 < s.size) (e : bytN s k = x.toNat) : scS x s (F ++ s.extract (k + 1) (k + 1 + 1)) (k + 1 + 1) := by
  unfold scS at h ⊢
  rw [toList_app, ext_list s (k + 1) (by omega), ← h, drop_at s k (by omega), drop_at s (k + 1) (by omega)]
  have e' : UInt8.ofNat (bytN s k) = x := UInt8.toNat_inj.1 (by rw [ofNat_byt, e])
  rw [show sc x (UInt8.ofNat (bytN s k) :: UInt8.ofNat (bytN s (k + 1)) :: s.data.toList.drop (k + 1 + 1)) = (if s.data.toList.drop (k + 1 + 1) = [] then [] else UInt8.ofNat (bytN s (k + 1)) :: sc x (s.data.toList.drop (k + 1 + 1))) from if_pos e',
    if_neg (by rw [drop_at s (k + 1 + 1) hk]; simp)]
  simp
theorem scS_last {x : UInt8} {s F : ByteArray} {k : Nat} (h : scS x s F k) (hk : s.size = k + 1 + 1) (e : bytN s k = x.toNat) : scS x s F (k + 1 + 1) := by
  unfold scS at h ⊢
  rw [← h, drop_none s (k + 1 + 1) (by omega), drop_at s k (by omega), drop_at s (k + 1) (by omega), drop_none s (k + 1 + 1) (by omega)]
  have e' : UInt8.ofNat (bytN s k) = x := UInt8.toNat_inj.1 (by rw [ofNat_byt, e])
  rw [show sc x [UInt8.ofNat (bytN s k), UInt8.ofNat (bytN s (k + 1))] = [] from if_pos e']
  rfl
theorem scS_done {x : UInt8} {s F : ByteArray} {k : Nat} (h : scS x s F k) (hk : ¬ k + 1 < s.size) : F = scB x s := by
  unfold scS at h
  rw [sc_end (l := s.data.toList.drop k) (by rw [List.length_drop, size_list]; omega), List.append_nil] at h
  exact of_lists (by rw [scB_list, h])
theorem beg_is (x : UInt8) (s : ByteArray) : begB x s = decide (0 < s.size ∧ byt s 0 = (x.toNat : Int)) := by
  by_cases h : 0 < s.size
  · unfold begB Lib.hasPrefix
    have := drop_at s 0 h
    rw [List.drop_zero] at this
    rw [this]
    have hb := bytN_is s 0
    by_cases e : bytN s 0 = x.toNat
    · have e' : UInt8.ofNat (bytN s 0) = x := UInt8.toNat_inj.1 (by rw [ofNat_byt, e])
      rw [e', decide_eq_true ⟨h, by omega⟩]
      simp [List.isPrefixOf]
    · have e' : UInt8.ofNat (bytN s 0) ≠ x := fun c => e (by rw [← ofNat_byt, c])
      rw [decide_eq_false (fun c => e (by omega))]
      simp [List.isPrefixOf]
      exact fun c => e' c.symm
  · rw [decide_eq_false (fun c => h c.1)]
    unfold begB Lib.hasPrefix
    rw [show s.data.toList = [] from List.eq_nil_of_length_eq_zero (by rw [size_list]; omega)]
    rfl

theorem hr_two {x : UInt8} {s F : ByteArray} {k K M : Nat} (hk1 : 1 ≤ k) (hF : F.size ≤ k) (hK : k + 1 = K) (hM : K + 1 = M) (h : M < s.size) (hS : scS x s F k) (e : bytN s k = x.toNat) :
    1 ≤ k + 1 + 1 ∧ k + 1 + 1 ≤ s.size ∧ (F ++ s.extract (k + 1) (k + 1 + 1)).size ≤ k + 1 + 1 ∧ scS x s (F ++ s.extract (k + 1) (k + 1 + 1)) (k + 1 + 1) ∧ s.size - (k + 1 + 1) < s.size - k := by
  have := two_size hF hK hM h
  subst hM; subst hK
  exact ⟨by omega, by omega, this, scS_two hS h e, by omega⟩
theorem hr_last {x : UInt8} {s F : ByteArray} {k K M : Nat} (hk1 : 1 ≤ k) (hF : F.size ≤ k) (hK : k + 1 = K) (hM : K + 1 = M) (h1 : K < s.size) (h : ¬ M < s.size) (hS : scS x s F k) (e : bytN s k = x.toNat) :
    1 ≤ k + 1 + 1 ∧ k + 1 + 1 ≤ s.size ∧ F.size ≤ k + 1 + 1 ∧ scS x s F (k + 1 + 1) ∧ s.size - (k + 1 + 1) < s.size - k := by
  subst hM; subst hK
  exact ⟨by omega, by omega, by omega, scS_last hS (by omega) e, by omega⟩
theorem hr_one {x : UInt8} {s F : ByteArray} {k K : Nat} (hk1 : 1 ≤ k) (hF : F.size ≤ k) (hK : k + 1 = K) (h : K < s.size) (hS : scS x s F k) (e : bytN s k ≠ x.toNat) :
    1 ≤ k + 1 ∧ k + 1 ≤ s.size ∧ (F ++ s.extract k (k + 1)).size ≤ k + 1 ∧ scS x s (F ++ s.extract k (k + 1)) (k + 1) ∧ s.size - (k + 1) < s.size - k := by
  have h2 : (F ++ s.extract k K).size = F.size + 1 := by rw [ByteArray.size_append, ext_size hK h]
  subst hK
  exact ⟨by omega, by omega, by omega, scS_plain hS h e, by omega⟩

theorem fit_at {x : UInt8} {s G : ByteArray} (h : scB x s = G) : fitB x s = decide (quoB x G = s) := by unfold fitB; rw [h]
def refV (v : ByteArray × Bool × Nat) : Value := .tuple #[.string v.1, .int .i64 (one01 v.2.1), .int .i64 v.2.2]

set_option maxRecDepth 100000 in
set_option maxHeartbeats 4000000 in
theorem refUnq_beg (p q : Nat) (n : Int) (s : ByteArray) (w : World) (hs : s.size ≤ 400000) (hq : q < 256) (h0 : 0 < s.size) (hb0 : byt s 0 = (q : Int)) :
    Calls Tryd.prog 17 #[.agg #[.int .i64 p, .int .i64 q, .int .i64 n], .string s] w (Gives (refV (if fitB (toB q) s = true then (scB (toB q) s, true, 0) else (⟨#[]⟩, false, 4))) w) := by
  apply Gives.of
  obtain ⟨V, hV⟩ : ∃ V, refV (if fitB (toB q) s = true then (scB (toB q) s, true, 0) else (⟨#[]⟩, false, 4)) = V := ⟨_, rfl⟩
  rw [hV]
  have hcell := fun (W : World) (x : Later W) => x.cell
  have HQ := Lib.hid (fun (F : ByteArray) (h : F.size ≤ 1000000) W => refQuoted_any p q n F W h hq)
  have hx := toB_nat hq
  obtain ⟨x, hxd⟩ : ∃ x, toB (q : Int) = x := ⟨_, rfl⟩
  rw [hxd] at hx HQ hV
  clear hq hxd
  have HX := Lib.hid hx
  have HV := Lib.hid hV
  clear hx hV
  have b0 := byt_eq s 0 h0
  have e0 : (byt s 0 == (q : Int)) = true := by simp [hb0]
  have i0 : (0 : Int) < (s.size : Int) := by omega
  have i0' : decide ((0 : Int) < (s.size : Int)) = true := decide_eq_true i0
  have hwb0 := wrap_byt s 0
  clear hb0
  go_enter Tryd.func17, Tryd.ntmps17
  go_wp2
  refine wp_region_later_lit (by kernel_rfl) (by kernel_rfl) ?_
  repeat (go_big_quiet_step (fail))
  refine wpQuiet_nil ?_
  rintro w0 ⟨y0, rfl⟩
  go_wp2
  obtain ⟨W0, hW0⟩ : ∃ W0, (w.alloc (.cells #[.int .i64 p, .int .i64 q, .int .i64 n] 26)) = W0 := ⟨_, rfl⟩
  have hb_ := (Box.new w 26 #[.int .i64 p, .int .i64 q, .int .i64 n])
  have hbx : W0.cell? ⟨w.heap.size, 1, none⟩ = some (.int .i64 q) := by rw [← hW0]; exact hb_.cell 1
  have hbx0 : W0.cell? ⟨w.heap.size, 0, none⟩ = some (.int .i64 p) := by rw [← hW0]; exact hb_.cell 0
  have hbx2 : W0.cell? ⟨w.heap.size, 2, none⟩ = some (.int .i64 n) := by rw [← hW0]; exact hb_.cell 2
  clear hb_
  have hlt : w.heap.size < W0.heap.size := by rw [← hW0]; simp
  have hbw : Below w.heap.size w W0 := by rw [← hW0]; exact (Below.refl _ _).alloc (Nat.le_refl _) _
  obtain ⟨z0, hz0⟩ : ∃ z : Later W0, z.w = y0.w := ⟨⟨y0.w, by rw [← hW0]; exact y0.below⟩, rfl⟩
  rw [← hz0]
  clear hz0 y0 hwb0
  go_loopw [7, 8] (fun Fv iv (wr : World) => ∃ (F : ByteArray) (k : Nat), 1 ≤ k ∧ k ≤ s.size ∧ Fv = .string F ∧ iv = .int .i64 k ∧ F.size ≤ k ∧ scS x s F k ∧ ∃ y : Later W0, wr = y.w) (fun _ iv _ => s.size - (intOf iv).toNat)
  case atStart => exact ⟨⟨#[]⟩, 1, by omega, by omega, rfl, rfl, by show 0 ≤ 1; omega, rfl, z0, rfl⟩
  case round =>
    obtain ⟨F, k, hk1, hk, rfl, rfl, hF, hS, y, rfl⟩ := hrel
    have HS := Lib.hid hS
    clear hS
    have hK : k + 1 = k + 1 := rfl
    by_cases c1 : k + 1 < s.size
    · have i1 := int_one c1
      have i2 : (0 : Int) ≤ (k : Int) := Int.natCast_nonneg k
      have i5 := ints_up hK c1
      have hkl := lt_up hK c1
      have b1 := byt_eq s k hkl
      have hwb := wrap_byt s k
      by_cases c2 : byt s k = (q : Int)
      · have e2 : (byt s k == (q : Int)) = true := by simp [c2]
        have eN : Hid (bytN s k = x.toNat) := Lib.hid (eq_byt HX.out c2)
        have hM : k + 1 + 1 = k + 1 + 1 := rfl
        clear c2
        by_cases c3 : k + 1 + 1 < s.size
        · obtain ⟨i6, i7, i8, i9⟩ := int_two c3
          have hez := ext_size hM c3
          have HR := Lib.hid (hr_two hk1 hF hK hM c3 HS.out eN.out)
          have hsz := f_mil hs hF hk
          clear hK hM c3 c1 eN hk hk1 hF
          go_wp2
          refine wp_region_anch y (by kernel_rfl) (by kernel_rfl) ?_
          repeat (go_big_quiet_step (fail))
          refine wpQuiet_nil ?_
          rintro w' ⟨z, rfl⟩
          go_wp2
          obtain ⟨r1, r2, r3, r4, r5⟩ := HR.out
          go_roundw
          case rel => exact ⟨_, k + 1 + 1, r1, r2, rfl, by go_num, r3, r4, z, rfl⟩
          case measure => simp [intOf]; first | exact r5 | exact meas_two r5
        · have i6 := int_two' c3
          have HR := Lib.hid (hr_last hk1 hF hK hM c1 c3 HS.out eN.out)
          clear hK hM c3 c1 eN hk hk1 hF
          go_wp2
          refine wp_region_anch y (by kernel_rfl) (by kernel_rfl) ?_
          repeat (go_big_quiet_step (fail))
          refine wpQuiet_nil ?_
          rintro w' ⟨z, rfl⟩
          go_wp2
          obtain ⟨r1, r2, r3, r4, r5⟩ := HR.out
          go_roundw
          case rel => exact ⟨F, k + 1 + 1, r1, r2, rfl, by go_num, r3, r4, z, rfl⟩
          case measure => simp [intOf]; first | exact r5 | exact meas_two r5
      · have e2 : (byt s k == (q : Int)) = false := by simp [c2]
        have eN : Hid (bytN s k ≠ x.toNat) := Lib.hid (ne_byt HX.out c2)
        clear c2
        obtain ⟨i7, i8⟩ := int_one' c1
        have hez := ext_size hK c1
        have HR := Lib.hid (hr_one hk1 hF hK c1 HS.out eN.out)
        have hsz := f_mil hs hF hk
        clear hK c1 eN hk hk1 hF
        go_wp2
        refine wp_region_anch y (by kernel_rfl) (by kernel_rfl) ?_
        repeat (go_big_quiet_step (fail))
        refine wpQuiet_nil ?_
        rintro w' ⟨z, rfl⟩
        go_wp2
        obtain ⟨r1, r2, r3, r4, r5⟩ := HR.out
        go_roundw
        case rel => exact ⟨_, k + 1, r1, r2, rfl, by go_num, r3, r4, z, rfl⟩
        case measure => simp [intOf]; first | exact r5 | exact meas_two r5
    · have i1 := int_none c1
      have hFs := scS_done HS.out c1
      have hFz := f_mil' hs hF hk
      have HQF := Lib.hid (fun W => HQ.out F hFz W)
      obtain ⟨G, hG⟩ : ∃ G, scB x s = G := ⟨_, rfl⟩
      obtain rfl : F = G := hFs.trans hG
      clear HQ HS hF hFs b0 e0 i0 i0' hK c1
      have hfit := fit_at hG
      have hV := HV.out
      rw [hfit, hG] at hV
      clear hfit hG HV
      by_cases e : quoB x F = s
      · rw [decide_eq_true e, if_pos rfl] at hV
        rw [e] at HQF
        subst hV
        clear e
        go_wp2_with (first | (go_at_call 13; (first | (with_reducible refine (later_call _ (HQF.out _)).mono ?_) | (with_reducible refine (call_later (HQF.out _)).mono ?_)); rintro e w' ⟨rfl, x, rfl⟩))
        refine bodyPost_ret (v := .tuple #[.string F, .int .i64 1, .int .i64 0]) (by simp (maxDischargeDepth := 8) [results, Tryd.results17, go_sem]) rfl ⟨rfl, ?_⟩
        first | exact hbw.trans (Below.mono (Later.below (W := W0) _) (Nat.le_of_lt hlt)) | (refine later_below _ ?_; exact hbw.trans (Below.mono (Later.below (W := W0) _) (Nat.le_of_lt hlt)))
      · rw [decide_eq_false e, if_neg Bool.false_ne_true] at hV
        subst hV
        have hne := text_ne e
        generalize quoB x F = Q at HQF hne
        clear e
        go_wp2_with (first | (go_at_call 13; (first | (with_reducible refine (later_call _ (HQF.out _)).mono ?_) | (with_reducible refine (call_later (HQF.out _)).mono ?_)); rintro e w' ⟨rfl, x, rfl⟩))
        refine bodyPost_ret (v := .tuple #[.string ⟨#[]⟩, .int .i64 0, .int .i64 4]) (by simp (maxDischargeDepth := 8) [results, Tryd.results17, go_sem]) rfl ⟨rfl, ?_⟩
        first | exact hbw.trans (Below.mono (Later.below (W := W0) _) (Nat.le_of_lt hlt)) | (refine later_below _ ?_; exact hbw.trans (Below.mono (Later.below (W := W0) _) (Nat.le_of_lt hlt)))

end Go.Proofs.YtajedohgcepkiaaDoor
