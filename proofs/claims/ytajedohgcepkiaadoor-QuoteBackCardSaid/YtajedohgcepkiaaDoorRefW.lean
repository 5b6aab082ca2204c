/-
  Walks: the document's answer for a whole text.
-/
import Derived.Test.YtajedohgcepkiaaDoorRows
import Derived.Test.YtajedohgcepkiaaDoorTyi
import Derived.Test.YtajedohgcepkiaaDoorRead
import Derived.Lib.Hide
import Derived.StillTailTactics
import Derived.Deep.DeepCutAuto
namespace Go.Proofs.YtajedohgcepkiaaDoor
open Go.RowKit

/-- A table of the call's own, made since the world V; its rows stand in V. -/
def OwnT (V w : World) (v : Value) (T : List (List ByteArray)) : Prop :=
  ∃ vs, w.ownsRow V.heap.size 49 1 v T.length vs ∧ ∀ (k : Nat) (r : Value) (L : List ByteArray), vs[k]? = some r → T[k]? = some L → Strs V r L
theorem OwnT.nil (V w : World) : OwnT V w (.slice none 0 0) [] := ⟨[], World.ownsRow_nil _ _ _ _, (fun k r L h => by cases h)⟩
theorem OwnT.len {V w : World} {v : Value} {T : List (List ByteArray)} (h : OwnT V w v T) : ∃ A c, v = .slice A T.length c := by
  obtain ⟨vs, h, _⟩ := h
  obtain ⟨A, c, e, _⟩ := owns_len h
  exact ⟨A, c, e⟩
theorem OwnT.later {V w w' : World} {v : Value} {T : List (List ByteArray)} (h : OwnT V w v T) (hb : Below w.heap.size w w') : OwnT V w' v T := by
  obtain ⟨vs, h, hr⟩ := h
  exact ⟨vs, owns_kept h (fun g hg => hb.block g (h.lt g hg).2), hr⟩
theorem OwnT.tbl {V w : World} {v : Value} {T : List (List ByteArray)} (h : OwnT V w v T) (hb : Below V.heap.size V w) : Tbl w v T := by
  obtain ⟨vs, h, hr⟩ := h
  have h' := h
  have hlen : vs.length = T.length := by have := h.1; simpa using this
  rcases owns_cases h with ⟨rfl, hn⟩ | ⟨g, cap, rfl, h4, h5, h6, h7⟩
  · have : T = [] := List.length_eq_zero_iff.1 hn
    subst this
    exact ⟨none, 0, rfl, Nat.le_refl _, Nat.zero_le _, fun j s hs => by simp at hs⟩
  · refine ⟨some ⟨g, 0, none⟩, cap, rfl, h6, h7, fun j L hL => ?_⟩
    have hj : j < T.length := (List.getElem?_eq_some_iff.1 hL).1
    have hv : vs[j]? = some vs[j] := List.getElem?_eq_getElem (by omega)
    refine ⟨_, vs[j], rfl, ?_, (hr j _ L hv hL).below hb⟩
    rw [add_zero_off, h'.cellAt j (by omega), hv]
theorem append_row {ops : Array Oper} {rest : List Oper} {o : Oper} {a : Act} {Q : Exit → Act → World → Prop} {V W : World} (hgd : o.guard = none) (d x : Operand)
    (ho : o.op = .call { callee := .builtin .append, args := #[d, x], argTypes := #[45, 45] })
    (v r : Value) (T : List (List ByteArray)) (L : List ByteArray) (hd : a.eval d = v) (hx : a.eval x = .slice (some ⟨W.heap.size, 0, none⟩) 1 1) (hown : OwnT V W v T) (hr : Strs V r L) (hlen : T.length < 1000000) (hb : V.heap.size ≤ W.heap.size)
    (h : ∀ A2 p2 W', OwnT V W' (.slice A2 (T.length + 1) p2) (T ++ [L]) → Below V.heap.size W W' → wpList Tryd.prog ops Q rest (a.put o.dst (.slice A2 (T.length + 1) p2)) W') :
    wpList Tryd.prog ops Q (o :: rest) a (W.alloc (.cells #[r] 49)) := by
  obtain ⟨vs, hown, hrs⟩ := hown
  obtain ⟨i0, hi, hz0, hz1, hz2⟩ := info_parts rec_info
  have h1 : r.oneCell' = true := by obtain ⟨A, c, rfl, _⟩ := hr; rfl
  have hvl : vs.length = T.length := by have := hown.1; simpa using this
  refine wpList_append_own_at _ hgd d x 45 ho V.heap.size 49 i0 _ 1 _ Tryd.underlying45 hi hz0 hz1 hz2 rfl (by omega) v T.length vs hd
    (owns_kept hown (fun g hg => Below.heap_alloc W _ g (hown.lt g hg).2)) ⟨W.heap.size, 0, none⟩ 1 1 [r] hx rfl (cell_one_new W _ _) (by intro u hu; simp at hu; subst hu; exact h1) (by unfold maxLen; omega) (by omega) (by simp; omega) ?_
  intro v' W' ho' hg _ _
  have hg' : W.grownBy W' v.ownBlock := grown_trans (World.grownBy_alloc W _ _) hg
  obtain ⟨A2, p2, rfl, _⟩ := owns_len ho'
  refine h A2 p2 W' ⟨vs ++ [r], ?_, ?_⟩ (below_grown hg' hb (fun g hg => (hown.lt g hg).1))
  · rw [List.length_append]; exact ho'
  · intro k r' L' hk hL
    by_cases hkl : k < T.length
    · rw [List.getElem?_append_left (by omega)] at hk hL
      exact hrs k r' L' hk hL
    · have e : k = T.length := by
        have := (List.getElem?_eq_some_iff.1 hL).1
        simp at this
        omega
      subst e
      rw [List.getElem?_append_right (by omega), hvl] at hk
      rw [List.getElem?_append_right (by omega)] at hL
      simp at hk hL
      subst hk hL
      exact hr

/-- What the loop has gathered behind k records. -/
def gath (O : List (List ByteArray × Nat)) (off K A k : Nat) : List (List ByteArray) := ((O.take k).filter fun e => decide (K = 0 ∨ e.2 + off < A)).map Prod.fst
theorem gath_yes {O : List (List ByteArray × Nat)} {off K A k : Nat} {R : List ByteArray} {E : Nat} (h : O[k]? = some (R, E)) (hc : K = 0 ∨ E + off < A) : gath O off K A (k + 1) = gath O off K A k ++ [R] := by
  unfold gath
  rw [List.take_add_one, h, List.filter_append, List.map_append]
  simp [hc]
theorem gath_no {O : List (List ByteArray × Nat)} {off K A k : Nat} {R : List ByteArray} {E : Nat} (h : O[k]? = some (R, E)) (hc : ¬ (K = 0 ∨ E + off < A)) : gath O off K A (k + 1) = gath O off K A k := by
  unfold gath
  rw [List.take_add_one, h, List.filter_append, List.map_append]
  simp
  omega
theorem gath_len (O : List (List ByteArray × Nat)) (off K A k : Nat) : (gath O off K A k).length ≤ O.length := by
  unfold gath
  rw [List.length_map]
  exact Nat.le_trans (List.length_filter_le _ _) (by simp; omega)

theorem gath_outs (x : Rd) (off K A k : Nat) : (gath (outs x) off K A k).length ≤ x.rs.length := by
  refine Nat.le_trans (gath_len _ _ _ _ _) ?_
  unfold outs
  rw [List.length_zip]
  omega
theorem below_next' {V w w' : World} (h : Below V.heap.size V w) (hb : Below w.heap.size w w') : Below V.heap.size V w' := h.trans (hb.mono h.size)
theorem at_worldW {C : Code} {P : Program} {Q : Exit → Act → World → Prop} {a : Act} {W : World} (h : ∀ W0, W = W0 → C.wp P Q a W0) : C.wp P Q a W := h W rfl

/-- What is known of what the reader tells. -/
structure GotM (p q : Nat) (n : Int) (l : Lim) (t : ByteArray) (x : Rd) : Prop where
  kd : (finM p q n l t).ft.1 = x.kd
  pl : x.kd ≠ 0 → (finM p q n l t).ft.2 = x.pl ∧ x.pl ≤ t.size
  out : (finM p q n l t).out = outs x
  len : x.rs.length = x.en.length
  bd : x.rs.length ≤ t.size + 1
theorem gotM {p q : Nat} {n : Int} {l : Lim} {t : ByteArray} {x : Rd} (h : Dead p q n l t x ∨ Done p q n l t x) : GotM p q n l t x := by
  rcases h with h | h
  · refine ⟨by rw [h.ft], fun _ => ⟨by rw [h.ft], ?_⟩, h.out, h.len, by have := h.bd; omega⟩
    have := ((fin_outK (p := p) (q := q) (n := n) (l := l) (t := t)).ft (by rw [h.ft]; exact h.kd)).1
    rw [h.ft] at this
    exact Nat.le_of_lt_succ this
  · exact ⟨by rw [h.ft, h.kd], fun hk => absurd h.kd hk, h.out, h.len, h.bd⟩

def RefP (p q : Nat) (n : Int) (l : Lim) (s : ByteArray) (w : World) (e : Ending) (w' : World) : Prop :=
  ∃ v, e = .returned (.tuple #[v, .int .i64 ((finU p q n l (Bom.stripS s)).ft.1 : Int), .int .i64 ((if (finU p q n l (Bom.stripS s)).ft.1 = 0 then 0 else offN s + (finU p q n l (Bom.stripS s)).ft.2 : Nat) : Int)]) ∧ Tbl w' v (recs (finU p q n l (Bom.stripS s))) ∧ Below w.heap.size w w'

set_option maxRecDepth 100000 in
set_option maxHeartbeats 4000000 in
theorem refParse_any (p q : Nat) (n : Int) (l : Lim) (s : ByteArray) (w : World) (hs : s.size ≤ 4000) (hok : okB p q n = true) (hfl : 1 ≤ l.fl) (hfs : 1 ≤ l.fs) (hrs : 0 ≤ l.rs) :
    Calls Tryd.prog 19 #[.agg #[.int .i64 p, .int .i64 q, .int .i64 n], .agg #[.int .i64 l.fs, .int .i64 l.fl, .int .i64 l.rs, .int .i64 (n01 l.un)], .string s] w (RefP p q n l s w) := by
  obtain ⟨hz, hg, hw⟩ := strip_off s
  have hT := tieU (p := p) (q := q) (n := n) (l := l) (t := Bom.stripS s) (offN s)
  have h1 := fin_not1 (p := p) (q := q) (n := n) (l := l) (t := Bom.stripS s)
  have HST := Lib.hid (fun W => Bom.strip_ref s W (by unfold maxLen; omega))
  have HBAD := Lib.hid (fun W => Utf.refBad_any s W (by omega))
  have HWH := Lib.hid (fun W => Utf.refWhole_any s W (by unfold maxLen; omega))
  have HRD := Lib.hid (fun W => read_any p q n l (Bom.stripS s) W (by omega) hok hfl hfs hrs)
  obtain ⟨t, ht⟩ : ∃ t, Bom.stripS s = t := ⟨_, rfl⟩
  obtain ⟨off, hoff⟩ : ∃ off, offN s = off := ⟨_, rfl⟩
  obtain ⟨G, hG⟩ : ∃ G, Utf.goesN t = G := ⟨_, rfl⟩
  rw [ht, hoff] at hz hg hT
  rw [ht] at h1 HST HRD hw
  have HTT := Lib.hid ht
  have HOF := Lib.hid hoff
  rw [hG] at hT hg
  have hbad : Utf.refBad s = if G < t.size then ((off + G : Nat) : Int) else -1 := by
    unfold Utf.refBad
    rw [hg]
    by_cases h : G < t.size
    · rw [if_pos h, if_pos (by omega)]
    · rw [if_neg h, if_neg (by omega)]
  have hoI : (s.size : Int) - (t.size : Int) = (off : Int) := by omega
  obtain ⟨bd, hbd⟩ : ∃ bd : Int, Utf.refBad s = bd := ⟨_, rfl⟩
  rw [hbd] at hbad HBAD
  clear hbd
  have HT := Lib.hid hT
  have H1 := Lib.hid h1
  have HB := Lib.hid hbad
  have HZ := Lib.hid hz
  have HGL := Lib.hid (show G ≤ t.size by have := (Utf.goesN_is t).1; omega)
  have HW := Lib.hid hw
  clear hT h1 hbad hw hg hfl hfs hrs hok ht hoff hG hz
  have hcell := fun (W : World) (x : Later W) => x.cell
  go_enter Tryd.func19, Tryd.ntmps19
  go_wp2_with (first
    | (go_at_call 30; refine (call_later (HST.out _)).mono ?_; rintro e w1 ⟨rfl, y1, rfl⟩; have hy1 := Later.lt2 y1; have HY1 := Lib.hid y1.below)
    | (go_at_call 31; refine (HRD.out _).mono ?_; rintro e w3 ⟨x, vr, ve, rfl, htb, hpl, hdd, hb3⟩; have HTB := Lib.hid htb; have HPL := Lib.hid hpl; have HGM := Lib.hid (gotM hdd); have HB3 := Lib.hid hb3; obtain ⟨Ar, cr, rfl, _, _, _⟩ := htb; obtain ⟨Ae, ce, rfl, _, _, _⟩ := hpl; clear hdd hb3))
  refine at_worldW ?_
  intro V hV
  have hbv : Box V w3.heap.size 67 #[.slice Ar x.rs.length cr, .slice Ae x.en.length ce, .int .i64 (x.kd : Int), .int .i64 (x.pl : Int)] := by rw [← hV]; exact Box.new _ _ _
  have hv3 : Below w3.heap.size w3 V := by rw [← hV]; exact (Below.refl _ _).alloc (Nat.le_refl _) _
  have HTV := Lib.hid (HTB.out.below hv3)
  have HPV := Lib.hid (HPL.out.below hv3)
  have HBV : Hid (Below w.heap.size w V) := Lib.hid (((((Below.refl w.heap.size w).alloc (Nat.le_refl _) _).alloc (by simp) _).trans (HY1.out.mono (by simp; omega))).trans ((HB3.out.mono (by have := HY1.out.size; simp at this; omega)).trans (hv3.mono (by have := HB3.out.size; have := HY1.out.size; simp at *; omega))))
  obtain ⟨bq, hbq⟩ : ∃ b, w3.heap.size = b := ⟨_, rfl⟩
  rw [hbq] at hbv ⊢
  have v2 : V.cell? ⟨bq, 2, none⟩ = some (.int .i64 (x.kd : Int)) := hbv.cell 2
  have v3 : V.cell? ⟨bq, 3, none⟩ = some (.int .i64 (x.pl : Int)) := hbv.cell 3
  have hlt := hbv.lt
  have HBX := Lib.hid hbv
  obtain ⟨M, hM⟩ : ∃ M, finM p q n l t = M := ⟨_, rfl⟩
  have hgm := HGM.out
  have hol := (fin_outK (p := p) (q := q) (n := n) (l := l) (t := t)).lt
  rw [hM] at hol
  have hkd := hgm.kd
  have hpl2 := hgm.pl
  have hout := hgm.out
  have hlen := hgm.len
  have hbdl := hgm.bd
  have hT := HT.out
  have h1 := H1.out
  rw [hM] at hkd hpl2 hout hT h1
  rw [hout] at hol
  have HOL := Lib.hid hol
  clear hol
  have HT := Lib.hid hT
  have HKD := Lib.hid hkd
  have HPL2 := Lib.hid hpl2
  have HOUT := Lib.hid hout
  have HLEN := Lib.hid hlen
  have HBDL := Lib.hid hbdl
  have H1 := Lib.hid h1
  clear hV hv3 hbv HY1 HB3 HTB HPL hgm hkd hpl2 hout hlen hbdl hT h1 HGM hM hy1 HST HRD hoI
  obtain ⟨A0, hA0⟩ : ∃ A0 : Nat, (if M.ft.1 = 0 then off + t.size else M.ft.2 + off) = A0 := ⟨_, rfl⟩
  have HA0 := Lib.hid hA0
  clear hA0
  refine wp_region_later_lit (by kernel_rfl) (by kernel_rfl) ?_
  repeat (go_big_quiet_step (fail))
  refine wpQuiet_nil ?_
  rintro w' ⟨y, rfl⟩
  have HYB := Lib.hid y.below
  go_upto_if 40 with (fail)
  go_cut [14] (fun z14 wx => z14 = .int .i64 (A0 : Int) ∧ Below V.heap.size V wx)
  case first =>
    by_cases hk : x.kd = 0
    · have k1 : ((x.kd : Int) == 0) = true := by simp; omega
      have k2 : decide ((x.kd : Int) = 0) = true := decide_eq_true (by omega)
      have e : A0 = s.size := by rw [← HA0.out, if_pos (by rw [HKD.out]; exact hk), HZ.out]
      have HE := Lib.hid e
      clear e hk
      go_wp2_with fail
      go_meet
      exact ⟨by rw [HE.out], HYB.out⟩
    · have k1 : ((x.kd : Int) == 0) = false := by simp; omega
      have k2 : decide ((x.kd : Int) = 0) = false := decide_eq_false (by omega)
      have e : A0 = x.pl + off := by rw [← HA0.out, if_neg (by rw [HKD.out]; exact hk), (HPL2.out hk).1]
      have hp2 := (HPL2.out hk).2
      have hz := HZ.out
      have HE : Hid (wrap64 ((x.pl : Int) + (off : Int)) = (A0 : Int)) := Lib.hid (by unfold wrap64; omega)
      clear e hk hp2 hz
      go_wp2_with fail
      go_meet
      exact ⟨by rw [HE.out], HYB.out⟩
  case rest =>
    obtain ⟨rfl, hbw⟩ := hcut
    have HW1 := Lib.hid hbw
    clear hbw HYB
    go_upto_if 46 with (go_at_call 32; refine (call_later (HBAD.out _)).mono ?_; rintro e w' ⟨rfl, y2, rfl⟩; have HY2 := Lib.hid y2.below)
    go_cut [13, 14] (fun z13 z14 wx => ∃ K1 A1 : Nat, z13 = .int .i64 (K1 : Int) ∧ z14 = .int .i64 (A1 : Int) ∧ ((if K1 = 1 then 3 else K1), A1) = refK M off (off + t.size) (off + G) (decide (Utf.wholeN t < t.size)) ∧ Below V.heap.size V wx)
    case first =>
      have HBY := Lib.hid (below_next' HW1.out HY2.out)
      clear HY2
      by_cases hGt : G < t.size
      · have hb := HB.out
        rw [if_pos hGt] at hb
        subst hb
        have j1 : ((off + G : Nat) : Int) ≥ 0 := by omega
        have j2 : decide ((0 : Int) ≤ ((off + G : Nat) : Int)) = true := decide_eq_true (by omega)
        have j3 : (0 : Int) ≤ (off : Int) + (G : Int) := by omega
        by_cases hc : M.ft.1 = 0 ∨ off + G ≤ A0
        · have HR : Hid ((3, off + G) = refK M off (off + t.size) (off + G) (decide (Utf.wholeN t < t.size))) := Lib.hid (by
            unfold refK
            simp only []
            rw [HA0.out, if_pos (by omega), if_pos hc])
          by_cases hk : x.kd = 0
          · have k1 : ((x.kd : Int) == 0) = true := by simp; omega
            have k2 : decide ((x.kd : Int) = 0) = true := decide_eq_true (by omega)
            clear hk hc hGt
            go_wp2_with fail
            go_meet
            exact ⟨1, off + G, rfl, rfl, HR.out, HBY.out⟩
          · have k1 : ((x.kd : Int) == 0) = false := by simp; omega
            have k2 : decide ((x.kd : Int) = 0) = false := decide_eq_false (by omega)
            have hle : off + G ≤ A0 := hc.elim (fun h => absurd (HKD.out ▸ h) hk) id
            have j4 : decide (((off + G : Nat) : Int) ≤ (A0 : Int)) = true := decide_eq_true (by omega)
            have j5 : (off : Int) + (G : Int) ≤ (A0 : Int) := by omega
            clear hk hc hGt hle
            go_wp2_with fail
            go_meet
            exact ⟨1, off + G, rfl, rfl, HR.out, HBY.out⟩
        · have hk : ¬ x.kd = 0 := fun h => hc (.inl (HKD.out.trans h))
          have HR : Hid ((M.ft.1, A0) = refK M off (off + t.size) (off + G) (decide (Utf.wholeN t < t.size))) := Lib.hid (by
            unfold refK
            simp only []
            rw [HA0.out, if_pos (by omega), if_neg hc])
          have k1 : ((x.kd : Int) == 0) = false := by simp; omega
          have k2 : decide ((x.kd : Int) = 0) = false := decide_eq_false (by omega)
          have hle : ¬ off + G ≤ A0 := fun h => hc (.inr h)
          have j4 : decide (((off + G : Nat) : Int) ≤ (A0 : Int)) = false := decide_eq_false (by omega)
          have j5 : ¬ (off : Int) + (G : Int) ≤ (A0 : Int) := by omega
          clear hk hc hGt hle
          go_wp2_with fail
          go_meet
          exact ⟨x.kd, A0, rfl, rfl, by rw [← HR.out, if_neg (by rw [← HKD.out]; exact H1.out), HKD.out], HBY.out⟩
      · have hb := HB.out
        rw [if_neg hGt] at hb
        subst hb
        have HWV := Lib.hid (fun W => HWH.out W)
        by_cases hw : Utf.wholeN s < s.size
        · have w1 : (Utf.wholeN s : Int) < (s.size : Int) := by omega
          have hwt : decide (Utf.wholeN t < t.size) = true := decide_eq_true (HW.out.1 hw)
          by_cases ha : A0 = s.size
          · have a1 : ((A0 : Int) == (s.size : Int)) = true := by simp; omega
            have HR : Hid ((12, A0) = refK M off (off + t.size) (off + G) (decide (Utf.wholeN t < t.size))) := Lib.hid (by
              unfold refK
              simp only []
              rw [HA0.out, if_neg (by omega), if_pos ⟨hwt, by rw [ha, HZ.out]⟩])
            clear hw ha hwt hGt
            go_wp2_with (go_at_call 18; refine (later_call y2 (HWH.out y2.w)).mono ?_; rintro e w' ⟨rfl, y3, rfl⟩; have HY3 := Lib.hid y3.below)
            go_meet
            exact ⟨12, A0, rfl, rfl, HR.out, below_next' HW1.out HY3.out⟩
          · have a1 : ((A0 : Int) == (s.size : Int)) = false := by simp; omega
            have HR : Hid ((M.ft.1, A0) = refK M off (off + t.size) (off + G) (decide (Utf.wholeN t < t.size))) := Lib.hid (by
              unfold refK
              simp only []
              rw [HA0.out, if_neg (by omega), if_neg (fun h => ha (by rw [HZ.out]; exact h.2))])
            clear hw ha hwt hGt
            go_wp2_with (go_at_call 18; refine (later_call y2 (HWH.out y2.w)).mono ?_; rintro e w' ⟨rfl, y3, rfl⟩; have HY3 := Lib.hid y3.below)
            go_meet
            exact ⟨x.kd, A0, rfl, rfl, by rw [← HR.out, if_neg (by rw [← HKD.out]; exact H1.out), HKD.out], below_next' HW1.out HY3.out⟩
        · have w1 : ¬ (Utf.wholeN s : Int) < (s.size : Int) := by omega
          have hwt : decide (Utf.wholeN t < t.size) = false := decide_eq_false (fun h => hw (HW.out.2 h))
          have HR : Hid ((M.ft.1, A0) = refK M off (off + t.size) (off + G) (decide (Utf.wholeN t < t.size))) := Lib.hid (by
            unfold refK
            simp only []
            rw [HA0.out, if_neg (by omega), if_neg (fun h => by rw [hwt] at h; exact absurd h.1 (by decide))])
          clear hw hwt hGt
          go_wp2_with (go_at_call 18; refine (later_call y2 (HWH.out y2.w)).mono ?_; rintro e w' ⟨rfl, y3, rfl⟩; have HY3 := Lib.hid y3.below)
          go_meet
          exact ⟨x.kd, A0, rfl, rfl, by rw [← HR.out, if_neg (by rw [← HKD.out]; exact H1.out), HKD.out], below_next' HW1.out HY3.out⟩
    case rest =>
      obtain ⟨K1, A1, rfl, rfl, hKA, hbw⟩ := hcut
      have HW2 := Lib.hid hbw
      have HKA := Lib.hid hKA
      clear hbw hKA HW1
      go_upto_if 67 with (fail)
      go_cut [13] (fun z13 wx => ∃ K : Nat, z13 = .int .i64 (K : Int) ∧ (K, A1) = refK M off (off + t.size) (off + G) (decide (Utf.wholeN t < t.size)) ∧ Below V.heap.size V wx)
      case first =>
        by_cases hk : K1 = 1
        · have k1 : ((K1 : Int) == 1) = true := by simp; omega
          have k2 : decide ((K1 : Int) = 1) = true := decide_eq_true (by omega)
          have HR : Hid ((3, A1) = refK M off (off + t.size) (off + G) (decide (Utf.wholeN t < t.size))) := Lib.hid (by rw [← HKA.out, if_pos hk])
          clear hk
          go_wp2_with fail
          go_meet
          exact ⟨3, rfl, HR.out, HW2.out⟩
        · have k1 : ((K1 : Int) == 1) = false := by simp; omega
          have k2 : decide ((K1 : Int) = 1) = false := decide_eq_false (by omega)
          have HR : Hid ((K1, A1) = refK M off (off + t.size) (off + G) (decide (Utf.wholeN t < t.size))) := Lib.hid (by rw [← HKA.out, if_neg hk])
          clear hk
          go_wp2_with fail
          go_meet
          exact ⟨K1, rfl, HR.out, HW2.out⟩
      case rest =>
        obtain ⟨K, rfl, hKA2, hbw⟩ := hcut
        obtain ⟨t1, t2, t3⟩ := HT.out K A1 hKA2 H1.out
        have T1 := Lib.hid t1
        have T2 := Lib.hid t2
        have T3 := Lib.hid t3
        have HW3 := Lib.hid hbw
        clear hbw hKA2 HKA HW2 t1 t2 t3
        obtain ⟨_, _, q1, _, q2, hA⟩ := HTV.out
        injection q1 with q3 q4 q5
        subst q3 q5
        obtain ⟨_, _, q1, _, q6, hB⟩ := HPV.out
        injection q1 with q3 q4 q5
        subst q3 q5
        have HA := Lib.hid hA
        have HB := Lib.hid hB
        have b0 : wc.cell? ⟨bq, 0, none⟩ = some (.slice Ar x.rs.length cr) := ((HBX.out.below HW3.out hlt).cell 0)
        have hlc : bq < wc.heap.size := Nat.lt_of_lt_of_le hlt HW3.out.size
        have HBC := Lib.hid (HBX.out.below HW3.out hlt)
        have HWC := Lib.hid HW3.out.size
        have hlr := HBDL.out
        have hsz := HZ.out
        unfold maxLen at q2 q6
        clear hA hB HTV HPV v2 v3
        go_wp2_with fail
        go_loopw [16, 17, 18, 71] (fun z16 _ _ z71 (wr : World) => ∃ k : Nat, k ≤ x.rs.length ∧ z71 = .int .i64 (k : Int) ∧ OwnT wc wr z16 (gath (outs x) off K A1 k) ∧ Below wc.heap.size wc wr) (fun _ _ _ z71 _ => x.rs.length - (intOf z71).toNat)
        case atStart => exact ⟨0, by omega, rfl, OwnT.nil _ _, Below.refl _ _⟩
        case round =>
          obtain ⟨k, hk, rfl, ho, hb⟩ := hrel
          have HO := Lib.hid ho
          have HBW := Lib.hid hb
          clear ho hb
          by_cases c1 : k < x.rs.length
          · have i1 : (k : Int) < (x.rs.length : Int) := by omega
            have i2 : (k : Int) < (x.en.length : Int) := by have := HLEN.out; omega
            obtain ⟨L, hL⟩ : ∃ L, x.rs[k]? = some L := ⟨_, List.getElem?_eq_getElem c1⟩
            obtain ⟨E, hE⟩ : ∃ E, x.en[k]? = some E := ⟨_, List.getElem?_eq_getElem (by have := HLEN.out; omega)⟩
            have HOK : Hid ((outs x)[k]? = some (L, E)) := Lib.hid (by unfold outs; rw [List.getElem?_zip_eq_some]; exact ⟨hL, hE⟩)
            have hEb : E + off ≤ s.size := by
              have := HOL.out (L, E) (List.mem_of_getElem? HOK.out)
              simp only [] at this
              omega
            obtain ⟨a, r, rfl, ha, hra⟩ := HA.out k L hL
            obtain ⟨b, rfl, hb⟩ := HB.out k E hE
            have ha2 := (HW3.out.cell (World.block_lt_of_cell? V _ ha)).trans ha
            have hb2 := (HW3.out.cell (World.block_lt_of_cell? V _ hb)).trans hb
            have ha' := (HBW.out.cell (World.block_lt_of_cell? wc _ ha2)).trans ha2
            have hb' := (HBW.out.cell (World.block_lt_of_cell? wc _ hb2)).trans hb2
            have b1 : wr.cell? ⟨bq, 1, none⟩ = some (.slice (some b) x.en.length ce) := ((HBC.out.below HBW.out hlc).cell 1)
            have HSR := Lib.hid (hra.below HW3.out)
            obtain ⟨rB, rD, hr0, _⟩ := hra
            subst hr0
            clear ha hb ha2 hb2 hL hE
            by_cases hk0 : K = 0
            · have k1 : ((K : Int) == 0) = true := by simp; omega
              have k2 : decide ((K : Int) = 0) = true := decide_eq_true (by omega)
              have HC : Hid (K = 0 ∨ E + off < A1) := Lib.hid (.inl hk0)
              clear hk0
              go_wp2_with (at_builtin; refine append_row rfl (.tmp 89) (.tmp 91) rfl u16 _ _ L rfl rfl HO.out HSR.out (by have := gath_outs x off K A1 k; omega) HBW.out.size ?_; intro A2 p2 w2 ho2 hb2; have HO2 := Lib.hid ho2; have HB2 := Lib.hid hb2; clear ho2 hb2)
              go_roundw
              case rel => exact ⟨k + 1, by omega, by go_num, by rw [gath_yes HOK.out HC.out]; exact HO2.out, HBW.out.trans HB2.out⟩
              case measure => simp [intOf]; omega
            · have k1 : ((K : Int) == 0) = false := by simp; omega
              have k2 : decide ((K : Int) = 0) = false := decide_eq_false (by omega)
              have j0 : (E : Int) + (off : Int) ≤ 4000 := by omega
              by_cases hl : E + off < A1
              · have j1 : (E : Int) + (off : Int) < (A1 : Int) := by omega
                have HC : Hid (K = 0 ∨ E + off < A1) := Lib.hid (.inr hl)
                clear hk0 hl
                go_wp2_with (at_builtin; refine append_row rfl (.tmp 89) (.tmp 91) rfl u16 _ _ L rfl rfl HO.out HSR.out (by have := gath_outs x off K A1 k; omega) HBW.out.size ?_; intro A2 p2 w2 ho2 hb2; have HO2 := Lib.hid ho2; have HB2 := Lib.hid hb2; clear ho2 hb2)
                go_roundw
                case rel => exact ⟨k + 1, by omega, by go_num, by rw [gath_yes HOK.out HC.out]; exact HO2.out, HBW.out.trans HB2.out⟩
                case measure => simp [intOf]; omega
              · have j1 : ¬ (E : Int) + (off : Int) < (A1 : Int) := by omega
                have HC : Hid (¬ (K = 0 ∨ E + off < A1)) := Lib.hid (by omega)
                clear hk0 hl
                go_wp2_with fail
                go_roundw
                case rel => exact ⟨k + 1, by omega, by go_num, by rw [gath_no HOK.out HC.out]; exact HO.out, HBW.out⟩
                case measure => simp [intOf]; omega
          · obtain rfl : k = x.rs.length := by omega
            have i1 : ¬ (x.rs.length : Int) < (x.rs.length : Int) := by omega
            have HEND : Hid (gath (outs x) off K A1 x.rs.length = recs (finU p q n l t)) := Lib.hid (by
              rw [← T3.out]
              unfold gath refT
              rw [HOUT.out, List.take_of_length_le (by unfold outs; rw [List.length_zip]; omega)])
            have HTB := Lib.hid (HO.out.tbl HBW.out)
            by_cases hk0 : K = 0
            · have k1 : ((K : Int) == 0) = true := by simp; omega
              have k2 : decide ((K : Int) = 0) = true := decide_eq_true (by omega)
              have HK0 := Lib.hid hk0
              clear hk0
              go_wp2_with fail
              refine bodyPost_ret (v := .tuple #[u16, .int .i64 (K : Int), .int .i64 0]) (by simp (maxDischargeDepth := 8) [results, Tryd.results19, go_sem]) rfl ?_
              unfold RefP
              rw [HTT.out, HOF.out]
              refine ⟨u16, by rw [← T1.out, if_pos HK0.out]; rfl, by rw [← HEND.out]; exact HTB.out, ?_⟩
              exact HBV.out.trans ((HW3.out.trans (HBW.out.mono HW3.out.size)).mono HBV.out.size)
            · have k1 : ((K : Int) == 0) = false := by simp; omega
              have k2 : decide ((K : Int) = 0) = false := decide_eq_false (by omega)
              have HK0 := Lib.hid hk0
              clear hk0
              go_wp2_with fail
              refine bodyPost_ret (v := .tuple #[u16, .int .i64 (K : Int), .int .i64 (A1 : Int)]) (by simp (maxDischargeDepth := 8) [results, Tryd.results19, go_sem]) rfl ?_
              unfold RefP
              rw [HTT.out, HOF.out]
              refine ⟨u16, by rw [← T1.out, if_neg HK0.out, T2.out HK0.out], by rw [← HEND.out]; exact HTB.out, ?_⟩
              exact HBV.out.trans ((HW3.out.trans (HBW.out.mono HW3.out.size)).mono HBV.out.size)

end Go.Proofs.YtajedohgcepkiaaDoor
