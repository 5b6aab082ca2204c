/-
  Walks: a text's pieces of sizes.
-/
import Derived.Test.YtmfhnmdgcjlnpaaRows
import Derived.Test.YtmfhnmdgcjlnpaaCtA
import Derived.Lib.Hide
import Derived.StillTailTactics
namespace Go.Proofs.Ytmfhnmdgcjlnpaa
open Go.RowKit

/-- Where the k-th piece begins; the pieces so far. -/
def pos (n : Int) (sz : List Int) : Nat → Int
  | 0 => 0
  | k + 1 => pos n sz k + held (sz.getD (k % sz.length) 0) (n - pos n sz k)
def outB (s : ByteArray) (sz : List Int) : Nat → List ByteArray
  | 0 => []
  | k + 1 => outB s sz k ++ (if pos s.size sz k < s.size then [s.extract (pos s.size sz k).toNat (pos s.size sz (k + 1)).toNat] else [])
theorem pos_range (n : Int) (sz : List Int) (hn : 0 ≤ n) (k : Nat) : 0 ≤ pos n sz k ∧ pos n sz k ≤ n := by
  induction k with
  | zero => exact ⟨Int.le_refl _, hn⟩
  | succ k ih =>
    have := held_range (sz.getD (k % sz.length) 0) (n - pos n sz k) (by omega)
    show 0 ≤ pos n sz k + _ ∧ pos n sz k + _ ≤ n
    omega
theorem pos_le (n : Int) (sz : List Int) (hn : 0 ≤ n) (k : Nat) : pos n sz k ≤ pos n sz (k + 1) := by
  have h := pos_range n sz hn k
  have := held_range (sz.getD (k % sz.length) 0) (n - pos n sz k) (by omega)
  show _ ≤ pos n sz k + _
  omega
theorem pos_stay (n : Int) (sz : List Int) (hn : 0 ≤ n) (k d : Nat) (h : pos n sz k = n) : pos n sz (k + d) = n := by
  induction d with
  | zero => exact h
  | succ d ih =>
    have h1 := pos_le n sz hn (k + d)
    have h2 := pos_range n sz hn (k + d + 1)
    show pos n sz (k + d + 1) = n
    omega
theorem outB_none (s : ByteArray) (sz : List Int) (k : Nat) (h : ¬ pos s.size sz k < s.size) : outB s sz (k + 1) = outB s sz k := by
  show outB s sz k ++ _ = _
  rw [if_neg h, List.append_nil]
theorem outB_stay (s : ByteArray) (sz : List Int) (k d : Nat) (h : pos s.size sz k = s.size) : outB s sz (k + d) = outB s sz k := by
  induction d with
  | zero => rfl
  | succ d ih =>
    have h1 := pos_stay s.size sz (by omega) k d h
    exact (outB_none s sz (k + d) (by omega)).trans ih
theorem outB_len (s : ByteArray) (sz : List Int) (k : Nat) : (outB s sz k).length ≤ k := by
  induction k with
  | zero => exact Nat.le_refl _
  | succ k ih =>
    show (outB s sz k ++ _).length ≤ _
    rw [List.length_append]
    split <;> simp <;> omega
theorem outB_some (s : ByteArray) (sz : List Int) (k : Nat) (h : pos s.size sz k < s.size) : outB s sz (k + 1) = outB s sz k ++ [s.extract (pos s.size sz k).toNat (pos s.size sz (k + 1)).toNat] := by
  show outB s sz k ++ _ = _
  rw [if_pos h]
theorem catB_outB (s : ByteArray) (sz : List Int) (k : Nat) : catB (outB s sz k) = s.extract 0 (pos s.size sz k).toNat := by
  induction k with
  | zero => exact (byt_inj (by simp [pos]; rfl) (fun i hi => by simp [catB, outB] at hi; exact absurd hi (by show ¬ i < 0; omega)))
  | succ k ih =>
    have h0 := pos_range s.size sz (by omega) k
    have h1 := pos_range s.size sz (by omega) (k + 1)
    have h2 := pos_le s.size sz (by omega) k
    by_cases h : pos s.size sz k < s.size
    · rw [outB_some s sz k h, catB_snoc, ih]
      exact extract_glue s _ _ (by omega) (by omega)
    · rw [outB_none s sz k h, ih]
      have : pos s.size sz k = pos s.size sz (k + 1) := by omega
      rw [this]

/-- Is the text handed back whole? -/
def wholeB (s : ByteArray) (sz : List Int) : Prop := s.size = 0 ∨ ∀ x ∈ sz, ¬ 0 < x
/-- L: a text's pieces of sizes. -/
def ByL (s : ByteArray) (sz : List Int) (L : List ByteArray) : Prop := (wholeB s sz ∧ L = [s]) ∨ (¬ wholeB s sz ∧ ∃ N, pos s.size sz N = s.size ∧ L = outB s sz N)
theorem ByL.unique {s : ByteArray} {sz : List Int} {L M : List ByteArray} (h : ByL s sz L) (k : ByL s sz M) : L = M := by
  rcases h with ⟨h1, rfl⟩ | ⟨h1, N, h2, rfl⟩ <;> rcases k with ⟨k1, rfl⟩ | ⟨k1, N', k2, rfl⟩
  · rfl
  · exact absurd h1 k1
  · exact absurd k1 h1
  · rw [← outB_stay s sz N N' h2, Nat.add_comm, outB_stay s sz N' N k2]
theorem ByL.cat {s : ByteArray} {sz : List Int} {L : List ByteArray} (h : ByL s sz L) : catB L = s := by
  rcases h with ⟨h1, rfl⟩ | ⟨h1, N, h2, rfl⟩
  · exact catB_one s
  · rw [catB_outB, h2]
    show s.extract 0 s.size = s
    exact extract_all s

theorem foldl_max (l : List Int) : ∀ a : Int, a ≤ l.foldl max a ∧ (∀ x ∈ l, x ≤ l.foldl max a) ∧ (l.foldl max a = a ∨ l.foldl max a ∈ l) := by
  induction l with
  | nil => intro a; exact ⟨Int.le_refl _, fun x hx => by simp at hx, .inl rfl⟩
  | cons b l ih =>
    intro a
    obtain ⟨h1, h2, h3⟩ := ih (max a b)
    simp only [List.foldl_cons]
    refine ⟨by omega, fun x hx => ?_, ?_⟩
    · rcases List.mem_cons.1 hx with rfl | hx
      · omega
      · exact h2 x hx
    · rcases h3 with h3 | h3
      · rcases Int.le_total a b with h | h
        · right; rw [h3]; rw [Int.max_eq_right h]; simp
        · left; rw [h3]; exact Int.max_eq_left h
      · right; exact List.mem_cons_of_mem _ h3
theorem maxOf_pos (L : List Int) (h : 0 < L.length) : 0 < Lib.maxOf L ↔ ∃ x ∈ L, 0 < x := by
  cases L with
  | nil => simp at h
  | cons a l =>
    have e : Lib.maxOf (a :: l) = (a :: l).foldl max a := rfl
    rw [e]
    obtain ⟨h1, h2, h3⟩ := foldl_max (a :: l) a
    constructor
    · intro hp
      rcases h3 with h3 | h3
      · exact ⟨a, by simp, by omega⟩
      · exact ⟨_, h3, hp⟩
    · rintro ⟨x, hx, hp⟩
      have := h2 x hx
      omega

/-- How much is still to do: jj is the place of a size above 0. -/
def mu (n : Int) (sz : List Int) (jj k : Nat) : Nat := (n - pos n sz k).toNat * sz.length + (jj + sz.length - k % sz.length) % sz.length
theorem mod_next (k m : Nat) (hm : 0 < m) : (k + 1) % m = if k % m + 1 = m then 0 else k % m + 1 := by
  have h1 := Nat.mod_lt k hm
  have e : (k + 1) % m = (k % m + 1) % m := by rw [Nat.add_mod, Nat.add_mod (k % m)]; simp
  rw [e]
  split
  · rename_i h; rw [h, Nat.mod_self]
  · exact Nat.mod_eq_of_lt (by omega)
theorem dist_eq (jj m r : Nat) (hj : jj < m) (hr : r < m) : (jj + m - r) % m = if r ≤ jj then jj - r else jj + m - r := by
  split
  · rename_i h
    rw [show jj + m - r = (jj - r) + m by omega, Nat.add_mod_right]
    exact Nat.mod_eq_of_lt (by omega)
  · exact Nat.mod_eq_of_lt (by omega)
theorem mu_step (n : Int) (sz : List Int) (jj k : Nat) (hn : 0 ≤ n) (hj : jj < sz.length) (hp : 0 < sz.getD jj 0) (hk : pos n sz k < n) : mu n sz jj (k + 1) + 1 ≤ mu n sz jj k := by
  have hm : 0 < sz.length := by omega
  have hr := Nat.mod_lt k hm
  have h0 := pos_range n sz hn k
  have h1 := pos_range n sz hn (k + 1)
  have h2 := pos_le n sz hn k
  unfold mu
  rw [dist_eq jj _ _ hj hr, mod_next k _ hm]
  by_cases hgrow : pos n sz k < pos n sz (k + 1)
  · have e : (n - pos n sz k).toNat = (n - pos n sz (k + 1)).toNat + ((n - pos n sz k).toNat - (n - pos n sz (k + 1)).toNat - 1) + 1 := by omega
    have hge : (n - pos n sz k).toNat * sz.length ≥ (n - pos n sz (k + 1)).toNat * sz.length + sz.length := by
      rw [e, Nat.add_mul, Nat.add_mul]
      omega
    have hd : (jj + sz.length - (if k % sz.length + 1 = sz.length then 0 else k % sz.length + 1)) % sz.length < sz.length := Nat.mod_lt _ hm
    by_cases hle : k % sz.length ≤ jj
    · rw [if_pos hle]; omega
    · rw [if_neg hle]; omega
  · have e : pos n sz (k + 1) = pos n sz k := by omega
    have hne : k % sz.length ≠ jj := by
      intro hc
      have hx : pos n sz (k + 1) = pos n sz k + held (sz.getD (k % sz.length) 0) (n - pos n sz k) := rfl
      rw [hc] at hx
      unfold held at hx
      rw [if_neg (by omega)] at hx
      split at hx <;> omega
    rw [e]
    by_cases hl : k % sz.length + 1 = sz.length
    · rw [if_pos hl, dist_eq jj _ 0 hj hm, if_pos (Nat.zero_le _), if_neg (by omega)]
      omega
    · rw [if_neg hl, dist_eq jj _ (k % sz.length + 1) hj (by omega)]
      by_cases hle : k % sz.length ≤ jj
      · rw [if_pos hle, if_pos (by omega)]; omega
      · rw [if_neg hle, if_neg (by omega)]; omega

theorem max_any (v : Value) (L : List Int) (w : World) (h : Ints w v L) (h0 : 0 < L.length) (hl : L.length < 100000000) :
    Calls Try.prog 25 #[v] w (Gives (.int .i64 (Lib.maxOf L)) w) := by
  obtain ⟨b, off, c, rfl, h1, h2, _, h3⟩ := ints_form h h0
  refine (Sh.slices_Max_int b off L.length c L w h0 (Nat.le_refl _) (by omega) h3).mono ?_
  rintro e w' ⟨rfl, rfl⟩
  rw [List.take_length]
  exact ⟨rfl, Below.refl _ _⟩

def strLen : Value → Nat
  | .string s => s.size
  | _ => 0

theorem whole_or (s : ByteArray) (sz : List Int) : s.size = 0 ∨ (s.size ≠ 0 ∧ sz = []) ∨ (s.size ≠ 0 ∧ 0 < sz.length ∧ ¬ 0 < Lib.maxOf sz) ∨ (s.size ≠ 0 ∧ 0 < sz.length ∧ 0 < Lib.maxOf sz) := by
  by_cases h : s.size = 0
  · exact .inl h
  · cases sz with
    | nil => exact .inr (.inl ⟨h, rfl⟩)
    | cons a l =>
      by_cases hp : 0 < Lib.maxOf (a :: l)
      · exact .inr (.inr (.inr ⟨h, by simp, hp⟩))
      · exact .inr (.inr (.inl ⟨h, by simp, hp⟩))

theorem ext_front (s : ByteArray) (i n j : Nat) (h : i + j ≤ n) : (s.extract i n).extract 0 j = s.extract i (i + j) := by
  apply byt_inj
  · simp only [ByteArray.size_extract]; omega
  · intro k hk
    simp only [ByteArray.size_extract] at hk
    rw [byt_extract, byt_extract, byt_extract, if_pos (by omega), if_pos (by omega), if_pos (by omega), Nat.zero_add]
theorem ext_back (s : ByteArray) (i j : Nat) : (s.extract i s.size).extract j (s.size - i) = s.extract (i + j) s.size := by
  apply byt_inj
  · simp only [ByteArray.size_extract]; omega
  · intro k hk
    simp only [ByteArray.size_extract] at hk
    rw [byt_extract, byt_extract, byt_extract, if_pos (by omega), if_pos (by omega), if_pos (by omega), Nat.add_assoc]
theorem nonempty_list (s : ByteArray) (h : s.size ≠ 0) : (s.toList == []) = false := by
  rw [beq_eq_false_iff_ne, ByteArray.toList_eq]
  intro hc
  apply h
  have : s.data.toList.length = 0 := by rw [hc]; rfl
  simpa using this

set_option maxHeartbeats 2000000 in
theorem by_any (s : ByteArray) (v : Value) (sz : List Int) (w : World) (h : Ints w v sz) (hs : s.size ≤ 200) (hp : sz.length ≤ 20) :
    Calls Try.prog 14 #[.string s, v] w (fun e w' => ∃ v', e = .returned v' ∧ ∃ L, OwnS w' w.heap.size v' L ∧ ByL s sz L ∧ Below w.heap.size w w') := by
  have hown := fun (s : ByteArray) (W : World) => World.ownsRow_lit (e := 9) (size := 1) W #[.string s] 1 (Nat.le_refl _) (by unfold maxLen; omega) rfl
  rcases whole_or s sz with h0 | ⟨h0, rfl⟩ | ⟨h0, h1, h2⟩ | ⟨h0, h1, h2⟩
  · obtain rfl := size_none s h0
    clear h
    go_enter Try.func14, Try.ntmps14
    go_wp2
    refine bodyPost_ret (v := _) (by simp [results, Try.results14]; rfl) rfl ?_
    exact ⟨_, rfl, [⟨#[]⟩], hown _ _, .inl ⟨.inl rfl, rfl⟩, (Below.refl _ _).alloc (Nat.le_refl _) _⟩
  · have es := nonempty_list s h0
    obtain ⟨A, c, rfl, _, _, _⟩ := h
    go_enter Try.func14, Try.ntmps14
    go_wp2
    refine bodyPost_ret (v := _) (by simp [results, Try.results14]; rfl) rfl ?_
    exact ⟨_, rfl, [s], hown _ _, .inl ⟨.inr (fun x hx => by simp at hx), rfl⟩, (Below.refl _ _).alloc (Nat.le_refl _) _⟩
  · have es := nonempty_list s h0
    have HM := Lib.hid (max_any v sz w h h1 (by omega))
    obtain ⟨A, c, rfl, _, _, _⟩ := h
    have e1 : ¬ sz = [] := fun e => by rw [e] at h1; simp at h1
    have e2 : ((sz.length : Int) == 0) = false := by simp; exact e1
    have e3 : decide (Lib.maxOf sz ≤ 0) = true := decide_eq_true (by omega)
    have H2 : Hid (¬ 0 < Lib.maxOf sz) := Lib.hid h2
    have H1 := Lib.hid h1
    clear h0 h1 h2
    go_enter Try.func14, Try.ntmps14
    go_wp2_with ((go_at_call 25; (first | (with_reducible refine (later_call _ (HM.out)).mono ?_) | (with_reducible refine (call_later (HM.out)).mono ?_)); rintro e w' ⟨rfl, x, rfl⟩))
    refine bodyPost_ret (v := _) (by simp [results, Try.results14]; rfl) rfl ?_
    exact ⟨_, rfl, [s], owns_less (hown _ _) x.size, .inl ⟨.inr (fun y hy hp => (by have h4 := H2.out; have h5 := (maxOf_pos sz H1.out).2 ⟨y, hy, hp⟩; omega)), rfl⟩, x.below.alloc x.size _⟩
  · have es := nonempty_list s h0
    have HM := Lib.hid (max_any v sz w h h1 (by omega))
    obtain ⟨jj, hjj, hpj⟩ : ∃ jj, jj < sz.length ∧ 0 < sz.getD jj 0 := by
      obtain ⟨y, hy, hp⟩ := (maxOf_pos sz h1).1 h2
      obtain ⟨jj, hj, rfl⟩ := List.getElem_of_mem hy
      exact ⟨jj, hj, by simpa [List.getD, hj] using hp⟩
    have HI := Lib.hid h
    obtain ⟨A, c, rfl, hc1, hc2, hA⟩ := h
    have e1 : ¬ sz = [] := fun e => by rw [e] at h1; simp at h1
    have e2 : ((sz.length : Int) == 0) = false := by simp; exact e1
    have e3 : decide (Lib.maxOf sz ≤ 0) = false := decide_eq_false (by omega)
    have HW : Hid (¬ wholeB s sz) := Lib.hid (by rintro (h | h); exact h0 h; obtain ⟨y, hy, hp⟩ := (maxOf_pos sz h1).1 h2; exact h y hy hp)
    have HA := Lib.hid hA
    clear h2 hA
    go_enter Try.func14, Try.ntmps14
    go_wp2_with ((go_at_call 25; (first | (with_reducible refine (later_call _ (HM.out)).mono ?_) | (with_reducible refine (call_later (HM.out)).mono ?_)); rintro e w' ⟨rfl, x, rfl⟩))
    have HJ := Lib.hid (And.intro hjj hpj)
    have HXB := Lib.hid x.below
    have hm0 : mu s.size sz jj 0 ≤ 4040 := by
      unfold mu
      have h3 := Nat.mod_lt (jj + sz.length - 0 % sz.length) h1
      have h4 : ((s.size : Int) - pos s.size sz 0).toNat = s.size := by simp [pos]
      rw [h4]
      have := Nat.mul_le_mul hs hp
      omega
    clear HM hjj hpj e3
    go_loopw [0, 5, 6, 7] (fun s0 p i _ (wr : World) => ∃ k : Nat, s0 = .string (s.extract (pos s.size sz k).toNat s.size) ∧ i = .int .i64 k ∧ OwnS wr w.heap.size p (outB s sz k) ∧ Below w.heap.size w wr ∧ mu s.size sz jj k + k ≤ 4040) (fun s0 _ i _ _ => strLen s0 * sz.length + (jj + sz.length - (intOf i).toNat % sz.length) % sz.length)
    case atStart => exact ⟨0, by rw [show s.extract (pos s.size sz 0).toNat s.size = s from extract_all s], rfl, World.ownsRow_nil _ _ _ _, HXB.out, by omega⟩
    case round =>
      obtain ⟨k, rfl, rfl, ho, hb, hmu⟩ := hrel
      have HO := Lib.hid ho
      have HB := Lib.hid hb
      clear ho hb hm0
      have hpr := pos_range s.size sz (by omega) k
      have hpr1 := pos_range s.size sz (by omega) (k + 1)
      have hesz : (s.extract (pos s.size sz k).toNat s.size).size = s.size - (pos s.size sz k).toNat := by simp
      by_cases c4 : pos s.size sz k < s.size
      · have er := nonempty_list (s.extract (pos s.size sz k).toNat s.size) (by rw [hesz]; omega)
        have hmod : k % sz.length < sz.length := Nat.mod_lt _ h1
        obtain ⟨z, hz⟩ : ∃ z, sz[k % sz.length]? = some z := ⟨_, List.getElem?_eq_getElem hmod⟩
        obtain ⟨a, rfl, ha⟩ := HA.out _ z hz
        have ha' := (HB.out.cell (World.block_lt_of_cell? w _ ha)).trans ha
        have hq : pos s.size sz (k + 1) = pos s.size sz k + held z (s.size - pos s.size sz k) := by
          show pos s.size sz k + held (sz.getD (k % sz.length) 0) _ = _
          simp [List.getD, hz]
        have hmm := held_minmax z (s.size - pos s.size sz k) (by omega)
        have hhr := held_range z (s.size - pos s.size sz k) (by omega)
        have HQ := Lib.hid hq
        clear hq ha hz
        go_wp2_with (at_builtin; refine append_str rfl (.tmp 37) (.tmp 41) rfl w.heap.size u5 _ _ rfl rfl HO.out (by have := outB_len s sz k; omega) HB.out.size ?_; intro A2 p2 w3 ho3 hb3 _ _; have HO3 := Lib.hid ho3; have HB3 := Lib.hid hb3; clear ho3 hb3)
        have eH : min (max z 0) (↑(s.size - (pos (↑s.size) sz k).toNat) : Int) = pos s.size sz (k + 1) - pos s.size sz k := by
          rw [HQ.out, ← hmm]
          omega
        have hmu1 := mu_step s.size sz jj k (by omega) HJ.out.1 HJ.out.2 c4
        have hle := pos_le s.size sz (by omega) k
        have ef : (s.extract (pos s.size sz k).toNat s.size).extract 0 (pos s.size sz (k + 1) - pos s.size sz k).toNat = s.extract (pos s.size sz k).toNat (pos s.size sz (k + 1)).toNat := by
          rw [ext_front _ _ _ _ (by omega)]
          congr 1
          omega
        have eb : (s.extract (pos s.size sz k).toNat s.size).extract (pos s.size sz (k + 1) - pos s.size sz k).toNat (s.size - (pos s.size sz k).toNat) = s.extract (pos s.size sz (k + 1)).toNat s.size := by
          rw [ext_back _ _ _]
          congr 1
          omega
        have HO4 := HO3.out
        rw [eH, ef] at HO4
        rw [eH, eb]
        go_roundw
        case rel => exact ⟨k + 1, rfl, by go_num, by rw [outB_some s sz k c4]; exact HO4, HB.out.trans HB3.out, by omega⟩
        case measure =>
          have e7 : (intOf (Value.int IntKind.i64 ((k : Int) + 1))).toNat = k + 1 := by show ((k : Int) + 1).toNat = k + 1; omega
          have e8 : (intOf (Value.int IntKind.i64 (k : Int))).toNat = k := by show ((k : Int)).toNat = k; omega
          have e9 : strLen (.string (s.extract (pos s.size sz (k + 1)).toNat s.size)) = ((s.size : Int) - pos s.size sz (k + 1)).toNat := by show (s.extract _ _).size = _; simp; omega
          have e10 : strLen (.string (s.extract (pos s.size sz k).toNat s.size)) = ((s.size : Int) - pos s.size sz k).toNat := by show (s.extract _ _).size = _; simp; omega
          rw [e7, e8, e9, e10]
          exact hmu1
      · have hpe : pos s.size sz k = s.size := by omega
        have ee : s.extract (pos s.size sz k).toNat s.size = ⟨#[]⟩ := size_none _ (by rw [hesz]; omega)
        rw [ee]
        have HPE := Lib.hid hpe
        clear hpe c4 hesz
        go_wp2
        refine bodyPost_ret (v := u5) (by simp [results, Try.results14]) rfl ?_
        exact ⟨_, rfl, _, HO.out, .inr ⟨HW.out, k, HPE.out, rfl⟩, HB.out⟩

end Go.Proofs.Ytmfhnmdgcjlnpaa
