/-
  Words for memory: a slice that reads as a text; one that the call made itself; an object in a block of its own; append of texts.
-/
import Derived.Test.YtajedohgcepkiaaDoorByt
import Derived.Laws.OwnMore
namespace Go.Proofs.YtajedohgcepkiaaDoor
open Go.RowKit

theorem below_grown {B : Nat} {w w' : World} {row : Option Nat} (hg : w.grownBy w' row) (hB : B ≤ w.heap.size) (hr : ∀ g, row = some g → B ≤ g) : Below B w w' := (Below.refl _ _).grown hg hB hr

/-- A slice value of which the first n cells are a text's bytes, all of them below block B. -/
def Txt (w : World) (B : Nat) (A : Option Addr) (n c : Nat) (s : ByteArray) : Prop :=
  n = s.size ∧ n ≤ c ∧ c ≤ maxLen ∧ (A = none → c = 0) ∧ ∀ a, A = some a → 0 < n → a.block < B ∧ ∀ j, j < n → w.cell? (a.add j) = some (.int .u8 (byt s j))

theorem add_block (a : Addr) (j : Nat) : (a.add j).block = a.block := by unfold Addr.add; split <;> rfl
theorem add_add' (a : Addr) (i j : Nat) : (a.add i).add j = a.add (i + j) := by
  unfold Addr.add
  by_cases hi : i = 0
  · rw [if_pos hi, hi, Nat.zero_add]
  · rw [if_neg hi, if_neg (show i + j ≠ 0 by omega)]
    by_cases hj : j = 0
    · rw [if_pos hj, hj]; rfl
    · rw [if_neg hj]
      show ({ block := a.block, off := a.off + i + j, spot := none } : Addr) = { block := a.block, off := a.off + (i + j), spot := none }
      rw [Nat.add_assoc]

section
variable {w w' : World} {B B' n c : Nat} {A : Option Addr} {s : ByteArray}

theorem Txt.nil (w : World) (B : Nat) : Txt w B none 0 0 ⟨#[]⟩ := ⟨rfl, Nat.le_refl _, Nat.zero_le _, fun _ => rfl, fun _ h => by cases h⟩
theorem Txt.below (h : Txt w B A n c s) (hb : Below B w w') : Txt w' B A n c s :=
  ⟨h.1, h.2.1, h.2.2.1, h.2.2.2.1, fun a e h0 => ⟨(h.2.2.2.2 a e h0).1, fun j hj => (hb.cell (p := a.add j) (by rw [add_block]; exact (h.2.2.2.2 a e h0).1)).trans ((h.2.2.2.2 a e h0).2 j hj)⟩⟩
theorem Txt.more (h : Txt w B A n c s) (hB : B ≤ B') : Txt w B' A n c s :=
  ⟨h.1, h.2.1, h.2.2.1, h.2.2.2.1, fun a e h0 => ⟨Nat.lt_of_lt_of_le (h.2.2.2.2 a e h0).1 hB, (h.2.2.2.2 a e h0).2⟩⟩
theorem Txt.drew (h : Txt w B A n c s) : Txt w.drew B A n c s := h
theorem Txt.le (h : Txt w B A n c s) : n ≤ c ∧ c ≤ 9223372036854775807 := ⟨h.2.1, by have := h.2.2.1; unfold maxLen at this; omega⟩

/-- The rest of a slice, from k on. -/
theorem Txt.cut (h : Txt w B A n c s) (k : Nat) (hk : k ≤ n) : Txt w B (if c = k then A else A.map (·.add k)) (n - k) (c - k) (s.extract k s.size) := by
  obtain ⟨h1, h2, h3, h4, h5⟩ := h
  refine ⟨by rw [ByteArray.size_extract]; omega, by omega, by omega, ?_, ?_⟩
  · intro hn
    split at hn
    · omega
    · cases A with
      | none => have := h4 rfl; omega
      | some a => simp at hn
  · intro a e h0
    rw [if_neg (by omega)] at e
    cases A with
    | none => simp at e
    | some a0 =>
      simp at e
      subst e
      obtain ⟨hb, hc⟩ := h5 a0 rfl (by omega)
      refine ⟨by rw [add_block]; exact hb, fun j hj => ?_⟩
      rw [add_add', hc (k + j) (by omega), byt_extract, if_pos (by omega)]

/-- The beginning of a slice, its first k. -/
theorem Txt.front (h : Txt w B A n c s) (k : Nat) (hk : k ≤ n) : Txt w B A k c (s.extract 0 k) := by
  obtain ⟨h1, h2, h3, h4, h5⟩ := h
  refine ⟨by rw [ByteArray.size_extract]; omega, by omega, h3, h4, fun a e h0 => ⟨(h5 a e (by omega)).1, fun j hj => ?_⟩⟩
  rw [(h5 a e (by omega)).2 j (by omega), byt_extract, Nat.zero_add, if_pos hj]

/-- 'string(b)'. -/
theorem Txt.str {P : Program} (h : Txt w B A n c s) (src dst e : TypeId) (hs : P.underlying src = some (.slice e)) (he : P.underlying e = some (.int .u8)) (hd : P.underlying dst = some .string) :
    (convert src dst (.slice A n c)).run P w = .ok (.string s) w := by
  obtain ⟨h1, h2, h3, h4, h5⟩ := h
  cases A with
  | none =>
    have h0 : s.size = 0 := by have := h4 rfl; omega
    rw [size_none s h0]
    exact run_convert_bytes_nil w src e hs he n c dst hd
  | some a =>
    have hr := run_convert_bytes_back (P := P) w src dst e a c s.data.toList hs he hd (fun j hj => by
      have hj' : j < s.size := by rw [Array.length_toList] at hj; exact hj
      rw [(h5 a rfl (by omega)).2 j (by omega), ← byt_eq s j hj']
      rfl)
    rw [Array.length_toList] at hr
    have hn : n = s.data.size := h1
    rw [hn, hr]

theorem Txt.cells {a : Addr} (h : Txt w B (some a) n c s) : ∀ j u, (cellsOf s)[j]? = some u → w.cell? (a.add j) = some u := fun j u hu => by
  obtain ⟨hj, rfl⟩ := cellsOf_at s j u hu
  have h1 := h.1
  exact (h.2.2.2.2 a rfl (by omega)).2 j (by omega)

/-- A text in a slice, as what an append takes. -/
theorem Txt.src {P : Program} {tx e : TypeId} (h : Txt w B A n c s) (hk : P.underlying tx = some (.slice e)) : Src P 1 tx (.slice A n c) n (cellsOf s) w := by
  cases A with
  | none =>
    have h0 : s.size = 0 := by have := h.2.2.2.1 rfl; have := h.1; have := h.2.1; omega
    have hn : n = 0 := by have := h.1; omega
    subst hn
    rw [size_none s h0]
    exact Src.ofNil w hk c
  | some a => exact Src.ofSlice w hk a n c (cellsOf s) (by rw [cellsOf_len, h.1, Nat.mul_one]) h.cells (cellsOf_one s)
theorem src_string {P : Program} {tx : TypeId} (w : World) (s : ByteArray) (hk : P.underlying tx = some .string) : Src P 1 tx (.string s) s.size (cellsOf s) w := by
  rw [← cellsOf_bytes]
  exact Src.ofString w hk s

/-- A slice that was made from block b0 on: nil, or at the head of a block of as many cells as it has room, none of them frozen; its first n cells are a text. -/
def Own (w : World) (b0 : Nat) (A : Option Addr) (n c : Nat) (s : ByteArray) : Prop :=
  n = s.size ∧ n ≤ c ∧ c ≤ maxLen ∧ ((A = none ∧ c = 0) ∨ ∃ g, A = some ⟨g, 0, none⟩ ∧ b0 ≤ g ∧ g < w.heap.size ∧ (∀ j, j < c → (w.cell? ⟨g, j, none⟩).isSome = true ∧ w.frozen? ⟨g, j, none⟩ = false) ∧
    ∀ j, j < n → w.cell? ⟨g, j, none⟩ = some (.int .u8 (byt s j)))

theorem add_zero_off (g j : Nat) : (⟨g, 0, none⟩ : Addr).add j = ⟨g, j, none⟩ := by unfold Addr.add; split <;> simp_all
theorem Own.txt {b0 : Nat} (h : Own w b0 A n c s) : Txt w w.heap.size A n c s := by
  obtain ⟨h1, h2, h3, h4⟩ := h
  refine ⟨h1, h2, h3, ?_, ?_⟩
  · intro hn
    rcases h4 with ⟨_, hc⟩ | ⟨g, hg, _⟩
    · exact hc
    · rw [hn] at hg; cases hg
  · intro a e h0
    rcases h4 with ⟨hn, _⟩ | ⟨g, hg, _, hlt, _, hc⟩
    · rw [hn] at e; cases e
    · rw [hg] at e
      cases e
      exact ⟨hlt, fun j hj => by rw [add_zero_off]; exact hc j hj⟩
theorem Own.nil (w : World) (b0 : Nat) : Own w b0 none 0 0 ⟨#[]⟩ := ⟨rfl, Nat.le_refl _, Nat.zero_le _, .inl ⟨rfl, rfl⟩⟩
theorem Own.lt {b0 : Nat} (h : Own w b0 A n c s) {a : Addr} (e : A = some a) : b0 ≤ a.block ∧ a.block < w.heap.size := by
  obtain ⟨_, _, _, h4⟩ := h
  rcases h4 with ⟨hn, _⟩ | ⟨g, hg, h1, h2, _⟩
  · rw [hn] at e; cases e
  · rw [hg] at e; cases e; exact ⟨h1, h2⟩
theorem Own.less {b0 b1 : Nat} (h : Own w b0 A n c s) (hb : b1 ≤ b0) : Own w b1 A n c s := by
  obtain ⟨h1, h2, h3, h4⟩ := h
  refine ⟨h1, h2, h3, ?_⟩
  rcases h4 with h4 | ⟨g, hg, hb0, r⟩
  · exact .inl h4
  · exact .inr ⟨g, hg, by omega, r⟩
theorem Own.kept {b0 : Nat} (h : Own w b0 A n c s) (hsz : w.heap.size ≤ w'.heap.size) (hk : ∀ a, A = some a → w'.heap[a.block]? = w.heap[a.block]?) : Own w' b0 A n c s := by
  obtain ⟨h1, h2, h3, h4⟩ := h
  refine ⟨h1, h2, h3, ?_⟩
  rcases h4 with h4 | ⟨g, hg, hb0, hlt, hc, hd⟩
  · exact .inl h4
  · have hk' := hk _ hg
    have e1 : ∀ j, w'.cell? ⟨g, j, none⟩ = w.cell? ⟨g, j, none⟩ := fun j => World.cell?_of_block (w := w) (a := ⟨g, j, none⟩) hk'
    have e2 : ∀ j, w'.frozen? ⟨g, j, none⟩ = w.frozen? ⟨g, j, none⟩ := fun j => World.frozen?_of_block (w := w) (a := ⟨g, j, none⟩) hk'
    exact .inr ⟨g, hg, hb0, by omega, fun j hj => by rw [e1, e2]; exact hc j hj, fun j hj => by rw [e1]; exact hd j hj⟩
theorem Own.below {b0 B : Nat} (h : Own w b0 A n c s) (hb : Below B w w') (hB : ∀ a, A = some a → a.block < B) : Own w' b0 A n c s := h.kept hb.size fun a e => hb.block _ (hB a e)
theorem Own.grown {b0 : Nat} {row : Option Nat} (h : Own w b0 A n c s) (hg : w.grownBy w' row) (hr : ∀ a, A = some a → some a.block ≠ row) : Own w' b0 A n c s :=
  h.kept hg.size fun a e => hg.block _ (h.lt e).2 (hr a e)
end

/-- What '[]byte(s)' makes. -/
theorem Own.ofString {P : Program} (w : World) (src dst e : TypeId) (s : ByteArray) (hs : P.underlying src = some .string) (hd : P.underlying dst = some (.slice e)) (he : P.underlying e = some (.int .u8)) (hsz : s.size ≤ maxLen) :
    ∃ A c w', (convert src dst (.string s)).run P w = .ok (.slice A s.size c) w' ∧ Own w' w.heap.size A s.size c s ∧ w.grownBy w' none := by
  refine ⟨_, _, _, run_bytes_of_string w src dst e s hs hd he, ⟨rfl, grownCap_ge w s.size 0 e, grownCap_le_maxLen w s.size 0 e hsz, .inr ⟨w.heap.size, rfl, Nat.le_refl _, by simp, ?_, ?_⟩⟩, ⟨rfl, rfl, rfl, by simp, fun k hk _ => Below.heap_alloc w.drew _ k hk⟩⟩
  · intro j hj
    have hz : (bytesRow s (grownCap w s.size 0 e)).size = grownCap w s.size 0 e := by
      have := grownCap_ge w s.size 0 e
      have e0 : s.data.size = s.size := rfl
      simp [bytesRow, e0]
      omega
    have h1 := World.cell?_alloc_mark w.drew (bytesRow s (grownCap w s.size 0 e)) e ((bytesRow s (grownCap w s.size 0 e)).size, (bytesRow s (grownCap w s.size 0 e)).size + 1) j
    have h2 := World.frozen?_alloc_mark w.drew (bytesRow s (grownCap w s.size 0 e)) e (bytesRow s (grownCap w s.size 0 e)).size ((bytesRow s (grownCap w s.size 0 e)).size + 1) j
    refine ⟨?_, ?_⟩
    · have h1' : (w.drew.alloc (.cells (bytesRow s (grownCap w s.size 0 e)) e ((bytesRow s (grownCap w s.size 0 e)).size, (bytesRow s (grownCap w s.size 0 e)).size + 1))).cell? ⟨w.heap.size, j, none⟩ = (bytesRow s (grownCap w s.size 0 e))[j]? := h1
      rw [h1', Array.getElem?_eq_getElem (by omega)]
      rfl
    · have h2' : (w.drew.alloc (.cells (bytesRow s (grownCap w s.size 0 e)) e ((bytesRow s (grownCap w s.size 0 e)).size, (bytesRow s (grownCap w s.size 0 e)).size + 1))).frozen? ⟨w.heap.size, j, none⟩ = _ := h2
      rw [h2', decide_eq_false (by omega)]
      rfl
  · intro j hj
    have h1 := World.cell?_alloc_mark w.drew (bytesRow s (grownCap w s.size 0 e)) e ((bytesRow s (grownCap w s.size 0 e)).size, (bytesRow s (grownCap w s.size 0 e)).size + 1) j
    have h1' : (w.drew.alloc (.cells (bytesRow s (grownCap w s.size 0 e)) e ((bytesRow s (grownCap w s.size 0 e)).size, (bytesRow s (grownCap w s.size 0 e)).size + 1))).cell? ⟨w.heap.size, j, none⟩ = (bytesRow s (grownCap w s.size 0 e))[j]? := h1
    rw [h1', bytesRow_at s _ j hj, ← byt_eq s j hj]
    rfl

/-- What lies behind 'w.setCells ..' of a text in a block. -/
theorem below_setCells (g : Nat) : ∀ (vs : List Value) (o : Nat) (w : World), w.grownBy (w.setCells g o vs) (some g)
  | [], _, w => ⟨rfl, rfl, rfl, Nat.le_refl _, fun _ _ _ => rfl⟩
  | v :: r, o, w => by
    have h := below_setCells g r (o + 1) (w.setCell ⟨g, o, none⟩ v)
    have hs : (w.setCell ⟨g, o, none⟩ v).heap.size = w.heap.size := by simp [World.setCell]
    exact ⟨h.os, h.tape, h.output, by have := h.size; rw [hs] at this; exact this, fun k hk hne => by
      rw [World.setCells, h.block k (by rw [hs]; exact hk) hne]
      exact Below.heap_setCell _ _ _ _ (fun e => hne (by rw [e]))⟩

theorem zeroCells_get (m : Nat) (z : Value) : (Builtin.zeroCells #[z] m).size = m := by rw [size_zeroCells]; simp

/-- APPEND of a text onto a slice of the call's own. -/
theorem run_append_text {P : Program} (w : World) (t tx ty e : TypeId) (i : TypeInfo) (z : Value) (ht : P.underlying t = some (.slice e)) (hi : P.info? e = some i) (hz : i.zero = some z) (hsize : i.size = 1) (hby : i.bytes = 1) (hzc : z.cells = #[z])
    {b0 : Nat} {A : Option Addr} {n c : Nat} {s : ByteArray} (hD : Own w b0 A n c s) {x : Value} {m : Nat} {u : ByteArray} (hS : Src P 1 tx x m (cellsOf u) w) (hb0 : b0 ≤ w.heap.size) (hlim : n + m ≤ 140737488355328) :
    ∃ A' c' w', (Builtin.append_ #[t, tx] ty #[.slice A n c, x]).run P w = .ok (.slice A' (n + m) c') w' ∧ Own w' b0 A' (n + m) c' (s ++ u) ∧ w.grownBy w' (A.map (·.block)) ∧ (A' = A ∨ A' = some ⟨w.heap.size, 0, none⟩) := by
  have hm : m = u.size := by have := hS.newsLen; rw [cellsOf_len, Nat.mul_one] at this; omega
  obtain ⟨h1, h2, h3, h4⟩ := hD
  have hs1 := hS
  rw [← hsize] at hs1
  have hbytes : ∀ j, j < n + m → byt (s ++ u) j = if j < n then byt s j else byt u (j - n) := fun j _ => by rw [byt_append, h1]
  by_cases hroom : n + m ≤ c
  · rcases h4 with ⟨rfl, hc⟩ | ⟨g, rfl, hg0, hg1, hcs, hct⟩
    · have hn : n = 0 := by omega
      have hm0 : m = 0 := by omega
      subst hn hm0 hc
      have hu : u = ⟨#[]⟩ := size_none u hm.symm
      have hsn : s = ⟨#[]⟩ := size_none s h1.symm
      subst hu hsn
      refine ⟨none, 0, w, ?_, Own.nil w b0, ⟨rfl, rfl, rfl, Nat.le_refl _, fun _ _ _ => rfl⟩, .inl rfl⟩
      have hc0 := hs1.cells
      rcases hs1.kind with ⟨e', hk⟩ | hk <;> simp [Builtin.append_, run_underlying ht, run_underlying hk, sizeOf, typeInfo, hi, hs1.len, hc0]
    · have hl : (cellsOf u).length = m := by rw [cellsOf_len]; exact hm.symm
      have hr := run_append_room_src (P := P) w t tx ty e i ht hi g 0 n c x m (cellsOf u) hs1 hroom
        (fun j hj => by rw [hsize]; simpa using (hcs (n + j) (by omega)).1) (fun j hj => by rw [hsize]; simpa using (hcs (n + j) (by omega)).2)
      rw [hsize, Nat.mul_one, Nat.zero_add] at hr
      refine ⟨_, _, _, hr, ⟨by rw [ByteArray.size_append]; omega, hroom, h3, .inr ⟨g, rfl, hg0, ?_, ?_, ?_⟩⟩, below_setCells g (cellsOf u) n w, .inl rfl⟩
      · have := (below_setCells g (cellsOf u) n w).size; omega
      · intro j hj
        rw [World.frozen?_setCells]
        refine ⟨?_, (hcs j hj).2⟩
        by_cases hin : n ≤ j ∧ j < n + m
        · have hx := World.cell?_setCells_in g (cellsOf u) n w (fun j' hj' => (hcs (n + j') (by omega)).1) (j - n) (by omega)
          rw [show n + (j - n) = j by omega] at hx
          rw [hx]; rfl
        · rw [World.cell?_setCells_out g (cellsOf u) n w ⟨g, j, none⟩ (fun _ _ => by simp only []; omega)]
          exact (hcs j hj).1
      · intro j hj
        rw [hbytes j hj]
        by_cases hjn : j < n
        · rw [if_pos hjn, World.cell?_setCells_out g (cellsOf u) n w ⟨g, j, none⟩ (fun _ _ => by simp only []; omega)]
          exact hct j hjn
        · rw [if_neg hjn]
          have hx := World.cell?_setCells_in g (cellsOf u) n w (fun j' hj' => (hcs (n + j') (by omega)).1) (j - n) (by omega)
          rw [show n + (j - n) = j by omega] at hx
          rw [hx, ← List.getElem?_eq_getElem (show j - n < (cellsOf u).length by omega), cellsOf_get u (j - n) (by omega)]
  · have hold : (Builtin.firstCells i.size n (.slice A n c)).run P w.drew = .ok (cellsOf s).toArray w.drew := by
      rw [hsize]
      rcases h4 with ⟨rfl, hc⟩ | ⟨g, rfl, hg0, hg1, hcs, hct⟩
      · have hn : n = 0 := by omega
        have hsn : s = ⟨#[]⟩ := size_none s (by omega)
        subst hsn
        rw [hn]
        exact run_firstCells_none w.drew 1 0 0 c
      · refine run_firstCells_some w.drew 1 n ⟨g, 0, none⟩ n c (cellsOf s) (by rw [cellsOf_len]; omega) (fun j v hv => ?_)
        obtain ⟨hj, rfl⟩ := cellsOf_at s j v hv
        rw [add_zero_off]
        exact hct j (by omega)
    have hr := run_append_grow_src (P := P) w t tx ty e i z ht hi hz A n c (cellsOf s) hold x m (cellsOf u) hs1 (by omega) (by unfold maxLen at h3; omega) (by rw [hby]; exact growslice_fits (by omega) (by omega))
    have hge := grownCap_ge w (n + m) c e
    have hcm : grownCap w (n + m) c e ≤ maxLen := grownCap_le_maxLen w (n + m) c e (by unfold maxLen; omega)
    have hlen : (cellsOf s ++ cellsOf u).length = n + m := by rw [List.length_append, cellsOf_len, cellsOf_len]; omega
    have hrow : ((cellsOf s ++ cellsOf u).toArray ++ Builtin.zeroCells z.cells (grownCap w (n + m) c e - (n + m))).size = grownCap w (n + m) c e := by
      rw [Array.size_append, hzc, zeroCells_get, List.size_toArray, hlen]; omega
    refine ⟨_, _, _, hr, ⟨by rw [ByteArray.size_append]; omega, hge, hcm, .inr ⟨w.heap.size, rfl, hb0, by simp, ?_, ?_⟩⟩, ⟨rfl, rfl, rfl, by simp, fun k hk _ => Below.heap_alloc w.drew _ k hk⟩, .inr rfl⟩
    · intro j hj
      have e1 := World.cell?_alloc_mark w.drew ((cellsOf s ++ cellsOf u).toArray ++ Builtin.zeroCells z.cells (grownCap w (n + m) c e - (n + m))) e (0, 0) j
      have e2 := World.frozen?_alloc_mark w.drew ((cellsOf s ++ cellsOf u).toArray ++ Builtin.zeroCells z.cells (grownCap w (n + m) c e - (n + m))) e 0 0 j
      refine ⟨?_, ?_⟩
      · refine Eq.trans (congrArg Option.isSome e1) ?_
        rw [Array.getElem?_eq_getElem (by omega)]
        rfl
      · refine Eq.trans e2 ?_
        rw [decide_eq_false (show ¬ j < 0 by omega), Bool.and_false]
    · intro j hj
      have e1 := World.cell?_alloc_mark w.drew ((cellsOf s ++ cellsOf u).toArray ++ Builtin.zeroCells z.cells (grownCap w (n + m) c e - (n + m))) e (0, 0) j
      refine Eq.trans e1 ?_
      rw [Array.getElem?_append_left (by rw [List.size_toArray, hlen]; exact hj), hbytes j hj, List.getElem?_toArray]
      by_cases hjn : j < n
      · rw [if_pos hjn, List.getElem?_append_left (by rw [cellsOf_len]; omega), cellsOf_get s j (by omega)]
      · rw [if_neg hjn, List.getElem?_append_right (by rw [cellsOf_len]; omega), cellsOf_len, ← h1, cellsOf_get u (j - n) (by omega)]

/-- The same at the operation. -/
theorem wp_append_text {P : Program} {w : World} {o : Oper} {a : Act} {K : Act → World → Prop} {Q : Exit → Act → World → Prop} (d x : Operand) (t tx : TypeId)
    (ho : o.op = .call { callee := .builtin .append, args := #[d, x], argTypes := #[t, tx] })
    (e : TypeId) (i : TypeInfo) (z : Value) (ht : P.underlying t = some (.slice e)) (hi : P.info? e = some i) (hz : i.zero = some z) (hsize : i.size = 1) (hby : i.bytes = 1) (hzc : z.cells = #[z])
    {b0 : Nat} {A : Option Addr} {n c : Nat} {s : ByteArray} (hd : a.eval d = .slice A n c) (hD : Own w b0 A n c s) {xv : Value} {m : Nat} {u : ByteArray} (hx : a.eval x = xv) (hS : Src P 1 tx xv m (cellsOf u) w) (hb0 : b0 ≤ w.heap.size) (hlim : n + m ≤ 140737488355328)
    (h : ∀ A' c' w', Own w' b0 A' (n + m) c' (s ++ u) → w.grownBy w' (A.map (·.block)) → (A' = A ∨ A' = some ⟨w.heap.size, 0, none⟩) → K (a.put o.dst (.slice A' (n + m) c')) w') : o.wp P a w K Q := by
  obtain ⟨A', c', w', hr, h2, h3, h4⟩ := run_append_text (P := P) w t tx o.type e i z ht hi hz hsize hby hzc hD hS hb0 hlim
  unfold Oper.wp execOp
  simp only [ho, resolve, invoke, builtin, Sem.run_bind, Sem.run_pure, Result.andThen_ok, List.map_toArray, List.map_cons, List.map_nil, hd, hx, hr]
  exact h A' c' w' h2 h3 h4

theorem wpList_append_text {P : Program} {w : World} {ops : Array Oper} {rest : List Oper} {o : Oper} {a : Act} {Q : Exit → Act → World → Prop} (hgd : o.guard = none) (d x : Operand) (t tx : TypeId)
    (ho : o.op = .call { callee := .builtin .append, args := #[d, x], argTypes := #[t, tx] })
    (e : TypeId) (i : TypeInfo) (z : Value) (ht : P.underlying t = some (.slice e)) (hi : P.info? e = some i) (hz : i.zero = some z) (hsize : i.size = 1) (hby : i.bytes = 1) (hzc : z.cells = #[z])
    {b0 : Nat} {A : Option Addr} {n c : Nat} {s : ByteArray} (hd : a.eval d = .slice A n c) (hD : Own w b0 A n c s) {xv : Value} {m : Nat} {u : ByteArray} (hx : a.eval x = xv) (hS : Src P 1 tx xv m (cellsOf u) w) (hb0 : b0 ≤ w.heap.size) (hlim : n + m ≤ 140737488355328)
    (h : ∀ A' c' w', Own w' b0 A' (n + m) c' (s ++ u) → w.grownBy w' (A.map (·.block)) → (A' = A ∨ A' = some ⟨w.heap.size, 0, none⟩) → wpList P ops Q rest (a.put o.dst (.slice A' (n + m) c')) w') : wpList P ops Q (o :: rest) a w :=
  wpList_plain hgd fun _ hK => wp_append_text d x t tx ho e i z ht hi hz hsize hby hzc hd hD hx hS hb0 hlim fun A' c' w' h1 h2 h3 => hK _ _ (h A' c' w' h1 h2 h3)

/-- Block q is an object of these cells, none of them frozen. -/
def Box (w : World) (q : Nat) (t : TypeId) (cs : Array Value) : Prop := w.heap[q]? = some (.cells cs t (0, 0))
section
variable {w w' : World} {q : Nat} {t : TypeId} {cs : Array Value}
theorem Box.lt (h : Box w q t cs) : q < w.heap.size := (Array.getElem?_eq_some_iff.1 h).1
theorem Box.cell (h : Box w q t cs) (i : Nat) : w.cell? ⟨q, i, none⟩ = cs[i]? := by unfold Box at h; simp [World.cell?, h]
theorem Box.frozen (h : Box w q t cs) (i : Nat) : w.frozen? ⟨q, i, none⟩ = false := by unfold Box at h; simp [World.frozen?, h]
theorem Box.new (w : World) (t : TypeId) (cs : Array Value) : Box (w.alloc (.cells cs t)) w.heap.size t cs := heap_alloc_new w _
theorem Box.kept (h : Box w q t cs) (hk : w'.heap[q]? = w.heap[q]?) : Box w' q t cs := hk.trans h
theorem Box.drew (h : Box w q t cs) : Box w.drew q t cs := h
theorem Box.below (h : Box w q t cs) {B : Nat} (hb : Below B w w') (hB : q < B) : Box w' q t cs := h.kept (hb.block q hB)
theorem Box.grown (h : Box w q t cs) {row : Option Nat} (hg : w.grownBy w' row) (hr : some q ≠ row) : Box w' q t cs := h.kept (hg.block q h.lt hr)
theorem Box.alloc (h : Box w q t cs) (o : Obj) : Box (w.alloc o) q t cs := h.kept (Below.heap_alloc w o q h.lt)
theorem Box.set (h : Box w q t cs) (i : Nat) (v : Value) : Box (w.setCell ⟨q, i, none⟩ v) q t (cs.setIfInBounds i v) := by
  unfold Box at h ⊢
  simp [World.setCell, Array.getElem?_modify, h]
theorem Box.far (h : Box w q t cs) {p : Addr} (hp : q ≠ p.block) (v : Value) : Box (w.setCell p v) q t cs := h.kept (Below.heap_setCell w p v q hp)
end

theorem grown_trans {a b c : World} {row : Option Nat} (h : a.grownBy b row) (k : b.grownBy c row) : a.grownBy c row :=
  ⟨k.os.trans h.os, k.tape.trans h.tape, k.output.trans h.output, Nat.le_trans h.size k.size, fun i hi hne => (k.block i (Nat.lt_of_lt_of_le hi h.size) hne).trans (h.block i hi hne)⟩
theorem grown_refl (w : World) (row : Option Nat) : w.grownBy w row := ⟨rfl, rfl, rfl, Nat.le_refl _, fun _ _ _ => rfl⟩
theorem grown_drew (w : World) (row : Option Nat) : w.grownBy w.drew row := ⟨rfl, rfl, rfl, Nat.le_refl _, fun _ _ _ => rfl⟩
theorem grown_below {w w' : World} (h : Below w.heap.size w w') (row : Option Nat) : w.grownBy w' row := ⟨h.os, h.tape, h.output, h.size, fun k hk _ => h.block k hk⟩
theorem grown_set (w : World) (q i : Nat) (v : Value) : w.grownBy (w.setCell ⟨q, i, none⟩ v) (some q) :=
  ⟨rfl, rfl, rfl, by simp [World.setCell], fun k _ hne => Below.heap_setCell _ _ _ _ (fun e => hne (by rw [e]))⟩
theorem grown_none {w w' : World} (h : w.grownBy w' none) (row : Option Nat) : w.grownBy w' row := ⟨h.os, h.tape, h.output, h.size, fun k hk _ => h.block k hk (by simp)⟩

/-- A text lies in no object none of whose cells is a byte. -/
theorem Txt.ne_box {w : World} {B n c q : Nat} {A : Option Addr} {s : ByteArray} {t : TypeId} {cs : Array Value} (h : Txt w B A n c s) (hb : Box w q t cs) (hcs : ∀ (i : Nat) (k : Int), cs[i]? ≠ some (.int .u8 k)) : 0 < n → ∀ a, A = some a → a.block ≠ q := by
  intro h0 a ha hq
  have h1 := (h.2.2.2.2 a ha h0).2 0 h0
  have e0 : a.add 0 = a := rfl
  rw [e0] at h1
  have hb' : w.heap[a.block]? = some (.cells cs t (0, 0)) := by rw [hq]; exact hb
  unfold World.cell? at h1
  rw [hb'] at h1
  simp only at h1
  split at h1
  · cases h1
  · exact hcs _ _ h1
theorem Txt.kept {w w' : World} {B n c : Nat} {A : Option Addr} {s : ByteArray} {row : Option Nat} (h : Txt w B A n c s) (hg : w.grownBy w' row) (hne : 0 < n → ∀ a, A = some a → some a.block ≠ row) : Txt w' B A n c s :=
  ⟨h.1, h.2.1, h.2.2.1, h.2.2.2.1, fun a e h0 => ⟨(h.2.2.2.2 a e h0).1, fun j hj => World.grownBy.cell hg ((h.2.2.2.2 a e h0).2 j hj) (by rw [add_block]; exact hne h0 a e)⟩⟩

/-- A slice literal of one byte. -/
theorem txt_one (w : World) (t : TypeId) (b : UInt8) (x : Int) (hx : x = b.toNat) : Txt (w.alloc (.cells #[.int .u8 x] t)) (w.alloc (.cells #[.int .u8 x] t)).heap.size (some ⟨w.heap.size, 0, none⟩) 1 1 ⟨#[b]⟩ := by
  refine ⟨rfl, Nat.le_refl _, (by unfold maxLen; omega), (fun h => by cases h), fun a ha _ => ?_⟩
  cases ha
  refine ⟨by simp, fun j hj => ?_⟩
  obtain rfl : j = 0 := by omega
  have h1 := World.cell?_alloc_mark w #[.int .u8 x] t (0, 0) 0
  rw [add_zero_off]
  refine Eq.trans h1 ?_
  rw [hx]
  rfl

theorem later_below' {a w : World} {B : Nat} (x : Later w) (h : Below B a w) (hB : B ≤ a.heap.size := by exact Nat.le_refl _) : Below B a x.w := h.trans (x.below.mono (Nat.le_trans hB h.size))

/-- The first n cells of a slice are bytes that may be written. -/
def Wri (w : World) (A : Option Addr) (n : Nat) : Prop := 0 < n → ∃ g, A = some ⟨g, 0, none⟩ ∧ g < w.heap.size ∧ ∀ j, j < n → (∃ v, w.cell? ⟨g, j, none⟩ = some (.int .u8 v)) ∧ w.frozen? ⟨g, j, none⟩ = false
theorem Own.wri {w : World} {b0 n c : Nat} {A : Option Addr} {s : ByteArray} (h : Own w b0 A n c s) : Wri w A n := by
  intro h0
  obtain ⟨h1, h2, h3, h4⟩ := h
  rcases h4 with ⟨_, hc⟩ | ⟨g, hg, _, hlt, hcs, hct⟩
  · omega
  · exact ⟨g, hg, hlt, fun j hj => ⟨⟨byt s j, hct j hj⟩, (hcs j (by omega)).2⟩⟩
theorem Wri.set {w : World} {g n k : Nat} (h : Wri w (some ⟨g, 0, none⟩) n) (_hk : k < n) (v : Int) : Wri (w.setCell ⟨g, k, none⟩ (.int .u8 v)) (some ⟨g, 0, none⟩) n := by
  intro hn
  obtain ⟨g', hg', hlt, hc⟩ := h hn
  injection hg' with hg'
  injection hg' with hg'
  subst hg'
  refine ⟨g, rfl, by simp [World.setCell]; exact hlt, fun j hj => ⟨?_, ?_⟩⟩
  · by_cases e : j = k
    · subst e
      obtain ⟨⟨u, hu⟩, _⟩ := hc j hj
      exact ⟨v, World.cell?_setCell_same _ _ _ hu⟩
    · obtain ⟨⟨u, hu⟩, _⟩ := hc j hj
      exact ⟨u, (World.cell?_setCell_other _ _ _ _ (by intro hc'; injection hc' with _ hc'; omega)).trans hu⟩
  · rw [World.frozen?_setCell]
    exact (hc j hj).2
theorem Wri.kept {w w' : World} {A : Option Addr} {n : Nat} {row : Option Nat} (h : Wri w A n) (hg : w.grownBy w' row) (hne : ∀ a, A = some a → some a.block ≠ row) : Wri w' A n := by
  intro hn
  obtain ⟨g, hA, hlt, hc⟩ := h hn
  have hb := hg.block g hlt (hne _ hA)
  refine ⟨g, hA, by have := hg.size; omega, fun j hj => ?_⟩
  rw [World.cell?_of_block (w := w) (a := ⟨g, j, none⟩) hb, World.frozen?_of_block (w := w) (a := ⟨g, j, none⟩) hb]
  exact hc j hj

/-- '[]byte{}'. -/
theorem Own.built (w : World) (t : TypeId) : Own (w.alloc (.cells #[] t)) w.heap.size (some ⟨w.heap.size, 0, none⟩) 0 0 ⟨#[]⟩ :=
  ⟨rfl, Nat.le_refl _, Nat.zero_le _, .inr ⟨w.heap.size, rfl, Nat.le_refl _, by simp, fun j hj => by omega, fun j hj => by omega⟩⟩

end Go.Proofs.YtajedohgcepkiaaDoor
