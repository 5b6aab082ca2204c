/-
  Words for a walk: one text, or one number, put behind a slice of the call's own.
-/
import Derived.Test.YtmfhnmdgcjlnpaaStrs
import Derived.Test.YtmfhnmdgcjlnpaaInts
import Derived.Maps.AppendAt
import Derived.Laws.AppendOwnNone
namespace Go.Proofs.Ytmfhnmdgcjlnpaa
open Go.RowKit

theorem owns_below {w w' : World} {b : Nat} {row : Option Nat} (hg : w.grownBy w' row) (hb : b ≤ w.heap.size) (hr : ∀ g, row = some g → b ≤ g) : Below b w w' := below_grown hg hb hr
theorem owns_later {w w' : World} {b : Nat} {e : TypeId} {size n : Nat} {v : Value} {xs : List Value} (h : w.ownsRow b e size v n xs) (hb : Below w.heap.size w w') : w'.ownsRow b e size v n xs :=
  owns_kept h (fun g hg => hb.block g (h.lt g hg).2)
theorem below_next {w w' w'' : World} {b : Nat} (h : Below b w w') (hB : b ≤ w.heap.size) (hb : Below w'.heap.size w' w'') : Below b w w'' := h.trans (hb.mono (Nat.le_trans hB h.size))
theorem grown_first {w w' : World} {o : Obj} {row : Option Nat} (hg : (w.alloc o).grownBy w' row) : w.grownBy w' row := grown_trans (World.grownBy_alloc w o row) hg

theorem append_str {ops : Array Oper} {rest : List Oper} {o : Oper} {a : Act} {Q : Exit → Act → World → Prop} {W : World} (hgd : o.guard = none) (d x : Operand)
    (ho : o.op = .call { callee := .builtin .append, args := #[d, x], argTypes := #[24, 24] })
    (b : Nat) (v : Value) (L : List ByteArray) (s : ByteArray) (hd : a.eval d = v) (hx : a.eval x = .slice (some ⟨W.heap.size, 0, none⟩) 1 1) (hown : OwnS W b v L) (hlen : L.length < 100000000) (hb : b ≤ W.heap.size)
    (h : ∀ A2 p2 W', OwnS W' b (.slice A2 (L.length + 1) p2) (L ++ [s]) → Below b W W' → W.grownBy W' v.ownBlock → ((Value.slice A2 (L.length + 1) p2).ownBlock = v.ownBlock ∨ ∃ g, (Value.slice A2 (L.length + 1) p2).ownBlock = some g ∧ W.heap.size ≤ g) → wpList Try.prog ops Q rest (a.put o.dst (.slice A2 (L.length + 1) p2)) W') :
    wpList Try.prog ops Q (o :: rest) a (W.alloc (.cells #[.string s] 9)) := by
  obtain ⟨i0, hi, hz0, hz1, hz2⟩ := info_parts str_info
  refine wpList_append_own_at _ hgd d x 24 ho b 9 i0 _ 1 _ Try.underlying24 hi hz0 hz1 hz2 rfl (by omega) v L.length _ hd
    (owns_kept hown (fun g hg => Below.heap_alloc W _ g (hown.lt g hg).2)) ⟨W.heap.size, 0, none⟩ 1 1 [.string s] hx rfl (cell_one_new W _ _) (by intro u hu; simp at hu; subst hu; rfl) (by unfold maxLen; omega) (by omega) (by simp; omega) ?_
  intro v' W' ho' hg _ hat
  have hg' := grown_first hg
  obtain ⟨A2, p2, rfl, _⟩ := owns_len ho'
  refine h A2 p2 W' ?_ (below_grown hg' hb (fun g hg => (hown.lt g hg).1)) hg' (hat.imp id (fun e => ⟨_, e, by simp⟩))
  unfold OwnS
  rw [strC_snoc, List.length_append]
  exact ho'

theorem append_int {ops : Array Oper} {rest : List Oper} {o : Oper} {a : Act} {Q : Exit → Act → World → Prop} {W : World} (hgd : o.guard = none) (d x : Operand)
    (ho : o.op = .call { callee := .builtin .append, args := #[d, x], argTypes := #[22, 22] })
    (b : Nat) (v : Value) (L : List Int) (s : Int) (hd : a.eval d = v) (hx : a.eval x = .slice (some ⟨W.heap.size, 0, none⟩) 1 1) (hown : OwnI W b v L) (hlen : L.length < 100000000) (hb : b ≤ W.heap.size)
    (h : ∀ A2 p2 W', OwnI W' b (.slice A2 (L.length + 1) p2) (L ++ [s]) → Below b W W' → W.grownBy W' v.ownBlock → ((Value.slice A2 (L.length + 1) p2).ownBlock = v.ownBlock ∨ ∃ g, (Value.slice A2 (L.length + 1) p2).ownBlock = some g ∧ W.heap.size ≤ g) → wpList Try.prog ops Q rest (a.put o.dst (.slice A2 (L.length + 1) p2)) W') :
    wpList Try.prog ops Q (o :: rest) a (W.alloc (.cells #[.int .i64 s] 3)) := by
  obtain ⟨i0, hi, hz0, hz1, hz2⟩ := info_parts int_info
  refine wpList_append_own_at _ hgd d x 22 ho b 3 i0 _ 1 _ Try.underlying22 hi hz0 hz1 hz2 rfl (by omega) v L.length _ hd
    (owns_kept hown (fun g hg => Below.heap_alloc W _ g (hown.lt g hg).2)) ⟨W.heap.size, 0, none⟩ 1 1 [.int .i64 s] hx rfl (cell_one_new W _ _) (by intro u hu; simp at hu; subst hu; rfl) (by unfold maxLen; omega) (by omega) (by simp; omega) ?_
  intro v' W' ho' hg _ hat
  have hg' := grown_first hg
  obtain ⟨A2, p2, rfl, _⟩ := owns_len ho'
  refine h A2 p2 W' ?_ (below_grown hg' hb (fun g hg => (hown.lt g hg).1)) hg' (hat.imp id (fun e => ⟨_, e, by simp⟩))
  unfold OwnI
  rw [intC_snoc, List.length_append]
  exact ho'

/-- A slice that is nil, or has an address. -/
def Lain (u : Value) : Prop := u = .slice none 0 0 ∨ ∃ ad n c, u = .slice (some ad) n c
/-- append of a slice of ints onto an empty one just made. -/
theorem append_ints_made {ops : Array Oper} {rest : List Oper} {o : Oper} {a : Act} {Q : Exit → Act → World → Prop} {W : World} (hgd : o.guard = none) (d x : Operand)
    (ho : o.op = .call { callee := .builtin .append, args := #[d, x], argTypes := #[22, 22] })
    (u : Value) (L : List Int) (hd : a.eval d = .slice (some ⟨W.heap.size, 0, none⟩) 0 0) (hx : a.eval x = u) (hu : Ints W u L) (hl : Lain u) (hlen : L.length < 100000000)
    (h : ∀ v' W', OwnI W' W.heap.size v' L → Below W.heap.size W W' → wpList Try.prog ops Q rest (a.put o.dst v') W') :
    wpList Try.prog ops Q (o :: rest) a (W.alloc (.cells #[] 3)) := by
  obtain ⟨i0, hi, hz0, hz1, hz2⟩ := info_parts int_info
  have hm : (W.alloc (.cells #[] 3)).ownsRow W.heap.size 3 1 (.slice (some ⟨W.heap.size, 0, none⟩) 0 0) 0 [] := World.ownsRow_made W #[] 0 (Nat.le_refl _) (by omega) rfl
  rcases hl with rfl | ⟨ad, n, c, rfl⟩
  · obtain ⟨A, c, e, h1, h2, h3⟩ := hu
    injection e with _ e2 _
    obtain rfl : L = [] := List.length_eq_zero_iff.1 (by omega)
    exact wpList_append_own_none hgd d x 22 ho W.heap.size 3 i0 1 Try.underlying22 hi _ 0 [] hd hm hx (h _ _ hm ((Below.refl _ _).alloc (Nat.le_refl _) _))
  · obtain ⟨A, c', e, h1, h2, h3⟩ := hu
    injection e with e1 e2 e3
    subst e1 e2 e3
    refine wpList_append_own_at _ hgd d x 22 ho W.heap.size 3 i0 _ 1 _ Try.underlying22 hi hz0 hz1 hz2 rfl (by omega) _ 0 [] hd hm ad L.length c (intC L) hx (by rw [intC_len]; omega) ?_ (intC_one L) (by unfold maxLen; omega) (by omega) (by simp) ?_
    · intro j y hy
      rw [intC_get] at hy
      obtain ⟨z, hz, rfl⟩ := Option.map_eq_some_iff.1 hy
      obtain ⟨a', ha', hc⟩ := h3 j z hz
      injection ha' with ha'
      subst ha'
      exact ((Below.refl _ _).alloc (Nat.le_refl _) _ |>.cell (World.block_lt_of_cell? W _ hc)).trans hc
    · intro v' W' ho' hg _ hat
      have hg' := grown_first hg
      refine h v' W' ?_ (below_grown hg' (Nat.le_refl _) (fun g hg => ?_))
      · rw [Nat.zero_add, List.nil_append] at ho'
        exact ho'
      · have e : (Value.slice (some ⟨W.heap.size, 0, none⟩) 0 0).ownBlock = some W.heap.size := rfl
        rw [e] at hg
        injection hg with hg
        omega

end Go.Proofs.Ytmfhnmdgcjlnpaa
