/-
  Words that every walk of this seat uses: a world later than another one (what was there is as it was), what a call gives, and a region whose order is open and whose calls make memory of their own.
-/
import Derived.WalkKit
import Derived.WalkSpells
import Derived.WalkLawsBesides
import Derived.Handy
import Derived.Deep.Quiet
import Derived.BigQuiet
import Derived.RegionTactic
import Derived.ChangeAlike
import Derived.Laws.IdiomStrings
namespace Go.Proofs.YtajedohgcepkiaaDoor
open Go.RowKit

theorem ret_bool {a b : Bool} (h : a = b) : Ending.returned (.bool a) = .returned (.bool b) := by rw [h]
theorem ret_int {k : IntKind} {a b : Int} (h : a = b) : Ending.returned (.int k a) = .returned (.int k b) := by rw [h]
theorem ret_string {a b : ByteArray} (h : a = b) : Ending.returned (.string a) = .returned (.string b) := by rw [h]

/-- A world in which all that stood in W stands as it did. -/
structure Later (W : World) where
  w : World
  below : Below W.heap.size W w

instance laterStands (W : World) : Nonempty (Later W) := ⟨⟨W, Below.refl _ _⟩⟩

theorem Later.cell {W : World} (x : Later W) (b o : Nat) (h : b < W.heap.size) : x.w.cell? ⟨b, o, none⟩ = W.cell? ⟨b, o, none⟩ := x.below.cell (p := ⟨b, o, none⟩) h
theorem Later.frozen {W : World} (x : Later W) (b o : Nat) (h : b < W.heap.size) : x.w.frozen? ⟨b, o, none⟩ = W.frozen? ⟨b, o, none⟩ := x.below.frozen (p := ⟨b, o, none⟩) h
theorem Later.size {W : World} (x : Later W) : W.heap.size ≤ x.w.heap.size := x.below.size

theorem Later.lt1 {w : World} {o : Obj} (x : Later (w.alloc o)) : w.heap.size < x.w.heap.size := by have := x.size; simp at this; omega
theorem Later.lt2 {w : World} {o o' : Obj} (x : Later ((w.alloc o).alloc o')) : w.heap.size < x.w.heap.size ∧ w.heap.size + 1 < x.w.heap.size := by have := x.size; simp at this; omega
theorem Later.lt3 {w : World} {o o' o'' : Obj} (x : Later (((w.alloc o).alloc o').alloc o'')) : w.heap.size < x.w.heap.size ∧ w.heap.size + 1 < x.w.heap.size ∧ w.heap.size + 2 < x.w.heap.size := by have := x.size; simp at this; omega
theorem Later.end1 {w : World} {o : Obj} (x : Later (w.alloc o)) : Below w.heap.size w x.w := ((Below.refl _ _).alloc (Nat.le_refl _) _).trans (x.below.mono (by simp))
theorem Later.trans {w : World} {B : Nat} {a : World} (x : Later w) (h : Below B a w) (hB : B ≤ w.heap.size) : Below B a x.w := h.trans (x.below.mono hB)

theorem later_below {w W : World} (x : Later W) (h : Below w.heap.size w W) : Below w.heap.size w x.w := h.trans (x.below.mono h.size)
theorem alloc_below {w W : World} (h : Below w.heap.size w W) (o : Obj) : Below w.heap.size w (W.alloc o) := h.alloc h.size o

theorem set_same (W : World) (a : Addr) (v : Value) (h : (W.cell? a).isSome = true) : (W.setCell a v).cell? a = some v := by
  obtain ⟨u, hu⟩ := Option.isSome_iff_exists.1 h
  exact World.cell?_setCell_same W a v hu

/-- The call hands back v, and nothing that stood before has turned. -/
def Gives (v : Value) (w : World) (e : Ending) (w' : World) : Prop := e = .returned v ∧ Below w.heap.size w w'

theorem Gives.of {P : Program} {f : FuncId} {args : Array Value} {w : World} {v : Value} (h : Calls P f args w fun e w' => e = .returned v ∧ Below w.heap.size w w') : Calls P f args w (Gives v w) := h
theorem Gives.same {P : Program} {f : FuncId} {args : Array Value} {w : World} {v : Value} (h : Calls P f args w fun e w' => e = .returned v ∧ w' = w) : Calls P f args w (Gives v w) :=
  h.mono fun _ _ ⟨he, hw⟩ => ⟨he, by rw [hw]; exact Below.refl _ _⟩

theorem Gives.same_left {P : Program} {f : FuncId} {args : Array Value} {w : World} {v : Value} (h : Calls P f args w fun e w' => e = .returned v ∧ w = w') : Calls P f args w (Gives v w) :=
  h.mono fun _ _ ⟨he, hw⟩ => ⟨he, by rw [← hw]; exact Below.refl _ _⟩

/-- A call in a later world leaves a later world. -/
theorem later_call {P : Program} {f : FuncId} {args : Array Value} {W : World} {v : Value} (x : Later W) (h : Calls P f args x.w (Gives v x.w)) :
    Calls P f args x.w fun e w'' => e = .returned v ∧ ∃ y : Later W, w'' = y.w :=
  h.mono fun _ w'' ⟨he, hb⟩ => ⟨he, ⟨w'', x.below.trans (hb.mono x.size)⟩, rfl⟩

theorem call_later {P : Program} {f : FuncId} {args : Array Value} {w : World} {v : Value} (h : Calls P f args w (Gives v w)) :
    Calls P f args w fun e w'' => e = .returned v ∧ ∃ y : Later w, w'' = y.w :=
  h.mono fun _ w'' ⟨he, hb⟩ => ⟨he, ⟨w'', hb⟩, rfl⟩

theorem wp_region_later_lit {P : Program} {id : Nat} {Q : Exit → Act → World → Prop} {a : Act} {W : World} {l : List Oper} (hm : P.follows .mixedOrders = true) (hB : Region.lexB .any l.toArray = true)
    (h : wpQuiet P l.toArray (fun w' => ∃ x : Later W, w' = x.w) (fun a' => ∀ w', (∃ x : Later W, w' = x.w) → Q .normal a' w') l a) : (Code.region id l.toArray true).wp P Q a W :=
  wp_region_quiet (C := fun w' => ∃ x : Later W, w' = x.w) hm hB ⟨⟨W.drew, (Below.refl _ _).drew⟩, rfl⟩ (by simpa using h)

theorem wp_region_anch {P : Program} {id : Nat} {Q : Exit → Act → World → Prop} {a : Act} {W : World} (x : Later W) {l : List Oper} (hm : P.follows .mixedOrders = true) (hB : Region.lexB .any l.toArray = true)
    (h : wpQuiet P l.toArray (fun w' => ∃ x : Later W, w' = x.w) (fun a' => ∀ w', (∃ x : Later W, w' = x.w) → Q .normal a' w') l a) : (Code.region id l.toArray true).wp P Q a x.w :=
  wp_region_quiet (C := fun w' => ∃ x : Later W, w' = x.w) hm hB ⟨⟨x.w.drew, x.below.drew⟩, rfl⟩ (by simpa using h)

theorem convert_two {P : Program} (W : World) (src dst e : TypeId) (hs : P.underlying src = some (.slice e)) (he : P.underlying e = some (.int .u8)) (hd : P.underlying dst = some .string) (x y : UInt8) :
    (convert src dst (.slice (some ⟨W.heap.size, 0, none⟩) 2 2)).run P (W.alloc (.cells #[.int .u8 (x.toNat : Int), .int .u8 (y.toNat : Int)] e)).drew
      = .ok (.string ⟨#[x, y]⟩) (W.alloc (.cells #[.int .u8 (x.toNat : Int), .int .u8 (y.toNat : Int)] e)).drew := by
  have h := run_convert_bytes_back (P := P) (W.alloc (.cells #[.int .u8 (x.toNat : Int), .int .u8 (y.toNat : Int)] e)).drew src dst e ⟨W.heap.size, 0, none⟩ 2 [x, y] hs he hd (by
    intro j hj
    match j, hj with
    | 0, _ => exact World.cell?_alloc_mark W _ e (0, 0) 0
    | 1, _ => exact World.cell?_alloc_mark W _ e (0, 0) 1)
  simpa using h

theorem convert_one {P : Program} (W : World) (src dst e : TypeId) (hs : P.underlying src = some (.slice e)) (he : P.underlying e = some (.int .u8)) (hd : P.underlying dst = some .string) (x : UInt8) :
    (convert src dst (.slice (some ⟨W.heap.size, 0, none⟩) 1 1)).run P (W.alloc (.cells #[.int .u8 (x.toNat : Int)] e))
      = .ok (.string ⟨#[x]⟩) (W.alloc (.cells #[.int .u8 (x.toNat : Int)] e)) := by
  have h := run_convert_bytes_back (P := P) (W.alloc (.cells #[.int .u8 (x.toNat : Int)] e)) src dst e ⟨W.heap.size, 0, none⟩ 1 [x] hs he hd (by
    intro j hj
    match j, hj with
    | 0, _ => exact World.cell?_alloc_mark W _ e (0, 0) 0)
  simpa using h

theorem convert_oneI {P : Program} (W : World) (src dst e : TypeId) (hs : P.underlying src = some (.slice e)) (he : P.underlying e = some (.int .u8)) (hd : P.underlying dst = some .string) (n : Int) (x : UInt8) (hx : n = (x.toNat : Int)) :
    (convert src dst (.slice (some ⟨W.heap.size, 0, none⟩) 1 1)).run P (W.alloc (.cells #[.int .u8 n] e)) = .ok (.string ⟨#[x]⟩) (W.alloc (.cells #[.int .u8 n] e)) := by
  subst hx
  exact convert_one W src dst e hs he hd x

/-- A number's last eight bits, as a byte. -/
def toB (n : Int) : UInt8 := UInt8.ofNat (n % 256).toNat
theorem toB_toNat (n : Int) (h0 : 0 ≤ n) (h1 : n < 256) : ((toB n).toNat : Int) = n := by
  unfold toB
  rw [UInt8.toNat_ofNat']
  omega

/-- 'string([]byte{..})' of new cells, whatever their number. -/
theorem convert_ints {P : Program} (W : World) (src dst e : TypeId) (hs : P.underlying src = some (.slice e)) (he : P.underlying e = some (.int .u8)) (hd : P.underlying dst = some .string) (xs : List Int) (h : ∀ x ∈ xs, 0 ≤ x ∧ x < 256) (n : Nat) (hn : n = xs.length) (cs : Array Value) (hcs : cs = (xs.map (Value.int .u8)).toArray) :
    (convert src dst (.slice (some ⟨W.heap.size, 0, none⟩) n n)).run P (W.alloc (.cells cs e)) = .ok (.string ⟨(xs.map toB).toArray⟩) (W.alloc (.cells cs e)) := by
  subst hn hcs
  have hc := run_convert_bytes_back (P := P) (W.alloc (.cells (xs.map (Value.int .u8)).toArray e)) src dst e ⟨W.heap.size, 0, none⟩ xs.length (xs.map toB) hs he hd (by
    intro j hj
    have hj' : j < xs.length := by simpa using hj
    have h1 := World.cell?_alloc_mark W (xs.map (Value.int .u8)).toArray e (0, 0) j
    have h2 : (⟨W.heap.size, 0, none⟩ : Addr).add j = ⟨W.heap.size, j, none⟩ := by simp [Addr.add]; intro h; exact h.symm
    rw [h2, h1]
    have hb := h (xs[j]) (List.getElem_mem hj')
    simp [hj', toB_toNat _ hb.1 hb.2])
  simpa using hc

end Go.Proofs.YtajedohgcepkiaaDoor
