/-
  What a byte comes to, plain: an event, in the program's words and in the document's.
-/
import Derived.Test.YtajedohgcepkiaaDoorRows
import Derived.Test.YtajedohgcepkiaaDoorByt
namespace Go.Proofs.YtajedohgcepkiaaDoor
open Go.RowKit

structure Ev where
  be : Bool
  ad : Bool
  fi : Bool
  li : Bool
  re : Bool
  by_ : Nat
deriving DecidableEq
instance : Inhabited Ev := ⟨⟨false, false, false, false, false, 0⟩⟩
def evC (e : Ev) : List Value := [.bool e.be, .bool e.ad, .bool e.fi, .bool e.li, .bool e.re, .int .u8 e.by_]
def evP (e : Ev) : Value := .agg #[.bool e.be, .bool e.ad, .bool e.fi, .bool e.li, .bool e.re, .int .u8 e.by_]
def n01 (b : Bool) : Int := if b then 1 else 0
def evR (e : Ev) : Value := .agg #[.int .i64 (n01 e.be), .int .i64 (n01 e.ad), .int .i64 (n01 e.fi), .int .i64 (n01 e.li), .int .i64 (n01 e.re), .int .i64 e.by_]

end Go.Proofs.YtajedohgcepkiaaDoor
