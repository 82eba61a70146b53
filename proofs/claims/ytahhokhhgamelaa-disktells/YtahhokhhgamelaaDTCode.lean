/-
  Parts of the text of one function, and what the ways through a step leave. A lemma file: no statement of the seat is proved here.
-/
import Derived.Deep.CutBlock
import Derived.Deep.DeepCutAuto
import Derived.Test.YtahhokhhgamelaaGI
namespace Go.Proofs.Ytahhokhhgamelaa
open Go.RowKit Go.Maps

def isSkip : Code → Bool
  | .skip => true
  | _ => false
def isTmp (k : Nat) : Operand → Bool
  | .tmp j => j == k
  | _ => false
/-- The first way of the test on slot k. -/
def thenOf (k : Nat) : Code → Option Code
  | .cond o a b => match isTmp k o && !isSkip a with
    | true => some a
    | false => match thenOf k a with
      | some c => some c
      | none => thenOf k b
  | .seq a b => match thenOf k a with
    | some c => some c
    | none => thenOf k b
  | .block _ c => thenOf k c
  | .loop c => thenOf k c
  | .scope c => thenOf k c
  | _ => none
/-- Block k. -/
def blockOf (k : Nat) : Code → Option Code
  | .cond _ a b => match blockOf k a with
    | some c => some c
    | none => blockOf k b
  | .seq a b => match blockOf k a with
    | some c => some c
    | none => blockOf k b
  | .block j c => match j == k with
    | true => some (.block j c)
    | false => blockOf k c
  | .loop c => blockOf k c
  | .scope c => blockOf k c
  | _ => none

noncomputable def code0 : Code := ((Try.f3.body.bind (thenOf 46)).getD .skip)
noncomputable def code1 : Code := ((Try.f3.body.bind (thenOf 56)).getD .skip)
noncomputable def code2 : Code := ((Try.f3.body.bind (thenOf 70)).getD .skip)
noncomputable def code3 : Code := ((Try.f3.body.bind (thenOf 88)).getD .skip)
noncomputable def code4 : Code := ((Try.f3.body.bind (thenOf 126)).getD .skip)
noncomputable def code5 : Code := ((Try.f3.body.bind (thenOf 145)).getD .skip)
noncomputable def code6 : Code := ((Try.f3.body.bind (thenOf 155)).getD .skip)
noncomputable def code7 : Code := ((Try.f3.body.bind (thenOf 169)).getD .skip)
noncomputable def code8 : Code := ((Try.f3.body.bind (thenOf 179)).getD .skip)
noncomputable def code9 : Code := ((Try.f3.body.bind (thenOf 197)).getD .skip)
noncomputable def code10 : Code := ((Try.f3.body.bind (thenOf 207)).getD .skip)
noncomputable def code11 : Code := ((Try.f3.body.bind (thenOf 214)).getD .skip)
noncomputable def codeS : Code := ((Try.f3.body.bind (blockOf 2)).getD .skip)

/-- What a step leaves. -/
def MetD (w : World) (p r : Nat) (n : Int) (v10 v11 : Value) (wx : World) : Prop :=
  ∃ (ev : Int) (l2 : List Ab) (s2 : Ds), v10 = .int .i64 ev ∧ v11 = .int .i64 ev ∧ s2.ops ≤ n + 1 ∧ Hid (Half w wx p r [] (l2, s2) (l2, s2))

/-- The step's cells. -/
def Bx (w : World) (b : Nat) (kind at_ n : Int) (nm ot : ByteArray) (da : Option Addr) (dm dc : Nat) (ka : Option Addr) (km kc : Nat) : Prop :=
  w.heap[b]? = some (.cells #[.int .i64 kind, .int .i64 at_, .int .i64 n, .string nm, .string ot, .slice da dm dc, .slice ka km kc] 31)

end Go.Proofs.Ytahhokhhgamelaa
