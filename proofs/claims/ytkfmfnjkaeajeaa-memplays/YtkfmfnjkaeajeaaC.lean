/- The parts of the code of MemPlays: what a round does behind its call of the script, and the call itself. Taken out of the translated text by a function; no condition. -/
import Derived.Test.YtkfmfnjkaeajeaaQ
namespace Go.Proofs.Ytkfmfnjkaeajeaa

/-- The first region of a piece of code. -/
def leftR : Code → Option Nat
  | .region id _ _ => some id
  | .seq a _ => leftR a
  | .block _ c => leftR c
  | .loop c => leftR c
  | .scope c => leftR c
  | _ => none
/-- The greatest piece of code that begins with a region. -/
def pick (id : Nat) : Code → Option Code
  | .seq a b => match leftR (.seq a b) with
    | some k => bif Nat.beq k id then some (.seq a b) else match pick id a with
      | some c => some c
      | none => pick id b
    | none => match pick id a with
      | some c => some c
      | none => pick id b
  | .block n c => match leftR c with
    | some k => bif Nat.beq k id then some (.block n c) else pick id c
    | none => pick id c
  | .loop c => pick id c
  | .scope c => pick id c
  | .cond _ a b => match pick id a with
    | some c => some c
    | none => pick id b
  | .region n o d => bif Nat.beq n id then some (.region n o d) else none
  | _ => none
end Go.Proofs.Ytkfmfnjkaeajeaa
