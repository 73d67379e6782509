/- errors.As at a target of type **api.Fault, the error a number of an error, or nil; a law's At of these. -/
import Derived.Test.YthdfgdehddmkpaaErrF
namespace Go.Proofs.Ythdfgdehddmkpaa
open Go.RowKit Go.Extern.Stop Go.Stop Go.Extern
set_option linter.unusedVariables false






end Go.Proofs.Ythdfgdehddmkpaa
