/- The root; a file taken away. -/
import Derived.Test.YtkelcmncjhnbgaaDiskIs
set_option linter.unusedVariables false
set_option maxRecDepth 100000
namespace Go.Proofs.Ytkelcmncjhnbgaa
open Go.RowKit Go.Maps

theorem Only.drewl {S : Nat → Prop} {a b : World} {m : Nat} (h : Only S (a.drewN m) b) : Only S a b := ⟨h.os, h.tape, h.output, h.size, h.block⟩
end Go.Proofs.Ytkelcmncjhnbgaa
