/-
  CONTRACTS of the code's stock: all of it. (By wip/tools/gen_qcode.py.)
-/
import Derived.Test.YtjacodbmmhnopaaCM
namespace Go.Proofs.Ytjacodbmmhnopaa
set_option linter.unusedVariables false
open Go.RowKit
open Pl (firstG findG putG dropG It)

theorem cons : Cons := ⟨fun h L kb ki kl ks w hh => fcq hh kb ki kl ks, fun h L s t w hh => ctotal h L s t w hh, fun h L kb ki kl ks n w hh hn hc => ctake h L kb ki kl ks n w hh (by omega) hc, fun h L kb ki kl ks n w hh hn hc => cputq h L kb ki kl ks n w hh (by omega) hc, fun h L kb ki kl ks n w hh hn hc => chold h L kb ki kl ks n w hh (by omega) hc, fun h L kb ki kl ks n t w hh hn hc => cmove h L kb ki kl ks n t w hh (by omega) hc⟩
end Go.Proofs.Ytjacodbmmhnopaa
