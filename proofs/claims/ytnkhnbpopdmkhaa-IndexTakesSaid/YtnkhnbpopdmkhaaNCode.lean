/-
  THE CODE's contracts, together.
-/
import Derived.Test.YtnkhnbpopdmkhaaNFol
import Derived.Test.YtnkhnbpopdmkhaaNNaive
import Derived.Test.YtnkhnbpopdmkhaaNIx
import Derived.Test.YtnkhnbpopdmkhaaWCon
namespace Go.Proofs.Ytnkhnbpopdmkhaa
set_option linter.unusedVariables false
open Go.RowKit Go.Maps

theorem cons : ConsX IX0 where
  keep := ix_keep
  lt := fun w b X L h => h.lt
  new := cnew
  follow := fun h L L0 b X w hx hh hn hm hoff => (cfollow h L L0 b X w hx hh (hn 4 (by decide)) hm).mono (by
    rintro e w' ⟨rfl, ho, X', h1, h2⟩
    exact ⟨rfl, fun B hB hX => ho.to_below hB (fun i hi _ => hX i hi), fun k hk hx => ho.block k hk hx, X', h1, h2⟩)
  pick := cpick
  naive := fun h L s i n w hh hn hw => cnaive h L s i n w hh hn hw
  opens := fun h L s i w hh hn => copen h L s i w hh hn
  nilf := fun h L w hh => cnilf h w
  nilp := cnilp
end Go.Proofs.Ytnkhnbpopdmkhaa
