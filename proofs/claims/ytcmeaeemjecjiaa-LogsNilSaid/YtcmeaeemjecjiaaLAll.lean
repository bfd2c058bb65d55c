/-
  ALL CONTRACTS OF THE LOG, in the shape that the laws ask; the chapter's example.
-/
import Derived.Test.YtcmeaeemjecjiaaLAppWalk
import Derived.Test.YtcmeaeemjecjiaaLJ
import Derived.Deep.RegionHeld3
namespace Go.Proofs.Ytcmeaeemjecjiaa
open Go.RowKit Go.Maps

theorem cons : Cons LO where
  kept := fun h e => LX.kept h e
  lt := fun h => LX.lt h
  open_ := fun hm hoff hinv hn hN hL => open_any _ _ _ _ _ _ _ _ _ hm hoff hinv hn hN hL
  append := fun h hoff hn hN hL data => append_any _ _ _ _ _ _ _ _ _ _ h hoff hn hN hL data
  trim := fun h hoff hn hN hL hp z hz => trim_any _ _ _ _ _ _ _ _ _ _ h hoff hn hN hL hp z hz
  next := fun {w X b bl n s lo nn pre cur} h => by
    obtain ⟨Y, Z, hM, ⟨bm, c, hG, hI, hc, hZ⟩, hd, hX, hinv⟩ := h
    exact (next_any bl b bm _ _ _ w hG).mono fun e w' ⟨h1, h2⟩ => ⟨h1, by rw [h2]; exact Below.refl _ _⟩
  sectors := fun {w X b bl n s lo nn pre cur} h hn hL => by
    obtain ⟨Y, Z, hM, ⟨bm, c, hG, hI, hc, hZ⟩, hd, hX, hinv⟩ := h
    exact sectors_any Y b bl bm n s _ lo nn pre cur w hM (by omega) hG hinv hL
end Go.Proofs.Ytcmeaeemjecjiaa
