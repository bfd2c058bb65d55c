/-
  THE CONTRACTS of layer 6, together.
-/
import Derived.Test.YtkcickbkmedbmaaSLoad
import Derived.Test.YtkcickbkmedbmaaSSave
namespace Go.Proofs.Ytkcickbkmedbmaa
open Go.RowKit Go.Maps

theorem cons : Cons where
  save := fun hm hoff hn num data h1 h2 hs => save_any _ _ _ _ _ hm hoff hn num data h1 h2 hs
  wrong := fun {_ _ b _ _} _ num data _ hbad => wrong_any b _ num data hbad
  load := fun hm hoff => load_any _ _ _ _ _ hm hoff
  sectors := fun w k hk => (Fm.sectors_any (k : Int) w (by omega) (by omega)).mono fun e w' ⟨he, hw⟩ => ⟨by rw [he, Fm.sectF_nat], hw ▸ Below.refl _ _⟩
  saveNil := fun w num data => saveNil_any w num data
  loadNil := fun w => loadNil_any w
end Go.Proofs.Ytkcickbkmedbmaa
