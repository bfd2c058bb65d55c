/-
 THE SHAPE of the contracts of inbound's Lines, Announce, Shut, Stow, of layout's Find.
-/
import Derived.Test.YtgbilfkjfeheaaaGreatJCon
namespace Go.Proofs.YtgbilfkjfeheaaaGreat
set_option linter.unusedVariables false
open Go.RowKit
open Pl (firstG findG putG It)

structure ConsA : Prop where
 base : Cons
 lines : ∀ (h : Hs) (L : Nat → List (List Value)) (ls : List Value) (w : World), HT h L w → Fits kLine8 ls → Calls Tryz.prog 17 #[.agg h.cells, .agg ls.toArray] w fun e w' => e = .returned (.int .i64 (linesE (L 0) ls : Nat)) ∧ Below w.heap.size w w'
 ann : ∀ (h : Hs) (L : Nat → List (List Value)) (cs : List Value) (w : World), HT h L w → Fits kNotice cs → (codeOf cs).size ≤ maxLen → h.n 6 ≤ 1000 → (h.n 6 ≤ h.c 6 ∧ h.c 6 ≤ 9223372036854775807) → Calls Tryz.prog 12 #[.agg h.cells, .agg cs.toArray] w (PutP 42 51 6 (annE (L 0) (L 2) (L 6) cs) (putG ordNotice (L 6) cs) h w)
 shut : ∀ (h : Hs) (L : Nat → List (List Value)) (s : ByteArray) (w : World), HT h L w → h.n 6 ≤ 1000 → (h.n 6 ≤ h.c 6 ∧ h.c 6 ≤ 9223372036854775807) → Calls Tryz.prog 14 #[.agg h.cells, .string s] w (PutP 42 51 6 (shutE (L 6) s) (shutL (L 6) s) h w)
/-- What a law of Receive alone wants. -/
structure ConsR : Prop where
 base : Cons
/-- What the law of Stow wants. -/
structure ConsS : Prop where
 base : Cons
 stow : ∀ (h : Hs) (L : Nat → List (List Value)) (kb ki kl : ByteArray) (ks n : Int) (w : World), HT h L w → (∀ i, i < 14 → h.n i ≤ 1000) → Caps h → Wf ks → Wf n → Calls Tryz.prog 22 #[.agg h.cells, .agg #[.string kb, .string ki, .string kl, .int .i64 ks], .int .i64 n] w (StowP (stowE L (Ky.mk kb ki kl ks) n) (stowT L (Ky.mk kb ki kl ks) n) (stowL L (Ky.mk kb ki kl ks) n) h L w)
 find : ∀ (h : Hs) (L : Nat → List (List Value)) (s : ByteArray) (w : World), HT h L w → Calls Tryz.prog 24 #[.agg h.cells, .string s] w fun e w' => e = .returned (.tuple #[.agg (gotBin (L 3) s).toArray, .bool (atBin (L 3) s).isSome]) ∧ Below w.heap.size w w'
theorem shutN_things {L : List (List Value)} (h : Things kNotice L) (s : ByteArray) (hs : ∀ x, Fits kNotice x → Fits kNotice (shutN x)) : Things kNotice (shutL L s) := h.put (hs _ (gotNotice_fits h s))
end Go.Proofs.YtgbilfkjfeheaaaGreat
