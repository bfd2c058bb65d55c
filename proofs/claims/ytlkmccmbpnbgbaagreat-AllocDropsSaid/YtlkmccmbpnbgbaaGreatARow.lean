/-
 OPENED: arguments that are an order, a claim; the contracts of alloc's functions as the laws want them.
-/
import Derived.Test.YtlkmccmbpnbgbaaGreatAWake
import Derived.Test.YtlkmccmbpnbgbaaGreatHKept
namespace Go.Proofs.YtlkmccmbpnbgbaaGreat
open Go.ChangeShapes Go.WideShapes Go.Deep Go.RowKit Go.Joins
open Pl (putG)
set_option linter.unusedVariables false
set_option maxRecDepth 100000

section
variable {H : Type} {enc : TypeId × Value → H} {W : World}
theorem order_in {r : Reach} {b0 : Nat} {v : Value} {d : DataW H} {p : List MemPlace} (hv : Value.okWide Tryz.prog W r b0 42 v) (h : DataW.Trod enc Tryz.prog W 0 (fun _ => true) true 42 v d p) :
 ∃ cs : List Value, v = .agg cs.toArray ∧ Fits kOrder cs ∧ ∀ u ∈ cs, Mild u := struct_in Tryz.underlying42 opOrder hv h
theorem claim_in {r : Reach} {b0 : Nat} {v : Value} {d : DataW H} {p : List MemPlace} (hv : Value.okWide Tryz.prog W r b0 46 v) (h : DataW.Trod enc Tryz.prog W 0 (fun _ => true) true 46 v d p) :
 ∃ cs : List Value, v = .agg cs.toArray ∧ Fits kClaim cs ∧ ∀ u ∈ cs, Mild u := struct_in Tryz.underlying46 opClaim hv h
end
/-- The laws are walked over the contracts themselves. -/
abbrev ConsA : Prop := True
theorem cons : ConsA := trivial
theorem hclaim (h : Hs) (L : HL) (co : ByteArray) (cn : Int) (cb ci cl : ByteArray) (cs cq ct : Int) (w : World) (hh : HT h L w) (hn8 : h.n 8 ≤ 1000) (hc : Caps h) :
 Calls Tryz.prog 13 #[.agg h.cells, .agg #[.string co, .int .i64 cn, .string cb, .string ci, .string cl, .int .i64 cs, .int .i64 cq, .int .i64 ct]] w (HouseP (claimE (L 8) (Cl.mk co cn cb ci cl cs cq ct)) (setE 0 L 8 (claimL (L 8) (Cl.mk co cn cb ci cl cs cq ct))) h L w) :=
 (cclaim h L co cn cb ci cl cs cq ct w hh (Nat.le_trans hn8 (by decide)) (hc 8 (by decide))).mono fun e w' H => H.house (by decide) (claimL_things (hh 8 (by decide)).2.2.1 _) (by
  have h1 := upC_len (L 8) (claimC (L 8) (Cl.mk co cn cb ci cl cs cq ct))
  have h2 := (hh 8 (by decide)).1
  unfold claimL
  repeat' split at h1
  all_goals omega) hh
theorem order_len {L : HL} {cs : List Value} {h : Hs} {w : World} (hh : HT h L w) (hn7 : h.n 7 ≤ 1000) : (putG ordOrder (L 7) cs).length ≤ 1000000 := by
 rw [Pl.putG_len]
 have h2 := (hh 7 (by decide)).1
 split <;> omega
theorem horder (h : Hs) (L : HL) (cs : List Value) (w : World) (hh : HT h L w) (hf : Fits kOrder cs) (hm : (codeOf cs).size ≤ maxLen) (hn7 : h.n 7 ≤ 1000) (hc : Caps h) :
 Calls Tryz.prog 11 #[.agg h.cells, .agg cs.toArray] w (HouseP (ordE L cs) (setE 0 L 7 (putG ordOrder (L 7) cs)) h L w) :=
 (corder h L cs w hh hf hm (Nat.le_trans hn7 (by decide)) (hc 7 (by decide))).mono fun e w' H => H.house (by decide) ((hh 7 (by decide)).2.2.1.put hf) (order_len hh hn7) hh
end Go.Proofs.YtlkmccmbpnbgbaaGreat
