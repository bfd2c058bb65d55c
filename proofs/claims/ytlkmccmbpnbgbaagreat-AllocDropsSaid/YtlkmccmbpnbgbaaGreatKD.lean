/-
 CONTRACTS of the table's Drop, for quants, orders, claims. (By wip/tools/port16.py.)
-/
import Derived.Test.YtlkmccmbpnbgbaaGreatKP
import Derived.Test.YtlkmccmbpnbgbaaGreatGT
import Derived.Test.YtlkmccmbpnbgbaaGreatOPl
import Derived.Test.YtlkmccmbpnbgbaaGreatHHouse
import Derived.Deep.CutRange
import Derived.BigQuiet
namespace Go.Proofs.YtlkmccmbpnbgbaaGreat
set_option linter.unusedVariables false
open Go.RowKit
open Pl (firstG firstG_none firstG_some findG overG putG dropG It)

set_option maxRecDepth 100000 in
set_option maxHeartbeats 1600000 in
theorem dropQuant (A : Option Addr) (n c K : Nat) (cap : Array Value) (ord : List Value → List Value → Int) (x : List Value) (L : List (List Value)) (w : World) (hn : n = L.length) (hnc : n ≤ c) (hc : c ≤ 9223372036854775807) (hsz : n ≤ 1000000) (hL : Things kQuant L) (hx : Fits kQuant x)
 (hr : Rd w w.heap.size A L.flatten) (hO : TellsO kQuant w K cap ord) :
 Calls Tryz.prog 149 #[.agg #[.func (.func K) #[] cap], .slice A n c, .agg x.toArray] w (NewQuant w (dropG ord L x)) := by
 have hmf : ∀ (fn : Fn) (first cap : Array Value) (w : World), (Instr.makeFunc fn first cap).run Tryz.prog w = .ok (.func fn first cap) w := fun _ _ _ _ => rfl
 obtain ⟨i0, z0, hi0, hz0, hz1, hz2, hz3⟩ := info_thing (P := Tryz.prog) (T := 62) (sz := 6) (by kernel_rfl)
 have hu := Tryz.underlying62
 have HSZ : Hid ((Tryz.prog.info? 62).map (·.size) = some x.toArray.size) := Lib.hid (by rw [show (Tryz.prog.info? 62).map (·.size) = some 6 from by kernel_rfl, List.size_toArray, hx.length]; rfl)
 have HLN : Hid (x.length = 6) := Lib.hid (by rw [hx.length]; rfl)
 have HB := Lib.hid (tabW_below w K cap x 200 62)
 have HSB : Hid ((tabW w K cap x 200 62).heap.size = w.heap.size + 2) := Lib.hid (by simp)
 have hfind := findQuant A n c K cap ord x L _ hn (by omega) hL hx ((hr.below HB.out).mono HB.out.size) (hO.later HB.out)
 have HBX : Hid (∀ W, Below (w.heap.size + 2) (tabW w K cap x 200 62) W → W.heap[w.heap.size + 1]? = some (.cells x.toArray 62 (0, 0))) := Lib.hid (fun W h => tabW_row h)
 have HBX0 := Lib.hid (HBX.out _ (Below.refl _ _))
 have HN := Lib.hid hn
 have HR := Lib.hid hr
 have HL := Lib.hid hL
 have HX1 := Lib.hid (Things.one hx)
 have HBD : Hid (∀ W, Below (w.heap.size + 2) (tabW w K cap x 200 62) W → Below w.heap.size w W ∧ w.heap.size + 2 ≤ W.heap.size) := Lib.hid (fun W h => ⟨HB.out.trans (h.mono (by omega)), by have := h.size; rw [HSB.out] at this; exact this⟩)
 cases hF : findG ord L x with
 | some i =>
  have hi : i < L.length := Pl.firstG_lt hF
  rw [hF, firstV_some] at hfind
  have HP := Lib.hid (show dropG ord L x = L.take i ++ L.drop (i + 1) from by unfold dropG; rw [hF])
  have HF := Lib.hid hfind
  have hin : i < n := by omega
  clear hn hr hF hfind hL hx hO hz2 hz3
  go_enter Tryz.func149, Tryz.ntmps149
  go_wp2_with (first
   | (refine wpList_load_row rfl 62 (.tmp 5) rfl (w.heap.size + 1) rfl _ _ _ _ HBX0.out hu rfl HSZ.out ?_)
   | fail)
  refine HF.out.mono ?_
  rintro e w1 ⟨rfl, hb1⟩
  rw [HSB.out] at hb1
  have HX := Lib.hid (HBX.out _ hb1)
  obtain ⟨hb2, hs1⟩ := HBD.out _ hb1
  have B1 := Lib.hid hb2
  clear hb1 hb2
  have HSP : Hid (Calls Tryz.prog 165 #[.slice A n c, .int .i64 (i : Int), .int .i64 ((i + 1 : Nat) : Int), .slice none 0 0] w1 (NewQuant w (dropG ord L x))) := Lib.hid (by
   have B2 := B1.out
   refine (spliceQuant A none n c 0 0 i (i + 1) L [] _ HN.out rfl hnc hc (by omega) (by omega) hsz HL.out (fun e he => by simp at he) ((HR.out.below B2).mono B2.size) Rd.none_).mono ?_
   rintro e w2 ⟨A', c', rfl, hown, hb2⟩
   have hpe : L.take i ++ [] ++ L.drop (i + 1) = L.take i ++ L.drop (i + 1) := by simp
   refine ⟨A', _, c', ?_, rfl, ?_, B2.trans (hb2.mono B2.size)⟩
   · rw [HP.out]; simp only [List.length_append, List.length_take, List.length_drop]
     have := HN.out
     omega
   · rw [HP.out, ← hpe]; exact own_down hown B2.size)
  rw [show ((i + 1 : Nat) : Int) = (i : Int) + 1 from by omega] at HSP
  go_wp2_with fail
  refine HSP.out.mono ?_
  rintro e w2 ⟨A', n', c', hl, rfl, hown, hb2⟩
  have HO := Lib.hid hown
  have HLE := Lib.hid hl
  have B3 := Lib.hid hb2
  clear hb2 hown hl
  go_wp2_with fail
  go_ret
  exact ⟨A', n', c', HLE.out, rfl, HO.out, B3.out⟩
 | none =>
  rw [hF, firstV_none] at hfind
  have HP := Lib.hid (show dropG ord L x = L from by unfold dropG; rw [hF])
  have HF := Lib.hid hfind
  clear hn hr hF hfind hL hx hO hz2 hz3
  go_enter Tryz.func149, Tryz.ntmps149
  go_wp2_with (first
   | (refine wpList_load_row rfl 62 (.tmp 5) rfl (w.heap.size + 1) rfl _ _ _ _ HBX0.out hu rfl HSZ.out ?_)
   | fail)
  refine HF.out.mono ?_
  rintro e w1 ⟨rfl, hb1⟩
  rw [HSB.out] at hb1
  have HX := Lib.hid (HBX.out _ hb1)
  obtain ⟨hb2, hs1⟩ := HBD.out _ hb1
  have B1 := Lib.hid hb2
  clear hb1 hb2
  have HSP : Hid (Calls Tryz.prog 165 #[.slice A n c, .int .i64 0, .int .i64 0, .slice none 0 0] w1 (NewQuant w (dropG ord L x))) := Lib.hid (by
   have B2 := B1.out
   refine (spliceQuant A none n c 0 0 0 0 L [] _ HN.out rfl hnc hc (by omega) (by omega) hsz HL.out (fun e he => by simp at he) ((HR.out.below B2).mono B2.size) Rd.none_).mono ?_
   rintro e w2 ⟨A', c', rfl, hown, hb2⟩
   have hpe : L.take 0 ++ [] ++ L.drop 0 = L := by simp
   refine ⟨A', _, c', ?_, rfl, ?_, B2.trans (hb2.mono B2.size)⟩
   · rw [HP.out]; have := HN.out; omega
   · rw [HP.out, ← hpe]; exact own_down hown B2.size)
  go_wp2_with fail
  refine HSP.out.mono ?_
  rintro e w2 ⟨A', n', c', hl, rfl, hown, hb2⟩
  have HO := Lib.hid hown
  have HLE := Lib.hid hl
  have B3 := Lib.hid hb2
  clear hb2 hown hl
  go_wp2_with fail
  go_ret
  exact ⟨A', n', c', HLE.out, rfl, HO.out, B3.out⟩
set_option maxRecDepth 100000 in
set_option maxHeartbeats 1600000 in
theorem dropOrder (A : Option Addr) (n c K : Nat) (cap : Array Value) (ord : List Value → List Value → Int) (x : List Value) (L : List (List Value)) (w : World) (hn : n = L.length) (hnc : n ≤ c) (hc : c ≤ 9223372036854775807) (hsz : n ≤ 1000000) (hL : Things kOrder L) (hx : Fits kOrder x)
 (hr : Rd w w.heap.size A L.flatten) (hO : TellsO kOrder w K cap ord) :
 Calls Tryz.prog 78 #[.agg #[.func (.func K) #[] cap], .slice A n c, .agg x.toArray] w (NewOrder w (dropG ord L x)) := by
 have hmf : ∀ (fn : Fn) (first cap : Array Value) (w : World), (Instr.makeFunc fn first cap).run Tryz.prog w = .ok (.func fn first cap) w := fun _ _ _ _ => rfl
 obtain ⟨i0, z0, hi0, hz0, hz1, hz2, hz3⟩ := info_thing (P := Tryz.prog) (T := 42) (sz := 50) (by kernel_rfl)
 have hu := Tryz.underlying42
 have HSZ : Hid ((Tryz.prog.info? 42).map (·.size) = some x.toArray.size) := Lib.hid (by rw [show (Tryz.prog.info? 42).map (·.size) = some 50 from by kernel_rfl, List.size_toArray, hx.length]; rfl)
 have HLN : Hid (x.length = 50) := Lib.hid (by rw [hx.length]; rfl)
 have HB := Lib.hid (tabW_below w K cap x 144 42)
 have HSB : Hid ((tabW w K cap x 144 42).heap.size = w.heap.size + 2) := Lib.hid (by simp)
 have hfind := findOrder A n c K cap ord x L _ hn (by omega) hL hx ((hr.below HB.out).mono HB.out.size) (hO.later HB.out)
 have HBX : Hid (∀ W, Below (w.heap.size + 2) (tabW w K cap x 144 42) W → W.heap[w.heap.size + 1]? = some (.cells x.toArray 42 (0, 0))) := Lib.hid (fun W h => tabW_row h)
 have HBX0 := Lib.hid (HBX.out _ (Below.refl _ _))
 have HN := Lib.hid hn
 have HR := Lib.hid hr
 have HL := Lib.hid hL
 have HX1 := Lib.hid (Things.one hx)
 have HBD : Hid (∀ W, Below (w.heap.size + 2) (tabW w K cap x 144 42) W → Below w.heap.size w W ∧ w.heap.size + 2 ≤ W.heap.size) := Lib.hid (fun W h => ⟨HB.out.trans (h.mono (by omega)), by have := h.size; rw [HSB.out] at this; exact this⟩)
 cases hF : findG ord L x with
 | some i =>
  have hi : i < L.length := Pl.firstG_lt hF
  rw [hF, firstV_some] at hfind
  have HP := Lib.hid (show dropG ord L x = L.take i ++ L.drop (i + 1) from by unfold dropG; rw [hF])
  have HF := Lib.hid hfind
  have hin : i < n := by omega
  clear hn hr hF hfind hL hx hO hz2 hz3
  go_enter Tryz.func78, Tryz.ntmps78
  go_wp2_with (first
   | (refine wpList_load_row rfl 42 (.tmp 5) rfl (w.heap.size + 1) rfl _ _ _ _ HBX0.out hu rfl HSZ.out ?_)
   | fail)
  refine HF.out.mono ?_
  rintro e w1 ⟨rfl, hb1⟩
  rw [HSB.out] at hb1
  have HX := Lib.hid (HBX.out _ hb1)
  obtain ⟨hb2, hs1⟩ := HBD.out _ hb1
  have B1 := Lib.hid hb2
  clear hb1 hb2
  have HSP : Hid (Calls Tryz.prog 112 #[.slice A n c, .int .i64 (i : Int), .int .i64 ((i + 1 : Nat) : Int), .slice none 0 0] w1 (NewOrder w (dropG ord L x))) := Lib.hid (by
   have B2 := B1.out
   refine (spliceOrder A none n c 0 0 i (i + 1) L [] _ HN.out rfl hnc hc (by omega) (by omega) hsz HL.out (fun e he => by simp at he) ((HR.out.below B2).mono B2.size) Rd.none_).mono ?_
   rintro e w2 ⟨A', c', rfl, hown, hb2⟩
   have hpe : L.take i ++ [] ++ L.drop (i + 1) = L.take i ++ L.drop (i + 1) := by simp
   refine ⟨A', _, c', ?_, rfl, ?_, B2.trans (hb2.mono B2.size)⟩
   · rw [HP.out]; simp only [List.length_append, List.length_take, List.length_drop]
     have := HN.out
     omega
   · rw [HP.out, ← hpe]; exact own_down hown B2.size)
  rw [show ((i + 1 : Nat) : Int) = (i : Int) + 1 from by omega] at HSP
  go_wp2_with fail
  refine HSP.out.mono ?_
  rintro e w2 ⟨A', n', c', hl, rfl, hown, hb2⟩
  have HO := Lib.hid hown
  have HLE := Lib.hid hl
  have B3 := Lib.hid hb2
  clear hb2 hown hl
  go_wp2_with fail
  go_ret
  exact ⟨A', n', c', HLE.out, rfl, HO.out, B3.out⟩
 | none =>
  rw [hF, firstV_none] at hfind
  have HP := Lib.hid (show dropG ord L x = L from by unfold dropG; rw [hF])
  have HF := Lib.hid hfind
  clear hn hr hF hfind hL hx hO hz2 hz3
  go_enter Tryz.func78, Tryz.ntmps78
  go_wp2_with (first
   | (refine wpList_load_row rfl 42 (.tmp 5) rfl (w.heap.size + 1) rfl _ _ _ _ HBX0.out hu rfl HSZ.out ?_)
   | fail)
  refine HF.out.mono ?_
  rintro e w1 ⟨rfl, hb1⟩
  rw [HSB.out] at hb1
  have HX := Lib.hid (HBX.out _ hb1)
  obtain ⟨hb2, hs1⟩ := HBD.out _ hb1
  have B1 := Lib.hid hb2
  clear hb1 hb2
  have HSP : Hid (Calls Tryz.prog 112 #[.slice A n c, .int .i64 0, .int .i64 0, .slice none 0 0] w1 (NewOrder w (dropG ord L x))) := Lib.hid (by
   have B2 := B1.out
   refine (spliceOrder A none n c 0 0 0 0 L [] _ HN.out rfl hnc hc (by omega) (by omega) hsz HL.out (fun e he => by simp at he) ((HR.out.below B2).mono B2.size) Rd.none_).mono ?_
   rintro e w2 ⟨A', c', rfl, hown, hb2⟩
   have hpe : L.take 0 ++ [] ++ L.drop 0 = L := by simp
   refine ⟨A', _, c', ?_, rfl, ?_, B2.trans (hb2.mono B2.size)⟩
   · rw [HP.out]; have := HN.out; omega
   · rw [HP.out, ← hpe]; exact own_down hown B2.size)
  go_wp2_with fail
  refine HSP.out.mono ?_
  rintro e w2 ⟨A', n', c', hl, rfl, hown, hb2⟩
  have HO := Lib.hid hown
  have HLE := Lib.hid hl
  have B3 := Lib.hid hb2
  clear hb2 hown hl
  go_wp2_with fail
  go_ret
  exact ⟨A', n', c', HLE.out, rfl, HO.out, B3.out⟩
set_option maxRecDepth 100000 in
set_option maxHeartbeats 1600000 in
theorem dropClaim (A : Option Addr) (n c K : Nat) (cap : Array Value) (ord : List Value → List Value → Int) (x : List Value) (L : List (List Value)) (w : World) (hn : n = L.length) (hnc : n ≤ c) (hc : c ≤ 9223372036854775807) (hsz : n ≤ 1000000) (hL : Things kClaim L) (hx : Fits kClaim x)
 (hr : Rd w w.heap.size A L.flatten) (hO : TellsO kClaim w K cap ord) :
 Calls Tryz.prog 92 #[.agg #[.func (.func K) #[] cap], .slice A n c, .agg x.toArray] w (NewClaim w (dropG ord L x)) := by
 have hmf : ∀ (fn : Fn) (first cap : Array Value) (w : World), (Instr.makeFunc fn first cap).run Tryz.prog w = .ok (.func fn first cap) w := fun _ _ _ _ => rfl
 obtain ⟨i0, z0, hi0, hz0, hz1, hz2, hz3⟩ := info_thing (P := Tryz.prog) (T := 46) (sz := 8) (by kernel_rfl)
 have hu := Tryz.underlying46
 have HSZ : Hid ((Tryz.prog.info? 46).map (·.size) = some x.toArray.size) := Lib.hid (by rw [show (Tryz.prog.info? 46).map (·.size) = some 8 from by kernel_rfl, List.size_toArray, hx.length]; rfl)
 have HLN : Hid (x.length = 8) := Lib.hid (by rw [hx.length]; rfl)
 have HB := Lib.hid (tabW_below w K cap x 111 46)
 have HSB : Hid ((tabW w K cap x 111 46).heap.size = w.heap.size + 2) := Lib.hid (by simp)
 have hfind := findClaim A n c K cap ord x L _ hn (by omega) hL hx ((hr.below HB.out).mono HB.out.size) (hO.later HB.out)
 have HBX : Hid (∀ W, Below (w.heap.size + 2) (tabW w K cap x 111 46) W → W.heap[w.heap.size + 1]? = some (.cells x.toArray 46 (0, 0))) := Lib.hid (fun W h => tabW_row h)
 have HBX0 := Lib.hid (HBX.out _ (Below.refl _ _))
 have HN := Lib.hid hn
 have HR := Lib.hid hr
 have HL := Lib.hid hL
 have HX1 := Lib.hid (Things.one hx)
 have HBD : Hid (∀ W, Below (w.heap.size + 2) (tabW w K cap x 111 46) W → Below w.heap.size w W ∧ w.heap.size + 2 ≤ W.heap.size) := Lib.hid (fun W h => ⟨HB.out.trans (h.mono (by omega)), by have := h.size; rw [HSB.out] at this; exact this⟩)
 cases hF : findG ord L x with
 | some i =>
  have hi : i < L.length := Pl.firstG_lt hF
  rw [hF, firstV_some] at hfind
  have HP := Lib.hid (show dropG ord L x = L.take i ++ L.drop (i + 1) from by unfold dropG; rw [hF])
  have HF := Lib.hid hfind
  have hin : i < n := by omega
  clear hn hr hF hfind hL hx hO hz2 hz3
  go_enter Tryz.func92, Tryz.ntmps92
  go_wp2_with (first
   | (refine wpList_load_row rfl 46 (.tmp 5) rfl (w.heap.size + 1) rfl _ _ _ _ HBX0.out hu rfl HSZ.out ?_)
   | fail)
  refine HF.out.mono ?_
  rintro e w1 ⟨rfl, hb1⟩
  rw [HSB.out] at hb1
  have HX := Lib.hid (HBX.out _ hb1)
  obtain ⟨hb2, hs1⟩ := HBD.out _ hb1
  have B1 := Lib.hid hb2
  clear hb1 hb2
  have HSP : Hid (Calls Tryz.prog 123 #[.slice A n c, .int .i64 (i : Int), .int .i64 ((i + 1 : Nat) : Int), .slice none 0 0] w1 (NewClaim w (dropG ord L x))) := Lib.hid (by
   have B2 := B1.out
   refine (spliceClaim A none n c 0 0 i (i + 1) L [] _ HN.out rfl hnc hc (by omega) (by omega) hsz HL.out (fun e he => by simp at he) ((HR.out.below B2).mono B2.size) Rd.none_).mono ?_
   rintro e w2 ⟨A', c', rfl, hown, hb2⟩
   have hpe : L.take i ++ [] ++ L.drop (i + 1) = L.take i ++ L.drop (i + 1) := by simp
   refine ⟨A', _, c', ?_, rfl, ?_, B2.trans (hb2.mono B2.size)⟩
   · rw [HP.out]; simp only [List.length_append, List.length_take, List.length_drop]
     have := HN.out
     omega
   · rw [HP.out, ← hpe]; exact own_down hown B2.size)
  rw [show ((i + 1 : Nat) : Int) = (i : Int) + 1 from by omega] at HSP
  go_wp2_with fail
  refine HSP.out.mono ?_
  rintro e w2 ⟨A', n', c', hl, rfl, hown, hb2⟩
  have HO := Lib.hid hown
  have HLE := Lib.hid hl
  have B3 := Lib.hid hb2
  clear hb2 hown hl
  go_wp2_with fail
  go_ret
  exact ⟨A', n', c', HLE.out, rfl, HO.out, B3.out⟩
 | none =>
  rw [hF, firstV_none] at hfind
  have HP := Lib.hid (show dropG ord L x = L from by unfold dropG; rw [hF])
  have HF := Lib.hid hfind
  clear hn hr hF hfind hL hx hO hz2 hz3
  go_enter Tryz.func92, Tryz.ntmps92
  go_wp2_with (first
   | (refine wpList_load_row rfl 46 (.tmp 5) rfl (w.heap.size + 1) rfl _ _ _ _ HBX0.out hu rfl HSZ.out ?_)
   | fail)
  refine HF.out.mono ?_
  rintro e w1 ⟨rfl, hb1⟩
  rw [HSB.out] at hb1
  have HX := Lib.hid (HBX.out _ hb1)
  obtain ⟨hb2, hs1⟩ := HBD.out _ hb1
  have B1 := Lib.hid hb2
  clear hb1 hb2
  have HSP : Hid (Calls Tryz.prog 123 #[.slice A n c, .int .i64 0, .int .i64 0, .slice none 0 0] w1 (NewClaim w (dropG ord L x))) := Lib.hid (by
   have B2 := B1.out
   refine (spliceClaim A none n c 0 0 0 0 L [] _ HN.out rfl hnc hc (by omega) (by omega) hsz HL.out (fun e he => by simp at he) ((HR.out.below B2).mono B2.size) Rd.none_).mono ?_
   rintro e w2 ⟨A', c', rfl, hown, hb2⟩
   have hpe : L.take 0 ++ [] ++ L.drop 0 = L := by simp
   refine ⟨A', _, c', ?_, rfl, ?_, B2.trans (hb2.mono B2.size)⟩
   · rw [HP.out]; have := HN.out; omega
   · rw [HP.out, ← hpe]; exact own_down hown B2.size)
  go_wp2_with fail
  refine HSP.out.mono ?_
  rintro e w2 ⟨A', n', c', hl, rfl, hown, hb2⟩
  have HO := Lib.hid hown
  have HLE := Lib.hid hl
  have B3 := Lib.hid hb2
  clear hb2 hown hl
  go_wp2_with fail
  go_ret
  exact ⟨A', n', c', HLE.out, rfl, HO.out, B3.out⟩
end Go.Proofs.YtlkmccmbpnbgbaaGreat
