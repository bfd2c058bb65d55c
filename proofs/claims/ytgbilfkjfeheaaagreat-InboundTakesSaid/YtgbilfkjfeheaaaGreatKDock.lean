/-
 CONTRACTS of inbound's dock, statusOf. (By wip/tools/gen_kin.py.)
-/
import Derived.Test.YtgbilfkjfeheaaaGreatKF
import Derived.Test.YtgbilfkjfeheaaaGreatJHead
import Derived.Test.YtgbilfkjfeheaaaGreatGT
namespace Go.Proofs.YtgbilfkjfeheaaaGreat
set_option linter.unusedVariables false
open Go.RowKit
open Pl (firstG findG putG It firstG_none firstG_some)

/-- What is wrong with a bin as a dock; the dock. -/
def dkE (LB : List (List Value)) (d : ByteArray) : Nat := if (atBin LB d).isSome = false then 12 else if (bnOf (gotBin LB d)).kind ≠ 2 then 23 else 0
def dkB (LB : List (List Value)) (d : ByteArray) : Bn := if dkE LB d = 0 then bnOf (gotBin LB d) else ⟨⟨#[]⟩, ⟨#[]⟩, 0, 0, 0, 0, 0, false⟩
theorem dock_parts (LZ LB : List (List Value)) (d s : ByteArray) : dockE LZ LB d s = if dkE LB d ≠ 0 then dkE LB d else if Pl.eqv (siteT LZ LB d) s = false then 24 else if (dkB LB d).frz = true then 25 else 0 := by
 unfold dockE dkB dkE
 by_cases h1 : (atBin LB d).isSome = false
 · rw [if_pos h1, if_pos h1, if_pos (by decide)]
 · rw [if_neg h1, if_neg h1]
   by_cases h2 : (bnOf (gotBin LB d)).kind ≠ 2
   · rw [if_pos h2, if_pos h2, if_pos (by decide)]
   · rw [if_neg h2, if_neg h2]; rfl
set_option maxRecDepth 100000 in
set_option maxHeartbeats 3200000 in
theorem cdock (h : Hs) (L : Nat → List (List Value)) (d : ByteArray) (w : World) (hh : HT h L w) :
 Calls Tryz.prog 80 #[.agg h.cells, .string d] w fun e w' => e = .returned (.tuple #[.agg (dkB (L 3) d).cells.toArray, .int .i64 (dkE (L 3) d : Nat)]) ∧ Below w.heap.size w w' := by
 obtain ⟨⟨yc, yz, kd, ai, pl, vo, we, fz⟩, hy, hyb⟩ := bin_eight hh d
 unfold Bn.cells at hy
 obtain ⟨ib, hib⟩ : ∃ z, (atBin (L 3) d).isSome = z := ⟨_, rfl⟩
 obtain ⟨er, her⟩ : ∃ r, dkE (L 3) d = r := ⟨_, rfl⟩
 obtain ⟨Y, hY⟩ : ∃ Y, dkB (L 3) d = Y := ⟨_, rfl⟩
 have HA : Hid (er = if ib = false then 12 else if kd ≠ 2 then 23 else 0) := Lib.hid (by rw [← her]; unfold dkE; rw [hib, hyb])
 have HY : Hid (Y = if er = 0 then ⟨yc, yz, kd, ai, pl, vo, we, fz⟩ else ⟨⟨#[]⟩, ⟨#[]⟩, 0, 0, 0, 0, 0, false⟩) := Lib.hid (by rw [← hY]; unfold dkB; rw [her, hyb])
 have CB : Hid (∀ W, Below w.heap.size w W → Calls Tryz.prog 24 #[.agg h.cells, .string d] W fun e w' => e = .returned (.tuple #[.agg #[.string yc, .string yz, .int .i64 kd, .int .i64 ai, .int .i64 pl, .int .i64 vo, .int .i64 we, .bool fz], .bool ib]) ∧ Below W.heap.size W w') := Lib.hid (fun W hW => by have := fcBin (hh.below hW) d; rw [hy, hib] at this; exact this)
 rw [her, hY]
 clear her hib hy hyb hY
 have HS8 : Hid (∀ (a b : ByteArray) (c d e f g : Int) (z : Bool), (Tryz.prog.info? 64).map (·.size) = some (#[.string a, .string b, .int .i64 c, .int .i64 d, .int .i64 e, .int .i64 f, .int .i64 g, .bool z] : Array Value).size) := Lib.hid (fun _ _ _ _ _ _ _ _ => by kernel_rfl)
 have HO8 : Hid (∀ (a b : ByteArray) (c d e f g : Int) (z : Bool), (#[.string a, .string b, .int .i64 c, .int .i64 d, .int .i64 e, .int .i64 f, .int .i64 g, .bool z] : Array Value).all (·.oneCell') = true) := Lib.hid (fun _ _ _ _ _ _ _ _ => by simp [Value.oneCell'])
 have huB := Tryz.underlying64
 obtain ⟨W0, hW0⟩ : ∃ W0, W0 = ((w.alloc (.cells h.cells 37)).alloc (.cells #[.string ⟨#[]⟩, .string ⟨#[]⟩, .int .i64 0, .int .i64 0, .int .i64 0, .int .i64 0, .int .i64 0, .bool false] 64)) := ⟨_, rfl⟩
 have hb0 : Below w.heap.size w W0 := by rw [hW0]; exact ((Below.refl _ _).alloc (Nat.le_refl _) _).alloc (by simp <;> omega) _
 have hs0 : W0.heap.size = w.heap.size + 2 := by rw [hW0]; simp
 have HH : Hid (∀ W, Below W0.heap.size W0 W → W.heap[w.heap.size]? = some (.cells h.cells 37 (0, 0))) := Lib.hid (fun W hW => (hW.block _ (by omega)).trans (by
  rw [hW0]
  have hq := heap_alloc_new w (.cells h.cells 37)
  exact (Below.heap_alloc _ _ _ (by simp <;> omega)).trans ((by simpa using hq))))
 have HR : Hid (∀ W, Below W0.heap.size W0 W → W.heap[w.heap.size + 1]? = some (.cells #[.string ⟨#[]⟩, .string ⟨#[]⟩, .int .i64 0, .int .i64 0, .int .i64 0, .int .i64 0, .int .i64 0, .bool false] 64 (0, 0))) := Lib.hid (fun W hW => (hW.block _ (by omega)).trans (by
  rw [hW0]
  have hq := heap_alloc_new (w.alloc (.cells h.cells 37)) (.cells #[.string ⟨#[]⟩, .string ⟨#[]⟩, .int .i64 0, .int .i64 0, .int .i64 0, .int .i64 0, .int .i64 0, .bool false] 64)
  exact (by simpa using hq)))
 have HBW : Hid (∀ W, Below W0.heap.size W0 W → Below w.heap.size w W ∧ w.heap.size + 2 ≤ W.heap.size) := Lib.hid (fun W hW => ⟨hb0.trans (hW.mono (by omega)), by have := hW.size; omega⟩)
 have huh := Tryz.underlying37
 have HSH : Hid (∀ a : Hs, (Tryz.prog.info? 37).map (·.size) = some a.cells.size) := Lib.hid (fun a => by kernel_rfl)
 have huHR := Tryz.underlying64
 have H0 := Lib.hid (Below.refl W0.heap.size W0)
 clear hb0 hs0 hh
 subst hW0
 go_enter Tryz.func80, Tryz.ntmps80
 go_wp2_with (first
  | (refine wpList_load_row rfl 37 (.tmp 2) rfl w.heap.size rfl _ _ _ _ (HH.out _ H0.out) huh rfl (HSH.out _) ?_)
  | fail)
 refine (CB.out _ (HBW.out _ H0.out).1).mono ?_
 rintro e w1 ⟨rfl, hb1⟩
 have H1 := Lib.hid (H0.out.trans (hb1.mono H0.out.size))
 clear hb1
 obtain ⟨w2, hw2⟩ : ∃ W, W = w1.alloc (.cells #[.string yc, .string yz, .int .i64 kd, .int .i64 ai, .int .i64 pl, .int .i64 vo, .int .i64 we, .bool fz] 64) := ⟨_, rfl⟩
 have H2 : Hid (Below _ _ w2) := Lib.hid (by rw [hw2]; exact H1.out.alloc H1.out.size _)
 have HB2 : Hid (w2.heap[w1.heap.size]? = some (.cells #[.string yc, .string yz, .int .i64 kd, .int .i64 ai, .int .i64 pl, .int .i64 vo, .int .i64 we, .bool fz] 64 (0, 0))) := Lib.hid (by rw [hw2]; exact heap_alloc_new _ _)
 have HW2 := Lib.hid hw2
 clear hw2
 go_upto_region 2 with fail
 rw [← HW2.out]
 cases ib with
 | false =>
  have HE : Hid (er = 12) := Lib.hid (by rw [HA.out]; simp)
  have HYE : Hid (Y = ⟨⟨#[]⟩, ⟨#[]⟩, 0, 0, 0, 0, 0, false⟩) := Lib.hid (by rw [HY.out, if_neg (by rw [HE.out]; decide)])
  go_wp2_with (first
   | (refine wpList_store_row rfl 64 (.tmp 4) (.tmp 16) rfl (w.heap.size + 1) #[.string ⟨#[]⟩, .string ⟨#[]⟩, .int .i64 0, .int .i64 0, .int .i64 0, .int .i64 0, .int .i64 0, .bool false] rfl rfl _ _ (HR.out _ H2.out) (HS8.out _ _ _ _ _ _ _ _) rfl (HO8.out _ _ _ _ _ _ _ _) ?_)
   | fail)
  exact bodyPost_ret (results_row_tmp rfl _ _ (w.heap.size + 1) _ _ _ _ rfl (setRow_heap _ _ _ _ _ _ (HR.out _ H2.out)) huB rfl (HS8.out _ _ _ _ _ _ _ _)) rfl ⟨by rw [HE.out, HYE.out]; rfl, setRow_below (HBW.out _ H2.out).1 (by omega) _⟩
 | true =>
  have c2 : w2.cell? ⟨w1.heap.size, 2, none⟩ = some (.int .i64 kd) := by rw [cell_of_block HB2.out]; rfl
  have clt := lt_of_block HB2.out
  by_cases q1 : kd = 2
  ·
   have HE : Hid (er = 0) := Lib.hid (by rw [HA.out]; simp [q1])
   have HYE : Hid (Y = ⟨yc, yz, kd, ai, pl, vo, we, fz⟩) := Lib.hid (by rw [HY.out, if_pos HE.out])
   have b1 : (kd != 2) = false := by simpa using q1
   clear q1
   go_wp2_with (first
    | (refine wpList_load_row rfl 64 (.tmp 6) rfl w1.heap.size rfl _ _ _ _ HB2.out huB rfl (HS8.out _ _ _ _ _ _ _ _) ?_)
    | (refine wpList_store_row rfl 64 (.tmp 4) (.tmp 21) rfl (w.heap.size + 1) #[.string yc, .string yz, .int .i64 kd, .int .i64 ai, .int .i64 pl, .int .i64 vo, .int .i64 we, .bool fz] rfl rfl _ _ (HR.out _ H2.out) (HS8.out _ _ _ _ _ _ _ _) rfl (HO8.out _ _ _ _ _ _ _ _) ?_)
    | fail)
   exact bodyPost_ret (results_row_tmp rfl _ _ (w.heap.size + 1) _ _ _ _ rfl (setRow_heap _ _ _ _ _ _ (HR.out _ H2.out)) huB rfl (HS8.out _ _ _ _ _ _ _ _)) rfl ⟨by rw [HE.out, HYE.out]; rfl, setRow_below (HBW.out _ H2.out).1 (by omega) _⟩
  · have b1 : (kd != 2) = true := by simpa using q1
    have HQ1 := Lib.hid q1
    clear q1
    have HE : Hid (er = 23) := Lib.hid (by rw [HA.out]; simp [HQ1.out])
    have HYE : Hid (Y = ⟨⟨#[]⟩, ⟨#[]⟩, 0, 0, 0, 0, 0, false⟩) := Lib.hid (by rw [HY.out, if_neg (by rw [HE.out]; decide)])
    go_wp2_with (first
     | (refine wpList_store_row rfl 64 (.tmp 4) (.tmp 20) rfl (w.heap.size + 1) #[.string ⟨#[]⟩, .string ⟨#[]⟩, .int .i64 0, .int .i64 0, .int .i64 0, .int .i64 0, .int .i64 0, .bool false] rfl rfl _ _ (HR.out _ H2.out) (HS8.out _ _ _ _ _ _ _ _) rfl (HO8.out _ _ _ _ _ _ _ _) ?_)
     | fail)
    exact bodyPost_ret (results_row_tmp rfl _ _ (w.heap.size + 1) _ _ _ _ rfl (setRow_heap _ _ _ _ _ _ (HR.out _ H2.out)) huB rfl (HS8.out _ _ _ _ _ _ _ _)) rfl ⟨by rw [HE.out, HYE.out]; rfl, setRow_below (HBW.out _ H2.out).1 (by omega) _⟩
set_option maxRecDepth 100000 in
set_option maxHeartbeats 3200000 in
theorem cstatus (x : It) (w : World) : Calls Tryz.prog 72 #[.agg #[.string x.code, .string (x.nm 0), .int .i64 (x.fc 0), .string (x.nm 1), .int .i64 (x.fc 1), .string (x.nm 2), .int .i64 (x.fc 2), .string (x.nm 3), .int .i64 (x.fc 3), .int .i64 x.vol, .int .i64 x.wei, .bool x.lots, .bool x.serial, .bool x.chk]] w fun e w' => e = .returned (.int .i64 (if x.chk = true then 2 else 1)) ∧ Below w.heap.size w w' := by
 obtain ⟨ck, hck⟩ : ∃ b, x.chk = b := ⟨_, rfl⟩
 rw [hck]
 obtain ⟨W0, hW0⟩ : ∃ W0, W0 = w.alloc (.cells #[.string x.code, .string (x.nm 0), .int .i64 (x.fc 0), .string (x.nm 1), .int .i64 (x.fc 1), .string (x.nm 2), .int .i64 (x.fc 2), .string (x.nm 3), .int .i64 (x.fc 3), .int .i64 x.vol, .int .i64 x.wei, .bool x.lots, .bool x.serial, .bool ck] 87) := ⟨_, rfl⟩
 have HB : Hid (Below w.heap.size w W0) := Lib.hid (by rw [hW0]; exact (Below.refl _ _).alloc (Nat.le_refl _) _)
 have HX : Hid (W0.heap[w.heap.size]? = some (.cells #[.string x.code, .string (x.nm 0), .int .i64 (x.fc 0), .string (x.nm 1), .int .i64 (x.fc 1), .string (x.nm 2), .int .i64 (x.fc 2), .string (x.nm 3), .int .i64 (x.fc 3), .int .i64 x.vol, .int .i64 x.wei, .bool x.lots, .bool x.serial, .bool ck] 87 (0, 0))) := Lib.hid (by rw [hW0]; exact heap_alloc_new _ _)
 have c13 : W0.cell? ⟨w.heap.size, 13, none⟩ = some (.bool ck) := by rw [cell_of_block HX.out]; rfl
 have clt := lt_of_block HX.out
 have HW0 := Lib.hid hW0
 clear hck hW0
 cases ck with
 | true =>
  go_enter Tryz.func72, Tryz.ntmps72
  go_upto_region 1 with fail
  rw [← HW0.out]
  go_wp2_with fail
  go_ret
  exact ⟨rfl, HB.out⟩
 | false =>
  go_enter Tryz.func72, Tryz.ntmps72
  go_upto_region 1 with fail
  rw [← HW0.out]
  go_wp2_with fail
  go_ret
  exact ⟨rfl, HB.out⟩
end Go.Proofs.YtgbilfkjfeheaaaGreat
