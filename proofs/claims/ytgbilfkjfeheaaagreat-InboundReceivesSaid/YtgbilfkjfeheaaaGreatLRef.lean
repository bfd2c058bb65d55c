/-
 CONTRACTS of the reference's Day, Fits.
-/
import Derived.Test.YtgbilfkjfeheaaaGreatOFind
import Derived.Test.YtgbilfkjfeheaaaGreatBRef
import Derived.Test.YtgbilfkjfeheaaaGreatLRFind
import Derived.Test.YtgbilfkjfeheaaaGreatGT
namespace Go.Proofs.YtgbilfkjfeheaaaGreat
set_option linter.unusedVariables false
open Go.RowKit
open Pl (It)

/-- FindItem, FindLot of a house in memory. -/
theorem rfindI {h : Hs} {L : Nat → List (List Value)} {w : World} (hh : HT h L w) (s : ByteArray) : Calls Tryz.prog 66 #[.agg h.cells, .string s] w fun e w' => e = .returned (.tuple #[.agg (gotItem (L 0) s).toArray, .bool (atItem (L 0) s).isSome]) ∧ Below w.heap.size w w' :=
 rfindItem h (L 0) s w (hh 0 (by decide)).1 (hh 0 (by decide)).2.1 (hh 0 (by decide)).2.2.1 (hh 0 (by decide)).2.2.2
theorem rfindL {h : Hs} {L : Nat → List (List Value)} {w : World} (hh : HT h L w) (s t : ByteArray) : Calls Tryz.prog 114 #[.agg h.cells, .string s, .string t] w fun e w' => e = .returned (.tuple #[.agg (gotL (L 1) s t).toArray, .bool (atL (L 1) s t).isSome]) ∧ Below w.heap.size w w' :=
 rfindl_any h (L 1) s t w (hh 1 (by decide)).1 (hh 1 (by decide)).2.1 (hh 1 (by decide)).2.2.1 (hh 1 (by decide)).2.2.2
/-- A lot's three cells, an item's fourteen. -/
theorem lot_three {h : Hs} {L : Nat → List (List Value)} {w : World} (hh : HT h L w) (s t : ByteArray) : ∃ a c z, gotL (L 1) s t = [.string a, .string c, .int .i64 z] ∧ expL (gotL (L 1) s t) = z :=
 ⟨_, _, _, lot_cells (gotL_fits (hh 1 (by decide)).2.2.1 s t), rfl⟩


/-- What the reference's Fits answers, by its parts. -/
def fitB (i l : Bool) (lb sb : Bool) (c : ByteArray) (s : Int) : Nat :=
 if i = false then 12 else if (lb && !l || !lb && decide (c.size ≠ 0)) = true then 21 else if (sb && decide (1 < s)) = true then 22 else 0
theorem quant_atL {h : Hs} {L : Nat → List (List Value)} {w : World} (hh : HT h L w) {k : Nat} (hk : k < (L 4).length) : ∃ b off, h.A 4 = some ⟨b, off, none⟩ ∧ ∀ W, Below w.heap.size w W → b < W.heap.size ∧ W.cell? ⟨b, off + k * 6 + 1, none⟩ = some (.string (itemQ (L 4)[k])) ∧ W.cell? ⟨b, off + k * 6 + 2, none⟩ = some (.string (lotQ (L 4)[k])) ∧ W.cell? ⟨b, off + k * 6 + 4, none⟩ = some (.int .i64 (qtyQ (L 4)[k])) := by
 obtain ⟨_, _, ht, hr⟩ := hh 4 (by decide)
 obtain ⟨b, off, hA, hb, hc⟩ := hr.thing ht (by decide) hk
 refine ⟨b, off, hA, fun W hW => ?_⟩
 have r1 := rangeAt_below (hc k hk) hb hW
 rw [show (kOf 4).length = 6 from rfl] at r1
 obtain ⟨x0, x1, x2, hq⟩ := quant_cells (ht _ (List.getElem_mem hk))
 exact ⟨Nat.lt_of_lt_of_le hb hW.size, r1 1 _ (by rw [hq]; rfl), r1 2 _ (by rw [hq]; rfl), r1 4 _ (by rw [hq]; rfl)⟩

set_option maxRecDepth 100000 in
set_option maxHeartbeats 1600000 in
theorem rfits_any (h : Hs) (L : Nat → List (List Value)) (s t : ByteArray) (n : Int) (w : World) (hh : HT h L w) (hn : -9223372036854775808 ≤ n ∧ n ≤ 9223372036854775807) : Calls Tryz.prog 75 #[.agg h.cells, .string s, .string t, .int .i64 n] w fun e w' => e = .returned (.int .i64 (fitE (L 0) (L 1) (L 4) s t n : Nat)) ∧ Below w.heap.size w w' := by
 obtain ⟨a, c, z, hg, _⟩ := lot_three hh s t
 obtain ⟨x, hx⟩ := It.of (gotItem_fits (hh 0 (by decide)).2.2.1 s)
 have HFL := Lib.hid (fun W (hW : Below w.heap.size w W) => rfindL (hh.below hW) s t)
 have HFI := Lib.hid (fun W (hW : Below w.heap.size w W) => rfindI (hh.below hW) s)
 obtain ⟨lb, hlb⟩ : ∃ b, x.lots = b := ⟨_, rfl⟩
 obtain ⟨sb, hsb⟩ : ∃ b, x.serial = b := ⟨_, rfl⟩
 obtain ⟨il, hil⟩ : ∃ b, (atL (L 1) s t).isSome = b := ⟨_, rfl⟩
 obtain ⟨ii, hii⟩ : ∃ b, (atItem (L 0) s).isSome = b := ⟨_, rfl⟩
 have HV : Hid (fitE (L 0) (L 1) (L 4) s t n = fitB ii il lb sb t (sumQ s t (L 4) n)) := Lib.hid (by
  unfold fitE fitB
  rw [hx, hil, hii, show lotsI x.cells = lb from hlb, show serI x.cells = sb from hsb])
 rw [hg, hil] at HFL
 rw [hx, hii] at HFI
 unfold It.cells at HFI
 rw [hlb, hsb] at HFI
 have HNQ : Hid (h.n 4 = (L 4).length) := Lib.hid (hh 4 (by decide)).1
 have hn6 := (hh 4 (by decide)).2.1
 have HQ := Lib.hid (fun (k : Nat) (hk : k < (L 4).length) => quant_atL hh hk)
 have HN := Lib.hid hn
 obtain ⟨r, hr⟩ : ∃ r, fitE (L 0) (L 1) (L 4) s t n = r := ⟨_, rfl⟩
 rw [hr] at HV ⊢
 clear hr hg hx hil hii hlb hsb hh
 obtain ⟨m, hm⟩ : ∃ m, h.n 4 = m := ⟨_, rfl⟩
 rw [hm] at HNQ hn6
 have HM := Lib.hid hm
 have huh := Tryz.underlying37
 have HSH : Hid (∀ a : Hs, (Tryz.prog.info? 37).map (·.size) = some a.cells.size) := Lib.hid (fun a => by kernel_rfl)
 have HB0 : Hid (Below w.heap.size w (w.alloc (.cells h.cells 37))) := Lib.hid ((Below.refl _ _).alloc (Nat.le_refl _) _)
 have HH0 : Hid ((w.alloc (.cells h.cells 37)).heap[w.heap.size]? = some (.cells h.cells 37 (0, 0))) := Lib.hid (heap_alloc_new _ _)
 clear hm
 go_enter Tryz.func75, Tryz.ntmps75
 go_wp2_with (first
  | (refine wpList_load_row rfl 37 (.tmp 4) rfl w.heap.size rfl _ _ _ _ HH0.out huh rfl (HSH.out _) ?_)
  | fail)
 refine (HFI.out _ HB0.out).mono ?_
 rintro e w1 ⟨rfl, hb1⟩
 have B1 := Lib.hid (HB0.out.trans (hb1.mono HB0.out.size))
 have HH1 := Lib.hid ((hb1.block _ (lt_of_block HH0.out)).trans HH0.out)
 clear hb1
 cases ii with
 | false =>
  have HE : Hid (r = 12) := Lib.hid (by rw [HV.out]; rfl)
  go_wp2_with fail
  go_ret
  exact ⟨by rw [HE.out]; rfl, B1.out.alloc B1.out.size _⟩
 | true =>
  have HH1b := Lib.hid (fun o => (Below.heap_alloc w1 o _ (lt_of_block HH1.out)).trans HH1.out)
  go_wp2_with (first
   | (refine wpList_load_row rfl 37 (.tmp 4) rfl w.heap.size rfl _ _ _ _ (HH1b.out _) huh rfl (HSH.out _) ?_)
   | fail)
  have HXC : Hid ((w1.alloc (.cells #[.string x.code, .string (x.nm 0), .int .i64 (x.fc 0), .string (x.nm 1), .int .i64 (x.fc 1), .string (x.nm 2), .int .i64 (x.fc 2), .string (x.nm 3), .int .i64 (x.fc 3), .int .i64 x.vol, .int .i64 x.wei, .bool lb, .bool sb, .bool x.chk] 87)).heap[w1.heap.size]? = some (.cells #[.string x.code, .string (x.nm 0), .int .i64 (x.fc 0), .string (x.nm 1), .int .i64 (x.fc 1), .string (x.nm 2), .int .i64 (x.fc 2), .string (x.nm 3), .int .i64 (x.fc 3), .int .i64 x.vol, .int .i64 x.wei, .bool lb, .bool sb, .bool x.chk] 87 (0, 0))) := Lib.hid (heap_alloc_new _ _)
  have B2 := Lib.hid (B1.out.alloc B1.out.size (.cells #[.string x.code, .string (x.nm 0), .int .i64 (x.fc 0), .string (x.nm 1), .int .i64 (x.fc 1), .string (x.nm 2), .int .i64 (x.fc 2), .string (x.nm 3), .int .i64 (x.fc 3), .int .i64 x.vol, .int .i64 x.wei, .bool lb, .bool sb, .bool x.chk] 87))
  refine (HFL.out _ B2.out).mono ?_
  rintro e w3 ⟨rfl, hb3⟩
  have HX3 := Lib.hid ((hb3.block _ (lt_of_block HXC.out)).trans HXC.out)
  have HH3 := Lib.hid ((hb3.block _ (lt_of_block (HH1b.out _))).trans (HH1b.out _))
  have B3 := Lib.hid (B2.out.trans (hb3.mono B2.out.size))
  clear hb3
  have B4 := Lib.hid (B3.out.alloc B3.out.size (.cells #[.string a, .string c, .int .i64 z] 90))
  have hX4 := (Below.heap_alloc w3 (.cells #[.string a, .string c, .int .i64 z] 90) _ (lt_of_block HX3.out)).trans HX3.out
  have HLT : Hid (w1.heap.size < w3.heap.size) := Lib.hid (lt_of_block HX3.out)
  have hlt1 := HLT.out
  have d1 : (w3.alloc (.cells #[.string a, .string c, .int .i64 z] 90)).cell? ⟨w1.heap.size, 11, none⟩ = some (.bool lb) := by rw [cell_of_block hX4]; rfl
  have d2 : (w3.alloc (.cells #[.string a, .string c, .int .i64 z] 90)).cell? ⟨w1.heap.size, 12, none⟩ = some (.bool sb) := by rw [cell_of_block hX4]; rfl
  have HH4 : Hid ((w3.alloc (.cells #[.string a, .string c, .int .i64 z] 90)).heap[w.heap.size]? = some (.cells h.cells 37 (0, 0))) := Lib.hid ((Below.heap_alloc w3 _ _ (lt_of_block HH3.out)).trans HH3.out)
  clear hX4
  have hemp := empty_iff t
  have hcase : (lb = true ∧ il = false) ∨ (lb = false ∧ t.toList.isEmpty = false ∧ t.size ≠ 0) ∨ (lb = true ∧ il = true) ∨ (lb = false ∧ t.toList.isEmpty = true ∧ t.size = 0) := by
   cases lb with
   | true => cases il with
    | true => exact .inr (.inr (.inl ⟨rfl, rfl⟩))
    | false => exact .inl ⟨rfl, rfl⟩
   | false =>
    by_cases h0 : t.size = 0
    · exact .inr (.inr (.inr ⟨rfl, by rw [hemp]; simp [h0], h0⟩))
    · exact .inr (.inl ⟨rfl, by rw [hemp]; simp [h0], h0⟩)
  clear hemp
  rcases hcase with ⟨rfl, rfl⟩ | ⟨rfl, he, h0⟩ | ⟨rfl, rfl⟩ | ⟨rfl, he, h0⟩
  · have HE : Hid (r = 21) := Lib.hid (by rw [HV.out]; rfl)
    go_wp2_with fail
    go_ret
    exact ⟨by rw [HE.out]; rfl, B4.out⟩
  · have HE : Hid (r = 21) := Lib.hid (by rw [HV.out]; simp [fitB, h0])
    clear h0
    go_wp2_with fail
    go_ret
    exact ⟨by rw [HE.out]; rfl, B4.out⟩
  all_goals
   have HV2 : Hid (r = if (sb && decide (1 < sumQ s t (L 4) n)) = true then 22 else 0) := Lib.hid (by rw [HV.out]; first | rfl | simp [fitB, h0])
   try clear h0
   cases sb with
   | false =>
    have HE : Hid (r = 0) := Lib.hid (by rw [HV2.out]; rfl)
    go_wp2_with fail
    go_ret
    exact ⟨by rw [HE.out]; rfl, B4.out⟩
   | true =>
    have HWL := Lib.hid (lt_of_block HH4.out)
    go_wp2_with fail
    go_loopw [13, 14] (fun sv kv wr => ∃ k : Nat, k ≤ m ∧ kv = .int .i64 (k : Int) ∧ (∃ q : Int, sv = .int .i64 q ∧ Hid (q = sumQ s t ((L 4).take k) n)) ∧ Hid (wr = w3.alloc (.cells #[.string a, .string c, .int .i64 z] 90))) (fun _ kv _ => m - (intOf kv).toNat)
    case atStart => exact ⟨0, by omega, rfl, ⟨n, rfl, Lib.hid rfl⟩, Lib.hid (by first | rfl | trivial)⟩
    case round =>
     obtain ⟨k, hk, rfl, ⟨q, rfl, hq⟩, hw⟩ := hrel
     have c4 : wr.cell? ⟨w.heap.size, 4, none⟩ = some (.slice (h.A 4) m (h.c 4)) := by rw [hw.out, cell_of_block HH4.out]; rw [← HM.out]; rfl
     have hlw : w.heap.size < wr.heap.size := by rw [hw.out]; exact HWL.out
     by_cases hlt : k < m
     · have hkl : k < (L 4).length := by rw [← HNQ.out]; exact hlt
       obtain ⟨b, off, hA, hc⟩ := HQ.out k hkl
       rw [hA] at c4
       obtain ⟨hbl, e1, e2, e4⟩ := hc wr (by rw [hw.out]; exact B4.out)
       have hsn := sumQ_snoc s t (L 4) k hkl n
       obtain ⟨u, hu⟩ : ∃ u, (L 4)[k] = u := ⟨_, rfl⟩
       rw [hu] at e1 e2 e4 hsn
       rw [← hq.out] at hsn
       obtain ⟨ui, hui⟩ : ∃ y, itemQ u = y := ⟨_, rfl⟩
       obtain ⟨ul, hul⟩ : ∃ y, lotQ u = y := ⟨_, rfl⟩
       obtain ⟨uq, huq⟩ : ∃ y, qtyQ u = y := ⟨_, rfl⟩
       rw [huq] at e4 hsn
       have hof : ofQ s t u = (Pl.eqv ui s && Pl.eqv ul t) := by unfold ofQ; rw [hui, hul]
       rw [hof] at hsn
       rw [hui] at e1
       rw [hul] at e2
       have HSN := Lib.hid hsn
       clear hof hui hul huq hu hsn hc hA hkl
       cases hp : Pl.eqv ui s with
       | false =>
        have hp' : (ui.toList == s.toList) = false := hp
        have HS1 : Hid (q = sumQ s t ((L 4).take (k + 1)) n) := Lib.hid (by rw [HSN.out, hp]; rfl)
        clear hp
        go_wp2_with fail
        go_roundw
        case rel => exact ⟨k + 1, by omega, by go_num, ⟨q, rfl, HS1⟩, hw⟩
        case measure => simp [intOf]; omega
       | true =>
        have hp' : (ui.toList == s.toList) = true := hp
        cases hp2 : Pl.eqv ul t with
        | false =>
         have hp2' : (ul.toList == t.toList) = false := hp2
         have HS1 : Hid (q = sumQ s t ((L 4).take (k + 1)) n) := Lib.hid (by rw [HSN.out, hp, hp2]; rfl)
         clear hp hp2
         go_wp2_with fail
         go_roundw
         case rel => exact ⟨k + 1, by omega, by go_num, ⟨q, rfl, HS1⟩, hw⟩
         case measure => simp [intOf]; omega
        | true =>
         have hp2' : (ul.toList == t.toList) = true := hp2
         have HS1 : Hid (wrap64 (q + uq) = sumQ s t ((L 4).take (k + 1)) n) := Lib.hid (by rw [HSN.out, hp, hp2]; rfl)
         clear hp hp2
         go_wp2_with fail
         go_roundw
         case rel => exact ⟨k + 1, by omega, by go_num, ⟨_, rfl, HS1⟩, hw⟩
         case measure => simp [intOf]; omega
     · obtain rfl : k = m := by omega
       have HQ2 : Hid (q = sumQ s t (L 4) n) := Lib.hid (by rw [hq.out, List.take_of_length_le (by rw [HNQ.out]; omega)])
       by_cases h1 : 1 < q
       · have HE : Hid (r = 22) := Lib.hid (by rw [HV2.out, ← HQ2.out]; simp [h1])
         go_wp2_with fail
         go_ret
         exact ⟨by rw [HE.out]; rfl, by rw [hw.out]; exact B4.out⟩
       · have HE : Hid (r = 0) := Lib.hid (by rw [HV2.out, ← HQ2.out]; simp [h1])
         go_wp2_with fail
         go_ret
         exact ⟨by rw [HE.out]; rfl, by rw [hw.out]; exact B4.out⟩
end Go.Proofs.YtgbilfkjfeheaaaGreat
