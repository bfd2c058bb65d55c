/-
  CONTRACT of the code's Follow. (By wip/tools/gen_ncode.py.)
-/
import Derived.Test.YtnkhnbpopdmkhaaNBy
import Derived.Test.YtnkhnbpopdmkhaaNFolPl
import Derived.Test.YtnkhnbpopdmkhaaNUpd
import Derived.Test.YtnkhnbpopdmkhaaHLastN
import Derived.Deep.CutRange
import Derived.Maps.RangeWalk
namespace Go.Proofs.Ytnkhnbpopdmkhaa
set_option linter.unusedVariables false
open Go.RowKit
open Pl (firstG findG putG It firstG_none firstG_some)

open Go.Maps
theorem eql_list (j : Nat) (w : World) : Sem.run Try.prog (binOp .eql 72 (.map (some j)) (.map none)) w = .ok (.bool false) w := by kernel_rfl
set_option maxRecDepth 100000 in
set_option maxHeartbeats 6400000 in
theorem cfollow (h : Hs) (L L0 : Nat → List (List Value)) (b : Nat) (X : Nat → Prop) (w : World) (hx : IX0 w b X L0) (hh : HT h L w) (hn6 : h.n 4 ≤ 1000) (hm : MildL L) :
    Calls Try.prog 12 #[.pointer (some ⟨b, 0, none⟩), .agg h.cells] w fun e w' => e = .returned (.tuple #[]) ∧ Onx X w w' ∧ ∃ X' : Nat → Prop, IX0 w' b X' L ∧ ∀ k, X' k → X k ∨ w.heap.size ≤ k := by
  obtain ⟨mb, f, G, CC, hi1, hi2, hi3, hi4, hi5, hi6⟩ := hx.ex
  have HHT := Lib.hid hh
  have HMI := Lib.hid hm
  have HIX := Lib.hid hx
  have HI0 : Hid (IdxF X w (idxL L0) f G CC) := Lib.hid ⟨hi4, hi5, hi6⟩
  have HG0 := Lib.hid hi2
  have HXM := Lib.hid hi3
  have HL4 : Hid ((L 4).length ≤ 1000) := Lib.hid (by rw [← (hh 4 (by decide)).1]; exact hn6)
  have HN6 := Lib.hid hn6
  have hml : mb < w.heap.size := hi2.lt
  have hbm : b ≠ mb := fun e => hi2.ne_cells hi1 e.symm
  have HB0 := Lib.hid hi1
  obtain ⟨wa, hwa⟩ : ∃ W, W = w.alloc (.cells h.cells 37) := ⟨_, rfl⟩
  have HBA : Hid (Below w.heap.size w wa) := Lib.hid (by rw [hwa]; exact (Below.refl _ _).alloc (Nat.le_refl _) _)
  have HSA : Hid (wa.heap.size = w.heap.size + 1) := Lib.hid (by rw [hwa]; simp)
  have HHB : Hid (wa.heap[w.heap.size]? = some (.cells h.cells 37 (0, 0))) := Lib.hid (by rw [hwa]; exact heap_alloc_new w _)
  have HWA := Lib.hid hwa
  have HBW : Hid (wa.heap[b]? = some (.cells #[.map (some mb)] 74 (0, 0))) := Lib.hid ((HBA.out.block _ (lt_of_block hi1)).trans hi1)
  have hc0 : wa.cell? ⟨b, 0, none⟩ = some (.map (some mb)) := by rw [cell_of_block HBW.out]; rfl
  have hbl := lt_of_block HBW.out
  have huh := Try.underlying37
  have HSH : Hid ((Try.prog.info? 37).map (·.size) = some h.cells.size) := Lib.hid (by kernel_rfl)
  have CB : Hid (Calls Try.prog 22 #[.agg h.cells] wa (ByP L wa)) := Lib.hid (cby h L wa (hh.below HBA.out) hn6 hm)
  clear hx hh hm hi1 hi2 hi3 hi4 hi5 hi6 hwa
  have hmn := eql_list mb
  go_enter Try.func12, Try.ntmps12
  go_upto_region 2 with fail
  rw [← HWA.out]
  go_upto_region 4 with (first
    | (refine wpList_load_row rfl 37 (.tmp 3) rfl w.heap.size rfl _ _ _ _ HHB.out huh rfl HSH.out ?_)
    | fail)
  clear hc0 hbl
  go_wp2_with (first
    | (refine wpList_load_row rfl 37 (.tmp 3) rfl w.heap.size rfl _ _ _ _ HHB.out huh rfl HSH.out ?_)
    | fail)
  refine CB.out.mono ?_
  rintro e w1 ⟨mbN, fN, GN, CN, rfl, hgN, hmN, hnoN, hyN, hb1⟩
  have hs1 := hb1.size
  have hsa := HSA.out
  have HGN := Lib.hid hgN
  have HNO := Lib.hid hnoN
  have HYN := Lib.hid hyN
  have HB1 := Lib.hid (HBA.out.trans (hb1.mono (by omega)))
  have hml1 : mb < w1.heap.size := by omega
  have hmNl := hgN.lt
  have hne : mbN ≠ mb := by omega
  have HBX1 : Hid (w1.heap[b]? = some (.cells #[.map (some mb)] 74 (0, 0))) := Lib.hid ((hb1.block _ (lt_of_block HBW.out)).trans HBW.out)
  have hc1 : w1.cell? ⟨b, 0, none⟩ = some (.map (some mb)) := by rw [cell_of_block HBX1.out]; rfl
  have hbl1 := lt_of_block HBX1.out
  obtain ⟨D1, hD1, hS1⟩ := HG0.out.kept (HB1.out.block _ hml)
  clear hgN hnoN hyN hb1
  go_wp2_with (first
    | (at_range; refine wpList_range_own _ rfl _ 72 rfl 9 65 keyedS Try.underlying72 rawR mb 1000 D1 rfl hD1 ?_; intro w2 hrg2 hgr2 hs2)
    | fail)
  go_frame
  clear hc1 hbl1
  obtain ⟨r1, hr1⟩ : ∃ z, w1.heap.size = z := ⟨_, rfl⟩
  rw [hr1] at hrg2 ⊢
  have HR1 := Lib.hid hr1
  go_loopw [5, 6, 7] (fun _ _ _ wr => ∃ (left : Lit → Bool) (cnt : Nat) (f' : Lit → Option Value), Hid (GR wr mb r1 1000 f' left cnt) ∧ Hid (∀ s, f' (sk s) = if (left (sk s) || (fN (sk s)).isSome) = true then f (sk s) else none) ∧ Hid (Onx (fun j => j = mb) w1 wr)) (fun _ _ _ wr => wr.rangeLeft mb r1)
  case atStart =>
    refine ⟨_, _, f, Lib.hid ⟨D1, hrg2, hS1⟩, Lib.hid (fun s => ?_), Lib.hid ⟨hgr2.os, hgr2.tape, hgr2.output, hgr2.size, fun i hi _ => hgr2.block i hi (by simp)⟩⟩
    rw [hS1.has _ (sk_key s)]
    cases hc : f (sk s) with
    | none => split <;> rfl
    | some v => simp
  case round =>
    obtain ⟨left, cnt, f', HR, HF, HO⟩ := hrel
    obtain ⟨D, hrg, hS⟩ := HR.out
    clear hrg2 hgr2 hs2 hD1 hS1
    go_wp2_with (first
      | (at_next; refine wpList_next_ranges _ rfl _ rfl 9 keyedS rawR Value.string (fun v : Value => v) (fun key kl hk => Maps.keyOf_string_inv Try.underlying9 hk) (fun v y h => ⟨v, rfl⟩) mb r1 1000 _ _ _ rfl hrg ?_ ?_)
      | fail)
    · intro hc0 hl0
      obtain ⟨wb, hwb⟩ : ∃ z, z = wr := ⟨_, rfl⟩
      subst hwb
      clear hrg hS
      have hsb := HO.out.size
      have hkb : ∀ j, j < w1.heap.size → j ≠ mb → wb.heap[j]? = w1.heap[j]? := fun j h1 h2 => HO.out.block j h1 h2
      have hnN : ∀ s, (fN (sk s)).isSome = false → idxL L s = [] := fun s hs => by
        rw [idx_nil]
        by_cases hne : idxM L s = []
        · exact hne
        · rw [(HYN.out s hne).1] at hs; cases hs
      have hff : ∀ s, f' (sk s) = if (fN (sk s)).isSome = true then f (sk s) else none := fun s => by rw [HF.out s, hl0]; simp
      have HIA : Hid (IdxF X wb (fun s => if (fN (sk s)).isSome = true then idxL L0 s else idxL L s) f' G CC) := Lib.hid (by
        have hz : ∀ s, (if (fN (sk s)).isSome = true then idxL L0 s else idxL L s) ≠ [] → (fN (sk s)).isSome = true ∧ idxL L0 s ≠ [] := fun s hs => by
          cases hc : (fN (sk s)).isSome with
          | false => rw [hc] at hs; exact absurd (hnN s hc) hs
          | true => rw [hc] at hs; exact ⟨rfl, hs⟩
        refine ⟨fun s hs => ?_, fun s hs => ?_, fun s t hs ht => ?_⟩
        · rw [hff s]
          cases hc : (fN (sk s)).isSome with
          | false => simp
          | true => simp only [hc, if_true] at hs; rw [if_pos rfl]; exact HI0.out.no s hs
        · obtain ⟨h1, h2⟩ := hz s hs
          have h3 := HI0.out.yes s h2
          have h4 := own_ltS h3.2.1
          simp only [h1, if_true]
          rw [hff s, if_pos h1]
          obtain ⟨cur, hcur⟩ := h3.2.1.cells
          exact ⟨h3.1, row_keep h3.2.1 ((hkb _ (by omega) (fun e => HG0.out.ne_cells hcur e.symm)).trans (HB1.out.block _ h4)), h3.2.2⟩
        · exact HI0.out.inj s t (hz s hs).2 (hz t ht).2)
      obtain ⟨DN, hDN, hSN⟩ := HGN.out.kept (hkb _ hmNl hne)
      have HGB := Lib.hid HR.out.gm
      have HBB : Hid (wb.heap[b]? = some (.cells #[.map (some mb)] 74 (0, 0))) := Lib.hid ((hkb _ (lt_of_block HBX1.out) hbm).trans HBX1.out)
      have HKB := Lib.hid hkb
      clear hkb hnN hff
      go_wp2_with (first
        | (at_range; refine wpList_range_own _ rfl _ 72 rfl 9 65 keyedS Try.underlying72 rawR mbN 1000 DN rfl hDN ?_; intro w5 hrg5 hgr5 hs5)
        | fail)
      go_frame
      obtain ⟨r2, hr2⟩ : ∃ z, wb.heap.size = z := ⟨_, rfl⟩
      rw [hr2] at hrg5 ⊢
      have HR2 := Lib.hid hr2
      have hsz5 := size_le hDN
      go_loopw [8, 9] (fun _ _ wq => ∃ (left2 : Lit → Bool) (cnt2 n2 : Nat) (f2 : Lit → Option Value) (G2 C2 : ByteArray → Nat), Hid (GR wq mbN r2 1000 fN left2 cnt2) ∧ Hid (GM 9 wq mb n2 f2) ∧ n2 + cnt2 ≤ 2000 ∧ Hid (IdxF (fun j => X j ∨ r2 ≤ j) wq (fun s => if left2 (sk s) = true then idxL L0 s else idxL L s) f2 G2 C2) ∧ Hid (Onx X wb wq) ∧ Hid (wq.heap[b]? = some (.cells #[.map (some mb)] 74 (0, 0)))) (fun _ _ wq => wq.rangeLeft mbN r2)
      case atStart =>
        have hk5 : ∀ j, j < wb.heap.size → w5.heap[j]? = wb.heap[j]? := fun j hj => hgr5.block j hj (by simp)
        refine ⟨_, _, 1000, f', G, CC, Lib.hid ⟨DN, hrg5, hSN⟩, Lib.hid (HGB.out.kept (hk5 _ HGB.out.lt)), by omega, Lib.hid ?_, Lib.hid ⟨hgr5.os, hgr5.tape, hgr5.output, hgr5.size, fun i hi _ => hk5 i hi⟩, Lib.hid ((hk5 _ (lt_of_block HBB.out)).trans HBB.out)⟩
        have e : (fun s => if Maps.has DN (sk s) = true then idxL L0 s else idxL L s) = (fun s => if (fN (sk s)).isSome = true then idxL L0 s else idxL L s) := funext (fun s => by rw [hSN.has _ (sk_key s)])
        rw [e]
        have hi := HIA.out
        exact ⟨hi.no, fun s hs => ⟨(hi.yes s hs).1, row_keep (hi.yes s hs).2.1 (hk5 _ (own_ltS (hi.yes s hs).2.1)), .inl (hi.yes s hs).2.2⟩, hi.inj⟩
      case round =>
        obtain ⟨left2, cnt2, n2, f2, G2, C2, HRQ, HGQ, hnq, HIQ, HOQ, HBQ⟩ := hrel
        obtain ⟨wq, hwq⟩ : ∃ z, z = wr := ⟨_, rfl⟩
        subst hwq
        obtain ⟨D2, hrgq, hSq⟩ := HRQ.out
        clear hrg5 hgr5 hs5 hDN hSN hsz5
        go_wp2_with (first
          | (at_next; refine wpList_next_ranges _ rfl _ rfl 9 keyedS rawR Value.string (fun v : Value => v) (fun key kl hk => Maps.keyOf_string_inv Try.underlying9 hk) (fun v y h => ⟨v, rfl⟩) mbN r2 1000 _ _ _ rfl hrgq ?_ ?_)
          | fail)
        · intro hc2 hl2
          have HIE : Hid (IdxF (fun j => X j ∨ r2 ≤ j) wq (idxL L) f2 G2 C2) := Lib.hid (by
            have e : (fun s => if left2 (sk s) = true then idxL L0 s else idxL L s) = idxL L := funext (fun s => by rw [hl2]; rfl)
            have := HIQ.out
            rw [e] at this
            exact this)
          have HW : Hid (Onx X w wq) := Lib.hid (((Onx.below HB1.out (fun i h1 h2 => absurd h2 (by omega))).tr (HO.out.mono (fun i h1 _ => by rw [h1]; exact HXM.out))).tr HOQ.out)
          have HX : Hid (IX0 wq b (fun k => X k ∨ ∃ s, idxL L s ≠ [] ∧ k = G2 s) L) := Lib.hid (by
            have hi := HIE.out
            have ht := HGQ.out.tightS ((L 4).map (fun e => (qnOf e).item)) (fun s hs => idx_item (fun e => by rw [hi.no s e] at hs; cases hs))
            rw [List.length_map] at ht
            refine ⟨⟨mb, f2, G2, C2, HBQ.out, ht.mono HL4.out, .inl HXM.out, hi.no, fun s hs => ⟨(hi.yes s hs).1, (hi.yes s hs).2.1, .inr ⟨s, hs, rfl⟩⟩, hi.inj⟩, .inl HIX.out.xb, fun k hk => ?_, HL4.out, fun s e he => mild_idx HHT.out HN6.out HMI.out s e ((idx_mem L s e).1 he)⟩
            rcases hk with hk | ⟨s, hs, rfl⟩
            · exact Nat.lt_of_lt_of_le (HIX.out.lt k hk) HW.out.size
            · exact own_ltS (hi.yes s hs).2.1)
          have HXX : Hid (∀ k, (X k ∨ ∃ s, idxL L s ≠ [] ∧ k = G2 s) → X k ∨ w.heap.size ≤ k) := Lib.hid (fun k hk => by
            rcases hk with hk | ⟨s, hs, rfl⟩
            · exact .inl hk
            · rcases (HIE.out.yes s hs).2.2 with h1 | h1
              · exact .inl h1
              · have := HR2.out; exact .inr (by omega))
          clear hrgq hSq hl2
          go_wp2_with fail
          go_end0
          exact ⟨rfl, HW.out, _, HX.out, HXX.out⟩
        · intro x c kl yd yp w6 cnt6 hkx hlx hvx hatx hrg6 hlt6 hg6 hs6 hen
          obtain ⟨hx, rfl⟩ := key_inv hkx
          have hfx := hSq.next_at hatx hvx
          have hnx : idxM L x ≠ [] := fun e => by rw [HNO.out x e] at hfx; cases hfx
          obtain ⟨hy1, hy2, hy3⟩ := HYN.out x hnx
          rw [hfx] at hy1
          injection hy1 with hy1
          subst hy1
          obtain ⟨n1, hn1⟩ : ∃ z, (idxM L x).length = z := ⟨_, rfl⟩
          obtain ⟨gN, hgN⟩ : ∃ z, GN x = z := ⟨_, rfl⟩
          obtain ⟨cN, hcN⟩ : ∃ z, CN x = z := ⟨_, rfl⟩
          rw [hn1, hgN, hcN] at hen
          have hgl := own_ltS hy2
          rw [hgN] at hgl hy2 hy3
          have hsq := HOQ.out.size
          have hr2 := HR2.out
          have hk6 : ∀ j, j < wq.heap.size → j ≠ r2 → w6.heap[j]? = wq.heap[j]? := fun j h1 h2 => hg6.block j h1 (fun e => h2 (by injection e))
          have hXl : ∀ k, X k → k < w.heap.size := HIX.out.lt
          have hgm : gN ≠ mb := by omega
          have HRN : Hid (RowS w6 gN (CN x) (idxM L x)) := Lib.hid (row_keep hy2 (((hk6 _ (by omega) (by omega)).trans (HOQ.out.block _ (by omega) (fun h1 => by have := hXl _ h1; omega))).trans (HKB.out _ hgl hgm)))
          have HI6 := Lib.hid (HIQ.out.kept (W' := w6) (fun s hs => by
            obtain ⟨cur, hcur⟩ := (HIQ.out.yes s hs).2.1.cells
            exact hk6 _ (own_ltS (HIQ.out.yes s hs).2.1) (HRQ.out.ne_cells hcur)))
          have HG6 := Lib.hid (HGQ.out.kept (hk6 _ HGQ.out.lt (by omega)))
          have HR6 : Hid (GR w6 mbN r2 1000 fN (fun z => left2 z && !z.sameKey (sk x)) cnt6) := Lib.hid ⟨D2, hrg6, hSq⟩
          have HO6 : Hid (Onx X wb w6) := Lib.hid ⟨hg6.os.trans HOQ.out.os, hg6.tape.trans HOQ.out.tape, hg6.output.trans HOQ.out.output, Nat.le_trans HOQ.out.size hg6.size, fun j h1 h2 => (hk6 j (by omega) (by omega)).trans (HOQ.out.block j h1 h2)⟩
          have HB6 : Hid (w6.heap[b]? = some (.cells #[.map (some mb)] 74 (0, 0))) := Lib.hid ((hk6 _ (lt_of_block HBQ.out) (HRQ.out.ne_cells HBQ.out)).trans HBQ.out)
          obtain ⟨A, c0, hv0, ho0, hA0⟩ := HI6.out.row x
          have hZx : (fun s => if left2 (sk s) = true then idxL L0 s else idxL L s) x = idxL L0 x := if_pos hlx
          simp only [hlx, if_true] at hv0 ho0 hA0
          obtain ⟨n0, hn0⟩ : ∃ z, (idxL L0 x).length = z := ⟨_, rfl⟩
          rw [hn0] at hv0 ho0
          have h06 : n0 ≤ 1000 := by rw [← hn0]; exact Nat.le_trans (idx_len L0 x) HIX.out.le
          have h16 : n1 ≤ 1000 := by rw [← hn1]; exact Nat.le_trans (idxM_len L x) HL4.out
          have hAb : ∀ k, Blk A k → k = G2 x ∧ idxL L0 x ≠ [] := fun k hk => by
            obtain ⟨a, ha, rfl⟩ := hk
            rcases hA0 with ⟨rfl, _⟩ | ⟨rfl, h2⟩
            · cases ha
            · injection ha with ha; subst ha; exact ⟨rfl, h2⟩
          have hZn : idxL L0 x ≠ [] → (fun s => if left2 (sk s) = true then idxL L0 s else idxL L s) x ≠ [] := fun h1 => by rw [hZx]; exact h1
          have hAc : ∀ k, Blk A k → ∃ cur : Array Value, w6.heap[k]? = some (.cells cur 69 (0, 0)) := fun k hk => by
            obtain ⟨rfl, h2⟩ := hAb k hk
            exact (HI6.out.yes x (hZn h2)).2.1.cells
          have hAX : ∀ k, Blk A k → X k ∨ r2 ≤ k := fun k hk => by
            obtain ⟨rfl, h2⟩ := hAb k hk
            exact (HI6.out.yes x (hZn h2)).2.2
          have CU : Hid (Calls Try.prog 23 #[.slice A n0 c0, .slice (some ⟨gN, 0, none⟩) n1 cN] w6.drew (UpdP A (idxM L x) w6.drew)) := Lib.hid (cupd A (some ⟨gN, 0, none⟩) n0 c0 n1 cN (idxL L0 x) (idxM L x) w6.drew hn0.symm h06 hn1.symm h16 (things_st _ _ _) (things_st _ _ _) (HIX.out.md x) (mild_idx HHT.out HN6.out HMI.out x) (idx_strict L0 x) (fun a ha b hb => idx_two ha hb) ho0 (Rd.of_own HRN.out) (fun k hk hk' => by
            obtain ⟨a, ha, rfl⟩ := hk
            injection ha with ha
            subst ha
            rcases hAX _ hk' with h1 | h1
            · have h2 : X gN := h1
              have := hXl _ h2
              omega
            · have h2 : r2 ≤ gN := h1
              omega))
          have hlkW : ∀ W : World, W.heap[mb]? = w6.heap[mb]? → (Instr.lookup 72 (.map (some mb)) (.string x) false).run Try.prog W = .ok (.slice A n0 c0) W := fun W hW => by
            have := (HG6.out.kept hW).look (t := 72) keyedS Try.underlying72 (z := .slice none 0 0) (Try.zeroValue65 W) hkx
            rw [hv0] at this
            exact this
          have HST : Hid (∀ W : World, W.heap[b]? = w6.heap[b]? → W.heap[mb]? = w6.heap[mb]? → W.cell? ⟨b, 0, none⟩ = some (.map (some mb)) ∧ (Instr.lookup 72 (.map (some mb)) (.string x) false).run Try.prog W = .ok (.slice A n0 c0) W) := Lib.hid (fun W h1 h2 => ⟨by rw [cell_of_block (h1.trans HB6.out)]; rfl, hlkW W h2⟩)
          have HSD := Lib.hid (HST.out w6.drew rfl rfl)
          have HAB := Lib.hid hAb
          have HAC := Lib.hid hAc
          have HAX := Lib.hid hAX
          have HA0 := Lib.hid hA0
          have HKX := Lib.hid hkx
          have HLX := Lib.hid hlx
          have HXL := Lib.hid hXl
          have HXS := Lib.hid hx
          have HZN := Lib.hid hZn
          have HZX := Lib.hid hZx
          have HN0 := Lib.hid hn0
          have HNX := Lib.hid hnx
          have hml6 := HG6.out.lt
          have hmN6 := HR6.out.gm.lt
          have hrl6 := HR6.out.lt
          have hbl6 := lt_of_block HB6.out
          clear hlkW hAb hAc hAX hA0 hkx hlx hXl hx hZn hZx hv0 ho0 hn0 hk6 hy2 hfx hatx hvx hn1 hcN hnx hrgq hrg6 hSq hg6
          go_upto_region 14 with fail
          refine lastN_region (S := fun w' => w'.cell? ⟨b, 0, none⟩ = some (.map (some mb)) ∧ (Instr.lookup 72 (.map (some mb)) (.string x) false).run Try.prog w' = .ok (.slice A n0 c0) w') (n := 13) (by kernel_rfl) ?_
          refine LastN.pure (i := 0) (v := .pointer (some ⟨b, 0, none⟩)) rfl (by kernel_rfl) (by kernel_rfl) (by kernel_rfl) (by decide) (fun _ _ _ h => h.elim) (.inl ⟨by kernel_rfl, fun w hw => by clear hw; go_simp⟩) (fun _ => HSD.out) ?_
          (try simp only [Act.put, List.getElem_toArray, List.getElem_cons_zero, List.setIfInBounds_toArray, List.set_cons_zero, List.set_cons_succ])
          refine LastN.pure (i := 1) (v := .pointer (some ⟨b, 0, none⟩)) rfl (by kernel_rfl) (by kernel_rfl) (by kernel_rfl) (by decide) (fun _ _ _ h => h.elim) (.inl ⟨by kernel_rfl, fun w hw => by clear hw; go_simp⟩) (fun _ => HSD.out) ?_
          (try simp only [Act.put, List.getElem_toArray, List.getElem_cons_succ, List.getElem_cons_zero, List.setIfInBounds_toArray, List.set_cons_zero, List.set_cons_succ])
          refine LastN.pure (i := 2) (v := .pointer (some ⟨b, 0, none⟩)) rfl (by kernel_rfl) (by kernel_rfl) (by kernel_rfl) (by decide) (fun _ _ _ h => h.elim) (.inl ⟨by kernel_rfl, fun w hw => by clear hw; go_simp⟩) (fun _ => HSD.out) ?_
          (try simp only [Act.put, List.getElem_toArray, List.getElem_cons_succ, List.getElem_cons_zero, List.setIfInBounds_toArray, List.set_cons_zero, List.set_cons_succ])
          refine LastN.take (i := 3) (v := .map (some mb)) rfl (by kernel_rfl) (by kernel_rfl) (by kernel_rfl) (by kernel_rfl) (by kernel_rfl) (by decide) (fun _ _ _ h => h.elim) (.inl ⟨by kernel_rfl, fun w h => by have hw := h.1; clear h; go_simp⟩) HSD.out ?_
          (try simp only [Act.put, List.getElem_toArray, List.getElem_cons_succ, List.getElem_cons_zero, List.setIfInBounds_toArray, List.set_cons_zero, List.set_cons_succ])
          refine LastN.pure (i := 4) (v := .string x) rfl (by kernel_rfl) (by kernel_rfl) (by kernel_rfl) (by decide) (fun _ _ _ h => h.elim) (.inl ⟨by kernel_rfl, fun w hw => by clear hw; go_simp⟩) (fun _ => HSD.out) ?_
          (try simp only [Act.put, List.getElem_toArray, List.getElem_cons_succ, List.getElem_cons_zero, List.setIfInBounds_toArray, List.set_cons_zero, List.set_cons_succ])
          refine LastN.pure (i := 5) (v := .pointer (some ⟨b, 0, none⟩)) rfl (by kernel_rfl) (by kernel_rfl) (by kernel_rfl) (by decide) (fun _ _ _ h => h.elim) (.inl ⟨by kernel_rfl, fun w hw => by clear hw; go_simp⟩) (fun _ => HSD.out) ?_
          (try simp only [Act.put, List.getElem_toArray, List.getElem_cons_succ, List.getElem_cons_zero, List.setIfInBounds_toArray, List.set_cons_zero, List.set_cons_succ])
          refine LastN.pure (i := 6) (v := .pointer (some ⟨b, 0, none⟩)) rfl (by kernel_rfl) (by kernel_rfl) (by kernel_rfl) (by decide) (fun _ _ _ h => h.elim) (.inl ⟨by kernel_rfl, fun w hw => by clear hw; go_simp⟩) (fun _ => HSD.out) ?_
          (try simp only [Act.put, List.getElem_toArray, List.getElem_cons_succ, List.getElem_cons_zero, List.setIfInBounds_toArray, List.set_cons_zero, List.set_cons_succ])
          refine LastN.pure (i := 7) (v := .pointer (some ⟨b, 0, none⟩)) rfl (by kernel_rfl) (by kernel_rfl) (by kernel_rfl) (by decide) (fun _ _ _ h => h.elim) (.inl ⟨by kernel_rfl, fun w hw => by clear hw; go_simp⟩) (fun _ => HSD.out) ?_
          (try simp only [Act.put, List.getElem_toArray, List.getElem_cons_succ, List.getElem_cons_zero, List.setIfInBounds_toArray, List.set_cons_zero, List.set_cons_succ])
          refine LastN.take (i := 8) (v := .map (some mb)) rfl (by kernel_rfl) (by kernel_rfl) (by kernel_rfl) (by kernel_rfl) (by kernel_rfl) (by decide) (fun _ _ _ h => h.elim) (.inl ⟨by kernel_rfl, fun w h => by have hw := h.1; clear h; go_simp⟩) HSD.out ?_
          (try simp only [Act.put, List.getElem_toArray, List.getElem_cons_succ, List.getElem_cons_zero, List.setIfInBounds_toArray, List.set_cons_zero, List.set_cons_succ])
          refine LastN.pure (i := 9) (v := .string x) rfl (by kernel_rfl) (by kernel_rfl) (by kernel_rfl) (by decide) (fun _ _ _ h => h.elim) (.inl ⟨by kernel_rfl, fun w hw => by clear hw; go_simp⟩) (fun _ => HSD.out) ?_
          (try simp only [Act.put, List.getElem_toArray, List.getElem_cons_succ, List.getElem_cons_zero, List.setIfInBounds_toArray, List.set_cons_zero, List.set_cons_succ])
          refine LastN.take (i := 10) (v := .slice A n0 c0) rfl (by kernel_rfl) (by kernel_rfl) (by kernel_rfl) (by kernel_rfl) (by kernel_rfl) (by decide) (fun _ _ _ h => h.elim) (.inl ⟨by kernel_rfl, fun w h => by have hw := h.2; clear h; go_simp⟩) HSD.out ?_
          (try simp only [Act.put, List.getElem_toArray, List.getElem_cons_succ, List.getElem_cons_zero, List.setIfInBounds_toArray, List.set_cons_zero, List.set_cons_succ])
          refine LastN.pure (i := 11) (v := .slice (some ⟨gN, 0, none⟩) n1 cN) rfl (by kernel_rfl) (by kernel_rfl) (by kernel_rfl) (by decide) (fun _ _ _ h => h.elim) (.inl ⟨by kernel_rfl, fun w hw => by clear hw; go_simp⟩) (fun _ => HSD.out) ?_
          (try simp only [Act.put, List.getElem_toArray, List.getElem_cons_succ, List.getElem_cons_zero, List.setIfInBounds_toArray, List.set_cons_zero, List.set_cons_succ])
          refine LastN.one (i := 12) (by kernel_rfl) rfl (fun K hK => ?_)
          go_simp
          refine (CU.out).mono ?_
          rintro e w7 ⟨A', c', Cc, rfl, ho7, hs7, hm7, hbk7, hx7⟩
          obtain rfl := idx_of hs7 hm7
          have hnm : ¬ Blk A mb := fun hk => by
            obtain ⟨cur, hcur⟩ := HAC.out _ hk
            exact HG6.out.ne_cells hcur rfl
          have hnN : ¬ Blk A mbN := fun hk => by
            obtain ⟨cur, hcur⟩ := HAC.out _ hk
            exact HR6.out.gm.ne_cells hcur rfl
          have hnr : ¬ Blk A r2 := fun hk => by
            obtain ⟨cur, hcur⟩ := HAC.out _ hk
            exact HR6.out.ne_cells hcur rfl
          have hnb : ¬ Blk A b := fun hk => by
            obtain ⟨cur, hcur⟩ := HAC.out _ hk
            rw [HB6.out] at hcur
            injection hcur with hcur
            injection hcur with _ ht _
            exact absurd ht (by decide)
          have hg7 := HG6.out.kept (hx7.block _ hml6 hnm)
          obtain ⟨w8, p1, p2, p3⟩ := hg7.store (t := 72) keyedS Try.underlying72 (by simp only [maxLen]; omega) HKX.out (.slice A' (idxL L x).length c')
          have HS7 := Lib.hid (HST.out w7 (hx7.block _ hbl6 hnb) (hx7.block _ hml6 hnm))
          have t8 := p3.grown
          have hs67 := hx7.size
          have hs67' : w6.heap.size ≤ w7.heap.size := hs67
          have hk8 : ∀ j, j < w6.heap.size → ¬ Blk A j → j ≠ mb → w8.heap[j]? = w6.heap[j]? := fun j h1 h2 h3 => (t8.block j (by omega) (fun e => h3 (by injection e))).trans (hx7.block j h1 h2)
          have HR8 := Lib.hid (HR6.out.kept (hk8 _ hmN6 hnN hne) (hk8 _ hrl6 hnr (by omega)))
          have HG8 := Lib.hid p2
          have HB8 : Hid (w8.heap[b]? = some (.cells #[.map (some mb)] 74 (0, 0))) := Lib.hid ((hk8 _ hbl6 hnb hbm).trans HB6.out)
          have HO8 : Hid (Onx X wb w8) := Lib.hid ((HO6.out.drew.trans hx7 (fun _ h => h) (fun k h1 h2 => by
            rcases HAX.out k h1 with h3 | h3
            · exact h3
            · omega)).tr (Onx.turned p3 HXM.out))
          obtain ⟨G8, C8, hi8⟩ := IdxF.step (c := 0) (Y := fun j => X j ∨ r2 ≤ j) (Z := fun s => if left2 (sk s) = true then idxL L0 s else idxL L s) (W := w6.drew) (Z' := fun s => if (left2 (sk s) && !(sk s).sameKey (sk x)) = true then idxL L0 s else idxL L s) (m := (idxL L x).length) (s0 := x) (HI6.out.kept (W' := w6.drew) (fun _ _ => rfl)) (HG6.out.kept rfl) (fun k hk => .inr (by
            have hk' : w6.heap.size ≤ k := hk
            omega)) (fun s hs => by
            show (if (left2 (sk s) && !(sk s).sameKey (sk x)) = true then _ else _) = (if left2 (sk s) = true then _ else _)
            rw [sk_diff hs]; simp) (by
            show (if (left2 (sk x) && !(sk x).sameKey (sk x)) = true then _ else _) ≠ _
            rw [sk_same.2 rfl]
            simp only [Bool.not_true, Bool.and_false, Bool.false_eq_true, if_false]
            exact fun e => HNX.out ((idx_nil L x).1 e)) (by
            show _ = (if (left2 (sk x) && !(sk x).sameKey (sk x)) = true then _ else _ : List (List Value)).length
            rw [sk_same.2 rfl]; simp) (by
            rcases HA0.out with ⟨h1, h2⟩ | ⟨h1, h2⟩
            · exact .inl ⟨h1, HZX.out.trans h2⟩
            · exact .inr ⟨h1, HZN.out h2⟩) hx7 (by
            show w7.ownsRow 0 _ 8 _ _ (if (left2 (sk x) && !(sk x).sameKey (sk x)) = true then _ else _ : List (List Value)).flatten
            rw [sk_same.2 rfl]
            simpa using ho7) hbk7 p3
          have HI8 := Lib.hid hi8
          clear hi8 hk8 t8 hs67 hs67' hg7 p2 p3 hnm hnN hnr hnb ho7 hs7 hm7 hbk7 hx7
          refine hK.out _ _ (fun _ _ => HS7.out) (fun _ => ?_)
          clear hK K
          (try simp only [Act.put, List.getElem_toArray, List.getElem_cons_succ, List.getElem_cons_zero, List.setIfInBounds_toArray, List.set_cons_zero, List.set_cons_succ])
          refine LastN.one (i := 13) (by kernel_rfl) rfl (fun K hK => ?_)
          go_simp
          refine hK.out _ _ (fun _ h => absurd rfl h) (fun _ => ?_)
          clear hK K
          (try simp only [Act.put, List.getElem_toArray, List.getElem_cons_succ, List.getElem_cons_zero, List.setIfInBounds_toArray, List.set_cons_zero, List.set_cons_succ])
          refine LastN.done (by kernel_rfl) ?_ _
          refine NoPanic.normal ?_
          clear p1
          go_wp2_with fail
          go_roundw
          case rel => exact ⟨_, cnt6, n2 + 1, _, G8, C8, HR8, HG8, by omega, HI8, HO8, HB8⟩
          case measure => rw [HR8.out.left_eq, HRQ.out.left_eq]; exact hlt6

    · intro x c kl yd yp w3 cnt3 hkx hlx hvx hatx hrg3 hlt3 hg3 hs3 hen
      obtain ⟨hx, rfl⟩ := key_inv hkx
      have hs13 := HO.out.size
      have hk3 : ∀ j, j < w1.heap.size → j ≠ mb → w3.heap[j]? = w1.heap[j]? := fun j h1 h2 => (hg3.block j (by omega) (fun e => by injection e; omega)).trans (HO.out.block j h1 h2)
      have hgn3 := HGN.out.kept (hk3 _ hmNl hne)
      have hlk := hgn3.look_ok (t := 72) keyedS Try.underlying72 (z := .slice none 0 0) (Try.zeroValue65 w3) hkx
      obtain ⟨vN, hvN⟩ : ∃ z, (fN (sk x)).getD (.slice none 0 0) = z := ⟨_, rfl⟩
      obtain ⟨is, his⟩ : ∃ z, (fN (sk x)).isSome = z := ⟨_, rfl⟩
      rw [hvN, his] at hlk
      have HB3 : Hid (w3.heap[b]? = some (.cells #[.map (some mb)] 74 (0, 0))) := Lib.hid ((hk3 _ (lt_of_block HBX1.out) hbm).trans HBX1.out)
      have hc3 : w3.cell? ⟨b, 0, none⟩ = some (.map (some mb)) := by rw [cell_of_block HB3.out]; rfl
      have hbl3 := lt_of_block HB3.out
      have HO3 : Hid (Onx (fun j => j = mb) w1 w3) := Lib.hid ⟨hg3.os.trans HO.out.os, hg3.tape.trans HO.out.tape, hg3.output.trans HO.out.output, Nat.le_trans hs13 hg3.size, fun j h1 h2 => hk3 j h1 h2⟩
      cases is with
      | true =>
        have HF3 : Hid (∀ s, f' (sk s) = if ((left (sk s) && !(sk s).sameKey (sk x)) || (fN (sk s)).isSome) = true then f (sk s) else none) := Lib.hid (fun s => by
          rw [HF.out s]
          by_cases e : s = x
          · subst e; rw [his]; simp
          · rw [sk_diff e]; simp)
        have HR3 : Hid (GR w3 mb r1 1000 f' (fun z => left z && !z.sameKey (sk x)) cnt3) := Lib.hid ⟨D, hrg3, hS⟩
        clear hk3 hgn3 hvN his hatx
        go_wp2_with fail
        go_roundw
        case rel => exact ⟨_, cnt3, f', HR3, HF3, HO3⟩
        case measure => rw [HR3.out.left_eq, HR.out.left_eq]; exact hlt3
      | false =>
        clear hk3 hgn3 hvN hatx
        go_wp2_with (first
          | (at_delete; refine wpList_delete_ranges _ rfl _ _ 72 9 rfl 65 keyedS Try.underlying72 rawR mb r1 1000 _ _ _ rfl hrg3 (.string x) (sk x) rfl hkx ?_; intro w4 cnt4 hrg4 hle4 hturn4; go_frame)
          | fail)
        rw [strike_twice] at hrg4
        have HF4 : Hid (∀ s, updL f' (sk x) none (sk s) = if ((left (sk s) && !(sk s).sameKey (sk x)) || (fN (sk s)).isSome) = true then f (sk s) else none) := Lib.hid (fun s => by
          by_cases e : s = x
          · subst e; rw [updL_same _ (sk_key s), his, sk_same.2 rfl]; simp
          · rw [updL_other (sk_key x) (fun q => e (sk_inj q)), HF.out s, sk_diff e]; simp)
        have HR4 : Hid (GR w4 mb r1 1000 (updL f' (sk x) none) (fun z => left z && !z.sameKey (sk x)) cnt4) := Lib.hid ⟨_, hrg4, hS.del (sk_key x)⟩
        have HO4 : Hid (Onx (fun j => j = mb) w1 w4) := Lib.hid (HO3.out.tr (Onx.turned hturn4 rfl))
        go_roundw
        case rel => exact ⟨_, cnt4, _, HR4, HF4, HO4⟩
        case measure => rw [HR4.out.left_eq, HR.out.left_eq]; omega
end Go.Proofs.Ytnkhnbpopdmkhaa
