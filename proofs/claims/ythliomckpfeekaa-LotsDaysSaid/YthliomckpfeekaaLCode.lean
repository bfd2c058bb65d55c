/-
  CONTRACTS of the code's Day, inStock, suits, Fits; all three together.
-/
import Derived.Test.YthliomckpfeekaaLAdd
import Derived.Test.YthliomckpfeekaaLCon
namespace Go.Proofs.Ythliomckpfeekaa
set_option linter.unusedVariables false
open Go.RowKit
open Pl (It)

theorem wpList_house {P : Program} {ops : Array Oper} {rest : List Oper} {o : Oper} {a : Act} {w : World} {Q : Exit → Act → World → Prop} (ty : TypeId) (x : Operand) (ho : o.op = .load ty x) (dst : Option Tmp) (hdst : o.dst = dst) (g : Nat) (hx : a.eval x = .pointer (some ⟨g, 0, none⟩)) (t : TypeId) (cs : Array Value) (fr : Nat × Nat) (d : TypeDesc)
    (hg : w.heap[g]? = some (.cells cs t fr)) (hu : P.underlying ty = some d) (hd : (match d with | .struct _ | .array _ _ => true | _ => false) = true) (hi : (P.info? ty).map (·.size) = some cs.size) (hw : Region.wanted o (yielded ops a.tmps) = true) (h : wpList P ops Q rest (a.put dst (.agg cs)) w) : wpList P ops Q (o :: rest) a w := by
  subst hdst
  exact BigFrame.wpList_want hw fun K hK => wp_load_row ty x ho g hx t cs fr d hg hu hd hi (hK _ _ h)
theorem got_none {LL : List (List Value)} {s t : ByteArray} (h : (atL LL s t).isSome = false) : gotL LL s t = zeroL := by
  unfold gotL
  cases hc : atL LL s t with
  | none => rfl
  | some i => rw [hc] at h; cases h
set_option maxRecDepth 100000 in
theorem cday_any (h : Hs) (L : Nat → List (List Value)) (s t : ByteArray) (w : World) (hh : HT h L w) : Calls Try.prog 16 #[.agg h.cells, .string s, .string t] w fun e w' => e = .returned (.int .i64 (dayZ (L 1) s t)) ∧ Below w.heap.size w w' := by
  obtain ⟨a, c, z, hg, hz⟩ := lot_three hh s t
  have HFL := Lib.hid (fun W (hW : Below w.heap.size w W) => cfindL (hh.below hW) s t)
  have HDZ : Hid (dayZ (L 1) s t = if z = 0 then 100001 else z) := Lib.hid (by unfold dayZ; rw [hz])
  have hgn := fun hf => (congrArg expL (got_none (LL := L 1) (s := s) (t := t) hf)).symm.trans hz
  rw [hg] at HFL
  obtain ⟨b, hb⟩ : ∃ b, (atL (L 1) s t).isSome = b := ⟨_, rfl⟩
  rw [hb] at HFL hgn
  obtain ⟨d, hd⟩ : ∃ d, dayZ (L 1) s t = d := ⟨_, rfl⟩
  rw [hd] at HDZ ⊢
  clear hb hd hg hz hh
  have huh := Try.underlying37
  have HSH : Hid (∀ a : Hs, (Try.prog.info? 37).map (·.size) = some a.cells.size) := Lib.hid (fun a => by kernel_rfl)
  have HB0 : Hid (Below w.heap.size w (w.alloc (.cells h.cells 37))) := Lib.hid ((Below.refl _ _).alloc (Nat.le_refl _) _)
  have HH0 : Hid ((w.alloc (.cells h.cells 37)).heap[w.heap.size]? = some (.cells h.cells 37 (0, 0))) := Lib.hid (heap_alloc_new _ _)
  go_enter Try.func16, Try.ntmps16
  go_wp2_with (first
    | (refine wpList_load_row rfl 37 (.tmp 3) rfl w.heap.size rfl _ _ _ _ HH0.out huh rfl (HSH.out _) ?_)
    | fail)
  refine (HFL.out _ HB0.out).mono ?_
  rintro e w1 ⟨rfl, hb1⟩
  have B1 : Hid (Below w.heap.size w (w1.alloc (.cells #[.string a, .string c, .int .i64 z] 39))) := Lib.hid ((HB0.out.trans (hb1.mono HB0.out.size)).alloc (HB0.out.trans (hb1.mono HB0.out.size)).size _)
  clear hb1
  cases b with
  | false =>
    have hz : z = 0 := (hgn rfl).symm
    have HE : Hid (d = 100001) := Lib.hid (by rw [HDZ.out, if_pos hz])
    clear hgn
    subst hz
    go_wp2_with fail
    go_ret
    exact ⟨by rw [HE.out]; rfl, B1.out⟩
  | true =>
    clear hgn
    by_cases hz : z = 0
    · have HE : Hid (d = 100001) := Lib.hid (by rw [HDZ.out, if_pos hz])
      subst hz
      go_wp2_with fail
      go_ret
      exact ⟨by rw [HE.out]; rfl, B1.out⟩
    · have HE : Hid (d = z) := Lib.hid (by rw [HDZ.out, if_neg hz])
      go_wp2_with fail
      go_ret
      exact ⟨by rw [HE.out]; rfl, B1.out⟩

theorem quant_range {h : Hs} {L : Nat → List (List Value)} {w : World} (hh : HT h L w) {k : Nat} (hk : k < (L 4).length) : ∃ b off x0 x3 x5, h.A 4 = some ⟨b, off, none⟩ ∧ ∀ W, Below w.heap.size w W → W.rangeAt b (off + k * 6) [.string x0, .string (itemQ (L 4)[k]), .string (lotQ (L 4)[k]), .int .i64 x3, .int .i64 (qtyQ (L 4)[k]), .int .i64 x5] := by
  obtain ⟨_, _, ht, hr⟩ := hh 4 (by decide)
  obtain ⟨b, off, hA, hb, hc⟩ := hr.thing ht (by decide) hk
  obtain ⟨x0, x1, x2, hq⟩ := quant_cells (ht _ (List.getElem_mem hk))
  refine ⟨b, off, x0, x1, x2, hA, fun W hW => ?_⟩
  have r1 := rangeAt_below (hc k hk) hb hW
  rw [show (kOf 4).length = 6 from rfl] at r1
  rw [← hq]
  exact r1
set_option maxRecDepth 100000 in
set_option maxHeartbeats 1600000 in
theorem stock_any (h : Hs) (L : Nat → List (List Value)) (s t : ByteArray) (w : World) (hh : HT h L w) : Calls Try.prog 57 #[.agg h.cells, .string s, .string t] w fun e w' => e = .returned (.int .i64 (sumQ s t (L 4) 0)) ∧ Below w.heap.size w w' := by
  have HNQ : Hid (h.n 4 = (L 4).length) := Lib.hid (hh 4 (by decide)).1
  have hn6 := (hh 4 (by decide)).2.1
  have HHT := Lib.hid hh
  obtain ⟨r, hr⟩ : ∃ r, sumQ s t (L 4) 0 = r := ⟨_, rfl⟩
  rw [hr]
  have HR := Lib.hid hr
  obtain ⟨m, hm⟩ : ∃ m, h.n 4 = m := ⟨_, rfl⟩
  rw [hm] at HNQ hn6
  have HM := Lib.hid hm
  have HB0 : Hid (Below w.heap.size w (w.alloc (.cells h.cells 37))) := Lib.hid ((Below.refl _ _).alloc (Nat.le_refl _) _)
  have HH0 : Hid ((w.alloc (.cells h.cells 37)).heap[w.heap.size]? = some (.cells h.cells 37 (0, 0))) := Lib.hid (heap_alloc_new _ _)
  have c4 : (w.alloc (.cells h.cells 37)).cell? ⟨w.heap.size, 4, none⟩ = some (.slice (h.A 4) m (h.c 4)) := by rw [cell_of_block HH0.out, ← hm]; rfl
  have hlw : w.heap.size < (w.alloc (.cells h.cells 37)).heap.size := by simp
  clear hm hr hh
  go_enter Try.func57, Try.ntmps57
  go_wp2_with fail
  clear c4 hlw
  go_loopw [7, 13] (fun sv kv wr => ∃ k : Nat, k ≤ m ∧ kv = .int .i64 (k : Int) ∧ (∃ q : Int, sv = .int .i64 q ∧ Hid (q = sumQ s t ((L 4).take k) 0)) ∧ Hid (Below w.heap.size w wr)) (fun _ kv _ => m - (intOf kv).toNat)
  case atStart => exact ⟨0, by omega, rfl, ⟨0, rfl, Lib.hid rfl⟩, HB0⟩
  case round =>
    obtain ⟨k, hk, rfl, ⟨q, rfl, hq⟩, hw⟩ := hrel
    by_cases hlt : k < m
    · have hkl : k < (L 4).length := by rw [← HNQ.out]; exact hlt
      obtain ⟨b, off, x0, x3, x5, hA, hc⟩ := quant_range HHT.out hkl
      have hsn := sumQ_snoc s t (L 4) k hkl 0
      have hcr := hc wr hw.out
      obtain ⟨u, hu⟩ : ∃ u, (L 4)[k] = u := ⟨_, rfl⟩
      rw [hu] at hcr hsn
      rw [← hq.out] at hsn
      obtain ⟨ui, hui⟩ : ∃ y, itemQ u = y := ⟨_, rfl⟩
      obtain ⟨ul, hul⟩ : ∃ y, lotQ u = y := ⟨_, rfl⟩
      obtain ⟨uq, huq⟩ : ∃ y, qtyQ u = y := ⟨_, rfl⟩
      have hof : ofQ s t u = (Pl.eqv ui s && Pl.eqv ul t) := by unfold ofQ; rw [hui, hul]
      rw [huq, hof] at hsn
      rw [hui, hul, huq] at hcr
      have HSN := Lib.hid hsn
      have HCR := Lib.hid hcr
      have huq2 := Try.underlying53
      have HSQ : Hid ((Try.prog.info? 53).map (·.size) = some 6) := Lib.hid (by kernel_rfl)
      have HBN : Hid (Below w.heap.size w (wr.alloc (.cells #[.string x0, .string ui, .string ul, .int .i64 x3, .int .i64 uq, .int .i64 x5] 53))) := Lib.hid (hw.out.alloc hw.out.size _)
      rw [hA]
      clear hof hui hul huq hu hsn hcr hc hkl hA
      cases hp : Pl.eqv ui s with
      | false =>
        have hp' : (ui.toList == s.toList) = false := hp
        have HS1 : Hid (q = sumQ s t ((L 4).take (k + 1)) 0) := Lib.hid (by rw [HSN.out, hp]; rfl)
        clear hp
        go_wp2_with (first
          | (refine wpList_load_mid rfl 53 (.tmp 15) rfl b (off + k * 6) rfl [.string x0, .string ui, .string ul, .int .i64 x3, .int .i64 uq, .int .i64 x5] _ HCR.out huq2 rfl HSQ.out ?_)
          | fail)
        go_roundw
        case rel => exact ⟨k + 1, by omega, by go_num, ⟨q, rfl, HS1⟩, HBN⟩
        case measure => simp [intOf]; omega
      | true =>
        have hp' : (ui.toList == s.toList) = true := hp
        cases hp2 : Pl.eqv ul t with
        | false =>
          have hp2' : (ul.toList == t.toList) = false := hp2
          have HS1 : Hid (q = sumQ s t ((L 4).take (k + 1)) 0) := Lib.hid (by rw [HSN.out, hp, hp2]; rfl)
          clear hp hp2
          go_wp2_with (first
            | (refine wpList_load_mid rfl 53 (.tmp 15) rfl b (off + k * 6) rfl [.string x0, .string ui, .string ul, .int .i64 x3, .int .i64 uq, .int .i64 x5] _ HCR.out huq2 rfl HSQ.out ?_)
            | fail)
          go_roundw
          case rel => exact ⟨k + 1, by omega, by go_num, ⟨q, rfl, HS1⟩, HBN⟩
          case measure => simp [intOf]; omega
        | true =>
          have hp2' : (ul.toList == t.toList) = true := hp2
          have HS1 : Hid (wrap64 (q + uq) = sumQ s t ((L 4).take (k + 1)) 0) := Lib.hid (by rw [HSN.out, hp, hp2]; rfl)
          clear hp hp2
          go_wp2_with (first
            | (refine wpList_load_mid rfl 53 (.tmp 15) rfl b (off + k * 6) rfl [.string x0, .string ui, .string ul, .int .i64 x3, .int .i64 uq, .int .i64 x5] _ HCR.out huq2 rfl HSQ.out ?_)
            | fail)
          go_roundw
          case rel => exact ⟨k + 1, by omega, by go_num, ⟨_, rfl, HS1⟩, HBN⟩
          case measure => simp [intOf]; omega
    · obtain rfl : k = m := by omega
      have HV : Hid (q = r) := Lib.hid (by rw [hq.out, ← HR.out, List.take_of_length_le (by rw [HNQ.out]; omega)])
      go_wp2_with fail
      go_ret
      exact ⟨by rw [← HV.out]; rfl, hw.out⟩

theorem gotI_code {LI : List (List Value)} {s : ByteArray} {x : It} (h : (atI LI s).isSome = true) (hx : gotI LI s = x.cells) : x.code = s := by
  unfold gotI at hx
  cases hc : atI LI s with
  | none => rw [hc] at h; cases h
  | some i =>
    rw [hc] at hx
    rw [atI_first] at hc
    have hl := Pl.firstG_lt hc
    have ha := Pl.firstG_at hc hl
    simp only [List.getD_eq_getElem?_getD, List.getElem?_eq_getElem hl, Option.getD_some] at hx
    rw [hx] at ha
    exact (Pl.eqv_iff _ _).1 ha
set_option maxRecDepth 100000 in
set_option maxHeartbeats 1600000 in
/-- suits: may an item stand in a lot? -/
theorem suits_any (h : Hs) (L : Nat → List (List Value)) (x : It) (t : ByteArray) (w : World) (hh : HT h L w) : Calls Try.prog 56 #[.agg h.cells, .agg x.cells.toArray, .string t] w fun e w' => e = .returned (.bool (if x.lots = true then (atL (L 1) x.code t).isSome else decide (t.size = 0))) ∧ Below w.heap.size w w' := by
  obtain ⟨a, c, z, hg, _⟩ := lot_three hh x.code t
  have HFL := Lib.hid (fun W (hW : Below w.heap.size w W) => cfindL (hh.below hW) x.code t)
  obtain ⟨il, hil⟩ : ∃ b, (atL (L 1) x.code t).isSome = b := ⟨_, rfl⟩
  rw [hg, hil] at HFL
  rw [hil]
  unfold It.cells
  obtain ⟨lb, hlb⟩ : ∃ b, x.lots = b := ⟨_, rfl⟩
  rw [hlb]
  obtain ⟨v, hv⟩ : ∃ v, (if lb = true then il else decide (t.size = 0)) = v := ⟨_, rfl⟩
  rw [hv]
  have HV := Lib.hid hv
  clear hg hil hlb hh hv
  have huh := Try.underlying37
  have HSH : Hid (∀ a : Hs, (Try.prog.info? 37).map (·.size) = some a.cells.size) := Lib.hid (fun a => by kernel_rfl)
  have HB0 : Hid (Below w.heap.size w ((w.alloc (.cells h.cells 37)).alloc (.cells #[.string x.code, .string (x.nm 0), .int .i64 (x.fc 0), .string (x.nm 1), .int .i64 (x.fc 1), .string (x.nm 2), .int .i64 (x.fc 2), .string (x.nm 3), .int .i64 (x.fc 3), .int .i64 x.vol, .int .i64 x.wei, .bool lb, .bool x.serial, .bool x.chk] 59))) := Lib.hid (((Below.refl _ _).alloc (Nat.le_refl _) _).alloc (by simp) _)
  have HH0 : Hid (((w.alloc (.cells h.cells 37)).alloc (.cells #[.string x.code, .string (x.nm 0), .int .i64 (x.fc 0), .string (x.nm 1), .int .i64 (x.fc 1), .string (x.nm 2), .int .i64 (x.fc 2), .string (x.nm 3), .int .i64 (x.fc 3), .int .i64 x.vol, .int .i64 x.wei, .bool lb, .bool x.serial, .bool x.chk] 59)).heap[w.heap.size]? = some (.cells h.cells 37 (0, 0))) := Lib.hid ((Below.heap_alloc _ _ _ (by simp)).trans (heap_alloc_new _ _))
  cases lb with
  | false =>
    have hemp : t.toList.isEmpty = v := (empty_iff t).trans (by have := HV.out; rwa [if_neg (by decide)] at this)
    go_enter Try.func56, Try.ntmps56
    go_wp2_with fail
    go_ret
    exact ⟨rfl, HB0.out⟩
  | true =>
    have hiv : il = v := by have := HV.out; rwa [if_pos rfl] at this
    subst hiv
    go_enter Try.func56, Try.ntmps56
    go_wp2_with (first
      | (refine wpList_load_row rfl 37 (.tmp 3) rfl w.heap.size rfl _ _ _ _ HH0.out huh rfl (HSH.out _) ?_)
      | fail)
    refine (HFL.out _ HB0.out).mono ?_
    rintro e w1 ⟨rfl, hb1⟩
    have B1 := Lib.hid (HB0.out.trans (hb1.mono HB0.out.size))
    clear hb1
    go_wp2_with fail
    go_ret
    exact ⟨rfl, B1.out.alloc B1.out.size _⟩

theorem fitB_suit {ii il lb sb : Bool} {t : ByteArray} {q : Int} {v : Bool} (hv : (if lb = true then il else decide (t.size = 0)) = v) : fitB ii il lb sb t q = if ii = false then 12 else if v = false then 21 else if (sb && decide (1 < q)) = true then 22 else 0 := by
  unfold fitB
  cases ii with
  | false => rfl
  | true =>
    cases lb with
    | true => rw [if_pos rfl] at hv; subst hv; cases il <;> rfl
    | false =>
      rw [if_neg (by decide)] at hv
      by_cases h0 : t.size = 0
      · rw [decide_eq_true h0] at hv; subst hv; simp [h0]
      · rw [decide_eq_false h0] at hv; subst hv; simp [h0]
set_option maxRecDepth 100000 in
set_option maxHeartbeats 1600000 in
theorem cfits_any (h : Hs) (L : Nat → List (List Value)) (s t : ByteArray) (n : Int) (w : World) (hh : HT h L w) (hn : -9223372036854775808 ≤ n ∧ n ≤ 9223372036854775807) : Calls Try.prog 14 #[.agg h.cells, .string s, .string t, .int .i64 n] w fun e w' => e = .returned (.int .i64 (fitE (L 0) (L 1) (L 4) s t n : Nat)) ∧ Below w.heap.size w w' := by
  obtain ⟨x, hx⟩ := It.of (gotI_fits (hh 0 (by decide)).2.2.1 s)
  have HFI := Lib.hid (fun W (hW : Below w.heap.size w W) => cfindI (hh.below hW) s)
  have HSU := Lib.hid (fun W (hW : Below w.heap.size w W) => suits_any h L x t W (hh.below hW))
  have HST := Lib.hid (fun W (hW : Below w.heap.size w W) => stock_any h L s t W (hh.below hW))
  have hco := fun hf => gotI_code (LI := L 0) (s := s) hf hx
  obtain ⟨sb, hsb⟩ : ∃ b, x.serial = b := ⟨_, rfl⟩
  obtain ⟨ii, hii⟩ : ∃ b, (atI (L 0) s).isSome = b := ⟨_, rfl⟩
  obtain ⟨v, hv⟩ : ∃ b, (if x.lots = true then (atL (L 1) x.code t).isSome else decide (t.size = 0)) = b := ⟨_, rfl⟩
  have HV : Hid (fitE (L 0) (L 1) (L 4) s t n = if ii = false then 12 else if v = false then 21 else if (sb && decide (1 < sumQ s t (L 4) n)) = true then 22 else 0) := Lib.hid (by
    have h1 : fitE (L 0) (L 1) (L 4) s t n = fitB ii (atL (L 1) s t).isSome x.lots sb t (sumQ s t (L 4) n) := by
      unfold fitE fitB
      rw [hx, hii, show lotsI x.cells = x.lots from rfl, show serI x.cells = sb from hsb]
    rw [h1]
    cases ii with
    | false => rfl
    | true =>
      rw [hco hii] at hv
      exact fitB_suit hv)
  have HSF := Lib.hid (sumQ_from s t (L 4) n hn)
  rw [hx, hii] at HFI
  rw [hv] at HSU
  unfold It.cells at HFI HSU
  rw [hsb] at HFI HSU
  obtain ⟨r, hr⟩ : ∃ r, fitE (L 0) (L 1) (L 4) s t n = r := ⟨_, rfl⟩
  obtain ⟨q0, hq0⟩ : ∃ r, sumQ s t (L 4) 0 = r := ⟨_, rfl⟩
  obtain ⟨qn, hqn⟩ : ∃ r, sumQ s t (L 4) n = r := ⟨_, rfl⟩
  rw [hr, hqn] at HV
  rw [hq0] at HST
  rw [hq0, hqn] at HSF
  rw [hr]
  have hsf := HSF.out
  clear hr hx hii hsb hh hq0 hqn hv hco
  have huh := Try.underlying37
  have hui := Try.underlying59
  have HSH : Hid (∀ a : Hs, (Try.prog.info? 37).map (·.size) = some a.cells.size) := Lib.hid (fun a => by kernel_rfl)
  have HSI : Hid ((Try.prog.info? 59).map (·.size) = some 14) := Lib.hid (by kernel_rfl)
  have HB0 : Hid (Below w.heap.size w (w.alloc (.cells h.cells 37))) := Lib.hid ((Below.refl _ _).alloc (Nat.le_refl _) _)
  have HH0 : Hid ((w.alloc (.cells h.cells 37)).heap[w.heap.size]? = some (.cells h.cells 37 (0, 0))) := Lib.hid (heap_alloc_new _ _)
  go_enter Try.func14, Try.ntmps14
  go_wp2_with (first
    | (refine wpList_load_row rfl 37 (.tmp 4) rfl w.heap.size rfl _ _ _ _ HH0.out huh rfl (HSH.out _) ?_)
    | fail)
  refine (HFI.out _ HB0.out).mono ?_
  rintro e w1 ⟨rfl, hb1⟩
  have B1 := Lib.hid (HB0.out.trans (hb1.mono HB0.out.size))
  have HH1 := Lib.hid ((hb1.block _ (lt_of_block HH0.out)).trans HH0.out)
  clear hb1
  cases ii with
  | false =>
    have HE : Hid (r = 12) := Lib.hid (by rw [HV.out]; rfl)
    go_wp2_with fail
    go_ret
    exact ⟨by rw [HE.out]; rfl, B1.out.alloc B1.out.size _⟩
  | true =>
    have HXC : Hid ((w1.alloc (.cells #[.string x.code, .string (x.nm 0), .int .i64 (x.fc 0), .string (x.nm 1), .int .i64 (x.fc 1), .string (x.nm 2), .int .i64 (x.fc 2), .string (x.nm 3), .int .i64 (x.fc 3), .int .i64 x.vol, .int .i64 x.wei, .bool x.lots, .bool sb, .bool x.chk] 59)).heap[w1.heap.size]? = some (.cells #[.string x.code, .string (x.nm 0), .int .i64 (x.fc 0), .string (x.nm 1), .int .i64 (x.fc 1), .string (x.nm 2), .int .i64 (x.fc 2), .string (x.nm 3), .int .i64 (x.fc 3), .int .i64 x.vol, .int .i64 x.wei, .bool x.lots, .bool sb, .bool x.chk] 59 (0, 0))) := Lib.hid (heap_alloc_new _ _)
    obtain ⟨w2, hw2⟩ : ∃ w2, w2 = w1.alloc (.cells #[.string x.code, .string (x.nm 0), .int .i64 (x.fc 0), .string (x.nm 1), .int .i64 (x.fc 1), .string (x.nm 2), .int .i64 (x.fc 2), .string (x.nm 3), .int .i64 (x.fc 3), .int .i64 x.vol, .int .i64 x.wei, .bool x.lots, .bool sb, .bool x.chk] 59) := ⟨_, rfl⟩
    have B2 : Hid (Below w.heap.size w w2) := Lib.hid (by rw [hw2]; exact B1.out.alloc B1.out.size _)
    have HH2 : Hid (w2.heap[w.heap.size]? = some (.cells h.cells 37 (0, 0))) := Lib.hid (by rw [hw2]; exact (Below.heap_alloc w1 _ _ (lt_of_block HH1.out)).trans HH1.out)
    rw [← hw2] at HXC
    have HW2 := Lib.hid hw2
    have HKX : Hid (∀ W, Below w2.heap.size w2 W → W.cell? ⟨w1.heap.size, 12, none⟩ = some (.bool sb) ∧ w1.heap.size < W.heap.size) := Lib.hid (fun W hW => ⟨by rw [cell_of_block ((hW.block _ (lt_of_block HXC.out)).trans HXC.out)]; rfl, Nat.lt_of_lt_of_le (lt_of_block HXC.out) hW.size⟩)
    have HKH : Hid (∀ W, Below w2.heap.size w2 W → W.heap[w.heap.size]? = some (.cells h.cells 37 (0, 0)) ∧ Below w.heap.size w W) := Lib.hid (fun W hW => ⟨(hW.block _ (lt_of_block HH2.out)).trans HH2.out, B2.out.trans (hW.mono B2.out.size)⟩)
    clear hw2
    go_wp2_with (first
      | (refine wpList_load_row rfl 37 (.tmp 4) rfl w.heap.size rfl _ _ _ _ (HW2.out ▸ HH2.out) huh rfl (HSH.out _) ?_)
      | (refine wpList_load_row rfl 59 (.tmp 9) rfl w1.heap.size rfl _ _ _ _ (HW2.out ▸ HXC.out) hui rfl HSI.out ?_)
      | fail)
    rw [← HW2.out]
    refine (HSU.out _ B2.out).mono ?_
    rintro e w3 ⟨rfl, hb3⟩
    have H4 := Lib.hid hb3
    clear hb3
    cases v with
    | false =>
      have HE : Hid (r = 21) := Lib.hid (by rw [HV.out]; rfl)
      go_wp2_with fail
      go_ret
      exact ⟨by rw [HE.out]; rfl, (HKH.out _ H4.out).2⟩
    | true =>
      have HV2 : Hid (r = if (sb && decide (1 < qn)) = true then 22 else 0) := Lib.hid (by rw [HV.out]; rfl)
      obtain ⟨d12, hlx⟩ := HKX.out _ H4.out
      have HHW := Lib.hid (HKH.out _ H4.out).1
      cases sb with
      | false =>
        have HE : Hid (r = 0) := Lib.hid (by rw [HV2.out]; rfl)
        go_wp2_with fail
        go_ret
        exact ⟨by rw [HE.out]; rfl, (HKH.out _ H4.out).2⟩
      | true =>
        go_wp2_with (first
          | (refine wpList_house 37 (.tmp 4) rfl (some 28) rfl w.heap.size rfl _ _ _ _ HHW.out huh rfl (HSH.out _) (by kernel_rfl) ?_)
          | fail)
        refine (HST.out _ (HKH.out _ H4.out).2).mono ?_
        rintro e w5 ⟨rfl, hb5⟩
        have B5 := Lib.hid ((HKH.out _ H4.out).2.trans (hb5.mono (HKH.out _ H4.out).2.size))
        clear hb5
        by_cases h1 : 1 < qn
        · have HE : Hid (r = 22) := Lib.hid (by rw [HV2.out]; simp [h1])
          go_wp2_with fail
          go_ret
          exact ⟨by rw [HE.out]; rfl, B5.out⟩
        · have HE : Hid (r = 0) := Lib.hid (by rw [HV2.out]; simp [h1])
          go_wp2_with fail
          go_ret
          exact ⟨by rw [HE.out]; rfl, B5.out⟩

/-- The three together. -/
theorem cons : Cons := ⟨fun h L x w hh h6 hc hx hm => cadd_any h L x w hh h6 hc hx hm, fun h L s t n w hh hn => cfits_any h L s t n w hh hn, fun h L s t w hh => cday_any h L s t w hh⟩
end Go.Proofs.Ythliomckpfeekaa
