/-
  CONTRACTS of slices.IndexFunc and slices.DeleteFunc over stands, for a function value that answers as long as what it looks at stays.
-/
import Derived.Test.YtnkhnbpopdmkhaaGreatNIns
import Derived.Deep.CutRange
import Derived.Test.YtnkhnbpopdmkhaaGreatJHead
namespace Go.Proofs.YtnkhnbpopdmkhaaGreat
set_option linter.unusedVariables false
open Go.RowKit
open Pl (firstG firstG_none firstG_some)

/-- A function value that tells of the things of L, in every world that Q takes. -/
def TellsQ (Q : World → Prop) (L : List (List Value)) (K : Nat) (cap : Array Value) (f : List Value → Bool) : Prop :=
  (∀ (args : Array Value) (W : World), (callFunc K args).run Tryz.prog W = .ok (.enter K args) W) ∧
  ∀ W, Q W → ∀ e ∈ L, Calls Tryz.prog K (#[.agg e.toArray] ++ cap) W fun r W' => r = .returned (.bool (f e)) ∧ Below W.heap.size W W'
/-- A place, -1 where there is none. -/
def idxI : Option Nat → Int
  | some i => (i : Int)
  | none => -1
set_option maxRecDepth 100000 in
set_option maxHeartbeats 800000 in
theorem cindex (A : Option Addr) (n c K : Nat) (cap : Array Value) (f : List Value → Bool) (Q : World → Prop) (L : List (List Value)) (w : World) (hn : n = L.length) (hn63 : n ≤ 1000000) (hL : Things kstand L)
    (hr : Rd w w.heap.size A L.flatten) (hT : TellsQ Q L K cap f) (hq : ∀ W, Below w.heap.size w W → Q W) :
    Calls Tryz.prog 76 #[.slice A n c, .func (.func K) #[] cap] w fun e w' => e = .returned (.int .i64 (idxI (firstG f L))) ∧ Below w.heap.size w w' := by
  have HN := Lib.hid hn
  have HR := Lib.hid hr
  have HT := Lib.hid hT
  have HL := Lib.hid hL
  have HQ := Lib.hid hq
  have hent := hT.1
  have hk : kstand.length = 8 := by decide
  have hu := Tryz.underlying112
  have HSZ : Hid (∀ y, Fits kstand y → (Tryz.prog.info? 112).map (·.size) = some y.length) := Lib.hid (fun y hy => by rw [show (Tryz.prog.info? 112).map (·.size) = some 8 from by kernel_rfl, hy.length]; rfl)
  clear hn hr hT hL hq
  go_enter Tryz.func76, Tryz.ntmps76
  go_wp2_with fail
  go_loopw [8] (fun i wr => ∃ k : Nat, k ≤ n ∧ i = .int .i64 (k : Int) ∧ Hid (∀ j (hj : j < L.length), j < k → f L[j] = false) ∧ Hid (Below w.heap.size w wr)) (fun i _ => n - (intOf i).toNat)
  case atStart => exact ⟨0, by omega, rfl, Lib.hid (fun j hj h => by omega), Lib.hid (Below.refl _ _)⟩
  case round =>
    obtain ⟨k, hkn, rfl, hno, hbel⟩ := hrel
    by_cases hlt : k < n
    · have hl : k < L.length := by rw [← HN.out]; exact hlt
      obtain ⟨b, off, rfl, hb, hc⟩ := HR.out.thing HL.out (by rw [hk]; decide) hl
      have fx := HL.out _ (List.getElem_mem hl)
      have mx := List.getElem_mem hl
      have r1 := rangeAt_below (hc k hl) hb hbel.out
      rw [hk] at r1
      have hlb : b < wr.heap.size := Nat.lt_of_lt_of_le hb hbel.out.size
      have h1 : (0 : Int) ≤ (k : Int) := by omega
      have h2 : (k : Int) < (n : Int) := by omega
      obtain ⟨x, hx⟩ : ∃ x, L[k] = x := ⟨_, rfl⟩
      rw [hx] at fx r1 mx
      have HX := Lib.hid hx
      have HM := Lib.hid mx
      have HR1 := Lib.hid r1
      have HIX := Lib.hid (HSZ.out x fx)
      clear hc r1 hx fx hb mx
      cases hf : f x with
      | true =>
        have HFX := Lib.hid hf
        have HV : Hid (firstG f L = some k) := Lib.hid (firstG_some hl (fun j hj hjk => hno.out j hj hjk) (by rw [HX.out]; exact hf))
        clear hf
        go_wp2_with (first
          | (refine wpList_load_mid rfl 112 (.tmp 14) rfl b (off + k * 8) rfl x _ HR1.out hu rfl HIX.out ?_)
          | fail)
        refine (HT.out.2 _ (HQ.out _ hbel.out) x HM.out).mono ?_
        rintro e w1 ⟨rfl, hb1⟩
        have B1 := Lib.hid (hbel.out.trans (hb1.mono hbel.out.size))
        clear hb1
        have hf := HFX.out
        go_wp2_with fail
        go_ret
        exact ⟨by rw [HV.out]; rfl, B1.out⟩
      | false =>
        have HFX := Lib.hid hf
        have HNO : Hid (∀ j (hj : j < L.length), j < k + 1 → f L[j] = false) := Lib.hid (fun j hj hjk => by
          by_cases e : j = k
          · subst e; rw [HX.out]; exact hf
          · exact hno.out j hj (by omega))
        clear hf
        go_wp2_with (first
          | (refine wpList_load_mid rfl 112 (.tmp 14) rfl b (off + k * 8) rfl x _ HR1.out hu rfl HIX.out ?_)
          | fail)
        refine (HT.out.2 _ (HQ.out _ hbel.out) x HM.out).mono ?_
        rintro e w1 ⟨rfl, hb1⟩
        have B1 := Lib.hid (hbel.out.trans (hb1.mono hbel.out.size))
        clear hb1
        have hf := HFX.out
        go_wp2_with fail
        go_roundw
        case rel => exact ⟨k + 1, by omega, by go_num, HNO, B1⟩
        case measure => simp [intOf]; omega
    · have HV : Hid (firstG f L = none) := Lib.hid (firstG_none (fun j hj => hno.out j hj (by have := HN.out; omega)))
      go_wp2_with fail
      go_ret
      exact ⟨by rw [HV.out]; rfl, hbel.out⟩
/-- What is struck off of L, up to j: what stays lies ahead of i. -/
structure Del (f : List Value → Bool) (L M : List (List Value)) (i j : Nat) : Prop where
  len : M.length = L.length
  head : M.take i = (L.take j).filter (fun s => !f s)
  tail : M.drop j = L.drop j
  lt : i < j
  le : j ≤ L.length
theorem Del.start {f : List Value → Bool} {L : List (List Value)} {i : Nat} (h : firstG f L = some i) : Del f L L i (i + 1) := by
  have hi : i < L.length := Pl.firstG_lt h
  obtain ⟨_, h1, h2⟩ := List.findIdx?_eq_some_iff_getElem.1 h
  refine ⟨rfl, ?_, rfl, by omega, hi⟩
  rw [List.take_succ_eq_append_getElem hi, List.filter_append]
  have e1 : (L.take i).filter (fun s => !f s) = L.take i := by
    rw [List.filter_eq_self]
    intro a ha
    obtain ⟨k, hk, e⟩ := List.mem_iff_getElem.1 ha
    rw [List.getElem_take] at e
    rw [List.length_take] at hk
    have := h2 k (by omega)
    rw [e] at this
    simpa using this
  rw [e1]
  simp only [List.filter_cons, h1]
  simp
theorem Del.here {f : List Value → Bool} {L M : List (List Value)} {i j : Nat} (h : Del f L M i j) (hj : j < L.length) : ∃ hm : j < M.length, M[j] = L[j] := by
  have hm : j < M.length := by rw [h.len]; exact hj
  refine ⟨hm, ?_⟩
  have e := congrArg (fun l => l[0]?) h.tail
  simp only [List.getElem?_drop, Nat.add_zero] at e
  rw [List.getElem?_eq_getElem hm, List.getElem?_eq_getElem hj] at e
  injection e
theorem Del.strike {f : List Value → Bool} {L M : List (List Value)} {i j : Nat} (h : Del f L M i j) (hj : j < L.length) (hf : f L[j] = true) : Del f L M i (j + 1) := by
  refine ⟨h.len, ?_, ?_, by have := h.lt; omega, hj⟩
  · rw [h.head, List.take_succ_eq_append_getElem hj, List.filter_append]
    simp only [List.filter_cons, hf]
    simp
  · have := congrArg (List.drop 1) h.tail
    rwa [List.drop_drop, List.drop_drop] at this
theorem Del.stay {f : List Value → Bool} {L M : List (List Value)} {i j : Nat} (h : Del f L M i j) (hj : j < L.length) (hf : f L[j] = false) : Del f L (M.set i L[j]) (i + 1) (j + 1) := by
  have hi := h.lt
  have hm : i < M.length := by rw [h.len]; omega
  refine ⟨by rw [List.length_set]; exact h.len, ?_, ?_, by omega, hj⟩
  · rw [List.take_succ_eq_append_getElem (by rw [List.length_set]; exact hm), List.getElem_set_self, List.take_set_of_le (Nat.le_refl _), h.head, List.take_succ_eq_append_getElem hj, List.filter_append]
    simp only [List.filter_cons, hf]
    simp
  · rw [List.drop_set_of_lt (by omega)]
    have := congrArg (List.drop 1) h.tail
    rwa [List.drop_drop, List.drop_drop] at this
/-- The row A without what f takes. -/
def DelP (A : Option Addr) (c : Nat) (L : List (List Value)) (f : List Value → Bool) (w : World) (e : Ending) (w' : World) : Prop :=
  e = .returned (.slice A (L.filter (fun s => !f s)).length c) ∧ w'.ownsRow 0 112 8 (.slice A (L.filter (fun s => !f s)).length c) (L.filter (fun s => !f s)).length (L.filter (fun s => !f s)).flatten ∧ Onx (Blk A) w w'
theorem row_onx {w w' : World} {B T sz g n c : Nat} {xs : List Value} {X : Nat → Prop} (h : w.ownsRow B T sz (.slice (some ⟨g, 0, none⟩) n c) n xs) (ho : Onx X w w') (hX : ¬ X g) : w'.ownsRow B T sz (.slice (some ⟨g, 0, none⟩) n c) n xs := by
  refine ⟨h.1, h.2.imp id fun ⟨g', cap, cur, hv, hb, hh, hr⟩ => ?_⟩
  have hg : g = g' := by injection hv with hv _ _; injection hv with hv; injection hv
  subst hg
  exact ⟨g, cap, cur, hv, hb, (ho.block g (lt_of_block hh) hX).trans hh, hr⟩
theorem row_new {w : World} {B T sz n c : Nat} {v : Value} {xs : List Value} (h : w.ownsRow B T sz v n xs) (o : Obj) : (w.alloc o).ownsRow B T sz v n xs := h.alloc o
theorem own_ltS {w : World} {B T sz g n c : Nat} {xs : List Value} (h : w.ownsRow B T sz (.slice (some ⟨g, 0, none⟩) n c) n xs) : g < w.heap.size := by
  rcases h.2 with ⟨hv, _⟩ | ⟨g', cap, cur, hv, _, hh, _⟩
  · cases hv
  · injection hv with e1 e2 e3
    injection e1 with e1
    injection e1 with e1
    subst e1
    exact lt_of_block hh
theorem onx_cells (w : World) (g : Nat) : ∀ (o : Nat) (vs : List Value), Onx (fun k => k = g) w (w.setCells g o vs)
  | o, vs => by
    induction vs generalizing w o with
    | nil => exact Onx.refl _ w
    | cons v vs ih =>
      refine Onx.tr ?_ (ih (w.setCell ⟨g, o, none⟩ v) (o + 1))
      exact ⟨rfl, rfl, rfl, by simp [World.setCell], fun k _ hk => Below.heap_setCell _ _ _ _ hk⟩
set_option maxRecDepth 100000 in
set_option maxHeartbeats 1600000 in
theorem cdel_none (A : Option Addr) (n c K : Nat) (cap : Array Value) (f : List Value → Bool) (Q : World → Prop) (L : List (List Value)) (w : World) (hn : n = L.length) (hn63 : n ≤ 100000) (hL : Things kstand L)
    (ho : w.ownsRow 0 112 8 (.slice A n c) n L.flatten) (hT : TellsQ Q L K cap f) (hq : ∀ W, Below w.heap.size w W → Q W) (h0 : firstG f L = none) :
    Calls Tryz.prog 63 #[.slice A n c, .func (.func K) #[] cap] w (DelP A c L f w) := by
  have HF : Hid (L.filter (fun s => !f s) = L) := Lib.hid (by
    rw [List.filter_eq_self]
    intro a ha
    have := List.findIdx?_eq_none_iff.1 h0 a ha
    simpa using this)
  have HI := Lib.hid (cindex A n c K cap f Q L w hn (by omega) hL (Rd.of_own ho) hT hq)
  rw [h0] at HI
  have HN := Lib.hid hn
  have HO := Lib.hid ho
  clear hT hq hL ho h0 hn
  go_enter Tryz.func63, Tryz.ntmps63
  go_wp2_with fail
  refine HI.out.mono ?_
  rintro e w1 ⟨rfl, hb1⟩
  have HB := Lib.hid hb1
  have hm : idxI none = -1 := rfl
  clear hb1
  rw [hm]
  clear hm
  go_wp2_with fail
  go_ret
  refine ⟨by rw [HF.out, ← HN.out]; rfl, ?_, Onx.below HB.out (fun i h1 h2 => by omega)⟩
  rw [HF.out, ← HN.out]
  exact own_below HO.out HB.out
set_option maxRecDepth 100000 in
set_option maxHeartbeats 3200000 in
theorem cdel_some (g n c K i0 : Nat) (cap : Array Value) (f : List Value → Bool) (Q : World → Prop) (L : List (List Value)) (w : World) (hn : n = L.length) (hn63 : n ≤ 100000) (hL : Things kstand L)
    (ho : w.ownsRow 0 112 8 (.slice (some ⟨g, 0, none⟩) n c) n L.flatten) (hT : TellsQ Q L K cap f) (hq : ∀ W, Onx (fun k => k = g) w W → Q W) (h0 : firstG f L = some i0) :
    Calls Tryz.prog 63 #[.slice (some ⟨g, 0, none⟩) n c, .func (.func K) #[] cap] w (DelP (some ⟨g, 0, none⟩) c L f w) := by
  obtain ⟨ii, z0, hi0, hz0, hz1, hz2, hz3⟩ := info_thing (P := Tryz.prog) (T := 112) (sz := 8) (by kernel_rfl)
  have HI := Lib.hid (cindex (some ⟨g, 0, none⟩) n c K cap f Q L w hn (by omega) hL (Rd.of_own ho) hT (fun W hW => hq W (Onx.below hW (fun i h1 h2 => by omega))))
  rw [h0] at HI
  have HST := Lib.hid (Del.start h0)
  have hil : i0 < L.length := Pl.firstG_lt h0
  have HN := Lib.hid hn
  have HT := Lib.hid hT
  have hent := hT.1
  have HQ := Lib.hid hq
  have HL := Lib.hid hL
  have HO := Lib.hid ho
  have HGL : Hid (g < w.heap.size) := Lib.hid (own_ltS ho)
  have hu := Tryz.underlying112
  have huS := Tryz.underlying108
  have hin : i0 < n := by rw [hn]; exact hil
  have HSZ : Hid (∀ y, Fits kstand y → (Tryz.prog.info? 112).map (·.size) = some y.length) := Lib.hid (fun y hy => by rw [show (Tryz.prog.info? 112).map (·.size) = some 8 from by kernel_rfl, hy.length]; rfl)
  have HSA : Hid (∀ y, Fits kstand y → (Tryz.prog.info? 112).map (·.size) = some y.toArray.size) := Lib.hid (fun y hy => by rw [List.size_toArray]; exact HSZ.out y hy)
  clear hT hq hL ho h0 hn hil
  go_enter Tryz.func63, Tryz.ntmps63
  go_wp2_with fail
  refine HI.out.mono ?_
  rintro e w1 ⟨rfl, hb1⟩
  have HB1 : Hid (Onx (fun k => k = g) w w1) := Lib.hid (Onx.below hb1 (fun i h1 h2 => by omega))
  have HO1 := Lib.hid (own_below HO.out hb1)
  clear hb1
  have hm : idxI (some i0) = (i0 : Int) := rfl
  rw [hm]
  have hne0 : ¬ ((i0 : Int) = -1) := by omega
  have hne : ((i0 : Int) == -1) = false := by simp
  clear hne0
  clear hm
  go_wp2_with fail
  go_loopw [5, 6] (fun iv jv wr => ∃ (i j : Nat) (M : List (List Value)), j ≤ n ∧ i < j ∧ iv = .int .i64 (i : Int) ∧ jv = .int .i64 (j : Int) ∧ Hid (Del f L M i j) ∧ Hid (Things kstand M) ∧ Hid (wr.ownsRow 0 112 8 (.slice (some ⟨g, 0, none⟩) n c) n M.flatten) ∧ Hid (Onx (fun k => k = g) w wr)) (fun _ jv _ => n - (intOf jv).toNat)
  case atStart => exact ⟨i0, i0 + 1, L, by omega, by omega, rfl, by go_num, HST, HL, HO1, HB1⟩
  case round =>
    obtain ⟨i, j, M, hjn, hij, rfl, rfl, HD, HM, HOM, HW⟩ := hrel
    clear hne
    by_cases hlt : j < n
    · have hjl : j < L.length := by rw [← HN.out]; exact hlt
      obtain ⟨hm, hMj⟩ := HD.out.here hjl
      obtain ⟨x, hx⟩ : ∃ x, L[j] = x := ⟨_, rfl⟩
      have fx : Fits kstand x := hx ▸ HL.out _ (List.getElem_mem hjl)
      have mx : x ∈ L := hx ▸ List.getElem_mem hjl
      have hst : f x = true → Del f L M i (j + 1) := fun h => HD.out.strike hjl (by rw [hx]; exact h)
      have hsy : f x = false → Del f L (M.set i x) (i + 1) (j + 1) := fun h => by have := HD.out.stay hjl (by rw [hx]; exact h); rwa [hx] at this
      have hMn : n = M.length := HN.out.trans HD.out.len.symm
      have r1 := row_at HOM.out HM.out (by decide) hMn (p := j) (x := x) (by rw [List.getElem?_eq_getElem hm, hMj, hx])
      have HR1 := Lib.hid r1
      have HST2 := Lib.hid hst
      have HSY := Lib.hid hsy
      have HMX := Lib.hid mx
      have HFX := Lib.hid fx
      have HMN := Lib.hid hMn
      have HIX := Lib.hid (HSZ.out x fx)
      have HXL : Hid (x.length = 8) := Lib.hid fx.length
      have HX1 := Lib.hid (all_oneCell_toArray (fits_one fx))
      have HXZ : Hid ((#[.string ⟨#[]⟩, .string ⟨#[]⟩, .string ⟨#[]⟩, .int .i64 0, .string ⟨#[]⟩, .int .i64 0, .int .i64 0, .int .i64 0] : Array Value).size = x.toArray.size) := Lib.hid (by rw [List.size_toArray, List.size_toArray, HXL.out]; rfl)
      have hgl : g < wr.heap.size := Nat.lt_of_lt_of_le HGL.out HW.out.size
      have h1 : (0 : Int) ≤ (j : Int) := by omega
      have h2 : (j : Int) < (n : Int) := by omega
      clear hm hMj hx fx mx hst hsy hMn r1 hjl
      have HBX : Hid ((wr.alloc (.cells #[.string ⟨#[]⟩, .string ⟨#[]⟩, .string ⟨#[]⟩, .int .i64 0, .string ⟨#[]⟩, .int .i64 0, .int .i64 0, .int .i64 0] 112)).heap[wr.heap.size]? = some (.cells #[.string ⟨#[]⟩, .string ⟨#[]⟩, .string ⟨#[]⟩, .int .i64 0, .string ⟨#[]⟩, .int .i64 0, .int .i64 0, .int .i64 0] 112 (0, 0))) := Lib.hid (heap_alloc_new _ _)
      obtain ⟨w2, hw2⟩ : ∃ W, W = (wr.alloc (.cells #[.string ⟨#[]⟩, .string ⟨#[]⟩, .string ⟨#[]⟩, .int .i64 0, .string ⟨#[]⟩, .int .i64 0, .int .i64 0, .int .i64 0] 112)).setRow wr.heap.size x.toArray := ⟨_, rfl⟩
      have hb2 : Below wr.heap.size wr w2 := by rw [hw2]; exact setRow_below ((Below.refl _ _).alloc (Nat.le_refl _) _) (Nat.le_refl _) _
      have HB2 := Lib.hid hb2
      have HXB : Hid (w2.heap[wr.heap.size]? = some (.cells x.toArray 112 (0, 0))) := Lib.hid (by rw [hw2]; exact setRow_heap _ _ _ _ _ _ HBX.out)
      have HW2 : Hid (Onx (fun k => k = g) w w2) := Lib.hid (HW.out.trans (Onx.below hb2 (X := fun k => k = g) (fun i h1 h2 => by omega)) (fun _ h => h) (fun _ h _ => h))
      have HO2 := Lib.hid (own_below HOM.out hb2)
      have HWE := Lib.hid hw2
      clear hb2 hw2
      go_upto_region 8 with (first
        | (refine wpList_load_mid rfl 112 (.tmp 24) rfl g (j * 8) rfl x _ HR1.out hu rfl HIX.out ?_)
        | (refine wpList_store_row rfl 112 (.tmp 7) (.tmp 25) rfl wr.heap.size x.toArray rfl rfl _ _ HBX.out (HSA.out _ HFX.out) HXZ.out HX1.out ?_)
        | fail)
      rw [← HWE.out]
      clear hgl h1 h2
      go_wp2_with (first
        | (refine wpList_load_row rfl 112 (.tmp 7) rfl wr.heap.size rfl _ _ _ _ HXB.out hu rfl (HSA.out _ HFX.out) ?_)
        | fail)
      refine (HT.out.2 _ (HQ.out _ HW2.out) x HMX.out).mono ?_
      rintro e w3 ⟨rfl, hb3⟩
      have HXB3 := Lib.hid ((hb3.block _ (lt_of_block HXB.out)).trans HXB.out)
      have HO3 := Lib.hid (own_below HO2.out hb3)
      have HW3 : Hid (Onx (fun k => k = g) w w3) := Lib.hid (HW2.out.trans (Onx.below hb3 (X := fun k => k = g) (fun i h1 h2 => by omega)) (fun _ h => h) (fun _ h _ => h))
      clear hb3
      cases hf : f x with
      | true =>
        have HDN := Lib.hid (HST2.out hf)
        clear hf
        go_wp2_with fail
        go_roundw
        case rel => exact ⟨i, j + 1, M, by omega, by omega, rfl, by go_num, HDN, HM, HO3, HW3⟩
        case measure => simp [intOf]; omega
      | false =>
        have HDN := Lib.hid (HSY.out hf)
        clear hf
        have hml : ∀ e ∈ M, e.length = 8 := fun e he => HM.out.len e he
        have HTH : Hid (w3.there g (i * 8) x.toArray.size) := Lib.hid (by rw [List.size_toArray, HXL.out]; exact own_there HO3.out hml HMN.out (by omega))
        have hot := own_thing HO3.out (Nat.zero_le g) hml HXL.out (i := i) (by have := HMN.out; omega)
        have HO4 := Lib.hid hot.1
        have HW4 : Hid (Onx (fun k => k = g) w (w3.setCells g (i * 8) x)) := Lib.hid (HW3.out.trans (onx_cells w3 g (i * 8) x) (fun _ h => h) (fun _ h _ => h))
        have HM4 := Lib.hid (things_set HM.out HFX.out i)
        have hgl3 : g < w3.heap.size := Nat.lt_of_lt_of_le HGL.out HW3.out.size
        have h1 : (0 : Int) ≤ (i : Int) := by omega
        have h2 : (i : Int) < (n : Int) := by omega
        clear hml hot
        go_wp2_with (first
          | (refine wpList_load_row rfl 112 (.tmp 7) rfl wr.heap.size rfl _ _ _ _ HXB3.out hu rfl (HSA.out _ HFX.out) ?_)
          | (refine wpList_store_mid rfl 112 (.tmp 33) (.tmp 32) rfl g (i * 8) x.toArray rfl rfl HTH.out (HSA.out _ HFX.out) HX1.out ?_)
          | fail)
        go_roundw
        case rel => exact ⟨i + 1, j + 1, M.set i x, by omega, by omega, by go_num, by go_num, HDN, HM4, HO4, HW4⟩
        case measure => simp [intOf]; omega
    · obtain rfl : j = n := by omega
      obtain ⟨F, hF⟩ : ∃ F, L.filter (fun s => !f s) = F := ⟨_, rfl⟩
      have hMF : M.take i = F := by rw [HD.out.head, List.take_of_length_le (by rw [HN.out]; omega), hF]
      have hMl : M.length = j := HD.out.len.trans HN.out.symm
      have hFl : F.length = i := by rw [← hMF, List.length_take, hMl]; omega
      obtain ⟨cur, hcur, hnc, hmax, hcs, htk⟩ := row_cells HOM.out
      have hlen : cur.toList.length = c * 8 := by simpa using hcs
      have htl := fun W => run_tail (P := Tryz.prog) 108 112 8 ii huS hi0 hz1 g j c i (by omega) (by omega) W
      have hhd := fun W => run_head (P := Tryz.prog) 108 112 8 ii huS hi0 hz1 g j c i (by omega) W
      have hzc : (Builtin.zeroCells (.agg #[.string ⟨#[]⟩, .string ⟨#[]⟩, .string ⟨#[]⟩, .int .i64 0, .string ⟨#[]⟩, .int .i64 0, .int .i64 0, .int .i64 0] : Value).cells (j - i)).toList.length = (j - i) * 8 := by simp [Builtin.zeroCells, Value.cells]
      have hz1c : ∀ v ∈ (Builtin.zeroCells (.agg #[.string ⟨#[]⟩, .string ⟨#[]⟩, .string ⟨#[]⟩, .int .i64 0, .string ⟨#[]⟩, .int .i64 0, .int .i64 0, .int .i64 0] : Value).cells (j - i)).toList, v.oneCell' = true := fun v hv => by
        simp only [Builtin.zeroCells, Value.cells, Array.toList_map, List.mem_map] at hv
        obtain ⟨q, _, rfl⟩ := hv
        have h8 : q % 8 < 8 := Nat.mod_lt _ (by decide)
        generalize q % 8 = r at *
        match r, h8 with
        | 0, _ | 1, _ | 2, _ | 3, _ | 4, _ | 5, _ | 6, _ | 7, _ => rfl
      have hclr := fun ty => run_clear_big (P := Tryz.prog) wr 108 112 ty _ huS (Tryz.zeroValue112) g (i * 8) (j - i) (c - i) (by omega) cur 112 hcur (by rw [hzc, hcs]; omega) hz1c
      obtain ⟨C, hC⟩ : ∃ C, (cur.toList.take (i * 8) ++ (Builtin.zeroCells (.agg #[.string ⟨#[]⟩, .string ⟨#[]⟩, .string ⟨#[]⟩, .int .i64 0, .string ⟨#[]⟩, .int .i64 0, .int .i64 0, .int .i64 0] : Value).cells (j - i)).toList ++ cur.toList.drop (i * 8 + (Builtin.zeroCells (.agg #[.string ⟨#[]⟩, .string ⟨#[]⟩, .string ⟨#[]⟩, .int .i64 0, .string ⟨#[]⟩, .int .i64 0, .int .i64 0, .int .i64 0] : Value).cells (j - i)).toList.length)) = C := ⟨_, rfl⟩
      rw [hC] at hclr
      have hCl : C.length = c * 8 := by rw [← hC, List.length_append, List.length_append, List.length_take, List.length_drop, hzc, hlen]; omega
      have hCt : C.take (i * 8) = F.flatten := by
        have h1 : (cur.toList.take (i * 8)).length = i * 8 := by rw [List.length_take, hlen]; omega
        rw [← hC, List.append_assoc]
        have h2 := List.take_left (l₁ := cur.toList.take (i * 8)) (l₂ := (Builtin.zeroCells (.agg #[.string ⟨#[]⟩, .string ⟨#[]⟩, .string ⟨#[]⟩, .int .i64 0, .string ⟨#[]⟩, .int .i64 0, .int .i64 0, .int .i64 0] : Value).cells (j - i)).toList ++ cur.toList.drop (i * 8 + (Builtin.zeroCells (.agg #[.string ⟨#[]⟩, .string ⟨#[]⟩, .string ⟨#[]⟩, .int .i64 0, .string ⟨#[]⟩, .int .i64 0, .int .i64 0, .int .i64 0] : Value).cells (j - i)).toList.length))
        rw [h1] at h2
        rw [h2, ← hMF, (flat_parts M HM.out i (by omega)).1, ← htk, List.take_take, Nat.min_eq_left (by omega)]
      obtain ⟨W1, hW1⟩ : ∃ W, W = wr.setRow g C.toArray := ⟨_, rfl⟩
      have hg1 : W1.heap[g]? = some (.cells C.toArray 112 (0, 0)) := by rw [hW1]; exact setRow_heap _ _ _ _ _ _ hcur
      rw [← hW1] at hclr
      have HEND : Hid (DelP (some ⟨g, 0, none⟩) c L f w (.returned (.slice (some ⟨g, 0, none⟩) i c)) W1) := Lib.hid (by
        refine ⟨by rw [hF, hFl], ?_, ?_⟩
        · rw [hF, hFl]
          exact ⟨by rw [← hCt, List.length_take, hCl]; omega, .inr ⟨g, c, _, rfl, Nat.zero_le _, hg1, by omega, hmax, by rw [List.size_toArray, hCl], hCt⟩⟩
        · have e : Onx (fun k => k = g) wr W1 := by
            rw [hW1]
            exact ⟨rfl, rfl, rfl, by simp [World.setRow], fun k _ hk => setRow_other _ _ _ _ hk⟩
          exact (HW.out.trans e (fun _ h => h) (fun _ h _ => h)).mono (fun k hk _ => blk_some.2 hk))
      have hb1 : (0 : Int) ≤ (i : Int) := by omega
      have hb2 : (i : Int) ≤ (j : Int) := by omega
      clear hMF hMl hFl hF hcur hnc hmax hcs htk hlen hzc hz1c hC hCl hCt hW1 hg1
      go_wp2_with (at_builtin; refine wpList_clear_run _ rfl _ 108 rfl _ rfl (hclr _) ?_)
      go_ret
      exact HEND.out
end Go.Proofs.YtnkhnbpopdmkhaaGreat
