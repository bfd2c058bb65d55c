/-
  CONTRACT of the code's updated: a list in the code's order is made that of the stands there are now.
-/
import Derived.Test.YtnkhnbpopdmkhaaGreatNDel
import Derived.Test.YtnkhnbpopdmkhaaGreatNBs
import Derived.Carry
namespace Go.Proofs.YtnkhnbpopdmkhaaGreat
set_option linter.unusedVariables false
open Go.RowKit Go.Maps
open Pl (firstG firstG_none firstG_some)

theorem cdel_any (A : Option Addr) (n c K : Nat) (cap : Array Value) (f : List Value → Bool) (Q : World → Prop) (L : List (List Value)) (w : World) (hn : n = L.length) (hn63 : n ≤ 100000) (hL : Things kstand L)
    (ho : w.ownsRow 0 112 8 (.slice A n c) n L.flatten) (hT : TellsQ Q L K cap f) (hq : ∀ W, Onx (Blk A) w W → Q W) :
    Calls Tryz.prog 63 #[.slice A n c, .func (.func K) #[] cap] w (DelP A c L f w) := by
  cases h0 : firstG f L with
  | none => exact cdel_none A n c K cap f Q L w hn hn63 hL ho hT (fun W hW => hq W (Onx.below hW (fun i h1 h2 => by omega))) h0
  | some i0 =>
    have hi := Pl.firstG_lt h0
    obtain ⟨g, rfl⟩ := own_some ho (by omega)
    exact cdel_some g n c K i0 cap f Q L w hn hn63 hL ho hT (fun W hW => hq W (hW.mono (fun k hk _ => blk_some.2 hk))) h0
theorem bs_any (A : Option Addr) (n c : Nat) (L : List (List Value)) (x : List Value) (w : World) (hn : n = L.length) (hn6 : n ≤ 100000) (hL : Things kstand L) (hx : Fits kstand x) (hs : L.Pairwise (fun a b => lessS a b = true)) (ho : w.ownsRow 0 112 8 (.slice A n c) n L.flatten) :
    Calls Tryz.prog 65 #[.slice A n c, .agg x.toArray, .func (.func 34) #[] #[]] w (BsP L x w) := by
  by_cases h : n = 0
  · have hL0 : L = [] := List.length_eq_zero_iff.1 (by omega)
    subst h hL0
    exact cbs_nil A c x w hx
  · obtain ⟨g, rfl⟩ := own_some ho (by omega)
    exact cbs g n c L x w hn hn6 hL hx hs ho
/-! ### plain -/
/-- What the map of those that are still there says. -/
def fS (S : List (List Value)) : Lit → Option Value := fun l => if S.any (fun e => l.sameKey (sdk (sdOf e))) = true then some (.agg #[]) else none
theorem fS_nil : fS [] = fun _ => none := funext fun l => by simp [fS]
theorem fS_snoc (S : List (List Value)) (x : List Value) : updL (fS S) (sdk (sdOf x)) (some (.agg #[])) = fS (S ++ [x]) := funext fun l => by
  unfold updL fS
  simp only [List.any_append, List.any_cons, List.any_nil, Bool.or_false]
  cases l.sameKey (sdk (sdOf x)) <;> cases S.any (fun e => l.sameKey (sdk (sdOf e))) <;> rfl
def MildS (S : List (List Value)) : Prop := ∀ e ∈ S, (sdOf e).mild
theorem fS_iff {S : List (List Value)} (hS : Things kstand S) (hm : MildS S) {x : List Value} (fx : Fits kstand x) (mx : (sdOf x).mild) : (fS S (sdk (sdOf x))).isSome = true ↔ x ∈ S := by
  have h1 : S.any (fun e => (sdk (sdOf x)).sameKey (sdk (sdOf e))) = true ↔ x ∈ S := by
    rw [List.any_eq_true]
    constructor
    · rintro ⟨e, he, hk⟩
      have h2 := (WideAt.sameKey_iff (by trivial)).1 hk
      have h3 := sdk_inj mx (hm e he) h2
      have : x = e := by rw [sd_cells fx, sd_cells (hS e he), h3]
      rw [this]; exact he
    · intro h
      exact ⟨x, h, WideAt.sameKey_self (by trivial)⟩
  rw [← h1]
  unfold fS
  by_cases h : S.any (fun e => (sdk (sdOf x)).sameKey (sdk (sdOf e))) = true
  · rw [if_pos h]; exact ⟨fun _ => h, fun _ => rfl⟩
  · rw [if_neg h]; exact ⟨fun e => (by cases e), fun e => (h e).elim⟩
theorem fS_val (S : List (List Value)) (l : Lit) : (fS S l).getD (.agg #[]) = .agg #[] := by unfold fS; split <;> rfl
/-- x goes in where it belongs. -/
theorem ins_strict {C : List (List Value)} {x : List Value} {i : Nat} (hC : C.Pairwise (fun a b => lessS a b = true)) (hS : Spot C x i) (ht : ∀ e ∈ C, e = x ∨ lessS e x = true ∨ lessS x e = true) (hno : ¬ ∃ h : i < C.length, ordS C[i] x = 0) :
    (C.take i ++ x :: C.drop i).Pairwise (fun a b => lessS a b = true) := by
  have hab : ∀ k (h : k < C.length), i ≤ k → lessS x C[k] = true := fun k h hk => by
    have h1 := hS.above k h hk
    rcases ht _ (List.getElem_mem h) with e | e | e
    · exfalso
      have hi : i < C.length := by omega
      by_cases hki : k = i
      · subst hki
        exact hno ⟨hi, ordS_zero h1 (by rw [e]; exact lessS_weak.irr x)⟩
      · have h2 := List.pairwise_iff_getElem.1 hC i k hi h (by omega)
        rw [e] at h2
        rw [hS.above i hi (Nat.le_refl _)] at h2
        cases h2
    · rw [h1] at e; cases e
    · exact e
  have hsub : (C.take i ++ C.drop i).Pairwise (fun a b => lessS a b = true) := by rw [List.take_append_drop]; exact hC
  obtain ⟨p1, p2, p3⟩ := List.pairwise_append.1 hsub
  refine List.pairwise_append.2 ⟨p1, List.pairwise_cons.2 ⟨fun b hb => ?_, p2⟩, fun a ha b hb => ?_⟩
  · obtain ⟨k, hk, e⟩ := List.mem_iff_getElem.1 hb
    rw [List.getElem_drop] at e
    rw [List.length_drop] at hk
    rw [← e]
    exact hab _ (by omega) (by omega)
  · rcases List.mem_cons.1 hb with rfl | hb
    · obtain ⟨k, hk, e⟩ := List.mem_iff_getElem.1 ha
      rw [List.getElem_take] at e
      rw [List.length_take] at hk
      rw [← e]
      exact hS.below k (by omega) (by omega)
    · exact p3 a ha b hb
theorem ins_mem {C : List (List Value)} {x y : List Value} {i : Nat} : y ∈ C.take i ++ x :: C.drop i ↔ y ∈ C ∨ y = x := by
  have : y ∈ C ↔ y ∈ C.take i ∨ y ∈ C.drop i := by rw [← List.mem_append, List.take_append_drop]
  rw [this, List.mem_append, List.mem_cons]
  constructor
  · rintro (h | h | h)
    · exact .inl (.inl h)
    · exact .inr h
    · exact .inl (.inr h)
  · rintro ((h | h) | h)
    · exact .inl h
    · exact .inr (.inr h)
    · exact .inr (.inl h)
theorem found_mem {C : List (List Value)} {x : List Value} {i : Nat} (ht : ∀ e ∈ C, e = x ∨ lessS e x = true ∨ lessS x e = true) (h : ∃ h : i < C.length, ordS C[i] x = 0) : x ∈ C := by
  obtain ⟨h1, h2⟩ := h
  have h3 := ordS_neg C[i] x
  have h4 := ordS_pos C[i] x
  rw [h2] at h3 h4
  rcases ht _ (List.getElem_mem h1) with e | e | e
  · rw [← e]; exact List.getElem_mem h1
  · rw [e] at h3; simp at h3
  · rw [e] at h4; simp at h4
theorem Below.turnedX {B mb : Nat} {w a b : World} (h : Below B w a) (ht : a.mapTurned b mb) (hB : B ≤ mb) : Below B w b := by
  have hg := ht.grown
  exact h.trans ⟨hg.os, hg.tape, hg.output, hg.size, fun k hk => by
    by_cases hl : k < a.heap.size
    · exact hg.block k hl (fun e => by injection e with e; omega)
    · have e1 : a.heap[k]? = none := Array.getElem?_eq_none (by omega)
      obtain ⟨es, clock, es', clock', q1, q2⟩ := ht
      rw [q2]
      simp [ChangeMaps.setBlock, Array.getElem?_setIfInBounds]
      omega⟩
theorem makefS {P : Program} (fn : Fn) (first cap : Array Value) (w : World) : (Instr.makeFunc fn first cap).run P w = .ok (.func fn first cap) w := rfl
/-! ### the closure -/
/-- The box b5 holds the map mb of the stands N. -/
def Still (b5 mb : Nat) (N : List (List Value)) (W : World) : Prop := W.heap[b5]? = some (.cells #[.map (some mb)] 149 (0, 0)) ∧ GM sdT W mb N.length (fS N)
set_option maxRecDepth 100000 in
set_option maxHeartbeats 1600000 in
theorem cgone (b5 mb : Nat) (N : List (List Value)) (x : Sd) (W : World) (hS : Still b5 mb N W) (mx : x.mild) :
    Calls Tryz.prog 64 #[.agg x.cells.toArray, .pointer (some ⟨b5, 0, none⟩)] W fun e w' => e = .returned (.bool (!(fS N (sdk x)).isSome)) ∧ Below W.heap.size W w' := by
  obtain ⟨h1, h2⟩ := hS
  have hb5 := lt_of_block h1
  have hmb := h2.lt
  obtain ⟨W0, hW0⟩ : ∃ V, V = W.alloc (.cells x.cells.toArray 112) := ⟨_, rfl⟩
  have HB : Hid (Below W.heap.size W W0) := Lib.hid (by rw [hW0]; exact (Below.refl _ _).alloc (Nat.le_refl _) _)
  have HX : Hid (W0.heap[W.heap.size]? = some (.cells x.cells.toArray 112 (0, 0))) := Lib.hid (by rw [hW0]; exact heap_alloc_new _ _)
  have hg2 := h2.kept (HB.out.block mb hmb)
  have hlk := hg2.look_ok (t := 149) (Keyed.of_law sdLaw) Tryz.underlying149 (z := .agg #[]) (Tryz.zeroValue150 W0) (key_sd mx)
  rw [fS_val] at hlk
  obtain ⟨v, hv⟩ : ∃ v, (fS N (sdk x)).isSome = v := ⟨_, rfl⟩
  rw [hv] at hlk ⊢
  have hc5 : W0.cell? ⟨b5, 0, none⟩ = some (.map (some mb)) := by rw [cell_of_block ((HB.out.block b5 hb5).trans h1)]; rfl
  have hl5 : b5 < W0.heap.size := Nat.lt_of_lt_of_le hb5 HB.out.size
  have hu := Tryz.underlying112
  have HS8 : Hid ((Tryz.prog.info? 112).map (·.size) = some x.cells.toArray.size) := Lib.hid (by kernel_rfl)
  have HWE := Lib.hid hW0
  clear h1 h2 hg2 hv hb5 hmb hW0
  go_enter Tryz.func64, Tryz.ntmps64
  go_upto_region 1 with fail
  rw [← HWE.out]
  go_wp2_with (first
    | (refine wpList_load_row rfl 112 (.tmp 2) rfl W.heap.size rfl _ _ _ _ HX.out hu rfl HS8.out ?_)
    | fail)
  go_ret
  exact ⟨rfl, HB.out.alloc HB.out.size _⟩
/-- What updated hands back. -/
def UpdP (A0 : Option Addr) (N : List (List Value)) (w : World) (e : Ending) (w' : World) : Prop :=
  ∃ (A' : Option Addr) (c' : Nat) (C : List (List Value)), e = .returned (.slice A' C.length c') ∧ w'.ownsRow 0 112 8 (.slice A' C.length c') C.length C.flatten ∧ C.Pairwise (fun a b => lessS a b = true) ∧ (∀ x, x ∈ C ↔ x ∈ N) ∧ (∀ k, Blk A' k → Blk A0 k ∨ w.heap.size ≤ k) ∧ Onx (Blk A0) w w'
theorem own_blkS {w : World} {T sz n c k : Nat} {A : Option Addr} {xs : List Value} (h : w.ownsRow 0 T sz (.slice A n c) n xs) (hk : Blk A k) : k < w.heap.size := by
  obtain ⟨a, rfl, rfl⟩ := hk
  rcases h.2 with ⟨hv, _⟩ | ⟨g', cap, cur, hv, _, hh, _⟩
  · cases hv
  · injection hv with e1 e2 e3
    injection e1 with e1
    subst e1
    exact lt_of_block hh
theorem own_blkE {w w' : World} {T sz n c : Nat} {A : Option Addr} {xs : List Value} {X : Nat → Prop} (h : w.ownsRow 0 T sz (.slice A n c) n xs) (ho : Onx X w w') (hX : ∀ k, Blk A k → ¬ X k) : w'.ownsRow 0 T sz (.slice A n c) n xs := by
  refine ⟨h.1, h.2.imp id fun ⟨g', cap, cur, hv, hb, hh, hr⟩ => ?_⟩
  injection hv with e1 e2 e3
  subst e1
  exact ⟨g', cap, cur, by rw [e3], hb, (ho.block g' (lt_of_block hh) (hX g' ⟨_, rfl, rfl⟩)).trans hh, hr⟩
theorem rangeAt_onx {w w' : World} {b o : Nat} {cs : List Value} {X : Nat → Prop} (h : w.rangeAt b o cs) (ho : Onx X w w') (hb : b < w.heap.size) (hX : ¬ X b) : w'.rangeAt b o cs := fun j v hv => (World.cell?_of_block (a := ⟨b, o + j, none⟩) (ho.block b hb hX)).trans (h j v hv)
set_option maxRecDepth 100000 in
set_option maxHeartbeats 6400000 in
theorem cupd (A0 A1 : Option Addr) (n0 c0 n1 c1 : Nat) (L N : List (List Value)) (w : World) (hn0 : n0 = L.length) (h06 : n0 ≤ 1000) (hn1 : n1 = N.length) (h16 : n1 ≤ 1000) (hL : Things kstand L) (hN : Things kstand N) (mL : MildS L) (mN : MildS N)
    (hs : L.Pairwise (fun a b => lessS a b = true)) (ht : ∀ a ∈ N, ∀ b ∈ N, a = b ∨ lessS a b = true ∨ lessS b a = true) (ho : w.ownsRow 0 112 8 (.slice A0 n0 c0) n0 L.flatten) (hr : Rd w w.heap.size A1 N.flatten) (hA : ∀ k, Blk A1 k → ¬ Blk A0 k) :
    Calls Tryz.prog 40 #[.slice A0 n0 c0, .slice A1 n1 c1] w (UpdP A0 N w) := by
  have HN1 := Lib.hid hn1
  have HNT := Lib.hid hN
  have HMN := Lib.hid mN
  have HRD := Lib.hid hr
  have HTT := Lib.hid ht
  have HAA := Lib.hid hA
  have HO := Lib.hid ho
  have HL4 := Lib.hid (And.intro hn0 hL)
  have HML := Lib.hid mL
  have HSS := Lib.hid hs
  have hu := Tryz.underlying112
  have hmm := @run_makeMap Tryz.prog
  have hmf := @makefS Tryz.prog
  have HSZ : Hid (∀ y, Fits kstand y → (Tryz.prog.info? 112).map (·.size) = some y.length) := Lib.hid (fun y hy => by rw [show (Tryz.prog.info? 112).map (·.size) = some 8 from by kernel_rfl, hy.length]; rfl)
  have HSA : Hid (∀ y, Fits kstand y → (Tryz.prog.info? 112).map (·.size) = some y.toArray.size) := Lib.hid (fun y hy => by rw [List.size_toArray]; exact HSZ.out y hy)
  obtain ⟨W0, hW0⟩ : ∃ W, W = (w.alloc (.map #[] 0)).alloc (.cells #[.map (some w.heap.size)] 149) := ⟨_, rfl⟩
  have HB0 : Hid (Below w.heap.size w W0) := Lib.hid (by rw [hW0]; exact ((Below.refl _ _).alloc (Nat.le_refl _) _).alloc (by simp) _)
  have HS0 : Hid (W0.heap.size = w.heap.size + 2) := Lib.hid (by rw [hW0]; simp)
  have HGM0 : Hid (GM sdT W0 w.heap.size 0 (fS [])) := Lib.hid (by
    have hg := GM.made sdT w 0
    rw [fS_nil]
    exact hg.kept (by rw [hW0]; exact Below.heap_alloc _ _ _ (by simp)))
  have HC0 : Hid (W0.heap[w.heap.size + 1]? = some (.cells #[.map (some w.heap.size)] 149 (0, 0))) := Lib.hid (by
    rw [hW0]
    have := heap_alloc_new (w.alloc (.map #[] 0)) (.cells #[.map (some w.heap.size)] 149)
    simpa using this)
  have HWE := Lib.hid hW0
  clear hn1 hN mN hr ht hA ho hL mL hs hW0 hn0
  go_enter Tryz.func40, Tryz.ntmps40
  go_wp2_with fail
  rw [← HWE.out]
  go_loopw [15] (fun iv wr => ∃ k : Nat, k ≤ n1 ∧ iv = .int .i64 (k : Int) ∧ Hid (GM sdT wr w.heap.size k (fS (N.take k))) ∧ Hid (wr.heap[w.heap.size + 1]? = some (.cells #[.map (some w.heap.size)] 149 (0, 0))) ∧ Hid (Below w.heap.size w wr)) (fun iv _ => n1 - (intOf iv).toNat)
  case atStart => exact ⟨0, by omega, rfl, HGM0, HC0, HB0⟩
  case round =>
    obtain ⟨k, hk, rfl, HGM, HC5, HB⟩ := hrel
    by_cases hlt : k < n1
    · have hkl : k < N.length := by rw [← HN1.out]; exact hlt
      obtain ⟨b, off, rfl, hb, hcs⟩ := HRD.out.thing HNT.out (by decide) hkl
      have r1 := rangeAt_below (hcs k hkl) hb HB.out
      have hxe := sd_cells (HNT.out _ (List.getElem_mem hkl))
      have hmx := HMN.out _ (List.getElem_mem hkl)
      have htk : N.take (k + 1) = N.take k ++ [N[k]] := List.take_succ_eq_append_getElem hkl
      obtain ⟨X, hX⟩ : ∃ X, sdOf N[k] = X := ⟨_, rfl⟩
      rw [hX] at hxe hmx
      rw [hxe] at r1 htk
      have hof : off + k * kstand.length = off + k * 8 := rfl
      rw [hof] at r1
      have HR1 := Lib.hid r1
      have HTK := Lib.hid htk
      have HMX := Lib.hid hmx
      have hbl : b < wr.heap.size := Nat.lt_of_lt_of_le hb HB.out.size
      have h1 : (0 : Int) ≤ (k : Int) := by omega
      have h2 : (k : Int) < (n1 : Int) := by omega
      clear hkl hb hcs r1 hxe hmx htk hX hof
      have HSX : Hid ((Tryz.prog.info? 112).map (·.size) = some X.cells.length) := Lib.hid (by kernel_rfl)
      have HSXA : Hid ((Tryz.prog.info? 112).map (·.size) = some X.cells.toArray.size) := Lib.hid (by kernel_rfl)
      have HX1 : Hid (X.cells.toArray.all (·.oneCell') = true) := Lib.hid (all_oneCell_toArray (fits_one X.fits))
      have HBX : Hid ((wr.alloc (.cells #[.string ⟨#[]⟩, .string ⟨#[]⟩, .string ⟨#[]⟩, .int .i64 0, .string ⟨#[]⟩, .int .i64 0, .int .i64 0, .int .i64 0] 112)).heap[wr.heap.size]? = some (.cells #[.string ⟨#[]⟩, .string ⟨#[]⟩, .string ⟨#[]⟩, .int .i64 0, .string ⟨#[]⟩, .int .i64 0, .int .i64 0, .int .i64 0] 112 (0, 0))) := Lib.hid (heap_alloc_new _ _)
      obtain ⟨w1, hw1⟩ : ∃ W, W = (wr.alloc (.cells #[.string ⟨#[]⟩, .string ⟨#[]⟩, .string ⟨#[]⟩, .int .i64 0, .string ⟨#[]⟩, .int .i64 0, .int .i64 0, .int .i64 0] 112)).setRow wr.heap.size X.cells.toArray := ⟨_, rfl⟩
      have hb1 : Below wr.heap.size wr w1 := by rw [hw1]; exact setRow_below ((Below.refl _ _).alloc (Nat.le_refl _) _) (Nat.le_refl _) _
      have HXB : Hid (w1.heap[wr.heap.size]? = some (.cells X.cells.toArray 112 (0, 0))) := Lib.hid (by rw [hw1]; exact setRow_heap _ _ _ _ _ _ HBX.out)
      have hgm1 : GM sdT w1 w.heap.size k (fS (N.take k)) := HGM.out.kept (hb1.block _ HGM.out.lt)
      have hc51 := (hb1.block _ (lt_of_block HC5.out)).trans HC5.out
      obtain ⟨w2, hrun, hg2, ht2⟩ := hgm1.store (t := 149) (Keyed.of_law sdLaw) Tryz.underlying149 (by unfold maxLen; omega) (key_sd HMX.out) (.agg #[])
      have hfx : updL (fS (N.take k)) (sdk X) (some (.agg #[])) = fS (N.take (k + 1)) := by
        rw [HTK.out]; exact fS_snoc (N.take k) X.cells
      rw [hfx] at hg2
      have HG2 := Lib.hid hg2
      have HB2 : Hid (Below w.heap.size w w2) := Lib.hid (Below.turnedX (HB.out.trans (hb1.mono HB.out.size)) ht2 (Nat.le_refl _))
      have HC2 : Hid (w2.heap[w.heap.size + 1]? = some (.cells #[.map (some w.heap.size)] 149 (0, 0))) := Lib.hid ((ht2.grown.block _ (lt_of_block hc51) (fun e => by injection e with e; omega)).trans hc51)
      have c5 : w1.cell? ⟨w.heap.size + 1, 0, none⟩ = some (.map (some w.heap.size)) := by rw [cell_of_block hc51]; rfl
      have l5 := lt_of_block hc51
      have HWE1 := Lib.hid hw1
      clear hw1 hb1 hgm1 hg2 ht2 hfx hc51
      go_upto_region 5 with (first
        | (refine wpList_load_mid rfl 112 (.tmp 17) rfl b (off + k * 8) rfl X.cells _ HR1.out hu rfl HSX.out ?_)
        | (refine wpList_store_row rfl 112 (.tmp 7) (.tmp 18) rfl wr.heap.size X.cells.toArray rfl rfl _ _ HBX.out HSXA.out rfl HX1.out ?_)
        | fail)
      rw [← HWE1.out]
      clear hbl h1 h2
      go_wp2_with (first
        | (refine wpList_load_row rfl 112 (.tmp 7) rfl wr.heap.size rfl _ _ _ _ HXB.out hu rfl HSXA.out ?_)
        | fail)
      go_roundw
      case rel => exact ⟨k + 1, by omega, by go_num, HG2, HC2, HB2⟩
      case measure => simp [intOf]; omega
    · obtain rfl : k = n1 := by omega
      clear hlt hk
      have htk : N.take k = N := List.take_of_length_le (by rw [HN1.out]; omega)
      have hnk : k = N.length := HN1.out
      have HST0 : Hid (Still (w.heap.size + 1) w.heap.size N wr) := Lib.hid ⟨HC5.out, by have := HGM.out; rwa [htk, hnk] at this⟩
      have HTE : Hid (TellsQ (Still (w.heap.size + 1) w.heap.size N) L 64 #[.pointer (some ⟨w.heap.size + 1, 0, none⟩)] (fun s => !(fS N (sdk (sdOf s))).isSome)) := Lib.hid ⟨fun args W => by kernel_rfl, fun W hW e he => by
        have := cgone (w.heap.size + 1) w.heap.size N (sdOf e) W hW (HML.out e he)
        rw [← sd_cells (HL4.out.2 e he)] at this
        exact this⟩
      have HOW := Lib.hid (own_below HO.out HB.out)
      have hnb : ∀ q, Blk A0 q → q < w.heap.size := fun q hq => own_blkS HO.out hq
      have HNB := Lib.hid hnb
      have hq : ∀ W, Onx (Blk A0) wr W → Still (w.heap.size + 1) w.heap.size N W := fun W hW => by
        obtain ⟨s1, s2⟩ := HST0.out
        exact ⟨(hW.block _ (lt_of_block s1) (fun hb => by have := hnb _ hb; omega)).trans s1, s2.kept (hW.block _ s2.lt (fun hb => by have := hnb _ hb; omega))⟩
      have HQ := Lib.hid hq
      clear htk hnb hq
      go_wp2_with fail
      refine (cdel_any A0 n0 c0 _ _ _ _ L _ HL4.out.1 (by omega) HL4.out.2 HOW.out HTE.out HQ.out).mono ?_
      rintro e w1 ⟨rfl, ho1, hx1⟩
      obtain ⟨F, hF⟩ : ∃ F, L.filter (fun s => !(!(fS N (sdk (sdOf s))).isSome)) = F := ⟨_, rfl⟩
      rw [hF] at ho1
      rw [hF]
      have HFM : Hid (∀ y, y ∈ F ↔ y ∈ L ∧ y ∈ N) := Lib.hid (fun y => by
        rw [← hF, List.mem_filter]
        constructor
        · rintro ⟨h1, h2⟩
          simp only [Bool.not_not] at h2
          exact ⟨h1, (fS_iff HNT.out HMN.out (HL4.out.2 y h1) (HML.out y h1)).1 h2⟩
        · rintro ⟨h1, h2⟩
          simp only [Bool.not_not]
          exact ⟨h1, (fS_iff HNT.out HMN.out (HL4.out.2 y h1) (HML.out y h1)).2 h2⟩)
      have HFS : Hid (F.Pairwise (fun a b => lessS a b = true)) := Lib.hid (by rw [← hF]; exact HSS.out.filter _)
      have HFL : Hid (F.length ≤ L.length) := Lib.hid (by rw [← hF]; exact List.length_filter_le _ _)
      have HO1 := Lib.hid ho1
      have HW1 : Hid (Onx (Blk A0) w w1) := Lib.hid ((Onx.below HB.out (X := Blk A0) (fun i h1 h2 => by omega)).trans hx1 (fun _ h => h) (fun _ h _ => h))
      clear hF ho1 hx1 HST0 HTE HQ HOW HGM HC5
      go_wp2_with fail
      go_loopw [0, 28] (fun lv iv wr => ∃ (q m c' : Nat) (A' : Option Addr) (C : List (List Value)), q ≤ k ∧ iv = .int .i64 (q : Int) ∧ lv = .slice A' m c' ∧ m ≤ 1000 + q ∧ Hid (m = C.length) ∧ Hid (C.length ≤ L.length + q) ∧ Hid (wr.ownsRow 0 112 8 (.slice A' m c') m C.flatten) ∧ Hid (C.Pairwise (fun a b => lessS a b = true)) ∧ Hid (∀ y, y ∈ C ↔ y ∈ F ∨ y ∈ N.take q) ∧ Hid (∀ j, Blk A' j → Blk A0 j ∨ w.heap.size ≤ j) ∧ Hid (Onx (Blk A0) w wr)) (fun _ iv _ => k - (intOf iv).toNat)
      case atStart => exact ⟨0, F.length, c0, A0, F, by omega, rfl, rfl, by have h1 := HFL.out; have h2 := HL4.out.1; omega, Lib.hid rfl, Lib.hid (by have := HFL.out; omega), HO1, HFS, Lib.hid (fun y => by simp), Lib.hid (fun j h => .inl h), HW1⟩
      case round =>
        obtain ⟨q, m, c', A', C, hqk, rfl, rfl, hm6, HMC, HCL, HOC, HCS, HCM, HCB, HW⟩ := hrel
        by_cases hlt : q < k
        · have hql : q < N.length := by rw [← hnk]; exact hlt
          obtain ⟨b, off, rfl, hb, hcs⟩ := HRD.out.thing HNT.out (by decide) hql
          have r1 := rangeAt_onx (hcs q hql) HW.out hb (HAA.out b ⟨_, rfl, rfl⟩)
          have fx := HNT.out _ (List.getElem_mem hql)
          have mx := List.getElem_mem hql
          have htk : N.take (q + 1) = N.take q ++ [N[q]] := List.take_succ_eq_append_getElem hql
          obtain ⟨x, hx⟩ : ∃ x, N[q] = x := ⟨_, rfl⟩
          rw [hx] at r1 fx mx htk
          have hof : off + q * kstand.length = off + q * 8 := rfl
          rw [hof] at r1
          have HCN : Hid (∀ y ∈ C, y ∈ N) := Lib.hid (fun y hy => by
            rcases (HCM.out y).1 hy with h | h
            · exact ((HFM.out y).1 h).2
            · exact List.mem_of_mem_take h)
          have HCT : Hid (Things kstand C) := Lib.hid (fun y hy => HNT.out y (HCN.out y hy))
          have HTX : Hid (∀ e ∈ C, e = x ∨ lessS e x = true ∨ lessS x e = true) := Lib.hid (fun e he => HTT.out e (HCN.out e he) x mx)
          have HR1 := Lib.hid r1
          have HFX := Lib.hid fx
          have HTK := Lib.hid htk
          have HXL : Hid (x.length = 8) := Lib.hid fx.length
          have HIX := Lib.hid (HSZ.out x fx)
          have HX1 := Lib.hid (all_oneCell_toArray (fits_one fx))
          have HXZ : Hid ((#[.string ⟨#[]⟩, .string ⟨#[]⟩, .string ⟨#[]⟩, .int .i64 0, .string ⟨#[]⟩, .int .i64 0, .int .i64 0, .int .i64 0] : Array Value).size = x.toArray.size) := Lib.hid (by rw [List.size_toArray, List.size_toArray, HXL.out]; rfl)
          have hbl : b < wr.heap.size := Nat.lt_of_lt_of_le hb HW.out.size
          have h1 : (0 : Int) ≤ (q : Int) := by omega
          have h2 : (q : Int) < (k : Int) := by omega
          clear hql hb hcs r1 fx mx htk hx hof
          have HBX : Hid ((wr.alloc (.cells #[.string ⟨#[]⟩, .string ⟨#[]⟩, .string ⟨#[]⟩, .int .i64 0, .string ⟨#[]⟩, .int .i64 0, .int .i64 0, .int .i64 0] 112)).heap[wr.heap.size]? = some (.cells #[.string ⟨#[]⟩, .string ⟨#[]⟩, .string ⟨#[]⟩, .int .i64 0, .string ⟨#[]⟩, .int .i64 0, .int .i64 0, .int .i64 0] 112 (0, 0))) := Lib.hid (heap_alloc_new _ _)
          obtain ⟨w2, hw2⟩ : ∃ W, W = (wr.alloc (.cells #[.string ⟨#[]⟩, .string ⟨#[]⟩, .string ⟨#[]⟩, .int .i64 0, .string ⟨#[]⟩, .int .i64 0, .int .i64 0, .int .i64 0] 112)).setRow wr.heap.size x.toArray := ⟨_, rfl⟩
          have hb2 : Below wr.heap.size wr w2 := by rw [hw2]; exact setRow_below ((Below.refl _ _).alloc (Nat.le_refl _) _) (Nat.le_refl _) _
          have HXB : Hid (w2.heap[wr.heap.size]? = some (.cells x.toArray 112 (0, 0))) := Lib.hid (by rw [hw2]; exact setRow_heap _ _ _ _ _ _ HBX.out)
          have HO2 := Lib.hid (own_below HOC.out hb2)
          have HW2 : Hid (Onx (Blk A0) w w2) := Lib.hid (HW.out.trans (Onx.below hb2 (X := Blk A0) (fun i h1 h2 => by omega)) (fun _ h => h) (fun _ h _ => h))
          have HWE2 := Lib.hid hw2
          clear hw2 hb2
          go_upto_region 11 with (first
            | (refine wpList_load_mid rfl 112 (.tmp 30) rfl b (off + q * 8) rfl x _ HR1.out hu rfl HIX.out ?_)
            | (refine wpList_store_row rfl 112 (.tmp 9) (.tmp 31) rfl wr.heap.size x.toArray rfl rfl _ _ HBX.out (HSA.out _ HFX.out) HXZ.out HX1.out ?_)
            | fail)
          rw [← HWE2.out]
          clear hbl h1 h2
          go_wp2_with (first
            | (refine wpList_load_row rfl 112 (.tmp 9) rfl wr.heap.size rfl _ _ _ _ HXB.out hu rfl (HSA.out _ HFX.out) ?_)
            | fail)
          refine (bs_any A' m c' C x _ HMC.out (by omega) HCT.out HFX.out HCS.out HO2.out).mono ?_
          rintro e w3 ⟨i, hsp, rfl, hb3⟩
          have HSP := Lib.hid hsp
          have HXB3 := Lib.hid ((hb3.block _ (lt_of_block HXB.out)).trans HXB.out)
          have HO3 := Lib.hid (own_below HO2.out hb3)
          have HW3 : Hid (Onx (Blk A0) w w3) := Lib.hid (HW2.out.trans (Onx.below hb3 (X := Blk A0) (fun i h1 h2 => by omega)) (fun _ h => h) (fun _ h _ => h))
          obtain ⟨fd, hfd⟩ : ∃ z, decide (∃ h : i < C.length, ordS C[i] x = 0) = z := ⟨_, rfl⟩
          rw [hfd]
          clear hb3 hsp
          cases fd with
          | true =>
            have hmem := found_mem HTX.out (of_decide_eq_true hfd)
            have HCM2 : Hid (∀ y, y ∈ C ↔ y ∈ F ∨ y ∈ N.take (q + 1)) := Lib.hid (fun y => by
              rw [HTK.out, List.mem_append, List.mem_singleton, HCM.out y]
              constructor
              · rintro (h | h)
                · exact .inl h
                · exact .inr (.inl h)
              · rintro (h | h | h)
                · exact .inl h
                · exact .inr h
                · rw [h]; exact (HCM.out x).1 hmem)
            clear hmem hfd
            go_wp2_with fail
            go_roundw
            case rel => exact ⟨q + 1, m, c', A', C, by omega, by go_num, rfl, by omega, HMC, Lib.hid (by have := HCL.out; omega), HO3, HCS, HCM2, HCB, HW3⟩
            case measure => simp [intOf]; omega
          | false =>
            have HNO := Lib.hid (of_decide_eq_false hfd)
            have HIL : Hid (i ≤ m) := Lib.hid (by rw [HMC.out]; exact HSP.out.le)
            clear hfd
            obtain ⟨w4, hw4⟩ : ∃ W, W = w3.alloc (.cells x.toArray 112) := ⟨_, rfl⟩
            have HV4 : Hid (w4.heap[w3.heap.size]? = some (.cells x.toArray 112 (0, 0))) := Lib.hid (by rw [hw4]; exact heap_alloc_new _ _)
            have hb4 : Below w3.heap.size w3 w4 := by rw [hw4]; exact (Below.refl _ _).alloc (Nat.le_refl _) _
            have HO4 := Lib.hid (own_below HO3.out hb4)
            have HW4 : Hid (Onx (Blk A0) w w4) := Lib.hid (HW3.out.trans (Onx.below hb4 (X := Blk A0) (fun i h1 h2 => by omega)) (fun _ h => h) (fun _ h _ => h))
            have HNG : Hid (¬ Blk A' w3.heap.size) := Lib.hid (fun h => by have := own_blkS HO3.out h; omega)
            have HWE4 := Lib.hid hw4
            clear hw4 hb4
            obtain ⟨i0, z0, hi0, hz0, hz1, hz2, hz3⟩ := info_thing (P := Tryz.prog) (T := 112) (sz := 8) (by kernel_rfl)
            go_wp2_with (first
              | (refine wpList_load_row rfl 112 (.tmp 9) rfl wr.heap.size rfl _ _ _ _ HXB3.out hu rfl (HSA.out _ HFX.out) ?_)
              | (refine wpList_buildOne rfl _ 112 _ rfl w3.heap.size rfl _ rfl i0 z0 8 Tryz.underlying108 hi0 hz0 hz1 (by decide) (by decide) x (by rfl) HXL.out ?_)
              | fail)
            rw [← HWE4.out]
            refine (cins_any A' m c' w3.heap.size i C x _ HMC.out (by omega) HIL.out HCT.out HO4.out HFX.out HV4.out HNG.out).mono ?_
            rintro e w5 ⟨A2, c2, rfl, ho5, hbk, hx5⟩
            have HO5 := Lib.hid ho5
            have HCS5 := Lib.hid (ins_strict HCS.out HSP.out HTX.out HNO.out)
            have HCM5 : Hid (∀ y, y ∈ C.take i ++ x :: C.drop i ↔ y ∈ F ∨ y ∈ N.take (q + 1)) := Lib.hid (fun y => by
              rw [ins_mem, HTK.out, List.mem_append, List.mem_singleton, HCM.out y]
              constructor
              · rintro ((h | h) | h)
                · exact .inl h
                · exact .inr (.inl h)
                · exact .inr (.inr h)
              · rintro (h | h | h)
                · exact .inl (.inl h)
                · exact .inl (.inr h)
                · exact .inr h)
            have hl5 : (C.take i ++ x :: C.drop i).length = C.length + 1 := by
              rw [List.length_append, List.length_cons, List.length_take, List.length_drop]
              have := HSP.out.le
              omega
            have HL5 : Hid (C.length + 1 = (C.take i ++ x :: C.drop i).length) := Lib.hid hl5.symm
            have HB5 : Hid (∀ j, Blk A2 j → Blk A0 j ∨ w.heap.size ≤ j) := Lib.hid (fun j hj => by
              rcases hbk j hj with h | h
              · exact HCB.out j h
              · exact .inr (Nat.le_trans HW4.out.size h))
            have HW5 : Hid (Onx (Blk A0) w w5) := Lib.hid (HW4.out.trans hx5 (fun _ h => h) (fun j h hl => by
              rcases HCB.out j h with h | h
              · exact h
              · omega))
            have HCL5 : Hid ((C.take i ++ x :: C.drop i).length ≤ L.length + (q + 1)) := Lib.hid (by have := HCL.out; omega)
            have hm7 : C.length + 1 ≤ 1000 + (q + 1) := by have := HMC.out; omega
            clear ho5 hbk hx5 hl5
            go_wp2_with fail
            go_roundw
            case rel => exact ⟨q + 1, C.length + 1, c2, A2, C.take i ++ x :: C.drop i, by omega, by go_num, rfl, hm7, HL5, HCL5, HO5, HCS5, HCM5, HB5, HW5⟩
            case measure => simp [intOf]; omega
        · have hqe : q = k := by omega
          have HEND : Hid (∀ y, y ∈ C ↔ y ∈ N) := Lib.hid (fun y => by
            rw [HCM.out y, hqe, List.take_of_length_le (by rw [hnk]; exact Nat.le_refl _)]
            constructor
            · rintro (h | h)
              · exact ((HFM.out y).1 h).2
              · exact h
            · intro h; exact .inr h)
          clear hqe
          go_wp2_with fail
          go_ret
          exact ⟨A', c', C, by rw [HMC.out]; rfl, by have := HOC.out; rwa [HMC.out] at this, HCS.out, HEND.out, HCB.out, HW.out⟩
end Go.Proofs.YtnkhnbpopdmkhaaGreat
