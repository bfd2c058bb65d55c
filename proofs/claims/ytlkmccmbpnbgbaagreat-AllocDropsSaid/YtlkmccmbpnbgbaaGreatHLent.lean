/-
 stevedorekeep's Same answers true, where both houses hold the same. (By wip/tools/gen_hsm.py.)
 CONTRACTS of stevedorekeep's lent, of each list of a house: a copy with a thing behind its length. (By wip/tools/gen_hlent.py.)
 THE CONTRACT of stevedorekeep's Lent.
 THE CONTRACT of stevedorekeep's Lent: the walk.
-/
import Derived.Test.YtlkmccmbpnbgbaaGreatHHouse
import Derived.BigQuiet
import Derived.Laws.MakeOwn
import Derived.Laws.Rows
namespace Go.Proofs.YtlkmccmbpnbgbaaGreat
set_option linter.unusedVariables false
open Go.RowKit

def fSame : Nat → FuncId
 | 0 => 51
 | 1 => 52
 | 2 => 53
 | 3 => 54
 | 4 => 55
 | 5 => 56
 | 6 => 57
 | 7 => 58
 | 8 => 59
 | 9 => 60
 | 10 => 61
 | 11 => 62
 | 12 => 63
 | 13 => 64
 | _ => 0
def tThing : Nat → TypeId
 | 0 => 70
 | 1 => 73
 | 2 => 76
 | 3 => 79
 | 4 => 62
 | 5 => 83
 | 6 => 86
 | 7 => 42
 | 8 => 46
 | 9 => 91
 | 10 => 94
 | 11 => 97
 | 12 => 100
 | 13 => 103
 | _ => 0
theorem neq_self {h : Nat} {t : TypeId} {ks : List CK} (e : EqT Tryz.prog h t true ks) (hh : h ≤ 10000) (x : List Value) (hx : Fits ks x) (W : World) : (binOp .neq t (.agg x.toArray) (.agg x.toArray)).run Tryz.prog W = .ok (.bool false) W := by
 obtain ⟨b, h1, h2⟩ := neq_struct e hh x x W hx hx
 rw [h2.2 rfl] at h1
 exact h1
theorem neqL (i : Nat) (hi : i < 14) (x : List Value) (hx : Fits (kOf i) x) (W : World) : (binOp .neq (tThing i) (.agg x.toArray) (.agg x.toArray)).run Tryz.prog W = .ok (.bool false) W := by
 match i, hi, hx with
 | 0, _, hx => exact neq_self eqItem (by decide) x hx W
 | 1, _, hx => exact neq_self eqLot (by decide) x hx W
 | 2, _, hx => exact neq_self eqZone (by decide) x hx W
 | 3, _, hx => exact neq_self eqBin (by decide) x hx W
 | 4, _, hx => exact neq_self eqQuant (by decide) x hx W
 | 5, _, hx => exact neq_self eqRule (by decide) x hx W
 | 6, _, hx => exact neq_self eqNotice (by decide) x hx W
 | 7, _, hx => exact neq_self eqOrder (by decide) x hx W
 | 8, _, hx => exact neq_self eqClaim (by decide) x hx W
 | 9, _, hx => exact neq_self eqTask (by decide) x hx W
 | 10, _, hx => exact neq_self eqParcel (by decide) x hx W
 | 11, _, hx => exact neq_self eqSent (by decide) x hx W
 | 12, _, hx => exact neq_self eqCounted (by decide) x hx W
 | 13, _, hx => exact neq_self eqTotal (by decide) x hx W
 | i + 14, h, _ => omega
theorem undL (i : Nat) (hi : i < 14) : ∃ d, Tryz.prog.underlying (tThing i) = some d ∧ d.isRow = true := by
 match i, hi with
 | 0, _ => exact ⟨_, Tryz.underlying70, rfl⟩
 | 1, _ => exact ⟨_, Tryz.underlying73, rfl⟩
 | 2, _ => exact ⟨_, Tryz.underlying76, rfl⟩
 | 3, _ => exact ⟨_, Tryz.underlying79, rfl⟩
 | 4, _ => exact ⟨_, Tryz.underlying62, rfl⟩
 | 5, _ => exact ⟨_, Tryz.underlying83, rfl⟩
 | 6, _ => exact ⟨_, Tryz.underlying86, rfl⟩
 | 7, _ => exact ⟨_, Tryz.underlying42, rfl⟩
 | 8, _ => exact ⟨_, Tryz.underlying46, rfl⟩
 | 9, _ => exact ⟨_, Tryz.underlying91, rfl⟩
 | 10, _ => exact ⟨_, Tryz.underlying94, rfl⟩
 | 11, _ => exact ⟨_, Tryz.underlying97, rfl⟩
 | 12, _ => exact ⟨_, Tryz.underlying100, rfl⟩
 | 13, _ => exact ⟨_, Tryz.underlying103, rfl⟩
 | i + 14, h => omega
theorem sizeL (i : Nat) (hi : i < 14) : (Tryz.prog.info? (tThing i)).map (·.size) = some (kOf i).length ∧ 1 ≤ (kOf i).length := by
 match i, hi with
 | 0, _ => exact ⟨by kernel_rfl, by decide⟩
 | 1, _ => exact ⟨by kernel_rfl, by decide⟩
 | 2, _ => exact ⟨by kernel_rfl, by decide⟩
 | 3, _ => exact ⟨by kernel_rfl, by decide⟩
 | 4, _ => exact ⟨by kernel_rfl, by decide⟩
 | 5, _ => exact ⟨by kernel_rfl, by decide⟩
 | 6, _ => exact ⟨by kernel_rfl, by decide⟩
 | 7, _ => exact ⟨by kernel_rfl, by decide⟩
 | 8, _ => exact ⟨by kernel_rfl, by decide⟩
 | 9, _ => exact ⟨by kernel_rfl, by decide⟩
 | 10, _ => exact ⟨by kernel_rfl, by decide⟩
 | 11, _ => exact ⟨by kernel_rfl, by decide⟩
 | 12, _ => exact ⟨by kernel_rfl, by decide⟩
 | 13, _ => exact ⟨by kernel_rfl, by decide⟩
 | i + 14, h => omega
theorem upto14 {i : Nat} (hi : i < 14) : i = 0 ∨ i = 1 ∨ i = 2 ∨ i = 3 ∨ i = 4 ∨ i = 5 ∨ i = 6 ∨ i = 7 ∨ i = 8 ∨ i = 9 ∨ i = 10 ∨ i = 11 ∨ i = 12 ∨ i = 13 := by omega
set_option maxRecDepth 100000 in
set_option maxHeartbeats 3200000 in
theorem same_one (i : Nat) (hi : i < 14) (A A2 : Option Addr) (n c c2 : Nat) (L : List (List Value)) (w : World) (hn : n = L.length) (hn4 : n ≤ 1000000) (hL : Things (kOf i) L) (hr : Rd w w.heap.size A L.flatten) (hr2 : Rd w w.heap.size A2 L.flatten) :
 Calls Tryz.prog (fSame i) #[.slice A n c, .slice A2 n c2] w fun e w' => e = .returned (.bool true) ∧ Below w.heap.size w w' := by
 have HN := Lib.hid hn
 have HR := Lib.hid hr
 have HR2 := Lib.hid hr2
 have HL := Lib.hid hL
 have HNE := Lib.hid (neqL i hi)
 obtain ⟨d, hu, hd⟩ := undL i hi
 have HSZ := Lib.hid (sizeL i hi)
 have HU := Lib.hid hu
 clear hn hr hr2 hL hu
 rcases upto14 hi with rfl | rfl | rfl | rfl | rfl | rfl | rfl | rfl | rfl | rfl | rfl | rfl | rfl | rfl
 all_goals
  first
  | go_enter Tryz.func51, Tryz.ntmps51
  | go_enter Tryz.func52, Tryz.ntmps52
  | go_enter Tryz.func53, Tryz.ntmps53
  | go_enter Tryz.func54, Tryz.ntmps54
  | go_enter Tryz.func55, Tryz.ntmps55
  | go_enter Tryz.func56, Tryz.ntmps56
  | go_enter Tryz.func57, Tryz.ntmps57
  | go_enter Tryz.func58, Tryz.ntmps58
  | go_enter Tryz.func59, Tryz.ntmps59
  | go_enter Tryz.func60, Tryz.ntmps60
  | go_enter Tryz.func61, Tryz.ntmps61
  | go_enter Tryz.func62, Tryz.ntmps62
  | go_enter Tryz.func63, Tryz.ntmps63
  | go_enter Tryz.func64, Tryz.ntmps64
  go_wp2_with fail
  go_loopw [5] (fun iv wr => ∃ k : Nat, k ≤ n ∧ iv = .int .i64 (k : Int) ∧ Hid (Below w.heap.size w wr)) (fun iv _ => n - (intOf iv).toNat)
  case atStart => exact ⟨0, by omega, rfl, Lib.hid (Below.refl _ _)⟩
  case round =>
   obtain ⟨k, hkn, rfl, hbw⟩ := hrel
   by_cases hlt : k < n
   · have hl : k < L.length := by rw [← HN.out]; exact hlt
     obtain ⟨b, off, rfl, hb, hc⟩ := HR.out.thing HL.out HSZ.out.2 hl
     obtain ⟨b2, off2, rfl, hb2, hc2⟩ := HR2.out.thing HL.out HSZ.out.2 hl
     have fx := HL.out _ (List.getElem_mem hl)
     have r1 := hc k hl
     have r2 := hc2 k hl
     generalize L[k] = x at fx r1 r2
     have hne := HNE.out x fx
     have HIX := Lib.hid (HSZ.out.1.trans (congrArg some fx.length.symm))
     dsimp only [tThing] at hne
     have HR1 : Hid (∀ X : BW wr, X.W.rangeAt b _ x ∧ X.W.rangeAt b2 _ x) := Lib.hid (fun X => ⟨rangeAt_below r1 hb (hbw.out.trans (X.h.mono hbw.out.size)), rangeAt_below r2 hb2 (hbw.out.trans (X.h.mono hbw.out.size))⟩)
     have h1 : (0 : Int) ≤ (k : Int) := by omega
     have h2 : (k : Int) < (n : Int) := by omega
     clear r1 r2 hc hc2 hb hb2 fx hl
     go_wp2_with fail
     refine wp_grow wr (by kernel_rfl) (by kernel_rfl) (Below.refl _ _) ?_
     simp only []
     iterate 3 go_big_quiet_step (fail)
     refine BigFrame.wpQuiet_want (by kernel_rfl) (fun K hK => quiet_load_mid _ (.tmp 19) rfl _ _ rfl x d (fun W ⟨X, hX⟩ => by rw [hX]; exact (HR1.out X).1) HU.out hd HIX.out (hK _ ?_))
     simp only [ax]
     iterate 3 go_big_quiet_step (fail)
     refine BigFrame.wpQuiet_want (by kernel_rfl) (fun K hK => quiet_load_mid _ (.tmp 23) rfl _ _ rfl x d (fun W ⟨X, hX⟩ => by rw [hX]; exact (HR1.out X).2) HU.out hd HIX.out (hK _ ?_))
     simp only [ax]
     go_big_quiet_step (fail)
     refine wpQuiet_nil ?_
     intro X
     have HBX := Lib.hid (hbw.out.trans (X.h.mono hbw.out.size))
     clear hne
     go_wp2_with fail
     go_roundw
     case rel => exact ⟨k + 1, by omega, by go_num, HBX⟩
     case measure => simp [intOf]; omega
   · go_wp2_with fail
     go_ret
     exact ⟨rfl, hbw.out⟩
/-- Two houses in their boxes, behind w. -/
def Held (h g : Hs) (T : TypeId) (w cur : World) : Prop := Below w.heap.size w cur ∧ cur.heap[w.heap.size]? = some (.cells h.cells T (0, 0)) ∧ cur.heap[w.heap.size + 1]? = some (.cells g.cells T (0, 0))
/-- What a call of same answers, in every world behind w. -/
def SameK (P : Program) (f : FuncId) (h g : Hs) (w : World) (i : Nat) : Prop := ∀ W, Below w.heap.size w W → Calls P f #[.slice (h.A i) (h.n i) (h.c i), .slice (g.A i) (g.n i) (g.c i)] W fun e w' => e = .returned (.bool true) ∧ Below W.heap.size W w'
theorem Held.next {h g : Hs} {T : TypeId} {w cur w' : World} (H : Held h g T w cur) (hb : Below cur.heap.size cur w') : Held h g T w w' :=
 ⟨H.1.trans (hb.mono H.1.size), (hb.block _ (lt_of_block H.2.1)).trans H.2.1, (hb.block _ (lt_of_block H.2.2)).trans H.2.2⟩
set_option maxRecDepth 100000 in
set_option maxHeartbeats 6400000 in
theorem sames_true {h g : Hs} {L : Nat → List (List Value)} {w : World} (hh : HT h L w) (hg : HT g L w) (hz : h.z = g.z) : Calls Tryz.prog 15 #[.agg h.cells, .agg g.cells] w fun e w' => e = .returned (.bool true) ∧ Below w.heap.size w w' := by
 have S : Hid (∀ i, i < 14 → ∀ W, Below w.heap.size w W → Calls Tryz.prog (fSame i) #[.slice (h.A i) (h.n i) (h.c i), .slice (g.A i) (g.n i) (g.c i)] W fun e w' => e = .returned (.bool true) ∧ Below W.heap.size W w') := Lib.hid (fun i hi W hW => by
  rw [(hg i hi).1, ← (hh i hi).1]
  exact same_one i hi _ _ _ _ _ (L i) W (hh i hi).1 (hh i hi).2.1 (hh i hi).2.2.1 ((hh.below hW) i hi).2.2.2 ((hg.below hW) i hi).2.2.2)
 have H : Hid (Held h g 37 w ((w.alloc (.cells h.cells 37)).alloc (.cells g.cells 37))) := Lib.hid ⟨((Below.refl _ _).alloc (Nat.le_refl _) _).alloc (by simp) _, (Below.heap_alloc _ _ _ (by simp)).trans (heap_alloc_new _ _), by
  have := heap_alloc_new (w.alloc (.cells h.cells 37)) (.cells g.cells 37)
  simpa using this⟩
 have hzb : (h.z == g.z) = true := by simpa using hz
 clear hh hg hz
 have S0 : Hid (SameK Tryz.prog 51 h g w 0) := Lib.hid (S.out 0 (by decide))
 have S1 : Hid (SameK Tryz.prog 52 h g w 1) := Lib.hid (S.out 1 (by decide))
 have S2 : Hid (SameK Tryz.prog 53 h g w 2) := Lib.hid (S.out 2 (by decide))
 have S3 : Hid (SameK Tryz.prog 54 h g w 3) := Lib.hid (S.out 3 (by decide))
 have S4 : Hid (SameK Tryz.prog 55 h g w 4) := Lib.hid (S.out 4 (by decide))
 have S5 : Hid (SameK Tryz.prog 56 h g w 5) := Lib.hid (S.out 5 (by decide))
 have S6 : Hid (SameK Tryz.prog 57 h g w 6) := Lib.hid (S.out 6 (by decide))
 have S7 : Hid (SameK Tryz.prog 58 h g w 7) := Lib.hid (S.out 7 (by decide))
 have S8 : Hid (SameK Tryz.prog 59 h g w 8) := Lib.hid (S.out 8 (by decide))
 have S9 : Hid (SameK Tryz.prog 60 h g w 9) := Lib.hid (S.out 9 (by decide))
 have S10 : Hid (SameK Tryz.prog 61 h g w 10) := Lib.hid (S.out 10 (by decide))
 have S11 : Hid (SameK Tryz.prog 62 h g w 11) := Lib.hid (S.out 11 (by decide))
 have S12 : Hid (SameK Tryz.prog 63 h g w 12) := Lib.hid (S.out 12 (by decide))
 have S13 : Hid (SameK Tryz.prog 64 h g w 13) := Lib.hid (S.out 13 (by decide))
 clear S
 unfold Hs.cells at *
 go_enter Tryz.func15, Tryz.ntmps15
 go_wp2_with (first
  | (go_at_call 51; refine (S0.out _ H.out.1).mono ?_; rintro e w' ⟨rfl, hb'⟩; have H := Lib.hid (H.out.next hb'); clear hb'; have x1 : w'.cell? ⟨w.heap.size, 1, none⟩ = some (.slice (h.A 1) (h.n 1) (h.c 1)) := (cell_of_block H.out.2.1).trans rfl; have y1 : w'.cell? ⟨w.heap.size + 1, 1, none⟩ = some (.slice (g.A 1) (g.n 1) (g.c 1)) := (cell_of_block H.out.2.2).trans rfl)
  | (go_at_call 52; refine (S1.out _ H.out.1).mono ?_; rintro e w' ⟨rfl, hb'⟩; have H := Lib.hid (H.out.next hb'); clear hb'; have x2 : w'.cell? ⟨w.heap.size, 2, none⟩ = some (.slice (h.A 2) (h.n 2) (h.c 2)) := (cell_of_block H.out.2.1).trans rfl; have y2 : w'.cell? ⟨w.heap.size + 1, 2, none⟩ = some (.slice (g.A 2) (g.n 2) (g.c 2)) := (cell_of_block H.out.2.2).trans rfl)
  | (go_at_call 53; refine (S2.out _ H.out.1).mono ?_; rintro e w' ⟨rfl, hb'⟩; have H := Lib.hid (H.out.next hb'); clear hb'; have x3 : w'.cell? ⟨w.heap.size, 3, none⟩ = some (.slice (h.A 3) (h.n 3) (h.c 3)) := (cell_of_block H.out.2.1).trans rfl; have y3 : w'.cell? ⟨w.heap.size + 1, 3, none⟩ = some (.slice (g.A 3) (g.n 3) (g.c 3)) := (cell_of_block H.out.2.2).trans rfl)
  | (go_at_call 54; refine (S3.out _ H.out.1).mono ?_; rintro e w' ⟨rfl, hb'⟩; have H := Lib.hid (H.out.next hb'); clear hb'; have x4 : w'.cell? ⟨w.heap.size, 4, none⟩ = some (.slice (h.A 4) (h.n 4) (h.c 4)) := (cell_of_block H.out.2.1).trans rfl; have y4 : w'.cell? ⟨w.heap.size + 1, 4, none⟩ = some (.slice (g.A 4) (g.n 4) (g.c 4)) := (cell_of_block H.out.2.2).trans rfl)
  | (go_at_call 55; refine (S4.out _ H.out.1).mono ?_; rintro e w' ⟨rfl, hb'⟩; have H := Lib.hid (H.out.next hb'); clear hb'; have x5 : w'.cell? ⟨w.heap.size, 5, none⟩ = some (.slice (h.A 5) (h.n 5) (h.c 5)) := (cell_of_block H.out.2.1).trans rfl; have y5 : w'.cell? ⟨w.heap.size + 1, 5, none⟩ = some (.slice (g.A 5) (g.n 5) (g.c 5)) := (cell_of_block H.out.2.2).trans rfl)
  | (go_at_call 56; refine (S5.out _ H.out.1).mono ?_; rintro e w' ⟨rfl, hb'⟩; have H := Lib.hid (H.out.next hb'); clear hb'; have x6 : w'.cell? ⟨w.heap.size, 6, none⟩ = some (.slice (h.A 6) (h.n 6) (h.c 6)) := (cell_of_block H.out.2.1).trans rfl; have y6 : w'.cell? ⟨w.heap.size + 1, 6, none⟩ = some (.slice (g.A 6) (g.n 6) (g.c 6)) := (cell_of_block H.out.2.2).trans rfl)
  | (go_at_call 57; refine (S6.out _ H.out.1).mono ?_; rintro e w' ⟨rfl, hb'⟩; have H := Lib.hid (H.out.next hb'); clear hb'; have x7 : w'.cell? ⟨w.heap.size, 7, none⟩ = some (.slice (h.A 7) (h.n 7) (h.c 7)) := (cell_of_block H.out.2.1).trans rfl; have y7 : w'.cell? ⟨w.heap.size + 1, 7, none⟩ = some (.slice (g.A 7) (g.n 7) (g.c 7)) := (cell_of_block H.out.2.2).trans rfl)
  | (go_at_call 58; refine (S7.out _ H.out.1).mono ?_; rintro e w' ⟨rfl, hb'⟩; have H := Lib.hid (H.out.next hb'); clear hb'; have x8 : w'.cell? ⟨w.heap.size, 8, none⟩ = some (.slice (h.A 8) (h.n 8) (h.c 8)) := (cell_of_block H.out.2.1).trans rfl; have y8 : w'.cell? ⟨w.heap.size + 1, 8, none⟩ = some (.slice (g.A 8) (g.n 8) (g.c 8)) := (cell_of_block H.out.2.2).trans rfl)
  | (go_at_call 59; refine (S8.out _ H.out.1).mono ?_; rintro e w' ⟨rfl, hb'⟩; have H := Lib.hid (H.out.next hb'); clear hb'; have x9 : w'.cell? ⟨w.heap.size, 9, none⟩ = some (.slice (h.A 9) (h.n 9) (h.c 9)) := (cell_of_block H.out.2.1).trans rfl; have y9 : w'.cell? ⟨w.heap.size + 1, 9, none⟩ = some (.slice (g.A 9) (g.n 9) (g.c 9)) := (cell_of_block H.out.2.2).trans rfl)
  | (go_at_call 60; refine (S9.out _ H.out.1).mono ?_; rintro e w' ⟨rfl, hb'⟩; have H := Lib.hid (H.out.next hb'); clear hb'; have x10 : w'.cell? ⟨w.heap.size, 10, none⟩ = some (.slice (h.A 10) (h.n 10) (h.c 10)) := (cell_of_block H.out.2.1).trans rfl; have y10 : w'.cell? ⟨w.heap.size + 1, 10, none⟩ = some (.slice (g.A 10) (g.n 10) (g.c 10)) := (cell_of_block H.out.2.2).trans rfl)
  | (go_at_call 61; refine (S10.out _ H.out.1).mono ?_; rintro e w' ⟨rfl, hb'⟩; have H := Lib.hid (H.out.next hb'); clear hb'; have x11 : w'.cell? ⟨w.heap.size, 11, none⟩ = some (.slice (h.A 11) (h.n 11) (h.c 11)) := (cell_of_block H.out.2.1).trans rfl; have y11 : w'.cell? ⟨w.heap.size + 1, 11, none⟩ = some (.slice (g.A 11) (g.n 11) (g.c 11)) := (cell_of_block H.out.2.2).trans rfl)
  | (go_at_call 62; refine (S11.out _ H.out.1).mono ?_; rintro e w' ⟨rfl, hb'⟩; have H := Lib.hid (H.out.next hb'); clear hb'; have x12 : w'.cell? ⟨w.heap.size, 12, none⟩ = some (.slice (h.A 12) (h.n 12) (h.c 12)) := (cell_of_block H.out.2.1).trans rfl; have y12 : w'.cell? ⟨w.heap.size + 1, 12, none⟩ = some (.slice (g.A 12) (g.n 12) (g.c 12)) := (cell_of_block H.out.2.2).trans rfl)
  | (go_at_call 63; refine (S12.out _ H.out.1).mono ?_; rintro e w' ⟨rfl, hb'⟩; have H := Lib.hid (H.out.next hb'); clear hb'; have x13 : w'.cell? ⟨w.heap.size, 13, none⟩ = some (.slice (h.A 13) (h.n 13) (h.c 13)) := (cell_of_block H.out.2.1).trans rfl; have y13 : w'.cell? ⟨w.heap.size + 1, 13, none⟩ = some (.slice (g.A 13) (g.n 13) (g.c 13)) := (cell_of_block H.out.2.2).trans rfl)
  | (go_at_call 64; refine (S13.out _ H.out.1).mono ?_; rintro e w' ⟨rfl, hb'⟩; have H := Lib.hid (H.out.next hb'); clear hb'; have x14 : w'.cell? ⟨w.heap.size, 14, none⟩ = some (.int .i64 h.z) := (cell_of_block H.out.2.1).trans rfl; have y14 : w'.cell? ⟨w.heap.size + 1, 14, none⟩ = some (.int .i64 g.z) := (cell_of_block H.out.2.2).trans rfl)
  | fail)
 go_ret
 exact ⟨rfl, H.out.1⟩
end Go.Proofs.YtlkmccmbpnbgbaaGreat

namespace Go.Proofs.YtlkmccmbpnbgbaaGreat
set_option linter.unusedVariables false
open Go.RowKit

/-- A row that reads as xs, in a block that may be written. -/
structure RdU (cur : World) (g : Nat) (xs : List Value) : Prop where
 rd : Rd cur cur.heap.size (some ⟨g, 0, none⟩) xs
 un : ∃ (arr : Array Value) (t : TypeId), cur.heap[g]? = some (.cells arr t (0, 0))
theorem RdU.next {cur w' : World} {g : Nat} {xs : List Value} (h : RdU cur g xs) (hb : Below cur.heap.size cur w') : RdU w' g xs :=
 ⟨(h.rd.below hb).mono hb.size, by obtain ⟨a, t, e⟩ := h.un; exact ⟨a, t, (hb.block _ (lt_of_block e)).trans e⟩⟩
theorem RdU.box {w : World} {bx j g : Nat} {v : Value} {xs : List Value} (h : RdU w g xs) (hg : g ≠ bx) : RdU (w.setCell ⟨bx, j, none⟩ v) g xs :=
 ⟨h.rd.box hg, by obtain ⟨a, t, e⟩ := h.un; exact ⟨a, t, (block_setCell_other hg _).trans e⟩⟩
theorem RdU.row {w : World} {bx g : Nat} {cs : Array Value} {xs : List Value} (h : RdU w g xs) (hg : g ≠ bx) : RdU (w.setRow bx cs) g xs :=
 ⟨Rd.row h.rd hg, by obtain ⟨a, t, e⟩ := h.un; exact ⟨a, t, (setRow_other _ _ _ _ hg).trans e⟩⟩
theorem RdU.of_own {w : World} {base size n c g : Nat} {e : TypeId} {xs : List Value} (h : w.ownsRow base e size (.slice (some ⟨g, 0, none⟩) n c) n xs) : RdU w g xs := ⟨Rd.of_own h, by
 rcases h.2 with ⟨hv, _⟩ | ⟨g', cap, cur, hv, _, hh, _⟩
 · cases hv
 · injection hv with e1 _ _
   injection e1 with e1
   injection e1 with e1
   subst e1
   exact ⟨_, _, hh⟩⟩
/-- What lent leaves: the list, and bh behind it. -/
def LentPost (L : List (List Value)) (bh : List Value) (w : World) (e : Ending) (w' : World) : Prop :=
 ∃ (g c : Nat), e = .returned (.slice (some ⟨g, 0, none⟩) L.length c) ∧ L.length + 1 ≤ c ∧ c ≤ 9223372036854775807 ∧ w.heap.size ≤ g ∧ RdU w' g (L.flatten ++ bh) ∧ Below w.heap.size w w'
def fLent : Nat → FuncId
 | 0 => 27
 | 1 => 28
 | 2 => 29
 | 3 => 30
 | 4 => 31
 | 5 => 32
 | 6 => 33
 | 7 => 34
 | 8 => 35
 | 9 => 36
 | 10 => 37
 | 11 => 38
 | 12 => 39
 | 13 => 40
 | _ => 0
def sThing : Nat → TypeId
 | 0 => 22
 | 1 => 23
 | 2 => 24
 | 3 => 25
 | 4 => 26
 | 5 => 27
 | 6 => 28
 | 7 => 29
 | 8 => 30
 | 9 => 31
 | 10 => 32
 | 11 => 33
 | 12 => 34
 | 13 => 35
 | _ => 0
theorem undS (i : Nat) (hi : i < 14) : Tryz.prog.underlying (sThing i) = some (.slice (tThing i)) := by
 match i, hi with
 | 0, _ => exact Tryz.underlying22
 | 1, _ => exact Tryz.underlying23
 | 2, _ => exact Tryz.underlying24
 | 3, _ => exact Tryz.underlying25
 | 4, _ => exact Tryz.underlying26
 | 5, _ => exact Tryz.underlying27
 | 6, _ => exact Tryz.underlying28
 | 7, _ => exact Tryz.underlying29
 | 8, _ => exact Tryz.underlying30
 | 9, _ => exact Tryz.underlying31
 | 10, _ => exact Tryz.underlying32
 | 11, _ => exact Tryz.underlying33
 | 12, _ => exact Tryz.underlying34
 | 13, _ => exact Tryz.underlying35
 | i + 14, h => omega
theorem infoL (i : Nat) (hi : i < 14) : (Tryz.prog.info? (tThing i)).map (fun x => (x.size, x.zero.map (·.cells.size), decide (x.bytes ≤ 1000))) = some ((kOf i).length, some (kOf i).length, true) := by
 match i, hi with
 | 0, _ => (show _ = _; kernel_rfl)
 | 1, _ => (show _ = _; kernel_rfl)
 | 2, _ => (show _ = _; kernel_rfl)
 | 3, _ => (show _ = _; kernel_rfl)
 | 4, _ => (show _ = _; kernel_rfl)
 | 5, _ => (show _ = _; kernel_rfl)
 | 6, _ => (show _ = _; kernel_rfl)
 | 7, _ => (show _ = _; kernel_rfl)
 | 8, _ => (show _ = _; kernel_rfl)
 | 9, _ => (show _ = _; kernel_rfl)
 | 10, _ => (show _ = _; kernel_rfl)
 | 11, _ => (show _ = _; kernel_rfl)
 | 12, _ => (show _ = _; kernel_rfl)
 | 13, _ => (show _ = _; kernel_rfl)
 | i + 14, h => omega
theorem kOf_le (i : Nat) (hi : i < 14) : (kOf i).length ≤ 1000 := by
 match i, hi with
 | 0, _ => decide
 | 1, _ => decide
 | 2, _ => decide
 | 3, _ => decide
 | 4, _ => decide
 | 5, _ => decide
 | 6, _ => decide
 | 7, _ => decide
 | 8, _ => decide
 | 9, _ => decide
 | 10, _ => decide
 | 11, _ => decide
 | 12, _ => decide
 | 13, _ => decide
 | i + 14, h => omega
set_option maxRecDepth 100000 in
set_option maxHeartbeats 3200000 in
theorem lent_one (i : Nat) (hi : i < 14) (A : Option Addr) (n c : Nat) (L : List (List Value)) (bh : List Value) (w : World) (hn : n = L.length) (hn4 : n ≤ 1000) (hL : Things (kOf i) L) (hb : Fits (kOf i) bh) (hr : Rd w w.heap.size A L.flatten) :
 Calls Tryz.prog (fLent i) #[.slice A n c, .agg bh.toArray] w (LentPost L bh w) := by
 obtain ⟨i0, z0, hi0, hz0, hz1, hz2, hz3⟩ := info_thing (infoL i hi)
 have hk := (sizeL i hi).2
 have hk2 := kOf_le i hi
 have hlL : L.flatten.length = n * (kOf i).length := by rw [flat_length hL.len, hn]
 have hlb : bh.length = (kOf i).length := hb.length
 obtain ⟨w0, hw0⟩ : ∃ w0, w0 = w.alloc (.cells bh.toArray (tThing i)) := ⟨_, rfl⟩
 have hb0 : Below w.heap.size w w0 := by rw [hw0]; exact (Below.refl _ _).alloc (Nat.le_refl _) _
 have hs0 : w0.heap.size = w.heap.size + 1 := by rw [hw0]; simp
 have HBX : Hid (w0.heap[w.heap.size]? = some (.cells bh.toArray (tThing i) (0, 0))) := Lib.hid (by rw [hw0]; exact heap_alloc_new _ _)
 obtain ⟨w1, hmk, hown1, hg1⟩ := run_make_own (P := Tryz.prog) w0 w0.heap.size (sThing i) (tThing i) i0 _ (kOf i).length (undS i hi) hi0 hz0 hz1 .i64 .i64 (n + 1) (Nat.le_trans (Nat.mul_le_mul hz3 (show n + 1 ≤ 1001 by omega)) (by decide)) (by simp only [maxLen]; omega) (Nat.le_refl _)
 rw [show (((n + 1 : Nat)) : Int) = (n : Int) + 1 from by omega] at hmk
 rw [hs0] at hown1
 have HB1 : Hid (Below w0.heap.size w0 w1) := Lib.hid ((Below.refl _ _).grown hg1 (Nat.le_refl _) (by simp))
 have HR0 : Hid (Rd w0 w0.heap.size A L.flatten) := Lib.hid ((hr.below hb0).mono hb0.size)
 have HO1 := Lib.hid hown1
 have HL1 := Lib.hid (things_one hL)
 have HF1 := Lib.hid (fits_one hb)
 have HLL := Lib.hid hlL
 have HLB := Lib.hid hlb
 have HN := Lib.hid hn
 have HB0 := Lib.hid hb0
 have HS0 := Lib.hid hs0
 have HK := Lib.hid (And.intro hk hk2)
 obtain ⟨d, hu, hd⟩ := undL i hi
 have HU := Lib.hid hu
 have HUS := Lib.hid (undS i hi)
 have HI0 := Lib.hid hi0
 have HSZ : Hid ((Tryz.prog.info? (tThing i)).map (·.size) = some bh.toArray.size) := Lib.hid (by rw [hi0]; simp [hz1, hlb])
 have HBY : Hid (∀ x, x ≤ 1001 → x * i0.bytes ≤ 140737488355328) := Lib.hid (fun x hx => Nat.le_trans (Nat.mul_le_mul hx hz3) (by decide))
 have HS1 : Hid (w.heap.size + 1 ≤ w1.heap.size) := Lib.hid (by have := HB1.out.size; have := HS0.out; omega)
 have HR1 : Hid (Rd w1 w1.heap.size A L.flatten) := Lib.hid ((HR0.out.below HB1.out).mono HB1.out.size)
 have HBX1 : Hid (w1.heap[w.heap.size]? = some (.cells bh.toArray (tThing i) (0, 0))) := Lib.hid ((HB1.out.block _ (by have := HS0.out; omega)).trans HBX.out)
 clear hn hL hb hr hk hk2 hlL hlb hown1 hg1 hb0 hs0 hu hi0
 rw [hw0] at hmk
 clear hw0
 rcases upto14 hi with rfl | rfl | rfl | rfl | rfl | rfl | rfl | rfl | rfl | rfl | rfl | rfl | rfl | rfl
 all_goals
  simp only [sThing, tThing] at hmk
  first
   | go_enter Tryz.func27, Tryz.ntmps27
   | go_enter Tryz.func28, Tryz.ntmps28
   | go_enter Tryz.func29, Tryz.ntmps29
   | go_enter Tryz.func30, Tryz.ntmps30
   | go_enter Tryz.func31, Tryz.ntmps31
   | go_enter Tryz.func32, Tryz.ntmps32
   | go_enter Tryz.func33, Tryz.ntmps33
   | go_enter Tryz.func34, Tryz.ntmps34
   | go_enter Tryz.func35, Tryz.ntmps35
   | go_enter Tryz.func36, Tryz.ntmps36
   | go_enter Tryz.func37, Tryz.ntmps37
   | go_enter Tryz.func38, Tryz.ntmps38
   | go_enter Tryz.func39, Tryz.ntmps39
   | go_enter Tryz.func40, Tryz.ntmps40
  go_wp2_with (first
   | (at_builtin; refine wpList_app rfl (.tmp 10) (.tmp 11) _ rfl (w.heap.size + 1) _ i0 z0 _ i0.bytes HUS.out HI0.out hz0 hz1 rfl hz2 HK.out.1 _ 0 _ [] rfl HO1.out w1.heap.size A n c L.flatten rfl HLL.out HR1.out HL1.out (by simp only [maxLen]; omega) (HBY.out _ (by omega)) HS1.out ?_; intro A2 c2 w2 ho2 hb2; have HO2 := Lib.hid ho2; have HB2 := Lib.hid hb2; have HBX2 := Lib.hid ((hb2.block _ (by omega)).trans HBX1.out); clear ho2 hb2)
   | (refine wpList_load_row rfl _ (.tmp 3) rfl w.heap.size rfl _ _ _ _ HBX2.out HU.out (by cases d <;> first | rfl | cases hd) HSZ.out ?_)
   | (refine wpList_buildOne rfl _ _ _ rfl w2.heap.size rfl _ rfl i0 z0 _ HUS.out HI0.out hz0 hz1 HK.out.1 HK.out.2 bh (by rfl) HLB.out ?_; have HO3 := Lib.hid (own_zero HO2.out bh); have HS2 := Lib.hid HB2.out.size)
   | (at_builtin; refine wpList_app rfl (.tmp 13) (.tmp 15) _ rfl (w.heap.size + 1) _ i0 z0 _ i0.bytes HUS.out HI0.out hz0 hz1 rfl hz2 HK.out.1 _ n _ L.flatten rfl HO3.out (w2.heap.size + 1) (some ⟨w2.heap.size, 0, none⟩) 1 1 bh rfl (by rw [HLB.out, Nat.one_mul]) (rd_one w2 bh _) HF1.out (by simp only [maxLen]; omega) (HBY.out _ (by omega)) (by have := HS1.out; have := HS2.out; simp; omega) ?_; intro A3 c3 w4 ho4 hb4; have HN3 := Lib.hid (own_cap ho4); obtain ⟨g, rfl⟩ := own_some ho4 (by omega); have hcap := own_cap ho4; have HO4 := Lib.hid ho4; have HB4 := Lib.hid hb4; clear ho4 hb4)
   | fail)
  go_ret
  refine ⟨g, c3, by rw [HN.out]; rfl, by rw [← HN.out]; exact HN3.out, own_max HO4.out, ?_, RdU.of_own HO4.out, ?_⟩
  · have := own_base HO4.out g rfl; omega
  · exact HB0.out.trans (((HB1.out.mono (by have := HS0.out; omega)).trans (HB2.out.mono (by omega))).trans (((Below.refl w.heap.size w2).alloc (by have := HS1.out; have := HS2.out; omega) _).trans (HB4.out.mono (by omega))))
theorem lentItem (A : Option Addr) (n c : Nat) (L : List (List Value)) (bh : List Value) (w : World) (hn : n = L.length) (hn4 : n ≤ 1000) (hL : Things kItem L) (hb : Fits kItem bh) (hr : Rd w w.heap.size A L.flatten) : Calls Tryz.prog 27 #[.slice A n c, .agg bh.toArray] w (LentPost L bh w) := lent_one 0 (by decide) A n c L bh w hn hn4 hL hb hr
theorem lentLot (A : Option Addr) (n c : Nat) (L : List (List Value)) (bh : List Value) (w : World) (hn : n = L.length) (hn4 : n ≤ 1000) (hL : Things kLot L) (hb : Fits kLot bh) (hr : Rd w w.heap.size A L.flatten) : Calls Tryz.prog 28 #[.slice A n c, .agg bh.toArray] w (LentPost L bh w) := lent_one 1 (by decide) A n c L bh w hn hn4 hL hb hr
theorem lentZone (A : Option Addr) (n c : Nat) (L : List (List Value)) (bh : List Value) (w : World) (hn : n = L.length) (hn4 : n ≤ 1000) (hL : Things kZone L) (hb : Fits kZone bh) (hr : Rd w w.heap.size A L.flatten) : Calls Tryz.prog 29 #[.slice A n c, .agg bh.toArray] w (LentPost L bh w) := lent_one 2 (by decide) A n c L bh w hn hn4 hL hb hr
theorem lentBin (A : Option Addr) (n c : Nat) (L : List (List Value)) (bh : List Value) (w : World) (hn : n = L.length) (hn4 : n ≤ 1000) (hL : Things kBin L) (hb : Fits kBin bh) (hr : Rd w w.heap.size A L.flatten) : Calls Tryz.prog 30 #[.slice A n c, .agg bh.toArray] w (LentPost L bh w) := lent_one 3 (by decide) A n c L bh w hn hn4 hL hb hr
theorem lentQuant (A : Option Addr) (n c : Nat) (L : List (List Value)) (bh : List Value) (w : World) (hn : n = L.length) (hn4 : n ≤ 1000) (hL : Things kQuant L) (hb : Fits kQuant bh) (hr : Rd w w.heap.size A L.flatten) : Calls Tryz.prog 31 #[.slice A n c, .agg bh.toArray] w (LentPost L bh w) := lent_one 4 (by decide) A n c L bh w hn hn4 hL hb hr
theorem lentRule (A : Option Addr) (n c : Nat) (L : List (List Value)) (bh : List Value) (w : World) (hn : n = L.length) (hn4 : n ≤ 1000) (hL : Things kRule L) (hb : Fits kRule bh) (hr : Rd w w.heap.size A L.flatten) : Calls Tryz.prog 32 #[.slice A n c, .agg bh.toArray] w (LentPost L bh w) := lent_one 5 (by decide) A n c L bh w hn hn4 hL hb hr
theorem lentNotice (A : Option Addr) (n c : Nat) (L : List (List Value)) (bh : List Value) (w : World) (hn : n = L.length) (hn4 : n ≤ 1000) (hL : Things kNotice L) (hb : Fits kNotice bh) (hr : Rd w w.heap.size A L.flatten) : Calls Tryz.prog 33 #[.slice A n c, .agg bh.toArray] w (LentPost L bh w) := lent_one 6 (by decide) A n c L bh w hn hn4 hL hb hr
theorem lentOrder (A : Option Addr) (n c : Nat) (L : List (List Value)) (bh : List Value) (w : World) (hn : n = L.length) (hn4 : n ≤ 1000) (hL : Things kOrder L) (hb : Fits kOrder bh) (hr : Rd w w.heap.size A L.flatten) : Calls Tryz.prog 34 #[.slice A n c, .agg bh.toArray] w (LentPost L bh w) := lent_one 7 (by decide) A n c L bh w hn hn4 hL hb hr
theorem lentClaim (A : Option Addr) (n c : Nat) (L : List (List Value)) (bh : List Value) (w : World) (hn : n = L.length) (hn4 : n ≤ 1000) (hL : Things kClaim L) (hb : Fits kClaim bh) (hr : Rd w w.heap.size A L.flatten) : Calls Tryz.prog 35 #[.slice A n c, .agg bh.toArray] w (LentPost L bh w) := lent_one 8 (by decide) A n c L bh w hn hn4 hL hb hr
theorem lentTask (A : Option Addr) (n c : Nat) (L : List (List Value)) (bh : List Value) (w : World) (hn : n = L.length) (hn4 : n ≤ 1000) (hL : Things kTask L) (hb : Fits kTask bh) (hr : Rd w w.heap.size A L.flatten) : Calls Tryz.prog 36 #[.slice A n c, .agg bh.toArray] w (LentPost L bh w) := lent_one 9 (by decide) A n c L bh w hn hn4 hL hb hr
theorem lentParcel (A : Option Addr) (n c : Nat) (L : List (List Value)) (bh : List Value) (w : World) (hn : n = L.length) (hn4 : n ≤ 1000) (hL : Things kParcel L) (hb : Fits kParcel bh) (hr : Rd w w.heap.size A L.flatten) : Calls Tryz.prog 37 #[.slice A n c, .agg bh.toArray] w (LentPost L bh w) := lent_one 10 (by decide) A n c L bh w hn hn4 hL hb hr
theorem lentSent (A : Option Addr) (n c : Nat) (L : List (List Value)) (bh : List Value) (w : World) (hn : n = L.length) (hn4 : n ≤ 1000) (hL : Things kSent L) (hb : Fits kSent bh) (hr : Rd w w.heap.size A L.flatten) : Calls Tryz.prog 38 #[.slice A n c, .agg bh.toArray] w (LentPost L bh w) := lent_one 11 (by decide) A n c L bh w hn hn4 hL hb hr
theorem lentCounted (A : Option Addr) (n c : Nat) (L : List (List Value)) (bh : List Value) (w : World) (hn : n = L.length) (hn4 : n ≤ 1000) (hL : Things kCounted L) (hb : Fits kCounted bh) (hr : Rd w w.heap.size A L.flatten) : Calls Tryz.prog 39 #[.slice A n c, .agg bh.toArray] w (LentPost L bh w) := lent_one 12 (by decide) A n c L bh w hn hn4 hL hb hr
theorem lentTotal (A : Option Addr) (n c : Nat) (L : List (List Value)) (bh : List Value) (w : World) (hn : n = L.length) (hn4 : n ≤ 1000) (hL : Things kTotal L) (hb : Fits kTotal bh) (hr : Rd w w.heap.size A L.flatten) : Calls Tryz.prog 40 #[.slice A n c, .agg bh.toArray] w (LentPost L bh w) := lent_one 13 (by decide) A n c L bh w hn hn4 hL hb hr
end Go.Proofs.YtlkmccmbpnbgbaaGreat

namespace Go.Proofs.YtlkmccmbpnbgbaaGreat
open Go.RowKit

/-- Which cell of the thing behind tells that it was left alone, and what it holds. -/
def pOf : Nat → Nat
 | 0 => 0
 | 1 => 1
 | 2 => 0
 | 3 => 0
 | 4 => 4
 | 5 => 1
 | 6 => 0
 | 7 => 0
 | 8 => 0
 | 9 => 8
 | 10 => 0
 | 11 => 0
 | 12 => 4
 | 13 => 1
 | _ => 0
def vOf : Nat → Value
 | 0 => .string ⟨#[98, 101, 104, 105, 110, 100]⟩
 | 1 => .string ⟨#[98, 101, 104, 105, 110, 100]⟩
 | 2 => .string ⟨#[98, 101, 104, 105, 110, 100]⟩
 | 3 => .string ⟨#[98, 101, 104, 105, 110, 100]⟩
 | 4 => .int .i64 (-77)
 | 5 => .string ⟨#[98, 101, 104, 105, 110, 100]⟩
 | 6 => .string ⟨#[98, 101, 104, 105, 110, 100]⟩
 | 7 => .string ⟨#[98, 101, 104, 105, 110, 100]⟩
 | 8 => .string ⟨#[98, 101, 104, 105, 110, 100]⟩
 | 9 => .string ⟨#[98, 101, 104, 105, 110, 100]⟩
 | 10 => .string ⟨#[98, 101, 104, 105, 110, 100]⟩
 | 11 => .string ⟨#[98, 101, 104, 105, 110, 100]⟩
 | 12 => .int .i64 (-77)
 | 13 => .string ⟨#[98, 101, 104, 105, 110, 100]⟩
 | _ => .int .i64 0
/-- A list that was lent. -/
def Lt (h : Hs) (L : Nat → List (List Value)) (w : World) (a : Hs) (cur : World) (i : Nat) : Prop :=
 ∃ (bh : List Value) (g : Nat), a.n i = h.n i ∧ h.n i + 1 ≤ a.c i ∧ a.c i ≤ 9223372036854775807 ∧ a.A i = some ⟨g, 0, none⟩ ∧ w.heap.size + 1 < g ∧ bh.length = (kOf i).length ∧ bh[pOf i]? = some (vOf i) ∧ RdU cur g ((L i).flatten ++ bh)
/-- The first k lists are lent; the house is in its box. -/
structure LS (h : Hs) (L : Nat → List (List Value)) (T : TypeId) (w : World) (k : Nat) (a : Hs) (cur : World) : Prop where
 bel : Below w.heap.size w cur
 box : cur.heap[w.heap.size]? = some (.cells a.cells T (0, 0))
 res : cur.heap[w.heap.size + 1]? = some (.cells Hs.zero T (0, 0))
 z : a.z = h.z
 old : ∀ i, k ≤ i → a.A i = h.A i ∧ a.n i = h.n i ∧ a.c i = h.c i
 new : ∀ i, i < k → Lt h L w a cur i
theorem Lt.next {h : Hs} {L : Nat → List (List Value)} {w : World} {a : Hs} {cur w' : World} {i : Nat} (H : Lt h L w a cur i) (hb : Below cur.heap.size cur w') : Lt h L w a w' i := by
 obtain ⟨bh, g, h1, h2, h3, h4, h5, h6, h7, h8⟩ := H
 exact ⟨bh, g, h1, h2, h3, h4, h5, h6, h7, h8.next hb⟩
theorem LS.next {h : Hs} {L : Nat → List (List Value)} {T : TypeId} {w : World} {k : Nat} {a : Hs} {cur w' : World} (H : LS h L T w k a cur) (hb : Below cur.heap.size cur w') : LS h L T w k a w' :=
 ⟨H.bel.trans (hb.mono H.bel.size), (hb.block _ (lt_of_block H.box)).trans H.box, (hb.block _ (lt_of_block H.res)).trans H.res, H.z, H.old, fun i hi => (H.new i hi).next hb⟩
theorem LS.stored {h : Hs} {L : Nat → List (List Value)} {T : TypeId} {w : World} {k : Nat} {a : Hs} {cur : World} (H : LS h L T w k a cur) (hk : k < 14) {g n c : Nat} (bh : List Value) (hn : n = h.n k) (hc : h.n k + 1 ≤ c) (hm : c ≤ 9223372036854775807) (hg : w.heap.size + 1 < g) (hb : bh.length = (kOf k).length) (hv : bh[pOf k]? = some (vOf k)) (hr : RdU cur g ((L k).flatten ++ bh)) :
 LS h L T w (k + 1) (a.set k (some ⟨g, 0, none⟩) n c) (cur.setCell ⟨w.heap.size, k, none⟩ (.slice (some ⟨g, 0, none⟩) n c)) := by
 refine ⟨H.bel.setCell (Nat.le_refl _) _, ?_, (block_setCell_other (by omega) _).trans H.res, H.z, fun i hi => ?_, fun i hi => ?_⟩
 · rw [block_setCell H.box, a.set_cells _ _ _ k hk]
 · have e : ¬ i = k := by omega
   simpa [Hs.set, e] using H.old i (by omega)
 · by_cases e : i = k
   · subst e
     exact ⟨bh, g, by simpa [Hs.set] using hn, by simpa [Hs.set] using hc, by simpa [Hs.set] using hm, by simp [Hs.set], hg, hb, hv, hr.box (by omega)⟩
   · obtain ⟨bh', g', h1, h2, h3, h4, h5, h6, h7, h8⟩ := H.new i (by omega)
     exact ⟨bh', g', by simpa [Hs.set, e] using h1, by simpa [Hs.set, e] using h2, by simpa [Hs.set, e] using h3, by simpa [Hs.set, e] using h4, h5, h6, h7, h8.box (by omega)⟩
/-- All lists are lent, and the house is laid where it is answered. -/
structure LE (h : Hs) (L : Nat → List (List Value)) (T : TypeId) (w : World) (a : Hs) (cur : World) : Prop where
 bel : Below w.heap.size w cur
 res : cur.heap[w.heap.size + 1]? = some (.cells a.cells T (0, 0))
 z : a.z = h.z
 new : ∀ i, i < 14 → Lt h L w a cur i
theorem LS.finish {h : Hs} {L : Nat → List (List Value)} {T : TypeId} {w : World} {a : Hs} {cur : World} (H : LS h L T w 14 a cur) : LE h L T w a (cur.setRow (w.heap.size + 1) a.cells) :=
 ⟨⟨H.bel.os, H.bel.tape, H.bel.output, by simpa using H.bel.size, fun k hk => (setRow_other cur (w.heap.size + 1) k a.cells (by omega)).trans (H.bel.block k hk)⟩, setRow_heap cur _ _ _ _ _ H.res, H.z, fun i hi => by
  obtain ⟨bh, g, h1, h2, h3, h4, h5, h6, h7, h8⟩ := H.new i hi
  exact ⟨bh, g, h1, h2, h3, h4, h5, h6, h7, h8.row (by omega)⟩⟩
theorem LS.cell {h : Hs} {L : Nat → List (List Value)} {T : TypeId} {w : World} {k : Nat} {a : Hs} {cur : World} (H : LS h L T w k a cur) (j : Nat) (hj : j < 14) (hk : k ≤ j) : cur.cell? ⟨w.heap.size, j, none⟩ = some (.slice (h.A j) (h.n j) (h.c j)) := by
 obtain ⟨e1, e2, e3⟩ := H.old j hk
 rw [cell_of_block H.box, ← e1, ← e2, ← e3]
 match j, hj with
 | 0, _ => rfl
 | 1, _ => rfl
 | 2, _ => rfl
 | 3, _ => rfl
 | 4, _ => rfl
 | 5, _ => rfl
 | 6, _ => rfl
 | 7, _ => rfl
 | 8, _ => rfl
 | 9, _ => rfl
 | 10, _ => rfl
 | 11, _ => rfl
 | 12, _ => rfl
 | 13, _ => rfl
 | i + 14, hi => omega
theorem LS.start (h : Hs) (L : Nat → List (List Value)) (T : TypeId) (w : World) : LS h L T w 0 h ((w.alloc (.cells h.cells T)).alloc (.cells Hs.zero T)) :=
 ⟨((Below.refl _ _).alloc (Nat.le_refl _) _).alloc (by simp) _, (Below.heap_alloc _ _ _ (by simp)).trans (heap_alloc_new _ _), (by have := heap_alloc_new (w.alloc (.cells h.cells T)) (.cells Hs.zero T); simpa using this), rfl, fun i _ => ⟨rfl, rfl, rfl⟩, fun i hi => by omega⟩
end Go.Proofs.YtlkmccmbpnbgbaaGreat

namespace Go.Proofs.YtlkmccmbpnbgbaaGreat
open Go.RowKit

set_option maxRecDepth 100000 in
set_option maxHeartbeats 6400000 in
theorem lents_calls (h : Hs) (L : Nat → List (List Value)) (w : World) (hh : HT h L w) (hs : ∀ i, i < 14 → h.n i ≤ 1000) : Calls Tryz.prog 10 #[h.val] w fun e w' => ∃ a : Hs, e = .returned a.val ∧ a.z = h.z ∧ (∀ i, i < 14 → Lt h L w a w' i) ∧ Below w.heap.size w w' := by
 have HH := Lib.hid hh
 have HS := Lib.hid hs
 have H := Lib.hid (LS.start h L 37 w)
 clear hh hs
 have hu := Tryz.underlying37
 have HSZ : Hid (∀ a : Hs, (Tryz.prog.info? 37).map (·.size) = some a.cells.size) := Lib.hid (fun a => by kernel_rfl)
 have H1C : Hid (∀ a : Hs, a.cells.all (·.oneCell') = true) := Lib.hid (fun a => by simp [Hs.cells, Value.oneCell'])
 unfold Hs.val
 go_enter Tryz.func10, Tryz.ntmps10
 go_wp2_with (first
  | (go_at_call 27; have hT := (HH.out.below H.out.bel) 0 (by decide); refine (lentItem (h.A 0) (h.n 0) (h.c 0) (L 0) _ _ hT.1 (HS.out 0 (by decide)) hT.2.2.1 (fits_of rfl) hT.2.2.2).mono ?_; rintro e w' ⟨g, c, rfl, hc, hm, hg, hr, hb⟩; have HBX := H.out.res; have H := Lib.hid (H.out.next hb); have fz : w'.frozen? ⟨w.heap.size, 0, none⟩ = false := frozen_of_block H.out.box; have fc : w'.cell? ⟨w.heap.size, 0, none⟩ = some (.slice (h.A 0) (h.n 0) (h.c 0)) := H.out.cell 0 (by decide) (by decide); have fd : w'.cell? ⟨w.heap.size, 1, none⟩ = some (.slice (h.A 1) (h.n 1) (h.c 1)) := H.out.cell 1 (by decide) (by decide); have H := Lib.hid (H.out.stored (k := 0) (by decide) _ hT.1.symm (by rw [hT.1]; exact hc) hm (Nat.lt_of_lt_of_le (lt_of_block HBX) hg) rfl rfl hr); clear HBX hc hm hg hr hb hT)
  | (go_at_call 28; have hT := (HH.out.below H.out.bel) 1 (by decide); refine (lentLot (h.A 1) (h.n 1) (h.c 1) (L 1) _ _ hT.1 (HS.out 1 (by decide)) hT.2.2.1 (fits_of rfl) hT.2.2.2).mono ?_; rintro e w' ⟨g, c, rfl, hc, hm, hg, hr, hb⟩; have HBX := H.out.res; have H := Lib.hid (H.out.next hb); have fz : w'.frozen? ⟨w.heap.size, 1, none⟩ = false := frozen_of_block H.out.box; have fc : w'.cell? ⟨w.heap.size, 1, none⟩ = some (.slice (h.A 1) (h.n 1) (h.c 1)) := H.out.cell 1 (by decide) (by decide); have fd : w'.cell? ⟨w.heap.size, 2, none⟩ = some (.slice (h.A 2) (h.n 2) (h.c 2)) := H.out.cell 2 (by decide) (by decide); have H := Lib.hid (H.out.stored (k := 1) (by decide) _ hT.1.symm (by rw [hT.1]; exact hc) hm (Nat.lt_of_lt_of_le (lt_of_block HBX) hg) rfl rfl hr); clear HBX hc hm hg hr hb hT)
  | (go_at_call 29; have hT := (HH.out.below H.out.bel) 2 (by decide); refine (lentZone (h.A 2) (h.n 2) (h.c 2) (L 2) _ _ hT.1 (HS.out 2 (by decide)) hT.2.2.1 (fits_of rfl) hT.2.2.2).mono ?_; rintro e w' ⟨g, c, rfl, hc, hm, hg, hr, hb⟩; have HBX := H.out.res; have H := Lib.hid (H.out.next hb); have fz : w'.frozen? ⟨w.heap.size, 2, none⟩ = false := frozen_of_block H.out.box; have fc : w'.cell? ⟨w.heap.size, 2, none⟩ = some (.slice (h.A 2) (h.n 2) (h.c 2)) := H.out.cell 2 (by decide) (by decide); have fd : w'.cell? ⟨w.heap.size, 3, none⟩ = some (.slice (h.A 3) (h.n 3) (h.c 3)) := H.out.cell 3 (by decide) (by decide); have H := Lib.hid (H.out.stored (k := 2) (by decide) _ hT.1.symm (by rw [hT.1]; exact hc) hm (Nat.lt_of_lt_of_le (lt_of_block HBX) hg) rfl rfl hr); clear HBX hc hm hg hr hb hT)
  | (go_at_call 30; have hT := (HH.out.below H.out.bel) 3 (by decide); refine (lentBin (h.A 3) (h.n 3) (h.c 3) (L 3) _ _ hT.1 (HS.out 3 (by decide)) hT.2.2.1 (fits_of rfl) hT.2.2.2).mono ?_; rintro e w' ⟨g, c, rfl, hc, hm, hg, hr, hb⟩; have HBX := H.out.res; have H := Lib.hid (H.out.next hb); have fz : w'.frozen? ⟨w.heap.size, 3, none⟩ = false := frozen_of_block H.out.box; have fc : w'.cell? ⟨w.heap.size, 3, none⟩ = some (.slice (h.A 3) (h.n 3) (h.c 3)) := H.out.cell 3 (by decide) (by decide); have fd : w'.cell? ⟨w.heap.size, 4, none⟩ = some (.slice (h.A 4) (h.n 4) (h.c 4)) := H.out.cell 4 (by decide) (by decide); have H := Lib.hid (H.out.stored (k := 3) (by decide) _ hT.1.symm (by rw [hT.1]; exact hc) hm (Nat.lt_of_lt_of_le (lt_of_block HBX) hg) rfl rfl hr); clear HBX hc hm hg hr hb hT)
  | (go_at_call 31; have hT := (HH.out.below H.out.bel) 4 (by decide); refine (lentQuant (h.A 4) (h.n 4) (h.c 4) (L 4) _ _ hT.1 (HS.out 4 (by decide)) hT.2.2.1 (fits_of rfl) hT.2.2.2).mono ?_; rintro e w' ⟨g, c, rfl, hc, hm, hg, hr, hb⟩; have HBX := H.out.res; have H := Lib.hid (H.out.next hb); have fz : w'.frozen? ⟨w.heap.size, 4, none⟩ = false := frozen_of_block H.out.box; have fc : w'.cell? ⟨w.heap.size, 4, none⟩ = some (.slice (h.A 4) (h.n 4) (h.c 4)) := H.out.cell 4 (by decide) (by decide); have fd : w'.cell? ⟨w.heap.size, 5, none⟩ = some (.slice (h.A 5) (h.n 5) (h.c 5)) := H.out.cell 5 (by decide) (by decide); have H := Lib.hid (H.out.stored (k := 4) (by decide) _ hT.1.symm (by rw [hT.1]; exact hc) hm (Nat.lt_of_lt_of_le (lt_of_block HBX) hg) rfl rfl hr); clear HBX hc hm hg hr hb hT)
  | (go_at_call 32; have hT := (HH.out.below H.out.bel) 5 (by decide); refine (lentRule (h.A 5) (h.n 5) (h.c 5) (L 5) _ _ hT.1 (HS.out 5 (by decide)) hT.2.2.1 (fits_of rfl) hT.2.2.2).mono ?_; rintro e w' ⟨g, c, rfl, hc, hm, hg, hr, hb⟩; have HBX := H.out.res; have H := Lib.hid (H.out.next hb); have fz : w'.frozen? ⟨w.heap.size, 5, none⟩ = false := frozen_of_block H.out.box; have fc : w'.cell? ⟨w.heap.size, 5, none⟩ = some (.slice (h.A 5) (h.n 5) (h.c 5)) := H.out.cell 5 (by decide) (by decide); have fd : w'.cell? ⟨w.heap.size, 6, none⟩ = some (.slice (h.A 6) (h.n 6) (h.c 6)) := H.out.cell 6 (by decide) (by decide); have H := Lib.hid (H.out.stored (k := 5) (by decide) _ hT.1.symm (by rw [hT.1]; exact hc) hm (Nat.lt_of_lt_of_le (lt_of_block HBX) hg) rfl rfl hr); clear HBX hc hm hg hr hb hT)
  | (go_at_call 33; have hT := (HH.out.below H.out.bel) 6 (by decide); refine (lentNotice (h.A 6) (h.n 6) (h.c 6) (L 6) _ _ hT.1 (HS.out 6 (by decide)) hT.2.2.1 (fits_of rfl) hT.2.2.2).mono ?_; rintro e w' ⟨g, c, rfl, hc, hm, hg, hr, hb⟩; have HBX := H.out.res; have H := Lib.hid (H.out.next hb); have fz : w'.frozen? ⟨w.heap.size, 6, none⟩ = false := frozen_of_block H.out.box; have fc : w'.cell? ⟨w.heap.size, 6, none⟩ = some (.slice (h.A 6) (h.n 6) (h.c 6)) := H.out.cell 6 (by decide) (by decide); have fd : w'.cell? ⟨w.heap.size, 7, none⟩ = some (.slice (h.A 7) (h.n 7) (h.c 7)) := H.out.cell 7 (by decide) (by decide); have H := Lib.hid (H.out.stored (k := 6) (by decide) _ hT.1.symm (by rw [hT.1]; exact hc) hm (Nat.lt_of_lt_of_le (lt_of_block HBX) hg) rfl rfl hr); clear HBX hc hm hg hr hb hT)
  | (go_at_call 34; have hT := (HH.out.below H.out.bel) 7 (by decide); refine (lentOrder (h.A 7) (h.n 7) (h.c 7) (L 7) _ _ hT.1 (HS.out 7 (by decide)) hT.2.2.1 (fits_of rfl) hT.2.2.2).mono ?_; rintro e w' ⟨g, c, rfl, hc, hm, hg, hr, hb⟩; have HBX := H.out.res; have H := Lib.hid (H.out.next hb); have fz : w'.frozen? ⟨w.heap.size, 7, none⟩ = false := frozen_of_block H.out.box; have fc : w'.cell? ⟨w.heap.size, 7, none⟩ = some (.slice (h.A 7) (h.n 7) (h.c 7)) := H.out.cell 7 (by decide) (by decide); have fd : w'.cell? ⟨w.heap.size, 8, none⟩ = some (.slice (h.A 8) (h.n 8) (h.c 8)) := H.out.cell 8 (by decide) (by decide); have H := Lib.hid (H.out.stored (k := 7) (by decide) _ hT.1.symm (by rw [hT.1]; exact hc) hm (Nat.lt_of_lt_of_le (lt_of_block HBX) hg) rfl rfl hr); clear HBX hc hm hg hr hb hT)
  | (go_at_call 35; have hT := (HH.out.below H.out.bel) 8 (by decide); refine (lentClaim (h.A 8) (h.n 8) (h.c 8) (L 8) _ _ hT.1 (HS.out 8 (by decide)) hT.2.2.1 (fits_of rfl) hT.2.2.2).mono ?_; rintro e w' ⟨g, c, rfl, hc, hm, hg, hr, hb⟩; have HBX := H.out.res; have H := Lib.hid (H.out.next hb); have fz : w'.frozen? ⟨w.heap.size, 8, none⟩ = false := frozen_of_block H.out.box; have fc : w'.cell? ⟨w.heap.size, 8, none⟩ = some (.slice (h.A 8) (h.n 8) (h.c 8)) := H.out.cell 8 (by decide) (by decide); have fd : w'.cell? ⟨w.heap.size, 9, none⟩ = some (.slice (h.A 9) (h.n 9) (h.c 9)) := H.out.cell 9 (by decide) (by decide); have H := Lib.hid (H.out.stored (k := 8) (by decide) _ hT.1.symm (by rw [hT.1]; exact hc) hm (Nat.lt_of_lt_of_le (lt_of_block HBX) hg) rfl rfl hr); clear HBX hc hm hg hr hb hT)
  | (go_at_call 36; have hT := (HH.out.below H.out.bel) 9 (by decide); refine (lentTask (h.A 9) (h.n 9) (h.c 9) (L 9) _ _ hT.1 (HS.out 9 (by decide)) hT.2.2.1 (fits_of rfl) hT.2.2.2).mono ?_; rintro e w' ⟨g, c, rfl, hc, hm, hg, hr, hb⟩; have HBX := H.out.res; have H := Lib.hid (H.out.next hb); have fz : w'.frozen? ⟨w.heap.size, 9, none⟩ = false := frozen_of_block H.out.box; have fc : w'.cell? ⟨w.heap.size, 9, none⟩ = some (.slice (h.A 9) (h.n 9) (h.c 9)) := H.out.cell 9 (by decide) (by decide); have fd : w'.cell? ⟨w.heap.size, 10, none⟩ = some (.slice (h.A 10) (h.n 10) (h.c 10)) := H.out.cell 10 (by decide) (by decide); have H := Lib.hid (H.out.stored (k := 9) (by decide) _ hT.1.symm (by rw [hT.1]; exact hc) hm (Nat.lt_of_lt_of_le (lt_of_block HBX) hg) rfl rfl hr); clear HBX hc hm hg hr hb hT)
  | (go_at_call 37; have hT := (HH.out.below H.out.bel) 10 (by decide); refine (lentParcel (h.A 10) (h.n 10) (h.c 10) (L 10) _ _ hT.1 (HS.out 10 (by decide)) hT.2.2.1 (fits_of rfl) hT.2.2.2).mono ?_; rintro e w' ⟨g, c, rfl, hc, hm, hg, hr, hb⟩; have HBX := H.out.res; have H := Lib.hid (H.out.next hb); have fz : w'.frozen? ⟨w.heap.size, 10, none⟩ = false := frozen_of_block H.out.box; have fc : w'.cell? ⟨w.heap.size, 10, none⟩ = some (.slice (h.A 10) (h.n 10) (h.c 10)) := H.out.cell 10 (by decide) (by decide); have fd : w'.cell? ⟨w.heap.size, 11, none⟩ = some (.slice (h.A 11) (h.n 11) (h.c 11)) := H.out.cell 11 (by decide) (by decide); have H := Lib.hid (H.out.stored (k := 10) (by decide) _ hT.1.symm (by rw [hT.1]; exact hc) hm (Nat.lt_of_lt_of_le (lt_of_block HBX) hg) rfl rfl hr); clear HBX hc hm hg hr hb hT)
  | (go_at_call 38; have hT := (HH.out.below H.out.bel) 11 (by decide); refine (lentSent (h.A 11) (h.n 11) (h.c 11) (L 11) _ _ hT.1 (HS.out 11 (by decide)) hT.2.2.1 (fits_of rfl) hT.2.2.2).mono ?_; rintro e w' ⟨g, c, rfl, hc, hm, hg, hr, hb⟩; have HBX := H.out.res; have H := Lib.hid (H.out.next hb); have fz : w'.frozen? ⟨w.heap.size, 11, none⟩ = false := frozen_of_block H.out.box; have fc : w'.cell? ⟨w.heap.size, 11, none⟩ = some (.slice (h.A 11) (h.n 11) (h.c 11)) := H.out.cell 11 (by decide) (by decide); have fd : w'.cell? ⟨w.heap.size, 12, none⟩ = some (.slice (h.A 12) (h.n 12) (h.c 12)) := H.out.cell 12 (by decide) (by decide); have H := Lib.hid (H.out.stored (k := 11) (by decide) _ hT.1.symm (by rw [hT.1]; exact hc) hm (Nat.lt_of_lt_of_le (lt_of_block HBX) hg) rfl rfl hr); clear HBX hc hm hg hr hb hT)
  | (go_at_call 39; have hT := (HH.out.below H.out.bel) 12 (by decide); refine (lentCounted (h.A 12) (h.n 12) (h.c 12) (L 12) _ _ hT.1 (HS.out 12 (by decide)) hT.2.2.1 (fits_of rfl) hT.2.2.2).mono ?_; rintro e w' ⟨g, c, rfl, hc, hm, hg, hr, hb⟩; have HBX := H.out.res; have H := Lib.hid (H.out.next hb); have fz : w'.frozen? ⟨w.heap.size, 12, none⟩ = false := frozen_of_block H.out.box; have fc : w'.cell? ⟨w.heap.size, 12, none⟩ = some (.slice (h.A 12) (h.n 12) (h.c 12)) := H.out.cell 12 (by decide) (by decide); have fd : w'.cell? ⟨w.heap.size, 13, none⟩ = some (.slice (h.A 13) (h.n 13) (h.c 13)) := H.out.cell 13 (by decide) (by decide); have H := Lib.hid (H.out.stored (k := 12) (by decide) _ hT.1.symm (by rw [hT.1]; exact hc) hm (Nat.lt_of_lt_of_le (lt_of_block HBX) hg) rfl rfl hr); clear HBX hc hm hg hr hb hT)
  | (go_at_call 40; have hT := (HH.out.below H.out.bel) 13 (by decide); refine (lentTotal (h.A 13) (h.n 13) (h.c 13) (L 13) _ _ hT.1 (HS.out 13 (by decide)) hT.2.2.1 (fits_of rfl) hT.2.2.2).mono ?_; rintro e w' ⟨g, c, rfl, hc, hm, hg, hr, hb⟩; have HBX := H.out.res; have H := Lib.hid (H.out.next hb); have fz : w'.frozen? ⟨w.heap.size, 13, none⟩ = false := frozen_of_block H.out.box; have fc : w'.cell? ⟨w.heap.size, 13, none⟩ = some (.slice (h.A 13) (h.n 13) (h.c 13)) := H.out.cell 13 (by decide) (by decide); have H := Lib.hid (H.out.stored (k := 13) (by decide) _ hT.1.symm (by rw [hT.1]; exact hc) hm (Nat.lt_of_lt_of_le (lt_of_block HBX) hg) rfl rfl hr); clear HBX hc hm hg hr hb hT; obtain ⟨a, ha⟩ : ∃ a, LS h L 37 w 14 a (w'.setCell ⟨w.heap.size, 13, none⟩ (.slice (some ⟨g, 0, none⟩) (L 13).length c)) := ⟨_, H.out⟩; have H := Lib.hid ha; clear ha)
  | (refine wpList_load_row rfl 37 (.tmp 1) rfl w.heap.size rfl _ _ _ _ H.out.box hu rfl (HSZ.out _) ?_)
  | (refine wpList_load_row rfl 37 (.tmp 2) rfl (w.heap.size + 1) rfl _ _ _ _ H.out.res hu rfl (HSZ.out _) ?_)
  | (refine wpList_store_row rfl 37 (.tmp 2) (.tmp 73) rfl (w.heap.size + 1) _ rfl rfl _ _ H.out.res (HSZ.out _) rfl (H1C.out _) ?_; have H := Lib.hid H.out.finish)
  | fail)
 exact bodyPost_ret (results_cell_row rfl _ _ (w.heap.size + 1) _ _ _ _ rfl H.out.res hu rfl (HSZ.out _)) rfl ⟨a, rfl, H.out.z, H.out.new, H.out.bel⟩
end Go.Proofs.YtlkmccmbpnbgbaaGreat
