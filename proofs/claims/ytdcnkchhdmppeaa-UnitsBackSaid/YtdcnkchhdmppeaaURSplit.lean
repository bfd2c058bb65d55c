/-
  CONTRACT of the reference's Split.
-/
import Derived.Test.YtdcnkchhdmppeaaURef
import Derived.Test.YtdcnkchhdmppeaaHGrow
namespace Go.Proofs.Ytdcnkchhdmppeaa
set_option linter.unusedVariables false
open Go.RowKit
open Pl (It)

/-- Pairs as things. -/
def prC (l : List (ByteArray × Int)) : List (List Value) := l.map fun p => [.string p.1, .int .i64 p.2]
/-- The call hands back a new list of pairs. -/
def NewP (w : World) (l : List (ByteArray × Int)) (e : Ending) (w' : World) : Prop :=
  ∃ A n c, n = l.length ∧ e = .returned (.slice A n c) ∧ w'.ownsRow w.heap.size 36 2 (.slice A n c) n (prC l).flatten ∧ Below w.heap.size w w'

theorem infoP : (Try.prog.info? 36).map (fun i => (i.zero, i.size, i.bytes)) = some (some (.agg #[.string ByteArray.empty, .int .i64 0]), 2, 24) := by kernel_rfl
theorem prC_length (l : List (ByteArray × Int)) : (prC l).flatten.length = l.length * 2 := by
  induction l with
  | nil => rfl
  | cons p l ih => simp [prC] at ih ⊢; omega
theorem prC_push (l : List (ByteArray × Int)) (s : ByteArray) (n : Int) : (prC l).flatten ++ [.string s, .int .i64 n] = (prC (l ++ [(s, n)])).flatten := by simp [prC]
theorem rd_pair (W : World) (a b : Value) (T : TypeId) : Rd (W.alloc (.cells #[a, b] T)) (W.heap.size + 1) (some ⟨W.heap.size, 0, none⟩) [a, b] := fun _ => ⟨W.heap.size, 0, rfl, by omega, fun j u hj => by
  rw [cell_of_block (heap_alloc_new _ _)]
  match j, hj with
  | 0, hj => simp at hj; subst hj; rfl
  | 1, hj => simp at hj; subst hj; rfl⟩
theorem rd_pairB (W : World) (a b : Value) (T : TypeId) (B : Nat) (h : W.heap.size = B) : Rd (W.alloc (.cells #[a, b] T)) (B + 1) (some ⟨B, 0, none⟩) [a, b] := by subst h; exact rd_pair W a b T
theorem own_lower {w : World} {B B' T size n : Nat} {v : Value} {xs : List Value} (h : w.ownsRow B T size v n xs) (hb : B' ≤ B) : w.ownsRow B' T size v n xs :=
  ⟨h.1, h.2.imp id fun ⟨g, cap, cur, hv, hg, hr⟩ => ⟨g, cap, cur, hv, Nat.le_trans hb hg, hr⟩⟩
theorem own_set2 {w : World} {B T size n b o : Nat} {v : Value} {xs : List Value} (h : w.ownsRow B T size v n xs) (hp : b < B) (u : Value) : (w.setCell ⟨b, o, none⟩ u).ownsRow B T size v n xs :=
  ⟨h.1, h.2.imp id fun ⟨g, cap, cur, hv, hg, hh, hr⟩ => ⟨g, cap, cur, hv, hg, (block_setCell_other (by omega) _).trans hh, hr⟩⟩
theorem newP_of {w w' : World} {A : Option Addr} {n c : Nat} {l : List (ByteArray × Int)} (hn : n = l.length) (ho : w'.ownsRow (w.heap.size + 2) 36 2 (.slice A n c) n (prC l).flatten) (hb : Below w.heap.size w w') : NewP w l (.returned (.slice A n c)) w' :=
  ⟨A, n, c, hn, rfl, own_lower ho (by omega), hb⟩
/-- Where the greatest unit stands; -1: nowhere. -/
def atV (o : Option Nat) : Int := match o with | none => -1 | some a => (a : Int)
/-- Is the i'th place a unit, as far as its own name and factor go; and as far as the first k places go. -/
def ownU (x : It) (i : Nat) : Bool := decide ((x.nm i).size ≠ 0) && !Pl.eqv (x.nm i) Pl.each && decide (2 ≤ x.fc i)
def upU (x : It) (i k : Nat) : Bool := ownU x i && (List.range k).all fun j => !(Pl.eqv (x.nm j) (x.nm i) && decide (2 ≤ x.fc j))
theorem upU_valid (x : It) (i : Nat) : upU x i i = Pl.validU x i := rfl
theorem upU_succ (x : It) (i k : Nat) : upU x i (k + 1) = (upU x i k && !(Pl.eqv (x.nm k) (x.nm i) && decide (2 ≤ x.fc k))) := by
  unfold upU
  rw [List.range_succ, List.all_append, Bool.and_assoc]; simp
/-- What is so in the world at each round. -/
structure SW (x : It) (used : Nat → Bool) (w W : World) : Prop where
  bel : Below w.heap.size w W
  box : W.heap[w.heap.size]? = some (.cells x.cells.toArray 26 (0, 0))
  arr : W.heap[w.heap.size + 1]? = some (.cells #[.bool (used 0), .bool (used 1), .bool (used 2), .bool (used 3)] 47 (0, 0))
  sz : w.heap.size + 2 ≤ W.heap.size
theorem SW.below {x : It} {used : Nat → Bool} {w W W' : World} (h : SW x used w W) (hb : Below W.heap.size W W') : SW x used w W' :=
  ⟨h.bel.trans (hb.mono h.bel.size), (hb.block _ (lt_of_block h.box)).trans h.box, (hb.block _ (lt_of_block h.arr)).trans h.arr, Nat.le_trans h.sz hb.size⟩
theorem SW.below2 {x : It} {used : Nat → Bool} {w W W' : World} (h : SW x used w W) (hb : Below (w.heap.size + 2) W W') : SW x used w W' :=
  ⟨h.bel.trans (hb.mono (by omega)), (hb.block _ (by omega)).trans h.box, (hb.block _ (by omega)).trans h.arr, Nat.le_trans h.sz hb.size⟩
theorem SW.used {x : It} {used : Nat → Bool} {w W : World} (h : SW x used w W) (i : Nat) (hi : i < 4) : W.cell? ⟨w.heap.size + 1, i, none⟩ = some (.bool (used i)) := by
  rw [cell_of_block h.arr]
  match i, hi with
  | 0, _ => rfl
  | 1, _ => rfl
  | 2, _ => rfl
  | 3, _ => rfl
  | i + 4, hi => omega
theorem SW.use {x : It} {used : Nat → Bool} {w W : World} (h : SW x used w W) (a : Nat) (ha : a < 4) : SW x (Pl.useU used a) w (W.setCell ⟨w.heap.size + 1, a, none⟩ (.bool true)) :=
  ⟨h.bel.setCell (p := ⟨w.heap.size + 1, a, none⟩) (show w.heap.size ≤ w.heap.size + 1 by omega) _, (block_setCell_other (by omega) _).trans h.box, by
    rw [block_setCell h.arr]
    match a, ha with
    | 0, _ => rfl
    | 1, _ => rfl
    | 2, _ => rfl
    | 3, _ => rfl
    | i + 4, hi => omega, by simpa [World.setCell] using h.sz⟩

set_option maxRecDepth 100000 in
set_option maxHeartbeats 3200000 in
theorem rsplit_any (x : It) (b : Int) (w : World) (hn : -9223372036854775808 ≤ b) (hn2 : b ≤ 9223372036854775807) : Calls Try.prog 12 #[.agg x.cells.toArray, .int .i64 b] w (NewP w (Pl.splitU x b)) := by
  have HS0 : Hid (SW x (fun _ => false) w ((w.alloc (.cells x.cells.toArray 26)).alloc (.cells #[.bool false, .bool false, .bool false, .bool false] 47))) := Lib.hid ⟨((Below.refl _ _).alloc (Nat.le_refl _) _).alloc (by simp) _, (Below.heap_alloc _ _ _ (by simp)).trans (heap_alloc_new _ _), by
    have := heap_alloc_new (w.alloc (.cells x.cells.toArray 26)) (.cells #[.bool false, .bool false, .bool false, .bool false] 47)
    simpa using this, by simp⟩
  obtain ⟨i0, hi0, hz0, hz1, hz2⟩ := info_parts infoP
  go_enter Try.func12, Try.ntmps12
  go_wp2_with fail
  go_loopw [1, 5, 7] (fun bv ov rv wr => ∃ (r m c : Nat) (bb : Int) (A : Option Addr) (out : List (ByteArray × Int)) (used : Nat → Bool), r ≤ 4 ∧ bv = .int .i64 bb ∧ rv = .int .i64 (r : Int) ∧ ov = .slice A m c ∧ bb ≤ b ∧ -9223372036854775808 ≤ bb ∧ m ≤ r ∧
      Hid (m = out.length ∧ Pl.splitU x b = out ++ Pl.runU x (Pl.picksU x used (4 - r)) bb) ∧ Hid (SW x used w wr) ∧ Hid (wr.ownsRow (w.heap.size + 2) 36 2 (.slice A m c) m (prC out).flatten)) (fun _ _ rv _ => 4 - (intOf rv).toNat)
  case atStart => exact ⟨0, 0, 0, b, none, [], fun _ => false, by omega, rfl, rfl, rfl, by omega, by omega, by omega, Lib.hid ⟨rfl, rfl⟩, HS0, Lib.hid (World.ownsRow_nil _ _ _ _)⟩
  case round =>
    obtain ⟨r, m, c, bb, A, out, used, hr, rfl, rfl, rfl, hbb, hbl, hmr, hsp, HS, HO⟩ := hrel
    obtain ⟨w1, rfl⟩ : ∃ w1, w1 = wr := ⟨_, rfl⟩
    by_cases hlt : r < 4
    · go_wp2_with fail
      go_loopw [8, 9] (fun av iv wr => ∃ i : Nat, i ≤ 4 ∧ iv = .int .i64 (i : Int) ∧ av = .int .i64 (atV (Pl.bestU x used i)) ∧ Hid (Below w1.heap.size w1 wr)) (fun _ iv _ => 4 - (intOf iv).toNat)
      case atStart => exact ⟨0, by omega, rfl, rfl, Lib.hid (Below.refl _ _)⟩
      case round =>
        obtain ⟨i, hi, rfl, rfl, hbi⟩ := hrel
        obtain ⟨w2, rfl⟩ : ∃ w2, w2 = wr := ⟨_, rfl⟩
        have HS2 := Lib.hid (HS.out.below hbi.out)
        by_cases hlt2 : i < 4
        · obtain ⟨c0, c1⟩ := box_units HS2.out.box i hlt2
          obtain ⟨p, hp⟩ : ∃ p, x.nm i = p := ⟨_, rfl⟩
          obtain ⟨z, hz⟩ : ∃ z, x.fc i = z := ⟨_, rfl⟩
          rw [hp] at c0
          rw [hz] at c1
          have HP := Lib.hid hp
          have HZ := Lib.hid hz
          have hE := empty_iff p
          have hEA := each_eq p
          have hOW : ownU x i = (decide (p.size ≠ 0) && !Pl.eqv p Pl.each && decide (2 ≤ z)) := by unfold ownU; rw [hp, hz]
          have HUB : Hid (Below w2.heap.size w2 (w2.alloc (.cells #[.string p, .int .i64 z] 23))) := Lib.hid ((Below.refl _ _).alloc (Nat.le_refl _) _)
          have HUC : Hid (∀ W, Below (w2.heap.size + 1) (w2.alloc (.cells #[.string p, .int .i64 z] 23)) W → Below w2.heap.size w2 W ∧ W.cell? ⟨w2.heap.size, 0, none⟩ = some (.string p) ∧ W.cell? ⟨w2.heap.size, 1, none⟩ = some (.int .i64 z)) := Lib.hid (fun W hW => ⟨HUB.out.trans (hW.mono (by omega)), (hW.cell (p := ⟨w2.heap.size, 0, none⟩) (by simp)).trans (by simp [go_sem]), (hW.cell (p := ⟨w2.heap.size, 1, none⟩) (by simp)).trans (by simp [go_sem])⟩)
          have hcase : (decide (p.size = 0) = true ∧ ownU x i = false) ∨ (decide (p.size = 0) = false ∧ Pl.eqv p Pl.each = true ∧ ownU x i = false) ∨ (decide (p.size = 0) = false ∧ Pl.eqv p Pl.each = false ∧ decide (2 ≤ z) = false ∧ ownU x i = false) ∨ (decide (p.size = 0) = false ∧ Pl.eqv p Pl.each = false ∧ decide (2 ≤ z) = true ∧ ownU x i = true) := by
            rw [hOW]
            by_cases h0 : p.size = 0
            · left; simp [h0]
            · cases hq : Pl.eqv p Pl.each with
              | true => right; left; simp [h0]
              | false =>
                by_cases h2 : 2 ≤ z
                · right; right; right; simp [h0, h2]
                · right; right; left; simp [h0, h2]
          clear hp hz hOW
          rcases hcase with ⟨h1, ho⟩ | ⟨h1, h2, ho⟩ | ⟨h1, h2, h3, ho⟩ | ⟨h1, h2, h3, ho⟩
          all_goals
            rw [h1] at hE
            try rw [h2] at hEA
            have HOW := Lib.hid (show upU x i 0 = _ from (by unfold upU; simp : upU x i 0 = ownU x i).trans ho)
            clear ho h1
            try clear h2
            go_wp2_with fail
            go_loopw [11, 12] (fun fv kv wr => ∃ k : Nat, k ≤ i ∧ kv = .int .i64 (k : Int) ∧ fv = .bool (upU x i k) ∧ Hid (Below (w2.heap.size + 1) (w2.alloc (.cells #[.string p, .int .i64 z] 23)) wr)) (fun _ kv _ => i - (intOf kv).toNat)
            case atStart => exact ⟨0, by omega, rfl, by rw [HOW.out], Lib.hid (Below.refl _ _)⟩
            case round =>
              obtain ⟨k, hk, rfl, rfl, hbk⟩ := hrel
              obtain ⟨β, hβ⟩ : ∃ β, upU x i k = β := ⟨_, rfl⟩
              rw [hβ]
              have HBT := Lib.hid hβ
              clear hβ
              obtain ⟨hbu, u0, u1⟩ := HUC.out _ hbk.out
              have HSK := Lib.hid (HS2.out.below hbu)
              by_cases hki : k < i
              · obtain ⟨d0, d1⟩ := box_units HSK.out.box k (by omega)
                obtain ⟨q, hq⟩ : ∃ q, x.nm k = q := ⟨_, rfl⟩
                obtain ⟨y, hy⟩ : ∃ z, x.fc k = z := ⟨_, rfl⟩
                rw [hq] at d0
                rw [hy] at d1
                have hsucc := upU_succ x i k
                rw [HBT.out, HP.out, hq, hy] at hsucc
                have hk4 : k < 4 := by omega
                clear hq hy
                cases hqp : Pl.eqv q p with
                | false =>
                  rw [hqp] at hsucc
                  have HSU : Hid (upU x i (k + 1) = β) := Lib.hid (by rw [hsucc]; simp)
                  have hq' : (q.toList == p.toList) = false := hqp
                  clear hqp hsucc
                  go_wp2_with fail
                  go_quiet (fail)
                  go_wp2_with fail
                  go_roundw
                  case rel => exact ⟨k + 1, by omega, by go_num, by rw [HSU.out], Lib.hid (below_drewN hbk.out _)⟩
                  case measure => simp [intOf]; omega
                | true =>
                  have hq' : (q.toList == p.toList) = true := hqp
                  cases hdy : decide (2 ≤ y) with
                  | false =>
                    rw [hqp, hdy] at hsucc
                    have HSU : Hid (upU x i (k + 1) = β) := Lib.hid (by rw [hsucc]; simp)
                    clear hqp hsucc
                    go_wp2_with fail
                    go_quiet (fail)
                    go_wp2_with fail
                    go_roundw
                    case rel => exact ⟨k + 1, by omega, by go_num, by rw [HSU.out], Lib.hid (below_drewN hbk.out _)⟩
                    case measure => simp [intOf]; omega
                  | true =>
                    rw [hqp, hdy] at hsucc
                    have HSU : Hid (upU x i (k + 1) = false) := Lib.hid (by rw [hsucc]; simp)
                    clear hqp hsucc
                    go_wp2_with fail
                    go_quiet (fail)
                    go_wp2_with fail
                    go_roundw
                    case rel => exact ⟨k + 1, by omega, by go_num, by rw [HSU.out], Lib.hid (below_drewN hbk.out _)⟩
                    case measure => simp [intOf]; omega
              · obtain rfl : k = i := by omega
                have HBM : Hid (Below w1.heap.size w1 wr) := Lib.hid (hbi.out.trans (hbu.mono hbi.out.size))
                have uc := HSK.out.used k hlt2
                obtain ⟨ν, hν⟩ : ∃ ν, used k = ν := ⟨_, rfl⟩
                rw [hν] at uc
                obtain ⟨o, ho⟩ : ∃ o, Pl.bestU x used k = o := ⟨_, rfl⟩
                have HNX : Hid (Pl.bestU x used (k + 1) = if β && !ν && Pl.moreU x o z then some k else o) := Lib.hid (by
                  have hv : Pl.validU x k = β := HBT.out
                  show (if (Pl.validU x k && !used k && Pl.moreU x (Pl.bestU x used k) (x.fc k)) = true then some k else Pl.bestU x used k) = _
                  rw [hv, hν, ho, HZ.out])
                have hov : ∀ a, o = some a → a < 4 := fun a ha => by rw [ha] at ho; have := (Pl.bestU_valid ho).1; omega
                rw [ho]
                clear ho hν
                have keep : ∀ {v : Option Nat}, Pl.bestU x used (k + 1) = v → v = o → Hid (Value.int .i64 (atV o) = Value.int .i64 (atV (Pl.bestU x used (k + 1)))) := fun h1 h2 => Lib.hid (by rw [h1, h2])
                cases β with
                | false =>
                  have HK := keep HNX.out (by simp)
                  clear keep hov HNX
                  go_wp2_with fail
                  go_quiet (fail)
                  go_wp2_with fail
                  go_roundw
                  case rel => exact ⟨k + 1, by omega, by go_num, HK.out, Lib.hid (below_drewN HBM.out _)⟩
                  case measure => simp [intOf]; omega
                | true =>
                  cases ν with
                  | true =>
                    have HK := keep HNX.out (by simp)
                    clear keep hov HNX
                    go_wp2_with fail
                    go_quiet (fail)
                    go_wp2_with fail
                    go_roundw
                    case rel => exact ⟨k + 1, by omega, by go_num, HK.out, Lib.hid (below_drewN HBM.out _)⟩
                    case measure => simp [intOf]; omega
                  | false =>
                    cases o with
                    | none =>
                      have HK : Hid (Value.int .i64 (k : Int) = Value.int .i64 (atV (Pl.bestU x used (k + 1)))) := Lib.hid (by rw [HNX.out]; rfl)
                      clear keep hov HNX
                      rw [show atV none = -1 from rfl]
                      go_wp2_with fail
                      go_quiet (fail)
                      go_wp2_with fail
                      go_roundw
                      case rel => exact ⟨k + 1, by omega, by go_num, HK.out, Lib.hid (below_drewN HBM.out _)⟩
                      case measure => simp [intOf]; omega
                    | some a =>
                      have ha4 := hov a rfl
                      obtain ⟨e0, e1⟩ := box_units HSK.out.box a ha4
                      obtain ⟨f, hf⟩ : ∃ z, x.fc a = z := ⟨_, rfl⟩
                      rw [hf] at e1
                      rw [show atV (some a) = (a : Int) from rfl]
                      have a1 : (0 : Int) ≤ (a : Int) := by omega
                      have a2 : (a : Int) < 4 := by omega
                      have a3 : ¬ (a : Int) < 0 := by omega
                      have hda : decide ((a : Int) < 0) = false := by simp
                      cases hdf : decide (f < z) with
                      | true =>
                        have HK : Hid (Value.int .i64 (k : Int) = Value.int .i64 (atV (Pl.bestU x used (k + 1)))) := Lib.hid (by rw [HNX.out]; unfold Pl.moreU; simp only [hf, hdf]; rfl)
                        clear keep hov HNX hf e0
                        go_wp2_with fail
                        go_quiet (fail)
                        clear hdf hda a1 a2 a3 ha4 e1
                        go_wp2_with fail
                        go_roundw
                        case rel =>
                          rw [show decide ((r : Int) < 4) = true from by simp; omega]
                          iterate 69 apply Exists.intro
                          refine And.intro ?_ rfl
                          exact ⟨k + 1, by omega, by go_num, HK.out, Lib.hid (below_drewN HBM.out _)⟩
                        case measure => simp [intOf]; omega
                      | false =>
                        have HK : Hid (Value.int .i64 (a : Int) = Value.int .i64 (atV (Pl.bestU x used (k + 1)))) := Lib.hid (by rw [HNX.out]; unfold Pl.moreU; simp only [hf, hdf]; rfl)
                        clear keep hov HNX hf e0
                        go_wp2_with fail
                        go_quiet (fail)
                        clear hdf hda a1 a2 a3 ha4 e1
                        go_wp2_with fail
                        go_roundw
                        case rel =>
                          rw [show decide ((r : Int) < 4) = true from by simp; omega]
                          iterate 69 apply Exists.intro
                          refine And.intro ?_ rfl
                          exact ⟨k + 1, by omega, by go_num, HK.out, Lib.hid (below_drewN HBM.out _)⟩
                        case measure => simp [intOf]; omega
        · obtain rfl : i = 4 := by omega
          have HO2 := Lib.hid (own_below HO.out hbi.out)
          have hrs : 4 - r = (3 - r) + 1 := by omega
          have hPK : Pl.picksU x used (4 - r) = match Pl.bestU x used 4 with | none => [] | some a => a :: Pl.picksU x (Pl.useU used a) (3 - r) := by rw [hrs]; rfl
          obtain ⟨o, ho⟩ : ∃ o, Pl.bestU x used 4 = o := ⟨_, rfl⟩
          rw [ho] at hPK
          rw [ho]
          have HOV := Lib.hid ho
          have HPK := Lib.hid hPK
          clear ho hPK hrs
          cases o with
          | none =>
            have HSP : Hid (Pl.splitU x b = out ++ if 0 < bb then [(Pl.each, bb)] else []) := Lib.hid (by rw [hsp.out.2, HPK.out]; rfl)
            rw [show atV none = -1 from rfl]
            have HS9 := Lib.hid (HS2.out)
            have HM := Lib.hid hsp.out.1
            have hm4 : m ≤ 4 := by omega
            by_cases hb0 : 0 < bb
            · rw [if_pos hb0] at HSP
              go_wp2_with (first
                | (at_builtin; refine wpList_app rfl (.tmp 117) (.tmp 120) _ rfl (w.heap.size + 2) 36 i0 _ 2 24 Try.underlying31 hi0 hz0 hz1 hz2 rfl (by decide) _ m _ _ rfl (HO2.out.alloc _) _ _ 1 1 [.string Pl.each, .int .i64 bb] rfl rfl (rd_pair _ _ _ _) (by intro u hu; simp at hu; rcases hu with rfl | rfl <;> rfl) (by simp only [maxLen]; omega) (by omega) (by have := HS9.out.sz; simp; omega) ?_; intro A9 c9 w9 hown9 hb9; have HO9 := Lib.hid hown9; have HB9 := Lib.hid hb9; clear hown9 hb9)
                | fail)
              go_ret
              rw [HSP.out]
              exact newP_of (by rw [List.length_append, ← HM.out]; rfl) (by rw [← prC_push]; exact HO9.out) ((HS9.out.bel.alloc (by have := HS9.out.bel.size; omega) _).trans (HB9.out.mono (by omega)))
            · rw [if_neg hb0, List.append_nil] at HSP
              go_wp2_with fail
              go_ret
              rw [HSP.out]
              exact newP_of HM.out HO2.out HS9.out.bel
          | some a =>
            have hav := Pl.bestU_valid HOV.out
            obtain ⟨e0, e1⟩ := box_units HS2.out.box a hav.1
            have ha4 := hav.1
            have hf2 := (Pl.valid_spec hav.2.1).2.2.1
            clear hav
            obtain ⟨f, hf⟩ : ∃ z, x.fc a = z := ⟨_, rfl⟩
            obtain ⟨s, hs⟩ : ∃ z, x.nm a = z := ⟨_, rfl⟩
            rw [hf] at e1 hf2
            rw [hs] at e0
            have HF := Lib.hid hf
            have HN := Lib.hid hs
            clear hf hs
            rw [show atV (some a) = (a : Int) from rfl]
            have a1 : (0 : Int) ≤ (a : Int) := by omega
            have a2 : (a : Int) < 4 := by omega
            have a3 : ¬ (a : Int) < 0 := by omega
            have HSU := Lib.hid (HS2.out.use a ha4)
            have hfz : w2.frozen? ⟨w.heap.size + 1, a, none⟩ = false := by simp [World.frozen?, HS2.out.arr]
            have hu := HS2.out.used a ha4
            have g1 := (box_units HSU.out.box a ha4).2
            rw [HF.out] at g1
            clear e1
            have hmx : 0 ≤ max bb 0 := by omega
            have hmx2 : max bb 0 ≤ 9223372036854775807 := by omega
            obtain ⟨M, hM⟩ : ∃ M, max bb 0 = M := ⟨_, rfl⟩
            rw [hM] at hmx hmx2
            have hq0 : 0 ≤ M / f := Int.ediv_nonneg hmx (by omega)
            have hq1 : M / f ≤ M := Int.ediv_le_self _ hmx
            have hq2 : M / f * f ≤ M := Int.ediv_mul_le M (by omega)
            have hq3 : 0 ≤ M / f * f := Int.mul_nonneg hq0 (by omega)
            have htd : Int.tdiv M f = M / f := by rw [Int.tdiv_eq_ediv_of_nonneg hmx]
            obtain ⟨q, hq⟩ : ∃ q, M / f = q := ⟨_, rfl⟩
            rw [hq] at hq0 hq1 hq2 hq3 htd
            have HQ : Hid (max bb 0 / f = q) := Lib.hid (by rw [hM, hq])
            have HRU : Hid (Pl.splitU x b = out ++ if 0 < q then (s, q) :: Pl.runU x (Pl.picksU x (Pl.useU used a) (4 - (r + 1))) (bb - q * f) else Pl.runU x (Pl.picksU x (Pl.useU used a) (4 - (r + 1))) bb) := Lib.hid (by
              rw [hsp.out.2, HPK.out, show 4 - (r + 1) = 3 - r by omega]
              show out ++ (if 0 < max bb 0 / x.fc a then (x.nm a, max bb 0 / x.fc a) :: Pl.runU x _ (bb - max bb 0 / x.fc a * x.fc a) else Pl.runU x _ bb) = _
              rw [HF.out, HN.out, HQ.out])
            have HM := Lib.hid hsp.out.1
            have hoS : (w2.setCell ⟨w.heap.size + 1, a, none⟩ (.bool true)).ownsRow (w.heap.size + 2) 36 2 (.slice A m c) m (prC out).flatten := own_set2 HO2.out (by omega) _
            have HOS := Lib.hid hoS
            have hszw := HS2.out.sz
            clear hoS
            by_cases hqp : 0 < q
            · have hbM : bb = M := by
                have : 0 < q * f := Int.mul_pos hqp (by omega)
                omega
              obtain ⟨P, hP⟩ : ∃ P, q * f = P := ⟨_, rfl⟩
              rw [hP] at hq2 hq3
              rw [← hbM] at hq2
              have HBM := Lib.hid hbM
              clear hbM
              have hwp : wrap64 (q * f) = P := by rw [hP]; exact IntWalk.wrap64_in P ⟨by omega, by omega⟩
              have HRP : Hid (Pl.splitU x b = out ++ (s, q) :: Pl.runU x (Pl.picksU x (Pl.useU used a) (4 - (r + 1))) (bb - P)) := Lib.hid (by rw [HRU.out, if_pos hqp, hP])
              have HPP := Lib.hid hP
              clear hP HRU
              have g0 := (box_units HSU.out.box a ha4).1
              rw [HN.out] at g0
              go_wp2_with (first
                | (at_builtin; refine wpList_app rfl (.tmp 96) (.tmp 104) _ rfl (w.heap.size + 2) 36 i0 _ 2 24 Try.underlying31 hi0 hz0 hz1 hz2 rfl (by decide) _ m _ _ rfl (HOS.out.alloc _) _ _ 1 1 [.string s, .int .i64 _] rfl rfl (rd_pairB _ _ _ _ _ (by simp [World.setCell])) (by intro u hu; simp at hu; rcases hu with rfl | rfl <;> rfl) (by simp only [maxLen]; omega) (by omega) (by have := HSU.out.sz; have := HS2.out.sz; simp; omega) ?_; intro A9 c9 w9 hown9 hb9; have HO9 := Lib.hid hown9; have HS9 := Lib.hid ((HSU.out.below ((Below.refl _ _).alloc (Nat.le_refl _) _)).below2 hb9); clear hown9 hb9 g0 g1; have g9 := (box_units HS9.out.box a ha4).2; rw [HF.out] at g9)
                | fail)
              go_roundw
              case rel => exact ⟨r + 1, m + 1, c9, bb - P, A9, out ++ [(s, q)], Pl.useU used a, by omega, rfl, by go_num, rfl, by omega, by omega, by omega, Lib.hid ⟨by rw [HM.out, List.length_append]; rfl, by rw [HRP.out, List.append_assoc]; rfl⟩, HS9, Lib.hid (by rw [← prC_push]; exact HO9.out)⟩
              case measure => simp [intOf]; omega
            · have HRP : Hid (Pl.splitU x b = out ++ Pl.runU x (Pl.picksU x (Pl.useU used a) (4 - (r + 1))) bb) := Lib.hid (by rw [HRU.out, if_neg hqp])
              clear HRU
              go_wp2_with fail
              go_roundw
              case rel => exact ⟨r + 1, m, c, bb, A, out, Pl.useU used a, by omega, rfl, by go_num, rfl, by omega, by omega, by omega, Lib.hid ⟨HM.out, HRP.out⟩, HSU, HOS⟩
              case measure => simp [intOf]; omega
    · obtain rfl : r = 4 := by omega
      have HSP : Hid (Pl.splitU x b = out ++ if 0 < bb then [(Pl.each, bb)] else []) := Lib.hid (by rw [hsp.out.2]; rfl)
      have HS9 := Lib.hid (HS.out)
      have HM := Lib.hid hsp.out.1
      have hm4 : m ≤ 4 := by omega
      by_cases hb0 : 0 < bb
      · rw [if_pos hb0] at HSP
        go_wp2_with (first
          | (at_builtin; refine wpList_app rfl (.tmp 117) (.tmp 120) _ rfl (w.heap.size + 2) 36 i0 _ 2 24 Try.underlying31 hi0 hz0 hz1 hz2 rfl (by decide) _ m _ _ rfl (HO.out.alloc _) _ _ 1 1 [.string Pl.each, .int .i64 bb] rfl rfl (rd_pair _ _ _ _) (by intro u hu; simp at hu; rcases hu with rfl | rfl <;> rfl) (by simp only [maxLen]; omega) (by omega) (by have := HS9.out.sz; simp; omega) ?_; intro A9 c9 w9 hown9 hb9; have HO9 := Lib.hid hown9; have HB9 := Lib.hid hb9; clear hown9 hb9)
          | fail)
        go_ret
        rw [HSP.out]
        exact newP_of (by rw [List.length_append, ← HM.out]; rfl) (by rw [← prC_push]; exact HO9.out) ((HS9.out.bel.alloc (by have := HS9.out.bel.size; omega) _).trans (HB9.out.mono (by omega)))
      · rw [if_neg hb0, List.append_nil] at HSP
        go_wp2_with fail
        go_ret
        rw [HSP.out]
        exact newP_of HM.out HO.out HS9.out.bel
end Go.Proofs.Ytdcnkchhdmppeaa
