/-
  CONTRACT of Size.
-/
import Derived.Test.YtkcickbkmedbmaaMMed
import Derived.Laws.IdiomRangeMap
namespace Go.Proofs.Ytkcickbkmedbmaa
open Go.RowKit Go.Maps

/-- r is how many sectors there are up to the last one of which g says something. -/
structure IsSz {α : Type} (g : Int → Option α) (r : Int) : Prop where
  nn : 0 ≤ r
  up : ∀ a, (g a).isSome = true → a + 1 ≤ r
  top : r = 0 ∨ ∃ a, (g a).isSome = true ∧ r = a + 1
theorem IsSz.unique {α β : Type} {g : Int → Option α} {g' : Int → Option β} {r r' : Int} (h : IsSz g r) (h' : IsSz g' r') (e : ∀ a, (g a).isSome = (g' a).isSome) : r = r' := by
  have h1 : r ≤ r' := by
    rcases h.top with h0 | ⟨a, ha, h0⟩
    · have := h'.nn; omega
    · have := h'.up a (by rw [← e]; exact ha); omega
  have h2 : r' ≤ r := by
    rcases h'.top with h0 | ⟨a, ha, h0⟩
    · have := h.nn; omega
    · have := h.up a (by rw [e]; exact ha); omega
  omega

def SizePost (g : Int → Option Value) (w : World) (e : Ending) (w' : World) : Prop := ∃ r : Int, e = .returned (.int .i64 r) ∧ IsSz g r ∧ Below w.heap.size w w'

set_option maxRecDepth 100000 in
set_option maxHeartbeats 800000 in
theorem size_any (b bo n m : Nat) (off armed : Bool) (left writes x : Int) (F : Int → Option Nat) (g : Int → Option Value) (w : World) (h : MS w b bo off armed left writes) (hx : Wf x)
    (hf : IM w bo n (fun x => (F x).map fun j => Value.map (some j))) (hg : ∀ j, F x = some j → IM w j m g) (hg0 : F x = none → ∀ a, g a = none) (hd : ∀ a, (g a).isSome = true → 0 ≤ a ∧ a < 65536) :
    Calls Try.prog 26 #[.pointer (some ⟨b, 0, none⟩), .int .i64 x] w (SizePost g w) := by
  have c0 := h.cl.c0
  have hlk := hf.look (t := 50) Try.underlying50 (Try.zeroValue67 w) hx
  clear h hf
  cases hF : F x with
  | none =>
    simp only [hF, Option.map_none, Option.getD_none] at hlk
    have HS := Lib.hid (show IsSz g 0 from ⟨Int.le_refl _, (fun a ha => by rw [hg0 hF a] at ha; cases ha), .inl rfl⟩)
    clear hg hg0 hd hF
    have hrg := run_range_nilMap (P := Try.prog) w 67 3 69 Try.underlying67
    have hnx : ∀ ty, (Instr.next (.pointer (some ⟨w.heap.size, 0, none⟩)) false ty).run Try.prog (w.alloc (.mapIter none 0 #[] 0)) = _ := fun ty => run_next_nilMap _ ty 0 0 #[]
    go_enter Try.func26, Try.ntmps26
    go_wp2
    refine wp_loop_rounds 1 ?_
    rw [rounds_succ]
    go_wp2
    go_ret
    exact ⟨0, rfl, HS.out, (Below.refl _ _).alloc (Nat.le_refl _) _⟩
  | some j =>
    simp only [hF, Option.map_some, Option.getD_some] at hlk
    obtain ⟨D, hown, hS⟩ := hg j hF
    have hjl := hown.lt
    have HS := Lib.hid hS
    have HD := Lib.hid hd
    clear hg hg0 hF hS hd
    go_enter Try.func26, Try.ntmps26
    go_wp2_with (first
      | (at_range; refine wpList_range_own _ rfl _ 67 rfl 3 69 keyed Try.underlying67 _ j m D rfl hown ?_; intro w0 hrg0 hg0 _)
      | fail)
    go_frame
    have HR0 := Lib.hid hrg0
    have HB0 := Lib.hid ((Below.refl w.heap.size w).grown hg0 (Nat.le_refl _) (by simp))
    clear hrg0 hg0 hown
    go_loopw [5] (fun s wr => ∃ (left : Lit → Bool) (cnt : Nat) (r : Int), s = .int .i64 r ∧ 0 ≤ r ∧ r ≤ 65536 ∧ Hid (wr.ranges Try.prog 3 rawR j w.heap.size m D left cnt) ∧
        Hid ((∀ a, (g a).isSome = true → left (.int .i64 a) = false → a + 1 ≤ r) ∧ (r = 0 ∨ ∃ a, (g a).isSome = true ∧ r = a + 1)) ∧ Hid (Below w.heap.size w wr))
      (fun _ wr => wr.rangeLeft j w.heap.size)
    case atStart =>
      exact ⟨_, _, 0, rfl, by omega, by omega, HR0, Lib.hid ⟨(fun a ha hl => by rw [HS.out.has a] at hl; rw [hl] at ha; cases ha), .inl rfl⟩, HB0⟩
    case round =>
      obtain ⟨left, cnt, r, rfl, hr0, hr1, HR, HT, HB⟩ := hrel
      go_wp2_with (first
        | (at_next; refine wpList_next_raw _ rfl _ rfl j w.heap.size m D left cnt rfl HR.out ?_ ?_)
        | fail)
      · intro hl0
        have HP := Lib.hid (show IsSz g r from ⟨hr0, fun a ha => HT.out.1 a ha (hl0 _), HT.out.2⟩)
        clear hl0
        go_wp2_with fail
        go_ret
        exact ⟨r, rfl, HP.out, HB.out⟩
      · intro a v w1 cnt1 hwa hla hat hrg1 hlt hg1 hen
        have hsome : (g a).isSome = true := by
          rw [← HS.out.has a]
          cases hh : Maps.has D (.int .i64 a) with
          | true => rfl
          | false => have := atKey_of_not_has hh (.nil : DV); rw [hat] at this; cases this
        obtain ⟨ha0, ha1⟩ := HD.out a hsome
        have HR1 := Lib.hid hrg1
        have HB1 := Lib.hid (HB.out.grown hg1 HB.out.size (fun j hj => by cases hj; exact Nat.le_refl _))
        have hms : Hid (wr.rangeLeft j w.heap.size = cnt) := Lib.hid HR.out.left_eq
        have hms1 : Hid (w1.rangeLeft j w.heap.size = cnt1) := Lib.hid hrg1.left_eq
        have HSM := Lib.hid hsome
        have HAll := Lib.hid (show ∀ r', r ≤ r' → a + 1 ≤ r' → (∀ c, (g c).isSome = true → (left (.int .i64 c) && !(Lit.int .i64 c).sameKey (.int .i64 a)) = false → c + 1 ≤ r') from fun r' h1 h2 c hc hl => by
          by_cases e : c = a
          · subst e; exact h2
          · rw [sameKey_ne (lit_ne e)] at hl
            simp at hl
            have := HT.out.1 c hc hl
            omega)
        clear hat hla hrg1 hg1 hsome hwa
        go_wp2_with fail
        all_goals
          go_roundw
          case rel =>
            by_cases hra : r < a + 1
            · rw [if_pos hra]
              exact ⟨_, cnt1, a + 1, rfl, by omega, by omega, HR1, Lib.hid ⟨HAll.out (a + 1) (by omega) (by omega), .inr ⟨a, HSM.out, rfl⟩⟩, HB1⟩
            · rw [if_neg hra]
              exact ⟨_, cnt1, r, rfl, by omega, by omega, HR1, Lib.hid ⟨HAll.out r (by omega) (by omega), HT.out.2⟩, HB1⟩
          case measure => rw [hms.out, hms1.out]; exact hlt
end Go.Proofs.Ytkcickbkmedbmaa
