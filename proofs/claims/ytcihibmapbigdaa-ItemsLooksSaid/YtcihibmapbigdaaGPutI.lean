/-
  CONTRACT of the table's Put, for things of one kind. (By wip/tools/gen_table.py.)
-/
import Derived.Test.YtcihibmapbigdaaGSpliceI
namespace Go.Proofs.Ytcihibmapbigdaa
set_option linter.unusedVariables false
open Go.RowKit
open Pl (firstG firstG_none firstG_some findG overG putG)

set_option maxRecDepth 100000 in
set_option maxHeartbeats 1600000 in
theorem putItem (A : Option Addr) (n c K : Nat) (cap : Array Value) (ord : List Value → List Value → Int) (x : List Value) (L : List (List Value)) (w : World) (hn : n = L.length) (hnc : n ≤ c) (hc : c ≤ 9223372036854775807) (hsz : n + 1 ≤ 1000000) (hL : Things kItem L) (hx : Fits kItem x)
    (hr : Rd w w.heap.size A L.flatten) (hO : TellsO kItem w K cap ord) :
    Calls Try.prog 35 #[.agg #[.func (.func K) #[] cap], .slice A n c, .agg x.toArray] w (NewItem w (putG ord L x)) := by
  have hmf : ∀ (fn : Fn) (first cap : Array Value) (w : World), (Instr.makeFunc fn first cap).run Try.prog w = .ok (.func fn first cap) w := fun _ _ _ _ => rfl
  obtain ⟨i0, z0, hi0, hz0, hz1, hz2, hz3⟩ := info_thing (P := Try.prog) (T := 42) (sz := 14) (by kernel_rfl)
  have hu := Try.underlying42
  have HSZ : Hid ((Try.prog.info? 42).map (·.size) = some x.toArray.size) := Lib.hid (by rw [show (Try.prog.info? 42).map (·.size) = some 14 from by kernel_rfl, List.size_toArray, hx.length]; rfl)
  have HLN : Hid (x.length = 14) := Lib.hid (by rw [hx.length]; rfl)
  have HB := Lib.hid (tabW_below w K cap x 106 42)
  have HSB : Hid ((tabW w K cap x 106 42).heap.size = w.heap.size + 2) := Lib.hid (by simp)
  have hfind := findItem A n c K cap ord x L _ hn (by omega) hL hx ((hr.below HB.out).mono HB.out.size) (hO.later HB.out)
  have HBX : Hid (∀ W, Below (w.heap.size + 2) (tabW w K cap x 106 42) W → W.heap[w.heap.size + 1]? = some (.cells x.toArray 42 (0, 0))) := Lib.hid (fun W h => tabW_row h)
  have HBX0 := Lib.hid (HBX.out _ (Below.refl _ _))
  have HN := Lib.hid hn
  have HR := Lib.hid hr
  have HL := Lib.hid hL
  have HX1 := Lib.hid (Things.one hx)
  have HBD : Hid (∀ W, Below (w.heap.size + 2) (tabW w K cap x 106 42) W → Below w.heap.size w W ∧ w.heap.size + 2 ≤ W.heap.size) := Lib.hid (fun W h => ⟨HB.out.trans (h.mono (by omega)), by have := h.size; rw [HSB.out] at this; exact this⟩)
  cases hF : findG ord L x with
  | some i =>
    have hi : i < L.length := Pl.firstG_lt hF
    rw [hF, firstV_some] at hfind
    have HP := Lib.hid (show putG ord L x = L.take i ++ [x] ++ L.drop (i + 1) from by unfold putG; rw [hF])
    have HF := Lib.hid hfind
    have hin : i < n := by omega
    clear hn hr hF hfind hL hx hO hz2 hz3
    go_enter Try.func35, Try.ntmps35
    go_wp2_with (first
      | (refine wpList_load_row rfl 42 (.tmp 5) rfl (w.heap.size + 1) rfl _ _ _ _ HBX0.out hu rfl HSZ.out ?_)
      | fail)
    refine HF.out.mono ?_
    rintro e w1 ⟨rfl, hb1⟩
    rw [HSB.out] at hb1
    have HX := Lib.hid (HBX.out _ hb1)
    obtain ⟨hb2, hs1⟩ := HBD.out _ hb1
    have B1 := Lib.hid hb2
    clear hb1 hb2
    have HSP : Hid (Calls Try.prog 58 #[.slice A n c, .int .i64 (i : Int), .int .i64 ((i + 1 : Nat) : Int), .slice (some ⟨w1.heap.size, 0, none⟩) 1 1] (w1.alloc (.cells x.toArray 42)) (NewItem w (putG ord L x))) := Lib.hid (by
      have B2 := B1.out.alloc B1.out.size (.cells x.toArray 42)
      refine (spliceItem A (some ⟨w1.heap.size, 0, none⟩) n c 1 1 i (i + 1) L [x] _ HN.out rfl hnc hc (by omega) (by omega) hsz HL.out HX1.out ((HR.out.below B2).mono B2.size) ((row_one w1 x _).mono (by simp))).mono ?_
      rintro e w2 ⟨A', c', rfl, hown, hb2⟩
      refine ⟨A', _, c', ?_, rfl, ?_, B2.trans (hb2.mono B2.size)⟩
      · rw [HP.out]; simp only [List.length_append, List.length_take, List.length_drop, List.length_cons, List.length_nil]
        have := HN.out
        omega
      · rw [HP.out]; exact own_down hown B2.size)
    rw [show ((i + 1 : Nat) : Int) = (i : Int) + 1 from by omega] at HSP
    go_wp2_with (first
      | (refine wpList_load_row rfl 42 (.tmp 5) rfl (w.heap.size + 1) rfl _ _ _ _ HX.out hu rfl HSZ.out ?_)
      | (refine wpList_buildOne rfl _ 42 _ rfl w1.heap.size rfl _ rfl i0 z0 14 Try.underlying22 hi0 hz0 hz1 (by decide) (by decide) x (by rfl) HLN.out ?_)
      | fail)
    refine HSP.out.mono ?_
    rintro e w2 ⟨A', n', c', hl, rfl, hown, hb2⟩
    have HO := Lib.hid hown
    have HLE := Lib.hid hl
    have B3 := Lib.hid hb2
    clear hb2 hown hl
    go_wp2_with fail
    go_ret
    exact ⟨A', n', c', HLE.out, rfl, HO.out, B3.out⟩
  | none =>
    rw [hF, firstV_none] at hfind
    have HF := Lib.hid hfind
    have HT : Hid (∀ w1, Below (w.heap.size + 2) (tabW w K cap x 106 42) w1 →
        Calls Try.prog 59 #[.slice A n c, .func (.func 60) #[] #[.pointer (some ⟨w.heap.size, 0, none⟩), .pointer (some ⟨w.heap.size + 1, 0, none⟩)]] w1
          fun e w' => e = .returned (firstV (overG ord L x)) ∧ Below w1.heap.size w1 w') := Lib.hid (fun w1 hb =>
      firstItem A n c _ _ (fun s => decide (0 < ord s x)) L w1 HN.out (by omega) HL.out ((HR.out.below (HBD.out _ hb).1).mono (HBD.out _ hb).1.size) (tellsPutItem w w1 K cap ord x hb hO hx))
    obtain ⟨i, hin, hLi, HQ, hV⟩ : ∃ i, i ≤ n ∧ Hid (putG ord L x = L.take i ++ [x] ++ L.drop i) ∧ Hid ((i = n ∧ overG ord L x = none) ∨ overG ord L x = some i) ∧ True := by
      cases hG : overG ord L x with
      | some i => exact ⟨i, by have := Pl.firstG_lt hG; omega, Lib.hid (by unfold putG; rw [hF]; simp only []; rw [hG]), Lib.hid (.inr rfl), trivial⟩
      | none => exact ⟨n, Nat.le_refl _, Lib.hid (by unfold putG; rw [hF]; simp only []; rw [hG]; rw [hn, List.take_length, List.drop_length, List.append_nil]), Lib.hid (.inl ⟨rfl, rfl⟩), trivial⟩
    clear hn hr hF hfind hL hx hO hz2 hz3
    go_enter Try.func35, Try.ntmps35
    go_wp2_with (first
      | (refine wpList_load_row rfl 42 (.tmp 5) rfl (w.heap.size + 1) rfl _ _ _ _ HBX0.out hu rfl HSZ.out ?_)
      | fail)
    refine HF.out.mono ?_
    rintro e w1 ⟨rfl, hb1⟩
    rw [HSB.out] at hb1
    have H1 := Lib.hid hb1
    clear hb1
    go_wp2_with fail
    refine (HT.out w1 H1.out).mono ?_
    rintro e w2 ⟨rfl, hb2⟩
    have H2 := Lib.hid (H1.out.trans (hb2.mono (HBD.out _ H1.out).2))
    clear hb2
    have HX := Lib.hid (HBX.out _ H2.out)
    obtain ⟨hb2, hs2⟩ := HBD.out _ H2.out
    have B2 := Lib.hid hb2
    clear hb2 HT
    have HSP : Hid (Calls Try.prog 58 #[.slice A n c, .int .i64 (i : Int), .int .i64 (i : Int), .slice (some ⟨w2.heap.size, 0, none⟩) 1 1] (w2.alloc (.cells x.toArray 42)) (NewItem w (putG ord L x))) := Lib.hid (by
      have B3 := B2.out.alloc B2.out.size (.cells x.toArray 42)
      refine (spliceItem A (some ⟨w2.heap.size, 0, none⟩) n c 1 1 i i L [x] _ HN.out rfl hnc hc (by omega) (by omega) hsz HL.out HX1.out ((HR.out.below B3).mono B3.size) ((row_one w2 x _).mono (by simp))).mono ?_
      rintro e w3 ⟨A', c', rfl, hown, hb3⟩
      refine ⟨A', _, c', ?_, rfl, ?_, B3.trans (hb3.mono B3.size)⟩
      · rw [hLi.out]; simp only [List.length_append, List.length_take, List.length_drop, List.length_cons, List.length_nil]
        have := HN.out
        omega
      · rw [hLi.out]; exact own_down hown B3.size)
    rcases HQ.out with ⟨he, ho⟩ | ho
    · subst he
      rw [ho, firstV_none]
      clear ho HQ
      go_wp2_with (first
        | (refine wpList_load_row rfl 42 (.tmp 5) rfl (w.heap.size + 1) rfl _ _ _ _ HX.out hu rfl HSZ.out ?_)
        | (refine wpList_buildOne rfl _ 42 _ rfl w2.heap.size rfl _ rfl i0 z0 14 Try.underlying22 hi0 hz0 hz1 (by decide) (by decide) x (by rfl) HLN.out ?_)
        | fail)
      refine HSP.out.mono ?_
      rintro e w3 ⟨A', n', c', hl, rfl, hown, hb4⟩
      have HO := Lib.hid hown
      have HLE := Lib.hid hl
      have B4 := Lib.hid hb4
      clear hb4 hown hl
      go_wp2_with fail
      go_ret
      exact ⟨A', n', c', HLE.out, rfl, HO.out, B4.out⟩
    · rw [ho, firstV_some]
      clear ho HQ
      go_wp2_with (first
        | (refine wpList_load_row rfl 42 (.tmp 5) rfl (w.heap.size + 1) rfl _ _ _ _ HX.out hu rfl HSZ.out ?_)
        | (refine wpList_buildOne rfl _ 42 _ rfl w2.heap.size rfl _ rfl i0 z0 14 Try.underlying22 hi0 hz0 hz1 (by decide) (by decide) x (by rfl) HLN.out ?_)
        | fail)
      refine HSP.out.mono ?_
      rintro e w3 ⟨A', n', c', hl, rfl, hown, hb4⟩
      have HO := Lib.hid hown
      have HLE := Lib.hid hl
      have B4 := Lib.hid hb4
      clear hb4 hown hl
      go_wp2_with fail
      go_ret
      exact ⟨A', n', c', HLE.out, rfl, HO.out, B4.out⟩
end Go.Proofs.Ytcihibmapbigdaa
