/-
  CONTRACTS of the code's Naive and Open. (By wip/tools/gen_ncode.py.)
-/
import Derived.Test.YtnkhnbpopdmkhaaGreatNStands
import Derived.Test.YtnkhnbpopdmkhaaGreatNTakes
import Derived.Test.YtnkhnbpopdmkhaaGreatNOrd
import Derived.Test.YtnkhnbpopdmkhaaGreatVSta
namespace Go.Proofs.YtnkhnbpopdmkhaaGreat
set_option linter.unusedVariables false
open Go.RowKit
open Pl (firstG findG putG It firstG_none firstG_some)

set_option maxRecDepth 100000 in
theorem inser0stand (A : Option Addr) (c K : Nat) (w : World) : Calls Tryz.prog 70 #[.slice A 0 c, .int .i64 0, .int .i64 0, .func (.func K) #[] #[]] w fun e w' => e = .returned (.tuple #[]) ∧ w' = w := by
  go_enter Tryz.func70, Tryz.ntmps70
  go_wp2_with fail
  go_loopw [8] (fun iv wr => iv = .int .i64 1 ∧ Hid (wr = w)) (fun _ _ => 0)
  case atStart => exact ⟨rfl, Lib.hid rfl⟩
  case round =>
    obtain ⟨rfl, hwr⟩ := hrel
    go_wp2_with fail
    go_end0
    exact ⟨rfl, hwr.out⟩
set_option maxRecDepth 100000 in
theorem stab0stand (A : Option Addr) (c K : Nat) (w : World) : Calls Tryz.prog 42 #[.slice A 0 c, .int .i64 0, .func (.func K) #[] #[]] w fun e w' => e = .returned (.tuple #[]) ∧ w' = w := by
  have HI := Lib.hid (inser0stand A c K)
  go_enter Tryz.func42, Tryz.ntmps42
  go_wp2_with fail
  go_loopw [7, 8] (fun av bv wr => av = .int .i64 0 ∧ bv = .int .i64 20 ∧ Hid (wr = w)) (fun _ _ _ => 0)
  case atStart => exact ⟨rfl, rfl, Lib.hid rfl⟩
  case round =>
    obtain ⟨rfl, rfl, hwr⟩ := hrel
    go_wp2_with fail
    refine (HI.out _).mono ?_
    rintro e w1 ⟨rfl, hw1⟩
    have HW1 : Hid (w1 = w) := Lib.hid (hw1.trans hwr.out)
    clear hw1
    go_wp2_with fail
    go_loopw [6, 7, 8, 9] (fun sv av bv mv wr => sv = .int .i64 20 ∧ Hid (wr = w1)) (fun _ _ _ _ _ => 0)
    case atStart => exact ⟨rfl, Lib.hid rfl⟩
    case round =>
      obtain ⟨rfl, hwr2⟩ := hrel
      go_wp2_with fail
      go_end0
      exact ⟨rfl, hwr2.out.trans HW1.out⟩
set_option maxRecDepth 100000 in
theorem sort0stand (A : Option Addr) (c K : Nat) (w : World) : Calls Tryz.prog 33 #[.slice A 0 c, .func (.func K) #[] #[]] w fun e w' => e = .returned (.tuple #[]) ∧ w' = w := by
  have HI := Lib.hid (stab0stand A c K)
  go_enter Tryz.func33, Tryz.ntmps33
  go_wp2_with fail
  refine (HI.out _).mono ?_
  rintro e w1 ⟨rfl, hw1⟩
  have HW1 := Lib.hid hw1
  clear hw1
  go_wp2_with fail
  go_end0
  exact ⟨rfl, HW1.out⟩
/-- The sort of a new row, empty or not. -/
theorem sortAllstand (B n c K : Nat) (A : Option Addr) (ord : List Value → List Value → Int) (L : List (List Value)) (w : World) (hn : n = L.length) (hn6 : n ≤ 4000) (hM : Things kstand L) (hT : TellsC kstand K ord) (hW : Pl.Weak (lessO ord)) (ho : w.ownsRow B 112 8 (.slice A n c) n L.flatten) (hB : B ≤ w.heap.size) :
    Calls Tryz.prog 33 #[.slice A n c, .func (.func K) #[] #[]] w fun e w' => e = .returned (.tuple #[]) ∧ ∃ C, Pl.Stb (lessO ord) C L ∧ Pl.Srt (lessO ord) C ∧ w'.ownsRow B 112 8 (.slice A n c) n C.flatten ∧ Below B w w' := by
  rcases Nat.eq_zero_or_pos n with h0 | h0
  · have hL : L = [] := List.length_eq_zero_iff.1 (by omega)
    subst h0 hL
    exact (sort0stand A c K w).mono (fun e w' ⟨he, hw⟩ => ⟨he, [], Pl.Stb.refl _ _, Pl.Srt.nil, by rw [hw]; exact ho, by rw [hw]; exact Below.refl _ _⟩)
  · obtain ⟨g, rfl⟩ := own_some ho h0
    exact sortstand B g n c K ord L w hn hn6 hM hT hW ho hB
theorem wrap_sub (n q h : Int) : wrap64 (wrap64 (n + q) - h) = wrap64 (n + wrap64 (q - h)) := by unfold wrap64; omega
theorem stands_free {L : Nat → List (List Value)} {t : Nat → Int} {I : List Nat} {item : ByteArray} (hI : ∀ i ∈ I, elN L item i = true) : ∀ e ∈ I.map (stA L t), 0 < (sdOf e).free := fun e he => by
  obtain ⟨i, hi, rfl⟩ := List.mem_map.1 he
  have h := hI i hi
  unfold elN elB at h
  simp only [Bool.and_eq_true, decide_eq_true_eq] at h
  exact h.2.2.1
theorem idx_free (L : Nat → List (List Value)) (item : ByteArray) : ∀ e ∈ idxL L item, 0 < (sdOf e).free := stands_free (fun i hi => ((Pl.ordN_iff _ _).1 hi).2)
theorem ord_free (L : Nat → List (List Value)) (item : ByteArray) : ∀ e ∈ (ordP L item).map (stA L (fun _ => 0)), 0 < (sdOf e).free := stands_free (fun i hi => ((Pl.ordN_iff _ _).1 hi).2)
theorem stands_len (L : Nat → List (List Value)) (item : ByteArray) : (standsL L item).length ≤ (L 4).length := by unfold standsL; rw [List.length_map]; exact List.length_filter_le _ _
/-- How much is open of a list of stands. -/
def openS (site : ByteArray) (S : List (List Value)) : Int := S.foldl (fun n e => if Pl.eqv (sdOf e).site site = true then wrap64 (n + (sdOf e).free) else n) 0
theorem openS_succ (site : ByteArray) (S : List (List Value)) {k : Nat} (hk : k < S.length) : openS site (S.take (k + 1)) = if Pl.eqv (sdOf S[k]).site site = true then wrap64 (openS site (S.take k) + (sdOf S[k]).free) else openS site (S.take k) := by
  unfold openS
  rw [List.take_succ_eq_append_getElem hk, List.foldl_append]
  rfl
theorem open_aux (LL LZ LB : List (List Value)) (s i : ByteArray) : ∀ (l : List (List Value)) (n : Int), ((l.filter (fun e => itB i e && elB LZ LB e)).map (fun e => stE LL LZ LB e 0)).foldl (fun n e => if Pl.eqv (sdOf e).site s = true then wrap64 (n + (sdOf e).free) else n) n =
    l.foldl (fun n e => if mayB LZ LB s i e = true then wrap64 (wrap64 (n + (qnOf e).qty) - (qnOf e).held) else n) n
  | [], _ => rfl
  | e :: l, n => by
    rw [List.foldl_cons, may_split]
    by_cases h : (itB i e && elB LZ LB e) = true
    · simp only [List.filter_cons, h, if_true, List.map_cons, List.foldl_cons, Bool.true_and]
      rw [open_aux LL LZ LB s i l]
      congr 1
      show (if Pl.eqv (siteT LZ LB (qnOf e).bin) s = true then wrap64 (n + frQ e) else n) = _
      unfold frQ
      rw [wrap_sub]
    · have h2 : (itB i e && elB LZ LB e) = false := by simpa using h
      simp only [List.filter_cons, h2, Bool.false_and]
      exact open_aux LL LZ LB s i l n
theorem open_of (L : Nat → List (List Value)) (s i : ByteArray) : openS s (standsL L i) = openZ L s i := open_aux (L 1) (L 2) (L 3) s i (L 4) 0
set_option maxRecDepth 100000 in
set_option maxHeartbeats 3200000 in
theorem cnaive (h : Hs) (L : Nat → List (List Value)) (s i : ByteArray) (q : Int) (w : World) (hh : HT h L w) (h6 : ∀ i, i < 14 → h.n i ≤ 1000) (hq : Wf q) :
    Calls Tryz.prog 9 #[.agg h.cells, .string s, .string i, .int .i64 q] w (TakesP (pickL L s i q) w) := by
  have HHT := Lib.hid hh
  have h4 := h6 4 (by decide)
  have HL4 : Hid ((L 4).length ≤ 1000) := Lib.hid (by rw [← (hh 4 (by decide)).1]; exact h4)
  have HQ := Lib.hid hq
  have H64 := Lib.hid h4
  clear hq h6 h4
  obtain ⟨W0, hW0⟩ : ∃ W0, W0 = (w.alloc (.cells h.cells 37)) := ⟨_, rfl⟩
  have hb0 : Below w.heap.size w W0 := by rw [hW0]; exact (Below.refl _ _).alloc (Nat.le_refl _) _
  have hs0 : W0.heap.size = w.heap.size + 1 := by rw [hW0]; simp
  have HH : Hid (∀ W, Below W0.heap.size W0 W → W.heap[w.heap.size]? = some (.cells h.cells 37 (0, 0))) := Lib.hid (fun W hW => (hW.block _ (by omega)).trans (by
    rw [hW0]
    have hq := heap_alloc_new w (.cells h.cells 37)
    exact (by simpa using hq)))
  have HBW : Hid (∀ W, Below W0.heap.size W0 W → Below w.heap.size w W ∧ w.heap.size + 1 ≤ W.heap.size) := Lib.hid (fun W hW => ⟨hb0.trans (hW.mono (by omega)), by have := hW.size; omega⟩)
  have huh := Tryz.underlying37
  have HSH : Hid (∀ a : Hs, (Tryz.prog.info? 37).map (·.size) = some a.cells.size) := Lib.hid (fun a => by kernel_rfl)
  have H0 := Lib.hid (Below.refl W0.heap.size W0)
  clear hb0 hs0 hh
  subst hW0
  go_enter Tryz.func9, Tryz.ntmps9
  go_wp2_with (first
    | (refine wpList_load_row rfl 37 (.tmp 4) rfl w.heap.size rfl _ _ _ _ (HH.out _ H0.out) huh rfl (HSH.out _) ?_)
    | fail)
  refine (cstands h L i _ (HHT.out.below (HBW.out _ H0.out).1) H64.out).mono ?_
  rintro e w1 ⟨A, n, cc, hn, rfl, hown, hb1, hsz1⟩
  have H1 := Lib.hid (H0.out.trans (hb1.mono H0.out.size))
  have HN := Lib.hid hn
  have HOW := Lib.hid hown
  have HSZ1 := Lib.hid hsz1
  clear hb1 hn hown hsz1
  go_wp2_with fail
  refine (sortAllstand _ n cc _ A ordS (standsL L i) _ HN.out (by have := HN.out; have := stands_len L i; have := HL4.out; omega) (stands_things L i) tellsS lessO_weak HOW.out HSZ1.out).mono ?_
  rintro e w2 ⟨rfl, Cc, hp, hs, hown, hb2⟩
  rw [lessO_S] at hp hs
  have HC := naive_list hs hp
  have HLE : Hid (n = Cc.length ∧ n ≤ 1000) := Lib.hid ⟨HN.out.trans hp.length_eq.symm, by have := HN.out; have := stands_len L i; have := HL4.out; omega⟩
  have HC2 := Lib.hid HC
  have HO2 := Lib.hid hown
  have H2 : Hid (Below w.heap.size w w2) := Lib.hid ((HBW.out _ H1.out).1.trans (hb2.mono (by simp <;> omega)))
  clear HC hp hs hown hb2
  go_wp2_with fail
  refine (ctakes A n cc Cc s q _ HLE.out.1 HLE.out.2 (by rw [HC2.out]; exact things_st _ _ _) (by rw [HC2.out]; exact ord_free L i) (Rd.of_own HO2.out) HQ.out).mono ?_
  rintro e w3 ⟨hb3, A3, c3, rfl, hr3⟩
  have H3 := Lib.hid (H2.out.trans (hb3.mono H2.out.size))
  have HR3 := Lib.hid hr3
  have HE : Hid (cutS s Cc q = pickL L s i q) := Lib.hid (by rw [HC2.out]; exact pick_of L _ s i q)
  clear hb3 hr3
  go_wp2_with fail
  go_ret
  exact ⟨H3.out, A3, c3, by rw [← HE.out]; rfl, by rw [← HE.out]; exact HR3.out⟩
set_option maxRecDepth 100000 in
set_option maxHeartbeats 3200000 in
theorem copen (h : Hs) (L : Nat → List (List Value)) (s i : ByteArray) (w : World) (hh : HT h L w) (h6 : ∀ i, i < 14 → h.n i ≤ 1000) :
    Calls Tryz.prog 11 #[.agg h.cells, .string s, .string i] w fun e w' => e = .returned (.int .i64 (openZ L s i)) ∧ Below w.heap.size w w' := by
  have HHT := Lib.hid hh
  have h4 := h6 4 (by decide)
  have HL4 : Hid ((L 4).length ≤ 1000) := Lib.hid (by rw [← (hh 4 (by decide)).1]; exact h4)
  have H64 := Lib.hid h4
  have huS := Tryz.underlying112
  have HSS8 : Hid ((Tryz.prog.info? 112).map (·.size) = some 8) := Lib.hid (by kernel_rfl)
  have H1R : Hid (∀ (a b c g : ByteArray) (d e f i : Int), (#[.string a, .string b, .string c, .int .i64 d, .string g, .int .i64 e, .int .i64 f, .int .i64 i] : Array Value).all (·.oneCell') = true) := Lib.hid (fun _ _ _ _ _ _ _ _ => by simp [Value.oneCell'])
  have HS8 : Hid (∀ (a b c g : ByteArray) (d e f i : Int), (Tryz.prog.info? 112).map (·.size) = some (#[.string a, .string b, .string c, .int .i64 d, .string g, .int .i64 e, .int .i64 f, .int .i64 i] : Array Value).size) := Lib.hid (fun _ _ _ _ _ _ _ _ => by kernel_rfl)
  obtain ⟨r, hr⟩ : ∃ r, openZ L s i = r := ⟨_, rfl⟩
  have HR0 : Hid (openS s (standsL L i) = r) := Lib.hid ((open_of L s i).trans hr)
  rw [hr]
  clear hr h6 h4
  obtain ⟨W0, hW0⟩ : ∃ W0, W0 = (w.alloc (.cells h.cells 37)) := ⟨_, rfl⟩
  have hb0 : Below w.heap.size w W0 := by rw [hW0]; exact (Below.refl _ _).alloc (Nat.le_refl _) _
  have hs0 : W0.heap.size = w.heap.size + 1 := by rw [hW0]; simp
  have HH : Hid (∀ W, Below W0.heap.size W0 W → W.heap[w.heap.size]? = some (.cells h.cells 37 (0, 0))) := Lib.hid (fun W hW => (hW.block _ (by omega)).trans (by
    rw [hW0]
    have hq := heap_alloc_new w (.cells h.cells 37)
    exact (by simpa using hq)))
  have HBW : Hid (∀ W, Below W0.heap.size W0 W → Below w.heap.size w W ∧ w.heap.size + 1 ≤ W.heap.size) := Lib.hid (fun W hW => ⟨hb0.trans (hW.mono (by omega)), by have := hW.size; omega⟩)
  have huh := Tryz.underlying37
  have HSH : Hid (∀ a : Hs, (Tryz.prog.info? 37).map (·.size) = some a.cells.size) := Lib.hid (fun a => by kernel_rfl)
  have H0 := Lib.hid (Below.refl W0.heap.size W0)
  clear hb0 hs0 hh
  subst hW0
  go_enter Tryz.func11, Tryz.ntmps11
  go_wp2_with (first
    | (refine wpList_load_row rfl 37 (.tmp 3) rfl w.heap.size rfl _ _ _ _ (HH.out _ H0.out) huh rfl (HSH.out _) ?_)
    | fail)
  refine (cstands h L i _ (HHT.out.below (HBW.out _ H0.out).1) H64.out).mono ?_
  rintro e w1 ⟨A, n, cc, hn, rfl, hown, hb1, hsz1⟩
  have H1 : Hid (Below w.heap.size w w1) := Lib.hid ((HBW.out _ (H0.out.trans (hb1.mono H0.out.size))).1)
  have HRD := Lib.hid (Rd.of_own hown)
  have HST := Lib.hid (stands_things L i)
  have hn6 : n ≤ 1000 := by rw [hn]; have := stands_len L i; have := HL4.out; omega
  obtain ⟨S, hS⟩ : ∃ S, standsL L i = S := ⟨_, rfl⟩
  rw [hS] at hn HRD HST HR0
  have HN := Lib.hid hn
  have HE : Hid (openS s (S.take n) = r) := Lib.hid (by rw [hn, List.take_length]; exact HR0.out)
  clear hb1 hn hown hS hsz1
  go_wp2_with fail
  go_loopw [7, 14] (fun v iv wr => ∃ k : Nat, k ≤ n ∧ iv = .int .i64 (k : Int) ∧ v = .int .i64 (openS s (S.take k)) ∧ Hid (Below w1.heap.size w1 wr)) (fun _ iv _ => n - (intOf iv).toNat)
  case atStart => exact ⟨0, by omega, rfl, rfl, Lib.hid (Below.refl _ _)⟩
  case round =>
    obtain ⟨k, hk, rfl, rfl, hw⟩ := hrel
    obtain ⟨z, hz⟩ : ∃ z, openS s (S.take k) = z := ⟨_, rfl⟩
    rw [hz]
    by_cases hlt : k < n
    · skip
      have hkl : k < S.length := by rw [← HN.out]; exact hlt
      obtain ⟨b, off, rfl, hb, hcs⟩ := HRD.out.thing HST.out (by decide) hkl
      have r1 := rangeAt_below (hcs k hkl) hb hw.out
      have hxe := sd_cells (HST.out _ (List.getElem_mem hkl))
      have hsu := openS_succ s S hkl
      rw [hz] at hsu
      obtain ⟨x, hx⟩ : ∃ x, sdOf S[k] = x := ⟨_, rfl⟩
      rw [hx] at hxe hsu
      rw [hxe] at r1
      obtain ⟨sb, si, sl, ss, sg, sd, stw, sf⟩ := x
      unfold Sd.cells at r1
      simp only [] at hsu
      have hof : off + k * kstand.length = off + k * 8 := rfl
      rw [hof] at r1
      have HR1 := Lib.hid r1
      have HSU := Lib.hid hsu
      have hbl : b < wr.heap.size := Nat.lt_of_lt_of_le hb hw.out.size
      clear hcs hxe hx hsu r1 hkl hof hb hz
      have h1 : (0 : Int) ≤ (k : Int) := by omega
      have h2 : (k : Int) < (n : Int) := by omega
      have HBX : Hid ((wr.alloc (.cells #[.string ⟨#[]⟩, .string ⟨#[]⟩, .string ⟨#[]⟩, .int .i64 0, .string ⟨#[]⟩, .int .i64 0, .int .i64 0, .int .i64 0] 112)).heap[wr.heap.size]? = some (.cells #[.string ⟨#[]⟩, .string ⟨#[]⟩, .string ⟨#[]⟩, .int .i64 0, .string ⟨#[]⟩, .int .i64 0, .int .i64 0, .int .i64 0] 112 (0, 0))) := Lib.hid (heap_alloc_new _ _)
      obtain ⟨w3, hw3⟩ : ∃ W, W = (wr.alloc (.cells #[.string ⟨#[]⟩, .string ⟨#[]⟩, .string ⟨#[]⟩, .int .i64 0, .string ⟨#[]⟩, .int .i64 0, .int .i64 0, .int .i64 0] 112)).setRow wr.heap.size #[.string sb, .string si, .string sl, .int .i64 ss, .string sg, .int .i64 sd, .int .i64 stw, .int .i64 sf] := ⟨_, rfl⟩
      have HB1 : Hid (Below wr.heap.size wr w3) := Lib.hid (by rw [hw3]; exact setRow_below ((Below.refl _ _).alloc (Nat.le_refl _) _) (Nat.le_refl _) _)
      have H3 := Lib.hid (hw.out.trans (HB1.out.mono hw.out.size))
      have HQB : Hid (w3.heap[wr.heap.size]? = some (.cells #[.string sb, .string si, .string sl, .int .i64 ss, .string sg, .int .i64 sd, .int .i64 stw, .int .i64 sf] 112 (0, 0))) := Lib.hid (by rw [hw3]; exact setRow_heap _ _ _ _ _ _ HBX.out)
      have HW3 := Lib.hid hw3
      clear hw3
      go_upto_region 5 with (first
        | (refine wpList_load_mid rfl 112 (.tmp 16) rfl b (off + k * 8) rfl [.string sb, .string si, .string sl, .int .i64 ss, .string sg, .int .i64 sd, .int .i64 stw, .int .i64 sf] _ HR1.out huS rfl HSS8.out ?_)
        | (refine wpList_store_row rfl 112 (.tmp 9) (.tmp 17) rfl wr.heap.size #[.string sb, .string si, .string sl, .int .i64 ss, .string sg, .int .i64 sd, .int .i64 stw, .int .i64 sf] rfl rfl _ _ HBX.out (HS8.out _ _ _ _ _ _ _ _) rfl (H1R.out _ _ _ _ _ _ _ _) ?_)
        | fail)
      rw [← HW3.out]
      have y4 : w3.cell? ⟨wr.heap.size, 4, none⟩ = some (.string sg) := by rw [cell_of_block HQB.out]; rfl
      have y7 : w3.cell? ⟨wr.heap.size, 7, none⟩ = some (.int .i64 sf) := by rw [cell_of_block HQB.out]; rfl
      have ylt : wr.heap.size < w3.heap.size := lt_of_block HQB.out
      clear hbl h1 h2
      cases hv : Pl.eqv sg s with
      | false =>
        have hv1 : (sg.toList == s.toList) = false := hv
        have HV : Hid (openS s (S.take (k + 1)) = z) := Lib.hid (by rw [HSU.out, if_neg (by rw [hv]; simp)])
        clear hv
        go_wp2_with fail
        go_roundw
        case rel => exact ⟨k + 1, by omega, by go_num, by rw [HV.out], H3⟩
        case measure => simp [intOf]; omega
      | true =>
        have hv1 : (sg.toList == s.toList) = true := hv
        have HV : Hid (openS s (S.take (k + 1)) = wrap64 (z + sf)) := Lib.hid (by rw [HSU.out, if_pos hv])
        clear hv
        go_wp2_with fail
        go_roundw
        case rel => exact ⟨k + 1, by omega, by go_num, by rw [HV.out], H3⟩
        case measure => simp [intOf]; omega
    · obtain rfl : k = n := by omega
      have HZ : Hid (r = z) := Lib.hid (HE.out.symm.trans hz)
      clear hz hlt
      go_wp2_with fail
      go_ret
      exact ⟨by rw [HZ.out]; rfl, H1.out.trans (hw.out.mono H1.out.size)⟩
end Go.Proofs.YtnkhnbpopdmkhaaGreat
