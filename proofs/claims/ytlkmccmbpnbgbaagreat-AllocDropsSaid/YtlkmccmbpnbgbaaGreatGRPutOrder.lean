/-
 CONTRACT of the rows' put, for things of one kind. (By wip/tools/gen_table.py.)
-/
import Derived.Test.YtlkmccmbpnbgbaaGreatGT
import Derived.Test.YtlkmccmbpnbgbaaGreatHA
namespace Go.Proofs.YtlkmccmbpnbgbaaGreat
set_option linter.unusedVariables false
open Go.RowKit
open Pl (firstG firstG_none firstG_some findG overG putG insK insS insK_succ insK_len insK_put put_set)

set_option maxRecDepth 100000 in
set_option maxHeartbeats 3200000 in
theorem rputOrder (A : Option Addr) (n c K : Nat) (ord : List Value → List Value → Int) (x : List Value) (L : List (List Value)) (w : World) (hn : n = L.length) (hsz : n + 1 ≤ 100000) (hL : Things kOrder L) (hx : Fits kOrder x)
 (hr : Rd w w.heap.size A L.flatten) (hO : TellsO kOrder w K #[] ord) :
 Calls Tryz.prog 84 #[.slice A n c, .agg x.toArray, .func (.func K) #[] #[]] w (NewOrder w (putG ord L x)) := by
 obtain ⟨i0, z0, hi0, hz0', hz1, hz2, hz3⟩ := info_thing (P := Tryz.prog) (T := 42) (sz := 50) (by kernel_rfl)
 have hent := hO.1
 have HO := Lib.hid hO
 have HN := Lib.hid hn
 have HL := Lib.hid hL
 have HX := Lib.hid hx
 have HR := Lib.hid hr
 have hu := Tryz.underlying42
 have HSZ : Hid (∀ y, Fits kOrder y → (Tryz.prog.info? 42).map (·.size) = some y.length) := Lib.hid (fun y hy => by rw [show (Tryz.prog.info? 42).map (·.size) = some 50 from by kernel_rfl, hy.length]; rfl)
 have HIX : Hid ((Tryz.prog.info? 42).map (·.size) = some x.length) := Lib.hid (HSZ.out x hx)
 have HIXA : Hid ((Tryz.prog.info? 42).map (·.size) = some x.toArray.size) := Lib.hid (by rw [List.size_toArray]; exact HIX.out)
 have HXL : Hid (x.length = 50) := Lib.hid (by rw [hx.length]; rfl)
 have HX1 := Lib.hid (fits_one hx)
 have HOC : Hid (x.toArray.all (·.oneCell') = true) := Lib.hid (all_oneCell_toArray (fits_one hx))
 have HBY : Hid (∀ m, m ≤ 200000 → m * i0.bytes ≤ 140737488355328) := Lib.hid (fun m hm => Nat.le_trans (Nat.mul_le_mul hm hz3) (by decide))
 have HB0 : Hid (Below w.heap.size w (w.alloc (.cells x.toArray 42))) := Lib.hid ((Below.refl _ _).alloc (Nat.le_refl _) _)
 have HS0 : Hid ((w.alloc (.cells x.toArray 42)).heap.size = w.heap.size + 1) := Lib.hid (by simp)
 have HX0 : Hid (∀ W, Below (w.heap.size + 1) (w.alloc (.cells x.toArray 42)) W → W.heap[w.heap.size]? = some (.cells x.toArray 42 (0, 0))) := Lib.hid (fun W hW => (hW.block _ (by omega)).trans (heap_alloc_new _ _))
 have HXR : Hid (∀ W, Below (w.heap.size + 1) (w.alloc (.cells x.toArray 42)) W → W.rangeAt w.heap.size 0 x) := Lib.hid (fun W hW i v hv => by rw [cell_of_block (HX0.out W hW), List.getElem?_toArray, Nat.zero_add]; exact hv)
 have HBW : Hid (∀ W, Below (w.heap.size + 1) (w.alloc (.cells x.toArray 42)) W → Below w.heap.size w W ∧ w.heap.size + 1 ≤ W.heap.size) := Lib.hid (fun W hW => ⟨HB0.out.trans (hW.mono (by omega)), by have := hW.size; rw [HS0.out] at this; exact this⟩)
 have HLF : Hid (L.flatten.length = n * 50) := Lib.hid (by rw [flat_length hL.len, hn]; rfl)
 clear hn hL hx hr hO hz3
 go_enter Tryz.func84, Tryz.ntmps84
 go_wp2_with fail
 go_loopw [7, 8] (fun v i wr => ∃ k : Nat, k ≤ n ∧ i = .int .i64 (k : Int) ∧ v = .slice none 0 0 ∧ Hid (∀ j (hj : j < L.length), j < k → (ord L[j] x == 0) = false) ∧ Hid (Below (w.heap.size + 1) (w.alloc (.cells x.toArray 42)) wr)) (fun _ i _ => n - (intOf i).toNat)
 case atStart => exact ⟨0, by omega, rfl, rfl, Lib.hid (fun j hj h => by omega), Lib.hid (Below.refl _ _)⟩
 case round =>
  obtain ⟨k, hkn, rfl, rfl, hno, hbel⟩ := hrel
  by_cases hlt : k < n
  · have hl : k < L.length := by rw [← HN.out]; exact hlt
    obtain ⟨b, off, rfl, hb, hc⟩ := HR.out.thing HL.out (by decide) hl
    have fe := HL.out _ (List.getElem_mem hl)
    have r0 := hc k hl
    rw [show kOrder.length = 50 from rfl] at r0
    obtain ⟨e, he⟩ : ∃ e, L[k] = e := ⟨_, rfl⟩
    rw [he] at fe r0
    have HE := Lib.hid he
    have HF := Lib.hid fe
    have HST : Hid (∀ W, Below (w.heap.size + 1) (w.alloc (.cells x.toArray 42)) W → W.rangeAt b (off + k * 50) e ∧ W.rangeAt w.heap.size 0 x) := Lib.hid (fun W hW => ⟨rangeAt_below r0 hb (HBW.out W hW).1, HXR.out W hW⟩)
    have HIE : Hid ((Tryz.prog.info? 42).map (·.size) = some e.length) := Lib.hid (HSZ.out e fe)
    have h1 : (0 : Int) ≤ (k : Int) := by omega
    have h2 : (k : Int) < (n : Int) := by omega
    clear hc r0 he fe
    obtain ⟨z, hz⟩ : ∃ z, ord e x = z := ⟨_, rfl⟩
    have HOR : Hid (∀ W, Below (w.heap.size + 1) (w.alloc (.cells x.toArray 42)) W → Calls Tryz.prog K #[.agg e.toArray, .agg x.toArray] W fun r W' => r = .returned (.int .i64 z) ∧ Below W.heap.size W W') := Lib.hid (fun W hW => by
     have := HO.out.2 W (HBW.out W hW).1 e x HF.out HX.out
     rw [hz] at this
     exact this)
    have HZ := Lib.hid hz
    clear hz
    have ST0 := HST.out _ hbel.out.drew
    have TAKES : True := trivial
    by_cases hz0 : (z == 0) = true
    · go_wp2_with fail
      refine wp_region_noPanic ?_
      refine wp_region_held_drew (S := (fun w' => w'.rangeAt b (off + k * 50) e ∧ w'.rangeAt w.heap.size 0 x)) (by kernel_rfl) ST0 (fun dd0 => ?_)
      refine tkE 0 (.func (.func K) #[] #[]) rfl ?_
      (try simp only [ax])
      refine tkE 1 (.slice (some ⟨b, off, none⟩) n c) rfl ?_
      (try simp only [ax])
      refine tkE 2 (.int .i64 (k : Int)) rfl ?_
      (try simp only [ax])
      refine tkE 3 (.pointer (some ⟨b, off + k * 50, none⟩)) rfl ?_
      (try simp only [ax])
      refine tkF 4 (.agg e.toArray) rfl (yieldsIf_load_mid (by kernel_rfl) 42 (.tmp 20) rfl b (off + k * 50) rfl e _ (fun w h => h.1) hu rfl HIE.out) ?_
      (try simp only [ax])
      refine tkF 5 (.agg x.toArray) rfl (yieldsIf_load_mid (by kernel_rfl) 42 (.tmp 4) rfl w.heap.size 0 rfl x _ (fun w h => h.2) hu rfl HIX.out) ?_
      (try simp only [ax])
      refine wpAnyH_ready (rs := [6]) (by kernel_rfl) (by simp) ?_
      refine AllReadyH.cons rfl (fun K' hK => ?_) AllReadyH.nil
      go_simp
      refine (HOR.out _ hbel.out.drew).mono ?_
      rintro r w1 ⟨rfl, hb1⟩
      have H1 := Lib.hid (hbel.out.drew.trans (hb1.mono (by have := (HBW.out _ hbel.out).2; simpa using this)))
      clear hb1
      refine hK.out _ _ (HST.out _ H1.out) (fun _ => ?_)
      clear hK K'
      (try simp only [ax])
      refine tkE 7 (.bool (z == 0)) rfl ?_
      (try simp only [ax])
      refine wpAnyH_done (by kernel_rfl) ?_ _
      refine NoPanic.normal ?_
      rw [hz0]
      have HX1 := Lib.hid (HX0.out _ H1.out)
      have HB1 := Lib.hid (HBW.out _ H1.out)
      clear ST0 TAKES
      go_wp2_with (first
       | (at_builtin; refine wpList_app rfl (.tmp 25) (.tmp 26) _ rfl w1.heap.size 42 i0 z0 50 i0.bytes Tryz.underlying29 hi0 hz0' hz1 rfl hz2 (by decide) none 0 0 [] rfl (World.ownsRow_nil _ _ _ _) w.heap.size _ n c L.flatten rfl HLF.out (HR.out.below HB1.out.1) (things_one HL.out) (by simp only [maxLen]; omega) (HBY.out _ (by omega)) (Nat.le_refl _) ?_; intro A3 c3 w2 hown2 hb2; simp only [Nat.zero_add, List.nil_append] at hown2; obtain ⟨g, rfl⟩ := own_some hown2 (by omega); have hg := own_base hown2 g rfl; have HO2 := Lib.hid hown2; have HB2 := Lib.hid hb2; have HX2 := Lib.hid ((hb2.block _ (lt_of_block HX1.out)).trans HX1.out); have HTH := Lib.hid (own_there hown2 (show ∀ e ∈ L, e.length = 50 from HL.out.len) HN.out hlt); clear hown2 hb2)
       | (refine wpList_load_row rfl 42 (.tmp 4) rfl w.heap.size rfl _ _ _ _ HX2.out hu rfl HIXA.out ?_)
       | (refine wpList_store_mid rfl 42 (.tmp 31) (.tmp 30) rfl g (k * 50) x.toArray rfl rfl (by rw [List.size_toArray, HXL.out]; exact HTH.out) HIXA.out HOC.out ?_)
       | fail)
      go_ret
      have hS := own_thing HO2.out hg (show ∀ e ∈ L, e.length = 50 from HL.out.len) HXL.out hl
      have hP : putG ord L x = L.set k x := put_set ord x L k (Pl.firstG_some hl (fun j hj hjk => hno.out j hj hjk) (by rw [HE.out, HZ.out]; exact hz0))
      refine ⟨_, n, c3, by rw [hP, List.length_set]; exact HN.out, rfl, ?_, HB1.out.1.trans ((HB2.out.trans hS.2).mono (by have := HB1.out.2; omega))⟩
      rw [hP]
      exact own_down hS.1 (by have := HB1.out.2; omega)
    · go_wp2_with fail
      refine wp_region_noPanic ?_
      refine wp_region_held_drew (S := (fun w' => w'.rangeAt b (off + k * 50) e ∧ w'.rangeAt w.heap.size 0 x)) (by kernel_rfl) ST0 (fun dd0 => ?_)
      refine tkE 0 (.func (.func K) #[] #[]) rfl ?_
      (try simp only [ax])
      refine tkE 1 (.slice (some ⟨b, off, none⟩) n c) rfl ?_
      (try simp only [ax])
      refine tkE 2 (.int .i64 (k : Int)) rfl ?_
      (try simp only [ax])
      refine tkE 3 (.pointer (some ⟨b, off + k * 50, none⟩)) rfl ?_
      (try simp only [ax])
      refine tkF 4 (.agg e.toArray) rfl (yieldsIf_load_mid (by kernel_rfl) 42 (.tmp 20) rfl b (off + k * 50) rfl e _ (fun w h => h.1) hu rfl HIE.out) ?_
      (try simp only [ax])
      refine tkF 5 (.agg x.toArray) rfl (yieldsIf_load_mid (by kernel_rfl) 42 (.tmp 4) rfl w.heap.size 0 rfl x _ (fun w h => h.2) hu rfl HIX.out) ?_
      (try simp only [ax])
      refine wpAnyH_ready (rs := [6]) (by kernel_rfl) (by simp) ?_
      refine AllReadyH.cons rfl (fun K' hK => ?_) AllReadyH.nil
      go_simp
      refine (HOR.out _ hbel.out.drew).mono ?_
      rintro r w1 ⟨rfl, hb1⟩
      have H1 := Lib.hid (hbel.out.drew.trans (hb1.mono (by have := (HBW.out _ hbel.out).2; simpa using this)))
      clear hb1
      refine hK.out _ _ (HST.out _ H1.out) (fun _ => ?_)
      clear hK K'
      (try simp only [ax])
      refine tkE 7 (.bool (z == 0)) rfl ?_
      (try simp only [ax])
      refine wpAnyH_done (by kernel_rfl) ?_ _
      refine NoPanic.normal ?_
      have hz1' : (z == 0) = false := by simpa using hz0
      rw [hz1']
      have HNO : Hid (∀ j (hj : j < L.length), j < k + 1 → (ord L[j] x == 0) = false) := Lib.hid (fun j hj hjk => by
       by_cases e' : j = k
       · subst e'; rw [HE.out, HZ.out]; exact hz1'
       · exact hno.out j hj (by omega))
      clear ST0 TAKES
      go_wp2_with fail
      go_roundw
      case rel => exact ⟨k + 1, by omega, by go_num, rfl, HNO, H1⟩
      case measure => simp [intOf]; omega
  · have HFN : Hid (findG ord L x = none) := Lib.hid (Pl.firstG_none (fun j hj => hno.out j hj (by have := HN.out; omega)))
    have HPN := Lib.hid (insK_put ord x L HFN.out)
    go_wp2_with fail
    obtain ⟨w1, rfl⟩ : ∃ w1, w1 = wr := ⟨_, rfl⟩
    have HW1 := Lib.hid hbel.out
    have HS1 := Lib.hid (HBW.out _ HW1.out).2
    clear hno hbel hlt hkn HFN
    go_loopw [7, 9, 10] (fun v d i wr => ∃ (k m c' : Nat) (A' : Option Addr) (b : Bool), k ≤ n ∧ i = .int .i64 (k : Int) ∧ m ≤ n + 1 ∧ v = .slice A' m c' ∧ d = .bool b ∧ Hid (m = (insK ord x L k).1.length ∧ b = (insK ord x L k).2) ∧
     Hid (wr.ownsRow w1.heap.size 42 50 (.slice A' m c') m (insK ord x L k).1.flatten) ∧ Hid (Below w1.heap.size w1 wr)) (fun _ _ i _ => n - (intOf i).toNat)
    case atStart => exact ⟨0, 0, 0, none, false, by omega, rfl, by omega, rfl, rfl, Lib.hid ⟨rfl, rfl⟩, Lib.hid (by simpa [insK] using World.ownsRow_nil _ _ _ _), Lib.hid (Below.refl _ _)⟩
    case round =>
     obtain ⟨k, m, c', A', d, hk, rfl, hm1, rfl, rfl, hmd, hown, hbr⟩ := hrel
     have HGO : Hid (∀ W, Below wr.heap.size wr W → Below (w.heap.size + 1) (w.alloc (.cells x.toArray 42)) W) := Lib.hid (fun W hW => HW1.out.trans ((hbr.out.trans (hW.mono hbr.out.size)).mono HS1.out))
     have HGB : Hid (∀ W, Below wr.heap.size wr W → Below w1.heap.size w1 W) := Lib.hid (fun W hW => hbr.out.trans (hW.mono hbr.out.size))
     by_cases hlt : k < n
     · have hl : k < L.length := by rw [← HN.out]; exact hlt
       obtain ⟨b, off, rfl, hb, hc⟩ := HR.out.thing HL.out (by decide) hl
       have fe := HL.out _ (List.getElem_mem hl)
       have r0 := hc k hl
       rw [show kOrder.length = 50 from rfl] at r0
       have hK := insK_succ ord x L k hl
       have hL1 := insK_len ord x L (k + 1)
       obtain ⟨e, he⟩ : ∃ e, L[k] = e := ⟨_, rfl⟩
       rw [he] at fe r0 hK
       have HF := Lib.hid fe
       have HST0 : Hid (∀ W, Below w1.heap.size w1 W → W.rangeAt b (off + k * 50) e ∧ W.rangeAt w.heap.size 0 x) := Lib.hid (fun W hW => by
        have h := HW1.out.trans (hW.mono HS1.out)
        exact ⟨rangeAt_below r0 hb (HBW.out W h).1, HXR.out W h⟩)
       have HST : Hid (∀ W, Below wr.heap.size wr W → W.rangeAt b (off + k * 50) e ∧ W.rangeAt w.heap.size 0 x) := Lib.hid (fun W hW => ⟨rangeAt_below r0 hb (HBW.out W (HGO.out W hW)).1, HXR.out W (HGO.out W hW)⟩)
       have HIE : Hid ((Tryz.prog.info? 42).map (·.size) = some e.length) := Lib.hid (HSZ.out e fe)
       have HEL : Hid (e.length = 50) := Lib.hid (by rw [fe.length]; rfl)
       have HE1 := Lib.hid (fits_one fe)
       have h1 : (0 : Int) ≤ (k : Int) := by omega
       have h2 : (k : Int) < (n : Int) := by omega
       have hL2 : (insK ord x L (k + 1)).1.length ≤ n + 1 := by split at hL1 <;> omega
       clear hc r0 he fe hL1
       obtain ⟨z, hz⟩ : ∃ z, ord e x = z := ⟨_, rfl⟩
       rw [show insS ord x (insK ord x L k) e = if !d && decide (0 < z) then ((insK ord x L k).1 ++ [x] ++ [e], true) else ((insK ord x L k).1 ++ [e], d) from by unfold insS; rw [← hmd.out.2, hz]] at hK
       have HOR : Hid (∀ W, Below wr.heap.size wr W → Calls Tryz.prog K #[.agg e.toArray, .agg x.toArray] W fun r W' => r = .returned (.int .i64 z) ∧ Below W.heap.size W W') := Lib.hid (fun W hW => by
        have := HO.out.2 W (HBW.out W (HGO.out W hW)).1 e x HF.out HX.out
        rw [hz] at this
        exact this)
       have ST0 := HST.out _ (Below.refl wr.heap.size wr).drew
       clear hz
       cases d with
       | true =>
        have HXK := Lib.hid (show insK ord x L (k + 1) = ((insK ord x L k).1 ++ [e], true) from by rw [hK]; rfl)
        rw [HXK.out] at hL2
        have hmm : m + 1 ≤ n + 1 := by have := hmd.out.1; simp only [List.length_append, List.length_cons, List.length_nil] at hL2; omega
        clear hK hL2
        go_wp2_with fail
        refine wp_region_noPanic ?_
        refine wp_region_held_drew (S := (fun w' => w'.rangeAt b (off + k * 50) e ∧ w'.rangeAt w.heap.size 0 x)) (by kernel_rfl) ST0 (fun dd0 => ?_)
        refine tkE 0 (.bool true) rfl ?_
        (try simp only [ax])
        refine tkE 1 (.bool false) rfl ?_
        (try simp only [ax])
        refine tkE 2 (.bool false) rfl ?_
        (try simp only [ax])
        refine tkF 3 (undef) rfl (.inr ⟨by kernel_rfl, rfl⟩) ?_
        (try simp only [ax])
        refine tkF 4 (undef) rfl (.inr ⟨by kernel_rfl, rfl⟩) ?_
        (try simp only [ax])
        refine tkF 5 (undef) rfl (.inr ⟨by kernel_rfl, rfl⟩) ?_
        (try simp only [ax])
        refine tkF 6 (undef) rfl (.inr ⟨by kernel_rfl, rfl⟩) ?_
        (try simp only [ax])
        refine tkF 7 (undef) rfl (.inr ⟨by kernel_rfl, rfl⟩) ?_
        (try simp only [ax])
        refine tkF 8 (undef) rfl (.inr ⟨by kernel_rfl, rfl⟩) ?_
        (try simp only [ax])
        refine tkF 9 (undef) rfl (.inr ⟨by kernel_rfl, rfl⟩) ?_
        (try simp only [ax])
        refine tkF 10 (undef) rfl (.inr ⟨by kernel_rfl, rfl⟩) ?_
        (try simp only [ax])
        refine tkE 11 (.bool false) rfl ?_
        (try simp only [ax])
        refine wpAnyH_done (by kernel_rfl) ?_ _
        refine NoPanic.normal ?_
        have HO2 := Lib.hid (own_below hown.out (Below.refl wr.heap.size wr).drew)
        have H2 := Lib.hid ((Below.refl wr.heap.size wr).drew)
        have HX2 := Lib.hid (HST.out _ H2.out)
        obtain ⟨w2, hw2⟩ : ∃ w2, w2 = wr.drew := ⟨_, rfl⟩
        rw [← hw2] at HO2 H2 HX2 ⊢
        clear hw2 ST0 dd0 hown
        have HG2 := Lib.hid (HGB.out _ H2.out)
        have HG3 : Hid (w1.heap.size ≤ (w2.alloc (.cells e.toArray 42)).heap.size) := Lib.hid (by have := HG2.out.size; simp; omega)
        go_wp2_with (first
         | (refine wpList_load_mid rfl 42 (.tmp 58) rfl b (off + k * 50) rfl e _ HX2.out.1 hu rfl HIE.out ?_)
         | (refine wpList_buildOne rfl _ 42 _ rfl w2.heap.size rfl _ rfl i0 z0 50 Tryz.underlying29 hi0 hz0' hz1 (by decide) (by decide) e (by rfl) HEL.out ?_)
         | (at_builtin; refine wpList_app rfl (.tmp 55) (.tmp 60) _ rfl w1.heap.size 42 i0 z0 50 i0.bytes Tryz.underlying29 hi0 hz0' hz1 rfl hz2 (by decide) _ _ _ _ rfl (HO2.out.alloc _) (w2.heap.size + 1) (some ⟨w2.heap.size, 0, none⟩) 1 1 e rfl HEL.out (rd_one w2 e _) HE1.out (by simp only [maxLen]; omega) (HBY.out _ (by omega)) HG3.out ?_; intro A6 c6 w5 hown5 hb5; have HO5 := Lib.hid hown5; have HB5 := Lib.hid ((HG2.out.alloc HG2.out.size (.cells e.toArray 42)).trans hb5); clear hown5 hb5)
         | fail)
        go_roundw
        case rel => exact ⟨k + 1, m + 1, c6, A6, true, by omega, by go_num, by omega, rfl, rfl, Lib.hid ⟨by rw [HXK.out]; simp only [List.length_append, List.length_cons, List.length_nil]; have := hmd.out.1; omega, by rw [HXK.out]⟩, Lib.hid (by rw [HXK.out]; simp only [List.flatten_append, List.flatten_cons, List.flatten_nil, List.append_nil]; exact HO5.out), HB5⟩
        case measure => simp [intOf]; omega
       | false =>
        by_cases hz0 : 0 < z
        · have HXK := Lib.hid (show insK ord x L (k + 1) = ((insK ord x L k).1 ++ [x] ++ [e], true) from by rw [hK, if_pos (by simpa using hz0)])
          rw [HXK.out] at hL2
          have hmm : m + 1 + 1 ≤ n + 1 := by have := hmd.out.1; simp only [List.length_append, List.length_cons, List.length_nil] at hL2; omega
          clear hK hL2
          go_wp2_with fail
          refine wp_region_noPanic ?_
          refine wp_region_held_drew (S := (fun w' => w'.rangeAt b (off + k * 50) e ∧ w'.rangeAt w.heap.size 0 x)) (by kernel_rfl) ST0 (fun dd0 => ?_)
          refine tkE 0 (.bool false) rfl ?_
          (try simp only [ax])
          refine tkE 1 (.bool true) rfl ?_
          (try simp only [ax])
          refine tkE 2 (.bool true) rfl ?_
          (try simp only [ax])
          refine tkE 3 (.func (.func K) #[] #[]) rfl ?_
          (try simp only [ax])
          refine tkE 4 (.slice (some ⟨b, off, none⟩) n c) rfl ?_
          (try simp only [ax])
          refine tkE 5 (.int .i64 (k : Int)) rfl ?_
          (try simp only [ax])
          refine tkE 6 (.pointer (some ⟨b, off + k * 50, none⟩)) rfl ?_
          (try simp only [ax])
          refine tkF 7 (.agg e.toArray) rfl (yieldsIf_load_mid (by kernel_rfl) 42 (.tmp 45) rfl b (off + k * 50) rfl e _ (fun w h => h.1) hu rfl HIE.out) ?_
          (try simp only [ax])
          refine tkF 8 (.agg x.toArray) rfl (yieldsIf_load_mid (by kernel_rfl) 42 (.tmp 4) rfl w.heap.size 0 rfl x _ (fun w h => h.2) hu rfl HIX.out) ?_
          (try simp only [ax])
          refine wpAnyH_ready (rs := [9]) (by kernel_rfl) (by simp) ?_
          refine AllReadyH.cons rfl (fun K' hK => ?_) AllReadyH.nil
          go_simp
          refine (HOR.out _ (Below.refl wr.heap.size wr).drew).mono ?_
          rintro r w2 ⟨rfl, hb2⟩
          have H2 : Hid (Below wr.heap.size wr w2) := Lib.hid ((Below.refl wr.heap.size wr).drew.trans hb2)
          have HO2 := Lib.hid (own_below hown.out H2.out)
          have HX2 := Lib.hid (HST.out _ H2.out)
          clear hb2
          refine hK.out _ _ (HST.out _ H2.out) (fun _ => ?_)
          clear hK K'
          (try simp only [ax])
          refine tkE 10 (.bool true) rfl ?_
          (try simp only [ax])
          refine tkE 11 (.bool true) rfl ?_
          (try simp only [ax])
          refine wpAnyH_done (by kernel_rfl) ?_ _
          refine NoPanic.normal ?_
          clear ST0 dd0 hown
          have HG2 := Lib.hid (HGB.out _ H2.out)
          have HG3 : Hid (w1.heap.size ≤ (w2.alloc (.cells x.toArray 42)).heap.size) := Lib.hid (by have := HG2.out.size; simp; omega)
          have HX3 := Lib.hid (HX0.out _ (HGO.out _ H2.out))
          have HS4 : Hid (∀ W, Below w1.heap.size (w2.alloc (.cells x.toArray 42)) W → W.rangeAt b (off + k * 50) e ∧ W.rangeAt w.heap.size 0 x) := Lib.hid (fun W hW => HST0.out W ((HG2.out.alloc HG2.out.size _).trans hW))
          go_wp2_with (first
           | (refine wpList_load_row rfl 42 (.tmp 4) rfl w.heap.size rfl _ _ _ _ HX3.out hu rfl HIXA.out ?_)
           | (refine wpList_load_mid rfl 42 (.tmp 58) rfl b (off + k * 50) rfl e _ HX4.out.1 hu rfl HIE.out ?_)
           | (refine wpList_buildOne rfl _ 42 _ rfl w2.heap.size rfl _ rfl i0 z0 50 Tryz.underlying29 hi0 hz0' hz1 (by decide) (by decide) x (by rfl) HXL.out ?_)
           | (refine wpList_buildOne rfl _ 42 _ rfl w4.heap.size rfl _ rfl i0 z0 50 Tryz.underlying29 hi0 hz0' hz1 (by decide) (by decide) e (by rfl) HEL.out ?_)
           | (at_builtin; refine wpList_app rfl (.tmp 51) (.tmp 53) _ rfl w1.heap.size 42 i0 z0 50 i0.bytes Tryz.underlying29 hi0 hz0' hz1 rfl hz2 (by decide) _ _ _ _ rfl (HO2.out.alloc _) (w2.heap.size + 1) (some ⟨w2.heap.size, 0, none⟩) 1 1 x rfl HXL.out (rd_one w2 x _) HX1.out (by simp only [maxLen]; omega) (HBY.out _ (by omega)) HG3.out ?_; intro A4 c4 w4 hown4 hb4; have HO4 := Lib.hid hown4; have hk4 := ((Below.refl wr.heap.size w2).alloc H2.out.size (.cells x.toArray 42)); have HB4 := Lib.hid ((HG2.out.alloc HG2.out.size (.cells x.toArray 42)).trans hb4); have HX4 := Lib.hid (HS4.out w4 hb4); have HG5 : Hid (w1.heap.size ≤ (w4.alloc (.cells e.toArray 42)).heap.size) := Lib.hid (by have := HB4.out.size; simp; omega); clear hown4 hb4 hk4)
           | (at_builtin; refine wpList_app rfl (.tmp 55) (.tmp 60) _ rfl w1.heap.size 42 i0 z0 50 i0.bytes Tryz.underlying29 hi0 hz0' hz1 rfl hz2 (by decide) _ _ _ _ rfl (HO4.out.alloc _) (w4.heap.size + 1) (some ⟨w4.heap.size, 0, none⟩) 1 1 e rfl HEL.out (rd_one w4 e _) HE1.out (by simp only [maxLen]; omega) (HBY.out _ (by omega)) HG5.out ?_; intro A6 c6 w5 hown5 hb5; have HO5 := Lib.hid hown5; have HB5 := Lib.hid ((HB4.out.alloc HB4.out.size (.cells e.toArray 42)).trans hb5); clear hown5 hb5)
           | fail)
          go_roundw
          case rel => exact ⟨k + 1, m + 1 + 1, c6, A6, true, by omega, by go_num, by omega, rfl, rfl, Lib.hid ⟨by rw [HXK.out]; simp only [List.length_append, List.length_cons, List.length_nil]; have := hmd.out.1; omega, by rw [HXK.out]⟩, Lib.hid (by rw [HXK.out]; simp only [List.flatten_append, List.flatten_cons, List.flatten_nil, List.append_nil]; exact HO5.out), HB5⟩
          case measure => simp [intOf]; omega
        · have HXK := Lib.hid (show insK ord x L (k + 1) = ((insK ord x L k).1 ++ [e], false) from by rw [hK, if_neg (by simpa using hz0)])
          rw [HXK.out] at hL2
          have hmm : m + 1 ≤ n + 1 := by have := hmd.out.1; simp only [List.length_append, List.length_cons, List.length_nil] at hL2; omega
          clear hK hL2
          go_wp2_with fail
          refine wp_region_noPanic ?_
          refine wp_region_held_drew (S := (fun w' => w'.rangeAt b (off + k * 50) e ∧ w'.rangeAt w.heap.size 0 x)) (by kernel_rfl) ST0 (fun dd0 => ?_)
          refine tkE 0 (.bool false) rfl ?_
          (try simp only [ax])
          refine tkE 1 (.bool true) rfl ?_
          (try simp only [ax])
          refine tkE 2 (.bool true) rfl ?_
          (try simp only [ax])
          refine tkE 3 (.func (.func K) #[] #[]) rfl ?_
          (try simp only [ax])
          refine tkE 4 (.slice (some ⟨b, off, none⟩) n c) rfl ?_
          (try simp only [ax])
          refine tkE 5 (.int .i64 (k : Int)) rfl ?_
          (try simp only [ax])
          refine tkE 6 (.pointer (some ⟨b, off + k * 50, none⟩)) rfl ?_
          (try simp only [ax])
          refine tkF 7 (.agg e.toArray) rfl (yieldsIf_load_mid (by kernel_rfl) 42 (.tmp 45) rfl b (off + k * 50) rfl e _ (fun w h => h.1) hu rfl HIE.out) ?_
          (try simp only [ax])
          refine tkF 8 (.agg x.toArray) rfl (yieldsIf_load_mid (by kernel_rfl) 42 (.tmp 4) rfl w.heap.size 0 rfl x _ (fun w h => h.2) hu rfl HIX.out) ?_
          (try simp only [ax])
          refine wpAnyH_ready (rs := [9]) (by kernel_rfl) (by simp) ?_
          refine AllReadyH.cons rfl (fun K' hK => ?_) AllReadyH.nil
          go_simp
          refine (HOR.out _ (Below.refl wr.heap.size wr).drew).mono ?_
          rintro r w2 ⟨rfl, hb2⟩
          have H2 : Hid (Below wr.heap.size wr w2) := Lib.hid ((Below.refl wr.heap.size wr).drew.trans hb2)
          have HO2 := Lib.hid (own_below hown.out H2.out)
          have HX2 := Lib.hid (HST.out _ H2.out)
          clear hb2
          refine hK.out _ _ (HST.out _ H2.out) (fun _ => ?_)
          clear hK K'
          (try simp only [ax])
          refine tkE 10 (.bool false) rfl ?_
          (try simp only [ax])
          refine tkE 11 (.bool false) rfl ?_
          (try simp only [ax])
          refine wpAnyH_done (by kernel_rfl) ?_ _
          refine NoPanic.normal ?_
          clear ST0 dd0 hown
          have HG2 := Lib.hid (HGB.out _ H2.out)
          have HG3 : Hid (w1.heap.size ≤ (w2.alloc (.cells e.toArray 42)).heap.size) := Lib.hid (by have := HG2.out.size; simp; omega)
          go_wp2_with (first
           | (refine wpList_load_mid rfl 42 (.tmp 58) rfl b (off + k * 50) rfl e _ HX2.out.1 hu rfl HIE.out ?_)
           | (refine wpList_buildOne rfl _ 42 _ rfl w2.heap.size rfl _ rfl i0 z0 50 Tryz.underlying29 hi0 hz0' hz1 (by decide) (by decide) e (by rfl) HEL.out ?_)
           | (at_builtin; refine wpList_app rfl (.tmp 55) (.tmp 60) _ rfl w1.heap.size 42 i0 z0 50 i0.bytes Tryz.underlying29 hi0 hz0' hz1 rfl hz2 (by decide) _ _ _ _ rfl (HO2.out.alloc _) (w2.heap.size + 1) (some ⟨w2.heap.size, 0, none⟩) 1 1 e rfl HEL.out (rd_one w2 e _) HE1.out (by simp only [maxLen]; omega) (HBY.out _ (by omega)) HG3.out ?_; intro A6 c6 w5 hown5 hb5; have HO5 := Lib.hid hown5; have HB5 := Lib.hid ((HG2.out.alloc HG2.out.size (.cells e.toArray 42)).trans hb5); clear hown5 hb5)
           | fail)
          go_roundw
          case rel => exact ⟨k + 1, m + 1, c6, A6, false, by omega, by go_num, by omega, rfl, rfl, Lib.hid ⟨by rw [HXK.out]; simp only [List.length_append, List.length_cons, List.length_nil]; have := hmd.out.1; omega, by rw [HXK.out]⟩, Lib.hid (by rw [HXK.out]; simp only [List.flatten_append, List.flatten_cons, List.flatten_nil, List.append_nil]; exact HO5.out), HB5⟩
          case measure => simp [intOf]; omega
     · have hkn : k = L.length := by have := HN.out; omega
       rw [hkn] at hown hmd
       have HEND := Lib.hid (HBW.out _ (HGO.out _ (Below.refl wr.heap.size wr)))
       cases d with
       | true =>
        have HPX := Lib.hid (show putG ord L x = (insK ord x L L.length).1 from by rw [HPN.out, ← hmd.out.2]; rfl)
        clear hkn
        go_wp2_with fail
        go_ret
        exact ⟨A', m, c', by rw [HPX.out]; exact hmd.out.1, rfl, by rw [HPX.out]; exact own_down hown.out (by have := HS1.out; omega), HEND.out.1⟩
       | false =>
        have HPX := Lib.hid (show putG ord L x = (insK ord x L L.length).1 ++ [x] from by rw [HPN.out, ← hmd.out.2]; rfl)
        have hmn : m ≤ n := by
         have h1 := insK_len ord x L L.length
         rw [← hmd.out.2, ← hmd.out.1] at h1
         simp at h1
         omega
        clear hkn
        have HX3 := Lib.hid (HX0.out _ (HGO.out _ (Below.refl wr.heap.size wr)))
        have HG3 : Hid (w1.heap.size ≤ (wr.alloc (.cells x.toArray 42)).heap.size) := Lib.hid (by have := hbr.out.size; simp; omega)
        go_wp2_with (first
         | (refine wpList_load_row rfl 42 (.tmp 4) rfl w.heap.size rfl _ _ _ _ HX3.out hu rfl HIXA.out ?_)
         | (refine wpList_buildOne rfl _ 42 _ rfl wr.heap.size rfl _ rfl i0 z0 50 Tryz.underlying29 hi0 hz0' hz1 (by decide) (by decide) x (by rfl) HXL.out ?_)
         | (at_builtin; refine wpList_app rfl (.tmp 64) (.tmp 66) _ rfl w1.heap.size 42 i0 z0 50 i0.bytes Tryz.underlying29 hi0 hz0' hz1 rfl hz2 (by decide) _ _ _ _ rfl (hown.out.alloc _) (wr.heap.size + 1) (some ⟨wr.heap.size, 0, none⟩) 1 1 x rfl HXL.out (rd_one wr x _) HX1.out (by simp only [maxLen]; omega) (HBY.out _ (by omega)) HG3.out ?_; intro A6 c6 w5 hown5 hb5; have HO5 := Lib.hid hown5; have HB5 : Hid (Below w.heap.size w w5) := Lib.hid (HEND.out.1.trans (((Below.refl wr.heap.size wr).alloc (Nat.le_refl _) (.cells x.toArray 42)).mono HEND.out.1.size |>.trans (hb5.mono (by have := HS1.out; omega)))); clear hown5 hb5)
         | fail)
        go_ret
        exact ⟨A6, m + 1, c6, by rw [HPX.out, List.length_append]; have := hmd.out.1; simp; omega, rfl, by rw [HPX.out]; simp only [List.flatten_append, List.flatten_cons, List.flatten_nil, List.append_nil]; exact own_down HO5.out (by have := HS1.out; omega), HB5.out⟩
end Go.Proofs.YtlkmccmbpnbgbaaGreat
