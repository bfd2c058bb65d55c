/-
  CONTRACT of the reference's Files.
-/
import Derived.Test.YtfankhahpnlcfaaMRefR
namespace Go.Proofs.Ytfankhahpnlcfaa
open Go.RowKit Go.Maps

theorem ins_rises {out : List Int} {f : Int} {j : Nat} (h : out.Pairwise (· < ·)) (hlo : ∀ i (hi : i < out.length), i < j → out[i] < f) (hhi : ∀ (hj : j < out.length), f < out[j]) : (out.take j ++ [f] ++ out.drop j).Pairwise (· < ·) := by
  have hd : ∀ y ∈ out.drop j, f < y := fun y hy => by
    by_cases hj : j < out.length
    · rw [List.drop_eq_getElem_cons hj] at hy
      rcases List.mem_cons.1 hy with rfl | hy
      · exact hhi hj
      · have h2 : (out.drop j).Pairwise (· < ·) := h.sublist (List.drop_sublist _ _)
        rw [List.drop_eq_getElem_cons hj] at h2
        have := (List.pairwise_cons.1 h2).1 y hy
        have := hhi hj
        omega
    · rw [List.drop_eq_nil_of_le (by omega)] at hy
      cases hy
  have ht : ∀ y ∈ out.take j, y < f := fun y hy => by
    obtain ⟨i, hi, rfl⟩ := List.getElem_of_mem hy
    rw [List.length_take] at hi
    rw [List.getElem_take]
    exact hlo i (by omega) (by omega)
  rw [List.pairwise_append, List.pairwise_append]
  refine ⟨⟨h.sublist (List.take_sublist _ _), List.pairwise_singleton _ _, fun a ha b hb => ?_⟩, h.sublist (List.drop_sublist _ _), fun a ha b hb => ?_⟩
  · rw [List.mem_singleton.1 hb]; exact ht a ha
  · have hb := hd b hb
    rcases List.mem_append.1 ha with ha | ha
    · have := ht a ha; omega
    · rw [List.mem_singleton.1 ha]; exact hb
theorem ins_mem {out : List Int} {f : Int} {j : Nat} (y : Int) : y ∈ out.take j ++ [f] ++ out.drop j ↔ y ∈ out ∨ y = f := by
  have : y ∈ out ↔ y ∈ out.take j ∨ y ∈ out.drop j := by
    conv => lhs; rw [← List.take_append_drop j out]
    rw [List.mem_append]
  rw [this, List.mem_append, List.mem_append, List.mem_singleton]
  constructor
  · rintro ((h | h) | h)
    · exact .inl (.inl h)
    · exact .inr h
    · exact .inl (.inr h)
  · rintro ((h | h) | h)
    · exact .inl (.inl h)
    · exact .inr h
    · exact .inl (.inr h)
def iv (l : List Int) : List Value := l.map (Value.int .i64)
theorem iv_length (l : List Int) : (iv l).length = l.length := List.length_map _
theorem iv_one (l : List Int) : ∀ u ∈ iv l, u.oneCell' = true := fun u hu => by
  obtain ⟨z, _, rfl⟩ := List.mem_map.1 hu; rfl
theorem iv_append (a b : List Int) : iv (a ++ b) = iv a ++ iv b := List.map_append
theorem infoI : (Try.prog.info? 3).map (fun i => (i.zero, i.size, i.bytes)) = some (some (.int .i64 0), 1, 8) := by kernel_rfl
theorem Rd.takeI {w : World} {B : Nat} {A : Option Addr} {l : List Int} (h : Rd w B A (iv l)) (k : Nat) : Rd w B A (iv (l.take k)) := by
  have : iv l = iv (l.take k) ++ iv (l.drop k) := by rw [← iv_append, List.take_append_drop]
  rw [this] at h
  exact h.take

theorem own_low {w : World} {B B' size n : Nat} {e : TypeId} {v : Value} {xs : List Value} (h : w.ownsRow B e size v n xs) (hB : B' ≤ B) : w.ownsRow B' e size v n xs :=
  ⟨h.1, h.2.imp id fun ⟨g, cap, cur, hv, hb, hr⟩ => ⟨g, cap, cur, hv, by omega, hr⟩⟩
theorem Rd.newI (w : World) (f : Int) (t : TypeId) : Rd (w.alloc (.cells #[.int .i64 f] t)) (w.heap.size + 1) (some ⟨w.heap.size, 0, none⟩) (iv [f]) := fun _ => by
  refine ⟨w.heap.size, 0, rfl, by omega, fun j u hu => ?_⟩
  match j, hu with
  | 0, hu => simp [iv] at hu; subst hu; simp [go_sem]
  | j + 1, hu => simp [iv] at hu

/-- Which files there are, as the reference says it. -/
def RFilesX (s : St) (w : World) (e : Ending) (w' : World) : Prop :=
  ∃ A n c, ∃ l : List Int, e = .returned (.slice A n c) ∧ n = l.length ∧ n ≤ 1000000 ∧ l.Pairwise (· < ·) ∧ (∀ x, x ∈ l ↔ ∃ a d, s.S x a = some d) ∧ Rd w' w'.heap.size A (iv l) ∧ Below w.heap.size w w'

set_option maxRecDepth 100000 in
set_option maxHeartbeats 3200000 in
theorem rfilesX (Y : Nat → Prop) (br n : Nat) (s : St) (w : World) (h : RM w Y br n s) (hn : n ≤ 1000000) :
    Calls Try.prog 22 #[.pointer (some ⟨br, 0, none⟩)] w (RFilesX s w) := by
  obtain ⟨l, A, m, c, left, hr, _⟩ := h
  have HROW := Lib.hid hr.row
  have HM := Lib.hid hr.len
  have HS := Lib.hid hr.says
  have C0 := Lib.hid hr.ms.cl.c0
  have hbr := hr.ms.lt
  have hm63 : m ≤ 1000000 := by have := hr.max; omega
  obtain ⟨i0, hi0, hz0, hz1, hz2⟩ := info_parts infoI
  clear hr
  go_enter Try.func22, Try.ntmps22
  go_wp2_with fail
  go_loopw [3, 4] (fun o i wr => ∃ (k mo co : Nat) (Ao : Option Addr) (out : List Int), k ≤ m ∧ mo ≤ k ∧ i = .int .i64 (k : Int) ∧ o = .slice Ao mo co ∧ Hid (mo = out.length) ∧
      Hid (wr.ownsRow w.heap.size 3 1 (.slice Ao mo co) mo (iv out)) ∧ Hid (out.Pairwise (· < ·)) ∧ Hid (∀ y, y ∈ out ↔ ∃ t ∈ l.take k, t.file = y) ∧ Hid (Below w.heap.size w wr)) (fun _ i _ => m - (RowKit.intOf i).toNat)
  case atStart => exact ⟨0, 0, 0, none, [], by omega, by omega, rfl, rfl, Lib.hid rfl, Lib.hid (World.ownsRow_nil _ _ _ _), Lib.hid List.Pairwise.nil, Lib.hid (fun y => by simp), Lib.hid (Below.refl _ _)⟩
  case round =>
    obtain ⟨k, mo, co, Ao, out, hk, hmo, rfl, rfl, HLO, HOWN, HRI, HMEM, HBEL⟩ := hrel
    have c0 : wr.cell? ⟨br, 0, none⟩ = some (.slice A m c) := (HBEL.out.cell (p := ⟨br, 0, none⟩) hbr).trans C0.out
    by_cases hlt : k < m
    · have hkl : k < l.length := by rw [← HM.out]; exact hlt
      obtain ⟨g, hA, hgl, q0, _, _⟩ := row_sec HROW.out HM.out hkl
      rw [← HBEL.out.cell (p := ⟨g, k * 3, none⟩) hgl] at q0
      have h1 : (0 : Int) ≤ (k : Int) := by omega
      have h2 : (k : Int) < (m : Int) := by omega
      have HTK := Lib.hid (show ∀ y, (∃ t ∈ l.take (k + 1), t.file = y) ↔ (∃ t ∈ l.take k, t.file = y) ∨ y = l[k].file from fun y => by
        rw [List.take_succ_eq_append_getElem hkl]
        constructor
        · rintro ⟨t, ht, e⟩
          rcases List.mem_append.1 ht with ht | ht
          · exact .inl ⟨t, ht, e⟩
          · rw [List.mem_singleton.1 ht] at e; exact .inr e.symm
        · rintro (⟨t, ht, e⟩ | rfl)
          · exact ⟨t, List.mem_append_left _ ht, e⟩
          · exact ⟨_, List.mem_append_right _ (List.mem_singleton.2 rfl), rfl⟩)
      subst hA
      generalize l[k].file = f at q0 HTK
      have hco := own_cap HOWN.out
      have hcm := own_max HOWN.out
      have HRO := Lib.hid (Rd.of_own HOWN.out)
      go_wp2_with fail
      go_loop [6] (fun z => ∃ j : Nat, j ≤ mo ∧ z = .int .i64 (j : Int) ∧ Hid (∀ i (hi : i < out.length), i < j → out[i] < f)) (fun z => mo - (RowKit.intOf z).toNat)
      case atStart => exact ⟨0, by omega, rfl, Lib.hid (fun i hi h => by omega)⟩
      case round =>
        obtain ⟨j, hj, rfl, HJ⟩ := hrel
        have g1 : (0 : Int) ≤ (j : Int) := by omega
        by_cases hjm : j < mo
        · have hjl : j < out.length := by rw [← HLO.out]; exact hjm
          have g2 : (j : Int) < (mo : Int) := by omega
          obtain ⟨bo, oo, hAo, _, hco2⟩ := HRO.out.int_at hjl
          have p0 := hco2 j hjl
          have HJ2 := Lib.hid (show out[j] < f → ∀ i (hi : i < out.length), i < j + 1 → out[i] < f from fun hlt i hi hij => by
            by_cases e : i = j
            · subst e; exact hlt
            · exact HJ.out i hi (by omega))
          have HIN := Lib.hid (show out[j] ∈ out from List.getElem_mem hjl)
          have HJR := Lib.hid (show f < out[j] → (out.take j ++ [f] ++ out.drop j).Pairwise (· < ·) from fun hh => ins_rises HRI.out HJ.out (fun _ => hh))
          subst hAo
          clear hco2
          generalize out[j] = oj at p0 HJ2 HIN HJR
          by_cases hof : oj < f
          · have HJ3 := Lib.hid (HJ2.out hof)
            go_wp2_with fail
            go_round
            case rel => exact ⟨j + 1, by omega, by go_num, HJ3⟩
            case measure => simp [RowKit.intOf]; omega
          · by_cases hoe : oj = f
            · subst hoe
              have HMEM2 := Lib.hid (show ∀ y, y ∈ out ↔ ∃ t ∈ l.take (k + 1), t.file = y from fun y => by
                rw [HTK.out y, HMEM.out y]
                constructor
                · exact fun h => .inl h
                · rintro (h | rfl)
                  · exact h
                  · exact (HMEM.out _).1 HIN.out)
              go_wp2_with fail
              go_roundw
              case rel => exact ⟨k + 1, mo, co, _, out, by omega, by omega, by go_num, rfl, HLO, HOWN, HRI, HMEM2, HBEL⟩
              case measure => simp [RowKit.intOf]; omega
            · have hoeb : (oj == f) = false := by simp [hoe]
              have HRI2 := Lib.hid (HJR.out (by omega))
              have HMEM2 := Lib.hid (show ∀ y, y ∈ out.take j ++ [f] ++ out.drop j ↔ ∃ t ∈ l.take (k + 1), t.file = y from fun y => by rw [ins_mem, HTK.out y, HMEM.out y])
              have hcut := run_cut (P := Try.prog) 37 3 1 i0 Try.underlying37 hi0 hz1 (some ⟨bo, oo, none⟩) mo co j (by omega)
              have HRT := Lib.hid (Rd.takeI HRO.out j)
              have HRC := Lib.hid (show Rd wr wr.heap.size (cutA (some ⟨bo, oo, none⟩) co j 1) (iv (out.drop j)) from by
                have h := Rd.cut HRO.out 1 j co (fun e => by rw [iv_length]; have := HLO.out; omega)
                rw [Nat.mul_one] at h
                unfold iv at h ⊢
                rw [List.map_drop]
                exact h)
              have hs0 := HBEL.out.size
              go_wp2_with (first
                | (at_builtin; refine wpList_app rfl (.tmp 51) (.tmp 54) _ rfl wr.heap.size 3 i0 _ 1 8 Try.underlying37 hi0 hz0 hz1 hz2 rfl (by decide) none 0 0 [] rfl (World.ownsRow_nil _ _ _ _) wr.heap.size (some ⟨bo, oo, none⟩) j co (iv (out.take j)) rfl (by rw [iv_length, List.length_take, ← HLO.out]; omega) HRT.out (iv_one _) (by simp only [maxLen]; omega) (by omega) (Nat.le_refl _) ?_; intro A2 c2 w2 hown2 hb2; simp only [Nat.zero_add, List.nil_append] at hown2; have HOWN2 := Lib.hid (own_below hown2 ((Below.refl _ w2).alloc (Nat.le_refl _) (.cells #[.int .i64 f] 3))); have HB2 := Lib.hid (hb2.alloc hb2.size (.cells #[.int .i64 f] 3)); clear hown2 hb2)
                | (at_builtin; refine wpList_app rfl (.tmp 56) (.tmp 58) _ rfl wr.heap.size 3 i0 _ 1 8 Try.underlying37 hi0 hz0 hz1 hz2 rfl (by decide) _ j _ _ rfl HOWN2.out (w2.heap.size + 1) (some ⟨w2.heap.size, 0, none⟩) 1 1 (iv [f]) rfl rfl (Rd.newI w2 f _) (iv_one _) (by simp only [maxLen]; omega) (by omega) HB2.out.size ?_; intro A3 c3 w3 hown3 hb3; have HOWN3 := Lib.hid hown3; have HB3 := Lib.hid (HB2.out.trans hb3); clear hown3 hb3)
                | (at_builtin; refine wpList_app rfl (.tmp 60) (.tmp 63) _ rfl wr.heap.size 3 i0 _ 1 8 Try.underlying37 hi0 hz0 hz1 hz2 rfl (by decide) _ (j + 1) _ _ rfl HOWN3.out wr.heap.size (cutA (some ⟨bo, oo, none⟩) co j 1) (mo - j) (co - j) (iv (out.drop j)) rfl (by rw [iv_length, List.length_drop, ← HLO.out]; omega) (HRC.out.below HB3.out) (iv_one _) (by simp only [maxLen]; omega) (by omega) HB3.out.size ?_; intro A4 c4 w4 hown4 hb4; have HOWN4 := Lib.hid hown4; have HB4 := Lib.hid (HB3.out.trans hb4); clear hown4 hb4)
                | fail)
              clear hcut
              go_roundw
              case rel => exact ⟨k + 1, j + 1 + (mo - j), c4, A4, out.take j ++ [f] ++ out.drop j, by omega, by omega, by go_num, rfl, Lib.hid (by have := HLO.out; simp only [List.length_append, List.length_take, List.length_drop, List.length_cons, List.length_nil]; omega), Lib.hid (by rw [iv_append, iv_append]; exact own_low HOWN4.out hs0), HRI2, HMEM2, Lib.hid (HBEL.out.trans (HB4.out.mono hs0))⟩
              case measure => simp [RowKit.intOf]; omega
        · obtain rfl : j = mo := by omega
          have HRI2 := Lib.hid (ins_rises HRI.out HJ.out (fun hj => by have := HLO.out; omega))
          have HMEM2 := Lib.hid (show ∀ y, y ∈ out.take j ++ [f] ++ out.drop j ↔ ∃ t ∈ l.take (k + 1), t.file = y from fun y => by rw [ins_mem, HTK.out y, HMEM.out y])
          have hcut := run_cut (P := Try.prog) 37 3 1 i0 Try.underlying37 hi0 hz1 Ao j co j (by omega)
          rw [Nat.sub_self] at hcut
          have HRT := Lib.hid (Rd.takeI HRO.out j)
          have HRC := Lib.hid (show Rd wr wr.heap.size (cutA Ao co j 1) (iv (out.drop j)) from by
            have h := Rd.cut HRO.out 1 j co (fun e => by rw [iv_length]; have := HLO.out; omega)
            rw [Nat.mul_one] at h
            unfold iv at h ⊢
            rw [List.map_drop]
            exact h)
          have hs0 := HBEL.out.size
          go_wp2_with (first
            | (at_builtin; refine wpList_app rfl (.tmp 51) (.tmp 54) _ rfl wr.heap.size 3 i0 _ 1 8 Try.underlying37 hi0 hz0 hz1 hz2 rfl (by decide) none 0 0 [] rfl (World.ownsRow_nil _ _ _ _) wr.heap.size Ao j co (iv (out.take j)) rfl (by rw [iv_length, List.length_take, ← HLO.out]; omega) HRT.out (iv_one _) (by simp only [maxLen]; omega) (by omega) (Nat.le_refl _) ?_; intro A2 c2 w2 hown2 hb2; simp only [Nat.zero_add, List.nil_append] at hown2; have HOWN2 := Lib.hid (own_below hown2 ((Below.refl _ w2).alloc (Nat.le_refl _) (.cells #[.int .i64 f] 3))); have HB2 := Lib.hid (hb2.alloc hb2.size (.cells #[.int .i64 f] 3)); clear hown2 hb2)
            | (at_builtin; refine wpList_app rfl (.tmp 56) (.tmp 58) _ rfl wr.heap.size 3 i0 _ 1 8 Try.underlying37 hi0 hz0 hz1 hz2 rfl (by decide) _ j _ _ rfl HOWN2.out (w2.heap.size + 1) (some ⟨w2.heap.size, 0, none⟩) 1 1 (iv [f]) rfl rfl (Rd.newI w2 f _) (iv_one _) (by simp only [maxLen]; omega) (by omega) HB2.out.size ?_; intro A3 c3 w3 hown3 hb3; have HOWN3 := Lib.hid hown3; have HB3 := Lib.hid (HB2.out.trans hb3); clear hown3 hb3)
            | (at_builtin; refine wpList_app rfl (.tmp 60) (.tmp 63) _ rfl wr.heap.size 3 i0 _ 1 8 Try.underlying37 hi0 hz0 hz1 hz2 rfl (by decide) _ (j + 1) _ _ rfl HOWN3.out wr.heap.size (cutA Ao co j 1) 0 (co - j) (iv (out.drop j)) rfl (by rw [iv_length, List.length_drop, ← HLO.out]; omega) (HRC.out.below HB3.out) (iv_one _) (by simp only [maxLen]; omega) (by omega) HB3.out.size ?_; intro A4 c4 w4 hown4 hb4; have HOWN4 := Lib.hid hown4; have HB4 := Lib.hid (HB3.out.trans hb4); clear hown4 hb4)
            | fail)
          clear hcut
          go_roundw
          case rel => exact ⟨k + 1, j + 1 + 0, c4, A4, out.take j ++ [f] ++ out.drop j, by omega, by omega, by go_num, rfl, Lib.hid (by have := HLO.out; simp only [List.length_append, List.length_take, List.length_drop, List.length_cons, List.length_nil]; omega), Lib.hid (by rw [iv_append, iv_append]; exact own_low HOWN4.out hs0), HRI2, HMEM2, Lib.hid (HBEL.out.trans (HB4.out.mono hs0))⟩
          case measure => simp [RowKit.intOf]; omega
    · obtain rfl : k = m := by omega
      have htk : l.take k = l := List.take_of_length_le (by rw [← HM.out]; omega)
      have HMEM2 := Lib.hid (show ∀ y, y ∈ out ↔ ∃ a d, s.S y a = some d from fun y => by
        rw [HMEM.out y, htk]
        constructor
        · rintro ⟨t, ht, rfl⟩
          obtain ⟨d, hd⟩ := findR_some ht
          exact ⟨t.at_, d, by rw [← HS.out]; exact hd⟩
        · rintro ⟨a, d, hd⟩
          rw [← HS.out] at hd
          obtain ⟨t, ht, hf, _⟩ := findR_mem hd
          exact ⟨t, ht, hf⟩)
      clear htk
      go_wp2_with fail
      go_ret
      exact ⟨Ao, mo, co, out, rfl, HLO.out, by omega, HRI.out, HMEM2.out, Rd.of_own HOWN.out, HBEL.out⟩
end Go.Proofs.Ytfankhahpnlcfaa
