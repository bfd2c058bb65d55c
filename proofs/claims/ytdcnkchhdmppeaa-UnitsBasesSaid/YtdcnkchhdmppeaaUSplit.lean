/-
  CONTRACT of the code's Split.
-/
import Derived.Test.YtdcnkchhdmppeaaUSorts
import Derived.Test.YtdcnkchhdmppeaaUBase
namespace Go.Proofs.Ytdcnkchhdmppeaa
set_option linter.unusedVariables false
open Go.RowKit
open Pl (It)

section
variable {P : Program}
theorem run_appK (w : World) (base : Nat) (t ty e : TypeId) (i : TypeInfo) (z : Value) (size bytes : Nat) (ht : P.underlying t = some (.slice e)) (hi : P.info? e = some i) (hz : i.zero = some z)
    (hsize : i.size = size) (hby : i.bytes = bytes) (hzs : z.cells.size = size) (hsz : 0 < size)
    (A : Option Addr) (n c : Nat) (xs : List Value) (hown : w.ownsRow base e size (.slice A n c) n xs)
    (B2 : Nat) (A2 : Option Addr) (m c2 : Nat) (news : List Value) (hl : news.length = m * size) (hr : Rd w B2 A2 news) (h1 : ∀ u ∈ news, u.oneCell' = true)
    (h63 : n + m ≤ maxLen) (hbytes : (n + m) * bytes ≤ 140737488355328) (hbase : base ≤ w.heap.size) :
    ∃ A' c' w', (Builtin.append_ #[t, t] ty #[.slice A n c, .slice A2 m c2]).run P w = .ok (.slice A' (n + m) c') w' ∧ w'.ownsRow base e size (.slice A' (n + m) c') (n + m) (xs ++ news) ∧ Below base w w' ∧ (∀ q, q < w.heap.size → (Value.slice A n c).ownBlock ≠ some q → w'.heap[q]? = w.heap[q]?) := by
  have hcells : ∀ ad, A2 = some ad → ∀ j u, news[j]? = some u → w.cell? (ad.add j) = some u := by
    rintro ad rfl j u hu
    obtain ⟨b, off, he, _, hc⟩ := hr (by have := (List.getElem?_eq_some_iff.1 hu).1; omega)
    injection he with he
    subst he
    rw [Addr.add_lit]
    exact hc j u hu
  rcases A2 with _ | ad
  · have hm : news = [] := by
      rcases Nat.eq_zero_or_pos news.length with h0 | h0
      · exact List.eq_nil_of_length_eq_zero h0
      · obtain ⟨b, off, he, _⟩ := hr h0
        cases he
    subst hm
    have hm0 : m = 0 := by
      rcases Nat.mul_eq_zero.1 hl.symm with h | h
      · exact h
      · omega
    subst hm0
    refine ⟨A, c, w, ?_, by simpa using hown, Below.refl _ _, fun _ _ _ => rfl⟩
    have hcap := own_cap hown
    rcases hown.2 with ⟨hv, _⟩ | ⟨g, cap, cur, hv, _, _, hnc, _⟩
    · injection hv with e1 e2 e3
      subst e1 e2 e3
      simp [Builtin.append_, run_underlying ht, sizeOf, typeInfo, hi, Builtin.lenOf, Builtin.firstCells]
    · injection hv with e1 e2 e3
      subst e1 e3
      simp [Builtin.append_, run_underlying ht, sizeOf, typeInfo, hi, Builtin.lenOf, Builtin.firstCells, hcap, storeCells]
  · obtain ⟨v', w', hrun, hown', hg, _, _⟩ := run_append_own_at (P := P) w base t ty e i z size bytes ht hi hz hsize hby hzs hsz _ n xs hown ad m c2 news hl (hcells ad rfl) h1 h63 hbytes hbase
    obtain ⟨A', c', rfl, _⟩ := own_form hown'
    exact ⟨A', c', w', hrun, hown', (Below.refl _ _).grown hg hbase (fun k hk => own_base hown k hk), fun q hq hne => hg.block _ hq (fun e => hne e.symm)⟩

theorem wp_appK {w : World} {o : Oper} {a : Act} {K : Act → World → Prop} {Q : Exit → Act → World → Prop} (s x : Operand) (t : TypeId)
    (ho : o.op = .call { callee := .builtin .append, args := #[s, x], argTypes := #[t, t] })
    (base : Nat) (e : TypeId) (i : TypeInfo) (z : Value) (size bytes : Nat) (ht : P.underlying t = some (.slice e)) (hi : P.info? e = some i) (hz : i.zero = some z)
    (hsize : i.size = size) (hby : i.bytes = bytes) (hzs : z.cells.size = size) (hsz : 0 < size)
    (A : Option Addr) (n c : Nat) (xs : List Value) (hs : a.eval s = .slice A n c) (hown : w.ownsRow base e size (.slice A n c) n xs)
    (B2 : Nat) (A2 : Option Addr) (m c2 : Nat) (news : List Value) (hx : a.eval x = .slice A2 m c2) (hl : news.length = m * size) (hr : Rd w B2 A2 news) (h1 : ∀ u ∈ news, u.oneCell' = true)
    (h63 : n + m ≤ maxLen) (hbytes : (n + m) * bytes ≤ 140737488355328) (hbase : base ≤ w.heap.size)
    (h : ∀ A' c' w', w'.ownsRow base e size (.slice A' (n + m) c') (n + m) (xs ++ news) → Below base w w' → (∀ q, q < w.heap.size → (Value.slice A n c).ownBlock ≠ some q → w'.heap[q]? = w.heap[q]?) → K (a.put o.dst (.slice A' (n + m) c')) w') : o.wp P a w K Q := by
  obtain ⟨A', c', w', hrun, h2, h3, h4⟩ := run_appK (P := P) w base t o.type e i z size bytes ht hi hz hsize hby hzs hsz A n c xs hown B2 A2 m c2 news hl hr h1 h63 hbytes hbase
  unfold Oper.wp execOp
  simp only [ho, resolve, invoke, builtin, Sem.run_bind, Sem.run_pure, Result.andThen_ok, List.map_toArray, List.map_cons, List.map_nil, hs, hx, hrun]
  exact h A' c' w' h2 h3 h4

theorem wpList_appK {w : World} {ops : Array Oper} {rest : List Oper} {o : Oper} {a : Act} {Q : Exit → Act → World → Prop} (hgd : o.guard = none) (s x : Operand) (t : TypeId)
    (ho : o.op = .call { callee := .builtin .append, args := #[s, x], argTypes := #[t, t] })
    (base : Nat) (e : TypeId) (i : TypeInfo) (z : Value) (size bytes : Nat) (ht : P.underlying t = some (.slice e)) (hi : P.info? e = some i) (hz : i.zero = some z)
    (hsize : i.size = size) (hby : i.bytes = bytes) (hzs : z.cells.size = size) (hsz : 0 < size)
    (A : Option Addr) (n c : Nat) (xs : List Value) (hs : a.eval s = .slice A n c) (hown : w.ownsRow base e size (.slice A n c) n xs)
    (B2 : Nat) (A2 : Option Addr) (m c2 : Nat) (news : List Value) (hx : a.eval x = .slice A2 m c2) (hl : news.length = m * size) (hr : Rd w B2 A2 news) (h1 : ∀ u ∈ news, u.oneCell' = true)
    (h63 : n + m ≤ maxLen) (hbytes : (n + m) * bytes ≤ 140737488355328) (hbase : base ≤ w.heap.size)
    (h : ∀ A' c' w', w'.ownsRow base e size (.slice A' (n + m) c') (n + m) (xs ++ news) → Below base w w' → (∀ q, q < w.heap.size → (Value.slice A n c).ownBlock ≠ some q → w'.heap[q]? = w.heap[q]?) → wpList P ops Q rest (a.put o.dst (.slice A' (n + m) c')) w') : wpList P ops Q (o :: rest) a w :=
  wpList_plain hgd fun _ hK => wp_appK s x t ho base e i z size bytes ht hi hz hsize hby hzs hsz A n c xs hs hown B2 A2 m c2 news hx hl hr h1 h63 hbytes hbase fun A' c' w' h2 h3 h4 => hK _ _ (h A' c' w' h2 h3 h4)
end
theorem own_upper {w : World} {B e s n : Nat} {v : Value} {xs : List Value} (h : w.ownsRow B e s v n xs) (q : Nat) (hq : v.ownBlock = some q) : q < w.heap.size := by
  rcases h.2 with ⟨rfl, _⟩ | ⟨g, cap, cur, rfl, _, hg, _⟩
  · cases hq
  · injection hq with hq; subst hq; exact lt_of_block hg
theorem units_each {x : It} {p : Pr} (h : p ∈ (sortU (Pl.unitsU x 4)).reverse) : 1 ≤ p.2 := by
  rw [List.mem_reverse, Pl.sortR_mem] at h
  rcases h with h | h
  · cases h
  · rw [Pl.unitsU_places, List.mem_map] at h
    obtain ⟨a, ha, rfl⟩ := h
    unfold Pl.placesU at ha
    rw [List.mem_cons, List.mem_map] at ha
    rcases ha with rfl | ⟨j, hj, rfl⟩
    · exact Int.le_refl _
    · rw [List.mem_filter, List.mem_range] at hj
      have := (Pl.valid_spec hj.2).2.2.1
      show 1 ≤ x.fc j
      omega
theorem sortR_len {α : Type} (f : α → Int) : ∀ (l acc : List α), (Pl.sortR f acc l).length = acc.length + l.length
  | [], acc => rfl
  | v :: l, acc => by
    show (Pl.sortR f (Pl.insR f v acc) l).length = _
    rw [sortR_len, Pl.insR_len, List.length_cons]; omega
theorem quo_bd {b z : Int} (hz : 1 ≤ z) (hl : -9223372036854775808 ≤ b) (hu : b ≤ 9223372036854775807) : -9223372036854775808 ≤ b.tdiv z ∧ b.tdiv z ≤ 9223372036854775807 ∧ (0 < b.tdiv z → 0 ≤ b.tmod z ∧ b.tmod z ≤ b) := by
  by_cases hb : 0 ≤ b
  · rw [Int.tdiv_eq_ediv_of_nonneg hb, Int.tmod_eq_emod_of_nonneg hb]
    have h1 := Int.ediv_nonneg hb (by omega : 0 ≤ z)
    have h2 := Int.ediv_le_self z hb
    have h3 := Int.emod_nonneg b (by omega : z ≠ 0)
    have h4 := Int.ediv_mul_le b (by omega : z ≠ 0)
    have h5 := Int.mul_nonneg h1 (by omega : 0 ≤ z)
    have h6 := Int.emod_def b z
    rw [Int.mul_comm] at h6
    refine ⟨by omega, by omega, fun _ => ⟨h3, by omega⟩⟩
  · have h := Int.tdiv_eq_ediv_of_nonneg (a := -b) (b := z) (by omega)
    rw [Int.neg_tdiv] at h
    have h1 := Int.ediv_nonneg (by omega : 0 ≤ -b) (by omega : 0 ≤ z)
    have h2 := Int.ediv_le_self z (by omega : 0 ≤ -b)
    exact ⟨by omega, by omega, fun h3 => by omega⟩

set_option maxRecDepth 100000 in
set_option maxHeartbeats 1600000 in
theorem split_any (x : It) (b : Int) (w : World) (hn : -9223372036854775808 ≤ b) (hn2 : b ≤ 9223372036854775807) : Calls Try.prog 11 #[.agg x.cells.toArray, .int .i64 b] w (NewP w (Pl.splitU x b)) := by
  have hul := Pl.unitsU_len x 4
  have hup := unitsU_pos x 4
  have HUO : Hid (∀ W, Calls Try.prog 14 #[.agg x.cells.toArray] W fun e w' => ∃ A n c, n = (Pl.unitsU x 4).length ∧ e = .returned (.slice A n c) ∧ w'.ownsRow W.heap.size 23 2 (.slice A n c) n (prC (Pl.unitsU x 4)).flatten ∧ Below W.heap.size W w') := Lib.hid (fun W => unitsOf_any x W)
  have HEA : Hid (∀ p ∈ (sortU (Pl.unitsU x 4)).reverse, 1 ≤ p.2) := Lib.hid (fun p hp => units_each hp)
  have HSP := Lib.hid (Pl.split_code x b)
  have HLN : Hid ((sortU (Pl.unitsU x 4)).reverse.length = (Pl.unitsU x 4).length) := Lib.hid (by rw [List.length_reverse, sortR_len]; simp)
  obtain ⟨l, hl⟩ : ∃ l, Pl.unitsU x 4 = l := ⟨_, rfl⟩
  rw [hl] at HUO hul hup HEA HSP HLN
  clear hl
  obtain ⟨out0, ho0⟩ : ∃ o, Pl.splitU x b = o := ⟨_, rfl⟩
  rw [ho0] at HSP ⊢
  clear ho0
  have HSS : Hid (∀ (B g n c : Nat) (w : World), n = l.length → 1 ≤ n → n ≤ 5 → w.ownsRow B 23 2 (.slice (some ⟨g, 0, none⟩) n c) n (prC l).flatten → B ≤ w.heap.size → Calls Try.prog 18 #[.slice (some ⟨g, 0, none⟩) n c] w (Sorts B g n c l (.slice (some ⟨g, 0, none⟩) n c) w)) := Lib.hid (fun B g n c w h1 h2 h3 h4 h5 => greatest_any g n c B l w h1 h2 h3 h4 h5)
  obtain ⟨i0, hi0, hz0, hz1, hz2⟩ := info_parts infoP
  have HBA : Hid (Below w.heap.size w (w.alloc (.cells x.cells.toArray 26))) := Lib.hid ((Below.refl _ w).alloc (Nat.le_refl _) _)
  have HX0 : Hid ((w.alloc (.cells x.cells.toArray 26)).heap[w.heap.size]? = some (.cells x.cells.toArray 26 (0, 0))) := Lib.hid (heap_alloc_new _ _)
  have hui := Try.underlying26
  have HSX : Hid ((Try.prog.info? 26).map (·.size) = some x.cells.toArray.size) := Lib.hid (by rw [show (Try.prog.info? 26).map (·.size) = some 14 from by kernel_rfl]; rfl)
  go_enter Try.func11, Try.ntmps11
  go_wp2_with (first
    | (refine wpList_load_row rfl 26 (.tmp 2) rfl w.heap.size rfl _ _ _ _ HX0.out hui rfl HSX.out ?_)
    | fail)
  refine (HUO.out _).mono ?_
  rintro e w1 ⟨A, m0, c, hm, rfl, hown, hb1⟩
  have HM := Lib.hid hm
  have B1 := Lib.hid (HBA.out.trans (hb1.mono HBA.out.size))
  have HH1 : Hid (w.heap.size + 1 ≤ w1.heap.size) := Lib.hid (by have := hb1.size; simpa using this)
  have hm5 : m0 ≤ 5 := by omega
  have hm1 : 1 ≤ m0 := by omega
  clear hm
  obtain ⟨g, rfl⟩ := own_some hown (by omega)
  have HO1 := Lib.hid hown
  clear hown
  go_wp2_with fail
  refine (HSS.out _ g m0 c w1 HM.out hm1 hm5 HO1.out hb1.size).mono ?_
  rintro e w2 ⟨rfl, ho2, hb2⟩
  have HO2 := Lib.hid ho2
  have B2 := Lib.hid (B1.out.trans (hb2.mono HBA.out.size))
  have HU2 := Lib.hid (UC.of_own ho2 (own_lt ho2) (by rw [HLN.out]; exact HM.out))
  clear ho2 hb2 hb1
  obtain ⟨ls, hls⟩ : ∃ ls, (sortU l).reverse = ls := ⟨_, rfl⟩
  rw [hls] at HU2 HLN HEA HSP
  rw [← HLN.out] at HM
  clear hls HO2 HO1
  go_wp2_with fail
  go_loopw [1, 5, 13] (fun bv pv kv wr => ∃ (k m c' : Nat) (bb : Int) (A : Option Addr) (out : List Pr), k ≤ m0 ∧ m ≤ k ∧ bv = .int .i64 bb ∧ kv = .int .i64 (k : Int) ∧ pv = .slice A m c' ∧ -9223372036854775808 ≤ bb ∧ bb ≤ 9223372036854775807 ∧
      Hid (m = out.length ∧ out0 = out ++ Pl.runC (ls.drop k) bb) ∧ Hid (Below w2.heap.size w2 wr) ∧ Hid (wr.ownsRow w2.heap.size 36 2 (.slice A m c') m (prC out).flatten)) (fun _ _ kv _ => m0 - (intOf kv).toNat)
  case atStart => exact ⟨0, 0, 0, b, none, [], by omega, by omega, rfl, rfl, rfl, by omega, by omega, Lib.hid ⟨rfl, by rw [List.drop_zero]; exact HSP.out.symm⟩, Lib.hid (Below.refl _ _), Lib.hid (World.ownsRow_nil _ _ _ _)⟩
  case round =>
    obtain ⟨k, m, c', bb, A, out, hk, hmk, rfl, rfl, rfl, hbl, hbu, hR, HB, HO⟩ := hrel
    by_cases hlt : k < m0
    · have hkl : k < ls.length := by rw [← HM.out]; exact hlt
      obtain ⟨hg, hc⟩ := HU2.out.below HB.out
      obtain ⟨c0, c1⟩ := hc k hkl
      have hzz := HEA.out ls[k] (List.getElem_mem hkl)
      have HDR := Lib.hid (List.drop_eq_getElem_cons hkl)
      obtain ⟨u, hu⟩ : ∃ u, ls[k] = u := ⟨_, rfl⟩
      rw [hu] at c0 c1 hzz HDR
      clear hu hc
      obtain ⟨s, z⟩ := u
      obtain ⟨hq1, hq2, hq3⟩ := quo_bd hzz hbl hbu
      have HRC : Hid (out0 = out ++ if 0 < bb.tdiv z then (s, bb.tdiv z) :: Pl.runC (ls.drop (k + 1)) (bb.tmod z) else Pl.runC (ls.drop (k + 1)) bb) := Lib.hid (by rw [hR.out.2, HDR.out]; rfl)
      obtain ⟨q, hq⟩ : ∃ q, bb.tdiv z = q := ⟨_, rfl⟩
      obtain ⟨r, hr⟩ : ∃ q, bb.tmod z = q := ⟨_, rfl⟩
      rw [hq] at hq1 hq2 hq3 HRC
      rw [hr] at hq3 HRC
      simp only at hzz c0 c1
      clear hkl
      by_cases hqp : 0 < q
      · obtain ⟨hr1, hr2⟩ := hq3 hqp
        rw [if_pos hqp] at HRC
        clear hq3
        have HKU : Hid (((wr.alloc (.cells #[.string s, .int .i64 z] 23)).alloc (.cells #[.string s, .int .i64 q] 36)).heap[wr.heap.size]? = some (.cells #[.string s, .int .i64 z] 23 (0, 0))) := Lib.hid ((Below.heap_alloc _ _ _ (by simp)).trans (heap_alloc_new _ _))
        have HBZ : Hid (Below w2.heap.size w2 ((wr.alloc (.cells #[.string s, .int .i64 z] 23)).alloc (.cells #[.string s, .int .i64 q] 36))) := Lib.hid ((HB.out.alloc HB.out.size _).alloc (HB.out.alloc HB.out.size _).size _)
        have HOU := Lib.hid (own_upper HO.out)
        go_wp2_with (first
          | (at_builtin; refine wpList_appK rfl (.tmp 23) (.tmp 28) _ rfl w2.heap.size 36 i0 _ 2 24 Try.underlying31 hi0 hz0 hz1 hz2 rfl (by decide) _ m _ _ rfl ((HO.out.alloc _).alloc _) _ _ 1 1 [.string s, .int .i64 q] rfl rfl (rd_pairB _ _ _ _ _ (by simp)) (by intro u hu; simp at hu; rcases hu with rfl | rfl <;> rfl) (by simp only [maxLen]; omega) (by omega) HBZ.out.size ?_; intro A9 c9 w9 hown9 hb9 hkp9; have HO9 := Lib.hid hown9; have HB9 := Lib.hid (HBZ.out.trans hb9); have h91 : w9.cell? ⟨wr.heap.size, 1, none⟩ = some (.int .i64 z) := (by rw [cell_of_block ((hkp9 wr.heap.size (by simp; omega) (fun e => by have := HOU.out _ e; omega)).trans HKU.out)]; rfl); clear hown9 hb9 hkp9)
          | fail)
        go_roundw
        case rel => exact ⟨k + 1, m + 1, c9, r, A9, out ++ [(s, q)], by omega, by omega, rfl, by go_num, rfl, by omega, by omega, Lib.hid ⟨by rw [hR.out.1, List.length_append]; rfl, by rw [HRC.out, List.append_assoc]; rfl⟩, HB9, Lib.hid (by rw [← prC_push]; exact HO9.out)⟩
        case measure => simp [intOf]; omega
      · rw [if_neg hqp] at HRC
        clear hq3 hr
        go_wp2_with fail
        go_roundw
        case rel => exact ⟨k + 1, m, c', bb, A, out, by omega, by omega, rfl, by go_num, rfl, hbl, hbu, Lib.hid ⟨hR.out.1, HRC.out⟩, Lib.hid (HB.out.alloc HB.out.size _), Lib.hid (HO.out.alloc _)⟩
        case measure => simp [intOf]; omega
    · obtain rfl : k = m0 := by omega
      have HEN : Hid (out0 = out) := Lib.hid (by rw [hR.out.2, List.drop_eq_nil_of_le (by rw [HM.out]; omega)]; simp [Pl.runC])
      go_wp2_with fail
      go_ret
      rw [HEN.out]
      have HSZ := HB.out.size
      have HS2 := B2.out.size
      exact ⟨A, m, c', hR.out.1, rfl, own_lower HO.out HS2, B2.out.trans (HB.out.mono HS2)⟩
end Go.Proofs.Ytdcnkchhdmppeaa
