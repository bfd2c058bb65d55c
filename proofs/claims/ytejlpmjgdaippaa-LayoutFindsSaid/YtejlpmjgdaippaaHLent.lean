/-
  CONTRACTS of stevedorekeep's lent, of each list of a house: a copy with a thing behind its length.
-/
import Derived.Test.YtejlpmjgdaippaaHA
import Derived.Laws.MakeOwn
import Derived.Laws.Rows
namespace Go.Proofs.Ytejlpmjgdaippaa
open Go.RowKit

theorem info_thing {P : Program} {T : TypeId} {sz : Nat} (h : (P.info? T).map (fun i => (i.size, i.zero.map (·.cells.size), decide (i.bytes ≤ 1000))) = some (sz, some sz, true)) :
    ∃ i z, P.info? T = some i ∧ i.zero = some z ∧ i.size = sz ∧ z.cells.size = sz ∧ i.bytes ≤ 1000 := by
  cases hq : P.info? T with
  | none => rw [hq] at h; cases h
  | some i =>
    rw [hq] at h
    simp at h
    obtain ⟨h1, ⟨z, h2, h3⟩, h4⟩ := h
    exact ⟨i, z, rfl, h2, h1, h3, h4⟩
/-- What lent leaves: the list, and bh behind it. -/
def LentPost (L : List (List Value)) (bh : List Value) (w : World) (e : Ending) (w' : World) : Prop :=
  ∃ (g c : Nat), e = .returned (.slice (some ⟨g, 0, none⟩) L.length c) ∧ L.length + 1 ≤ c ∧ c ≤ 9223372036854775807 ∧ w.heap.size ≤ g ∧ Rd w' w'.heap.size (some ⟨g, 0, none⟩) (L.flatten ++ bh) ∧ Below w.heap.size w w'
theorem fits_one : ∀ {ks : List CK} {vs : List Value}, Fits ks vs → ∀ u ∈ vs, u.oneCell' = true
  | [], [], _ => fun u hu => by cases hu
  | k :: ks, v :: vs, h => fun u hu => by
    rcases List.mem_cons.1 hu with rfl | hu
    · cases k <;> (obtain ⟨z, rfl⟩ := h.1; rfl)
    · exact fits_one h.2 u hu
  | [], _ :: _, h => h.elim
  | _ :: _, [], h => h.elim
theorem things_one {ks : List CK} {L : List (List Value)} (h : Things ks L) : ∀ u ∈ L.flatten, u.oneCell' = true := fun u hu => by
  obtain ⟨e, he, hu⟩ := List.mem_flatten.1 hu
  exact fits_one (h e he) u hu

theorem own_zero {w : World} {base sz n c : Nat} {e : TypeId} {A : Option Addr} {xs : List Value} (h : w.ownsRow base e sz (.slice A (0 + n) c) (0 + n) ([] ++ xs)) (bh : List Value) : (w.alloc (.cells bh.toArray e)).ownsRow base e sz (.slice A n c) n xs := by
  rw [Nat.zero_add, List.nil_append] at h
  exact h.alloc _
theorem rd_one (w : World) (bh : List Value) (e : TypeId) : Rd (w.alloc (.cells bh.toArray e)) (w.heap.size + 1) (some ⟨w.heap.size, 0, none⟩) bh := fun _ => ⟨w.heap.size, 0, rfl, by omega, fun j u hu => by
  rw [Nat.zero_add, cell_of_row _ _ j bh.toArray e (0, 0) (heap_alloc_new _ _)]
  simpa using hu⟩

set_option maxRecDepth 100000 in
set_option maxHeartbeats 1600000 in
theorem lentItem (A : Option Addr) (n c : Nat) (L : List (List Value)) (bh : List Value) (w : World) (hn : n = L.length) (hn4 : n ≤ 1000) (hL : Things kItem L) (hb : Fits kItem bh) (hr : Rd w w.heap.size A L.flatten) :
    Calls Try.prog 26 #[.slice A n c, .agg bh.toArray] w (LentPost L bh w) := by
  obtain ⟨i0, z0, hi0, hz0, hz1, hz2, hz3⟩ := info_thing (P := Try.prog) (T := 67) (sz := 14) (by kernel_rfl)
  have hk : kItem.length = 14 := by decide
  have hlL : L.flatten.length = n * 14 := by rw [flat_length hL.len, hk, hn]
  have hlb : bh.length = 14 := by rw [hb.length, hk]
  obtain ⟨w0, hw0⟩ : ∃ w0, w0 = w.alloc (.cells bh.toArray 67) := ⟨_, rfl⟩
  have hb0 : Below w.heap.size w w0 := by rw [hw0]; exact (Below.refl _ _).alloc (Nat.le_refl _) _
  have hs0 : w0.heap.size = w.heap.size + 1 := by rw [hw0]; simp
  have HBX : Hid (w0.heap[w.heap.size]? = some (.cells bh.toArray 67 (0, 0))) := Lib.hid (by rw [hw0]; exact heap_alloc_new _ _)
  obtain ⟨w1, hmk, hown1, hg1⟩ := run_make_own (P := Try.prog) w0 w0.heap.size 22 67 i0 _ 14 Try.underlying22 hi0 hz0 hz1 .i64 .i64 (n + 1) (Nat.le_trans (Nat.mul_le_mul hz3 (show n + 1 ≤ 1001 by omega)) (by decide)) (by simp only [maxLen]; omega) (Nat.le_refl _)
  rw [show (((n + 1 : Nat)) : Int) = (n : Int) + 1 from by omega] at hmk
  rw [hs0] at hown1
  have HB1 : Hid (Below w0.heap.size w0 w1) := Lib.hid ((Below.refl _ _).grown hg1 (Nat.le_refl _) (by simp))
  have HR0 : Hid (Rd w0 w0.heap.size A L.flatten) := Lib.hid ((hr.below hb0).mono hb0.size)
  have HO1 := Lib.hid hown1
  have HL1 := Lib.hid (things_one hL)
  have HF1 := Lib.hid (fits_one hb)
  have HLL := Lib.hid hlL
  have HLB := Lib.hid hlb
  have HN := Lib.hid hn
  have HB0 := Lib.hid hb0
  have HS0 := Lib.hid hs0
  have hu := Try.underlying67
  have HSZ : Hid ((Try.prog.info? 67).map (·.size) = some bh.toArray.size) := Lib.hid (by rw [hi0]; simp [hz1, hlb])
  have HBY : Hid (∀ x, x ≤ 1001 → x * i0.bytes ≤ 140737488355328) := Lib.hid (fun x hx => Nat.le_trans (Nat.mul_le_mul hx hz3) (by decide))
  clear hn hL hb hr hk hlL hlb hown1 hg1 hb0 hs0
  rw [hw0] at hmk
  go_enter Try.func26, Try.ntmps26
  have HS1 : Hid (w.heap.size + 1 ≤ w1.heap.size) := Lib.hid (by have := HB1.out.size; have := HS0.out; omega)
  have HR1 : Hid (Rd w1 w1.heap.size A L.flatten) := Lib.hid ((HR0.out.below HB1.out).mono HB1.out.size)
  have HBX1 : Hid (w1.heap[w.heap.size]? = some (.cells bh.toArray 67 (0, 0))) := Lib.hid ((HB1.out.block _ (by have := HS0.out; omega)).trans HBX.out)
  go_wp2_with (first
    | (at_builtin; refine wpList_app rfl (.tmp 10) (.tmp 11) _ rfl (w.heap.size + 1) 67 i0 z0 14 i0.bytes Try.underlying22 hi0 hz0 hz1 rfl hz2 (by decide) _ 0 _ [] rfl HO1.out w1.heap.size A n c L.flatten rfl HLL.out HR1.out HL1.out (by simp only [maxLen]; omega) (HBY.out _ (by omega)) HS1.out ?_; intro A2 c2 w2 ho2 hb2; have HO2 := Lib.hid ho2; have HB2 := Lib.hid hb2; have HBX2 : Hid (w2.heap[w.heap.size]? = some (.cells bh.toArray 67 (0, 0))) := Lib.hid ((hb2.block _ (by omega)).trans HBX1.out); clear ho2 hb2)
    | (refine wpList_load_row rfl 67 (.tmp 3) rfl w.heap.size rfl _ _ _ _ HBX2.out hu rfl HSZ.out ?_)
    | (refine wpList_buildOne rfl _ 67 _ rfl w2.heap.size rfl _ rfl i0 z0 14 Try.underlying22 hi0 hz0 hz1 (by decide) (by decide) bh (by rfl) HLB.out ?_; have HO3 := Lib.hid (own_zero HO2.out bh); have HS2 := Lib.hid HB2.out.size)
    | (at_builtin; refine wpList_app rfl (.tmp 13) (.tmp 15) _ rfl (w.heap.size + 1) 67 i0 z0 14 i0.bytes Try.underlying22 hi0 hz0 hz1 rfl hz2 (by decide) _ n _ L.flatten rfl HO3.out (w2.heap.size + 1) (some ⟨w2.heap.size, 0, none⟩) 1 1 bh rfl (by rw [HLB.out]) (rd_one w2 bh 67) HF1.out (by simp only [maxLen]; omega) (HBY.out _ (by omega)) (by have := HS1.out; have := HS2.out; simp; omega) ?_; intro A3 c3 w4 ho4 hb4; have HN3 := Lib.hid (own_cap ho4); obtain ⟨g, rfl⟩ := own_some ho4 (by omega); have hcap := own_cap ho4; have HO4 := Lib.hid ho4; have HB4 := Lib.hid hb4; clear ho4 hb4)
    | fail)
  go_ret
  refine ⟨g, c3, by rw [HN.out]; rfl, by rw [← HN.out]; exact HN3.out, own_max HO4.out, ?_, Rd.of_own HO4.out, ?_⟩
  · have := own_base HO4.out g rfl; omega
  · exact HB0.out.trans (((HB1.out.mono (by have := HS0.out; omega)).trans (HB2.out.mono (by omega))).trans (((Below.refl w.heap.size w2).alloc (by have := HS1.out; have := HS2.out; omega) _).trans (HB4.out.mono (by omega))))

set_option maxRecDepth 100000 in
set_option maxHeartbeats 1600000 in
theorem lentLot (A : Option Addr) (n c : Nat) (L : List (List Value)) (bh : List Value) (w : World) (hn : n = L.length) (hn4 : n ≤ 1000) (hL : Things kLot L) (hb : Fits kLot bh) (hr : Rd w w.heap.size A L.flatten) :
    Calls Try.prog 27 #[.slice A n c, .agg bh.toArray] w (LentPost L bh w) := by
  obtain ⟨i0, z0, hi0, hz0, hz1, hz2, hz3⟩ := info_thing (P := Try.prog) (T := 70) (sz := 3) (by kernel_rfl)
  have hk : kLot.length = 3 := by decide
  have hlL : L.flatten.length = n * 3 := by rw [flat_length hL.len, hk, hn]
  have hlb : bh.length = 3 := by rw [hb.length, hk]
  obtain ⟨w0, hw0⟩ : ∃ w0, w0 = w.alloc (.cells bh.toArray 70) := ⟨_, rfl⟩
  have hb0 : Below w.heap.size w w0 := by rw [hw0]; exact (Below.refl _ _).alloc (Nat.le_refl _) _
  have hs0 : w0.heap.size = w.heap.size + 1 := by rw [hw0]; simp
  have HBX : Hid (w0.heap[w.heap.size]? = some (.cells bh.toArray 70 (0, 0))) := Lib.hid (by rw [hw0]; exact heap_alloc_new _ _)
  obtain ⟨w1, hmk, hown1, hg1⟩ := run_make_own (P := Try.prog) w0 w0.heap.size 23 70 i0 _ 3 Try.underlying23 hi0 hz0 hz1 .i64 .i64 (n + 1) (Nat.le_trans (Nat.mul_le_mul hz3 (show n + 1 ≤ 1001 by omega)) (by decide)) (by simp only [maxLen]; omega) (Nat.le_refl _)
  rw [show (((n + 1 : Nat)) : Int) = (n : Int) + 1 from by omega] at hmk
  rw [hs0] at hown1
  have HB1 : Hid (Below w0.heap.size w0 w1) := Lib.hid ((Below.refl _ _).grown hg1 (Nat.le_refl _) (by simp))
  have HR0 : Hid (Rd w0 w0.heap.size A L.flatten) := Lib.hid ((hr.below hb0).mono hb0.size)
  have HO1 := Lib.hid hown1
  have HL1 := Lib.hid (things_one hL)
  have HF1 := Lib.hid (fits_one hb)
  have HLL := Lib.hid hlL
  have HLB := Lib.hid hlb
  have HN := Lib.hid hn
  have HB0 := Lib.hid hb0
  have HS0 := Lib.hid hs0
  have hu := Try.underlying70
  have HSZ : Hid ((Try.prog.info? 70).map (·.size) = some bh.toArray.size) := Lib.hid (by rw [hi0]; simp [hz1, hlb])
  have HBY : Hid (∀ x, x ≤ 1001 → x * i0.bytes ≤ 140737488355328) := Lib.hid (fun x hx => Nat.le_trans (Nat.mul_le_mul hx hz3) (by decide))
  clear hn hL hb hr hk hlL hlb hown1 hg1 hb0 hs0
  rw [hw0] at hmk
  go_enter Try.func27, Try.ntmps27
  have HS1 : Hid (w.heap.size + 1 ≤ w1.heap.size) := Lib.hid (by have := HB1.out.size; have := HS0.out; omega)
  have HR1 : Hid (Rd w1 w1.heap.size A L.flatten) := Lib.hid ((HR0.out.below HB1.out).mono HB1.out.size)
  have HBX1 : Hid (w1.heap[w.heap.size]? = some (.cells bh.toArray 70 (0, 0))) := Lib.hid ((HB1.out.block _ (by have := HS0.out; omega)).trans HBX.out)
  go_wp2_with (first
    | (at_builtin; refine wpList_app rfl (.tmp 10) (.tmp 11) _ rfl (w.heap.size + 1) 70 i0 z0 3 i0.bytes Try.underlying23 hi0 hz0 hz1 rfl hz2 (by decide) _ 0 _ [] rfl HO1.out w1.heap.size A n c L.flatten rfl HLL.out HR1.out HL1.out (by simp only [maxLen]; omega) (HBY.out _ (by omega)) HS1.out ?_; intro A2 c2 w2 ho2 hb2; have HO2 := Lib.hid ho2; have HB2 := Lib.hid hb2; have HBX2 : Hid (w2.heap[w.heap.size]? = some (.cells bh.toArray 70 (0, 0))) := Lib.hid ((hb2.block _ (by omega)).trans HBX1.out); clear ho2 hb2)
    | (refine wpList_load_row rfl 70 (.tmp 3) rfl w.heap.size rfl _ _ _ _ HBX2.out hu rfl HSZ.out ?_)
    | (refine wpList_buildOne rfl _ 70 _ rfl w2.heap.size rfl _ rfl i0 z0 3 Try.underlying23 hi0 hz0 hz1 (by decide) (by decide) bh (by rfl) HLB.out ?_; have HO3 := Lib.hid (own_zero HO2.out bh); have HS2 := Lib.hid HB2.out.size)
    | (at_builtin; refine wpList_app rfl (.tmp 13) (.tmp 15) _ rfl (w.heap.size + 1) 70 i0 z0 3 i0.bytes Try.underlying23 hi0 hz0 hz1 rfl hz2 (by decide) _ n _ L.flatten rfl HO3.out (w2.heap.size + 1) (some ⟨w2.heap.size, 0, none⟩) 1 1 bh rfl (by rw [HLB.out]) (rd_one w2 bh 70) HF1.out (by simp only [maxLen]; omega) (HBY.out _ (by omega)) (by have := HS1.out; have := HS2.out; simp; omega) ?_; intro A3 c3 w4 ho4 hb4; have HN3 := Lib.hid (own_cap ho4); obtain ⟨g, rfl⟩ := own_some ho4 (by omega); have hcap := own_cap ho4; have HO4 := Lib.hid ho4; have HB4 := Lib.hid hb4; clear ho4 hb4)
    | fail)
  go_ret
  refine ⟨g, c3, by rw [HN.out]; rfl, by rw [← HN.out]; exact HN3.out, own_max HO4.out, ?_, Rd.of_own HO4.out, ?_⟩
  · have := own_base HO4.out g rfl; omega
  · exact HB0.out.trans (((HB1.out.mono (by have := HS0.out; omega)).trans (HB2.out.mono (by omega))).trans (((Below.refl w.heap.size w2).alloc (by have := HS1.out; have := HS2.out; omega) _).trans (HB4.out.mono (by omega))))

set_option maxRecDepth 100000 in
set_option maxHeartbeats 1600000 in
theorem lentZone (A : Option Addr) (n c : Nat) (L : List (List Value)) (bh : List Value) (w : World) (hn : n = L.length) (hn4 : n ≤ 1000) (hL : Things kZone L) (hb : Fits kZone bh) (hr : Rd w w.heap.size A L.flatten) :
    Calls Try.prog 28 #[.slice A n c, .agg bh.toArray] w (LentPost L bh w) := by
  obtain ⟨i0, z0, hi0, hz0, hz1, hz2, hz3⟩ := info_thing (P := Try.prog) (T := 39) (sz := 2) (by kernel_rfl)
  have hk : kZone.length = 2 := by decide
  have hlL : L.flatten.length = n * 2 := by rw [flat_length hL.len, hk, hn]
  have hlb : bh.length = 2 := by rw [hb.length, hk]
  obtain ⟨w0, hw0⟩ : ∃ w0, w0 = w.alloc (.cells bh.toArray 39) := ⟨_, rfl⟩
  have hb0 : Below w.heap.size w w0 := by rw [hw0]; exact (Below.refl _ _).alloc (Nat.le_refl _) _
  have hs0 : w0.heap.size = w.heap.size + 1 := by rw [hw0]; simp
  have HBX : Hid (w0.heap[w.heap.size]? = some (.cells bh.toArray 39 (0, 0))) := Lib.hid (by rw [hw0]; exact heap_alloc_new _ _)
  obtain ⟨w1, hmk, hown1, hg1⟩ := run_make_own (P := Try.prog) w0 w0.heap.size 24 39 i0 _ 2 Try.underlying24 hi0 hz0 hz1 .i64 .i64 (n + 1) (Nat.le_trans (Nat.mul_le_mul hz3 (show n + 1 ≤ 1001 by omega)) (by decide)) (by simp only [maxLen]; omega) (Nat.le_refl _)
  rw [show (((n + 1 : Nat)) : Int) = (n : Int) + 1 from by omega] at hmk
  rw [hs0] at hown1
  have HB1 : Hid (Below w0.heap.size w0 w1) := Lib.hid ((Below.refl _ _).grown hg1 (Nat.le_refl _) (by simp))
  have HR0 : Hid (Rd w0 w0.heap.size A L.flatten) := Lib.hid ((hr.below hb0).mono hb0.size)
  have HO1 := Lib.hid hown1
  have HL1 := Lib.hid (things_one hL)
  have HF1 := Lib.hid (fits_one hb)
  have HLL := Lib.hid hlL
  have HLB := Lib.hid hlb
  have HN := Lib.hid hn
  have HB0 := Lib.hid hb0
  have HS0 := Lib.hid hs0
  have hu := Try.underlying39
  have HSZ : Hid ((Try.prog.info? 39).map (·.size) = some bh.toArray.size) := Lib.hid (by rw [hi0]; simp [hz1, hlb])
  have HBY : Hid (∀ x, x ≤ 1001 → x * i0.bytes ≤ 140737488355328) := Lib.hid (fun x hx => Nat.le_trans (Nat.mul_le_mul hx hz3) (by decide))
  clear hn hL hb hr hk hlL hlb hown1 hg1 hb0 hs0
  rw [hw0] at hmk
  go_enter Try.func28, Try.ntmps28
  have HS1 : Hid (w.heap.size + 1 ≤ w1.heap.size) := Lib.hid (by have := HB1.out.size; have := HS0.out; omega)
  have HR1 : Hid (Rd w1 w1.heap.size A L.flatten) := Lib.hid ((HR0.out.below HB1.out).mono HB1.out.size)
  have HBX1 : Hid (w1.heap[w.heap.size]? = some (.cells bh.toArray 39 (0, 0))) := Lib.hid ((HB1.out.block _ (by have := HS0.out; omega)).trans HBX.out)
  go_wp2_with (first
    | (at_builtin; refine wpList_app rfl (.tmp 10) (.tmp 11) _ rfl (w.heap.size + 1) 39 i0 z0 2 i0.bytes Try.underlying24 hi0 hz0 hz1 rfl hz2 (by decide) _ 0 _ [] rfl HO1.out w1.heap.size A n c L.flatten rfl HLL.out HR1.out HL1.out (by simp only [maxLen]; omega) (HBY.out _ (by omega)) HS1.out ?_; intro A2 c2 w2 ho2 hb2; have HO2 := Lib.hid ho2; have HB2 := Lib.hid hb2; have HBX2 : Hid (w2.heap[w.heap.size]? = some (.cells bh.toArray 39 (0, 0))) := Lib.hid ((hb2.block _ (by omega)).trans HBX1.out); clear ho2 hb2)
    | (refine wpList_load_row rfl 39 (.tmp 3) rfl w.heap.size rfl _ _ _ _ HBX2.out hu rfl HSZ.out ?_)
    | (refine wpList_buildOne rfl _ 39 _ rfl w2.heap.size rfl _ rfl i0 z0 2 Try.underlying24 hi0 hz0 hz1 (by decide) (by decide) bh (by rfl) HLB.out ?_; have HO3 := Lib.hid (own_zero HO2.out bh); have HS2 := Lib.hid HB2.out.size)
    | (at_builtin; refine wpList_app rfl (.tmp 13) (.tmp 15) _ rfl (w.heap.size + 1) 39 i0 z0 2 i0.bytes Try.underlying24 hi0 hz0 hz1 rfl hz2 (by decide) _ n _ L.flatten rfl HO3.out (w2.heap.size + 1) (some ⟨w2.heap.size, 0, none⟩) 1 1 bh rfl (by rw [HLB.out]) (rd_one w2 bh 39) HF1.out (by simp only [maxLen]; omega) (HBY.out _ (by omega)) (by have := HS1.out; have := HS2.out; simp; omega) ?_; intro A3 c3 w4 ho4 hb4; have HN3 := Lib.hid (own_cap ho4); obtain ⟨g, rfl⟩ := own_some ho4 (by omega); have hcap := own_cap ho4; have HO4 := Lib.hid ho4; have HB4 := Lib.hid hb4; clear ho4 hb4)
    | fail)
  go_ret
  refine ⟨g, c3, by rw [HN.out]; rfl, by rw [← HN.out]; exact HN3.out, own_max HO4.out, ?_, Rd.of_own HO4.out, ?_⟩
  · have := own_base HO4.out g rfl; omega
  · exact HB0.out.trans (((HB1.out.mono (by have := HS0.out; omega)).trans (HB2.out.mono (by omega))).trans (((Below.refl w.heap.size w2).alloc (by have := HS1.out; have := HS2.out; omega) _).trans (HB4.out.mono (by omega))))

set_option maxRecDepth 100000 in
set_option maxHeartbeats 1600000 in
theorem lentBin (A : Option Addr) (n c : Nat) (L : List (List Value)) (bh : List Value) (w : World) (hn : n = L.length) (hn4 : n ≤ 1000) (hL : Things kBin L) (hb : Fits kBin bh) (hr : Rd w w.heap.size A L.flatten) :
    Calls Try.prog 29 #[.slice A n c, .agg bh.toArray] w (LentPost L bh w) := by
  obtain ⟨i0, z0, hi0, hz0, hz1, hz2, hz3⟩ := info_thing (P := Try.prog) (T := 41) (sz := 8) (by kernel_rfl)
  have hk : kBin.length = 8 := by decide
  have hlL : L.flatten.length = n * 8 := by rw [flat_length hL.len, hk, hn]
  have hlb : bh.length = 8 := by rw [hb.length, hk]
  obtain ⟨w0, hw0⟩ : ∃ w0, w0 = w.alloc (.cells bh.toArray 41) := ⟨_, rfl⟩
  have hb0 : Below w.heap.size w w0 := by rw [hw0]; exact (Below.refl _ _).alloc (Nat.le_refl _) _
  have hs0 : w0.heap.size = w.heap.size + 1 := by rw [hw0]; simp
  have HBX : Hid (w0.heap[w.heap.size]? = some (.cells bh.toArray 41 (0, 0))) := Lib.hid (by rw [hw0]; exact heap_alloc_new _ _)
  obtain ⟨w1, hmk, hown1, hg1⟩ := run_make_own (P := Try.prog) w0 w0.heap.size 25 41 i0 _ 8 Try.underlying25 hi0 hz0 hz1 .i64 .i64 (n + 1) (Nat.le_trans (Nat.mul_le_mul hz3 (show n + 1 ≤ 1001 by omega)) (by decide)) (by simp only [maxLen]; omega) (Nat.le_refl _)
  rw [show (((n + 1 : Nat)) : Int) = (n : Int) + 1 from by omega] at hmk
  rw [hs0] at hown1
  have HB1 : Hid (Below w0.heap.size w0 w1) := Lib.hid ((Below.refl _ _).grown hg1 (Nat.le_refl _) (by simp))
  have HR0 : Hid (Rd w0 w0.heap.size A L.flatten) := Lib.hid ((hr.below hb0).mono hb0.size)
  have HO1 := Lib.hid hown1
  have HL1 := Lib.hid (things_one hL)
  have HF1 := Lib.hid (fits_one hb)
  have HLL := Lib.hid hlL
  have HLB := Lib.hid hlb
  have HN := Lib.hid hn
  have HB0 := Lib.hid hb0
  have HS0 := Lib.hid hs0
  have hu := Try.underlying41
  have HSZ : Hid ((Try.prog.info? 41).map (·.size) = some bh.toArray.size) := Lib.hid (by rw [hi0]; simp [hz1, hlb])
  have HBY : Hid (∀ x, x ≤ 1001 → x * i0.bytes ≤ 140737488355328) := Lib.hid (fun x hx => Nat.le_trans (Nat.mul_le_mul hx hz3) (by decide))
  clear hn hL hb hr hk hlL hlb hown1 hg1 hb0 hs0
  rw [hw0] at hmk
  go_enter Try.func29, Try.ntmps29
  have HS1 : Hid (w.heap.size + 1 ≤ w1.heap.size) := Lib.hid (by have := HB1.out.size; have := HS0.out; omega)
  have HR1 : Hid (Rd w1 w1.heap.size A L.flatten) := Lib.hid ((HR0.out.below HB1.out).mono HB1.out.size)
  have HBX1 : Hid (w1.heap[w.heap.size]? = some (.cells bh.toArray 41 (0, 0))) := Lib.hid ((HB1.out.block _ (by have := HS0.out; omega)).trans HBX.out)
  go_wp2_with (first
    | (at_builtin; refine wpList_app rfl (.tmp 10) (.tmp 11) _ rfl (w.heap.size + 1) 41 i0 z0 8 i0.bytes Try.underlying25 hi0 hz0 hz1 rfl hz2 (by decide) _ 0 _ [] rfl HO1.out w1.heap.size A n c L.flatten rfl HLL.out HR1.out HL1.out (by simp only [maxLen]; omega) (HBY.out _ (by omega)) HS1.out ?_; intro A2 c2 w2 ho2 hb2; have HO2 := Lib.hid ho2; have HB2 := Lib.hid hb2; have HBX2 : Hid (w2.heap[w.heap.size]? = some (.cells bh.toArray 41 (0, 0))) := Lib.hid ((hb2.block _ (by omega)).trans HBX1.out); clear ho2 hb2)
    | (refine wpList_load_row rfl 41 (.tmp 3) rfl w.heap.size rfl _ _ _ _ HBX2.out hu rfl HSZ.out ?_)
    | (refine wpList_buildOne rfl _ 41 _ rfl w2.heap.size rfl _ rfl i0 z0 8 Try.underlying25 hi0 hz0 hz1 (by decide) (by decide) bh (by rfl) HLB.out ?_; have HO3 := Lib.hid (own_zero HO2.out bh); have HS2 := Lib.hid HB2.out.size)
    | (at_builtin; refine wpList_app rfl (.tmp 13) (.tmp 15) _ rfl (w.heap.size + 1) 41 i0 z0 8 i0.bytes Try.underlying25 hi0 hz0 hz1 rfl hz2 (by decide) _ n _ L.flatten rfl HO3.out (w2.heap.size + 1) (some ⟨w2.heap.size, 0, none⟩) 1 1 bh rfl (by rw [HLB.out]) (rd_one w2 bh 41) HF1.out (by simp only [maxLen]; omega) (HBY.out _ (by omega)) (by have := HS1.out; have := HS2.out; simp; omega) ?_; intro A3 c3 w4 ho4 hb4; have HN3 := Lib.hid (own_cap ho4); obtain ⟨g, rfl⟩ := own_some ho4 (by omega); have hcap := own_cap ho4; have HO4 := Lib.hid ho4; have HB4 := Lib.hid hb4; clear ho4 hb4)
    | fail)
  go_ret
  refine ⟨g, c3, by rw [HN.out]; rfl, by rw [← HN.out]; exact HN3.out, own_max HO4.out, ?_, Rd.of_own HO4.out, ?_⟩
  · have := own_base HO4.out g rfl; omega
  · exact HB0.out.trans (((HB1.out.mono (by have := HS0.out; omega)).trans (HB2.out.mono (by omega))).trans (((Below.refl w.heap.size w2).alloc (by have := HS1.out; have := HS2.out; omega) _).trans (HB4.out.mono (by omega))))

set_option maxRecDepth 100000 in
set_option maxHeartbeats 1600000 in
theorem lentQuant (A : Option Addr) (n c : Nat) (L : List (List Value)) (bh : List Value) (w : World) (hn : n = L.length) (hn4 : n ≤ 1000) (hL : Things kQuant L) (hb : Fits kQuant bh) (hr : Rd w w.heap.size A L.flatten) :
    Calls Try.prog 30 #[.slice A n c, .agg bh.toArray] w (LentPost L bh w) := by
  obtain ⟨i0, z0, hi0, hz0, hz1, hz2, hz3⟩ := info_thing (P := Try.prog) (T := 77) (sz := 6) (by kernel_rfl)
  have hk : kQuant.length = 6 := by decide
  have hlL : L.flatten.length = n * 6 := by rw [flat_length hL.len, hk, hn]
  have hlb : bh.length = 6 := by rw [hb.length, hk]
  obtain ⟨w0, hw0⟩ : ∃ w0, w0 = w.alloc (.cells bh.toArray 77) := ⟨_, rfl⟩
  have hb0 : Below w.heap.size w w0 := by rw [hw0]; exact (Below.refl _ _).alloc (Nat.le_refl _) _
  have hs0 : w0.heap.size = w.heap.size + 1 := by rw [hw0]; simp
  have HBX : Hid (w0.heap[w.heap.size]? = some (.cells bh.toArray 77 (0, 0))) := Lib.hid (by rw [hw0]; exact heap_alloc_new _ _)
  obtain ⟨w1, hmk, hown1, hg1⟩ := run_make_own (P := Try.prog) w0 w0.heap.size 26 77 i0 _ 6 Try.underlying26 hi0 hz0 hz1 .i64 .i64 (n + 1) (Nat.le_trans (Nat.mul_le_mul hz3 (show n + 1 ≤ 1001 by omega)) (by decide)) (by simp only [maxLen]; omega) (Nat.le_refl _)
  rw [show (((n + 1 : Nat)) : Int) = (n : Int) + 1 from by omega] at hmk
  rw [hs0] at hown1
  have HB1 : Hid (Below w0.heap.size w0 w1) := Lib.hid ((Below.refl _ _).grown hg1 (Nat.le_refl _) (by simp))
  have HR0 : Hid (Rd w0 w0.heap.size A L.flatten) := Lib.hid ((hr.below hb0).mono hb0.size)
  have HO1 := Lib.hid hown1
  have HL1 := Lib.hid (things_one hL)
  have HF1 := Lib.hid (fits_one hb)
  have HLL := Lib.hid hlL
  have HLB := Lib.hid hlb
  have HN := Lib.hid hn
  have HB0 := Lib.hid hb0
  have HS0 := Lib.hid hs0
  have hu := Try.underlying77
  have HSZ : Hid ((Try.prog.info? 77).map (·.size) = some bh.toArray.size) := Lib.hid (by rw [hi0]; simp [hz1, hlb])
  have HBY : Hid (∀ x, x ≤ 1001 → x * i0.bytes ≤ 140737488355328) := Lib.hid (fun x hx => Nat.le_trans (Nat.mul_le_mul hx hz3) (by decide))
  clear hn hL hb hr hk hlL hlb hown1 hg1 hb0 hs0
  rw [hw0] at hmk
  go_enter Try.func30, Try.ntmps30
  have HS1 : Hid (w.heap.size + 1 ≤ w1.heap.size) := Lib.hid (by have := HB1.out.size; have := HS0.out; omega)
  have HR1 : Hid (Rd w1 w1.heap.size A L.flatten) := Lib.hid ((HR0.out.below HB1.out).mono HB1.out.size)
  have HBX1 : Hid (w1.heap[w.heap.size]? = some (.cells bh.toArray 77 (0, 0))) := Lib.hid ((HB1.out.block _ (by have := HS0.out; omega)).trans HBX.out)
  go_wp2_with (first
    | (at_builtin; refine wpList_app rfl (.tmp 10) (.tmp 11) _ rfl (w.heap.size + 1) 77 i0 z0 6 i0.bytes Try.underlying26 hi0 hz0 hz1 rfl hz2 (by decide) _ 0 _ [] rfl HO1.out w1.heap.size A n c L.flatten rfl HLL.out HR1.out HL1.out (by simp only [maxLen]; omega) (HBY.out _ (by omega)) HS1.out ?_; intro A2 c2 w2 ho2 hb2; have HO2 := Lib.hid ho2; have HB2 := Lib.hid hb2; have HBX2 : Hid (w2.heap[w.heap.size]? = some (.cells bh.toArray 77 (0, 0))) := Lib.hid ((hb2.block _ (by omega)).trans HBX1.out); clear ho2 hb2)
    | (refine wpList_load_row rfl 77 (.tmp 3) rfl w.heap.size rfl _ _ _ _ HBX2.out hu rfl HSZ.out ?_)
    | (refine wpList_buildOne rfl _ 77 _ rfl w2.heap.size rfl _ rfl i0 z0 6 Try.underlying26 hi0 hz0 hz1 (by decide) (by decide) bh (by rfl) HLB.out ?_; have HO3 := Lib.hid (own_zero HO2.out bh); have HS2 := Lib.hid HB2.out.size)
    | (at_builtin; refine wpList_app rfl (.tmp 13) (.tmp 15) _ rfl (w.heap.size + 1) 77 i0 z0 6 i0.bytes Try.underlying26 hi0 hz0 hz1 rfl hz2 (by decide) _ n _ L.flatten rfl HO3.out (w2.heap.size + 1) (some ⟨w2.heap.size, 0, none⟩) 1 1 bh rfl (by rw [HLB.out]) (rd_one w2 bh 77) HF1.out (by simp only [maxLen]; omega) (HBY.out _ (by omega)) (by have := HS1.out; have := HS2.out; simp; omega) ?_; intro A3 c3 w4 ho4 hb4; have HN3 := Lib.hid (own_cap ho4); obtain ⟨g, rfl⟩ := own_some ho4 (by omega); have hcap := own_cap ho4; have HO4 := Lib.hid ho4; have HB4 := Lib.hid hb4; clear ho4 hb4)
    | fail)
  go_ret
  refine ⟨g, c3, by rw [HN.out]; rfl, by rw [← HN.out]; exact HN3.out, own_max HO4.out, ?_, Rd.of_own HO4.out, ?_⟩
  · have := own_base HO4.out g rfl; omega
  · exact HB0.out.trans (((HB1.out.mono (by have := HS0.out; omega)).trans (HB2.out.mono (by omega))).trans (((Below.refl w.heap.size w2).alloc (by have := HS1.out; have := HS2.out; omega) _).trans (HB4.out.mono (by omega))))

set_option maxRecDepth 100000 in
set_option maxHeartbeats 1600000 in
theorem lentRule (A : Option Addr) (n c : Nat) (L : List (List Value)) (bh : List Value) (w : World) (hn : n = L.length) (hn4 : n ≤ 1000) (hL : Things kRule L) (hb : Fits kRule bh) (hr : Rd w w.heap.size A L.flatten) :
    Calls Try.prog 31 #[.slice A n c, .agg bh.toArray] w (LentPost L bh w) := by
  obtain ⟨i0, z0, hi0, hz0, hz1, hz2, hz3⟩ := info_thing (P := Try.prog) (T := 80) (sz := 3) (by kernel_rfl)
  have hk : kRule.length = 3 := by decide
  have hlL : L.flatten.length = n * 3 := by rw [flat_length hL.len, hk, hn]
  have hlb : bh.length = 3 := by rw [hb.length, hk]
  obtain ⟨w0, hw0⟩ : ∃ w0, w0 = w.alloc (.cells bh.toArray 80) := ⟨_, rfl⟩
  have hb0 : Below w.heap.size w w0 := by rw [hw0]; exact (Below.refl _ _).alloc (Nat.le_refl _) _
  have hs0 : w0.heap.size = w.heap.size + 1 := by rw [hw0]; simp
  have HBX : Hid (w0.heap[w.heap.size]? = some (.cells bh.toArray 80 (0, 0))) := Lib.hid (by rw [hw0]; exact heap_alloc_new _ _)
  obtain ⟨w1, hmk, hown1, hg1⟩ := run_make_own (P := Try.prog) w0 w0.heap.size 27 80 i0 _ 3 Try.underlying27 hi0 hz0 hz1 .i64 .i64 (n + 1) (Nat.le_trans (Nat.mul_le_mul hz3 (show n + 1 ≤ 1001 by omega)) (by decide)) (by simp only [maxLen]; omega) (Nat.le_refl _)
  rw [show (((n + 1 : Nat)) : Int) = (n : Int) + 1 from by omega] at hmk
  rw [hs0] at hown1
  have HB1 : Hid (Below w0.heap.size w0 w1) := Lib.hid ((Below.refl _ _).grown hg1 (Nat.le_refl _) (by simp))
  have HR0 : Hid (Rd w0 w0.heap.size A L.flatten) := Lib.hid ((hr.below hb0).mono hb0.size)
  have HO1 := Lib.hid hown1
  have HL1 := Lib.hid (things_one hL)
  have HF1 := Lib.hid (fits_one hb)
  have HLL := Lib.hid hlL
  have HLB := Lib.hid hlb
  have HN := Lib.hid hn
  have HB0 := Lib.hid hb0
  have HS0 := Lib.hid hs0
  have hu := Try.underlying80
  have HSZ : Hid ((Try.prog.info? 80).map (·.size) = some bh.toArray.size) := Lib.hid (by rw [hi0]; simp [hz1, hlb])
  have HBY : Hid (∀ x, x ≤ 1001 → x * i0.bytes ≤ 140737488355328) := Lib.hid (fun x hx => Nat.le_trans (Nat.mul_le_mul hx hz3) (by decide))
  clear hn hL hb hr hk hlL hlb hown1 hg1 hb0 hs0
  rw [hw0] at hmk
  go_enter Try.func31, Try.ntmps31
  have HS1 : Hid (w.heap.size + 1 ≤ w1.heap.size) := Lib.hid (by have := HB1.out.size; have := HS0.out; omega)
  have HR1 : Hid (Rd w1 w1.heap.size A L.flatten) := Lib.hid ((HR0.out.below HB1.out).mono HB1.out.size)
  have HBX1 : Hid (w1.heap[w.heap.size]? = some (.cells bh.toArray 80 (0, 0))) := Lib.hid ((HB1.out.block _ (by have := HS0.out; omega)).trans HBX.out)
  go_wp2_with (first
    | (at_builtin; refine wpList_app rfl (.tmp 10) (.tmp 11) _ rfl (w.heap.size + 1) 80 i0 z0 3 i0.bytes Try.underlying27 hi0 hz0 hz1 rfl hz2 (by decide) _ 0 _ [] rfl HO1.out w1.heap.size A n c L.flatten rfl HLL.out HR1.out HL1.out (by simp only [maxLen]; omega) (HBY.out _ (by omega)) HS1.out ?_; intro A2 c2 w2 ho2 hb2; have HO2 := Lib.hid ho2; have HB2 := Lib.hid hb2; have HBX2 : Hid (w2.heap[w.heap.size]? = some (.cells bh.toArray 80 (0, 0))) := Lib.hid ((hb2.block _ (by omega)).trans HBX1.out); clear ho2 hb2)
    | (refine wpList_load_row rfl 80 (.tmp 3) rfl w.heap.size rfl _ _ _ _ HBX2.out hu rfl HSZ.out ?_)
    | (refine wpList_buildOne rfl _ 80 _ rfl w2.heap.size rfl _ rfl i0 z0 3 Try.underlying27 hi0 hz0 hz1 (by decide) (by decide) bh (by rfl) HLB.out ?_; have HO3 := Lib.hid (own_zero HO2.out bh); have HS2 := Lib.hid HB2.out.size)
    | (at_builtin; refine wpList_app rfl (.tmp 13) (.tmp 15) _ rfl (w.heap.size + 1) 80 i0 z0 3 i0.bytes Try.underlying27 hi0 hz0 hz1 rfl hz2 (by decide) _ n _ L.flatten rfl HO3.out (w2.heap.size + 1) (some ⟨w2.heap.size, 0, none⟩) 1 1 bh rfl (by rw [HLB.out]) (rd_one w2 bh 80) HF1.out (by simp only [maxLen]; omega) (HBY.out _ (by omega)) (by have := HS1.out; have := HS2.out; simp; omega) ?_; intro A3 c3 w4 ho4 hb4; have HN3 := Lib.hid (own_cap ho4); obtain ⟨g, rfl⟩ := own_some ho4 (by omega); have hcap := own_cap ho4; have HO4 := Lib.hid ho4; have HB4 := Lib.hid hb4; clear ho4 hb4)
    | fail)
  go_ret
  refine ⟨g, c3, by rw [HN.out]; rfl, by rw [← HN.out]; exact HN3.out, own_max HO4.out, ?_, Rd.of_own HO4.out, ?_⟩
  · have := own_base HO4.out g rfl; omega
  · exact HB0.out.trans (((HB1.out.mono (by have := HS0.out; omega)).trans (HB2.out.mono (by omega))).trans (((Below.refl w.heap.size w2).alloc (by have := HS1.out; have := HS2.out; omega) _).trans (HB4.out.mono (by omega))))

set_option maxRecDepth 100000 in
set_option maxHeartbeats 1600000 in
theorem lentNotice (A : Option Addr) (n c : Nat) (L : List (List Value)) (bh : List Value) (w : World) (hn : n = L.length) (hn4 : n ≤ 1000) (hL : Things kNotice L) (hb : Fits kNotice bh) (hr : Rd w w.heap.size A L.flatten) :
    Calls Try.prog 32 #[.slice A n c, .agg bh.toArray] w (LentPost L bh w) := by
  obtain ⟨i0, z0, hi0, hz0, hz1, hz2, hz3⟩ := info_thing (P := Try.prog) (T := 86) (sz := 51) (by kernel_rfl)
  have hk : kNotice.length = 51 := by decide
  have hlL : L.flatten.length = n * 51 := by rw [flat_length hL.len, hk, hn]
  have hlb : bh.length = 51 := by rw [hb.length, hk]
  obtain ⟨w0, hw0⟩ : ∃ w0, w0 = w.alloc (.cells bh.toArray 86) := ⟨_, rfl⟩
  have hb0 : Below w.heap.size w w0 := by rw [hw0]; exact (Below.refl _ _).alloc (Nat.le_refl _) _
  have hs0 : w0.heap.size = w.heap.size + 1 := by rw [hw0]; simp
  have HBX : Hid (w0.heap[w.heap.size]? = some (.cells bh.toArray 86 (0, 0))) := Lib.hid (by rw [hw0]; exact heap_alloc_new _ _)
  obtain ⟨w1, hmk, hown1, hg1⟩ := run_make_own (P := Try.prog) w0 w0.heap.size 28 86 i0 _ 51 Try.underlying28 hi0 hz0 hz1 .i64 .i64 (n + 1) (Nat.le_trans (Nat.mul_le_mul hz3 (show n + 1 ≤ 1001 by omega)) (by decide)) (by simp only [maxLen]; omega) (Nat.le_refl _)
  rw [show (((n + 1 : Nat)) : Int) = (n : Int) + 1 from by omega] at hmk
  rw [hs0] at hown1
  have HB1 : Hid (Below w0.heap.size w0 w1) := Lib.hid ((Below.refl _ _).grown hg1 (Nat.le_refl _) (by simp))
  have HR0 : Hid (Rd w0 w0.heap.size A L.flatten) := Lib.hid ((hr.below hb0).mono hb0.size)
  have HO1 := Lib.hid hown1
  have HL1 := Lib.hid (things_one hL)
  have HF1 := Lib.hid (fits_one hb)
  have HLL := Lib.hid hlL
  have HLB := Lib.hid hlb
  have HN := Lib.hid hn
  have HB0 := Lib.hid hb0
  have HS0 := Lib.hid hs0
  have hu := Try.underlying86
  have HSZ : Hid ((Try.prog.info? 86).map (·.size) = some bh.toArray.size) := Lib.hid (by rw [hi0]; simp [hz1, hlb])
  have HBY : Hid (∀ x, x ≤ 1001 → x * i0.bytes ≤ 140737488355328) := Lib.hid (fun x hx => Nat.le_trans (Nat.mul_le_mul hx hz3) (by decide))
  clear hn hL hb hr hk hlL hlb hown1 hg1 hb0 hs0
  rw [hw0] at hmk
  go_enter Try.func32, Try.ntmps32
  have HS1 : Hid (w.heap.size + 1 ≤ w1.heap.size) := Lib.hid (by have := HB1.out.size; have := HS0.out; omega)
  have HR1 : Hid (Rd w1 w1.heap.size A L.flatten) := Lib.hid ((HR0.out.below HB1.out).mono HB1.out.size)
  have HBX1 : Hid (w1.heap[w.heap.size]? = some (.cells bh.toArray 86 (0, 0))) := Lib.hid ((HB1.out.block _ (by have := HS0.out; omega)).trans HBX.out)
  go_wp2_with (first
    | (at_builtin; refine wpList_app rfl (.tmp 10) (.tmp 11) _ rfl (w.heap.size + 1) 86 i0 z0 51 i0.bytes Try.underlying28 hi0 hz0 hz1 rfl hz2 (by decide) _ 0 _ [] rfl HO1.out w1.heap.size A n c L.flatten rfl HLL.out HR1.out HL1.out (by simp only [maxLen]; omega) (HBY.out _ (by omega)) HS1.out ?_; intro A2 c2 w2 ho2 hb2; have HO2 := Lib.hid ho2; have HB2 := Lib.hid hb2; have HBX2 : Hid (w2.heap[w.heap.size]? = some (.cells bh.toArray 86 (0, 0))) := Lib.hid ((hb2.block _ (by omega)).trans HBX1.out); clear ho2 hb2)
    | (refine wpList_load_row rfl 86 (.tmp 3) rfl w.heap.size rfl _ _ _ _ HBX2.out hu rfl HSZ.out ?_)
    | (refine wpList_buildOne rfl _ 86 _ rfl w2.heap.size rfl _ rfl i0 z0 51 Try.underlying28 hi0 hz0 hz1 (by decide) (by decide) bh (by rfl) HLB.out ?_; have HO3 := Lib.hid (own_zero HO2.out bh); have HS2 := Lib.hid HB2.out.size)
    | (at_builtin; refine wpList_app rfl (.tmp 13) (.tmp 15) _ rfl (w.heap.size + 1) 86 i0 z0 51 i0.bytes Try.underlying28 hi0 hz0 hz1 rfl hz2 (by decide) _ n _ L.flatten rfl HO3.out (w2.heap.size + 1) (some ⟨w2.heap.size, 0, none⟩) 1 1 bh rfl (by rw [HLB.out]) (rd_one w2 bh 86) HF1.out (by simp only [maxLen]; omega) (HBY.out _ (by omega)) (by have := HS1.out; have := HS2.out; simp; omega) ?_; intro A3 c3 w4 ho4 hb4; have HN3 := Lib.hid (own_cap ho4); obtain ⟨g, rfl⟩ := own_some ho4 (by omega); have hcap := own_cap ho4; have HO4 := Lib.hid ho4; have HB4 := Lib.hid hb4; clear ho4 hb4)
    | fail)
  go_ret
  refine ⟨g, c3, by rw [HN.out]; rfl, by rw [← HN.out]; exact HN3.out, own_max HO4.out, ?_, Rd.of_own HO4.out, ?_⟩
  · have := own_base HO4.out g rfl; omega
  · exact HB0.out.trans (((HB1.out.mono (by have := HS0.out; omega)).trans (HB2.out.mono (by omega))).trans (((Below.refl w.heap.size w2).alloc (by have := HS1.out; have := HS2.out; omega) _).trans (HB4.out.mono (by omega))))

set_option maxRecDepth 100000 in
set_option maxHeartbeats 1600000 in
theorem lentOrder (A : Option Addr) (n c : Nat) (L : List (List Value)) (bh : List Value) (w : World) (hn : n = L.length) (hn4 : n ≤ 1000) (hL : Things kOrder L) (hb : Fits kOrder bh) (hr : Rd w w.heap.size A L.flatten) :
    Calls Try.prog 33 #[.slice A n c, .agg bh.toArray] w (LentPost L bh w) := by
  obtain ⟨i0, z0, hi0, hz0, hz1, hz2, hz3⟩ := info_thing (P := Try.prog) (T := 89) (sz := 50) (by kernel_rfl)
  have hk : kOrder.length = 50 := by decide
  have hlL : L.flatten.length = n * 50 := by rw [flat_length hL.len, hk, hn]
  have hlb : bh.length = 50 := by rw [hb.length, hk]
  obtain ⟨w0, hw0⟩ : ∃ w0, w0 = w.alloc (.cells bh.toArray 89) := ⟨_, rfl⟩
  have hb0 : Below w.heap.size w w0 := by rw [hw0]; exact (Below.refl _ _).alloc (Nat.le_refl _) _
  have hs0 : w0.heap.size = w.heap.size + 1 := by rw [hw0]; simp
  have HBX : Hid (w0.heap[w.heap.size]? = some (.cells bh.toArray 89 (0, 0))) := Lib.hid (by rw [hw0]; exact heap_alloc_new _ _)
  obtain ⟨w1, hmk, hown1, hg1⟩ := run_make_own (P := Try.prog) w0 w0.heap.size 29 89 i0 _ 50 Try.underlying29 hi0 hz0 hz1 .i64 .i64 (n + 1) (Nat.le_trans (Nat.mul_le_mul hz3 (show n + 1 ≤ 1001 by omega)) (by decide)) (by simp only [maxLen]; omega) (Nat.le_refl _)
  rw [show (((n + 1 : Nat)) : Int) = (n : Int) + 1 from by omega] at hmk
  rw [hs0] at hown1
  have HB1 : Hid (Below w0.heap.size w0 w1) := Lib.hid ((Below.refl _ _).grown hg1 (Nat.le_refl _) (by simp))
  have HR0 : Hid (Rd w0 w0.heap.size A L.flatten) := Lib.hid ((hr.below hb0).mono hb0.size)
  have HO1 := Lib.hid hown1
  have HL1 := Lib.hid (things_one hL)
  have HF1 := Lib.hid (fits_one hb)
  have HLL := Lib.hid hlL
  have HLB := Lib.hid hlb
  have HN := Lib.hid hn
  have HB0 := Lib.hid hb0
  have HS0 := Lib.hid hs0
  have hu := Try.underlying89
  have HSZ : Hid ((Try.prog.info? 89).map (·.size) = some bh.toArray.size) := Lib.hid (by rw [hi0]; simp [hz1, hlb])
  have HBY : Hid (∀ x, x ≤ 1001 → x * i0.bytes ≤ 140737488355328) := Lib.hid (fun x hx => Nat.le_trans (Nat.mul_le_mul hx hz3) (by decide))
  clear hn hL hb hr hk hlL hlb hown1 hg1 hb0 hs0
  rw [hw0] at hmk
  go_enter Try.func33, Try.ntmps33
  have HS1 : Hid (w.heap.size + 1 ≤ w1.heap.size) := Lib.hid (by have := HB1.out.size; have := HS0.out; omega)
  have HR1 : Hid (Rd w1 w1.heap.size A L.flatten) := Lib.hid ((HR0.out.below HB1.out).mono HB1.out.size)
  have HBX1 : Hid (w1.heap[w.heap.size]? = some (.cells bh.toArray 89 (0, 0))) := Lib.hid ((HB1.out.block _ (by have := HS0.out; omega)).trans HBX.out)
  go_wp2_with (first
    | (at_builtin; refine wpList_app rfl (.tmp 10) (.tmp 11) _ rfl (w.heap.size + 1) 89 i0 z0 50 i0.bytes Try.underlying29 hi0 hz0 hz1 rfl hz2 (by decide) _ 0 _ [] rfl HO1.out w1.heap.size A n c L.flatten rfl HLL.out HR1.out HL1.out (by simp only [maxLen]; omega) (HBY.out _ (by omega)) HS1.out ?_; intro A2 c2 w2 ho2 hb2; have HO2 := Lib.hid ho2; have HB2 := Lib.hid hb2; have HBX2 : Hid (w2.heap[w.heap.size]? = some (.cells bh.toArray 89 (0, 0))) := Lib.hid ((hb2.block _ (by omega)).trans HBX1.out); clear ho2 hb2)
    | (refine wpList_load_row rfl 89 (.tmp 3) rfl w.heap.size rfl _ _ _ _ HBX2.out hu rfl HSZ.out ?_)
    | (refine wpList_buildOne rfl _ 89 _ rfl w2.heap.size rfl _ rfl i0 z0 50 Try.underlying29 hi0 hz0 hz1 (by decide) (by decide) bh (by rfl) HLB.out ?_; have HO3 := Lib.hid (own_zero HO2.out bh); have HS2 := Lib.hid HB2.out.size)
    | (at_builtin; refine wpList_app rfl (.tmp 13) (.tmp 15) _ rfl (w.heap.size + 1) 89 i0 z0 50 i0.bytes Try.underlying29 hi0 hz0 hz1 rfl hz2 (by decide) _ n _ L.flatten rfl HO3.out (w2.heap.size + 1) (some ⟨w2.heap.size, 0, none⟩) 1 1 bh rfl (by rw [HLB.out]) (rd_one w2 bh 89) HF1.out (by simp only [maxLen]; omega) (HBY.out _ (by omega)) (by have := HS1.out; have := HS2.out; simp; omega) ?_; intro A3 c3 w4 ho4 hb4; have HN3 := Lib.hid (own_cap ho4); obtain ⟨g, rfl⟩ := own_some ho4 (by omega); have hcap := own_cap ho4; have HO4 := Lib.hid ho4; have HB4 := Lib.hid hb4; clear ho4 hb4)
    | fail)
  go_ret
  refine ⟨g, c3, by rw [HN.out]; rfl, by rw [← HN.out]; exact HN3.out, own_max HO4.out, ?_, Rd.of_own HO4.out, ?_⟩
  · have := own_base HO4.out g rfl; omega
  · exact HB0.out.trans (((HB1.out.mono (by have := HS0.out; omega)).trans (HB2.out.mono (by omega))).trans (((Below.refl w.heap.size w2).alloc (by have := HS1.out; have := HS2.out; omega) _).trans (HB4.out.mono (by omega))))

set_option maxRecDepth 100000 in
set_option maxHeartbeats 1600000 in
theorem lentClaim (A : Option Addr) (n c : Nat) (L : List (List Value)) (bh : List Value) (w : World) (hn : n = L.length) (hn4 : n ≤ 1000) (hL : Things kClaim L) (hb : Fits kClaim bh) (hr : Rd w w.heap.size A L.flatten) :
    Calls Try.prog 34 #[.slice A n c, .agg bh.toArray] w (LentPost L bh w) := by
  obtain ⟨i0, z0, hi0, hz0, hz1, hz2, hz3⟩ := info_thing (P := Try.prog) (T := 92) (sz := 8) (by kernel_rfl)
  have hk : kClaim.length = 8 := by decide
  have hlL : L.flatten.length = n * 8 := by rw [flat_length hL.len, hk, hn]
  have hlb : bh.length = 8 := by rw [hb.length, hk]
  obtain ⟨w0, hw0⟩ : ∃ w0, w0 = w.alloc (.cells bh.toArray 92) := ⟨_, rfl⟩
  have hb0 : Below w.heap.size w w0 := by rw [hw0]; exact (Below.refl _ _).alloc (Nat.le_refl _) _
  have hs0 : w0.heap.size = w.heap.size + 1 := by rw [hw0]; simp
  have HBX : Hid (w0.heap[w.heap.size]? = some (.cells bh.toArray 92 (0, 0))) := Lib.hid (by rw [hw0]; exact heap_alloc_new _ _)
  obtain ⟨w1, hmk, hown1, hg1⟩ := run_make_own (P := Try.prog) w0 w0.heap.size 30 92 i0 _ 8 Try.underlying30 hi0 hz0 hz1 .i64 .i64 (n + 1) (Nat.le_trans (Nat.mul_le_mul hz3 (show n + 1 ≤ 1001 by omega)) (by decide)) (by simp only [maxLen]; omega) (Nat.le_refl _)
  rw [show (((n + 1 : Nat)) : Int) = (n : Int) + 1 from by omega] at hmk
  rw [hs0] at hown1
  have HB1 : Hid (Below w0.heap.size w0 w1) := Lib.hid ((Below.refl _ _).grown hg1 (Nat.le_refl _) (by simp))
  have HR0 : Hid (Rd w0 w0.heap.size A L.flatten) := Lib.hid ((hr.below hb0).mono hb0.size)
  have HO1 := Lib.hid hown1
  have HL1 := Lib.hid (things_one hL)
  have HF1 := Lib.hid (fits_one hb)
  have HLL := Lib.hid hlL
  have HLB := Lib.hid hlb
  have HN := Lib.hid hn
  have HB0 := Lib.hid hb0
  have HS0 := Lib.hid hs0
  have hu := Try.underlying92
  have HSZ : Hid ((Try.prog.info? 92).map (·.size) = some bh.toArray.size) := Lib.hid (by rw [hi0]; simp [hz1, hlb])
  have HBY : Hid (∀ x, x ≤ 1001 → x * i0.bytes ≤ 140737488355328) := Lib.hid (fun x hx => Nat.le_trans (Nat.mul_le_mul hx hz3) (by decide))
  clear hn hL hb hr hk hlL hlb hown1 hg1 hb0 hs0
  rw [hw0] at hmk
  go_enter Try.func34, Try.ntmps34
  have HS1 : Hid (w.heap.size + 1 ≤ w1.heap.size) := Lib.hid (by have := HB1.out.size; have := HS0.out; omega)
  have HR1 : Hid (Rd w1 w1.heap.size A L.flatten) := Lib.hid ((HR0.out.below HB1.out).mono HB1.out.size)
  have HBX1 : Hid (w1.heap[w.heap.size]? = some (.cells bh.toArray 92 (0, 0))) := Lib.hid ((HB1.out.block _ (by have := HS0.out; omega)).trans HBX.out)
  go_wp2_with (first
    | (at_builtin; refine wpList_app rfl (.tmp 10) (.tmp 11) _ rfl (w.heap.size + 1) 92 i0 z0 8 i0.bytes Try.underlying30 hi0 hz0 hz1 rfl hz2 (by decide) _ 0 _ [] rfl HO1.out w1.heap.size A n c L.flatten rfl HLL.out HR1.out HL1.out (by simp only [maxLen]; omega) (HBY.out _ (by omega)) HS1.out ?_; intro A2 c2 w2 ho2 hb2; have HO2 := Lib.hid ho2; have HB2 := Lib.hid hb2; have HBX2 : Hid (w2.heap[w.heap.size]? = some (.cells bh.toArray 92 (0, 0))) := Lib.hid ((hb2.block _ (by omega)).trans HBX1.out); clear ho2 hb2)
    | (refine wpList_load_row rfl 92 (.tmp 3) rfl w.heap.size rfl _ _ _ _ HBX2.out hu rfl HSZ.out ?_)
    | (refine wpList_buildOne rfl _ 92 _ rfl w2.heap.size rfl _ rfl i0 z0 8 Try.underlying30 hi0 hz0 hz1 (by decide) (by decide) bh (by rfl) HLB.out ?_; have HO3 := Lib.hid (own_zero HO2.out bh); have HS2 := Lib.hid HB2.out.size)
    | (at_builtin; refine wpList_app rfl (.tmp 13) (.tmp 15) _ rfl (w.heap.size + 1) 92 i0 z0 8 i0.bytes Try.underlying30 hi0 hz0 hz1 rfl hz2 (by decide) _ n _ L.flatten rfl HO3.out (w2.heap.size + 1) (some ⟨w2.heap.size, 0, none⟩) 1 1 bh rfl (by rw [HLB.out]) (rd_one w2 bh 92) HF1.out (by simp only [maxLen]; omega) (HBY.out _ (by omega)) (by have := HS1.out; have := HS2.out; simp; omega) ?_; intro A3 c3 w4 ho4 hb4; have HN3 := Lib.hid (own_cap ho4); obtain ⟨g, rfl⟩ := own_some ho4 (by omega); have hcap := own_cap ho4; have HO4 := Lib.hid ho4; have HB4 := Lib.hid hb4; clear ho4 hb4)
    | fail)
  go_ret
  refine ⟨g, c3, by rw [HN.out]; rfl, by rw [← HN.out]; exact HN3.out, own_max HO4.out, ?_, Rd.of_own HO4.out, ?_⟩
  · have := own_base HO4.out g rfl; omega
  · exact HB0.out.trans (((HB1.out.mono (by have := HS0.out; omega)).trans (HB2.out.mono (by omega))).trans (((Below.refl w.heap.size w2).alloc (by have := HS1.out; have := HS2.out; omega) _).trans (HB4.out.mono (by omega))))

set_option maxRecDepth 100000 in
set_option maxHeartbeats 1600000 in
theorem lentTask (A : Option Addr) (n c : Nat) (L : List (List Value)) (bh : List Value) (w : World) (hn : n = L.length) (hn4 : n ≤ 1000) (hL : Things kTask L) (hb : Fits kTask bh) (hr : Rd w w.heap.size A L.flatten) :
    Calls Try.prog 35 #[.slice A n c, .agg bh.toArray] w (LentPost L bh w) := by
  obtain ⟨i0, z0, hi0, hz0, hz1, hz2, hz3⟩ := info_thing (P := Try.prog) (T := 95) (sz := 11) (by kernel_rfl)
  have hk : kTask.length = 11 := by decide
  have hlL : L.flatten.length = n * 11 := by rw [flat_length hL.len, hk, hn]
  have hlb : bh.length = 11 := by rw [hb.length, hk]
  obtain ⟨w0, hw0⟩ : ∃ w0, w0 = w.alloc (.cells bh.toArray 95) := ⟨_, rfl⟩
  have hb0 : Below w.heap.size w w0 := by rw [hw0]; exact (Below.refl _ _).alloc (Nat.le_refl _) _
  have hs0 : w0.heap.size = w.heap.size + 1 := by rw [hw0]; simp
  have HBX : Hid (w0.heap[w.heap.size]? = some (.cells bh.toArray 95 (0, 0))) := Lib.hid (by rw [hw0]; exact heap_alloc_new _ _)
  obtain ⟨w1, hmk, hown1, hg1⟩ := run_make_own (P := Try.prog) w0 w0.heap.size 31 95 i0 _ 11 Try.underlying31 hi0 hz0 hz1 .i64 .i64 (n + 1) (Nat.le_trans (Nat.mul_le_mul hz3 (show n + 1 ≤ 1001 by omega)) (by decide)) (by simp only [maxLen]; omega) (Nat.le_refl _)
  rw [show (((n + 1 : Nat)) : Int) = (n : Int) + 1 from by omega] at hmk
  rw [hs0] at hown1
  have HB1 : Hid (Below w0.heap.size w0 w1) := Lib.hid ((Below.refl _ _).grown hg1 (Nat.le_refl _) (by simp))
  have HR0 : Hid (Rd w0 w0.heap.size A L.flatten) := Lib.hid ((hr.below hb0).mono hb0.size)
  have HO1 := Lib.hid hown1
  have HL1 := Lib.hid (things_one hL)
  have HF1 := Lib.hid (fits_one hb)
  have HLL := Lib.hid hlL
  have HLB := Lib.hid hlb
  have HN := Lib.hid hn
  have HB0 := Lib.hid hb0
  have HS0 := Lib.hid hs0
  have hu := Try.underlying95
  have HSZ : Hid ((Try.prog.info? 95).map (·.size) = some bh.toArray.size) := Lib.hid (by rw [hi0]; simp [hz1, hlb])
  have HBY : Hid (∀ x, x ≤ 1001 → x * i0.bytes ≤ 140737488355328) := Lib.hid (fun x hx => Nat.le_trans (Nat.mul_le_mul hx hz3) (by decide))
  clear hn hL hb hr hk hlL hlb hown1 hg1 hb0 hs0
  rw [hw0] at hmk
  go_enter Try.func35, Try.ntmps35
  have HS1 : Hid (w.heap.size + 1 ≤ w1.heap.size) := Lib.hid (by have := HB1.out.size; have := HS0.out; omega)
  have HR1 : Hid (Rd w1 w1.heap.size A L.flatten) := Lib.hid ((HR0.out.below HB1.out).mono HB1.out.size)
  have HBX1 : Hid (w1.heap[w.heap.size]? = some (.cells bh.toArray 95 (0, 0))) := Lib.hid ((HB1.out.block _ (by have := HS0.out; omega)).trans HBX.out)
  go_wp2_with (first
    | (at_builtin; refine wpList_app rfl (.tmp 10) (.tmp 11) _ rfl (w.heap.size + 1) 95 i0 z0 11 i0.bytes Try.underlying31 hi0 hz0 hz1 rfl hz2 (by decide) _ 0 _ [] rfl HO1.out w1.heap.size A n c L.flatten rfl HLL.out HR1.out HL1.out (by simp only [maxLen]; omega) (HBY.out _ (by omega)) HS1.out ?_; intro A2 c2 w2 ho2 hb2; have HO2 := Lib.hid ho2; have HB2 := Lib.hid hb2; have HBX2 : Hid (w2.heap[w.heap.size]? = some (.cells bh.toArray 95 (0, 0))) := Lib.hid ((hb2.block _ (by omega)).trans HBX1.out); clear ho2 hb2)
    | (refine wpList_load_row rfl 95 (.tmp 3) rfl w.heap.size rfl _ _ _ _ HBX2.out hu rfl HSZ.out ?_)
    | (refine wpList_buildOne rfl _ 95 _ rfl w2.heap.size rfl _ rfl i0 z0 11 Try.underlying31 hi0 hz0 hz1 (by decide) (by decide) bh (by rfl) HLB.out ?_; have HO3 := Lib.hid (own_zero HO2.out bh); have HS2 := Lib.hid HB2.out.size)
    | (at_builtin; refine wpList_app rfl (.tmp 13) (.tmp 15) _ rfl (w.heap.size + 1) 95 i0 z0 11 i0.bytes Try.underlying31 hi0 hz0 hz1 rfl hz2 (by decide) _ n _ L.flatten rfl HO3.out (w2.heap.size + 1) (some ⟨w2.heap.size, 0, none⟩) 1 1 bh rfl (by rw [HLB.out]) (rd_one w2 bh 95) HF1.out (by simp only [maxLen]; omega) (HBY.out _ (by omega)) (by have := HS1.out; have := HS2.out; simp; omega) ?_; intro A3 c3 w4 ho4 hb4; have HN3 := Lib.hid (own_cap ho4); obtain ⟨g, rfl⟩ := own_some ho4 (by omega); have hcap := own_cap ho4; have HO4 := Lib.hid ho4; have HB4 := Lib.hid hb4; clear ho4 hb4)
    | fail)
  go_ret
  refine ⟨g, c3, by rw [HN.out]; rfl, by rw [← HN.out]; exact HN3.out, own_max HO4.out, ?_, Rd.of_own HO4.out, ?_⟩
  · have := own_base HO4.out g rfl; omega
  · exact HB0.out.trans (((HB1.out.mono (by have := HS0.out; omega)).trans (HB2.out.mono (by omega))).trans (((Below.refl w.heap.size w2).alloc (by have := HS1.out; have := HS2.out; omega) _).trans (HB4.out.mono (by omega))))

set_option maxRecDepth 100000 in
set_option maxHeartbeats 1600000 in
theorem lentParcel (A : Option Addr) (n c : Nat) (L : List (List Value)) (bh : List Value) (w : World) (hn : n = L.length) (hn4 : n ≤ 1000) (hL : Things kParcel L) (hb : Fits kParcel bh) (hr : Rd w w.heap.size A L.flatten) :
    Calls Try.prog 36 #[.slice A n c, .agg bh.toArray] w (LentPost L bh w) := by
  obtain ⟨i0, z0, hi0, hz0, hz1, hz2, hz3⟩ := info_thing (P := Try.prog) (T := 98) (sz := 2) (by kernel_rfl)
  have hk : kParcel.length = 2 := by decide
  have hlL : L.flatten.length = n * 2 := by rw [flat_length hL.len, hk, hn]
  have hlb : bh.length = 2 := by rw [hb.length, hk]
  obtain ⟨w0, hw0⟩ : ∃ w0, w0 = w.alloc (.cells bh.toArray 98) := ⟨_, rfl⟩
  have hb0 : Below w.heap.size w w0 := by rw [hw0]; exact (Below.refl _ _).alloc (Nat.le_refl _) _
  have hs0 : w0.heap.size = w.heap.size + 1 := by rw [hw0]; simp
  have HBX : Hid (w0.heap[w.heap.size]? = some (.cells bh.toArray 98 (0, 0))) := Lib.hid (by rw [hw0]; exact heap_alloc_new _ _)
  obtain ⟨w1, hmk, hown1, hg1⟩ := run_make_own (P := Try.prog) w0 w0.heap.size 32 98 i0 _ 2 Try.underlying32 hi0 hz0 hz1 .i64 .i64 (n + 1) (Nat.le_trans (Nat.mul_le_mul hz3 (show n + 1 ≤ 1001 by omega)) (by decide)) (by simp only [maxLen]; omega) (Nat.le_refl _)
  rw [show (((n + 1 : Nat)) : Int) = (n : Int) + 1 from by omega] at hmk
  rw [hs0] at hown1
  have HB1 : Hid (Below w0.heap.size w0 w1) := Lib.hid ((Below.refl _ _).grown hg1 (Nat.le_refl _) (by simp))
  have HR0 : Hid (Rd w0 w0.heap.size A L.flatten) := Lib.hid ((hr.below hb0).mono hb0.size)
  have HO1 := Lib.hid hown1
  have HL1 := Lib.hid (things_one hL)
  have HF1 := Lib.hid (fits_one hb)
  have HLL := Lib.hid hlL
  have HLB := Lib.hid hlb
  have HN := Lib.hid hn
  have HB0 := Lib.hid hb0
  have HS0 := Lib.hid hs0
  have hu := Try.underlying98
  have HSZ : Hid ((Try.prog.info? 98).map (·.size) = some bh.toArray.size) := Lib.hid (by rw [hi0]; simp [hz1, hlb])
  have HBY : Hid (∀ x, x ≤ 1001 → x * i0.bytes ≤ 140737488355328) := Lib.hid (fun x hx => Nat.le_trans (Nat.mul_le_mul hx hz3) (by decide))
  clear hn hL hb hr hk hlL hlb hown1 hg1 hb0 hs0
  rw [hw0] at hmk
  go_enter Try.func36, Try.ntmps36
  have HS1 : Hid (w.heap.size + 1 ≤ w1.heap.size) := Lib.hid (by have := HB1.out.size; have := HS0.out; omega)
  have HR1 : Hid (Rd w1 w1.heap.size A L.flatten) := Lib.hid ((HR0.out.below HB1.out).mono HB1.out.size)
  have HBX1 : Hid (w1.heap[w.heap.size]? = some (.cells bh.toArray 98 (0, 0))) := Lib.hid ((HB1.out.block _ (by have := HS0.out; omega)).trans HBX.out)
  go_wp2_with (first
    | (at_builtin; refine wpList_app rfl (.tmp 10) (.tmp 11) _ rfl (w.heap.size + 1) 98 i0 z0 2 i0.bytes Try.underlying32 hi0 hz0 hz1 rfl hz2 (by decide) _ 0 _ [] rfl HO1.out w1.heap.size A n c L.flatten rfl HLL.out HR1.out HL1.out (by simp only [maxLen]; omega) (HBY.out _ (by omega)) HS1.out ?_; intro A2 c2 w2 ho2 hb2; have HO2 := Lib.hid ho2; have HB2 := Lib.hid hb2; have HBX2 : Hid (w2.heap[w.heap.size]? = some (.cells bh.toArray 98 (0, 0))) := Lib.hid ((hb2.block _ (by omega)).trans HBX1.out); clear ho2 hb2)
    | (refine wpList_load_row rfl 98 (.tmp 3) rfl w.heap.size rfl _ _ _ _ HBX2.out hu rfl HSZ.out ?_)
    | (refine wpList_buildOne rfl _ 98 _ rfl w2.heap.size rfl _ rfl i0 z0 2 Try.underlying32 hi0 hz0 hz1 (by decide) (by decide) bh (by rfl) HLB.out ?_; have HO3 := Lib.hid (own_zero HO2.out bh); have HS2 := Lib.hid HB2.out.size)
    | (at_builtin; refine wpList_app rfl (.tmp 13) (.tmp 15) _ rfl (w.heap.size + 1) 98 i0 z0 2 i0.bytes Try.underlying32 hi0 hz0 hz1 rfl hz2 (by decide) _ n _ L.flatten rfl HO3.out (w2.heap.size + 1) (some ⟨w2.heap.size, 0, none⟩) 1 1 bh rfl (by rw [HLB.out]) (rd_one w2 bh 98) HF1.out (by simp only [maxLen]; omega) (HBY.out _ (by omega)) (by have := HS1.out; have := HS2.out; simp; omega) ?_; intro A3 c3 w4 ho4 hb4; have HN3 := Lib.hid (own_cap ho4); obtain ⟨g, rfl⟩ := own_some ho4 (by omega); have hcap := own_cap ho4; have HO4 := Lib.hid ho4; have HB4 := Lib.hid hb4; clear ho4 hb4)
    | fail)
  go_ret
  refine ⟨g, c3, by rw [HN.out]; rfl, by rw [← HN.out]; exact HN3.out, own_max HO4.out, ?_, Rd.of_own HO4.out, ?_⟩
  · have := own_base HO4.out g rfl; omega
  · exact HB0.out.trans (((HB1.out.mono (by have := HS0.out; omega)).trans (HB2.out.mono (by omega))).trans (((Below.refl w.heap.size w2).alloc (by have := HS1.out; have := HS2.out; omega) _).trans (HB4.out.mono (by omega))))

set_option maxRecDepth 100000 in
set_option maxHeartbeats 1600000 in
theorem lentSent (A : Option Addr) (n c : Nat) (L : List (List Value)) (bh : List Value) (w : World) (hn : n = L.length) (hn4 : n ≤ 1000) (hL : Things kSent L) (hb : Fits kSent bh) (hr : Rd w w.heap.size A L.flatten) :
    Calls Try.prog 37 #[.slice A n c, .agg bh.toArray] w (LentPost L bh w) := by
  obtain ⟨i0, z0, hi0, hz0, hz1, hz2, hz3⟩ := info_thing (P := Try.prog) (T := 101) (sz := 5) (by kernel_rfl)
  have hk : kSent.length = 5 := by decide
  have hlL : L.flatten.length = n * 5 := by rw [flat_length hL.len, hk, hn]
  have hlb : bh.length = 5 := by rw [hb.length, hk]
  obtain ⟨w0, hw0⟩ : ∃ w0, w0 = w.alloc (.cells bh.toArray 101) := ⟨_, rfl⟩
  have hb0 : Below w.heap.size w w0 := by rw [hw0]; exact (Below.refl _ _).alloc (Nat.le_refl _) _
  have hs0 : w0.heap.size = w.heap.size + 1 := by rw [hw0]; simp
  have HBX : Hid (w0.heap[w.heap.size]? = some (.cells bh.toArray 101 (0, 0))) := Lib.hid (by rw [hw0]; exact heap_alloc_new _ _)
  obtain ⟨w1, hmk, hown1, hg1⟩ := run_make_own (P := Try.prog) w0 w0.heap.size 33 101 i0 _ 5 Try.underlying33 hi0 hz0 hz1 .i64 .i64 (n + 1) (Nat.le_trans (Nat.mul_le_mul hz3 (show n + 1 ≤ 1001 by omega)) (by decide)) (by simp only [maxLen]; omega) (Nat.le_refl _)
  rw [show (((n + 1 : Nat)) : Int) = (n : Int) + 1 from by omega] at hmk
  rw [hs0] at hown1
  have HB1 : Hid (Below w0.heap.size w0 w1) := Lib.hid ((Below.refl _ _).grown hg1 (Nat.le_refl _) (by simp))
  have HR0 : Hid (Rd w0 w0.heap.size A L.flatten) := Lib.hid ((hr.below hb0).mono hb0.size)
  have HO1 := Lib.hid hown1
  have HL1 := Lib.hid (things_one hL)
  have HF1 := Lib.hid (fits_one hb)
  have HLL := Lib.hid hlL
  have HLB := Lib.hid hlb
  have HN := Lib.hid hn
  have HB0 := Lib.hid hb0
  have HS0 := Lib.hid hs0
  have hu := Try.underlying101
  have HSZ : Hid ((Try.prog.info? 101).map (·.size) = some bh.toArray.size) := Lib.hid (by rw [hi0]; simp [hz1, hlb])
  have HBY : Hid (∀ x, x ≤ 1001 → x * i0.bytes ≤ 140737488355328) := Lib.hid (fun x hx => Nat.le_trans (Nat.mul_le_mul hx hz3) (by decide))
  clear hn hL hb hr hk hlL hlb hown1 hg1 hb0 hs0
  rw [hw0] at hmk
  go_enter Try.func37, Try.ntmps37
  have HS1 : Hid (w.heap.size + 1 ≤ w1.heap.size) := Lib.hid (by have := HB1.out.size; have := HS0.out; omega)
  have HR1 : Hid (Rd w1 w1.heap.size A L.flatten) := Lib.hid ((HR0.out.below HB1.out).mono HB1.out.size)
  have HBX1 : Hid (w1.heap[w.heap.size]? = some (.cells bh.toArray 101 (0, 0))) := Lib.hid ((HB1.out.block _ (by have := HS0.out; omega)).trans HBX.out)
  go_wp2_with (first
    | (at_builtin; refine wpList_app rfl (.tmp 10) (.tmp 11) _ rfl (w.heap.size + 1) 101 i0 z0 5 i0.bytes Try.underlying33 hi0 hz0 hz1 rfl hz2 (by decide) _ 0 _ [] rfl HO1.out w1.heap.size A n c L.flatten rfl HLL.out HR1.out HL1.out (by simp only [maxLen]; omega) (HBY.out _ (by omega)) HS1.out ?_; intro A2 c2 w2 ho2 hb2; have HO2 := Lib.hid ho2; have HB2 := Lib.hid hb2; have HBX2 : Hid (w2.heap[w.heap.size]? = some (.cells bh.toArray 101 (0, 0))) := Lib.hid ((hb2.block _ (by omega)).trans HBX1.out); clear ho2 hb2)
    | (refine wpList_load_row rfl 101 (.tmp 3) rfl w.heap.size rfl _ _ _ _ HBX2.out hu rfl HSZ.out ?_)
    | (refine wpList_buildOne rfl _ 101 _ rfl w2.heap.size rfl _ rfl i0 z0 5 Try.underlying33 hi0 hz0 hz1 (by decide) (by decide) bh (by rfl) HLB.out ?_; have HO3 := Lib.hid (own_zero HO2.out bh); have HS2 := Lib.hid HB2.out.size)
    | (at_builtin; refine wpList_app rfl (.tmp 13) (.tmp 15) _ rfl (w.heap.size + 1) 101 i0 z0 5 i0.bytes Try.underlying33 hi0 hz0 hz1 rfl hz2 (by decide) _ n _ L.flatten rfl HO3.out (w2.heap.size + 1) (some ⟨w2.heap.size, 0, none⟩) 1 1 bh rfl (by rw [HLB.out]) (rd_one w2 bh 101) HF1.out (by simp only [maxLen]; omega) (HBY.out _ (by omega)) (by have := HS1.out; have := HS2.out; simp; omega) ?_; intro A3 c3 w4 ho4 hb4; have HN3 := Lib.hid (own_cap ho4); obtain ⟨g, rfl⟩ := own_some ho4 (by omega); have hcap := own_cap ho4; have HO4 := Lib.hid ho4; have HB4 := Lib.hid hb4; clear ho4 hb4)
    | fail)
  go_ret
  refine ⟨g, c3, by rw [HN.out]; rfl, by rw [← HN.out]; exact HN3.out, own_max HO4.out, ?_, Rd.of_own HO4.out, ?_⟩
  · have := own_base HO4.out g rfl; omega
  · exact HB0.out.trans (((HB1.out.mono (by have := HS0.out; omega)).trans (HB2.out.mono (by omega))).trans (((Below.refl w.heap.size w2).alloc (by have := HS1.out; have := HS2.out; omega) _).trans (HB4.out.mono (by omega))))

set_option maxRecDepth 100000 in
set_option maxHeartbeats 1600000 in
theorem lentCounted (A : Option Addr) (n c : Nat) (L : List (List Value)) (bh : List Value) (w : World) (hn : n = L.length) (hn4 : n ≤ 1000) (hL : Things kCounted L) (hb : Fits kCounted bh) (hr : Rd w w.heap.size A L.flatten) :
    Calls Try.prog 38 #[.slice A n c, .agg bh.toArray] w (LentPost L bh w) := by
  obtain ⟨i0, z0, hi0, hz0, hz1, hz2, hz3⟩ := info_thing (P := Try.prog) (T := 104) (sz := 5) (by kernel_rfl)
  have hk : kCounted.length = 5 := by decide
  have hlL : L.flatten.length = n * 5 := by rw [flat_length hL.len, hk, hn]
  have hlb : bh.length = 5 := by rw [hb.length, hk]
  obtain ⟨w0, hw0⟩ : ∃ w0, w0 = w.alloc (.cells bh.toArray 104) := ⟨_, rfl⟩
  have hb0 : Below w.heap.size w w0 := by rw [hw0]; exact (Below.refl _ _).alloc (Nat.le_refl _) _
  have hs0 : w0.heap.size = w.heap.size + 1 := by rw [hw0]; simp
  have HBX : Hid (w0.heap[w.heap.size]? = some (.cells bh.toArray 104 (0, 0))) := Lib.hid (by rw [hw0]; exact heap_alloc_new _ _)
  obtain ⟨w1, hmk, hown1, hg1⟩ := run_make_own (P := Try.prog) w0 w0.heap.size 34 104 i0 _ 5 Try.underlying34 hi0 hz0 hz1 .i64 .i64 (n + 1) (Nat.le_trans (Nat.mul_le_mul hz3 (show n + 1 ≤ 1001 by omega)) (by decide)) (by simp only [maxLen]; omega) (Nat.le_refl _)
  rw [show (((n + 1 : Nat)) : Int) = (n : Int) + 1 from by omega] at hmk
  rw [hs0] at hown1
  have HB1 : Hid (Below w0.heap.size w0 w1) := Lib.hid ((Below.refl _ _).grown hg1 (Nat.le_refl _) (by simp))
  have HR0 : Hid (Rd w0 w0.heap.size A L.flatten) := Lib.hid ((hr.below hb0).mono hb0.size)
  have HO1 := Lib.hid hown1
  have HL1 := Lib.hid (things_one hL)
  have HF1 := Lib.hid (fits_one hb)
  have HLL := Lib.hid hlL
  have HLB := Lib.hid hlb
  have HN := Lib.hid hn
  have HB0 := Lib.hid hb0
  have HS0 := Lib.hid hs0
  have hu := Try.underlying104
  have HSZ : Hid ((Try.prog.info? 104).map (·.size) = some bh.toArray.size) := Lib.hid (by rw [hi0]; simp [hz1, hlb])
  have HBY : Hid (∀ x, x ≤ 1001 → x * i0.bytes ≤ 140737488355328) := Lib.hid (fun x hx => Nat.le_trans (Nat.mul_le_mul hx hz3) (by decide))
  clear hn hL hb hr hk hlL hlb hown1 hg1 hb0 hs0
  rw [hw0] at hmk
  go_enter Try.func38, Try.ntmps38
  have HS1 : Hid (w.heap.size + 1 ≤ w1.heap.size) := Lib.hid (by have := HB1.out.size; have := HS0.out; omega)
  have HR1 : Hid (Rd w1 w1.heap.size A L.flatten) := Lib.hid ((HR0.out.below HB1.out).mono HB1.out.size)
  have HBX1 : Hid (w1.heap[w.heap.size]? = some (.cells bh.toArray 104 (0, 0))) := Lib.hid ((HB1.out.block _ (by have := HS0.out; omega)).trans HBX.out)
  go_wp2_with (first
    | (at_builtin; refine wpList_app rfl (.tmp 10) (.tmp 11) _ rfl (w.heap.size + 1) 104 i0 z0 5 i0.bytes Try.underlying34 hi0 hz0 hz1 rfl hz2 (by decide) _ 0 _ [] rfl HO1.out w1.heap.size A n c L.flatten rfl HLL.out HR1.out HL1.out (by simp only [maxLen]; omega) (HBY.out _ (by omega)) HS1.out ?_; intro A2 c2 w2 ho2 hb2; have HO2 := Lib.hid ho2; have HB2 := Lib.hid hb2; have HBX2 : Hid (w2.heap[w.heap.size]? = some (.cells bh.toArray 104 (0, 0))) := Lib.hid ((hb2.block _ (by omega)).trans HBX1.out); clear ho2 hb2)
    | (refine wpList_load_row rfl 104 (.tmp 3) rfl w.heap.size rfl _ _ _ _ HBX2.out hu rfl HSZ.out ?_)
    | (refine wpList_buildOne rfl _ 104 _ rfl w2.heap.size rfl _ rfl i0 z0 5 Try.underlying34 hi0 hz0 hz1 (by decide) (by decide) bh (by rfl) HLB.out ?_; have HO3 := Lib.hid (own_zero HO2.out bh); have HS2 := Lib.hid HB2.out.size)
    | (at_builtin; refine wpList_app rfl (.tmp 13) (.tmp 15) _ rfl (w.heap.size + 1) 104 i0 z0 5 i0.bytes Try.underlying34 hi0 hz0 hz1 rfl hz2 (by decide) _ n _ L.flatten rfl HO3.out (w2.heap.size + 1) (some ⟨w2.heap.size, 0, none⟩) 1 1 bh rfl (by rw [HLB.out]) (rd_one w2 bh 104) HF1.out (by simp only [maxLen]; omega) (HBY.out _ (by omega)) (by have := HS1.out; have := HS2.out; simp; omega) ?_; intro A3 c3 w4 ho4 hb4; have HN3 := Lib.hid (own_cap ho4); obtain ⟨g, rfl⟩ := own_some ho4 (by omega); have hcap := own_cap ho4; have HO4 := Lib.hid ho4; have HB4 := Lib.hid hb4; clear ho4 hb4)
    | fail)
  go_ret
  refine ⟨g, c3, by rw [HN.out]; rfl, by rw [← HN.out]; exact HN3.out, own_max HO4.out, ?_, Rd.of_own HO4.out, ?_⟩
  · have := own_base HO4.out g rfl; omega
  · exact HB0.out.trans (((HB1.out.mono (by have := HS0.out; omega)).trans (HB2.out.mono (by omega))).trans (((Below.refl w.heap.size w2).alloc (by have := HS1.out; have := HS2.out; omega) _).trans (HB4.out.mono (by omega))))

set_option maxRecDepth 100000 in
set_option maxHeartbeats 1600000 in
theorem lentTotal (A : Option Addr) (n c : Nat) (L : List (List Value)) (bh : List Value) (w : World) (hn : n = L.length) (hn4 : n ≤ 1000) (hL : Things kTotal L) (hb : Fits kTotal bh) (hr : Rd w w.heap.size A L.flatten) :
    Calls Try.prog 39 #[.slice A n c, .agg bh.toArray] w (LentPost L bh w) := by
  obtain ⟨i0, z0, hi0, hz0, hz1, hz2, hz3⟩ := info_thing (P := Try.prog) (T := 107) (sz := 6) (by kernel_rfl)
  have hk : kTotal.length = 6 := by decide
  have hlL : L.flatten.length = n * 6 := by rw [flat_length hL.len, hk, hn]
  have hlb : bh.length = 6 := by rw [hb.length, hk]
  obtain ⟨w0, hw0⟩ : ∃ w0, w0 = w.alloc (.cells bh.toArray 107) := ⟨_, rfl⟩
  have hb0 : Below w.heap.size w w0 := by rw [hw0]; exact (Below.refl _ _).alloc (Nat.le_refl _) _
  have hs0 : w0.heap.size = w.heap.size + 1 := by rw [hw0]; simp
  have HBX : Hid (w0.heap[w.heap.size]? = some (.cells bh.toArray 107 (0, 0))) := Lib.hid (by rw [hw0]; exact heap_alloc_new _ _)
  obtain ⟨w1, hmk, hown1, hg1⟩ := run_make_own (P := Try.prog) w0 w0.heap.size 35 107 i0 _ 6 Try.underlying35 hi0 hz0 hz1 .i64 .i64 (n + 1) (Nat.le_trans (Nat.mul_le_mul hz3 (show n + 1 ≤ 1001 by omega)) (by decide)) (by simp only [maxLen]; omega) (Nat.le_refl _)
  rw [show (((n + 1 : Nat)) : Int) = (n : Int) + 1 from by omega] at hmk
  rw [hs0] at hown1
  have HB1 : Hid (Below w0.heap.size w0 w1) := Lib.hid ((Below.refl _ _).grown hg1 (Nat.le_refl _) (by simp))
  have HR0 : Hid (Rd w0 w0.heap.size A L.flatten) := Lib.hid ((hr.below hb0).mono hb0.size)
  have HO1 := Lib.hid hown1
  have HL1 := Lib.hid (things_one hL)
  have HF1 := Lib.hid (fits_one hb)
  have HLL := Lib.hid hlL
  have HLB := Lib.hid hlb
  have HN := Lib.hid hn
  have HB0 := Lib.hid hb0
  have HS0 := Lib.hid hs0
  have hu := Try.underlying107
  have HSZ : Hid ((Try.prog.info? 107).map (·.size) = some bh.toArray.size) := Lib.hid (by rw [hi0]; simp [hz1, hlb])
  have HBY : Hid (∀ x, x ≤ 1001 → x * i0.bytes ≤ 140737488355328) := Lib.hid (fun x hx => Nat.le_trans (Nat.mul_le_mul hx hz3) (by decide))
  clear hn hL hb hr hk hlL hlb hown1 hg1 hb0 hs0
  rw [hw0] at hmk
  go_enter Try.func39, Try.ntmps39
  have HS1 : Hid (w.heap.size + 1 ≤ w1.heap.size) := Lib.hid (by have := HB1.out.size; have := HS0.out; omega)
  have HR1 : Hid (Rd w1 w1.heap.size A L.flatten) := Lib.hid ((HR0.out.below HB1.out).mono HB1.out.size)
  have HBX1 : Hid (w1.heap[w.heap.size]? = some (.cells bh.toArray 107 (0, 0))) := Lib.hid ((HB1.out.block _ (by have := HS0.out; omega)).trans HBX.out)
  go_wp2_with (first
    | (at_builtin; refine wpList_app rfl (.tmp 10) (.tmp 11) _ rfl (w.heap.size + 1) 107 i0 z0 6 i0.bytes Try.underlying35 hi0 hz0 hz1 rfl hz2 (by decide) _ 0 _ [] rfl HO1.out w1.heap.size A n c L.flatten rfl HLL.out HR1.out HL1.out (by simp only [maxLen]; omega) (HBY.out _ (by omega)) HS1.out ?_; intro A2 c2 w2 ho2 hb2; have HO2 := Lib.hid ho2; have HB2 := Lib.hid hb2; have HBX2 : Hid (w2.heap[w.heap.size]? = some (.cells bh.toArray 107 (0, 0))) := Lib.hid ((hb2.block _ (by omega)).trans HBX1.out); clear ho2 hb2)
    | (refine wpList_load_row rfl 107 (.tmp 3) rfl w.heap.size rfl _ _ _ _ HBX2.out hu rfl HSZ.out ?_)
    | (refine wpList_buildOne rfl _ 107 _ rfl w2.heap.size rfl _ rfl i0 z0 6 Try.underlying35 hi0 hz0 hz1 (by decide) (by decide) bh (by rfl) HLB.out ?_; have HO3 := Lib.hid (own_zero HO2.out bh); have HS2 := Lib.hid HB2.out.size)
    | (at_builtin; refine wpList_app rfl (.tmp 13) (.tmp 15) _ rfl (w.heap.size + 1) 107 i0 z0 6 i0.bytes Try.underlying35 hi0 hz0 hz1 rfl hz2 (by decide) _ n _ L.flatten rfl HO3.out (w2.heap.size + 1) (some ⟨w2.heap.size, 0, none⟩) 1 1 bh rfl (by rw [HLB.out]) (rd_one w2 bh 107) HF1.out (by simp only [maxLen]; omega) (HBY.out _ (by omega)) (by have := HS1.out; have := HS2.out; simp; omega) ?_; intro A3 c3 w4 ho4 hb4; have HN3 := Lib.hid (own_cap ho4); obtain ⟨g, rfl⟩ := own_some ho4 (by omega); have hcap := own_cap ho4; have HO4 := Lib.hid ho4; have HB4 := Lib.hid hb4; clear ho4 hb4)
    | fail)
  go_ret
  refine ⟨g, c3, by rw [HN.out]; rfl, by rw [← HN.out]; exact HN3.out, own_max HO4.out, ?_, Rd.of_own HO4.out, ?_⟩
  · have := own_base HO4.out g rfl; omega
  · exact HB0.out.trans (((HB1.out.mono (by have := HS0.out; omega)).trans (HB2.out.mono (by omega))).trans (((Below.refl w.heap.size w2).alloc (by have := HS1.out; have := HS2.out; omega) _).trans (HB4.out.mono (by omega))))

end Go.Proofs.Ytejlpmjgdaippaa
