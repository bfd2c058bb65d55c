/-
  CONTRACT of slices.Insert of one stand into an own row, in place or anew.
-/
import Derived.Test.YtnkhnbpopdmkhaaGreatNRow
import Derived.Test.YtnkhnbpopdmkhaaGreatJHead
namespace Go.Proofs.YtnkhnbpopdmkhaaGreat
set_option linter.unusedVariables false
open Go.RowKit

/-- The row A of things L has x at place i now. -/
def InsP (A : Option Addr) (L : List (List Value)) (i : Nat) (x : List Value) (w : World) (e : Ending) (w' : World) : Prop :=
  ∃ A' c', e = .returned (.slice A' (L.length + 1) c') ∧ w'.ownsRow 0 112 8 (.slice A' (L.length + 1) c') (L.length + 1) (L.take i ++ x :: L.drop i).flatten ∧ (∀ k, Blk A' k → Blk A k ∨ w.heap.size ≤ k) ∧ Onx (Blk A) w w'
set_option maxRecDepth 100000 in
set_option maxHeartbeats 1600000 in
theorem cins_end (A : Option Addr) (n c gv : Nat) (L : List (List Value)) (x : List Value) (w : World) (hn : n = L.length) (hn6 : n ≤ 100000) (ho : w.ownsRow 0 112 8 (.slice A n c) n L.flatten) (hx : Fits kstand x) (hv : w.heap[gv]? = some (.cells x.toArray 112 (0, 0))) :
    Calls Tryz.prog 66 #[.slice A n c, .int .i64 (n : Int), .slice (some ⟨gv, 0, none⟩) 1 1] w (InsP A L n x w) := by
  obtain ⟨i0, z0, hi0, hz0, hz1, hz2, hz3⟩ := info_thing (P := Tryz.prog) (T := 112) (sz := 8) (by kernel_rfl)
  have hby : ∀ y, y ≤ 1000000 → y * i0.bytes ≤ 140737488355328 := fun y hy => Nat.le_trans (Nat.mul_le_mul hy hz3) (by decide)
  have HBY := Lib.hid hby
  have hcut := fun W => run_cut (P := Tryz.prog) 108 112 8 i0 Tryz.underlying108 hi0 hz1 A n c n (Nat.le_refl _) W
  have HO := Lib.hid ho
  have HX1 := Lib.hid (fits_one hx)
  have HXL : Hid (x.length = 1 * 8) := Lib.hid hx.length
  have HV : Hid (∀ j u, x[j]? = some u → w.cell? ((⟨gv, 0, none⟩ : Addr).add j) = some u) := Lib.hid (fun j u hu => by
    rw [Addr.add_lit, Nat.zero_add]
    have := range_row0 hv j u (by simpa using hu)
    rwa [Nat.zero_add] at this)
  have HN := Lib.hid hn
  clear ho hv hx hn hby
  go_enter Tryz.func66, Tryz.ntmps66
  go_wp2_with (first
    | (at_builtin; refine wpList_appO rfl (.tmp 23) (.tmp 24) _ rfl 0 112 i0 z0 8 i0.bytes Tryz.underlying108 hi0 hz0 hz1 rfl hz2 (by decide) A n c _ rfl HO.out ⟨gv, 0, none⟩ 1 1 x rfl HXL.out HV.out HX1.out (by simp only [maxLen]; omega) (HBY.out _ (by omega)) (Nat.zero_le _) ?_; intro A5 c5 w6 hown6 hg6 hb6; have HO6 := Lib.hid hown6; have HG6 := Lib.hid hg6; have HB6 := Lib.hid hb6; clear hown6 hg6 hb6)
    | fail)
  go_ret
  refine ⟨A5, c5, by rw [HN.out]; rfl, ?_, fun k hk => ?_, Onx.grown HG6.out⟩
  · have h := HO6.out
    rw [HN.out] at h ⊢
    rw [List.take_length, List.drop_length]
    simpa using h
  · obtain ⟨a, rfl, hk⟩ := hk
    rcases HB6.out with h | h
    · exact .inl (blk_of (h.symm.trans (by simp [Value.ownBlock, hk])))
    · right
      have : a.block = w.heap.size := by simpa [Value.ownBlock] using h
      omega
namespace Pl
theorem two_parts {α : Type} (R X D : List α) (a s : Nat) (hs : X.length = s) (hR : a + s + D.length ≤ R.length) : ((R.take a ++ X ++ R.drop (a + s)).take (a + s) ++ D ++ (R.take a ++ X ++ R.drop (a + s)).drop (a + s + D.length)).take (a + s + D.length) = R.take a ++ X ++ D ∧ ((R.take a ++ X ++ R.drop (a + s)).take (a + s) ++ D ++ (R.take a ++ X ++ R.drop (a + s)).drop (a + s + D.length)).length = R.length := by
  have h1 : (R.take a ++ X).length = a + s := by rw [List.length_append, List.length_take, hs]; omega
  have h2 : (R.take a ++ X ++ R.drop (a + s)).take (a + s) = R.take a ++ X := by rw [← h1, List.take_left]
  have h3 : (R.take a ++ X ++ R.drop (a + s)).length = R.length := by rw [List.length_append, h1, List.length_drop]; omega
  have h4 : (R.take a ++ X ++ D).length = a + s + D.length := by rw [List.length_append, h1]
  constructor
  · rw [h2, ← h4, List.take_left]
  · rw [h2, List.length_append, h4, List.length_drop, h3]; omega
theorem two_parts' {α : Type} (R X D : List α) (a s : Nat) (hs : X.length = s) (hR : a + s + D.length ≤ R.length) : ((R.take (a + s) ++ D ++ R.drop (a + s + D.length)).take a ++ X ++ (R.take (a + s) ++ D ++ R.drop (a + s + D.length)).drop (a + s)).take (a + s + D.length) = R.take a ++ X ++ D ∧ ((R.take (a + s) ++ D ++ R.drop (a + s + D.length)).take a ++ X ++ (R.take (a + s) ++ D ++ R.drop (a + s + D.length)).drop (a + s)).length = R.length := by
  have h0 : (R.take (a + s)).length = a + s := by rw [List.length_take]; omega
  have h2 : (R.take (a + s) ++ D ++ R.drop (a + s + D.length)).take a = R.take a := by
    rw [List.append_assoc, List.take_append_of_le_length (by omega), List.take_take, Nat.min_eq_left (by omega)]
  have h3 : (R.take (a + s) ++ D ++ R.drop (a + s + D.length)).drop (a + s) = D ++ R.drop (a + s + D.length) := by
    rw [List.append_assoc]
    have := List.drop_left (l₁ := R.take (a + s)) (l₂ := D ++ R.drop (a + s + D.length))
    rw [h0] at this
    exact this
  have h4 : (R.take a ++ X ++ D).length = a + s + D.length := by rw [List.length_append, List.length_append, List.length_take, hs]; omega
  rw [h2, h3]
  constructor
  · rw [← List.append_assoc (R.take a ++ X), ← h4, List.take_left]
  · rw [← List.append_assoc (R.take a ++ X), List.length_append, h4, List.length_drop]; omega
end Pl
theorem row_cells {w : World} {g n c : Nat} {xs : List Value} (h : w.ownsRow 0 112 8 (.slice (some ⟨g, 0, none⟩) n c) n xs) : ∃ cur : Array Value, w.heap[g]? = some (.cells cur 112 (0, 0)) ∧ n ≤ c ∧ c ≤ maxLen ∧ cur.size = c * 8 ∧ cur.toList.take (n * 8) = xs := by
  rcases h.2 with ⟨hv, _⟩ | ⟨g', cap, cur, hv, _, hh, hnc, hm, hs, ht⟩
  · cases hv
  · injection hv with e1 e2 e3
    injection e1 with e1
    injection e1 with e1
    subst e1 e3
    exact ⟨cur, hh, hnc, hm, hs, ht⟩
theorem flat_parts (L : List (List Value)) (hL : Things kstand L) (i : Nat) (hi : i ≤ L.length) : (L.take i).flatten = L.flatten.take (i * 8) ∧ (L.drop i).flatten = L.flatten.drop (i * 8) := by
  have h1 : (L.take i).flatten.length = i * 8 := by
    have := flat_length (sz := 8) (L := L.take i) (fun e he => hL.len e (List.mem_of_mem_take he))
    rw [List.length_take, Nat.min_eq_left hi] at this
    exact this
  have h2 : L.flatten = (L.take i).flatten ++ (L.drop i).flatten := by rw [← List.flatten_append, List.take_append_drop]
  constructor
  · rw [h2, ← h1, List.take_left]
  · rw [h2, ← h1, List.drop_left]
set_option maxRecDepth 100000 in
set_option maxHeartbeats 3200000 in
theorem cins_room (g n c gv i : Nat) (L : List (List Value)) (x : List Value) (w : World) (hn : n = L.length) (hn6 : n ≤ 100000) (hi : i < n) (hroom : n + 1 ≤ c) (hL : Things kstand L) (ho : w.ownsRow 0 112 8 (.slice (some ⟨g, 0, none⟩) n c) n L.flatten) (hx : Fits kstand x) (hv : w.heap[gv]? = some (.cells x.toArray 112 (0, 0))) (hgv : gv ≠ g) :
    Calls Tryz.prog 66 #[.slice (some ⟨g, 0, none⟩) n c, .int .i64 (i : Int), .slice (some ⟨gv, 0, none⟩) 1 1] w (InsP (some ⟨g, 0, none⟩) L i x w) := by
  obtain ⟨i0, z0, hi0, hz0, hz1, hz2, hz3⟩ := info_thing (P := Tryz.prog) (T := 112) (sz := 8) (by kernel_rfl)
  obtain ⟨cur, hcur, _, hmax, hcs, htk⟩ := row_cells ho
  have hsz : (Tryz.prog.info? 112).map (·.size) = some 8 := by kernel_rfl
  have huS := Tryz.underlying108
  obtain ⟨n1, hn1⟩ : ∃ z, n + 1 = z := ⟨_, rfl⟩
  obtain ⟨i1, hi1⟩ : ∃ z, i + 1 = z := ⟨_, rfl⟩
  have ht1 := fun (m : Nat) (hm : i ≤ m) W => run_tail (P := Tryz.prog) 108 112 8 i0 huS hi0 hz1 g m c i hm (by omega) W
  have hta := ht1 n (by omega)
  have htb := ht1 n1 (by omega)
  have htc := fun W => run_tail (P := Tryz.prog) 108 112 8 i0 huS hi0 hz1 g n1 c i1 (by omega) (by omega) W
  have hhd := fun W => run_head (P := Tryz.prog) 108 112 8 i0 huS hi0 hz1 g n c n1 (by omega) W
  have hxl := hx.length
  have hx8 : x.length = 8 := hxl
  obtain ⟨hf1, hf2⟩ := flat_parts L hL i (by omega)
  have hDl : (L.drop i).flatten.length = (n - i) * 8 := by rw [hf2, List.length_drop, ho.1]; omega
  have hD1 : ∀ v ∈ (L.drop i).flatten, v.oneCell' = true := fun v hv' => by
    obtain ⟨e, he, hve⟩ := List.mem_flatten.1 hv'
    exact fits_one (hL e (List.mem_of_mem_drop he)) v hve
  obtain ⟨D, hD⟩ : ∃ D, (L.drop i).flatten = D := ⟨_, rfl⟩
  rw [hD] at hDl hD1 hf2
  have hov : (callFunc 77 #[.slice (some ⟨gv, 0, none⟩) 1 1, .slice (some ⟨g, i1 * 8, none⟩) (n1 - i1) (c - i1)]).run Tryz.prog w = .ok (.value (.bool false)) w := by
    rw [run_callFunc_extern Tryz.func77 (by kernel_rfl) (by kernel_rfl) (by kernel_rfl) (e := Extern.SlicesOverlaps.overlaps #[108, 108] #[4]) (by kernel_rfl),
      Lib.run_overlaps_apart w 108 4 112 huS 8 (fun W => by simp [sizeOf, typeInfo, hi0, hz1]) ⟨gv, 0, none⟩ ⟨g, i1 * 8, none⟩ 1 1 (n1 - i1) (c - i1) hgv 112 112 8 cur.size (by simp [World.shape?, hv, hx8]) (by simp [World.shape?, hcur]) (by rw [hcs]; omega) (by simp [World.frozen?, hv]) (by simp [World.frozen?, hv])]
    rfl
  have hsrc1 : ∀ j v, D[j]? = some v → w.drew.cell? ((⟨g, i * 8, none⟩ : Addr).add j) = some v := fun j v hj => by
    rw [Addr.add_lit]
    show w.cell? ⟨g, i * 8 + j, none⟩ = some v
    rw [cell_of_block hcur]
    rw [hf2, ← htk, List.getElem?_drop] at hj
    have hlt := (List.getElem?_eq_some_iff.1 hj).1
    rw [List.getElem?_take_of_lt (by rw [List.length_take] at hlt; omega)] at hj
    simpa using hj
  have hlen : cur.toList.length = c * 8 := by simpa using hcs
  have hcp1 : ∀ ty dc sc, (Builtin.copy_ #[108, 108] ty #[.slice (some ⟨g, i1 * 8, none⟩) (n1 - i1) dc, .slice (some ⟨g, i * 8, none⟩) (n1 - i) sc]).run Tryz.prog w.drew = .ok (goInt ((n - i : Nat) : Int)) (w.drew.setRow g (cur.toList.take (i1 * 8) ++ D ++ cur.toList.drop (i1 * 8 + D.length)).toArray) := fun ty dc sc =>
    run_copy_big w.drew 108 108 ty 112 8 g (i1 * 8) (n1 - i1) dc (n - i) ⟨g, i * 8, none⟩ (n1 - i) sc cur 112 D huS hsz hcur (by simp only [Nat.min_def]; split <;> omega) (by rw [hDl]) hsrc1 (by rw [hDl, hcs]; omega) hD1
  obtain ⟨C2, hC2⟩ : ∃ C, (cur.toList.take (i1 * 8) ++ D ++ cur.toList.drop (i1 * 8 + D.length)) = C := ⟨_, rfl⟩
  rw [hC2] at hcp1
  have hC2l : C2.length = c * 8 := by rw [← hC2, List.length_append, List.length_append, List.length_take, List.length_drop, hlen]; omega
  obtain ⟨W1, hW1⟩ : ∃ W, W = w.drew.setRow g C2.toArray := ⟨_, rfl⟩
  have hg1 : W1.heap[g]? = some (.cells C2.toArray 112 (0, 0)) := by rw [hW1]; exact setRow_heap _ _ _ _ _ _ hcur
  have hv1 : W1.heap[gv]? = some (.cells x.toArray 112 (0, 0)) := by rw [hW1]; exact (setRow_other _ _ _ _ hgv).trans hv
  rw [← hW1] at hcp1
  have hcp2 : ∀ ty dc, (Builtin.copy_ #[108, 108] ty #[.slice (some ⟨g, i * 8, none⟩) (n1 - i) dc, .slice (some ⟨gv, 0, none⟩) 1 1]).run Tryz.prog W1 = .ok (goInt 1) (W1.setRow g (C2.take (i * 8) ++ x ++ C2.drop (i * 8 + 8)).toArray) := fun ty dc => by
    have := run_copy_big W1 108 108 ty 112 8 g (i * 8) (n1 - i) dc 1 ⟨gv, 0, none⟩ 1 1 C2.toArray 112 x huS hsz hg1 (by simp only [Nat.min_def]; split <;> omega) (by rw [hx8]) (fun j u hu => by
      rw [Addr.add_lit, Nat.zero_add]
      rw [cell_of_block hv1]
      simpa using hu) (by rw [hx8, List.size_toArray, hC2l]; omega) (fits_one hx)
    rw [hx8] at this
    simpa using this
  obtain ⟨W2, hW2⟩ : ∃ W, W = W1.setRow g (C2.take (i * 8) ++ x ++ C2.drop (i * 8 + 8)).toArray := ⟨_, rfl⟩
  have hg2 : W2.heap[g]? = some (.cells (C2.take (i * 8) ++ x ++ C2.drop (i * 8 + 8)).toArray 112 (0, 0)) := by rw [hW2]; exact setRow_heap _ _ _ _ _ _ hg1
  rw [← hW2] at hcp2
  have HEND : Hid (W2.ownsRow 0 112 8 (.slice (some ⟨g, 0, none⟩) (L.length + 1) c) (L.length + 1) (L.take i ++ x :: L.drop i).flatten ∧ Onx (Blk (some ⟨g, 0, none⟩)) w W2) := Lib.hid (by
    have hp := Pl.two_parts' cur.toList x D (i * 8) 8 hx8 (by rw [hDl, hlen]; omega)
    rw [show i * 8 + 8 = i1 * 8 from by omega, hC2] at hp
    rw [show i * 8 + 8 = i1 * 8 from by omega] at hg2
    have hfl : (L.take i ++ x :: L.drop i).flatten = cur.toList.take (i * 8) ++ x ++ D := by
      rw [List.flatten_append, List.flatten_cons, hf1, hD, ← htk, List.take_take, Nat.min_eq_left (by omega), List.append_assoc]
    refine ⟨⟨?_, .inr ⟨g, c, _, rfl, Nat.zero_le _, hg2, by omega, hmax, by rw [List.size_toArray, hp.2, hlen], ?_⟩⟩, ?_⟩
    · rw [hfl, List.length_append, List.length_append, List.length_take, hlen, hx8, hDl]; omega
    · rw [hfl, ← hp.1]
      congr 1
      rw [hDl, hn]; omega
    · refine ⟨by rw [hW2, hW1]; rfl, by rw [hW2, hW1]; rfl, by rw [hW2, hW1]; rfl, by rw [hW2, hW1]; simp [World.setRow], fun k hk hb => ?_⟩
      have hkg : k ≠ g := fun e => hb (blk_some.2 e)
      rw [hW2, hW1]
      exact (setRow_other _ _ _ _ hkg).trans (setRow_other _ _ _ _ hkg))
  have hnn : ((n : Int) + 1) = (n1 : Int) := by omega
  have hii : ((i : Int) + 1) = (i1 : Int) := by omega
  have hne : ¬ ((i : Int) = (n : Int)) := by omega
  have hne2 : ((i : Int) == (n : Int)) = false := by simpa using hne
  have hg3 : ¬ ((c : Int) < (n1 : Int)) := by omega
  have mixed : Tryz.prog.follows .mixedOrders = true := by kernel_rfl
  have hwi : IntKind.i64.wrap (i1 : Int) = (i1 : Int) := IntWalk.i64_in _ (by omega)
  have hbi : (0 : Int) ≤ (i1 : Int) := by omega
  have hbi2 : (i1 : Int) ≤ (n1 : Int) := by omega
  have hbi3 : (0 : Int) ≤ (i : Int) := by omega
  have hbi4 : (i : Int) ≤ (n1 : Int) := by omega
  have hci : ¬ (c = i) := by omega
  have hci1 : ¬ (c = i1) := by omega
  have hbn : i1 ≤ n1 := by omega
  have hbn2 : i ≤ n1 := by omega
  have HN := Lib.hid (And.intro hn hn1)
  have hb1 : n ≤ 100000 := hn6
  clear ho hv hx hn hL hcur hcs htk hf1 hf2 hDl hD1 hD hsrc1 hlen hC2 hC2l hW1 hg1 hv1 hW2 hg2 hxl hx8 hn1 hi1
  go_enter Tryz.func66, Tryz.ntmps66
  go_wp2_with (simp only [hov])
  go_region_law_o (refine step_copy_runI rfl _ _ 108 108 rfl (.slice (some ⟨g, i1 * 8, none⟩) (n1 - i1) (c - i1)) (.slice (some ⟨g, i * 8, none⟩) (n1 - i) (c - i)) (by simp [Act.eval, Act.put]) (by simp [Act.eval, Act.put]) (hcp1 _ _ _) ?_)
  go_wp2_with (at_builtin; refine wpList_copy_runI _ rfl _ _ 108 108 rfl _ _ rfl rfl (hcp2 _ _) ?_)
  go_ret
  exact ⟨some ⟨g, 0, none⟩, c, by rw [← HN.out.1, HN.out.2]; rfl, HEND.out.1, fun k hk => .inl hk, HEND.out.2⟩
set_option maxRecDepth 100000 in
set_option maxHeartbeats 3200000 in
theorem cins_grow (g n c gv i : Nat) (L : List (List Value)) (x : List Value) (w : World) (hn : n = L.length) (hn6 : n ≤ 100000) (hi : i < n) (hroom : c < n + 1) (hL : Things kstand L) (ho : w.ownsRow 0 112 8 (.slice (some ⟨g, 0, none⟩) n c) n L.flatten) (hx : Fits kstand x) (hv : w.heap[gv]? = some (.cells x.toArray 112 (0, 0))) :
    Calls Tryz.prog 66 #[.slice (some ⟨g, 0, none⟩) n c, .int .i64 (i : Int), .slice (some ⟨gv, 0, none⟩) 1 1] w (InsP (some ⟨g, 0, none⟩) L i x w) := by
  obtain ⟨i0, z0, hi0, hz0, hz1, hz2, hz3⟩ := info_thing (P := Tryz.prog) (T := 112) (sz := 8) (by kernel_rfl)
  obtain ⟨cur, hcur, hnc, hmax, hcs, htk⟩ := row_cells ho
  have hsz : (Tryz.prog.info? 112).map (·.size) = some 8 := by kernel_rfl
  have huS := Tryz.underlying108
  obtain rfl : c = n := by omega
  obtain ⟨n1, hn1⟩ : ∃ z, c + 1 = z := ⟨_, rfl⟩
  obtain ⟨i1, hi1⟩ : ∃ z, i + 1 = z := ⟨_, rfl⟩
  obtain ⟨kk, hkk⟩ : ∃ z, n1 - i = z := ⟨_, rfl⟩
  have hta := fun W => run_tail (P := Tryz.prog) 108 112 8 i0 huS hi0 hz1 g c c i (by omega) hi W
  have hhd := fun W => run_head (P := Tryz.prog) 108 112 8 i0 huS hi0 hz1 g c c i (by omega) W
  have hx8 : x.length = 8 := hx.length
  have hlen : cur.toList.length = c * 8 := by simpa using hcs
  obtain ⟨hf1, hf2⟩ := flat_parts L hL i (by omega)
  have hcl : cur.toList = L.flatten := by rw [← htk, List.take_of_length_le (by omega)]
  have hDl : (L.drop i).flatten.length = (c - i) * 8 := by rw [hf2, List.length_drop, ho.1]; omega
  have hTl : (L.take i).flatten.length = i * 8 := by rw [hf1, List.length_take, ho.1]; omega
  have hD1 : ∀ v ∈ (L.drop i).flatten, v.oneCell' = true := fun v hv' => by
    obtain ⟨e, he, hve⟩ := List.mem_flatten.1 hv'
    exact fits_one (hL e (List.mem_of_mem_drop he)) v hve
  obtain ⟨D, hD⟩ : ∃ D, (L.drop i).flatten = D := ⟨_, rfl⟩
  rw [hD] at hDl hD1 hf2
  obtain ⟨T0, hT0⟩ : ∃ T, (L.take i).flatten = T := ⟨_, rfl⟩
  rw [hT0] at hTl hf1
  have hold : (Builtin.firstCells i0.size i (.slice (some ⟨g, 0, none⟩) i c)).run Tryz.prog w.drew = .ok T0.toArray w.drew := by
    have := run_loadCells_list (P := Tryz.prog) w.drew ⟨g, 0, none⟩ T0 (fun j v hj => by
      rw [Addr.add_lit, Nat.zero_add]
      show w.cell? ⟨g, j, none⟩ = some v
      rw [cell_of_block hcur]
      rw [hf1, ← hcl] at hj
      have hlt := (List.getElem?_eq_some_iff.1 hj).1
      rw [List.getElem?_take_of_lt (by rw [List.length_take] at hlt; omega)] at hj
      simpa using hj)
    rw [hTl] at this
    simpa [Builtin.firstCells, hz1] using this
  have hsum : i + kk = n1 := by omega
  have hnb : Builtin.nextslicecap (i + kk) c * i0.bytes ≤ 281474976710656 := growslice_fits (by omega) (Nat.le_trans (Nat.mul_le_mul (show i + kk ≤ 100001 by omega) hz3) (by decide))
  have hrz := fun ty => Lib.run_append_grow_zeros w 108 3 ty 112 i0 z0 .i64 .i64 huS Tryz.underlying3 hi0 hz0 (some ⟨g, 0, none⟩) i c T0 hold kk (by omega) (by omega) (by omega) (by omega) (Nat.le_trans (Nat.mul_le_mul (show kk ≤ 100001 by omega) hz3) (by decide)) hnb
  have hG1 := grownCap_ge w (i + kk) c 112
  have hG2 := grownCap_le_maxLen w (i + kk) c 112 (by simp only [maxLen]; omega)
  obtain ⟨G, hG⟩ : ∃ z, grownCap w (i + kk) c 112 = z := ⟨_, rfl⟩
  rw [hG] at hrz hG1 hG2
  obtain ⟨R, hR⟩ : ∃ R : List Value, (T0.toArray ++ Builtin.zeroCells z0.cells kk ++ Builtin.zeroCells z0.cells (G - (i + kk))) = R.toArray := ⟨(T0.toArray ++ Builtin.zeroCells z0.cells kk ++ Builtin.zeroCells z0.cells (G - (i + kk))).toList, by simp⟩
  have hzc : ∀ m, (Builtin.zeroCells z0.cells m).size = m * 8 := fun m => by simp [Builtin.zeroCells, hz2]
  have hRl : R.length = G * 8 := by
    have := congrArg Array.size hR
    rw [Array.size_append, Array.size_append, hzc, hzc, List.size_toArray, List.size_toArray, hTl] at this
    omega
  have hRt : R.take (i * 8) = T0 := by
    have := congrArg Array.toList hR
    simp only [Array.toList_append] at this
    have h2 : R = T0 ++ ((Builtin.zeroCells z0.cells kk).toList ++ (Builtin.zeroCells z0.cells (G - (i + kk))).toList) := by simpa using this.symm
    rw [h2, ← hTl, List.take_left]
  rw [hR, hsum] at hrz
  rw [hsum] at hG1
  obtain ⟨g2, hg2⟩ : ∃ z, w.heap.size = z := ⟨_, rfl⟩
  have hgl := lt_of_block hcur
  have hgvl := lt_of_block hv
  obtain ⟨W1, hW1⟩ : ∃ W, W = w.drew.alloc (.cells R.toArray 112) := ⟨_, rfl⟩
  have hold1 : ∀ k, k < w.heap.size → W1.heap[k]? = w.heap[k]? := fun k hk => by rw [hW1]; exact Below.heap_alloc w.drew _ _ hk
  have hc1 : W1.heap[g2]? = some (.cells R.toArray 112 (0, 0)) := by rw [hW1, ← hg2]; exact heap_alloc_new w.drew _
  rw [← hW1, hg2] at hrz
  have hv1 : W1.heap[gv]? = some (.cells x.toArray 112 (0, 0)) := (hold1 gv hgvl).trans hv
  have hr1 : W1.heap[g]? = some (.cells cur 112 (0, 0)) := (hold1 g hgl).trans hcur
  have htb := fun W => run_tail (P := Tryz.prog) 108 112 8 i0 huS hi0 hz1 g2 n1 G i (by omega) (by omega) W
  have htc := fun W => run_tail (P := Tryz.prog) 108 112 8 i0 huS hi0 hz1 g2 n1 G i1 (by omega) (by omega) W
  have hcp1 : ∀ ty dc, (Builtin.copy_ #[108, 108] ty #[.slice (some ⟨g2, i * 8, none⟩) (n1 - i) dc, .slice (some ⟨gv, 0, none⟩) 1 1]).run Tryz.prog W1 = .ok (goInt 1) (W1.setRow g2 (R.take (i * 8) ++ x ++ R.drop (i * 8 + 8)).toArray) := fun ty dc => by
    have := run_copy_big W1 108 108 ty 112 8 g2 (i * 8) (n1 - i) dc 1 ⟨gv, 0, none⟩ 1 1 R.toArray 112 x huS hsz hc1 (by simp only [Nat.min_def]; split <;> omega) (by rw [hx8]) (fun j u hu => by
      rw [Addr.add_lit, Nat.zero_add]
      rw [cell_of_block hv1]
      simpa using hu) (by rw [hx8, List.size_toArray, hRl]; omega) (fits_one hx)
    rw [hx8] at this
    simpa using this
  obtain ⟨C2, hC2⟩ : ∃ C, (R.take (i * 8) ++ x ++ R.drop (i * 8 + 8)) = C := ⟨_, rfl⟩
  rw [hC2] at hcp1
  have hC2l : C2.length = G * 8 := by rw [← hC2, List.length_append, List.length_append, List.length_take, List.length_drop, hRl, hx8]; omega
  obtain ⟨W2, hW2⟩ : ∃ W, W = W1.setRow g2 C2.toArray := ⟨_, rfl⟩
  have hc2 : W2.heap[g2]? = some (.cells C2.toArray 112 (0, 0)) := by rw [hW2]; exact setRow_heap _ _ _ _ _ _ hc1
  have hr2 : W2.heap[g]? = some (.cells cur 112 (0, 0)) := by rw [hW2]; exact (setRow_other _ _ _ _ (by omega)).trans hr1
  rw [← hW2] at hcp1
  have hsrc : ∀ j v, D[j]? = some v → W2.drew.cell? ((⟨g, i * 8, none⟩ : Addr).add j) = some v := fun j v hj => by
    rw [Addr.add_lit]
    show W2.cell? ⟨g, i * 8 + j, none⟩ = some v
    rw [cell_of_block hr2]
    rw [hf2, ← hcl, List.getElem?_drop] at hj
    simpa using hj
  have hcp2 : ∀ ty dc sc, (Builtin.copy_ #[108, 108] ty #[.slice (some ⟨g2, i1 * 8, none⟩) (n1 - i1) dc, .slice (some ⟨g, i * 8, none⟩) (c - i) sc]).run Tryz.prog W2.drew = .ok (goInt ((c - i : Nat) : Int)) (W2.drew.setRow g2 (C2.take (i1 * 8) ++ D ++ C2.drop (i1 * 8 + D.length)).toArray) := fun ty dc sc => by
    have := run_copy_big W2.drew 108 108 ty 112 8 g2 (i1 * 8) (n1 - i1) dc (c - i) ⟨g, i * 8, none⟩ (c - i) sc C2.toArray 112 D huS hsz hc2 (by simp only [Nat.min_def]; split <;> omega) (by rw [hDl]) hsrc (by rw [hDl, List.size_toArray, hC2l]; omega) hD1
    simpa using this
  obtain ⟨W3, hW3⟩ : ∃ W, W = W2.drew.setRow g2 (C2.take (i1 * 8) ++ D ++ C2.drop (i1 * 8 + D.length)).toArray := ⟨_, rfl⟩
  have hc3 : W3.heap[g2]? = some (.cells (C2.take (i1 * 8) ++ D ++ C2.drop (i1 * 8 + D.length)).toArray 112 (0, 0)) := by rw [hW3]; exact setRow_heap _ _ _ _ _ _ hc2
  rw [← hW3] at hcp2
  have HEND : Hid (W3.ownsRow 0 112 8 (.slice (some ⟨g2, 0, none⟩) (L.length + 1) G) (L.length + 1) (L.take i ++ x :: L.drop i).flatten ∧ Onx (Blk (some ⟨g, 0, none⟩)) w W3) := Lib.hid (by
    have hp := Pl.two_parts R x D (i * 8) 8 hx8 (by rw [hDl, hRl]; omega)
    rw [hC2, show i * 8 + 8 = i1 * 8 from by omega, hRt] at hp
    have hfl : (L.take i ++ x :: L.drop i).flatten = T0 ++ x ++ D := by
      rw [List.flatten_append, List.flatten_cons, hT0, hD, List.append_assoc]
    refine ⟨⟨?_, .inr ⟨g2, G, _, rfl, Nat.zero_le _, hc3, by omega, hG2, by rw [List.size_toArray, hp.2, hRl], ?_⟩⟩, ?_⟩
    · rw [hfl, List.length_append, List.length_append, hTl, hx8, hDl]; omega
    · rw [hfl, ← hp.1]
      congr 1
      rw [hDl, ← hn]; omega
    · have hsz3 : w.heap.size ≤ W3.heap.size := by
        have := lt_of_block hc3
        omega
      refine ⟨by rw [hW3, hW2, hW1]; rfl, by rw [hW3, hW2, hW1]; rfl, by rw [hW3, hW2, hW1]; rfl, hsz3, fun k hk hb => ?_⟩
      have hkg : k ≠ g2 := by omega
      have e1 : W3.heap[k]? = W2.drew.heap[k]? := by rw [hW3]; exact setRow_other _ _ _ _ hkg
      have e2 : W2.heap[k]? = W1.heap[k]? := by rw [hW2]; exact setRow_other _ _ _ _ hkg
      exact e1.trans (e2.trans (hold1 k hk)))
  have mixed : Tryz.prog.follows .mixedOrders = true := by kernel_rfl
  have hnn : ((c : Int) + 1) = (n1 : Int) := by omega
  have hii : ((i : Int) + 1) = (i1 : Int) := by omega
  have hki : (n1 : Int) - (i : Int) = (kk : Int) := by omega
  have hne : ¬ ((i : Int) = (c : Int)) := by omega
  have hne2 : ((i : Int) == (c : Int)) = false := by simpa using hne
  have hg3 : (c : Int) < (n1 : Int) := by omega
  have hwi : IntKind.i64.wrap (i1 : Int) = (i1 : Int) := IntWalk.i64_in _ (by omega)
  have hbi : (0 : Int) ≤ (i1 : Int) := by omega
  have hbi2 : (i1 : Int) ≤ (n1 : Int) := by omega
  have hbi3 : (0 : Int) ≤ (i : Int) := by omega
  have hbi4 : (i : Int) ≤ (n1 : Int) := by omega
  have hbi5 : (i : Int) ≤ (c : Int) := by omega
  have hci : ¬ (c = i) := by omega
  have hGi : ¬ (G = i) := by omega
  have hGi1 : ¬ (G = i1) := by omega
  have hbn : i1 ≤ n1 := by omega
  have hbn2 : i ≤ n1 := by omega
  have hbn3 : i ≤ c := by omega
  have HN := Lib.hid (And.intro hn hn1)
  have HG2 := Lib.hid hg2
  clear ho hv hx hn hL hcur hcs htk hcl hf1 hf2 hDl hTl hT0 hD1 hD hlen hold hsum hnb hG1 hG2 hG hR hzc hRl hRt hold1 hc1 hW1 hv1 hr1 hC2 hC2l hW2 hc2 hr2 hsrc hW3 hc3 hx8 hn1 hi1 hkk hg2 hgl hgvl hroom hnc
  go_enter Tryz.func66, Tryz.ntmps66
  go_wp2_with (first
    | (at_builtin; refine Lib.wpList_append_run _ rfl _ _ _ _ rfl _ _ rfl rfl _ _ (hrz _) ?_)
    | (at_builtin; refine wpList_copy_runI _ rfl _ _ 108 108 rfl _ _ rfl rfl (hcp1 _ _) ?_)
    | fail)
  go_region_law_o (refine step_copy_runI rfl _ _ 108 108 rfl (.slice (some ⟨g2, i1 * 8, none⟩) (n1 - i1) (G - i1)) (.slice (some ⟨g, i * 8, none⟩) (c - i) (c - i)) (by simp [Act.eval, Act.put]) (by simp [Act.eval, Act.put]) (hcp2 _ _ _) ?_)
  go_wp2_with fail
  go_ret
  exact ⟨some ⟨g2, 0, none⟩, G, by rw [← HN.out.1, HN.out.2]; rfl, HEND.out.1, fun k hk => .inr (by rw [blk_some.1 hk, HG2.out]; exact Nat.le_refl _), HEND.out.2⟩
/-- .. whatever room there is. -/
theorem cins_any (A : Option Addr) (n c gv i : Nat) (L : List (List Value)) (x : List Value) (w : World) (hn : n = L.length) (hn6 : n ≤ 100000) (hi : i ≤ n) (hL : Things kstand L) (ho : w.ownsRow 0 112 8 (.slice A n c) n L.flatten) (hx : Fits kstand x) (hv : w.heap[gv]? = some (.cells x.toArray 112 (0, 0))) (hgv : ¬ Blk A gv) :
    Calls Tryz.prog 66 #[.slice A n c, .int .i64 (i : Int), .slice (some ⟨gv, 0, none⟩) 1 1] w (InsP A L i x w) := by
  by_cases h : i = n
  · subst h; exact cins_end A i c gv L x w hn hn6 ho hx hv
  · obtain ⟨g, rfl⟩ := own_some ho (by omega)
    by_cases hc : n + 1 ≤ c
    · exact cins_room g n c gv i L x w hn hn6 (by omega) hc hL ho hx hv (fun e => hgv (blk_some.2 e))
    · exact cins_grow g n c gv i L x w hn hn6 (by omega) (by omega) hL ho hx hv
end Go.Proofs.YtnkhnbpopdmkhaaGreat
