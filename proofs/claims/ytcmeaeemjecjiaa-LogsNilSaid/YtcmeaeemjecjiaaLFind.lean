/-
  CONTRACT of 'find': the frames of a medium, one behind the other.
-/
import Derived.Test.YtcmeaeemjecjiaaLTake
import Derived.Deep.LoopGhost
import Derived.Deep.CutRange
import Derived.Deep.RegionHeld3
import Derived.BigQuiet
import Derived.Deep.QuietTactic
namespace Go.Proofs.Ytcmeaeemjecjiaa
open Go.RowKit Go.Maps

theorem fc_snoc (d : ByteArray) (l : List ByteArray) : ∀ n, fc n (l ++ [d]) = fc n l ++ [.int .i64 ((n + l.length : Nat) : Int), .string d] := by
  induction l with
  | nil => intro n; rfl
  | cons x r ih => intro n; simp only [List.cons_append, fc, ih, List.length_cons]; rw [show n + 1 + r.length = n + (r.length + 1) from by omega]
theorem flat_len (pre : List (List ByteArray)) (cur : List ByteArray) : (flat pre cur).length = Pl.cnt pre + cur.length := by simp [flat, Pl.cnt, List.length_flatten]
theorem flat_more (pre : List (List ByteArray)) (cur : List ByteArray) (d : ByteArray) : flat pre (cur ++ [d]) = flat pre cur ++ [d] := by simp [flat]
theorem flat_next (pre : List (List ByteArray)) (cur : List ByteArray) (d : ByteArray) : flat (pre ++ [cur]) [d] = flat pre cur ++ [d] := by simp [flat]

/-- What 'find' has found: the frames of pre and cur. -/
def FI (w : World) (X : Nat → Prop) (b n : Nat) (s : St) (bl bm lo nn g1 g3 base : Nat) (pre : List (List ByteArray)) (cur : List ByteArray) (k : Nat) : Prop :=
  ∃ A cp c, ∃ nx : Int, FD w X b n s bl bm c (lastV lo nn pre cur) ((lo + pre.length : Nat) : Int) (((Pl.segL (nn + Pl.cnt pre) cur).length : Nat) : Int) nx g1 g3 base A k cp (fc nn (flat pre cur)) ∧ k = Pl.cnt pre + cur.length ∧ c ≤ k ∧
    nx = if k = 0 then 1 else ((nn + k : Nat) : Int)

section
variable {w w' : World} {X : Nat → Prop} {b n : Nat} {s : St} {bl bm lo nn g1 g3 base : Nat} {pre : List (List ByteArray)} {cur : List ByteArray} {k : Nat}
theorem FI.below (h : FI w X b n s bl bm lo nn g1 g3 base pre cur k) (hb : Below w.heap.size w w') : FI w' X b n s bl bm lo nn g1 g3 base pre cur k := by
  obtain ⟨A, cp, c, nx, h1, h2⟩ := h
  exact ⟨A, cp, c, nx, h1.below hb, h2⟩
theorem FI.box (h : FI w X b n s bl bm lo nn g1 g3 base pre cur k) : w.cell? ⟨g1, 0, none⟩ = some (.pointer (some ⟨bl, 0, none⟩)) := by
  obtain ⟨A, cp, c, nx, h1, _⟩ := h
  rw [cell_of_block h1.v1]; rfl
theorem FI.seg (h : FI w X b n s bl bm lo nn g1 g3 base pre cur k) : w.cell? ⟨bl, 1, none⟩ = some (.int .i64 ((lo + pre.length : Nat) : Int)) := by
  obtain ⟨A, cp, c, nx, h1, _⟩ := h
  exact h1.g.cl.c1
/-- All found. -/
theorem FI.final (h : FI w X b n s bl bm lo nn g1 g3 base pre cur k) (hn : k = 0 → nn = 1) :
    ∃ A cp, w.cell? ⟨g3, 0, none⟩ = some (.slice A k cp) ∧ k ≤ cp ∧ k = (flat pre cur).length ∧ Rd w w.heap.size A (fc nn (flat pre cur)) ∧ M w X b n s ∧ LO w (fun k => k = bl ∨ k = bm) b bl lo nn pre cur := by
  obtain ⟨A, cp, c, nx, h1, h2, h3, h4⟩ := h
  refine ⟨A, cp, by rw [cell_of_block h1.v3]; rfl, own_cap h1.own, by rw [flat_len]; exact h2, Rd.of_own h1.own, h1.m, bm, c, ?_, h1.i, by omega, fun _ => Iff.rfl⟩
  have e : nx = ((nn + Pl.cnt pre + cur.length : Nat) : Int) := by
    rw [h4]
    by_cases hk : k = 0
    · rw [if_pos hk, hn hk]; omega
    · rw [if_neg hk]; omega
  have := h1.g
  rw [e] at this
  exact this
/-- None taken. -/
theorem FI.no (h : FI w X b n s bl bm lo nn g1 g3 base pre cur k) (hoff : s.off = false) (f a : Nat) (hf : f < 1048576) (ha : a ≤ 16)
    (hno : Pl.stands (mdT s) f a = none ∨ (0 < k ∧ ∀ m x kk, Pl.stands (mdT s) f a = some (m, x, kk) → m ≠ nn + k)) :
    Calls Try.prog 30 #[.int .i64 (f : Int), .int .i64 (a : Int), .pointer (some ⟨g1, 0, none⟩), .pointer (some ⟨g3, 0, none⟩)] w fun e w' => e = .returned (.bool false) ∧ Below w.heap.size w w' := by
  obtain ⟨A, cp, c, nx, h1, h2, h3, h4⟩ := h
  refine take_no X b n s bl bm c _ _ _ nx g1 g3 base A k cp _ f a w h1 hoff hf ha ?_
  rcases hno with hno | ⟨hk, hno⟩
  · exact .inl hno
  · cases hs : Pl.stands (mdT s) f a with
    | none => exact .inl rfl
    | some q =>
      obtain ⟨m, x, kk⟩ := q
      refine .inr ⟨hk, m, x, kk, rfl, ?_⟩
      rw [h4, if_neg (by omega)]
      have := hno m x kk hs
      omega
/-- The next one, in the same segment. -/
theorem FI.more (h : FI w X b n s bl bm lo nn g1 g3 base pre cur k) (hoff : s.off = false) (d : ByteArray) (hf : lo + pre.length < 1048576) (ha : (Pl.segL (nn + Pl.cnt pre) cur).length ≤ 16) (hk : k ≤ 1000000) (hp : Pl.partsN d.size ≤ 16) (hm : nn + k ≤ 2147483647)
    (hst : Pl.stands (mdT s) (lo + pre.length) (Pl.segL (nn + Pl.cnt pre) cur).length = some (nn + k, d.data.toList, Pl.partsN d.size)) :
    Calls Try.prog 30 #[.int .i64 ((lo + pre.length : Nat) : Int), .int .i64 (((Pl.segL (nn + Pl.cnt pre) cur).length : Nat) : Int), .pointer (some ⟨g1, 0, none⟩), .pointer (some ⟨g3, 0, none⟩)] w fun e w' =>
      e = .returned (.bool true) ∧ FI w' X b n s bl bm lo nn g1 g3 base pre (cur ++ [d]) (k + 1) ∧ Only (fun j => j = bl ∨ j = bm ∨ j = g3 ∨ base ≤ j) w w' := by
  obtain ⟨A, cp, c, nx, h1, h2, h3, h4⟩ := h
  refine (take_yes X b n s bl bm c _ _ _ nx g1 g3 base A k cp _ _ _ _ _ _ w h1 hoff hf ha hk (by omega) hst ?_ hm hp).mono ?_
  · by_cases hk0 : k = 0
    · exact .inl hk0
    · right; rw [h4, if_neg hk0]
  · rintro e w' ⟨he, A', cp', h5, h6⟩
    refine ⟨he, ⟨A', cp', c + 1, ((nn + k : Nat) : Int) + 1, ?_, by rw [List.length_append, List.length_singleton]; omega, by omega, ?_⟩, h6⟩
    · have e1 : upd (lastV lo nn pre cur) ((lo + pre.length : Nat) : Int) (some (.int .i64 ((nn + k : Nat) : Int))) = lastV lo nn pre (cur ++ [d]) := by
        funext f
        unfold lastV
        rw [last_more, upd_map, h2, Nat.add_assoc]
        rfl
      have e2 : fc nn (flat pre cur) ++ [.int .i64 ((nn + k : Nat) : Int), .string ⟨d.data.toList.toArray⟩] = fc nn (flat pre (cur ++ [d])) := by
        rw [flat_more, fc_snoc, flat_len, ← h2, Pl.ba_mk]
      have e3 : (Pl.segL (nn + Pl.cnt pre) cur).length + Pl.partsN d.size = (Pl.segL (nn + Pl.cnt pre) (cur ++ [d])).length := by
        rw [Pl.segL_snoc, List.length_append, Pl.secs_length]
      rw [e1, e2, e3] at h5
      exact h5
    · rw [if_neg (by omega)]; omega
/-- The next one, in the next segment. -/
theorem FI.next (h : FI w X b n s bl bm lo nn g1 g3 base pre cur k) (hoff : s.off = false) (d : ByteArray) (hf : lo + pre.length + 1 < 1048576) (hk : k ≤ 1000000) (hk0 : 0 < k) (hp : Pl.partsN d.size ≤ 16) (hm : nn + k ≤ 2147483647)
    (hst : Pl.stands (mdT s) (lo + pre.length + 1) 0 = some (nn + k, d.data.toList, Pl.partsN d.size)) :
    Calls Try.prog 30 #[.int .i64 ((lo + pre.length + 1 : Nat) : Int), .int .i64 ((0 : Nat) : Int), .pointer (some ⟨g1, 0, none⟩), .pointer (some ⟨g3, 0, none⟩)] w fun e w' =>
      e = .returned (.bool true) ∧ FI w' X b n s bl bm lo nn g1 g3 base (pre ++ [cur]) [d] (k + 1) ∧ Only (fun j => j = bl ∨ j = bm ∨ j = g3 ∨ base ≤ j) w w' := by
  obtain ⟨A, cp, c, nx, h1, h2, h3, h4⟩ := h
  refine (take_yes X b n s bl bm c _ _ _ nx g1 g3 base A k cp _ _ _ _ _ _ w h1 hoff hf (by omega) hk (by omega) hst ?_ hm hp).mono ?_
  · right; rw [h4, if_neg (by omega)]
  · rintro e w' ⟨he, A', cp', h5, h6⟩
    refine ⟨he, ⟨A', cp', c + 1, ((nn + k : Nat) : Int) + 1, ?_, by rw [Pl.cnt_snoc, List.length_singleton]; omega, by omega, ?_⟩, h6⟩
    · have e1 : upd (lastV lo nn pre cur) ((lo + pre.length + 1 : Nat) : Int) (some (.int .i64 ((nn + k : Nat) : Int))) = lastV lo nn (pre ++ [cur]) [d] := by
        funext f
        unfold lastV
        rw [last_next, upd_map, h2, Nat.add_assoc nn]
        rfl
      have e2 : fc nn (flat pre cur) ++ [.int .i64 ((nn + k : Nat) : Int), .string ⟨d.data.toList.toArray⟩] = fc nn (flat (pre ++ [cur]) [d]) := by
        rw [flat_next, fc_snoc, flat_len, ← h2, Pl.ba_mk]
      have e3 : 0 + Pl.partsN d.size = (Pl.segL (nn + Pl.cnt (pre ++ [cur])) [d]).length := by
        simp [Pl.segL, Pl.secs_length]
      have e4 : lo + (pre ++ [cur]).length = lo + pre.length + 1 := by simp; omega
      rw [e1, e2, e3] at h5
      rw [e4]
      exact h5
    · rw [if_neg (by omega)]; omega
end

/-- What 'find' leaves. -/
def FindPost (X : Nat → Prop) (b n : Nat) (s : St) (bl bm lo nn : Nat) (pre : List (List ByteArray)) (cur : List ByteArray) (w : World) (e : Ending) (w' : World) : Prop :=
  ∃ A m c, e = .returned (.slice A m c) ∧ m = (flat pre cur).length ∧ m ≤ c ∧ Rd w' w'.heap.size A (fc nn (flat pre cur)) ∧ M w' X b n s ∧ LO w' (fun k => k = bl ∨ k = bm) b bl lo nn pre cur ∧ Only (fun q => q = bl ∨ q = bm) w w'

set_option maxRecDepth 100000 in
set_option maxHeartbeats 6400000 in
theorem find_any (X : Nat → Prop) (b n : Nat) (s : St) (bl bm lo nn : Nat) (pre : List (List ByteArray)) (cur : List ByteArray) (w : World) (hM : M w X b n s) (hoff : s.off = false) (hinv : Pl.Inv (mdT s) lo nn pre cur) (hN : nn + Pl.cnt pre + cur.length ≤ 100000) (hL : lo + pre.length ≤ 100000)
    (hG : LG w bl b bm (lo : Int) 0 1) (hI : IM w bm 0 (fun _ => none)) (hX : ∀ j, X j → j ≠ bl ∧ j ≠ bm) :
    Calls Try.prog 20 #[.pointer (some ⟨bl, 0, none⟩)] w (FindPost X b n s bl bm lo nn pre cur w) := by
  have hmf : ∀ (fn : Fn) (first cap : Array Value) (w : World), (Instr.makeFunc fn first cap).run Try.prog w = .ok (.func fn first cap) w := fun _ _ _ _ => rfl
  have HINV := Lib.hid hinv
  have HOFF := Lib.hid hoff
  obtain ⟨T, hT⟩ : ∃ T, T = Pl.cnt pre + cur.length := ⟨_, rfl⟩
  have HT := Lib.hid hT
  have HF0 : Hid (FI ((w.alloc (.cells #[.pointer (some ⟨bl, 0, none⟩)] 26)).alloc (.cells #[.slice none 0 0] 27)) X b n s bl bm lo nn w.heap.size (w.heap.size + 1) (w.heap.size + 2) [] [] 0) := Lib.hid (by
    have hb : Below w.heap.size w ((w.alloc (.cells #[.pointer (some ⟨bl, 0, none⟩)] 26)).alloc (.cells #[.slice none 0 0] 27)) := ((Below.refl _ _).alloc (Nat.le_refl _) _).alloc (by simp) _
    have l1 := hG.lt
    have l2 := hI.lt
    have hs1 : (w.alloc (.cells #[.pointer (some ⟨bl, 0, none⟩)] 26)).heap.size = w.heap.size + 1 := by simp
    refine ⟨none, 0, 0, 1, ⟨hM.below hb, (hb.block _ l1).trans hG, (hI.kept (hb.block _ l2)).congr (fun f => by unfold lastV; rw [last_bare]; rfl), ?_, ?_, World.ownsRow_nil _ _ _ _, by simp, ?_, ?_, ?_⟩, rfl, Nat.le_refl _, rfl⟩
    · exact (Below.heap_alloc _ _ _ (by simp)).trans (Fm.new_block _ _)
    · have := Fm.new_block (w.alloc (.cells #[.pointer (some ⟨bl, 0, none⟩)] 26)) (.cells #[.slice none 0 0] 27)
      rw [hs1] at this
      exact this
    · intro j hj
      have := hM.lt hj
      exact ⟨by omega, (hX j hj).1, (hX j hj).2, by omega, by omega⟩
    · omega
    · omega)
  have HB0 : Hid (Only (fun q => q = bl ∨ q = bm) w ((w.alloc (.cells #[.pointer (some ⟨bl, 0, none⟩)] 26)).alloc (.cells #[.slice none 0 0] 27))) := Lib.hid ((Only.alloc _ _).tr (Only.alloc _ _))
  clear hM hinv hG hI hX hoff hT
  go_enter Try.func20, Try.ntmps20
  go_wp2_with fail
  go_loopg [6] T (fun g _ wr => ∃ (j i : Nat) (ds : List ByteArray), j ≤ pre.length ∧ i ≤ ds.length ∧ g + (Pl.cnt (pre.take j) + i) = T ∧ Hid ((pre ++ [cur])[j]? = some ds ∧ (i = 0 → j = 0) ∧ FI wr X b n s bl bm lo nn w.heap.size (w.heap.size + 1) (w.heap.size + 2) (pre.take j) (ds.take i) (Pl.cnt (pre.take j) + i) ∧ Only (fun q => q = bl ∨ q = bm) w wr))
  case atStart =>
    obtain ⟨ds, hds⟩ : ∃ ds, (pre ++ [cur])[0]? = some ds := ⟨_, List.getElem?_eq_getElem (by simp)⟩
    exact ⟨0, 0, ds, by omega, by omega, by simp [Pl.cnt], Lib.hid ⟨hds, fun _ => rfl, HF0.out, HB0.out⟩⟩
  case round =>
    obtain ⟨j, i, ds, hj, hi, hg, HH⟩ := hrel
    clear HF0 HB0
    obtain ⟨hds, hij, hfi, hon⟩ := HH.out
    have hTT := HT.out
    have hkT : Pl.cnt (pre.take j) + i ≤ T := by omega
    obtain ⟨A, cp, c, nx, hFD, _⟩ := id hfi
    have hlen : (pre.take j).length = j := by rw [List.length_take]; omega
    have hlj : ((lo + (pre.take j).length : Nat) : Int) = (lo : Int) + (j : Int) := by rw [hlen]; omega
    have c1 := hFD.g.cl.c1
    rw [hlj] at c1
    have c2 := hFD.g.cl.c2
    have c4 := hFD.g.cl.c4
    have d1 : wr.cell? ⟨w.heap.size, 0, none⟩ = some (.pointer (some ⟨bl, 0, none⟩)) := by rw [cell_of_block hFD.v1]; rfl
    have hlk : ∀ q, (Instr.lookup 51 (.map (some bm)) (.int .i64 ((lo : Int) + (j : Int))) true).run Try.prog (wr.drewN q) = .ok (.tuple #[((lastV lo nn (pre.take j) (ds.take i)) ((lo : Int) + (j : Int))).getD (.int .i64 0), .bool ((lastV lo nn (pre.take j) (ds.take i)) ((lo : Int) + (j : Int))).isSome]) (wr.drewN q) := fun q =>
      (hFD.i.kept (w' := wr.drewN q) rfl).look_ok Try.underlying51 (Try.zeroValue3 _) (by constructor <;> omega)
    have hbg : (lastV lo nn (pre.take j) (ds.take i)) ((lo : Int) + (j : Int)) = if ds.take i = [] then none else some (.int .i64 (((nn + Pl.cnt (pre.take j) + (ds.take i).length : Nat) : Int) - 1)) := by
      rw [← hlj]
      unfold lastV
      rw [last_tail]
      split <;> rfl
    have HDS := Lib.hid hds
    have HIJ := Lib.hid hij
    have HFI := Lib.hid hfi
    have HON := Lib.hid hon
    have HLEN := Lib.hid hlen
    have HFD := Lib.hid hFD
    clear hds hij hfi hon HH hlen hFD hTT
    obtain ⟨lv, bg, hlv, hbb⟩ : ∃ (lv : Int) (bg : Bool), (∀ q, (Instr.lookup 51 (.map (some bm)) (.int .i64 ((lo : Int) + (j : Int))) true).run Try.prog (wr.drewN q) = .ok (.tuple #[.int .i64 lv, .bool bg]) (wr.drewN q)) ∧ bg = decide (i ≠ 0) := by
      rw [hbg] at hlk
      by_cases hi0 : i = 0
      · rw [if_pos (by subst hi0; simp)] at hlk
        exact ⟨0, false, hlk, by simp [hi0]⟩
      · rw [if_neg (by intro e; have := congrArg List.length e; rw [List.length_take, List.length_nil] at this; omega)] at hlk
        exact ⟨_, true, hlk, by simp [hi0]⟩
    have HBB := Lib.hid hbb
    obtain ⟨a, haa⟩ : ∃ a : Nat, a = (Pl.segL (nn + Pl.cnt (pre.take j)) (ds.take i)).length := ⟨_, rfl⟩
    rw [← haa] at c2
    have HAA := Lib.hid haa
    clear hlk hbg hbb haa
    go_upto_region 3 with fail
    go_quiet (fail)
    go_upto_region 4 with fail
    have HF4 : Hid (FI (wr.drewN nq) X b n s bl bm lo nn w.heap.size (w.heap.size + 1) (w.heap.size + 2) (pre.take j) (ds.take i) (Pl.cnt (pre.take j) + i)) := Lib.hid (HFI.out.below (Fm.below_drewN (Below.refl _ _) _))
    have HO4 : Hid (Only (fun q => q = bl ∨ q = bm) w (wr.drewN nq)) := Lib.hid (HON.out.tr (Only.below (Fm.below_drewN (Below.refl _ _) _)))
    have HD4 := Lib.hid (HFD.out.below (w' := wr.drewN nq) (Fm.below_drewN (Below.refl _ _) _))
    clear c1 c2 c4 d1 hlv HFI HON HFD
    generalize wr.drewN nq = wq at HF4 HO4 HD4 ⊢
    have c1 := HD4.out.g.cl.c1
    rw [hlj] at c1
    have c2 := HD4.out.g.cl.c2
    rw [← HAA.out] at c2
    have d1 : wq.cell? ⟨w.heap.size, 0, none⟩ = some (.pointer (some ⟨bl, 0, none⟩)) := by rw [cell_of_block HD4.out.v1]; rfl
    have HFQ := Lib.hid (HF4.out.below (w' := wq.drew) (Fm.World.drew_below _))
    have HOQ : Hid (Only (fun q => q = bl ∨ q = bm) w wq.drew) := Lib.hid HO4.out.drew
    have hsz : w.heap.size ≤ wq.drew.heap.size := HOQ.out.size
    have hcb : Pl.cnt (pre.take j) + ds.length ≤ T := by
      have htk : (pre ++ [cur]).take j = pre.take j := List.take_append_of_le_length hj
      have h1 := Pl.cnt_take_le (pre ++ [cur]) (j + 1)
      rw [Pl.cnt_take_succ HDS.out, htk, Pl.cnt_snoc, ← HT.out] at h1
      exact h1
    by_cases hlt : i < ds.length
    · -- the next one, in this segment
      have HC1 : Hid (Calls Try.prog 30 #[.int .i64 ((lo : Int) + (j : Int)), .int .i64 (a : Int), .pointer (some ⟨w.heap.size, 0, none⟩), .pointer (some ⟨w.heap.size + 1, 0, none⟩)] wq.drew fun e w' =>
          e = .returned (.bool true) ∧ Hid (FI w' X b n s bl bm lo nn w.heap.size (w.heap.size + 1) (w.heap.size + 2) (pre.take j) (ds.take (i + 1)) (Pl.cnt (pre.take j) + (i + 1)) ∧ Only (fun q => q = bl ∨ q = bm) w w')) := Lib.hid (by
        have hsm := HINV.out.small
        have hsg := HINV.out.segs j ds HDS.out
        have htk : (pre ++ [cur]).take j = pre.take j := List.take_append_of_le_length hj
        rw [htk] at hsg
        have hT' := HT.out
        obtain ⟨hst, hle⟩ := hsg.look (by have := HINV.out.n1; omega) (by omega) i hlt
        have ho : Pl.offs (nn + Pl.cnt (pre.take j)) ds i = (Pl.segL (nn + Pl.cnt (pre.take j)) (ds.take i)).length := rfl
        rw [ho] at hst hle
        have := HFQ.out.more HOFF.out ds[i] (by rw [HLEN.out]; omega) (by omega) (by omega) (by omega) (by omega) (by rw [HLEN.out, ← Nat.add_assoc]; exact hst)
        rw [HLEN.out, ← HAA.out, ← List.take_succ_eq_append_getElem hlt] at this
        exact this.mono fun e w' ⟨h1, h2, h3⟩ => ⟨h1, Lib.hid ⟨h2, HOQ.out.trans h3 (fun _ x => x) (fun q hq hlt => by rcases hq with h | h | h | h <;> first | exact .inl h | exact .inr h | omega)⟩⟩)
      go_cut [43] from 8 to 44 (fun v43 wx => v43 = .bool false ∧ Hid (FI wx X b n s bl bm lo nn w.heap.size (w.heap.size + 1) (w.heap.size + 2) (pre.take j) (ds.take (i + 1)) (Pl.cnt (pre.take j) + (i + 1)) ∧ Only (fun q => q = bl ∨ q = bm) w wx))
      case first =>
        refine wp_region_held_drew (S := (fun w' => w'.cell? ⟨w.heap.size, 0, none⟩ = some (.pointer (some ⟨bl, 0, none⟩)))) (by kernel_rfl) (by exact d1) (fun dd0 => ?_)
        refine wpAnyH_take (i := 0) (v := .func (.func 30) #[] #[.pointer (some ⟨w.heap.size, 0, none⟩), .pointer (some ⟨w.heap.size + 1, 0, none⟩)]) rfl (by kernel_rfl) (by kernel_rfl) (by kernel_rfl) (fun _ _ _ h => h) (.inl ⟨by kernel_rfl, fun w hw => by go_simp⟩) (by assumption) ?_
        (try simp only [Act.put, List.getElem_toArray, List.getElem_cons_zero, List.setIfInBounds_toArray, List.set_cons_zero, List.set_cons_succ])
        refine wpAnyH_take (i := 1) (v := .pointer (some ⟨bl, 0, none⟩)) rfl (by kernel_rfl) (by kernel_rfl) (by kernel_rfl) (fun _ _ _ h => h) (.inl ⟨by kernel_rfl, fun w hw => by go_simp⟩) (by assumption) ?_
        (try simp only [Act.put, List.getElem_toArray, List.getElem_cons_succ, List.getElem_cons_zero, List.setIfInBounds_toArray, List.set_cons_zero, List.set_cons_succ])
        refine wpAnyH_take (i := 2) (v := .pointer (some ⟨bl, 0, none⟩)) rfl (by kernel_rfl) (by kernel_rfl) (by kernel_rfl) (fun _ _ _ h => h) (.inl ⟨by kernel_rfl, fun w hw => by go_simp⟩) (by assumption) ?_
        (try simp only [Act.put, List.getElem_toArray, List.getElem_cons_succ, List.getElem_cons_zero, List.setIfInBounds_toArray, List.set_cons_zero, List.set_cons_succ])
        refine wpAnyH_take (i := 3) (v := .pointer (some ⟨bl, 1, none⟩)) rfl (by kernel_rfl) (by kernel_rfl) (by kernel_rfl) (fun _ _ _ h => h) (.inl ⟨by kernel_rfl, fun w hw => by go_simp⟩) (by assumption) ?_
        (try simp only [Act.put, List.getElem_toArray, List.getElem_cons_succ, List.getElem_cons_zero, List.setIfInBounds_toArray, List.set_cons_zero, List.set_cons_succ])
        refine wpAnyH_take (i := 5) (v := .pointer (some ⟨bl, 0, none⟩)) rfl (by kernel_rfl) (by kernel_rfl) (by kernel_rfl) (fun _ _ _ h => h) (.inl ⟨by kernel_rfl, fun w hw => by go_simp⟩) (by assumption) ?_
        (try simp only [Act.put, List.getElem_toArray, List.getElem_cons_succ, List.getElem_cons_zero, List.setIfInBounds_toArray, List.set_cons_zero, List.set_cons_succ])
        refine wpAnyH_take (i := 6) (v := .pointer (some ⟨bl, 0, none⟩)) rfl (by kernel_rfl) (by kernel_rfl) (by kernel_rfl) (fun _ _ _ h => h) (.inl ⟨by kernel_rfl, fun w hw => by go_simp⟩) (by assumption) ?_
        (try simp only [Act.put, List.getElem_toArray, List.getElem_cons_succ, List.getElem_cons_zero, List.setIfInBounds_toArray, List.set_cons_zero, List.set_cons_succ])
        refine wpAnyH_take (i := 7) (v := .pointer (some ⟨bl, 2, none⟩)) rfl (by kernel_rfl) (by kernel_rfl) (by kernel_rfl) (fun _ _ _ h => h) (.inl ⟨by kernel_rfl, fun w hw => by go_simp⟩) (by assumption) ?_
        (try simp only [Act.put, List.getElem_toArray, List.getElem_cons_succ, List.getElem_cons_zero, List.setIfInBounds_toArray, List.set_cons_zero, List.set_cons_succ])
        refine wpAnyH_ready (rs := [4, 8]) (by kernel_rfl) (by simp) ?_
        refine AllReadyH.cons rfl (fun K hK => ?_) ?_
        · go_simp
          refine hK.out _ _ (by assumption) (fun _ => ?_)
          clear hK K
          (try simp only [Act.put, List.getElem_toArray, List.getElem_cons_succ, List.getElem_cons_zero, List.setIfInBounds_toArray, List.set_cons_zero, List.set_cons_succ])
          refine wpAnyH_ready (rs := [8]) (by kernel_rfl) (by simp) ?_
          refine AllReadyH.cons rfl (fun K hK => ?_) ?_
          · go_simp
            refine hK.out _ _ (by assumption) (fun _ => ?_)
            clear hK K
            (try simp only [Act.put, List.getElem_toArray, List.getElem_cons_succ, List.getElem_cons_zero, List.setIfInBounds_toArray, List.set_cons_zero, List.set_cons_succ])
            refine wpAnyH_ready (rs := [9]) (by kernel_rfl) (by simp) ?_
            refine AllReadyH.cons rfl (fun K hK => ?_) ?_
            · go_simp
              refine (HC1.out).mono ?_
              rintro e w1 ⟨rfl, H1⟩
              refine hK.out _ _ H1.out.1.box (fun dd => ?_)
              clear hK K
              (try simp only [Act.put, List.getElem_toArray, List.getElem_cons_succ, List.getElem_cons_zero, List.setIfInBounds_toArray, List.set_cons_zero, List.set_cons_succ])
              refine wpAnyH_take (i := 10) (v := .bool false) rfl (by kernel_rfl) (by kernel_rfl) (by kernel_rfl) (fun _ _ _ h => h) (.inl ⟨by kernel_rfl, fun w hw => by go_simp⟩) (by assumption) ?_
              (try simp only [Act.put, List.getElem_toArray, List.getElem_cons_succ, List.getElem_cons_zero, List.setIfInBounds_toArray, List.set_cons_zero, List.set_cons_succ])
              refine wpAnyH_take (i := 11) (v := .bool false) rfl (by kernel_rfl) (by kernel_rfl) (by kernel_rfl) (fun _ _ _ h => h) (.inl ⟨by kernel_rfl, fun w hw => by go_simp⟩) (by assumption) ?_
              (try simp only [Act.put, List.getElem_toArray, List.getElem_cons_succ, List.getElem_cons_zero, List.setIfInBounds_toArray, List.set_cons_zero, List.set_cons_succ])
              refine wpAnyH_take (i := 12) (v := undef) rfl (by kernel_rfl) (by kernel_rfl) (by kernel_rfl) (fun _ _ _ h => h) (.inr ⟨by kernel_rfl, rfl⟩) (by assumption) ?_
              (try simp only [Act.put, List.getElem_toArray, List.getElem_cons_succ, List.getElem_cons_zero, List.setIfInBounds_toArray, List.set_cons_zero, List.set_cons_succ])
              refine wpAnyH_take (i := 13) (v := undef) rfl (by kernel_rfl) (by kernel_rfl) (by kernel_rfl) (fun _ _ _ h => h) (.inr ⟨by kernel_rfl, rfl⟩) (by assumption) ?_
              (try simp only [Act.put, List.getElem_toArray, List.getElem_cons_succ, List.getElem_cons_zero, List.setIfInBounds_toArray, List.set_cons_zero, List.set_cons_succ])
              refine wpAnyH_take (i := 14) (v := undef) rfl (by kernel_rfl) (by kernel_rfl) (by kernel_rfl) (fun _ _ _ h => h) (.inr ⟨by kernel_rfl, rfl⟩) (by assumption) ?_
              (try simp only [Act.put, List.getElem_toArray, List.getElem_cons_succ, List.getElem_cons_zero, List.setIfInBounds_toArray, List.set_cons_zero, List.set_cons_succ])
              refine wpAnyH_take (i := 15) (v := undef) rfl (by kernel_rfl) (by kernel_rfl) (by kernel_rfl) (fun _ _ _ h => h) (.inr ⟨by kernel_rfl, rfl⟩) (by assumption) ?_
              (try simp only [Act.put, List.getElem_toArray, List.getElem_cons_succ, List.getElem_cons_zero, List.setIfInBounds_toArray, List.set_cons_zero, List.set_cons_succ])
              refine wpAnyH_take (i := 16) (v := undef) rfl (by kernel_rfl) (by kernel_rfl) (by kernel_rfl) (fun _ _ _ h => h) (.inr ⟨by kernel_rfl, rfl⟩) (by assumption) ?_
              (try simp only [Act.put, List.getElem_toArray, List.getElem_cons_succ, List.getElem_cons_zero, List.setIfInBounds_toArray, List.set_cons_zero, List.set_cons_succ])
              refine wpAnyH_take (i := 17) (v := undef) rfl (by kernel_rfl) (by kernel_rfl) (by kernel_rfl) (fun _ _ _ h => h) (.inr ⟨by kernel_rfl, rfl⟩) (by assumption) ?_
              (try simp only [Act.put, List.getElem_toArray, List.getElem_cons_succ, List.getElem_cons_zero, List.setIfInBounds_toArray, List.set_cons_zero, List.set_cons_succ])
              refine wpAnyH_take (i := 18) (v := undef) rfl (by kernel_rfl) (by kernel_rfl) (by kernel_rfl) (fun _ _ _ h => h) (.inr ⟨by kernel_rfl, rfl⟩) (by assumption) ?_
              (try simp only [Act.put, List.getElem_toArray, List.getElem_cons_succ, List.getElem_cons_zero, List.setIfInBounds_toArray, List.set_cons_zero, List.set_cons_succ])
              refine wpAnyH_take (i := 19) (v := undef) rfl (by kernel_rfl) (by kernel_rfl) (by kernel_rfl) (fun _ _ _ h => h) (.inr ⟨by kernel_rfl, rfl⟩) (by assumption) ?_
              (try simp only [Act.put, List.getElem_toArray, List.getElem_cons_succ, List.getElem_cons_zero, List.setIfInBounds_toArray, List.set_cons_zero, List.set_cons_succ])
              refine wpAnyH_take (i := 20) (v := undef) rfl (by kernel_rfl) (by kernel_rfl) (by kernel_rfl) (fun _ _ _ h => h) (.inr ⟨by kernel_rfl, rfl⟩) (by assumption) ?_
              (try simp only [Act.put, List.getElem_toArray, List.getElem_cons_succ, List.getElem_cons_zero, List.setIfInBounds_toArray, List.set_cons_zero, List.set_cons_succ])
              refine wpAnyH_take (i := 21) (v := undef) rfl (by kernel_rfl) (by kernel_rfl) (by kernel_rfl) (fun _ _ _ h => h) (.inr ⟨by kernel_rfl, rfl⟩) (by assumption) ?_
              (try simp only [Act.put, List.getElem_toArray, List.getElem_cons_succ, List.getElem_cons_zero, List.setIfInBounds_toArray, List.set_cons_zero, List.set_cons_succ])
              refine wpAnyH_take (i := 22) (v := undef) rfl (by kernel_rfl) (by kernel_rfl) (by kernel_rfl) (fun _ _ _ h => h) (.inr ⟨by kernel_rfl, rfl⟩) (by assumption) ?_
              (try simp only [Act.put, List.getElem_toArray, List.getElem_cons_succ, List.getElem_cons_zero, List.setIfInBounds_toArray, List.set_cons_zero, List.set_cons_succ])
              refine wpAnyH_take (i := 23) (v := .bool false) rfl (by kernel_rfl) (by kernel_rfl) (by kernel_rfl) (fun _ _ _ h => h) (.inl ⟨by kernel_rfl, fun w hw => by go_simp⟩) (by assumption) ?_
              (try simp only [Act.put, List.getElem_toArray, List.getElem_cons_succ, List.getElem_cons_zero, List.setIfInBounds_toArray, List.set_cons_zero, List.set_cons_succ])
              refine wpAnyH_done (by kernel_rfl) ?_ _
              go_wp2_with fail
              go_meet
              case rel => exact ⟨rfl, H1⟩
            exact AllReadyH.nil
          exact AllReadyH.nil
        refine AllReadyH.cons rfl (fun K hK => ?_) ?_
        · go_simp
          refine hK.out _ _ (by assumption) (fun _ => ?_)
          clear hK K
          (try simp only [Act.put, List.getElem_toArray, List.getElem_cons_succ, List.getElem_cons_zero, List.setIfInBounds_toArray, List.set_cons_zero, List.set_cons_succ])
          refine wpAnyH_ready (rs := [4]) (by kernel_rfl) (by simp) ?_
          refine AllReadyH.cons rfl (fun K hK => ?_) ?_
          · go_simp
            refine hK.out _ _ (by assumption) (fun _ => ?_)
            clear hK K
            (try simp only [Act.put, List.getElem_toArray, List.getElem_cons_succ, List.getElem_cons_zero, List.setIfInBounds_toArray, List.set_cons_zero, List.set_cons_succ])
            refine wpAnyH_ready (rs := [9]) (by kernel_rfl) (by simp) ?_
            refine AllReadyH.cons rfl (fun K hK => ?_) ?_
            · go_simp
              refine (HC1.out).mono ?_
              rintro e w1 ⟨rfl, H1⟩
              refine hK.out _ _ H1.out.1.box (fun dd => ?_)
              clear hK K
              (try simp only [Act.put, List.getElem_toArray, List.getElem_cons_succ, List.getElem_cons_zero, List.setIfInBounds_toArray, List.set_cons_zero, List.set_cons_succ])
              refine wpAnyH_take (i := 10) (v := .bool false) rfl (by kernel_rfl) (by kernel_rfl) (by kernel_rfl) (fun _ _ _ h => h) (.inl ⟨by kernel_rfl, fun w hw => by go_simp⟩) (by assumption) ?_
              (try simp only [Act.put, List.getElem_toArray, List.getElem_cons_succ, List.getElem_cons_zero, List.setIfInBounds_toArray, List.set_cons_zero, List.set_cons_succ])
              refine wpAnyH_take (i := 11) (v := .bool false) rfl (by kernel_rfl) (by kernel_rfl) (by kernel_rfl) (fun _ _ _ h => h) (.inl ⟨by kernel_rfl, fun w hw => by go_simp⟩) (by assumption) ?_
              (try simp only [Act.put, List.getElem_toArray, List.getElem_cons_succ, List.getElem_cons_zero, List.setIfInBounds_toArray, List.set_cons_zero, List.set_cons_succ])
              refine wpAnyH_take (i := 12) (v := undef) rfl (by kernel_rfl) (by kernel_rfl) (by kernel_rfl) (fun _ _ _ h => h) (.inr ⟨by kernel_rfl, rfl⟩) (by assumption) ?_
              (try simp only [Act.put, List.getElem_toArray, List.getElem_cons_succ, List.getElem_cons_zero, List.setIfInBounds_toArray, List.set_cons_zero, List.set_cons_succ])
              refine wpAnyH_take (i := 13) (v := undef) rfl (by kernel_rfl) (by kernel_rfl) (by kernel_rfl) (fun _ _ _ h => h) (.inr ⟨by kernel_rfl, rfl⟩) (by assumption) ?_
              (try simp only [Act.put, List.getElem_toArray, List.getElem_cons_succ, List.getElem_cons_zero, List.setIfInBounds_toArray, List.set_cons_zero, List.set_cons_succ])
              refine wpAnyH_take (i := 14) (v := undef) rfl (by kernel_rfl) (by kernel_rfl) (by kernel_rfl) (fun _ _ _ h => h) (.inr ⟨by kernel_rfl, rfl⟩) (by assumption) ?_
              (try simp only [Act.put, List.getElem_toArray, List.getElem_cons_succ, List.getElem_cons_zero, List.setIfInBounds_toArray, List.set_cons_zero, List.set_cons_succ])
              refine wpAnyH_take (i := 15) (v := undef) rfl (by kernel_rfl) (by kernel_rfl) (by kernel_rfl) (fun _ _ _ h => h) (.inr ⟨by kernel_rfl, rfl⟩) (by assumption) ?_
              (try simp only [Act.put, List.getElem_toArray, List.getElem_cons_succ, List.getElem_cons_zero, List.setIfInBounds_toArray, List.set_cons_zero, List.set_cons_succ])
              refine wpAnyH_take (i := 16) (v := undef) rfl (by kernel_rfl) (by kernel_rfl) (by kernel_rfl) (fun _ _ _ h => h) (.inr ⟨by kernel_rfl, rfl⟩) (by assumption) ?_
              (try simp only [Act.put, List.getElem_toArray, List.getElem_cons_succ, List.getElem_cons_zero, List.setIfInBounds_toArray, List.set_cons_zero, List.set_cons_succ])
              refine wpAnyH_take (i := 17) (v := undef) rfl (by kernel_rfl) (by kernel_rfl) (by kernel_rfl) (fun _ _ _ h => h) (.inr ⟨by kernel_rfl, rfl⟩) (by assumption) ?_
              (try simp only [Act.put, List.getElem_toArray, List.getElem_cons_succ, List.getElem_cons_zero, List.setIfInBounds_toArray, List.set_cons_zero, List.set_cons_succ])
              refine wpAnyH_take (i := 18) (v := undef) rfl (by kernel_rfl) (by kernel_rfl) (by kernel_rfl) (fun _ _ _ h => h) (.inr ⟨by kernel_rfl, rfl⟩) (by assumption) ?_
              (try simp only [Act.put, List.getElem_toArray, List.getElem_cons_succ, List.getElem_cons_zero, List.setIfInBounds_toArray, List.set_cons_zero, List.set_cons_succ])
              refine wpAnyH_take (i := 19) (v := undef) rfl (by kernel_rfl) (by kernel_rfl) (by kernel_rfl) (fun _ _ _ h => h) (.inr ⟨by kernel_rfl, rfl⟩) (by assumption) ?_
              (try simp only [Act.put, List.getElem_toArray, List.getElem_cons_succ, List.getElem_cons_zero, List.setIfInBounds_toArray, List.set_cons_zero, List.set_cons_succ])
              refine wpAnyH_take (i := 20) (v := undef) rfl (by kernel_rfl) (by kernel_rfl) (by kernel_rfl) (fun _ _ _ h => h) (.inr ⟨by kernel_rfl, rfl⟩) (by assumption) ?_
              (try simp only [Act.put, List.getElem_toArray, List.getElem_cons_succ, List.getElem_cons_zero, List.setIfInBounds_toArray, List.set_cons_zero, List.set_cons_succ])
              refine wpAnyH_take (i := 21) (v := undef) rfl (by kernel_rfl) (by kernel_rfl) (by kernel_rfl) (fun _ _ _ h => h) (.inr ⟨by kernel_rfl, rfl⟩) (by assumption) ?_
              (try simp only [Act.put, List.getElem_toArray, List.getElem_cons_succ, List.getElem_cons_zero, List.setIfInBounds_toArray, List.set_cons_zero, List.set_cons_succ])
              refine wpAnyH_take (i := 22) (v := undef) rfl (by kernel_rfl) (by kernel_rfl) (by kernel_rfl) (fun _ _ _ h => h) (.inr ⟨by kernel_rfl, rfl⟩) (by assumption) ?_
              (try simp only [Act.put, List.getElem_toArray, List.getElem_cons_succ, List.getElem_cons_zero, List.setIfInBounds_toArray, List.set_cons_zero, List.set_cons_succ])
              refine wpAnyH_take (i := 23) (v := .bool false) rfl (by kernel_rfl) (by kernel_rfl) (by kernel_rfl) (fun _ _ _ h => h) (.inl ⟨by kernel_rfl, fun w hw => by go_simp⟩) (by assumption) ?_
              (try simp only [Act.put, List.getElem_toArray, List.getElem_cons_succ, List.getElem_cons_zero, List.setIfInBounds_toArray, List.set_cons_zero, List.set_cons_succ])
              refine wpAnyH_done (by kernel_rfl) ?_ _
              go_wp2_with fail
              go_meet
              case rel => exact ⟨rfl, H1⟩
            exact AllReadyH.nil
          exact AllReadyH.nil
        exact AllReadyH.nil
      case rest =>
        obtain ⟨rfl, H1⟩ := hcut
        go_wp2_with fail
        go_roundg (T - (Pl.cnt (pre.take j) + (i + 1)))
        case measure => omega
        case rel => exact ⟨j, i + 1, ds, hj, by omega, by omega, Lib.hid ⟨HDS.out, fun h => by omega, H1.out⟩⟩
    · obtain rfl : i = ds.length := by omega
      have HHC : Hid (Pl.stands (mdT s) (lo + j) a = none ∨ (0 < Pl.cnt (pre.take j) + ds.length ∧ ∀ m x kk, Pl.stands (mdT s) (lo + j) a = some (m, x, kk) → m ≠ nn + (Pl.cnt (pre.take j) + ds.length))) := Lib.hid (by
        have ha' := HAA.out
        rw [List.take_length] at ha'
        by_cases hjp : j < pre.length
        · have hjd : pre[j]? = some ds := by have := HDS.out; rwa [List.getElem?_append_left hjp] at this
          have hne : ds ≠ [] := Pl.seg_some (HINV.out.full.seg j ds hjd).2.1
          have hpos : 0 < ds.length := List.length_pos_iff.2 hne
          refine .inr ⟨by omega, fun m x kk hs => ?_⟩
          rw [ha'] at hs
          have := (HINV.out.edge j ds hjd).1 m x kk hs
          rw [Pl.cnt_take_succ hjd] at this
          omega
        · obtain rfl : j = pre.length := by omega
          have hdc : ds = cur := by have := HDS.out; rw [List.getElem?_append_right (Nat.le_refl _)] at this; simpa using this.symm
          subst hdc
          rw [List.take_length] at ha'
          by_cases hc : ds = []
          · have hp : pre = [] := by
              cases pre with
              | nil => rfl
              | cons x y => exact absurd hc (HINV.out.some_ (by simp))
            subst hc hp
            left
            have hl := (HINV.out.none_ rfl rfl).1
            have := HINV.out.bare
            subst hl
            rw [ha']
            simpa [Pl.segL] using this
          · have hpos : 0 < ds.length := List.length_pos_iff.2 hc
            refine .inr ⟨by omega, fun m x kk hs => ?_⟩
            rw [ha'] at hs
            have := HINV.out.tail.1 m x kk hs
            rw [List.take_length]
            omega)
      have HC1 : Hid (Calls Try.prog 30 #[.int .i64 ((lo : Int) + (j : Int)), .int .i64 (a : Int), .pointer (some ⟨w.heap.size, 0, none⟩), .pointer (some ⟨w.heap.size + 1, 0, none⟩)] wq.drew fun e w' =>
          e = .returned (.bool false) ∧ Hid (FI w' X b n s bl bm lo nn w.heap.size (w.heap.size + 1) (w.heap.size + 2) (pre.take j) (ds.take ds.length) (Pl.cnt (pre.take j) + ds.length) ∧ Only (fun q => q = bl ∨ q = bm) w w')) := Lib.hid (by
        have hle : a ≤ 16 := by
          have h1 := (HINV.out.segs j ds HDS.out).le
          rw [show (pre ++ [cur]).take j = pre.take j from List.take_append_of_le_length hj] at h1
          have ha' := HAA.out
          rw [List.take_length] at ha'
          omega
        have := HFQ.out.no HOFF.out (lo + j) a (by omega) hle HHC.out
        exact this.mono fun e w' ⟨h1, h2⟩ => ⟨h1, Lib.hid ⟨HFQ.out.below h2, HOQ.out.tr (Only.below h2)⟩⟩)
      by_cases hi0 : ds.length = 0
      · -- nothing at all
        have hbf : bg = false := by rw [HBB.out]; simp [hi0]
        subst hbf
        have HE : Hid (j = pre.length ∧ ds = cur) := Lib.hid (by
          have hj0 := HIJ.out hi0
          by_cases hjp : j < pre.length
          · have hjd : pre[j]? = some ds := by have := HDS.out; rwa [List.getElem?_append_left hjp] at this
            have hne : ds ≠ [] := Pl.seg_some (HINV.out.full.seg j ds hjd).2.1
            exact absurd (List.length_eq_zero_iff.1 hi0) hne
          · obtain rfl : j = pre.length := by omega
            exact ⟨rfl, by have := HDS.out; rw [List.getElem?_append_right (Nat.le_refl _)] at this; simpa using this.symm⟩)
        have HI0 := Lib.hid hi0
        clear hi0
        go_cut [43] from 8 to 44 (fun v43 wx => v43 = .bool true ∧ Hid (FI wx X b n s bl bm lo nn w.heap.size (w.heap.size + 1) (w.heap.size + 2) (pre.take j) (ds.take ds.length) (Pl.cnt (pre.take j) + ds.length) ∧ Only (fun q => q = bl ∨ q = bm) w wx))
        case first =>
          refine wp_region_held_drew (S := (fun w' => w'.cell? ⟨w.heap.size, 0, none⟩ = some (.pointer (some ⟨bl, 0, none⟩)))) (by kernel_rfl) (by exact d1) (fun dd0 => ?_)
          refine wpAnyH_take (i := 0) (v := .func (.func 30) #[] #[.pointer (some ⟨w.heap.size, 0, none⟩), .pointer (some ⟨w.heap.size + 1, 0, none⟩)]) rfl (by kernel_rfl) (by kernel_rfl) (by kernel_rfl) (fun _ _ _ h => h) (.inl ⟨by kernel_rfl, fun w hw => by go_simp⟩) (by assumption) ?_
          (try simp only [Act.put, List.getElem_toArray, List.getElem_cons_zero, List.setIfInBounds_toArray, List.set_cons_zero, List.set_cons_succ])
          refine wpAnyH_take (i := 1) (v := .pointer (some ⟨bl, 0, none⟩)) rfl (by kernel_rfl) (by kernel_rfl) (by kernel_rfl) (fun _ _ _ h => h) (.inl ⟨by kernel_rfl, fun w hw => by go_simp⟩) (by assumption) ?_
          (try simp only [Act.put, List.getElem_toArray, List.getElem_cons_succ, List.getElem_cons_zero, List.setIfInBounds_toArray, List.set_cons_zero, List.set_cons_succ])
          refine wpAnyH_take (i := 2) (v := .pointer (some ⟨bl, 0, none⟩)) rfl (by kernel_rfl) (by kernel_rfl) (by kernel_rfl) (fun _ _ _ h => h) (.inl ⟨by kernel_rfl, fun w hw => by go_simp⟩) (by assumption) ?_
          (try simp only [Act.put, List.getElem_toArray, List.getElem_cons_succ, List.getElem_cons_zero, List.setIfInBounds_toArray, List.set_cons_zero, List.set_cons_succ])
          refine wpAnyH_take (i := 3) (v := .pointer (some ⟨bl, 1, none⟩)) rfl (by kernel_rfl) (by kernel_rfl) (by kernel_rfl) (fun _ _ _ h => h) (.inl ⟨by kernel_rfl, fun w hw => by go_simp⟩) (by assumption) ?_
          (try simp only [Act.put, List.getElem_toArray, List.getElem_cons_succ, List.getElem_cons_zero, List.setIfInBounds_toArray, List.set_cons_zero, List.set_cons_succ])
          refine wpAnyH_take (i := 5) (v := .pointer (some ⟨bl, 0, none⟩)) rfl (by kernel_rfl) (by kernel_rfl) (by kernel_rfl) (fun _ _ _ h => h) (.inl ⟨by kernel_rfl, fun w hw => by go_simp⟩) (by assumption) ?_
          (try simp only [Act.put, List.getElem_toArray, List.getElem_cons_succ, List.getElem_cons_zero, List.setIfInBounds_toArray, List.set_cons_zero, List.set_cons_succ])
          refine wpAnyH_take (i := 6) (v := .pointer (some ⟨bl, 0, none⟩)) rfl (by kernel_rfl) (by kernel_rfl) (by kernel_rfl) (fun _ _ _ h => h) (.inl ⟨by kernel_rfl, fun w hw => by go_simp⟩) (by assumption) ?_
          (try simp only [Act.put, List.getElem_toArray, List.getElem_cons_succ, List.getElem_cons_zero, List.setIfInBounds_toArray, List.set_cons_zero, List.set_cons_succ])
          refine wpAnyH_take (i := 7) (v := .pointer (some ⟨bl, 2, none⟩)) rfl (by kernel_rfl) (by kernel_rfl) (by kernel_rfl) (fun _ _ _ h => h) (.inl ⟨by kernel_rfl, fun w hw => by go_simp⟩) (by assumption) ?_
          (try simp only [Act.put, List.getElem_toArray, List.getElem_cons_succ, List.getElem_cons_zero, List.setIfInBounds_toArray, List.set_cons_zero, List.set_cons_succ])
          refine wpAnyH_ready (rs := [4, 8]) (by kernel_rfl) (by simp) ?_
          refine AllReadyH.cons rfl (fun K hK => ?_) ?_
          · go_simp
            refine hK.out _ _ (by assumption) (fun _ => ?_)
            clear hK K
            (try simp only [Act.put, List.getElem_toArray, List.getElem_cons_succ, List.getElem_cons_zero, List.setIfInBounds_toArray, List.set_cons_zero, List.set_cons_succ])
            refine wpAnyH_ready (rs := [8]) (by kernel_rfl) (by simp) ?_
            refine AllReadyH.cons rfl (fun K hK => ?_) ?_
            · go_simp
              refine hK.out _ _ (by assumption) (fun _ => ?_)
              clear hK K
              (try simp only [Act.put, List.getElem_toArray, List.getElem_cons_succ, List.getElem_cons_zero, List.setIfInBounds_toArray, List.set_cons_zero, List.set_cons_succ])
              refine wpAnyH_ready (rs := [9]) (by kernel_rfl) (by simp) ?_
              refine AllReadyH.cons rfl (fun K hK => ?_) ?_
              · go_simp
                refine (HC1.out).mono ?_
                rintro e w1 ⟨rfl, H1⟩
                refine hK.out _ _ H1.out.1.box (fun dd => ?_)
                clear hK K
                (try simp only [Act.put, List.getElem_toArray, List.getElem_cons_succ, List.getElem_cons_zero, List.setIfInBounds_toArray, List.set_cons_zero, List.set_cons_succ])
                refine wpAnyH_take (i := 10) (v := .bool true) rfl (by kernel_rfl) (by kernel_rfl) (by kernel_rfl) (fun _ _ _ h => h) (.inl ⟨by kernel_rfl, fun w hw => by go_simp⟩) (by assumption) ?_
                (try simp only [Act.put, List.getElem_toArray, List.getElem_cons_succ, List.getElem_cons_zero, List.setIfInBounds_toArray, List.set_cons_zero, List.set_cons_succ])
                refine wpAnyH_take (i := 11) (v := .bool true) rfl (by kernel_rfl) (by kernel_rfl) (by kernel_rfl) (fun _ _ _ h => h) (.inl ⟨by kernel_rfl, fun w hw => by go_simp⟩) (by assumption) ?_
                (try simp only [Act.put, List.getElem_toArray, List.getElem_cons_succ, List.getElem_cons_zero, List.setIfInBounds_toArray, List.set_cons_zero, List.set_cons_succ])
                refine wpAnyH_take (i := 12) (v := .bool false) rfl (by kernel_rfl) (by kernel_rfl) (by kernel_rfl) (fun _ _ _ h => h) (.inl ⟨by kernel_rfl, fun w hw => by go_simp⟩) (by assumption) ?_
                (try simp only [Act.put, List.getElem_toArray, List.getElem_cons_succ, List.getElem_cons_zero, List.setIfInBounds_toArray, List.set_cons_zero, List.set_cons_succ])
                refine wpAnyH_take (i := 13) (v := .bool false) rfl (by kernel_rfl) (by kernel_rfl) (by kernel_rfl) (fun _ _ _ h => h) (.inl ⟨by kernel_rfl, fun w hw => by go_simp⟩) (by assumption) ?_
                (try simp only [Act.put, List.getElem_toArray, List.getElem_cons_succ, List.getElem_cons_zero, List.setIfInBounds_toArray, List.set_cons_zero, List.set_cons_succ])
                refine wpAnyH_take (i := 14) (v := undef) rfl (by kernel_rfl) (by kernel_rfl) (by kernel_rfl) (fun _ _ _ h => h) (.inr ⟨by kernel_rfl, rfl⟩) (by assumption) ?_
                (try simp only [Act.put, List.getElem_toArray, List.getElem_cons_succ, List.getElem_cons_zero, List.setIfInBounds_toArray, List.set_cons_zero, List.set_cons_succ])
                refine wpAnyH_take (i := 15) (v := undef) rfl (by kernel_rfl) (by kernel_rfl) (by kernel_rfl) (fun _ _ _ h => h) (.inr ⟨by kernel_rfl, rfl⟩) (by assumption) ?_
                (try simp only [Act.put, List.getElem_toArray, List.getElem_cons_succ, List.getElem_cons_zero, List.setIfInBounds_toArray, List.set_cons_zero, List.set_cons_succ])
                refine wpAnyH_take (i := 16) (v := undef) rfl (by kernel_rfl) (by kernel_rfl) (by kernel_rfl) (fun _ _ _ h => h) (.inr ⟨by kernel_rfl, rfl⟩) (by assumption) ?_
                (try simp only [Act.put, List.getElem_toArray, List.getElem_cons_succ, List.getElem_cons_zero, List.setIfInBounds_toArray, List.set_cons_zero, List.set_cons_succ])
                refine wpAnyH_take (i := 17) (v := undef) rfl (by kernel_rfl) (by kernel_rfl) (by kernel_rfl) (fun _ _ _ h => h) (.inr ⟨by kernel_rfl, rfl⟩) (by assumption) ?_
                (try simp only [Act.put, List.getElem_toArray, List.getElem_cons_succ, List.getElem_cons_zero, List.setIfInBounds_toArray, List.set_cons_zero, List.set_cons_succ])
                refine wpAnyH_take (i := 18) (v := undef) rfl (by kernel_rfl) (by kernel_rfl) (by kernel_rfl) (fun _ _ _ h => h) (.inr ⟨by kernel_rfl, rfl⟩) (by assumption) ?_
                (try simp only [Act.put, List.getElem_toArray, List.getElem_cons_succ, List.getElem_cons_zero, List.setIfInBounds_toArray, List.set_cons_zero, List.set_cons_succ])
                refine wpAnyH_take (i := 19) (v := undef) rfl (by kernel_rfl) (by kernel_rfl) (by kernel_rfl) (fun _ _ _ h => h) (.inr ⟨by kernel_rfl, rfl⟩) (by assumption) ?_
                (try simp only [Act.put, List.getElem_toArray, List.getElem_cons_succ, List.getElem_cons_zero, List.setIfInBounds_toArray, List.set_cons_zero, List.set_cons_succ])
                refine wpAnyH_take (i := 20) (v := undef) rfl (by kernel_rfl) (by kernel_rfl) (by kernel_rfl) (fun _ _ _ h => h) (.inr ⟨by kernel_rfl, rfl⟩) (by assumption) ?_
                (try simp only [Act.put, List.getElem_toArray, List.getElem_cons_succ, List.getElem_cons_zero, List.setIfInBounds_toArray, List.set_cons_zero, List.set_cons_succ])
                refine wpAnyH_take (i := 21) (v := .bool false) rfl (by kernel_rfl) (by kernel_rfl) (by kernel_rfl) (fun _ _ _ h => h) (.inl ⟨by kernel_rfl, fun w hw => by go_simp⟩) (by assumption) ?_
                (try simp only [Act.put, List.getElem_toArray, List.getElem_cons_succ, List.getElem_cons_zero, List.setIfInBounds_toArray, List.set_cons_zero, List.set_cons_succ])
                refine wpAnyH_take (i := 22) (v := .bool true) rfl (by kernel_rfl) (by kernel_rfl) (by kernel_rfl) (fun _ _ _ h => h) (.inl ⟨by kernel_rfl, fun w hw => by go_simp⟩) (by assumption) ?_
                (try simp only [Act.put, List.getElem_toArray, List.getElem_cons_succ, List.getElem_cons_zero, List.setIfInBounds_toArray, List.set_cons_zero, List.set_cons_succ])
                refine wpAnyH_take (i := 23) (v := .bool true) rfl (by kernel_rfl) (by kernel_rfl) (by kernel_rfl) (fun _ _ _ h => h) (.inl ⟨by kernel_rfl, fun w hw => by go_simp⟩) (by assumption) ?_
                (try simp only [Act.put, List.getElem_toArray, List.getElem_cons_succ, List.getElem_cons_zero, List.setIfInBounds_toArray, List.set_cons_zero, List.set_cons_succ])
                refine wpAnyH_done (by kernel_rfl) ?_ _
                go_wp2_with fail
                go_meet
                case rel => exact ⟨rfl, H1⟩
              exact AllReadyH.nil
            exact AllReadyH.nil
          refine AllReadyH.cons rfl (fun K hK => ?_) ?_
          · go_simp
            refine hK.out _ _ (by assumption) (fun _ => ?_)
            clear hK K
            (try simp only [Act.put, List.getElem_toArray, List.getElem_cons_succ, List.getElem_cons_zero, List.setIfInBounds_toArray, List.set_cons_zero, List.set_cons_succ])
            refine wpAnyH_ready (rs := [4]) (by kernel_rfl) (by simp) ?_
            refine AllReadyH.cons rfl (fun K hK => ?_) ?_
            · go_simp
              refine hK.out _ _ (by assumption) (fun _ => ?_)
              clear hK K
              (try simp only [Act.put, List.getElem_toArray, List.getElem_cons_succ, List.getElem_cons_zero, List.setIfInBounds_toArray, List.set_cons_zero, List.set_cons_succ])
              refine wpAnyH_ready (rs := [9]) (by kernel_rfl) (by simp) ?_
              refine AllReadyH.cons rfl (fun K hK => ?_) ?_
              · go_simp
                refine (HC1.out).mono ?_
                rintro e w1 ⟨rfl, H1⟩
                refine hK.out _ _ H1.out.1.box (fun dd => ?_)
                clear hK K
                (try simp only [Act.put, List.getElem_toArray, List.getElem_cons_succ, List.getElem_cons_zero, List.setIfInBounds_toArray, List.set_cons_zero, List.set_cons_succ])
                refine wpAnyH_take (i := 10) (v := .bool true) rfl (by kernel_rfl) (by kernel_rfl) (by kernel_rfl) (fun _ _ _ h => h) (.inl ⟨by kernel_rfl, fun w hw => by go_simp⟩) (by assumption) ?_
                (try simp only [Act.put, List.getElem_toArray, List.getElem_cons_succ, List.getElem_cons_zero, List.setIfInBounds_toArray, List.set_cons_zero, List.set_cons_succ])
                refine wpAnyH_take (i := 11) (v := .bool true) rfl (by kernel_rfl) (by kernel_rfl) (by kernel_rfl) (fun _ _ _ h => h) (.inl ⟨by kernel_rfl, fun w hw => by go_simp⟩) (by assumption) ?_
                (try simp only [Act.put, List.getElem_toArray, List.getElem_cons_succ, List.getElem_cons_zero, List.setIfInBounds_toArray, List.set_cons_zero, List.set_cons_succ])
                refine wpAnyH_take (i := 12) (v := .bool false) rfl (by kernel_rfl) (by kernel_rfl) (by kernel_rfl) (fun _ _ _ h => h) (.inl ⟨by kernel_rfl, fun w hw => by go_simp⟩) (by assumption) ?_
                (try simp only [Act.put, List.getElem_toArray, List.getElem_cons_succ, List.getElem_cons_zero, List.setIfInBounds_toArray, List.set_cons_zero, List.set_cons_succ])
                refine wpAnyH_take (i := 13) (v := .bool false) rfl (by kernel_rfl) (by kernel_rfl) (by kernel_rfl) (fun _ _ _ h => h) (.inl ⟨by kernel_rfl, fun w hw => by go_simp⟩) (by assumption) ?_
                (try simp only [Act.put, List.getElem_toArray, List.getElem_cons_succ, List.getElem_cons_zero, List.setIfInBounds_toArray, List.set_cons_zero, List.set_cons_succ])
                refine wpAnyH_take (i := 14) (v := undef) rfl (by kernel_rfl) (by kernel_rfl) (by kernel_rfl) (fun _ _ _ h => h) (.inr ⟨by kernel_rfl, rfl⟩) (by assumption) ?_
                (try simp only [Act.put, List.getElem_toArray, List.getElem_cons_succ, List.getElem_cons_zero, List.setIfInBounds_toArray, List.set_cons_zero, List.set_cons_succ])
                refine wpAnyH_take (i := 15) (v := undef) rfl (by kernel_rfl) (by kernel_rfl) (by kernel_rfl) (fun _ _ _ h => h) (.inr ⟨by kernel_rfl, rfl⟩) (by assumption) ?_
                (try simp only [Act.put, List.getElem_toArray, List.getElem_cons_succ, List.getElem_cons_zero, List.setIfInBounds_toArray, List.set_cons_zero, List.set_cons_succ])
                refine wpAnyH_take (i := 16) (v := undef) rfl (by kernel_rfl) (by kernel_rfl) (by kernel_rfl) (fun _ _ _ h => h) (.inr ⟨by kernel_rfl, rfl⟩) (by assumption) ?_
                (try simp only [Act.put, List.getElem_toArray, List.getElem_cons_succ, List.getElem_cons_zero, List.setIfInBounds_toArray, List.set_cons_zero, List.set_cons_succ])
                refine wpAnyH_take (i := 17) (v := undef) rfl (by kernel_rfl) (by kernel_rfl) (by kernel_rfl) (fun _ _ _ h => h) (.inr ⟨by kernel_rfl, rfl⟩) (by assumption) ?_
                (try simp only [Act.put, List.getElem_toArray, List.getElem_cons_succ, List.getElem_cons_zero, List.setIfInBounds_toArray, List.set_cons_zero, List.set_cons_succ])
                refine wpAnyH_take (i := 18) (v := undef) rfl (by kernel_rfl) (by kernel_rfl) (by kernel_rfl) (fun _ _ _ h => h) (.inr ⟨by kernel_rfl, rfl⟩) (by assumption) ?_
                (try simp only [Act.put, List.getElem_toArray, List.getElem_cons_succ, List.getElem_cons_zero, List.setIfInBounds_toArray, List.set_cons_zero, List.set_cons_succ])
                refine wpAnyH_take (i := 19) (v := undef) rfl (by kernel_rfl) (by kernel_rfl) (by kernel_rfl) (fun _ _ _ h => h) (.inr ⟨by kernel_rfl, rfl⟩) (by assumption) ?_
                (try simp only [Act.put, List.getElem_toArray, List.getElem_cons_succ, List.getElem_cons_zero, List.setIfInBounds_toArray, List.set_cons_zero, List.set_cons_succ])
                refine wpAnyH_take (i := 20) (v := undef) rfl (by kernel_rfl) (by kernel_rfl) (by kernel_rfl) (fun _ _ _ h => h) (.inr ⟨by kernel_rfl, rfl⟩) (by assumption) ?_
                (try simp only [Act.put, List.getElem_toArray, List.getElem_cons_succ, List.getElem_cons_zero, List.setIfInBounds_toArray, List.set_cons_zero, List.set_cons_succ])
                refine wpAnyH_take (i := 21) (v := .bool false) rfl (by kernel_rfl) (by kernel_rfl) (by kernel_rfl) (fun _ _ _ h => h) (.inl ⟨by kernel_rfl, fun w hw => by go_simp⟩) (by assumption) ?_
                (try simp only [Act.put, List.getElem_toArray, List.getElem_cons_succ, List.getElem_cons_zero, List.setIfInBounds_toArray, List.set_cons_zero, List.set_cons_succ])
                refine wpAnyH_take (i := 22) (v := .bool true) rfl (by kernel_rfl) (by kernel_rfl) (by kernel_rfl) (fun _ _ _ h => h) (.inl ⟨by kernel_rfl, fun w hw => by go_simp⟩) (by assumption) ?_
                (try simp only [Act.put, List.getElem_toArray, List.getElem_cons_succ, List.getElem_cons_zero, List.setIfInBounds_toArray, List.set_cons_zero, List.set_cons_succ])
                refine wpAnyH_take (i := 23) (v := .bool true) rfl (by kernel_rfl) (by kernel_rfl) (by kernel_rfl) (fun _ _ _ h => h) (.inl ⟨by kernel_rfl, fun w hw => by go_simp⟩) (by assumption) ?_
                (try simp only [Act.put, List.getElem_toArray, List.getElem_cons_succ, List.getElem_cons_zero, List.setIfInBounds_toArray, List.set_cons_zero, List.set_cons_succ])
                refine wpAnyH_done (by kernel_rfl) ?_ _
                go_wp2_with fail
                go_meet
                case rel => exact ⟨rfl, H1⟩
              exact AllReadyH.nil
            exact AllReadyH.nil
          exact AllReadyH.nil
        case rest =>
          obtain ⟨rfl, H1⟩ := hcut
          obtain ⟨H1a, H1b⟩ := H1.out
          obtain ⟨rfl, rfl⟩ := HE.out
          rw [List.take_length, List.take_length] at H1a
          obtain ⟨A', cp', hc3, hcp, hkl, hrd, hmm, hlo⟩ := H1a.final (fun hk => by
            have hp : pre = [] := by
              cases pre with
              | nil => rfl
              | cons x y =>
                have := HINV.out.some_ (by simp)
                have : 0 < ds.length := List.length_pos_iff.2 this
                omega
            subst hp
            have hc : ds = [] := List.length_eq_zero_iff.1 (by omega)
            exact (HINV.out.none_ rfl hc).2.1)
          have HP := Lib.hid (show FindPost X b n s bl bm lo nn pre ds w (.returned (.slice A' (Pl.cnt pre + ds.length) cp')) wc from ⟨A', _, cp', rfl, hkl, hcp, hrd, hmm, hlo, H1b⟩)
          clear hcp hkl hrd hmm hlo H1a H1b H1
          go_wp2_with fail
          go_ret
          exact HP.out
      · have hbf : bg = true := by rw [HBB.out]; simp [hi0]
        subst hbf
        have HI0 := Lib.hid hi0
        clear hi0
        by_cases hjp : j < pre.length
        · -- the first of the next segment
          obtain ⟨d, r, hdr, hst, hp16⟩ := (HINV.out.edge j ds (by have := HDS.out; rwa [List.getElem?_append_left hjp] at this)).2
          have hjd : pre[j]? = some ds := by have := HDS.out; rwa [List.getElem?_append_left hjp] at this
          have hct := Pl.cnt_take_succ hjd
          have htk : pre.take (j + 1) = pre.take j ++ [ds] := by
            rw [List.take_succ_eq_append_getElem hjp]
            congr 2
            exact (List.getElem?_eq_some_iff.1 hjd).2
          have hcb2 : Pl.cnt (pre.take j) + ds.length + 1 ≤ T := by
            have h1 := Pl.cnt_take_le (pre ++ [cur]) (j + 1 + 1)
            rw [Pl.cnt_take_succ hdr, List.take_append_of_le_length (show j + 1 ≤ pre.length from hjp), hct, Pl.cnt_snoc, ← HT.out] at h1
            simp only [List.length_cons] at h1
            omega
          have HC2 : Hid (∀ w1, Hid (FI w1 X b n s bl bm lo nn w.heap.size (w.heap.size + 1) (w.heap.size + 2) (pre.take j) (ds.take ds.length) (Pl.cnt (pre.take j) + ds.length) ∧ Only (fun q => q = bl ∨ q = bm) w w1) →
              Calls Try.prog 30 #[.int .i64 ((lo : Int) + (j : Int) + 1), .int .i64 0, .pointer (some ⟨w.heap.size, 0, none⟩), .pointer (some ⟨w.heap.size + 1, 0, none⟩)] w1 fun e w' =>
                e = .returned (.bool true) ∧ Hid (FI w' X b n s bl bm lo nn w.heap.size (w.heap.size + 1) (w.heap.size + 2) (pre.take (j + 1)) [d] (Pl.cnt (pre.take j) + ds.length + 1) ∧ Only (fun q => q = bl ∨ q = bm) w w')) := Lib.hid (fun w1 H1 => by
            obtain ⟨h1, h2⟩ := H1.out
            rw [List.take_length] at h1
            have hT' := HT.out
            have := h1.next HOFF.out d (by rw [HLEN.out]; omega) (by omega) (by have := HI0.out; omega) hp16 (by omega) (by rw [HLEN.out, ← Nat.add_assoc nn, show nn + (Pl.cnt (pre.take j)) + ds.length = nn + Pl.cnt (pre.take (j + 1)) from by omega]; exact hst)
            rw [HLEN.out, ← htk] at this
            exact this.mono fun e w' ⟨g1, g2, g3⟩ => ⟨g1, Lib.hid ⟨g2, h2.trans g3 (fun _ x => x) (fun q hq hlt => by have := h2.size; rcases hq with h | h | h | h <;> first | exact .inl h | exact .inr h | omega)⟩⟩)
          have HBX : Hid (∀ w', Hid (FI w' X b n s bl bm lo nn w.heap.size (w.heap.size + 1) (w.heap.size + 2) (pre.take (j + 1)) [d] (Pl.cnt (pre.take j) + ds.length + 1) ∧ Only (fun q => q = bl ∨ q = bm) w w') → w'.cell? ⟨w.heap.size, 0, none⟩ = some (.pointer (some ⟨bl, 0, none⟩))) := Lib.hid (fun w' h => h.out.1.box)
          have HDR := Lib.hid hdr
          have HCT := Lib.hid hct
          clear hdr hst hjd hct htk
          go_cut [43] from 8 to 44 (fun v43 wx => v43 = .bool (!true) ∧ Hid (FI wx X b n s bl bm lo nn w.heap.size (w.heap.size + 1) (w.heap.size + 2) (pre.take (j + 1)) [d] (Pl.cnt (pre.take j) + ds.length + 1) ∧ Only (fun q => q = bl ∨ q = bm) w wx))
          case first =>
            refine wp_region_held_drew (S := (fun w' => w'.cell? ⟨w.heap.size, 0, none⟩ = some (.pointer (some ⟨bl, 0, none⟩)))) (by kernel_rfl) (by exact d1) (fun dd0 => ?_)
            refine wpAnyH_take (i := 0) (v := .func (.func 30) #[] #[.pointer (some ⟨w.heap.size, 0, none⟩), .pointer (some ⟨w.heap.size + 1, 0, none⟩)]) rfl (by kernel_rfl) (by kernel_rfl) (by kernel_rfl) (fun _ _ _ h => h) (.inl ⟨by kernel_rfl, fun w hw => by go_simp⟩) (by assumption) ?_
            (try simp only [Act.put, List.getElem_toArray, List.getElem_cons_zero, List.setIfInBounds_toArray, List.set_cons_zero, List.set_cons_succ])
            refine wpAnyH_take (i := 1) (v := .pointer (some ⟨bl, 0, none⟩)) rfl (by kernel_rfl) (by kernel_rfl) (by kernel_rfl) (fun _ _ _ h => h) (.inl ⟨by kernel_rfl, fun w hw => by go_simp⟩) (by assumption) ?_
            (try simp only [Act.put, List.getElem_toArray, List.getElem_cons_succ, List.getElem_cons_zero, List.setIfInBounds_toArray, List.set_cons_zero, List.set_cons_succ])
            refine wpAnyH_take (i := 2) (v := .pointer (some ⟨bl, 0, none⟩)) rfl (by kernel_rfl) (by kernel_rfl) (by kernel_rfl) (fun _ _ _ h => h) (.inl ⟨by kernel_rfl, fun w hw => by go_simp⟩) (by assumption) ?_
            (try simp only [Act.put, List.getElem_toArray, List.getElem_cons_succ, List.getElem_cons_zero, List.setIfInBounds_toArray, List.set_cons_zero, List.set_cons_succ])
            refine wpAnyH_take (i := 3) (v := .pointer (some ⟨bl, 1, none⟩)) rfl (by kernel_rfl) (by kernel_rfl) (by kernel_rfl) (fun _ _ _ h => h) (.inl ⟨by kernel_rfl, fun w hw => by go_simp⟩) (by assumption) ?_
            (try simp only [Act.put, List.getElem_toArray, List.getElem_cons_succ, List.getElem_cons_zero, List.setIfInBounds_toArray, List.set_cons_zero, List.set_cons_succ])
            refine wpAnyH_take (i := 5) (v := .pointer (some ⟨bl, 0, none⟩)) rfl (by kernel_rfl) (by kernel_rfl) (by kernel_rfl) (fun _ _ _ h => h) (.inl ⟨by kernel_rfl, fun w hw => by go_simp⟩) (by assumption) ?_
            (try simp only [Act.put, List.getElem_toArray, List.getElem_cons_succ, List.getElem_cons_zero, List.setIfInBounds_toArray, List.set_cons_zero, List.set_cons_succ])
            refine wpAnyH_take (i := 6) (v := .pointer (some ⟨bl, 0, none⟩)) rfl (by kernel_rfl) (by kernel_rfl) (by kernel_rfl) (fun _ _ _ h => h) (.inl ⟨by kernel_rfl, fun w hw => by go_simp⟩) (by assumption) ?_
            (try simp only [Act.put, List.getElem_toArray, List.getElem_cons_succ, List.getElem_cons_zero, List.setIfInBounds_toArray, List.set_cons_zero, List.set_cons_succ])
            refine wpAnyH_take (i := 7) (v := .pointer (some ⟨bl, 2, none⟩)) rfl (by kernel_rfl) (by kernel_rfl) (by kernel_rfl) (fun _ _ _ h => h) (.inl ⟨by kernel_rfl, fun w hw => by go_simp⟩) (by assumption) ?_
            (try simp only [Act.put, List.getElem_toArray, List.getElem_cons_succ, List.getElem_cons_zero, List.setIfInBounds_toArray, List.set_cons_zero, List.set_cons_succ])
            refine wpAnyH_ready (rs := [4, 8]) (by kernel_rfl) (by simp) ?_
            refine AllReadyH.cons rfl (fun K hK => ?_) ?_
            · go_simp
              refine hK.out _ _ (by assumption) (fun _ => ?_)
              clear hK K
              (try simp only [Act.put, List.getElem_toArray, List.getElem_cons_succ, List.getElem_cons_zero, List.setIfInBounds_toArray, List.set_cons_zero, List.set_cons_succ])
              refine wpAnyH_ready (rs := [8]) (by kernel_rfl) (by simp) ?_
              refine AllReadyH.cons rfl (fun K hK => ?_) ?_
              · go_simp
                refine hK.out _ _ (by assumption) (fun _ => ?_)
                clear hK K
                (try simp only [Act.put, List.getElem_toArray, List.getElem_cons_succ, List.getElem_cons_zero, List.setIfInBounds_toArray, List.set_cons_zero, List.set_cons_succ])
                refine wpAnyH_ready (rs := [9]) (by kernel_rfl) (by simp) ?_
                refine AllReadyH.cons rfl (fun K hK => ?_) ?_
                · go_simp
                  refine (HC1.out).mono ?_
                  rintro e w1 ⟨rfl, H1⟩
                  have cc1 : w1.cell? ⟨bl, 1, none⟩ = some (.int .i64 ((lo : Int) + (j : Int))) := by rw [H1.out.1.seg, hlj]
                  refine hK.out _ _ H1.out.1.box (fun dd => ?_)
                  clear hK K
                  (try simp only [Act.put, List.getElem_toArray, List.getElem_cons_succ, List.getElem_cons_zero, List.setIfInBounds_toArray, List.set_cons_zero, List.set_cons_succ])
                  refine wpAnyH_take (i := 10) (v := .bool true) rfl (by kernel_rfl) (by kernel_rfl) (by kernel_rfl) (fun _ _ _ h => h) (.inl ⟨by kernel_rfl, fun w hw => by go_simp⟩) (by assumption) ?_
                  (try simp only [Act.put, List.getElem_toArray, List.getElem_cons_succ, List.getElem_cons_zero, List.setIfInBounds_toArray, List.set_cons_zero, List.set_cons_succ])
                  refine wpAnyH_take (i := 11) (v := .bool true) rfl (by kernel_rfl) (by kernel_rfl) (by kernel_rfl) (fun _ _ _ h => h) (.inl ⟨by kernel_rfl, fun w hw => by go_simp⟩) (by assumption) ?_
                  (try simp only [Act.put, List.getElem_toArray, List.getElem_cons_succ, List.getElem_cons_zero, List.setIfInBounds_toArray, List.set_cons_zero, List.set_cons_succ])
                  refine wpAnyH_take (i := 12) (v := .bool true) rfl (by kernel_rfl) (by kernel_rfl) (by kernel_rfl) (fun _ _ _ h => h) (.inl ⟨by kernel_rfl, fun w hw => by go_simp⟩) (by assumption) ?_
                  (try simp only [Act.put, List.getElem_toArray, List.getElem_cons_succ, List.getElem_cons_zero, List.setIfInBounds_toArray, List.set_cons_zero, List.set_cons_succ])
                  refine wpAnyH_take (i := 13) (v := .bool true) rfl (by kernel_rfl) (by kernel_rfl) (by kernel_rfl) (fun _ _ _ h => h) (.inl ⟨by kernel_rfl, fun w hw => by go_simp⟩) (by assumption) ?_
                  (try simp only [Act.put, List.getElem_toArray, List.getElem_cons_succ, List.getElem_cons_zero, List.setIfInBounds_toArray, List.set_cons_zero, List.set_cons_succ])
                  refine wpAnyH_take (i := 14) (v := .func (.func 30) #[] #[.pointer (some ⟨w.heap.size, 0, none⟩), .pointer (some ⟨w.heap.size + 1, 0, none⟩)]) rfl (by kernel_rfl) (by kernel_rfl) (by kernel_rfl) (fun _ _ _ h => h) (.inl ⟨by kernel_rfl, fun w hw => by go_simp⟩) (by assumption) ?_
                  (try simp only [Act.put, List.getElem_toArray, List.getElem_cons_succ, List.getElem_cons_zero, List.setIfInBounds_toArray, List.set_cons_zero, List.set_cons_succ])
                  refine wpAnyH_take (i := 15) (v := .pointer (some ⟨bl, 0, none⟩)) rfl (by kernel_rfl) (by kernel_rfl) (by kernel_rfl) (fun _ _ _ h => h) (.inl ⟨by kernel_rfl, fun w hw => by go_simp⟩) (by assumption) ?_
                  (try simp only [Act.put, List.getElem_toArray, List.getElem_cons_succ, List.getElem_cons_zero, List.setIfInBounds_toArray, List.set_cons_zero, List.set_cons_succ])
                  refine wpAnyH_take (i := 16) (v := .pointer (some ⟨bl, 0, none⟩)) rfl (by kernel_rfl) (by kernel_rfl) (by kernel_rfl) (fun _ _ _ h => h) (.inl ⟨by kernel_rfl, fun w hw => by go_simp⟩) (by assumption) ?_
                  (try simp only [Act.put, List.getElem_toArray, List.getElem_cons_succ, List.getElem_cons_zero, List.setIfInBounds_toArray, List.set_cons_zero, List.set_cons_succ])
                  refine wpAnyH_take (i := 17) (v := .pointer (some ⟨bl, 1, none⟩)) rfl (by kernel_rfl) (by kernel_rfl) (by kernel_rfl) (fun _ _ _ h => h) (.inl ⟨by kernel_rfl, fun w hw => by go_simp⟩) (by assumption) ?_
                  (try simp only [Act.put, List.getElem_toArray, List.getElem_cons_succ, List.getElem_cons_zero, List.setIfInBounds_toArray, List.set_cons_zero, List.set_cons_succ])
                  refine wpAnyH_ready (rs := [18]) (by kernel_rfl) (by simp) ?_
                  refine AllReadyH.cons rfl (fun K hK => ?_) ?_
                  · go_simp
                    refine hK.out _ _ (by assumption) (fun _ => ?_)
                    clear hK K
                    (try simp only [Act.put, List.getElem_toArray, List.getElem_cons_succ, List.getElem_cons_zero, List.setIfInBounds_toArray, List.set_cons_zero, List.set_cons_succ])
                    refine wpAnyH_take (i := 19) (v := .int .i64 ((lo : Int) + (j : Int) + 1)) rfl (by kernel_rfl) (by kernel_rfl) (by kernel_rfl) (fun _ _ _ h => h) (.inl ⟨by kernel_rfl, fun w hw => by go_simp; exact IntWalk.i64_in _ (by omega)⟩) (by assumption) ?_
                    (try simp only [Act.put, List.getElem_toArray, List.getElem_cons_succ, List.getElem_cons_zero, List.setIfInBounds_toArray, List.set_cons_zero, List.set_cons_succ])
                    refine wpAnyH_ready (rs := [20]) (by kernel_rfl) (by simp) ?_
                    refine AllReadyH.cons rfl (fun K hK => ?_) ?_
                    · go_simp
                      refine (HC2.out _ H1).mono ?_
                      rintro e w2 ⟨rfl, H2⟩
                      refine hK.out _ _ (HBX.out _ H2) (fun dd2 => ?_)
                      clear hK K
                      (try simp only [Act.put, List.getElem_toArray, List.getElem_cons_succ, List.getElem_cons_zero, List.setIfInBounds_toArray, List.set_cons_zero, List.set_cons_succ])
                      refine wpAnyH_take (i := 21) (v := .bool true) rfl (by kernel_rfl) (by kernel_rfl) (by kernel_rfl) (fun _ _ _ h => h) (.inl ⟨by kernel_rfl, fun w hw => by go_simp⟩) (by assumption) ?_
                      (try simp only [Act.put, List.getElem_toArray, List.getElem_cons_succ, List.getElem_cons_zero, List.setIfInBounds_toArray, List.set_cons_zero, List.set_cons_succ])
                      refine wpAnyH_take (i := 22) (v := .bool false) rfl (by kernel_rfl) (by kernel_rfl) (by kernel_rfl) (fun _ _ _ h => h) (.inl ⟨by kernel_rfl, fun w hw => by go_simp⟩) (by assumption) ?_
                      (try simp only [Act.put, List.getElem_toArray, List.getElem_cons_succ, List.getElem_cons_zero, List.setIfInBounds_toArray, List.set_cons_zero, List.set_cons_succ])
                      refine wpAnyH_take (i := 23) (v := .bool false) rfl (by kernel_rfl) (by kernel_rfl) (by kernel_rfl) (fun _ _ _ h => h) (.inl ⟨by kernel_rfl, fun w hw => by go_simp⟩) (by assumption) ?_
                      (try simp only [Act.put, List.getElem_toArray, List.getElem_cons_succ, List.getElem_cons_zero, List.setIfInBounds_toArray, List.set_cons_zero, List.set_cons_succ])
                      refine wpAnyH_done (by kernel_rfl) ?_ _
                      go_wp2_with fail
                      go_meet
                      case rel => exact ⟨rfl, H2⟩
                    exact AllReadyH.nil
                  exact AllReadyH.nil
                exact AllReadyH.nil
              exact AllReadyH.nil
            refine AllReadyH.cons rfl (fun K hK => ?_) ?_
            · go_simp
              refine hK.out _ _ (by assumption) (fun _ => ?_)
              clear hK K
              (try simp only [Act.put, List.getElem_toArray, List.getElem_cons_succ, List.getElem_cons_zero, List.setIfInBounds_toArray, List.set_cons_zero, List.set_cons_succ])
              refine wpAnyH_ready (rs := [4]) (by kernel_rfl) (by simp) ?_
              refine AllReadyH.cons rfl (fun K hK => ?_) ?_
              · go_simp
                refine hK.out _ _ (by assumption) (fun _ => ?_)
                clear hK K
                (try simp only [Act.put, List.getElem_toArray, List.getElem_cons_succ, List.getElem_cons_zero, List.setIfInBounds_toArray, List.set_cons_zero, List.set_cons_succ])
                refine wpAnyH_ready (rs := [9]) (by kernel_rfl) (by simp) ?_
                refine AllReadyH.cons rfl (fun K hK => ?_) ?_
                · go_simp
                  refine (HC1.out).mono ?_
                  rintro e w1 ⟨rfl, H1⟩
                  have cc1 : w1.cell? ⟨bl, 1, none⟩ = some (.int .i64 ((lo : Int) + (j : Int))) := by rw [H1.out.1.seg, hlj]
                  refine hK.out _ _ H1.out.1.box (fun dd => ?_)
                  clear hK K
                  (try simp only [Act.put, List.getElem_toArray, List.getElem_cons_succ, List.getElem_cons_zero, List.setIfInBounds_toArray, List.set_cons_zero, List.set_cons_succ])
                  refine wpAnyH_take (i := 10) (v := .bool true) rfl (by kernel_rfl) (by kernel_rfl) (by kernel_rfl) (fun _ _ _ h => h) (.inl ⟨by kernel_rfl, fun w hw => by go_simp⟩) (by assumption) ?_
                  (try simp only [Act.put, List.getElem_toArray, List.getElem_cons_succ, List.getElem_cons_zero, List.setIfInBounds_toArray, List.set_cons_zero, List.set_cons_succ])
                  refine wpAnyH_take (i := 11) (v := .bool true) rfl (by kernel_rfl) (by kernel_rfl) (by kernel_rfl) (fun _ _ _ h => h) (.inl ⟨by kernel_rfl, fun w hw => by go_simp⟩) (by assumption) ?_
                  (try simp only [Act.put, List.getElem_toArray, List.getElem_cons_succ, List.getElem_cons_zero, List.setIfInBounds_toArray, List.set_cons_zero, List.set_cons_succ])
                  refine wpAnyH_take (i := 12) (v := .bool true) rfl (by kernel_rfl) (by kernel_rfl) (by kernel_rfl) (fun _ _ _ h => h) (.inl ⟨by kernel_rfl, fun w hw => by go_simp⟩) (by assumption) ?_
                  (try simp only [Act.put, List.getElem_toArray, List.getElem_cons_succ, List.getElem_cons_zero, List.setIfInBounds_toArray, List.set_cons_zero, List.set_cons_succ])
                  refine wpAnyH_take (i := 13) (v := .bool true) rfl (by kernel_rfl) (by kernel_rfl) (by kernel_rfl) (fun _ _ _ h => h) (.inl ⟨by kernel_rfl, fun w hw => by go_simp⟩) (by assumption) ?_
                  (try simp only [Act.put, List.getElem_toArray, List.getElem_cons_succ, List.getElem_cons_zero, List.setIfInBounds_toArray, List.set_cons_zero, List.set_cons_succ])
                  refine wpAnyH_take (i := 14) (v := .func (.func 30) #[] #[.pointer (some ⟨w.heap.size, 0, none⟩), .pointer (some ⟨w.heap.size + 1, 0, none⟩)]) rfl (by kernel_rfl) (by kernel_rfl) (by kernel_rfl) (fun _ _ _ h => h) (.inl ⟨by kernel_rfl, fun w hw => by go_simp⟩) (by assumption) ?_
                  (try simp only [Act.put, List.getElem_toArray, List.getElem_cons_succ, List.getElem_cons_zero, List.setIfInBounds_toArray, List.set_cons_zero, List.set_cons_succ])
                  refine wpAnyH_take (i := 15) (v := .pointer (some ⟨bl, 0, none⟩)) rfl (by kernel_rfl) (by kernel_rfl) (by kernel_rfl) (fun _ _ _ h => h) (.inl ⟨by kernel_rfl, fun w hw => by go_simp⟩) (by assumption) ?_
                  (try simp only [Act.put, List.getElem_toArray, List.getElem_cons_succ, List.getElem_cons_zero, List.setIfInBounds_toArray, List.set_cons_zero, List.set_cons_succ])
                  refine wpAnyH_take (i := 16) (v := .pointer (some ⟨bl, 0, none⟩)) rfl (by kernel_rfl) (by kernel_rfl) (by kernel_rfl) (fun _ _ _ h => h) (.inl ⟨by kernel_rfl, fun w hw => by go_simp⟩) (by assumption) ?_
                  (try simp only [Act.put, List.getElem_toArray, List.getElem_cons_succ, List.getElem_cons_zero, List.setIfInBounds_toArray, List.set_cons_zero, List.set_cons_succ])
                  refine wpAnyH_take (i := 17) (v := .pointer (some ⟨bl, 1, none⟩)) rfl (by kernel_rfl) (by kernel_rfl) (by kernel_rfl) (fun _ _ _ h => h) (.inl ⟨by kernel_rfl, fun w hw => by go_simp⟩) (by assumption) ?_
                  (try simp only [Act.put, List.getElem_toArray, List.getElem_cons_succ, List.getElem_cons_zero, List.setIfInBounds_toArray, List.set_cons_zero, List.set_cons_succ])
                  refine wpAnyH_ready (rs := [18]) (by kernel_rfl) (by simp) ?_
                  refine AllReadyH.cons rfl (fun K hK => ?_) ?_
                  · go_simp
                    refine hK.out _ _ (by assumption) (fun _ => ?_)
                    clear hK K
                    (try simp only [Act.put, List.getElem_toArray, List.getElem_cons_succ, List.getElem_cons_zero, List.setIfInBounds_toArray, List.set_cons_zero, List.set_cons_succ])
                    refine wpAnyH_take (i := 19) (v := .int .i64 ((lo : Int) + (j : Int) + 1)) rfl (by kernel_rfl) (by kernel_rfl) (by kernel_rfl) (fun _ _ _ h => h) (.inl ⟨by kernel_rfl, fun w hw => by go_simp; exact IntWalk.i64_in _ (by omega)⟩) (by assumption) ?_
                    (try simp only [Act.put, List.getElem_toArray, List.getElem_cons_succ, List.getElem_cons_zero, List.setIfInBounds_toArray, List.set_cons_zero, List.set_cons_succ])
                    refine wpAnyH_ready (rs := [20]) (by kernel_rfl) (by simp) ?_
                    refine AllReadyH.cons rfl (fun K hK => ?_) ?_
                    · go_simp
                      refine (HC2.out _ H1).mono ?_
                      rintro e w2 ⟨rfl, H2⟩
                      refine hK.out _ _ (HBX.out _ H2) (fun dd2 => ?_)
                      clear hK K
                      (try simp only [Act.put, List.getElem_toArray, List.getElem_cons_succ, List.getElem_cons_zero, List.setIfInBounds_toArray, List.set_cons_zero, List.set_cons_succ])
                      refine wpAnyH_take (i := 21) (v := .bool true) rfl (by kernel_rfl) (by kernel_rfl) (by kernel_rfl) (fun _ _ _ h => h) (.inl ⟨by kernel_rfl, fun w hw => by go_simp⟩) (by assumption) ?_
                      (try simp only [Act.put, List.getElem_toArray, List.getElem_cons_succ, List.getElem_cons_zero, List.setIfInBounds_toArray, List.set_cons_zero, List.set_cons_succ])
                      refine wpAnyH_take (i := 22) (v := .bool false) rfl (by kernel_rfl) (by kernel_rfl) (by kernel_rfl) (fun _ _ _ h => h) (.inl ⟨by kernel_rfl, fun w hw => by go_simp⟩) (by assumption) ?_
                      (try simp only [Act.put, List.getElem_toArray, List.getElem_cons_succ, List.getElem_cons_zero, List.setIfInBounds_toArray, List.set_cons_zero, List.set_cons_succ])
                      refine wpAnyH_take (i := 23) (v := .bool false) rfl (by kernel_rfl) (by kernel_rfl) (by kernel_rfl) (fun _ _ _ h => h) (.inl ⟨by kernel_rfl, fun w hw => by go_simp⟩) (by assumption) ?_
                      (try simp only [Act.put, List.getElem_toArray, List.getElem_cons_succ, List.getElem_cons_zero, List.setIfInBounds_toArray, List.set_cons_zero, List.set_cons_succ])
                      refine wpAnyH_done (by kernel_rfl) ?_ _
                      go_wp2_with fail
                      go_meet
                      case rel => exact ⟨rfl, H2⟩
                    exact AllReadyH.nil
                  exact AllReadyH.nil
                exact AllReadyH.nil
              exact AllReadyH.nil
            exact AllReadyH.nil
          case rest =>
            obtain ⟨rfl, H1⟩ := hcut
            go_wp2_with fail
            go_roundg (T - (Pl.cnt (pre.take j) + ds.length + 1))
            case measure => omega
            case rel =>
              have e := HCT.out
              exact ⟨j + 1, 1, d :: r, by omega, by simp, by omega, Lib.hid ⟨HDR.out, fun h => by omega, by rw [e]; exact H1.out.1, H1.out.2⟩⟩
        · -- none any more
          have HE : Hid (j = pre.length ∧ ds = cur) := Lib.hid (by
            obtain rfl : j = pre.length := by omega
            exact ⟨rfl, by have := HDS.out; rw [List.getElem?_append_right (Nat.le_refl _)] at this; simpa using this.symm⟩)
          have HC2 : Hid (∀ w1, Hid (FI w1 X b n s bl bm lo nn w.heap.size (w.heap.size + 1) (w.heap.size + 2) (pre.take j) (ds.take ds.length) (Pl.cnt (pre.take j) + ds.length) ∧ Only (fun q => q = bl ∨ q = bm) w w1) →
              Calls Try.prog 30 #[.int .i64 ((lo : Int) + (j : Int) + 1), .int .i64 0, .pointer (some ⟨w.heap.size, 0, none⟩), .pointer (some ⟨w.heap.size + 1, 0, none⟩)] w1 fun e w' =>
                e = .returned (.bool false) ∧ Hid (FI w' X b n s bl bm lo nn w.heap.size (w.heap.size + 1) (w.heap.size + 2) (pre.take j) (ds.take ds.length) (Pl.cnt (pre.take j) + ds.length) ∧ Only (fun q => q = bl ∨ q = bm) w w')) := Lib.hid (fun w1 H1 => by
            obtain ⟨h1, h2⟩ := H1.out
            have := h1.no HOFF.out (lo + j + 1) 0 (by omega) (by omega) (.inr ⟨by have := HI0.out; omega, fun m x kk hs => by
              obtain ⟨rfl, rfl⟩ := HE.out
              have := HINV.out.tail.2 m x kk hs
              rw [List.take_length]
              omega⟩)
            exact this.mono fun e w' ⟨g1, g2⟩ => ⟨g1, Lib.hid ⟨h1.below g2, h2.tr (Only.below g2)⟩⟩)
          have HBX : Hid (∀ w', Hid (FI w' X b n s bl bm lo nn w.heap.size (w.heap.size + 1) (w.heap.size + 2) (pre.take j) (ds.take ds.length) (Pl.cnt (pre.take j) + ds.length) ∧ Only (fun q => q = bl ∨ q = bm) w w') → w'.cell? ⟨w.heap.size, 0, none⟩ = some (.pointer (some ⟨bl, 0, none⟩))) := Lib.hid (fun w' h => h.out.1.box)
          go_cut [43] from 8 to 44 (fun v43 wx => v43 = .bool (!false) ∧ Hid (FI wx X b n s bl bm lo nn w.heap.size (w.heap.size + 1) (w.heap.size + 2) (pre.take j) (ds.take ds.length) (Pl.cnt (pre.take j) + ds.length) ∧ Only (fun q => q = bl ∨ q = bm) w wx))
          case first =>
            refine wp_region_held_drew (S := (fun w' => w'.cell? ⟨w.heap.size, 0, none⟩ = some (.pointer (some ⟨bl, 0, none⟩)))) (by kernel_rfl) (by exact d1) (fun dd0 => ?_)
            refine wpAnyH_take (i := 0) (v := .func (.func 30) #[] #[.pointer (some ⟨w.heap.size, 0, none⟩), .pointer (some ⟨w.heap.size + 1, 0, none⟩)]) rfl (by kernel_rfl) (by kernel_rfl) (by kernel_rfl) (fun _ _ _ h => h) (.inl ⟨by kernel_rfl, fun w hw => by go_simp⟩) (by assumption) ?_
            (try simp only [Act.put, List.getElem_toArray, List.getElem_cons_zero, List.setIfInBounds_toArray, List.set_cons_zero, List.set_cons_succ])
            refine wpAnyH_take (i := 1) (v := .pointer (some ⟨bl, 0, none⟩)) rfl (by kernel_rfl) (by kernel_rfl) (by kernel_rfl) (fun _ _ _ h => h) (.inl ⟨by kernel_rfl, fun w hw => by go_simp⟩) (by assumption) ?_
            (try simp only [Act.put, List.getElem_toArray, List.getElem_cons_succ, List.getElem_cons_zero, List.setIfInBounds_toArray, List.set_cons_zero, List.set_cons_succ])
            refine wpAnyH_take (i := 2) (v := .pointer (some ⟨bl, 0, none⟩)) rfl (by kernel_rfl) (by kernel_rfl) (by kernel_rfl) (fun _ _ _ h => h) (.inl ⟨by kernel_rfl, fun w hw => by go_simp⟩) (by assumption) ?_
            (try simp only [Act.put, List.getElem_toArray, List.getElem_cons_succ, List.getElem_cons_zero, List.setIfInBounds_toArray, List.set_cons_zero, List.set_cons_succ])
            refine wpAnyH_take (i := 3) (v := .pointer (some ⟨bl, 1, none⟩)) rfl (by kernel_rfl) (by kernel_rfl) (by kernel_rfl) (fun _ _ _ h => h) (.inl ⟨by kernel_rfl, fun w hw => by go_simp⟩) (by assumption) ?_
            (try simp only [Act.put, List.getElem_toArray, List.getElem_cons_succ, List.getElem_cons_zero, List.setIfInBounds_toArray, List.set_cons_zero, List.set_cons_succ])
            refine wpAnyH_take (i := 5) (v := .pointer (some ⟨bl, 0, none⟩)) rfl (by kernel_rfl) (by kernel_rfl) (by kernel_rfl) (fun _ _ _ h => h) (.inl ⟨by kernel_rfl, fun w hw => by go_simp⟩) (by assumption) ?_
            (try simp only [Act.put, List.getElem_toArray, List.getElem_cons_succ, List.getElem_cons_zero, List.setIfInBounds_toArray, List.set_cons_zero, List.set_cons_succ])
            refine wpAnyH_take (i := 6) (v := .pointer (some ⟨bl, 0, none⟩)) rfl (by kernel_rfl) (by kernel_rfl) (by kernel_rfl) (fun _ _ _ h => h) (.inl ⟨by kernel_rfl, fun w hw => by go_simp⟩) (by assumption) ?_
            (try simp only [Act.put, List.getElem_toArray, List.getElem_cons_succ, List.getElem_cons_zero, List.setIfInBounds_toArray, List.set_cons_zero, List.set_cons_succ])
            refine wpAnyH_take (i := 7) (v := .pointer (some ⟨bl, 2, none⟩)) rfl (by kernel_rfl) (by kernel_rfl) (by kernel_rfl) (fun _ _ _ h => h) (.inl ⟨by kernel_rfl, fun w hw => by go_simp⟩) (by assumption) ?_
            (try simp only [Act.put, List.getElem_toArray, List.getElem_cons_succ, List.getElem_cons_zero, List.setIfInBounds_toArray, List.set_cons_zero, List.set_cons_succ])
            refine wpAnyH_ready (rs := [4, 8]) (by kernel_rfl) (by simp) ?_
            refine AllReadyH.cons rfl (fun K hK => ?_) ?_
            · go_simp
              refine hK.out _ _ (by assumption) (fun _ => ?_)
              clear hK K
              (try simp only [Act.put, List.getElem_toArray, List.getElem_cons_succ, List.getElem_cons_zero, List.setIfInBounds_toArray, List.set_cons_zero, List.set_cons_succ])
              refine wpAnyH_ready (rs := [8]) (by kernel_rfl) (by simp) ?_
              refine AllReadyH.cons rfl (fun K hK => ?_) ?_
              · go_simp
                refine hK.out _ _ (by assumption) (fun _ => ?_)
                clear hK K
                (try simp only [Act.put, List.getElem_toArray, List.getElem_cons_succ, List.getElem_cons_zero, List.setIfInBounds_toArray, List.set_cons_zero, List.set_cons_succ])
                refine wpAnyH_ready (rs := [9]) (by kernel_rfl) (by simp) ?_
                refine AllReadyH.cons rfl (fun K hK => ?_) ?_
                · go_simp
                  refine (HC1.out).mono ?_
                  rintro e w1 ⟨rfl, H1⟩
                  have cc1 : w1.cell? ⟨bl, 1, none⟩ = some (.int .i64 ((lo : Int) + (j : Int))) := by rw [H1.out.1.seg, hlj]
                  refine hK.out _ _ H1.out.1.box (fun dd => ?_)
                  clear hK K
                  (try simp only [Act.put, List.getElem_toArray, List.getElem_cons_succ, List.getElem_cons_zero, List.setIfInBounds_toArray, List.set_cons_zero, List.set_cons_succ])
                  refine wpAnyH_take (i := 10) (v := .bool true) rfl (by kernel_rfl) (by kernel_rfl) (by kernel_rfl) (fun _ _ _ h => h) (.inl ⟨by kernel_rfl, fun w hw => by go_simp⟩) (by assumption) ?_
                  (try simp only [Act.put, List.getElem_toArray, List.getElem_cons_succ, List.getElem_cons_zero, List.setIfInBounds_toArray, List.set_cons_zero, List.set_cons_succ])
                  refine wpAnyH_take (i := 11) (v := .bool true) rfl (by kernel_rfl) (by kernel_rfl) (by kernel_rfl) (fun _ _ _ h => h) (.inl ⟨by kernel_rfl, fun w hw => by go_simp⟩) (by assumption) ?_
                  (try simp only [Act.put, List.getElem_toArray, List.getElem_cons_succ, List.getElem_cons_zero, List.setIfInBounds_toArray, List.set_cons_zero, List.set_cons_succ])
                  refine wpAnyH_take (i := 12) (v := .bool true) rfl (by kernel_rfl) (by kernel_rfl) (by kernel_rfl) (fun _ _ _ h => h) (.inl ⟨by kernel_rfl, fun w hw => by go_simp⟩) (by assumption) ?_
                  (try simp only [Act.put, List.getElem_toArray, List.getElem_cons_succ, List.getElem_cons_zero, List.setIfInBounds_toArray, List.set_cons_zero, List.set_cons_succ])
                  refine wpAnyH_take (i := 13) (v := .bool true) rfl (by kernel_rfl) (by kernel_rfl) (by kernel_rfl) (fun _ _ _ h => h) (.inl ⟨by kernel_rfl, fun w hw => by go_simp⟩) (by assumption) ?_
                  (try simp only [Act.put, List.getElem_toArray, List.getElem_cons_succ, List.getElem_cons_zero, List.setIfInBounds_toArray, List.set_cons_zero, List.set_cons_succ])
                  refine wpAnyH_take (i := 14) (v := .func (.func 30) #[] #[.pointer (some ⟨w.heap.size, 0, none⟩), .pointer (some ⟨w.heap.size + 1, 0, none⟩)]) rfl (by kernel_rfl) (by kernel_rfl) (by kernel_rfl) (fun _ _ _ h => h) (.inl ⟨by kernel_rfl, fun w hw => by go_simp⟩) (by assumption) ?_
                  (try simp only [Act.put, List.getElem_toArray, List.getElem_cons_succ, List.getElem_cons_zero, List.setIfInBounds_toArray, List.set_cons_zero, List.set_cons_succ])
                  refine wpAnyH_take (i := 15) (v := .pointer (some ⟨bl, 0, none⟩)) rfl (by kernel_rfl) (by kernel_rfl) (by kernel_rfl) (fun _ _ _ h => h) (.inl ⟨by kernel_rfl, fun w hw => by go_simp⟩) (by assumption) ?_
                  (try simp only [Act.put, List.getElem_toArray, List.getElem_cons_succ, List.getElem_cons_zero, List.setIfInBounds_toArray, List.set_cons_zero, List.set_cons_succ])
                  refine wpAnyH_take (i := 16) (v := .pointer (some ⟨bl, 0, none⟩)) rfl (by kernel_rfl) (by kernel_rfl) (by kernel_rfl) (fun _ _ _ h => h) (.inl ⟨by kernel_rfl, fun w hw => by go_simp⟩) (by assumption) ?_
                  (try simp only [Act.put, List.getElem_toArray, List.getElem_cons_succ, List.getElem_cons_zero, List.setIfInBounds_toArray, List.set_cons_zero, List.set_cons_succ])
                  refine wpAnyH_take (i := 17) (v := .pointer (some ⟨bl, 1, none⟩)) rfl (by kernel_rfl) (by kernel_rfl) (by kernel_rfl) (fun _ _ _ h => h) (.inl ⟨by kernel_rfl, fun w hw => by go_simp⟩) (by assumption) ?_
                  (try simp only [Act.put, List.getElem_toArray, List.getElem_cons_succ, List.getElem_cons_zero, List.setIfInBounds_toArray, List.set_cons_zero, List.set_cons_succ])
                  refine wpAnyH_ready (rs := [18]) (by kernel_rfl) (by simp) ?_
                  refine AllReadyH.cons rfl (fun K hK => ?_) ?_
                  · go_simp
                    refine hK.out _ _ (by assumption) (fun _ => ?_)
                    clear hK K
                    (try simp only [Act.put, List.getElem_toArray, List.getElem_cons_succ, List.getElem_cons_zero, List.setIfInBounds_toArray, List.set_cons_zero, List.set_cons_succ])
                    refine wpAnyH_take (i := 19) (v := .int .i64 ((lo : Int) + (j : Int) + 1)) rfl (by kernel_rfl) (by kernel_rfl) (by kernel_rfl) (fun _ _ _ h => h) (.inl ⟨by kernel_rfl, fun w hw => by go_simp; exact IntWalk.i64_in _ (by omega)⟩) (by assumption) ?_
                    (try simp only [Act.put, List.getElem_toArray, List.getElem_cons_succ, List.getElem_cons_zero, List.setIfInBounds_toArray, List.set_cons_zero, List.set_cons_succ])
                    refine wpAnyH_ready (rs := [20]) (by kernel_rfl) (by simp) ?_
                    refine AllReadyH.cons rfl (fun K hK => ?_) ?_
                    · go_simp
                      refine (HC2.out _ H1).mono ?_
                      rintro e w2 ⟨rfl, H2⟩
                      refine hK.out _ _ (HBX.out _ H2) (fun dd2 => ?_)
                      clear hK K
                      (try simp only [Act.put, List.getElem_toArray, List.getElem_cons_succ, List.getElem_cons_zero, List.setIfInBounds_toArray, List.set_cons_zero, List.set_cons_succ])
                      refine wpAnyH_take (i := 21) (v := .bool false) rfl (by kernel_rfl) (by kernel_rfl) (by kernel_rfl) (fun _ _ _ h => h) (.inl ⟨by kernel_rfl, fun w hw => by go_simp⟩) (by assumption) ?_
                      (try simp only [Act.put, List.getElem_toArray, List.getElem_cons_succ, List.getElem_cons_zero, List.setIfInBounds_toArray, List.set_cons_zero, List.set_cons_succ])
                      refine wpAnyH_take (i := 22) (v := .bool true) rfl (by kernel_rfl) (by kernel_rfl) (by kernel_rfl) (fun _ _ _ h => h) (.inl ⟨by kernel_rfl, fun w hw => by go_simp⟩) (by assumption) ?_
                      (try simp only [Act.put, List.getElem_toArray, List.getElem_cons_succ, List.getElem_cons_zero, List.setIfInBounds_toArray, List.set_cons_zero, List.set_cons_succ])
                      refine wpAnyH_take (i := 23) (v := .bool true) rfl (by kernel_rfl) (by kernel_rfl) (by kernel_rfl) (fun _ _ _ h => h) (.inl ⟨by kernel_rfl, fun w hw => by go_simp⟩) (by assumption) ?_
                      (try simp only [Act.put, List.getElem_toArray, List.getElem_cons_succ, List.getElem_cons_zero, List.setIfInBounds_toArray, List.set_cons_zero, List.set_cons_succ])
                      refine wpAnyH_done (by kernel_rfl) ?_ _
                      go_wp2_with fail
                      go_meet
                      case rel => exact ⟨rfl, H2⟩
                    exact AllReadyH.nil
                  exact AllReadyH.nil
                exact AllReadyH.nil
              exact AllReadyH.nil
            refine AllReadyH.cons rfl (fun K hK => ?_) ?_
            · go_simp
              refine hK.out _ _ (by assumption) (fun _ => ?_)
              clear hK K
              (try simp only [Act.put, List.getElem_toArray, List.getElem_cons_succ, List.getElem_cons_zero, List.setIfInBounds_toArray, List.set_cons_zero, List.set_cons_succ])
              refine wpAnyH_ready (rs := [4]) (by kernel_rfl) (by simp) ?_
              refine AllReadyH.cons rfl (fun K hK => ?_) ?_
              · go_simp
                refine hK.out _ _ (by assumption) (fun _ => ?_)
                clear hK K
                (try simp only [Act.put, List.getElem_toArray, List.getElem_cons_succ, List.getElem_cons_zero, List.setIfInBounds_toArray, List.set_cons_zero, List.set_cons_succ])
                refine wpAnyH_ready (rs := [9]) (by kernel_rfl) (by simp) ?_
                refine AllReadyH.cons rfl (fun K hK => ?_) ?_
                · go_simp
                  refine (HC1.out).mono ?_
                  rintro e w1 ⟨rfl, H1⟩
                  have cc1 : w1.cell? ⟨bl, 1, none⟩ = some (.int .i64 ((lo : Int) + (j : Int))) := by rw [H1.out.1.seg, hlj]
                  refine hK.out _ _ H1.out.1.box (fun dd => ?_)
                  clear hK K
                  (try simp only [Act.put, List.getElem_toArray, List.getElem_cons_succ, List.getElem_cons_zero, List.setIfInBounds_toArray, List.set_cons_zero, List.set_cons_succ])
                  refine wpAnyH_take (i := 10) (v := .bool true) rfl (by kernel_rfl) (by kernel_rfl) (by kernel_rfl) (fun _ _ _ h => h) (.inl ⟨by kernel_rfl, fun w hw => by go_simp⟩) (by assumption) ?_
                  (try simp only [Act.put, List.getElem_toArray, List.getElem_cons_succ, List.getElem_cons_zero, List.setIfInBounds_toArray, List.set_cons_zero, List.set_cons_succ])
                  refine wpAnyH_take (i := 11) (v := .bool true) rfl (by kernel_rfl) (by kernel_rfl) (by kernel_rfl) (fun _ _ _ h => h) (.inl ⟨by kernel_rfl, fun w hw => by go_simp⟩) (by assumption) ?_
                  (try simp only [Act.put, List.getElem_toArray, List.getElem_cons_succ, List.getElem_cons_zero, List.setIfInBounds_toArray, List.set_cons_zero, List.set_cons_succ])
                  refine wpAnyH_take (i := 12) (v := .bool true) rfl (by kernel_rfl) (by kernel_rfl) (by kernel_rfl) (fun _ _ _ h => h) (.inl ⟨by kernel_rfl, fun w hw => by go_simp⟩) (by assumption) ?_
                  (try simp only [Act.put, List.getElem_toArray, List.getElem_cons_succ, List.getElem_cons_zero, List.setIfInBounds_toArray, List.set_cons_zero, List.set_cons_succ])
                  refine wpAnyH_take (i := 13) (v := .bool true) rfl (by kernel_rfl) (by kernel_rfl) (by kernel_rfl) (fun _ _ _ h => h) (.inl ⟨by kernel_rfl, fun w hw => by go_simp⟩) (by assumption) ?_
                  (try simp only [Act.put, List.getElem_toArray, List.getElem_cons_succ, List.getElem_cons_zero, List.setIfInBounds_toArray, List.set_cons_zero, List.set_cons_succ])
                  refine wpAnyH_take (i := 14) (v := .func (.func 30) #[] #[.pointer (some ⟨w.heap.size, 0, none⟩), .pointer (some ⟨w.heap.size + 1, 0, none⟩)]) rfl (by kernel_rfl) (by kernel_rfl) (by kernel_rfl) (fun _ _ _ h => h) (.inl ⟨by kernel_rfl, fun w hw => by go_simp⟩) (by assumption) ?_
                  (try simp only [Act.put, List.getElem_toArray, List.getElem_cons_succ, List.getElem_cons_zero, List.setIfInBounds_toArray, List.set_cons_zero, List.set_cons_succ])
                  refine wpAnyH_take (i := 15) (v := .pointer (some ⟨bl, 0, none⟩)) rfl (by kernel_rfl) (by kernel_rfl) (by kernel_rfl) (fun _ _ _ h => h) (.inl ⟨by kernel_rfl, fun w hw => by go_simp⟩) (by assumption) ?_
                  (try simp only [Act.put, List.getElem_toArray, List.getElem_cons_succ, List.getElem_cons_zero, List.setIfInBounds_toArray, List.set_cons_zero, List.set_cons_succ])
                  refine wpAnyH_take (i := 16) (v := .pointer (some ⟨bl, 0, none⟩)) rfl (by kernel_rfl) (by kernel_rfl) (by kernel_rfl) (fun _ _ _ h => h) (.inl ⟨by kernel_rfl, fun w hw => by go_simp⟩) (by assumption) ?_
                  (try simp only [Act.put, List.getElem_toArray, List.getElem_cons_succ, List.getElem_cons_zero, List.setIfInBounds_toArray, List.set_cons_zero, List.set_cons_succ])
                  refine wpAnyH_take (i := 17) (v := .pointer (some ⟨bl, 1, none⟩)) rfl (by kernel_rfl) (by kernel_rfl) (by kernel_rfl) (fun _ _ _ h => h) (.inl ⟨by kernel_rfl, fun w hw => by go_simp⟩) (by assumption) ?_
                  (try simp only [Act.put, List.getElem_toArray, List.getElem_cons_succ, List.getElem_cons_zero, List.setIfInBounds_toArray, List.set_cons_zero, List.set_cons_succ])
                  refine wpAnyH_ready (rs := [18]) (by kernel_rfl) (by simp) ?_
                  refine AllReadyH.cons rfl (fun K hK => ?_) ?_
                  · go_simp
                    refine hK.out _ _ (by assumption) (fun _ => ?_)
                    clear hK K
                    (try simp only [Act.put, List.getElem_toArray, List.getElem_cons_succ, List.getElem_cons_zero, List.setIfInBounds_toArray, List.set_cons_zero, List.set_cons_succ])
                    refine wpAnyH_take (i := 19) (v := .int .i64 ((lo : Int) + (j : Int) + 1)) rfl (by kernel_rfl) (by kernel_rfl) (by kernel_rfl) (fun _ _ _ h => h) (.inl ⟨by kernel_rfl, fun w hw => by go_simp; exact IntWalk.i64_in _ (by omega)⟩) (by assumption) ?_
                    (try simp only [Act.put, List.getElem_toArray, List.getElem_cons_succ, List.getElem_cons_zero, List.setIfInBounds_toArray, List.set_cons_zero, List.set_cons_succ])
                    refine wpAnyH_ready (rs := [20]) (by kernel_rfl) (by simp) ?_
                    refine AllReadyH.cons rfl (fun K hK => ?_) ?_
                    · go_simp
                      refine (HC2.out _ H1).mono ?_
                      rintro e w2 ⟨rfl, H2⟩
                      refine hK.out _ _ (HBX.out _ H2) (fun dd2 => ?_)
                      clear hK K
                      (try simp only [Act.put, List.getElem_toArray, List.getElem_cons_succ, List.getElem_cons_zero, List.setIfInBounds_toArray, List.set_cons_zero, List.set_cons_succ])
                      refine wpAnyH_take (i := 21) (v := .bool false) rfl (by kernel_rfl) (by kernel_rfl) (by kernel_rfl) (fun _ _ _ h => h) (.inl ⟨by kernel_rfl, fun w hw => by go_simp⟩) (by assumption) ?_
                      (try simp only [Act.put, List.getElem_toArray, List.getElem_cons_succ, List.getElem_cons_zero, List.setIfInBounds_toArray, List.set_cons_zero, List.set_cons_succ])
                      refine wpAnyH_take (i := 22) (v := .bool true) rfl (by kernel_rfl) (by kernel_rfl) (by kernel_rfl) (fun _ _ _ h => h) (.inl ⟨by kernel_rfl, fun w hw => by go_simp⟩) (by assumption) ?_
                      (try simp only [Act.put, List.getElem_toArray, List.getElem_cons_succ, List.getElem_cons_zero, List.setIfInBounds_toArray, List.set_cons_zero, List.set_cons_succ])
                      refine wpAnyH_take (i := 23) (v := .bool true) rfl (by kernel_rfl) (by kernel_rfl) (by kernel_rfl) (fun _ _ _ h => h) (.inl ⟨by kernel_rfl, fun w hw => by go_simp⟩) (by assumption) ?_
                      (try simp only [Act.put, List.getElem_toArray, List.getElem_cons_succ, List.getElem_cons_zero, List.setIfInBounds_toArray, List.set_cons_zero, List.set_cons_succ])
                      refine wpAnyH_done (by kernel_rfl) ?_ _
                      go_wp2_with fail
                      go_meet
                      case rel => exact ⟨rfl, H2⟩
                    exact AllReadyH.nil
                  exact AllReadyH.nil
                exact AllReadyH.nil
              exact AllReadyH.nil
            exact AllReadyH.nil
          case rest =>
            obtain ⟨rfl, H1⟩ := hcut
            obtain ⟨H1a, H1b⟩ := H1.out
            obtain ⟨rfl, rfl⟩ := HE.out
            rw [List.take_length, List.take_length] at H1a
            obtain ⟨A', cp', hc3, hcp, hkl, hrd, hmm, hlo⟩ := H1a.final (fun hk => by
              have hp : pre = [] := by
                cases pre with
                | nil => rfl
                | cons x y =>
                  have := HINV.out.some_ (by simp)
                  have : 0 < ds.length := List.length_pos_iff.2 this
                  omega
              subst hp
              have hc : ds = [] := List.length_eq_zero_iff.1 (by omega)
              exact (HINV.out.none_ rfl hc).2.1)
            have HP := Lib.hid (show FindPost X b n s bl bm lo nn pre ds w (.returned (.slice A' (Pl.cnt pre + ds.length) cp')) wc from ⟨A', _, cp', rfl, hkl, hcp, hrd, hmm, hlo, H1b⟩)
            clear hcp hkl hrd hmm hlo H1a H1b H1
            go_wp2_with fail
            go_ret
            exact HP.out
end Go.Proofs.Ytcmeaeemjecjiaa
