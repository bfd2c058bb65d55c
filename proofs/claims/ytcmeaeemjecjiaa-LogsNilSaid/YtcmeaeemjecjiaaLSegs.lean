/-
  CONTRACTS of 'segments' and Sectors.
-/
import Derived.Test.YtcmeaeemjecjiaaLOpen
import Derived.Test.YtcmeaeemjecjiaaLSize
namespace Go.Proofs.Ytcmeaeemjecjiaa
open Go.RowKit Go.Maps

theorem infoInt : (Try.prog.info? 3).map (fun i => (i.zero, i.size, i.bytes)) = some (some (.int .i64 0), 1, 8) := by kernel_rfl
theorem info_int : ∃ i, Try.prog.info? 3 = some i ∧ i.zero = some (.int .i64 0) ∧ i.size = 1 ∧ i.bytes = 8 := by
  have h := infoInt
  cases hi : Try.prog.info? 3 with
  | none => rw [hi] at h; cases h
  | some i => rw [hi] at h; simp at h; exact ⟨i, rfl, h.1, h.2.1, h.2.2⟩

/-- Which of the files are segments up to sg. -/
def isSeg (sg x : Int) : Bool := decide (2 ≤ x) && decide (x ≤ sg)
def SegPost (s : St) (sg : Int) (w : World) (e : Ending) (w' : World) : Prop :=
  ∃ A m c, ∃ l : List Int, e = .returned (.slice A m c) ∧ m = l.length ∧ m ≤ c ∧ m ≤ 1000000 ∧ l.Pairwise (· < ·) ∧ (∀ x, x ∈ l ↔ (2 ≤ x ∧ x ≤ sg) ∧ ∃ a d, s.S x a = some d) ∧ Rd w' w'.heap.size A (l.map (Value.int .i64)) ∧ Below w.heap.size w w' ∧ ∀ k, (Value.slice A m c).ownBlock = some k → w.heap.size ≤ k

set_option maxRecDepth 100000 in
set_option maxHeartbeats 1600000 in
theorem segments_any (X : Nat → Prop) (b bl bm n : Nat) (s : St) (sg tl nx : Int) (w : World) (h : M w X b n s) (hn : n ≤ 1000000) (hg : LG w bl b bm sg tl nx) :
    Calls Try.prog 24 #[.pointer (some ⟨bl, 0, none⟩)] w (SegPost s sg w) := by
  obtain ⟨i0, hi0, hz0, hz1, hz2⟩ := info_int
  have HF := Lib.hid (filesX X b n s w h hn)
  have HG := Lib.hid hg
  have c0 := hg.cl.c0
  clear h hg
  go_enter Try.func24, Try.ntmps24
  go_wp2_with fail
  refine HF.out.mono ?_
  rintro e w1 ⟨A, m, c, l, rfl, hm, hm1, hp, hmem, hrd, hb⟩
  have HP := Lib.hid (And.intro hp (And.intro hmem (And.intro hm hb)))
  have HRD := Lib.hid hrd
  have HG1 : Hid (LG w1 bl b bm sg tl nx) := Lib.hid ((hb.block _ HG.out.lt).trans HG.out)
  clear hp hmem hrd hb hm HF c0
  go_wp2_with fail
  go_loopw [3, 5, 12] (fun v3 _ v12 wr => ∃ (i k c3 : Nat) (A3 : Option Addr), i ≤ m ∧ k ≤ i ∧ v3 = .slice A3 k c3 ∧ v12 = .int .i64 (i : Int) ∧
      Hid (k = ((l.take i).filter (isSeg sg)).length ∧ wr.ownsRow w1.heap.size 3 1 (.slice A3 k c3) k (((l.take i).filter (isSeg sg)).map (Value.int .i64)) ∧ Below w1.heap.size w1 wr)) (fun _ _ v12 _ => m - (RowKit.intOf v12).toNat)
  case atStart => exact ⟨0, 0, 0, none, by omega, by omega, rfl, rfl, Lib.hid ⟨rfl, World.ownsRow_nil _ _ _ _, Below.refl _ _⟩⟩
  case round =>
    obtain ⟨i, k, c3, A3, hi, hki, rfl, rfl, HH⟩ := hrel
    by_cases hlt : i < m
    · have hil : i < l.length := by rw [← HP.out.2.2.1]; exact hlt
      obtain ⟨ba, oa, rfl, hba, hcs⟩ := (HRD.out.below HH.out.2.2).int_at hil
      have hc0 := hcs i hil
      have hg2 : LG wr bl b bm sg tl nx := (HH.out.2.2.block _ HG1.out.lt).trans HG1.out
      have c1 := hg2.cl.c1
      clear hg2
      have HT := Lib.hid (show l.take (i + 1) = l.take i ++ [l[i]] from List.take_succ_eq_append_getElem hil)
      generalize l[i] = v at hc0 HT
      clear hcs hil
      by_cases hseg : 2 ≤ v ∧ v ≤ sg
      · have hs : isSeg sg v = true := by unfold isSeg; rw [decide_eq_true hseg.1, decide_eq_true hseg.2]; rfl
        have HE := Lib.hid (show (l.take (i + 1)).filter (isSeg sg) = (l.take i).filter (isSeg sg) ++ [v] from by rw [HT.out, List.filter_append]; simp [hs])
        have g1 : decide ((2 : Int) ≤ v) = true := decide_eq_true hseg.1
        have g2 : decide (v ≤ sg) = true := decide_eq_true hseg.2
        have HOA := Lib.hid (Fm.own_below HH.out.2.1 ((Below.refl _ wr).alloc (Nat.le_refl _) (.cells #[.int .i64 v] 3)))
        clear hs hseg HT
        go_wp2_with (first
          | (at_builtin; refine wpList_append_own_at _ rfl (.tmp 26) (.tmp 28) 23 rfl w1.heap.size 3 i0 _ 1 8 Try.underlying23 hi0 hz0 hz1 hz2 rfl (by decide) _ _ _ rfl HOA.out ⟨wr.heap.size, 0, none⟩ 1 1 [.int .i64 v] rfl rfl ?c1 ?c2 ?c3 ?c4 ?c5 ?_)
          | fail)
        case c1 =>
          intro j u hj
          match j, hj with
          | 0, hj => simp at hj; subst hj; simp [Addr.add]
        case c2 => intro u hu; simp at hu; subst hu; rfl
        case c3 => simp only [maxLen]; omega
        case c4 => omega
        case c5 =>
          have h1 := HH.out.2.2.size
          have h3 : wr.heap.size ≤ (wr.alloc (.cells #[.int .i64 v] 3)).heap.size := by simp
          omega
        intro v' w4 hown' hgrow _ hwhere
        obtain ⟨A4, c4, rfl, _⟩ := Fm.own_form hown'
        have HN : Hid (k + 1 = ((l.take (i + 1)).filter (isSeg sg)).length ∧ w4.ownsRow w1.heap.size 3 1 (.slice A4 (k + 1) c4) (k + 1) (((l.take (i + 1)).filter (isSeg sg)).map (Value.int .i64)) ∧ Below w1.heap.size w1 w4) := Lib.hid (by
          refine ⟨by rw [HE.out, List.length_append, ← HH.out.1]; rfl, by rw [HE.out, List.map_append]; exact hown', ?_⟩
          exact (HH.out.2.2.alloc HH.out.2.2.size _).grown hgrow (by have := HH.out.2.2.size; simp; omega) (fun q hq => (HOA.out.lt q hq).1))
        clear hown' hgrow hwhere HOA HE
        go_wp2_with fail
        go_roundw
        case rel => exact ⟨i + 1, k + 1, c4, A4, by omega, by omega, rfl, by go_num, HN⟩
        case measure => simp [RowKit.intOf]; omega
      · have hs : isSeg sg v = false := by
          unfold isSeg
          by_cases h2 : 2 ≤ v
          · rw [decide_eq_false (fun h => hseg ⟨h2, h⟩), Bool.and_false]
          · rw [decide_eq_false h2, Bool.false_and]
        have HE := Lib.hid (show (l.take (i + 1)).filter (isSeg sg) = (l.take i).filter (isSeg sg) from by rw [HT.out, List.filter_append]; simp [hs])
        have HN : Hid (k = ((l.take (i + 1)).filter (isSeg sg)).length ∧ wr.ownsRow w1.heap.size 3 1 (.slice A3 k c3) k (((l.take (i + 1)).filter (isSeg sg)).map (Value.int .i64)) ∧ Below w1.heap.size w1 wr) := Lib.hid (by rw [HE.out]; exact HH.out)
        by_cases h2 : 2 ≤ v
        · have g1 : decide ((2 : Int) ≤ v) = true := decide_eq_true h2
          have g2 : decide (v ≤ sg) = false := decide_eq_false (fun h => hseg ⟨h2, h⟩)
          clear hs hseg HT HE h2
          go_wp2_with fail
          go_roundw
          case rel => exact ⟨i + 1, k, c3, A3, by omega, by omega, rfl, by go_num, HN⟩
          case measure => simp [RowKit.intOf]; omega
        · have g1 : decide ((2 : Int) ≤ v) = false := decide_eq_false h2
          clear hs hseg HT HE h2
          go_wp2_with fail
          go_roundw
          case rel => exact ⟨i + 1, k, c3, A3, by omega, by omega, rfl, by go_num, HN⟩
          case measure => simp [RowKit.intOf]; omega
    · have HE := Lib.hid (show l.take i = l from List.take_of_length_le (by rw [← HP.out.2.2.1]; omega))
      have hkc : k ≤ c3 := Fm.own_cap HH.out.2.1
      go_wp2_with fail
      go_ret
      obtain ⟨h1, h2, h3⟩ := HH.out
      rw [HE.out] at h1 h2
      refine ⟨A3, k, c3, l.filter (isSeg sg), rfl, h1, hkc, by omega, HP.out.1.filter _, fun x => ?_, Rd.of_own h2, HP.out.2.2.2.trans (h3.mono HP.out.2.2.2.size), fun q hq => Nat.le_trans HP.out.2.2.2.size (h2.lt q hq).1⟩
      rw [List.mem_filter, HP.out.2.1]
      unfold isSeg
      rw [Bool.and_eq_true, decide_eq_true_eq, decide_eq_true_eq]
      exact ⟨fun h => ⟨h.2, h.1⟩, fun h => ⟨h.2, h.1⟩⟩
end Go.Proofs.Ytcmeaeemjecjiaa
