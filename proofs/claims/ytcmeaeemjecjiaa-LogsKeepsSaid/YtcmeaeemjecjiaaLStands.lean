/-
  CONTRACT of 'stands': the frame that stands at a sector of a segment.
-/
import Derived.Test.YtcmeaeemjecjiaaLOwn
import Derived.Test.YtcmeaeemjecjiaaFJoin
import Derived.Test.YtcmeaeemjecjiaaMApp
import Derived.Lib.MinMax
namespace Go.Proofs.Ytcmeaeemjecjiaa
open Go.RowKit Go.Maps
open Fm (sc sc_length joinV)

namespace Pl
theorem joinF_take8 (l : List ByteArray) : joinF (l.take 8) = joinF l := by
  cases l with
  | nil => rfl
  | cons s0 r =>
    rw [List.take_succ_cons]
    cases hT : tellF s0 with
    | none => rw [joinF_none hT, joinF_none hT]
    | some q =>
      obtain ⟨n, p, k, d⟩ := q
      obtain ⟨_, hok, _, _⟩ := tell_inv hT
      obtain ⟨_, _, hk8, _, _, _⟩ := (okB_iff _ _ _ _).1 hok
      by_cases hk : k ≤ (s0 :: r).length
      · have hk' : k ≤ (s0 :: r.take 7).length := by simp only [List.length_cons, List.length_take] at hk ⊢; omega
        rw [joinF_some hT hk, joinF_some hT hk']
        congr 2
        rw [← List.take_succ_cons, List.take_take, Nat.min_eq_left (by omega)]
      · have hk' : (s0 :: r.take 7).length < k := by simp only [List.length_cons, List.length_take] at hk ⊢; omega
        rw [joinF_short hT hk', joinF_short hT (by omega)]
theorem run_length_le (T : Md) (f : Nat) : ∀ m a, (run T f a m).length ≤ m := by
  intro m
  induction m with
  | zero => intro a; simp [run]
  | succ m ih =>
    intro a
    unfold run
    split
    · simp
    · have := ih (a + 1)
      simp only [List.length_cons]
      omega
theorem run_take (T : Md) (f : Nat) : ∀ k m a, k ≤ m → run T f a k = (run T f a m).take k := by
  intro k
  induction k with
  | zero => intro m a _; simp [run]
  | succ k ih =>
    intro m a h
    obtain ⟨m', rfl⟩ : ∃ m', m = m' + 1 := ⟨m - 1, by omega⟩
    unfold run
    cases T f a with
    | none => simp
    | some s => simp only [List.take_succ_cons]; rw [ih m' (a + 1) (by omega)]
/-- One sector more. -/
theorem run_more (T : Md) (f : Nat) : ∀ k a s, (run T f a k).length = k → T f (a + k) = some s → run T f a (k + 1) = run T f a k ++ [s] ∧ (run T f a (k + 1)).length = k + 1 := by
  intro k
  induction k with
  | zero => intro a s _ h; simp only [run]; rw [show a = a + 0 from rfl, h]; exact ⟨rfl, rfl⟩
  | succ k ih =>
    intro a s hl h
    unfold run at hl
    cases hT : T f a with
    | none => rw [hT] at hl; simp at hl
    | some s0 =>
      rw [hT] at hl
      have hl' : (run T f (a + 1) k).length = k := by simpa using hl
      obtain ⟨h1, h2⟩ := ih (a + 1) s hl' (by rw [show a + 1 + k = a + (k + 1) from by omega]; exact h)
      have e1 : run T f a (k + 1 + 1) = s0 :: run T f (a + 1) (k + 1) := by conv => lhs; unfold run; rw [hT]
      have e2 : run T f a (k + 1) = s0 :: run T f (a + 1) k := by conv => lhs; unfold run; rw [hT]
      rw [e1, e2, h1]
      refine ⟨rfl, ?_⟩
      rw [h1] at h2
      simpa using h2
/-- Behind the last one. -/
theorem run_stop (T : Md) (f : Nat) : ∀ k m a, (run T f a k).length = k → T f (a + k) = none → k ≤ m → run T f a m = run T f a k := by
  intro k
  induction k with
  | zero =>
    intro m a _ h _
    cases m with
    | zero => rfl
    | succ m => conv => lhs; unfold run
                rw [show a = a + 0 from rfl, h]; rfl
  | succ k ih =>
    intro m a hl h hm
    obtain ⟨m', rfl⟩ : ∃ m', m = m' + 1 := ⟨m - 1, by omega⟩
    unfold run at hl ⊢
    cases hT : T f a with
    | none => exfalso; rw [hT] at hl; simp at hl
    | some s0 =>
      rw [hT] at hl
      have hl' : (run T f (a + 1) k).length = k := by simpa using hl
      simp only
      rw [ih m' (a + 1) hl' (by rw [show a + 1 + k = a + (k + 1) from by omega]; exact h) (by omega)]
theorem stands_end (T : Md) (f a k : Nat) (hk : a + k = min (a + 8) 16) (ha : a ≤ 16) : joinF (run T f a k) = stands T f a := by
  unfold stands
  by_cases h : k = 16 - a
  · rw [h]
  · have : k = 8 := by omega
    rw [this, ← joinF_take8 (run T f a (16 - a)), ← run_take T f 8 (16 - a) a (by omega)]
theorem stands_stop (T : Md) (f a k : Nat) (hl : (run T f a k).length = k) (hT : T f (a + k) = none) (hk : a + k < 16) : joinF (run T f a k) = stands T f a := by
  unfold stands
  rw [run_stop T f k (16 - a) a hl hT (by omega)]
end Pl

/-- What 'stands' answers, as a value. -/
def standV : Option (Nat × List UInt8 × Nat) → Value
  | none => .tuple #[.agg #[.int .i64 0, .string ⟨#[]⟩], .int .i64 0]
  | some (n, d, k) => .tuple #[.agg #[.int .i64 (n : Int), .string ⟨d.toArray⟩], .int .i64 (k : Int)]
def StandPost (r : Option (Nat × List UInt8 × Nat)) (w : World) (e : Ending) (w' : World) : Prop := e = .returned (standV r) ∧ Below w.heap.size w w'

/-- A Frame as a block. -/
def FB (w : World) (g : Nat) (v0 v1 : Value) : Prop := w.heap[g]? = some (.cells #[v0, v1] 40 (0, 0))
theorem load_frame {W : World} {b : Nat} {v0 v1 : Value} (h : FB W b v0 v1) :
    (loadVar 40 ⟨b, 0, none⟩).run Try.prog W = .ok (.agg #[v0, v1]) W := by
  have c0 : W.cell? ⟨b, 0, none⟩ = some v0 := by rw [cell_of_block h]; rfl
  have c1 : W.cell? ⟨b, 1, none⟩ = some v1 := by rw [cell_of_block h]; rfl
  go_simp
theorem ret_frame {W : World} {b : Nat} {v0 v1 u : Value} {fn : Func} {p q : Tmp} {tmps : Array Value} (hf : fn.results = #[.cell p 40, .tmp q]) (hp : tmps.getD p undef = .pointer (some ⟨b, 0, none⟩)) (hq : tmps.getD q undef = u)
    (h : FB W b v0 v1) : (results fn tmps).run Try.prog W = .ok (.tuple #[.agg #[v0, v1], u]) W := by
  rw [results_cell_tmp hf, hp, hq]
  simp [asAddr, Result.andThen, load_frame h]

theorem read_at (s : St) (f i : Nat) (hoff : s.off = false) (hf : f < 1048576) (hi : i < 65536) : readF s (f : Int) (i : Int) = match mdT s f i with | none => (⟨#[]⟩, 41) | some d => (d, 0) := by
  unfold readF mdT
  have h1 : isF (f : Int) = true := by simp [isF]; omega
  have h2 : isS (i : Int) = true := by simp [isS]; omega
  rw [hoff, h1, h2]
  rfl

/-- Join's answer and that of 'stands', by their parts. -/
theorem stand_parts (r : Option (Nat × List UInt8 × Nat)) : ∃ (q0 q2 q3 : Int) (q1 : ByteArray), joinV r = .tuple #[.int .i64 q0, .string q1, .int .i64 q2, .int .i64 q3] ∧ standV r = .tuple #[.agg #[.int .i64 q0, .string q1], .int .i64 q2] := by
  cases r with
  | none => exact ⟨_, _, _, _, rfl, rfl⟩
  | some q => obtain ⟨n, d, k⟩ := q; exact ⟨_, _, _, _, rfl, rfl⟩

set_option maxRecDepth 100000 in
set_option maxHeartbeats 3200000 in
theorem stands_any (X : Nat → Prop) (b n : Nat) (s : St) (f a : Nat) (w : World) (h : M w X b n s) (hoff : s.off = false) (hf : f < 1048576) (ha : a ≤ 16) :
    Calls Try.prog 31 #[.pointer (some ⟨b, 0, none⟩), .int .i64 (f : Int), .int .i64 (a : Int)] w (StandPost (Pl.stands (mdT s) f a) w) := by
  obtain ⟨i0, hi0, hz0, hz1, hz2⟩ := info_parts Fm.infoS
  have HM := Lib.hid h
  have HOFF := Lib.hid hoff
  obtain ⟨q0, q2, q3, q1, hq, hqs⟩ := stand_parts (Pl.stands (mdT s) f a)
  have HQ := Lib.hid hq
  have HQS := Lib.hid hqs
  clear h hoff hq hqs
  go_enter Try.func31, Try.ntmps31
  go_wp2_with fail
  have HFB0 : Hid (FB (w.alloc (.cells #[.int .i64 0, .string ByteArray.empty] 40)) w.heap.size (.int .i64 0) (.string ByteArray.empty)) := Lib.hid (Fm.new_block _ _)
  go_loopw [8, 9] (fun v8 v9 wr => ∃ (k c : Nat) (A : Option Addr), a + k ≤ min (a + 8) 16 ∧ v8 = .slice A k c ∧ v9 = .int .i64 ((a + k : Nat) : Int) ∧
      Hid ((Pl.run (mdT s) f a k).length = k ∧ wr.ownsRow (w.heap.size + 1) 9 1 (.slice A k c) k (sc (Pl.run (mdT s) f a k)) ∧ FB wr w.heap.size (.int .i64 0) (.string ByteArray.empty) ∧ Below w.heap.size w wr ∧ w.heap.size + 1 ≤ wr.heap.size))
    (fun _ v9 _ => 16 - (RowKit.intOf v9).toNat)
  case atStart => exact ⟨0, 0, none, by omega, rfl, rfl, Lib.hid ⟨rfl, World.ownsRow_nil _ _ _ _, HFB0.out, (Below.refl _ _).alloc (Nat.le_refl _) _, by simp⟩⟩
  case round =>
    obtain ⟨k, c, A, hk, rfl, rfl, HH⟩ := hrel
    clear HFB0
    have hkc : k ≤ c := Fm.own_cap HH.out.2.1
    have hend : ∀ w2 : World, Below wr.heap.size wr w2 → Pl.joinF (Pl.run (mdT s) f a k) = Pl.stands (mdT s) f a →
        Hid (Calls Try.prog 36 #[.slice A k c] w2 (fun e w' => e = .returned (.tuple #[.int .i64 q0, .string q1, .int .i64 q2, .int .i64 q3]) ∧ Hid (FB w' w.heap.size (.int .i64 0) (.string ByteArray.empty) ∧ Below w.heap.size w w'))) := fun w2 hb2 hst => Lib.hid (by
      obtain ⟨hl, hown, hfb, hbw, hsz⟩ := HH.out
      refine (Fm.join_any A k c _ w2 hl.symm hkc ?_).mono ?_
      · exact ((Fm.Rd.of_own hown).below hb2).mono hb2.size
      · rintro e w3 ⟨he, hb3⟩
        rw [hst, HQ.out] at he
        refine ⟨he, Lib.hid ⟨(hb3.block _ (by have := hb2.size; omega)).trans ((hb2.block _ (by omega)).trans hfb), (hbw.trans (hb2.mono hbw.size)).trans (hb3.mono (Nat.le_trans hbw.size hb2.size))⟩⟩)
    by_cases hlt : a + k < min (a + 8) 16
    · cases hT : mdT s f (a + k) with
      | none =>
        have hJ := fun w2 hb2 => hend w2 hb2 (Pl.stands_stop (mdT s) f a k HH.out.1 hT (by omega))
        have hrd : Hid (Calls Try.prog 19 #[.pointer (some ⟨b, 0, none⟩), .int .i64 (f : Int), .int .i64 ((a + k : Nat) : Int)] wr (ReadPost (⟨#[]⟩, 41) wr)) := Lib.hid (by
          have := readX X b n s (f : Int) ((a + k : Nat) : Int) wr (HM.out.below HH.out.2.2.2.1) (by constructor <;> omega) (by constructor <;> omega)
          rwa [read_at s f (a + k) HOFF.out hf (by omega), hT] at this)
        clear hend hT
        go_wp2_with fail
        refine hrd.out.mono ?_
        rintro e w2 ⟨rfl, hb2⟩
        have HJ := hJ w2 hb2
        clear hJ hb2 hrd
        go_wp2_with fail
        refine HJ.out.mono ?_
        rintro e w3 ⟨rfl, HF⟩
        have c0 : w3.cell? ⟨w.heap.size, 0, none⟩ = some (.int .i64 0) := by rw [cell_of_block HF.out.1]; rfl
        have c1 : w3.cell? ⟨w.heap.size, 1, none⟩ = some (.string ByteArray.empty) := by rw [cell_of_block HF.out.1]; rfl
        have f0 : w3.frozen? ⟨w.heap.size, 0, none⟩ = false := frozen_of_block HF.out.1
        have f1 : w3.frozen? ⟨w.heap.size, 1, none⟩ = false := frozen_of_block HF.out.1
        clear HJ
        go_wp2_with fail
        (try simp only [Exit.inBlock, Exit.then])
        refine bodyPost_ret (ret_frame rfl rfl rfl (by unfold FB; rw [block_setCell (block_setCell HF.out.1 _) _]; rfl)) rfl ?_
        exact ⟨by rw [HQS.out]; rfl, (HF.out.2.setCell (p := ⟨w.heap.size, 0, none⟩) (Nat.le_refl _) _).setCell (p := ⟨w.heap.size, 1, none⟩) (Nat.le_refl _) _⟩
      | some d =>
        obtain ⟨hm1, hm2⟩ := Pl.run_more (mdT s) f k a d HH.out.1 hT
        have hrd : Hid (Calls Try.prog 19 #[.pointer (some ⟨b, 0, none⟩), .int .i64 (f : Int), .int .i64 ((a + k : Nat) : Int)] wr (ReadPost (d, 0) wr)) := Lib.hid (by
          have := readX X b n s (f : Int) ((a + k : Nat) : Int) wr (HM.out.below HH.out.2.2.2.1) (by constructor <;> omega) (by constructor <;> omega)
          rwa [read_at s f (a + k) HOFF.out hf (by omega), hT] at this)
        have HM1 := Lib.hid hm1
        have HM2 := Lib.hid hm2
        clear hend hT hm1 hm2
        go_wp2_with fail
        refine hrd.out.mono ?_
        rintro e w2 ⟨rfl, hb2⟩
        have HO2 : Hid (w2.ownsRow (w.heap.size + 1) 9 1 (.slice A k c) k (sc (Pl.run (mdT s) f a k))) := Lib.hid (Fm.own_below HH.out.2.1 hb2)
        have HOA : Hid ((w2.alloc (.cells #[.string d] 9)).ownsRow (w.heap.size + 1) 9 1 (.slice A k c) k (sc (Pl.run (mdT s) f a k))) := Lib.hid (Fm.own_below HO2.out ((Below.refl _ _).alloc (Nat.le_refl _) _))
        have HB2 := Lib.hid hb2
        clear hb2 hrd
        go_wp2_with (first
          | (at_builtin; refine wpList_append_own_at _ rfl (.tmp 33) (.tmp 35) 31 rfl (w.heap.size + 1) 9 i0 _ 1 16 Try.underlying31 hi0 hz0 hz1 hz2 rfl (by decide) _ _ _ rfl HOA.out ⟨w2.heap.size, 0, none⟩ 1 1 [.string d] rfl rfl ?c1 ?c2 ?c3 ?c4 ?c5 ?_)
          | fail)
        case c1 =>
          intro j u hj
          match j, hj with
          | 0, hj => simp at hj; subst hj; simp [Addr.add]
        case c2 => intro u hu; simp at hu; subst hu; rfl
        case c3 => simp only [maxLen]; omega
        case c4 => omega
        case c5 => have h1 := HH.out.2.2.2.2; have h2 := HB2.out.size; have h3 : w2.heap.size ≤ (w2.alloc (.cells #[.string d] 9)).heap.size := by simp
                   omega
        intro v' w4 hown' hgrow _ hwhere
        obtain ⟨A4, c4, rfl, _⟩ := Fm.own_form hown'
        have HB4 := Lib.hid (((Below.refl _ _).alloc (Nat.le_refl _) _ : Below w2.heap.size w2 (w2.alloc (.cells #[.string d] 9))))
        have HN : Hid ((Pl.run (mdT s) f a (k + 1)).length = k + 1 ∧ w4.ownsRow (w.heap.size + 1) 9 1 (.slice A4 (k + 1) c4) (k + 1) (sc (Pl.run (mdT s) f a (k + 1))) ∧ FB w4 w.heap.size (.int .i64 0) (.string ByteArray.empty) ∧ Below w.heap.size w w4 ∧ w.heap.size + 1 ≤ w4.heap.size) := Lib.hid (by
          have s1 := HH.out.2.2.2.2
          have s2 := HB2.out.size
          have s3 : (w2.alloc (.cells #[.string d] 9)).heap.size = w2.heap.size + 1 := by simp
          have s4 := hgrow.size
          have hob : ∀ q, Value.ownBlock (.slice A k c) = some q → w.heap.size + 1 ≤ q := fun q hq => (HOA.out.lt q hq).1
          refine ⟨HM2.out, by rw [HM1.out, Fm.sc_append]; exact hown', ?_, ?_, by omega⟩
          · refine (hgrow.block _ (by omega) (fun e => by have := hob _ e.symm; omega)).trans ((HB4.out.block _ (by omega)).trans ((HB2.out.block _ (by omega)).trans HH.out.2.2.1))
          · exact ((HH.out.2.2.2.1.trans (HB2.out.mono (by omega))).trans (HB4.out.mono (by omega))).grown hgrow (by omega) (fun q hq => by have := hob q hq; omega))
        clear hown' hgrow hwhere HO2 HOA HB2 HB4 HM1 HM2
        go_wp2_with fail
        go_roundw
        case rel => exact ⟨k + 1, c4, A4, by omega, rfl, by go_num, HN⟩
        case measure => simp [RowKit.intOf]; omega
    · have HJ := hend wr (Below.refl _ _) (Pl.stands_end (mdT s) f a k (by omega) ha)
      clear hend
      go_wp2_with fail
      refine HJ.out.mono ?_
      rintro e w3 ⟨rfl, HF⟩
      have c0 : w3.cell? ⟨w.heap.size, 0, none⟩ = some (.int .i64 0) := by rw [cell_of_block HF.out.1]; rfl
      have c1 : w3.cell? ⟨w.heap.size, 1, none⟩ = some (.string ByteArray.empty) := by rw [cell_of_block HF.out.1]; rfl
      have f0 : w3.frozen? ⟨w.heap.size, 0, none⟩ = false := frozen_of_block HF.out.1
      have f1 : w3.frozen? ⟨w.heap.size, 1, none⟩ = false := frozen_of_block HF.out.1
      clear HJ
      go_wp2_with fail
      (try simp only [Exit.inBlock, Exit.then])
      refine bodyPost_ret (ret_frame rfl rfl rfl (by unfold FB; rw [block_setCell (block_setCell HF.out.1 _) _]; rfl)) rfl ?_
      exact ⟨by rw [HQS.out]; rfl, (HF.out.2.setCell (p := ⟨w.heap.size, 0, none⟩) (Nat.le_refl _) _).setCell (p := ⟨w.heap.size, 1, none⟩) (Nat.le_refl _) _⟩
end Go.Proofs.Ytcmeaeemjecjiaa
