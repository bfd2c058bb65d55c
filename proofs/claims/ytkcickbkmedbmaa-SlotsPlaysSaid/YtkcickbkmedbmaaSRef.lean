/-
  CONTRACTS of the reference's sector, Sectors, Lay.
-/
import Derived.Test.YtkcickbkmedbmaaSStored
import Derived.Test.YtkcickbkmedbmaaSRSum
import Derived.Lib.AppendStr
import Derived.Lib.MinMax
namespace Go.Proofs.Ytkcickbkmedbmaa
open Go.RowKit
open Fm (bv bv_length)

def rb (n p k : Nat) (d : List UInt8) (m : Nat) : List UInt8 := Fm.hd9 n p k d.length ++ (d ++ List.replicate m 0)
theorem rb_length (n p k : Nat) (d : List UInt8) (m : Nat) : (rb n p k d m).length = 9 + d.length + m := by simp [rb, Fm.hd9]; omega
theorem rb_succ (n p k : Nat) (d : List UInt8) (m : Nat) : bv (rb n p k d (m + 1)) = bv (rb n p k d m) ++ [.int .u8 0] := by
  unfold rb
  rw [List.replicate_succ', ← List.append_assoc, ← List.append_assoc, ← List.append_assoc, Fm.bv_append]
  rfl
theorem rb_full (n p k : Nat) (d : List UInt8) : rb n p k d (53 - d.length) = Ps.bodyL n p k d := rfl
theorem cells9r (n p k m : Nat) (hn : n ≤ 4294967295) (hp : p ≤ 18868) (hk : k ≤ 18868) (hm : m ≤ 255) : [Value.int .u8 ((n : Int) / 16777216), .int .u8 ((n : Int) / 65536 % 256), .int .u8 ((n : Int) / 256 % 256), .int .u8 ((n : Int) % 256), .int .u8 ((p : Int) / 256), .int .u8 ((p : Int) % 256), .int .u8 ((k : Int) / 256), .int .u8 ((k : Int) % 256), .int .u8 (m : Int)] = bv (Fm.hd9 n p k m) := by
  have e0 : Value.int .u8 ((n : Int) / 16777216) = Value.int .u8 ((UInt8.ofNat (n / 16777216)).toNat : Int) := by rw [← Fm.u8v]; congr 1; omega
  have e1 : Value.int .u8 ((n : Int) / 65536 % 256) = Value.int .u8 ((UInt8.ofNat (n / 65536)).toNat : Int) := by rw [← Fm.u8v]; rfl
  have e2 : Value.int .u8 ((n : Int) / 256 % 256) = Value.int .u8 ((UInt8.ofNat (n / 256)).toNat : Int) := by rw [← Fm.u8v]; rfl
  have e4 : ∀ x : Nat, x ≤ 18868 → Value.int .u8 ((x : Int) / 256) = Value.int .u8 ((UInt8.ofNat (x / 256)).toNat : Int) := fun x hx => by rw [← Fm.u8v]; congr 1; omega
  rw [e0, e1, e2, e4 p hp, e4 k hk, Fm.u8v, Fm.u8v, Fm.u8v, Fm.u8w m hm]
  rfl
theorem cells2r (x : Nat) (hx : x < 65536) : [Value.int .u8 ((x : Int) / 256), .int .u8 ((x : Int) % 256)] = bv [UInt8.ofNat (x / 256), UInt8.ofNat x] := by
  have e0 : Value.int .u8 ((x : Int) / 256) = Value.int .u8 ((UInt8.ofNat (x / 256)).toNat : Int) := by rw [← Fm.u8v]; congr 1; omega
  rw [e0, Fm.u8v]
  rfl

set_option maxRecDepth 100000 in
set_option maxHeartbeats 1600000 in
theorem rsector_any (n p k : Nat) (d : ByteArray) (w : World) (hn : n ≤ 4294967295) (hp : p ≤ 18868) (hk : k ≤ 18868) (hd : d.size ≤ 53) :
    Calls Try.prog 32 #[.int .i64 (n : Int), .int .i64 (p : Int), .int .i64 (k : Int), .string d] w fun e w' => e = .returned (.string (Ps.secB n p k d)) ∧ Below w.heap.size w w' := by
  obtain ⟨i0, hi, hz0, hz1, hz2⟩ := info_parts Fm.infoU
  have hl := Ps.length_toList d
  have hown := World.ownsRow_lit (base := w.heap.size) (e := 5) (size := 1) w #[Value.int .u8 ((n : Int) / 16777216), .int .u8 ((n : Int) / 65536 % 256), .int .u8 ((n : Int) / 256 % 256), .int .u8 ((n : Int) % 256), .int .u8 ((p : Int) / 256), .int .u8 ((p : Int) % 256), .int .u8 ((k : Int) / 256), .int .u8 ((k : Int) % 256), .int .u8 (d.size : Int)] 9 (Nat.le_refl _) (by simp only [maxLen]; omega) rfl
  rw [show (#[Value.int .u8 ((n : Int) / 16777216), .int .u8 ((n : Int) / 65536 % 256), .int .u8 ((n : Int) / 256 % 256), .int .u8 ((n : Int) % 256), .int .u8 ((p : Int) / 256), .int .u8 ((p : Int) % 256), .int .u8 ((k : Int) / 256), .int .u8 ((k : Int) % 256), .int .u8 (d.size : Int)] : Array Value).toList = bv (Fm.hd9 n p k d.size) from cells9r n p k d.size hn hp hk (by omega)] at hown
  have HO0 := Lib.hid hown
  clear hown
  go_enter Try.func32, Try.ntmps32
  go_wp2_with (first
    | (refine Lib.wpList_append_own_string _ rfl (.tmp 36) (.tmp 37) 59 9 rfl w.heap.size 5 i0 Try.underlying59 Try.underlying9 hi hz0 hz1 hz2 _ 9 (bv (Fm.hd9 n p k d.size)) rfl HO0.out d rfl (by simp only [maxLen]; omega) (by omega) (by simp) ?_; intro v1 w1 ho1 hg1 _)
    | fail)
  have hb1 : Below w.heap.size w w1 := ((Below.refl w.heap.size w).alloc (Nat.le_refl _) _).grown hg1 (by simp) (fun q hq => (HO0.out.lt q hq).1)
  have ho2 : w1.ownsRow w.heap.size 5 1 v1 (9 + d.size + 0) (bv (rb n p k d.data.toList 0)) := by
    rw [show bv (rb n p k d.data.toList 0) = bv (Fm.hd9 n p k d.size) ++ Lib.strCells d from by unfold rb; rw [hl, Fm.bv_append, Fm.bv_append, List.replicate_zero, str_bv]; simp [bv]]
    exact ho1
  obtain ⟨A1, c1, rfl, _⟩ := own_form ho1
  have HO1 := Lib.hid ho2
  have HB1 := Lib.hid hb1
  clear ho1 hg1 hb1 ho2 HO0
  go_loopw [9] (fun v wr => ∃ (m : Nat) (A : Option Addr) (c : Nat), v = .slice A (9 + d.size + m) c ∧ d.size + m ≤ 53 ∧ Hid (wr.ownsRow w.heap.size 5 1 (.slice A (9 + d.size + m) c) (9 + d.size + m) (bv (rb n p k d.data.toList m))) ∧ Hid (Below w.heap.size w wr))
    (fun v _ => match v with | .slice _ m _ => 62 - m | _ => 0)
  case atStart => exact ⟨0, A1, c1, rfl, by omega, HO1, HB1⟩
  case round =>
    obtain ⟨m, A, c, rfl, hm, HO, HB⟩ := hrel
    have hsz := HB.out.size
    by_cases hlt : d.size + m < 53
    · go_wp2_with (first
        | (at_builtin; refine wpList_append_own _ rfl (.tmp 42) (.tmp 43) 59 rfl w.heap.size 5 i0 (.int .u8 0) 1 1 Try.underlying59 hi hz0 hz1 hz2 rfl (by decide) _ _ _ rfl (HO.out.alloc _) ⟨wr.heap.size, 0, none⟩ 1 1 [.int .u8 0] rfl rfl ?c1 ?c2 ?c3 ?c4 ?c5 ?_)
        | fail)
      case c1 =>
        intro j u hj
        match j, hj with
        | 0, hj => simp at hj; subst hj; simp [Addr.add]
      case c2 => intro u hu; simp at hu; subst hu; rfl
      case c3 => simp only [maxLen]; omega
      case c4 => omega
      case c5 => simp; omega
      intro v' w2 hown' hgrow _
      have hb2 : Below w.heap.size w w2 := (HB.out.alloc (by omega) _).grown hgrow (by simp; omega) (fun q hq => (HO.out.lt q hq).1)
      obtain ⟨A', c', rfl, _⟩ := own_form hown'
      have HO2 : Hid (w2.ownsRow w.heap.size 5 1 (.slice A' (9 + d.size + (m + 1)) c') (9 + d.size + (m + 1)) (bv (rb n p k d.data.toList (m + 1)))) := Lib.hid (by rw [rb_succ]; exact hown')
      have HB2 := Lib.hid hb2
      clear hown' hgrow hb2
      go_wp2_with fail
      go_roundw
      case rel => exact ⟨m + 1, A', c', rfl, by omega, HO2, HB2⟩
      case measure => simp; omega
    · have hm55 : m = 53 - d.size := by omega
      subst hm55
      have hbl := Ps.bodyL_length n p k d.data.toList (by omega)
      have hof : wr.ownsRow w.heap.size 5 1 (.slice A 62 c) 62 (bv (Ps.bodyL n p k d.data.toList)) := by
        have := HO.out
        rwa [show 9 + d.size + (53 - d.size) = 62 from by omega, ← hl, rb_full] at this
      rw [show 9 + d.size + (53 - d.size) = 62 from by omega]
      have HOF := Lib.hid hof
      have htx := own_string hof hbl.symm
      have HX : Hid (Ps.sumF 1 (Ps.bodyL n p k d.data.toList) < 65521) := Lib.hid (Ps.sumF_lt _ _ (by omega))
      have HS := fun W => Fm.rsum_any ⟨(Ps.bodyL n p k d.data.toList).toArray⟩ W (by simp only [maxLen]; show (Ps.bodyL n p k d.data.toList).toArray.size ≤ _; simp; omega)
      simp only [Fm.sumF_eq] at HS
      have HSB : Hid (Ps.secB n p k d = ⟨(Ps.bodyL n p k d.data.toList ++ [UInt8.ofNat (Ps.sumF 1 (Ps.bodyL n p k d.data.toList) / 256), UInt8.ofNat (Ps.sumF 1 (Ps.bodyL n p k d.data.toList))]).toArray⟩) := Lib.hid rfl
      have HS := Lib.hid HS
      have HBL := Lib.hid hbl
      clear hof HO hbl
      go_wp2_with fail
      refine (HS.out _).mono ?_
      clear HS htx
      generalize Ps.bodyL n p k d.data.toList = body at HOF HX HSB HBL ⊢
      generalize Ps.sumF 1 body = x at HX HSB ⊢
      have hx := HX.out
      have ho2 := World.ownsRow_lit (base := wr.heap.size) (e := 5) (size := 1) wr #[Value.int .u8 ((x : Int) / 256), .int .u8 ((x : Int) % 256)] 2 (Nat.le_refl _) (by simp only [maxLen]; omega) rfl
      rintro e w2 ⟨rfl, rfl⟩
      go_wp2_with (first
        | (at_builtin; refine wpList_append_own _ rfl (.tmp 48) (.tmp 54) 59 rfl w.heap.size 5 i0 (.int .u8 0) 1 1 Try.underlying59 hi hz0 hz1 hz2 rfl (by decide) _ _ _ rfl (HOF.out.alloc _) ⟨wr.heap.size, 0, none⟩ 2 2 [.int .u8 ((x : Int) / 256), .int .u8 ((x : Int) % 256)] rfl rfl ?d1 ?d2 ?d3 ?d4 ?d5 ?_)
        | fail)
      case d1 =>
        intro j u hj
        match j, hj with
        | 0, hj => simp at hj; subst hj; simp [Addr.add]
        | 1, hj => simp at hj; subst hj; simp [Addr.add]
      case d2 => intro u hu; simp at hu; rcases hu with rfl | rfl <;> rfl
      case d3 => simp only [maxLen]; omega
      case d4 => omega
      case d5 => simp; omega
      intro v' w3 hown' hgrow _
      have hb3 : Below w.heap.size w w3 := (HB.out.alloc (by omega) _).grown hgrow (by simp; omega) (fun q hq => (HOF.out.lt q hq).1)
      rw [cells2r x (by omega), ← Fm.bv_append] at hown'
      have htx := own_string hown' (by rw [List.length_append, HBL.out]; rfl)
      have HB3 := Lib.hid hb3
      clear hown' hgrow hb3 ho2
      go_wp2_with fail
      go_ret
      exact ⟨by rw [HSB.out]; rfl, HB3.out⟩


/-- How many sectors the reference says. -/
theorem rsects_any (z : Int) (w : World) (h0 : -9223372036854775808 ≤ z) (h1 : z < 1099511627776) : Calls Try.prog 24 #[.int .i64 z] w fun e w' => e = .returned (.int .i64 (Fm.sectF z)) ∧ w = w' := by
  have HP := Lib.hid (show Fm.sectF z = max 1 ((max z 0 + 53 - 1) / 53) from by unfold Fm.sectF; omega)
  go_enter Try.func24, Try.ntmps24
  go_wp2
  go_ret
  exact ⟨by rw [HP.out]; rfl, rfl⟩
theorem rsects_big (z : Int) (w : World) : Calls Try.prog 24 #[.int .i64 z] w fun e w' => (∃ r : Int, e = .returned (.int .i64 r)) ∧ w = w' := by
  go_enter Try.func24, Try.ntmps24
  go_wp2
  go_ret
  exact ⟨⟨_, rfl⟩, rfl⟩

/-- What Lay leaves. -/
def LayS (l : List ByteArray) (w : World) (e : Ending) (w' : World) : Prop := ∃ A c, e = .returned (.tuple #[.slice A l.length c, .int .i64 0]) ∧ l.length ≤ c ∧ Rd w' w'.heap.size A (Fm.sc l) ∧ Below w.heap.size w w' ∧ ∀ b, A = some b → w.heap.size ≤ b.block
theorem own_rd {w w' : World} {m c : Nat} {A : Option Addr} {l : List ByteArray} (h : w'.ownsRow w.heap.size 9 1 (.slice A m c) m (Fm.sc l)) (hm : l.length = m) (hb : Below w.heap.size w w') : LayS l w (.returned (.tuple #[.slice A m c, .int .i64 0])) w' := by
  subst hm
  refine ⟨A, c, rfl, own_cap h, Rd.of_own h, hb, fun b hA => ?_⟩
  rcases h.2 with ⟨hv, _⟩ | ⟨g, cap, cur, hv, hg, _⟩
  · subst hA; cases hv
  · subst hA
    injection hv with hv
    injection hv with hv
    rw [hv]; exact hg

set_option maxRecDepth 100000 in
set_option maxHeartbeats 1600000 in
theorem rlay_none (z : Int) (data : ByteArray) (w : World) (hbad : ¬ (1 ≤ z ∧ z ≤ 2147483647) ∨ 1000000 < data.size) :
    Calls Try.prog 18 #[.int .i64 z, .string data] w fun e w' => e = .returned (.tuple #[.slice none 0 0, .int .i64 43]) ∧ Below w.heap.size w w' := by
  by_cases c1 : z < 1
  · go_enter Try.func18, Try.ntmps18
    go_wp2_with fail
    go_ret2
    exact ⟨rfl, Below.refl _ _⟩
  · by_cases c2 : 2147483647 < z
    · go_enter Try.func18, Try.ntmps18
      go_wp2_with fail
      go_ret2
      exact ⟨rfl, Below.refl _ _⟩
    · have c3 : decide ((1000000 : Int) < (data.size : Int)) = true := decide_eq_true (by omega)
      clear hbad
      go_enter Try.func18, Try.ntmps18
      go_wp2_with fail
      go_ret2
      exact ⟨rfl, Below.refl _ _⟩

set_option maxRecDepth 100000 in
set_option maxHeartbeats 3200000 in
theorem rlay_some (n : Nat) (data : ByteArray) (w : World) (hn1 : 1 ≤ n) (hn2 : n ≤ 2147483647) (hs : data.size ≤ 1000000) :
    Calls Try.prog 18 #[.int .i64 (n : Int), .string data] w (LayS (Ps.secs n data) w) := by
  obtain ⟨m, hm⟩ : ∃ m, Ps.partsN data.size = m := ⟨_, rfl⟩
  have hp1 := Ps.partsN_pos data.size
  have hp8 := Ps.partsN_le hs
  have hpl := Ps.partsN_lo data.size
  have HSF : Hid (Fm.sectF (data.size : Int) = (m : Int)) := Lib.hid (by rw [Fm.sectF_nat, hm])
  rw [hm] at hp1 hp8 hpl
  obtain ⟨i0, hi, hz0, hz1, hz2⟩ := info_parts Fm.infoS
  have HLEN := Lib.hid (show (Ps.secs n data).length = m from by rw [Ps.secs_length, hm])
  have HP := Lib.hid (fun i (h : i < m) => Ps.piece_ok n data i hn1 hn2 hs (by rw [hm]; exact h))
  have HG := Lib.hid (fun i (h : i < m) => Ps.secs_get n data i (by rw [hm]; exact h))
  rw [hm] at HG
  have HS := Lib.hid hs
  clear hm
  go_enter Try.func18, Try.ntmps18
  go_wp2_with fail
  refine (rsects_any _ _ (by omega) (by have := HS.out; omega)).mono ?_
  rw [HSF.out]
  rintro e w1 ⟨rfl, rfl⟩
  clear hs HSF
  go_wp2_with fail
  go_loopw [7, 8] (fun v i wr => ∃ (k c : Nat) (A : Option Addr), k ≤ m ∧ i = .int .i64 (k : Int) ∧ v = .slice A k c ∧ Hid (wr.ownsRow w.heap.size 9 1 (.slice A k c) k (Fm.sc ((Ps.secs n data).take k))) ∧ Hid (Below w.heap.size w wr)) (fun _ i _ => m - (RowKit.intOf i).toNat)
  case atStart => exact ⟨0, 0, none, by omega, rfl, rfl, Lib.hid (by simpa [Fm.sc] using World.ownsRow_nil _ _ _ _), Lib.hid (Below.refl _ _)⟩
  case round =>
    obtain ⟨k, c, A, hk, rfl, rfl, HO, HW⟩ := hrel
    by_cases hlt : k < m
    · have h53 : k * 53 ≤ data.size := by
        rcases hpl with h | h
        · omega
        · have := Nat.mul_le_mul_right 53 (show k ≤ m - 1 by omega)
          omega
      have h1 : (0 : Int) ≤ (k : Int) := by omega
      have h2 : (k : Int) < (m : Int) := by omega
      have s0 : (0 : Int) ≤ (k : Int) * 53 := by omega
      have s1 : (k : Int) * 53 ≤ min (data.size : Int) (((k : Int) + 1) * 53) := by omega
      have s2 : min (data.size : Int) (((k : Int) + 1) * 53) ≤ (data.size : Int) := by omega
      have s3 : (min (data.size : Int) (((k : Int) + 1) * 53)).toNat = min ((k + 1) * 53) data.size := by omega
      have s4 : ((k : Int) * 53).toNat = k * 53 := by omega
      go_wp2_with fail
      have hp := HP.out k hlt
      have hget := HG.out k hlt
      clear s0 s1 s2 s3 s4 h53 hpl
      rw [show data.extract (k * 53) (min ((k + 1) * 53) data.size) = Ps.piece data k from rfl]
      refine (rsector_any n k m (Ps.piece data k) wr (by omega) (by omega) (by omega) hp.2).mono ?_
      rintro e w2 ⟨rfl, hb⟩
      have hO2 : w2.ownsRow w.heap.size 9 1 _ k (Fm.sc ((Ps.secs n data).take k)) := own_below HO.out hb
      have HW2 := Lib.hid (HW.out.trans (hb.mono HW.out.size))
      have hs2 := HW2.out.size
      have HT := Lib.hid (show Fm.sc ((Ps.secs n data).take (k + 1)) = Fm.sc ((Ps.secs n data).take k) ++ [.string (Ps.secB n k m (Ps.piece data k))] from by
        have hi : k < (Ps.secs n data).length := by rw [HLEN.out]; exact hlt
        rw [List.take_succ_eq_append_getElem hi, Fm.sc_append, (List.getElem?_eq_some_iff.1 hget).2]
        rfl)
      clear hp hget hb HO
      go_wp2_with (first
        | (at_builtin; refine wpList_append_own _ rfl (.tmp 28) (.tmp 43) 37 rfl w.heap.size 9 i0 (.string ByteArray.empty) 1 16 Try.underlying37 hi hz0 hz1 hz2 rfl (by decide) _ _ _ rfl (hO2.alloc _) ⟨w2.heap.size, 0, none⟩ 1 1 [.string (Ps.secB n k m (Ps.piece data k))] rfl rfl ?c1 ?c2 ?c3 ?c4 ?c5 ?_)
        | fail)
      case c1 => exact cell_one_new _ _ _
      case c2 => intro u hu; simp at hu; subst hu; rfl
      case c3 => simp only [maxLen]; omega
      case c4 => omega
      case c5 => simp; omega
      intro v' w3 hown' hgrow _
      have HW3 : Hid (Below w.heap.size w w3) := Lib.hid ((HW2.out.alloc (by omega) _).grown hgrow (by simp; omega) (fun q hq => (hO2.lt q hq).1))
      obtain ⟨A3, c3, rfl, _⟩ := own_form hown'
      have HO3 := Lib.hid (HT.out ▸ hown')
      clear hown' hgrow hO2
      go_wp2_with fail
      go_roundw
      case rel => exact ⟨k + 1, c3, A3, by omega, by go_num, rfl, HO3, HW3⟩
      case measure => simp [RowKit.intOf]; omega
    · obtain rfl : k = m := by omega
      have ho : wr.ownsRow w.heap.size 9 1 (.slice A k c) k (Fm.sc (Ps.secs n data)) := by
        have := HO.out
        rwa [List.take_of_length_le (by rw [HLEN.out]; omega)] at this
      have HN := Lib.hid (own_rd ho HLEN.out HW.out)
      clear ho HO hpl
      go_wp2_with fail
      go_ret2
      exact HN.out
end Go.Proofs.Ytkcickbkmedbmaa
