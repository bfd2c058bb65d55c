/-
  CONTRACT of the reference's Sector and Count.
-/
import Derived.Test.YtcfojpgfecelcaaFSec
import Derived.Lib.AppendStr
import Derived.Lib.MinMax
namespace Go.Proofs.Ytcfojpgfecelcaa
open Go.RowKit

theorem own_string {B : Nat} {v : Value} {l : List UInt8} {w : World} {m : Nat} (h : w.ownsRow B 5 1 v m (bv l)) (hm : m = l.length) :
    (convert 54 9 v).run Try.prog w = .ok (.string ⟨l.toArray⟩) w := by
  subst hm
  rcases h.2 with ⟨rfl, hl⟩ | ⟨g, cap, cur, rfl, _, hg, _, _, _, htake⟩
  · have : l = [] := List.eq_nil_of_length_eq_zero hl
    subst this
    rw [run_convert_bytes_string w 54 9 5 none 0 0 Try.underlying54 Try.underlying5 Try.underlying9]
    simp [Conv.bytesToString]
    rfl
  · exact run_convert_bytes_back w 54 9 5 ⟨g, 0, none⟩ cap l Try.underlying54 Try.underlying5 Try.underlying9 fun j hj => by
      have hc := h.cellAt j (by omega)
      rw [show (⟨g, 0, none⟩ : Addr).add j = ⟨g, j, none⟩ from by simp [Addr.add]; exact fun h => h.symm, hc]
      simp [bv, hj]

theorem str_bv (s : ByteArray) : Lib.strCells s = bv s.data.toList := by
  first | rfl | (simp [Lib.strCells, bv])

def rb (n p k : Nat) (d : List UInt8) (m : Nat) : List UInt8 := hd7 n p k d.length ++ (d ++ List.replicate m 0)
theorem rb_length (n p k : Nat) (d : List UInt8) (m : Nat) : (rb n p k d m).length = 7 + d.length + m := by simp [rb, hd7]; omega
theorem rb_succ (n p k : Nat) (d : List UInt8) (m : Nat) : bv (rb n p k d (m + 1)) = bv (rb n p k d m) ++ [.int .u8 0] := by
  unfold rb
  rw [List.replicate_succ', ← List.append_assoc, ← List.append_assoc, ← List.append_assoc, bv_append]
  rfl
theorem rb_full (n p k : Nat) (d : List UInt8) : rb n p k d (55 - d.length) = Pl.bodyL n p k d := rfl
theorem cells7r (n p k m : Nat) (hn : n ≤ 4294967295) (hp : p ≤ 255) (hk : k ≤ 255) (hm : m ≤ 255) : [Value.int .u8 ((n : Int) / 16777216), .int .u8 ((n : Int) / 65536 % 256), .int .u8 ((n : Int) / 256 % 256), .int .u8 ((n : Int) % 256), .int .u8 (p : Int), .int .u8 (k : Int), .int .u8 (m : Int)] = bv (hd7 n p k m) := by
  have e0 : Value.int .u8 ((n : Int) / 16777216) = Value.int .u8 ((UInt8.ofNat (n / 16777216)).toNat : Int) := by rw [← u8v]; congr 1; omega
  have e1 : Value.int .u8 ((n : Int) / 65536 % 256) = Value.int .u8 ((UInt8.ofNat (n / 65536)).toNat : Int) := by rw [← u8v]; rfl
  have e2 : Value.int .u8 ((n : Int) / 256 % 256) = Value.int .u8 ((UInt8.ofNat (n / 256)).toNat : Int) := by rw [← u8v]; rfl
  rw [e0, e1, e2, u8v, u8w p hp, u8w k hk, u8w m hm]
  rfl
theorem cells2r (x : Nat) (hx : x < 65536) : [Value.int .u8 ((x : Int) / 256), .int .u8 ((x : Int) % 256)] = bv [UInt8.ofNat (x / 256), UInt8.ofNat x] := by
  have e0 : Value.int .u8 ((x : Int) / 256) = Value.int .u8 ((UInt8.ofNat (x / 256)).toNat : Int) := by rw [← u8v]; congr 1; omega
  rw [e0, u8v]
  rfl

set_option maxRecDepth 100000 in
set_option maxHeartbeats 1600000 in
theorem rsector_any (n p k : Nat) (d : ByteArray) (w : World) (hn : n ≤ 4294967295) (hp : p ≤ 255) (hk : k ≤ 255) (hd : d.size ≤ 55) :
    Calls Try.prog 20 #[.int .i64 (n : Int), .int .i64 (p : Int), .int .i64 (k : Int), .string d] w fun e w' => e = .returned (.string (Pl.secB n p k d)) ∧ Below w.heap.size w w' := by
  obtain ⟨i0, hi, hz0, hz1, hz2⟩ := info_parts infoU
  have hl := Pl.length_toList d
  have hown := World.ownsRow_lit (base := w.heap.size) (e := 5) (size := 1) w #[Value.int .u8 ((n : Int) / 16777216), .int .u8 ((n : Int) / 65536 % 256), .int .u8 ((n : Int) / 256 % 256), .int .u8 ((n : Int) % 256), .int .u8 (p : Int), .int .u8 (k : Int), .int .u8 (d.size : Int)] 7 (Nat.le_refl _) (by simp only [maxLen]; omega) rfl
  rw [show (#[Value.int .u8 ((n : Int) / 16777216), .int .u8 ((n : Int) / 65536 % 256), .int .u8 ((n : Int) / 256 % 256), .int .u8 ((n : Int) % 256), .int .u8 (p : Int), .int .u8 (k : Int), .int .u8 (d.size : Int)] : Array Value).toList = bv (hd7 n p k d.size) from cells7r n p k d.size hn hp hk (by omega)] at hown
  have HO0 := Lib.hid hown
  clear hown
  go_enter Try.func20, Try.ntmps20
  go_wp2_with (first
    | (refine Lib.wpList_append_own_string _ rfl (.tmp 30) (.tmp 31) 54 9 rfl w.heap.size 5 i0 Try.underlying54 Try.underlying9 hi hz0 hz1 hz2 _ 7 (bv (hd7 n p k d.size)) rfl HO0.out d rfl (by simp only [maxLen]; omega) (by omega) (by simp) ?_; intro v1 w1 ho1 hg1 _)
    | fail)
  have hb1 : Below w.heap.size w w1 := ((Below.refl w.heap.size w).alloc (Nat.le_refl _) _).grown hg1 (by simp) (fun q hq => (HO0.out.lt q hq).1)
  have ho2 : w1.ownsRow w.heap.size 5 1 v1 (7 + d.size + 0) (bv (rb n p k d.data.toList 0)) := by
    rw [show bv (rb n p k d.data.toList 0) = bv (hd7 n p k d.size) ++ Lib.strCells d from by unfold rb; rw [hl, bv_append, bv_append, List.replicate_zero, str_bv]; simp [bv]]
    exact ho1
  obtain ⟨A1, c1, rfl, _⟩ := own_form ho1
  have HO1 := Lib.hid ho2
  have HB1 := Lib.hid hb1
  clear ho1 hg1 hb1 ho2 HO0
  go_loopw [9] (fun v wr => ∃ (m : Nat) (A : Option Addr) (c : Nat), v = .slice A (7 + d.size + m) c ∧ d.size + m ≤ 55 ∧ Hid (wr.ownsRow w.heap.size 5 1 (.slice A (7 + d.size + m) c) (7 + d.size + m) (bv (rb n p k d.data.toList m))) ∧ Hid (Below w.heap.size w wr))
    (fun v _ => match v with | .slice _ m _ => 62 - m | _ => 0)
  case atStart => exact ⟨0, A1, c1, rfl, by omega, HO1, HB1⟩
  case round =>
    obtain ⟨m, A, c, rfl, hm, HO, HB⟩ := hrel
    have hsz := HB.out.size
    by_cases hlt : d.size + m < 55
    · go_wp2_with (first
        | (at_builtin; refine wpList_append_own _ rfl (.tmp 36) (.tmp 37) 54 rfl w.heap.size 5 i0 (.int .u8 0) 1 1 Try.underlying54 hi hz0 hz1 hz2 rfl (by decide) _ _ _ rfl (HO.out.alloc _) ⟨wr.heap.size, 0, none⟩ 1 1 [.int .u8 0] rfl rfl ?c1 ?c2 ?c3 ?c4 ?c5 ?_)
        | fail)
      case c1 =>
        intro j u hj
        match j, hj with
        | 0, hj => simp at hj; subst hj; simp [Addr.add]
      case c2 => intro u hu; simp at hu; subst hu; rfl
      case c3 => simp only [maxLen]; omega
      case c4 => omega
      case c5 => simp; omega
      intro v' w2 hown' hgrow _
      have hb2 : Below w.heap.size w w2 := (HB.out.alloc (by omega) _).grown hgrow (by simp; omega) (fun q hq => (HO.out.lt q hq).1)
      obtain ⟨A', c', rfl, _⟩ := own_form hown'
      have HO2 : Hid (w2.ownsRow w.heap.size 5 1 (.slice A' (7 + d.size + (m + 1)) c') (7 + d.size + (m + 1)) (bv (rb n p k d.data.toList (m + 1)))) := Lib.hid (by rw [rb_succ]; exact hown')
      have HB2 := Lib.hid hb2
      clear hown' hgrow hb2
      go_wp2_with fail
      go_roundw
      case rel => exact ⟨m + 1, A', c', rfl, by omega, HO2, HB2⟩
      case measure => simp; omega
    · have hm55 : m = 55 - d.size := by omega
      subst hm55
      have hbl := Pl.bodyL_length n p k d.data.toList (by omega)
      have hof : wr.ownsRow w.heap.size 5 1 (.slice A 62 c) 62 (bv (Pl.bodyL n p k d.data.toList)) := by
        have := HO.out
        rwa [show 7 + d.size + (55 - d.size) = 62 from by omega, ← hl, rb_full] at this
      rw [show 7 + d.size + (55 - d.size) = 62 from by omega]
      have HOF := Lib.hid hof
      have htx := own_string hof hbl.symm
      have HX : Hid (Pl.sumF 1 (Pl.bodyL n p k d.data.toList) < 65521) := Lib.hid (Pl.sumF_lt _ _ (by omega))
      have HS := fun W => rsum_any ⟨(Pl.bodyL n p k d.data.toList).toArray⟩ W (by simp only [maxLen]; show (Pl.bodyL n p k d.data.toList).toArray.size ≤ _; simp; omega)
      have HSB : Hid (Pl.secB n p k d = ⟨(Pl.bodyL n p k d.data.toList ++ [UInt8.ofNat (Pl.sumF 1 (Pl.bodyL n p k d.data.toList) / 256), UInt8.ofNat (Pl.sumF 1 (Pl.bodyL n p k d.data.toList))]).toArray⟩) := Lib.hid rfl
      have HS := Lib.hid HS
      have HBL := Lib.hid hbl
      clear hof HO hbl
      go_wp2_with fail
      refine (HS.out _).mono ?_
      clear HS htx
      generalize Pl.bodyL n p k d.data.toList = body at HOF HX HSB HBL ⊢
      generalize Pl.sumF 1 body = x at HX HSB ⊢
      have hx := HX.out
      have ho2 := World.ownsRow_lit (base := wr.heap.size) (e := 5) (size := 1) wr #[Value.int .u8 ((x : Int) / 256), .int .u8 ((x : Int) % 256)] 2 (Nat.le_refl _) (by simp only [maxLen]; omega) rfl
      rintro e w2 ⟨rfl, rfl⟩
      go_wp2_with (first
        | (at_builtin; refine wpList_append_own _ rfl (.tmp 42) (.tmp 48) 54 rfl w.heap.size 5 i0 (.int .u8 0) 1 1 Try.underlying54 hi hz0 hz1 hz2 rfl (by decide) _ _ _ rfl (HOF.out.alloc _) ⟨wr.heap.size, 0, none⟩ 2 2 [.int .u8 ((x : Int) / 256), .int .u8 ((x : Int) % 256)] rfl rfl ?d1 ?d2 ?d3 ?d4 ?d5 ?_)
        | fail)
      case d1 =>
        intro j u hj
        match j, hj with
        | 0, hj => simp at hj; subst hj; simp [Addr.add]
        | 1, hj => simp at hj; subst hj; simp [Addr.add]
      case d2 => intro u hu; simp at hu; rcases hu with rfl | rfl <;> rfl
      case d3 => simp only [maxLen]; omega
      case d4 => omega
      case d5 => simp; omega
      intro v' w3 hown' hgrow _
      have hb3 : Below w.heap.size w w3 := (HB.out.alloc (by omega) _).grown hgrow (by simp; omega) (fun q hq => (HOF.out.lt q hq).1)
      rw [cells2r x (by omega), ← bv_append] at hown'
      have htx := own_string hown' (by rw [List.length_append, HBL.out]; rfl)
      have HB3 := Lib.hid hb3
      clear hown' hgrow hb3 ho2
      go_wp2_with fail
      go_ret
      exact ⟨by rw [HSB.out]; rfl, HB3.out⟩

theorem rcount_any (m : Nat) (w : World) (hm : m ≤ 440) : Calls Try.prog 19 #[.int .i64 (m : Int)] w fun e w' => e = .returned (.int .i64 (Pl.partsN m : Int)) ∧ w = w' := by
  have HP := Lib.hid (show (Pl.partsN m : Int) = max 1 (((m : Int) + 55 - 1) / 55) from by unfold Pl.partsN; omega)
  go_enter Try.func19, Try.ntmps19
  go_wp2
  go_ret
  exact ⟨by rw [HP.out]; rfl, rfl⟩
end Go.Proofs.Ytcfojpgfecelcaa
