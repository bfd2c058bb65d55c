/-
  CONTRACT of Keep.
-/
import Derived.Test.YtcpfhmipjpbhnaaTSplice
namespace Go.Proofs.Ytcpfhmipjpbhnaa
open Go.RowKit

def keepL (f : ByteArray → Int → Bool) (l : List Pl.Pr) : List Pl.Pr := l.filter fun p => f p.1 p.2
theorem keepL_succ (f : ByteArray → Int → Bool) (l : List Pl.Pr) (k : Nat) (h : k < l.length) : keepL f (l.take (k + 1)) = keepL f (l.take k) ++ if f l[k].1 l[k].2 then [l[k]] else [] := by
  unfold keepL
  rw [List.take_succ_eq_append_getElem h, List.filter_append]
  by_cases e : f l[k].1 l[k].2 <;> simp [e]
theorem keepL_le (f : ByteArray → Int → Bool) (l : List Pl.Pr) (k : Nat) : (keepL f (l.take k)).length ≤ k := by
  unfold keepL
  exact Nat.le_trans (List.length_filter_le _ _) (List.length_take_le _ _)

set_option maxRecDepth 100000 in
set_option maxHeartbeats 1600000 in
theorem keep_any (A : Option Addr) (n c K : Nat) (cap : Array Value) (f : ByteArray → Int → Bool) (l : List Pl.Pr) (w : World) (hn : n = l.length) (hn63 : n * 24 ≤ 140737488355328)
    (hr : Rd w w.heap.size A (pc l)) (hT : Tells w K cap f) :
    Calls Try.prog 15 #[.slice A n c, .func (.func K) #[] cap] w (NewL w (keepL f l)) := by
  obtain ⟨i0, hi0, hz0, hz1, hz2⟩ := info_parts infoP
  have HN := Lib.hid hn
  have HR := Lib.hid hr
  have HT := Lib.hid hT
  have HL := Lib.hid (keepL_le f l)
  clear hn hr hT
  go_enter Try.func15, Try.ntmps15
  go_wp2_with fail
  go_loopw [5, 10] (fun v i wr => ∃ (k m c' : Nat) (A' : Option Addr), k ≤ n ∧ i = .int .i64 (k : Int) ∧ m ≤ k ∧ v = .slice A' m c' ∧ Hid (m = (keepL f (l.take k)).length) ∧ Hid (wr.ownsRow w.heap.size 24 2 (.slice A' m c') m (pc (keepL f (l.take k)))) ∧ Hid (Below w.heap.size w wr)) (fun _ i _ => n - (intOf i).toNat)
  case atStart => exact ⟨0, 0, 0, none, by omega, rfl, by omega, rfl, Lib.hid (by simp [keepL]), Lib.hid (by simpa [keepL, pc] using World.ownsRow_nil _ _ _ _), Lib.hid (Below.refl _ _)⟩
  case round =>
    obtain ⟨k, m, c', A', hk, rfl, hmk, rfl, hm, hown, hbel⟩ := hrel
    by_cases hlt : k < n
    · have hl : k < l.length := by rw [← HN.out]; exact hlt
      obtain ⟨b, off, rfl, hb, hc⟩ := HR.out.pair hl
      have hc0 := (hbel.out.cell (p := ⟨b, off + k * 2, none⟩) hb).trans (hc k hl).1
      have hc1 := (hbel.out.cell (p := ⟨b, off + k * 2 + 1, none⟩) hb).trans (hc k hl).2
      have hlb : b < wr.heap.size := Nat.lt_of_lt_of_le hb hbel.out.size
      have hle := HL.out (k + 1)
      have hsucc := keepL_succ f l k hl
      clear hc
      generalize l[k] = p at hc0 hc1 hsucc
      obtain ⟨s, z⟩ := p
      by_cases hf : f s z = true
      · simp only [hf, if_true] at hsucc
        have HSU := Lib.hid hsucc
        have HF := Lib.hid hf
        have hsz := hbel.out.size
        clear hf hsucc
        go_wp2_with fail
        refine (holds_any K cap f s z _ (HT.out.later (hbel.out.alloc hbel.out.size _))).mono ?_
        rintro e w1 ⟨rfl, hb1⟩
        have hq0 : w1.cell? ⟨wr.heap.size, 0, none⟩ = some (.string s) := (hb1.cell (p := ⟨wr.heap.size, 0, none⟩) (by simp)).trans (by simp [go_sem])
        have hq1 : w1.cell? ⟨wr.heap.size, 1, none⟩ = some (.int .i64 z) := (hb1.cell (p := ⟨wr.heap.size, 1, none⟩) (by simp)).trans (by simp [go_sem])
        have B0 : Below wr.heap.size wr w1 := ((Below.refl _ wr).alloc (Nat.le_refl _) _).trans (hb1.mono (by simp))
        have hs1 := B0.size
        have B1 := Lib.hid (hbel.out.trans (B0.mono hsz))
        have B2 := Lib.hid (B1.out.alloc B1.out.size (.cells #[.string s, .int .i64 z] 24))
        have HO := Lib.hid (own_below hown.out B0)
        have hf := HF.out
        clear hb1 B0 hown hbel
        go_wp2_with (at_builtin; refine wpList_app rfl (.tmp 17) (.tmp 19) _ rfl w.heap.size 24 i0 _ 2 24 Try.underlying22 hi0 hz0 hz1 hz2 rfl (by decide) A' m c' _ rfl (HO.out.alloc _) (w1.heap.size + 1) (some ⟨w1.heap.size, 0, none⟩) 1 1 (pc [(s, z)]) rfl rfl (Rd.one w1 s z _) (pc_oneCell _) (by simp only [maxLen]; omega) (by omega) B2.out.size ?_; intro A5 c5 w4 hown4 hb4; have HO4 := Lib.hid hown4; have HB4 := Lib.hid (B2.out.trans hb4); clear hown4 hb4)
        go_roundw
        case rel => exact ⟨k + 1, m + 1, c5, A5, by omega, by go_num, by omega, rfl, Lib.hid (by rw [HSU.out, List.length_append, ← hm.out]; rfl), Lib.hid (by rw [HSU.out, pc_append]; exact HO4.out), HB4⟩
        case measure => simp [intOf]; omega
      · have hf' : f s z = false := by simpa using hf
        simp only [hf', Bool.false_eq_true, if_false, List.append_nil] at hsucc
        have HSU := Lib.hid hsucc
        have HF := Lib.hid hf'
        have hsz := hbel.out.size
        clear hf hf' hsucc
        go_wp2_with fail
        refine (holds_any K cap f s z _ (HT.out.later (hbel.out.alloc hbel.out.size _))).mono ?_
        rintro e w1 ⟨rfl, hb1⟩
        have B0 : Below wr.heap.size wr w1 := ((Below.refl _ wr).alloc (Nat.le_refl _) _).trans (hb1.mono (by simp))
        have hs1 := B0.size
        have B1 := Lib.hid (hbel.out.trans (B0.mono hsz))
        have HO := Lib.hid (own_below hown.out B0)
        have hf := HF.out
        clear hb1 B0 hown hbel
        go_wp2_with fail
        go_roundw
        case rel => exact ⟨k + 1, m, c', A', by omega, by go_num, by omega, rfl, Lib.hid (by rw [HSU.out]; exact hm.out), Lib.hid (by rw [HSU.out]; exact HO.out), B1⟩
        case measure => simp [intOf]; omega
    · have hkn : k = n := by omega
      have ht : l.take k = l := List.take_of_length_le (by rw [← HN.out]; omega)
      rw [ht] at hown hm
      clear ht hkn
      go_wp2_with fail
      go_ret
      exact ⟨A', m, c', hm.out, rfl, hown.out, hbel.out⟩
end Go.Proofs.Ytcpfhmipjpbhnaa
