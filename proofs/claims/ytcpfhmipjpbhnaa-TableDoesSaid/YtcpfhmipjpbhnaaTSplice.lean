/-
  CONTRACTS of splice, Put, Drop.
-/
import Derived.Test.YtcpfhmipjpbhnaaTFirst
import Derived.Test.YtcpfhmipjpbhnaaTApp
namespace Go.Proofs.Ytcpfhmipjpbhnaa
open Go.RowKit
open Pl (firstO findO overO)

set_option maxRecDepth 100000 in
set_option maxHeartbeats 800000 in
theorem splice_any (A A2 : Option Addr) (n c m c2 i j : Nat) (l x : List Pl.Pr) (w : World) (hn : n = l.length) (hm : m = x.length) (hnc : n ≤ c) (hc : c ≤ 9223372036854775807) (hij : i ≤ j) (hjn : j ≤ n) (hsz : (n + m) * 24 ≤ 140737488355328)
    (hr : Rd w w.heap.size A (pc l)) (hr2 : Rd w w.heap.size A2 (pc x)) :
    Calls Try.prog 25 #[.slice A n c, .int .i64 (i : Int), .int .i64 (j : Int), .slice A2 m c2] w fun e w' =>
      ∃ A' c', e = .returned (.slice A' (i + m + (n - j)) c') ∧ w'.ownsRow w.heap.size 24 2 (.slice A' (i + m + (n - j)) c') (i + m + (n - j)) (pc (l.take i ++ x ++ l.drop j)) ∧ Below w.heap.size w w' := by
  obtain ⟨i0, hi0, hz0, hz1, hz2⟩ := info_parts infoP
  obtain ⟨w1, hmk, hown1, hg1⟩ := run_make_own (P := Try.prog) w w.heap.size 22 24 i0 _ 2 Try.underlying22 hi0 hz0 hz1 .i64 .i64 (n - (j - i) + m) (by rw [hz2]; omega) (by simp only [maxLen]; omega) (Nat.le_refl _)
  rw [show (((n - (j - i) + m : Nat)) : Int) = (n : Int) - ((j : Int) - (i : Int)) + (m : Int) from by omega] at hmk
  have hb1 : Below w.heap.size w w1 := (Below.refl _ _).grown hg1 (Nat.le_refl _) (by simp)
  have hn1 : n - (j - i) + m ≤ 9223372036854775807 := by omega
  have HN := Lib.hid hn
  have HM := Lib.hid hm
  have HR := Lib.hid hr
  have HR2 := Lib.hid hr2
  have HO1 := Lib.hid hown1
  have HB1 := Lib.hid hb1
  clear hn hm hr hr2 hown1 hg1 hb1
  have hcut := run_cut (P := Try.prog) 22 24 2 i0 Try.underlying22 hi0 hz1 A n c j hjn
  go_enter Try.func25, Try.ntmps25
  go_wp2_with (first
    | (at_builtin; refine wpList_app rfl (.tmp 20) (.tmp 23) _ rfl w.heap.size 24 i0 _ 2 24 Try.underlying22 hi0 hz0 hz1 hz2 rfl (by decide) _ 0 _ [] rfl HO1.out w.heap.size A i c (pc (l.take i)) rfl (by rw [pc_length, List.length_take, HN.out.symm]; omega) ((HR.out.below HB1.out).tk i) (pc_oneCell _) (by simp only [maxLen]; omega) (by omega) HB1.out.size ?_; intro A3 c3 w2 hown2 hb2; simp only [Nat.zero_add, List.nil_append] at hown2; have HO2 := Lib.hid hown2; have HB2 := Lib.hid (HB1.out.trans hb2); clear hown2 hb2)
    | (at_builtin; refine wpList_app rfl (.tmp 25) (.tmp 26) _ rfl w.heap.size 24 i0 _ 2 24 Try.underlying22 hi0 hz0 hz1 hz2 rfl (by decide) _ i _ _ rfl HO2.out w.heap.size A2 m c2 (pc x) rfl (by rw [pc_length, HM.out.symm]) (HR2.out.below HB2.out) (pc_oneCell _) (by simp only [maxLen]; omega) (by omega) HB2.out.size ?_; intro A4 c4 w3 hown3 hb3; have HO3 := Lib.hid hown3; have HB3 := Lib.hid (HB2.out.trans hb3); clear hown3 hb3)
    | (at_builtin; refine wpList_app rfl (.tmp 28) (.tmp 31) _ rfl w.heap.size 24 i0 _ 2 24 Try.underlying22 hi0 hz0 hz1 hz2 rfl (by decide) _ (i + m) _ _ rfl HO3.out w.heap.size (cutA A c j 2) (n - j) (c - j) (pc (l.drop j)) rfl (by rw [pc_length, List.length_drop, HN.out.symm]) (by rw [pc_drop]; exact ((HR.out.below HB3.out).cut 2 j c (fun e => by rw [pc_length, HN.out.symm]; omega))) (pc_oneCell _) (by simp only [maxLen]; omega) (by omega) HB3.out.size ?_; intro A5 c5 w4 hown4 hb4; have HO4 := Lib.hid hown4; have HB4 := Lib.hid (HB3.out.trans hb4); clear hown4 hb4))
  go_ret
  exact ⟨A5, c5, rfl, by rw [pc_append, pc_append]; exact HO4.out, HB4.out⟩

/-- The call hands back a new list: l. -/
def NewL (w : World) (l : List Pl.Pr) (e : Ending) (w' : World) : Prop :=
  ∃ A n c, n = l.length ∧ e = .returned (.slice A n c) ∧ w'.ownsRow w.heap.size 24 2 (.slice A n c) n (pc l) ∧ Below w.heap.size w w'

theorem findO_lt {l : List Pl.Pr} {x : ByteArray} {i : Nat} (h : findO l x = some i) : i < l.length := Pl.firstO_lt h
theorem overO_lt {l : List Pl.Pr} {x : ByteArray} {i : Nat} (h : overO l x = some i) : i < l.length := Pl.firstO_lt h

theorem own_down {w : World} {B B' size n : Nat} {e : TypeId} {v : Value} {xs : List Value} (h : w.ownsRow B e size v n xs) (hB : B' ≤ B) : w.ownsRow B' e size v n xs := by
  refine ⟨h.1, h.2.imp id fun ⟨g, cap, cur, hv, hb, hr⟩ => ⟨g, cap, cur, hv, by omega, hr⟩⟩

theorem own_to {w : World} {B B' size n n' c : Nat} {e : TypeId} {A : Option Addr} {xs : List Value} (h : w.ownsRow B e size (.slice A n c) n xs) (hn : n = n') (hB : B' ≤ B) : w.ownsRow B' e size (.slice A n' c) n' xs := by
  subst hn; exact own_down h hB

set_option maxRecDepth 100000 in
set_option maxHeartbeats 1600000 in
theorem put_any (A : Option Addr) (n c : Nat) (xs : ByteArray) (xn : Int) (l : List Pl.Pr) (w : World) (hn : n = l.length) (hnc : n ≤ c) (hc : c ≤ 9223372036854775807) (hsz : (n + 1) * 24 ≤ 140737488355328) (hr : Rd w w.heap.size A (pc l)) :
    Calls Try.prog 12 #[.agg #[tf], .slice A n c, pv xs xn] w (NewL w (Pl.putL l (xs, xn))) := by
  have hmf : ∀ (fn : Fn) (first cap : Array Value) (w : World), (Instr.makeFunc fn first cap).run Try.prog w = .ok (.func fn first cap) w := fun _ _ _ _ => rfl
  have hB : Below w.heap.size w ((w.alloc (.cells #[tf] 28)).alloc (.cells #[.string xs, .int .i64 xn] 24)) := ((Below.refl _ _).alloc (Nat.le_refl _) _).alloc (by simp) _
  have hfind := find_any A n c xs xn l _ hn (by omega) ((hr.below hB).mono (by simp; omega))
  have HN := Lib.hid hn
  have HR := Lib.hid hr
  have HB := Lib.hid hB
  cases hF : findO l xs with
  | some i =>
    have hi := findO_lt hF
    rw [hF, firstV_some] at hfind
    have HP := Lib.hid (show Pl.putL l (xs, xn) = l.take i ++ [(xs, xn)] ++ l.drop (i + 1) from by unfold Pl.putL; rw [hF])
    have HF := Lib.hid hfind
    have hin : i < n := by omega
    clear hn hr hB hF hfind
    go_enter Try.func12, Try.ntmps12
    go_wp2_with fail
    refine HF.out.mono ?_
    rintro e w1 ⟨rfl, hb1⟩
    have hq0 : w1.cell? ⟨w.heap.size + 1, 0, none⟩ = some (.string xs) := (hb1.cell (p := ⟨w.heap.size + 1, 0, none⟩) (by simp)).trans (by simp [go_sem])
    have hq1 : w1.cell? ⟨w.heap.size + 1, 1, none⟩ = some (.int .i64 xn) := (hb1.cell (p := ⟨w.heap.size + 1, 1, none⟩) (by simp)).trans (by simp [go_sem])
    have B1 := Lib.hid (HB.out.trans (hb1.mono (by simp; omega)))
    clear hb1
    go_wp2_with fail
    have B2 := Lib.hid (B1.out.alloc B1.out.size (.cells #[.string xs, .int .i64 xn] 24))
    refine (splice_any A (some ⟨w1.heap.size, 0, none⟩) n c 1 1 i (i + 1) l [(xs, xn)] _ HN.out rfl hnc hc (by omega) (by omega) (by omega) ((HR.out.below B2.out).mono (by have := B1.out.size; simp; omega)) ((Rd.one w1 xs xn _).mono (by simp))).mono ?_
    rintro e w2 ⟨A', c', rfl, hown, hb2⟩
    have HO := Lib.hid hown
    have B3 := Lib.hid (B2.out.trans (hb2.mono (by have := B1.out.size; simp; omega)))
    clear hb2 hown
    go_wp2_with fail
    go_ret
    refine ⟨A', _, c', ?_, rfl, ?_, B3.out⟩
    · rw [HP.out]; simp only [List.length_append, List.length_take, List.length_drop, List.length_cons, List.length_nil]
      have := HN.out
      omega
    · rw [HP.out]; exact own_down HO.out (by have := B1.out.size; simp; omega)
  | none =>
    rw [hF, firstV_none] at hfind
    have HF := Lib.hid hfind
    have hT : ∀ w1, Below (w.heap.size + 2) ((w.alloc (.cells #[tf] 28)).alloc (.cells #[.string xs, .int .i64 xn] 24)) w1 →
        Calls Try.prog 23 #[.slice A n c, .func (.func 26) #[] #[.pointer (some ⟨w.heap.size, 0, none⟩), .pointer (some ⟨w.heap.size + 1, 0, none⟩)]] w1
          fun e w' => e = .returned (firstV (overO l xs)) ∧ Below w1.heap.size w1 w' := fun w1 hb =>
      first_any A n c _ _ (fun s _ => Pl.lt xs s) l w1 HN.out (by omega) ((HR.out.below (HB.out.trans (hb.mono (by omega)))).mono (by have := hb.size; simp at this; omega)) (tells_put w w1 xs xn hb)
    obtain ⟨i, hin, hLi, HQ, hV⟩ : ∃ i, i ≤ n ∧ Hid (Pl.putL l (xs, xn) = l.take i ++ [(xs, xn)] ++ l.drop i) ∧ Hid ((i = n ∧ overO l xs = none) ∨ overO l xs = some i) ∧ True := by
      cases hG : overO l xs with
      | some i => exact ⟨i, by have := overO_lt hG; omega, Lib.hid (by unfold Pl.putL; rw [hF]; simp only []; rw [hG]), Lib.hid (.inr rfl), trivial⟩
      | none => exact ⟨n, Nat.le_refl _, Lib.hid (by unfold Pl.putL; rw [hF]; simp only []; rw [hG]; rw [hn, List.take_length, List.drop_length, List.append_nil]), Lib.hid (.inl ⟨rfl, rfl⟩), trivial⟩
    have HT := Lib.hid hT
    clear hn hr hB hF hfind hT
    go_enter Try.func12, Try.ntmps12
    go_wp2_with fail
    refine HF.out.mono ?_
    rintro e w1 ⟨rfl, hb1⟩
    have hb1 : Below (w.heap.size + 2) ((w.alloc (.cells #[tf] 28)).alloc (.cells #[.string xs, .int .i64 xn] 24)) w1 := hb1.mono (by simp)
    have hs1 : w.heap.size + 2 ≤ w1.heap.size := by have := hb1.size; simpa using this
    have HX := Lib.hid hb1
    have B1 := Lib.hid (HB.out.trans (hb1.mono (by omega)))
    clear hb1
    go_wp2_with fail
    refine (HT.out w1 HX.out).mono ?_
    rintro e w2 ⟨rfl, hb2⟩
    have hs2 := hb2.size
    have hb3 := HX.out.trans (hb2.mono hs1)
    have hq0 : w2.cell? ⟨w.heap.size + 1, 0, none⟩ = some (.string xs) := (hb3.cell (p := ⟨w.heap.size + 1, 0, none⟩) (by simp)).trans (by simp [go_sem])
    have hq1 : w2.cell? ⟨w.heap.size + 1, 1, none⟩ = some (.int .i64 xn) := (hb3.cell (p := ⟨w.heap.size + 1, 1, none⟩) (by simp)).trans (by simp [go_sem])
    have B2 := Lib.hid (B1.out.trans (hb2.mono (by omega)))
    have B3 := Lib.hid (B2.out.alloc B2.out.size (.cells #[.string xs, .int .i64 xn] 24))
    have HS := Lib.hid (splice_any A (some ⟨w2.heap.size, 0, none⟩) n c 1 1 i i l [(xs, xn)] (w2.alloc (.cells #[.string xs, .int .i64 xn] 24)) HN.out rfl hnc hc (by omega) (by omega) (by omega) ((HR.out.below B3.out).mono (by simp; omega)) ((Rd.one w2 xs xn _).mono (by simp)))
    clear hb2 hb3
    rcases HQ.out with ⟨he, ho⟩ | ho
    · subst he
      rw [ho, firstV_none]
      clear ho HQ
      go_wp2_with fail
      refine HS.out.mono ?_
      rintro e w3 ⟨A', c', rfl, hown, hb4⟩
      have HO := Lib.hid hown
      have B4 := Lib.hid (B3.out.trans (hb4.mono (by simp; omega)))
      clear hb4 hown
      go_wp2_with fail
      go_ret
      refine ⟨A', _, c', ?_, rfl, ?_, B4.out⟩
      · rw [hLi.out]; simp only [List.length_append, List.length_take, List.length_drop, List.length_cons, List.length_nil]
        have := HN.out
        omega
      · rw [hLi.out]; exact own_to HO.out (by omega) (by simp; omega)
    · rw [ho, firstV_some]
      clear ho HQ
      go_wp2_with fail
      refine HS.out.mono ?_
      rintro e w3 ⟨A', c', rfl, hown, hb4⟩
      have HO := Lib.hid hown
      have B4 := Lib.hid (B3.out.trans (hb4.mono (by simp; omega)))
      clear hb4 hown
      go_wp2_with fail
      go_ret
      refine ⟨A', _, c', ?_, rfl, ?_, B4.out⟩
      · rw [hLi.out]; simp only [List.length_append, List.length_take, List.length_drop, List.length_cons, List.length_nil]
        have := HN.out
        omega
      · rw [hLi.out]; exact own_to HO.out (by omega) (by simp; omega)

set_option maxRecDepth 100000 in
set_option maxHeartbeats 1600000 in
theorem drop_any (A : Option Addr) (n c : Nat) (xs : ByteArray) (xn : Int) (l : List Pl.Pr) (w : World) (hn : n = l.length) (hnc : n ≤ c) (hc : c ≤ 9223372036854775807) (hsz : n * 24 ≤ 140737488355328) (hr : Rd w w.heap.size A (pc l)) :
    Calls Try.prog 14 #[.agg #[tf], .slice A n c, pv xs xn] w (NewL w (Pl.dropL l xs)) := by
  have hB : Below w.heap.size w ((w.alloc (.cells #[tf] 28)).alloc (.cells #[.string xs, .int .i64 xn] 24)) := ((Below.refl _ _).alloc (Nat.le_refl _) _).alloc (by simp) _
  have hfind := find_any A n c xs xn l _ hn (by omega) ((hr.below hB).mono (by simp; omega))
  have HN := Lib.hid hn
  have HR := Lib.hid hr
  have HB := Lib.hid hB
  obtain ⟨i, j, o, hij, hjn, hV, hD, hO⟩ : ∃ (i j : Nat) (b : Bool), i ≤ j ∧ j ≤ n ∧ Hid (findO l xs = if b then some i else none) ∧ Hid (Pl.dropL l xs = l.take i ++ [] ++ l.drop j) ∧ Hid ((b = true ∧ j = i + 1) ∨ (b = false ∧ i = 0 ∧ j = 0)) := by
    cases hF : findO l xs with
    | some i => exact ⟨i, i + 1, true, by omega, by have := findO_lt hF; omega, Lib.hid rfl, Lib.hid (by unfold Pl.dropL; rw [hF]; simp), Lib.hid (.inl ⟨rfl, rfl⟩)⟩
    | none => exact ⟨0, 0, false, by omega, by omega, Lib.hid rfl, Lib.hid (by unfold Pl.dropL; rw [hF]; simp), Lib.hid (.inr ⟨rfl, rfl, rfl⟩)⟩
  rcases hO.out with ⟨rfl, rfl⟩ | ⟨rfl, rfl, rfl⟩
  all_goals
    rw [hV.out] at hfind
    first
      | rw [if_pos rfl, firstV_some] at hfind
      | rw [if_neg (by decide), firstV_none] at hfind
    have HF := Lib.hid hfind
    clear hn hr hB hfind hO hV
    go_enter Try.func14, Try.ntmps14
    go_wp2_with fail
    refine HF.out.mono ?_
    rintro e w1 ⟨rfl, hb1⟩
    have B1 := Lib.hid (HB.out.trans (hb1.mono (by simp; omega)))
    have hs1 := B1.out.size
    clear hb1
    go_wp2_with fail
    refine (splice_any A none n c 0 0 _ _ l [] _ HN.out rfl hnc hc hij hjn (by omega) ((HR.out.below B1.out).mono hs1) Rd.none_).mono ?_
    rintro e w2 ⟨A', c', rfl, hown, hb2⟩
    have HO := Lib.hid hown
    have B3 := Lib.hid (B1.out.trans (hb2.mono hs1))
    clear hb2 hown
    go_wp2_with fail
    go_ret
    refine ⟨A', _, c', ?_, rfl, ?_, B3.out⟩
    · rw [hD.out]; simp only [List.length_append, List.length_take, List.length_drop, List.length_nil]
      have := HN.out
      omega
    · rw [hD.out]; exact own_to HO.out (by omega) hs1
end Go.Proofs.Ytcpfhmipjpbhnaa
