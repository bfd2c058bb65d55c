/-
  CONTRACT of Join.
-/
import Derived.Test.YtcmeaeemjecjiaaFTell
import Derived.BigQuiet
import Derived.Deep.QuietTactic
namespace Go.Proofs.Ytcmeaeemjecjiaa.Fm
open Go.RowKit

/-- What Join answers, as a value. -/
def joinV : Option (Nat × List UInt8 × Nat) → Value
  | none => .tuple #[.int .i64 0, .string ⟨#[]⟩, .int .i64 0, .int .i64 43]
  | some (n, d, k) => .tuple #[.int .i64 (n : Int), .string ⟨d.toArray⟩, .int .i64 (k : Int), .int .i64 0]
def JoinPost (l : List ByteArray) (w : World) (e : Ending) (w' : World) : Prop := e = .returned (joinV (Pl.joinF l)) ∧ Below w.heap.size w w'

theorem ret_four {fn : Func} {p q r s : Tmp} (h : fn.results = #[.tmp p, .tmp q, .tmp r, .tmp s]) (tmps : Array Value) (P : Program) (w : World) :
    (results fn tmps).run P w = .ok (.tuple #[tmps.getD p undef, tmps.getD q undef, tmps.getD r undef, tmps.getD s undef]) w := by simp [results, h]

theorem tell_none {s : ByteArray} (h : Pl.tellF s = none) (w : World) : Calls Try.prog 42 #[.string s] w fun e w' => e = .returned (.tuple #[.agg #[.int .i64 0, .int .i64 0, .int .i64 0, .string ⟨#[]⟩], .int .i64 43]) ∧ Below w.heap.size w w' := by
  refine (tell_any s w).mono ?_
  rintro e w' ⟨he, hb⟩
  rw [h] at he
  exact ⟨he, hb⟩
theorem tell_some {s : ByteArray} {n p k : Nat} {d : ByteArray} (h : Pl.tellF s = some (n, p, k, d)) (w : World) : Calls Try.prog 42 #[.string s] w fun e w' => e = .returned (.tuple #[.agg #[.int .i64 (n : Int), .int .i64 (p : Int), .int .i64 (k : Int), .string d], .int .i64 0]) ∧ Below w.heap.size w w' := by
  refine (tell_any s w).mono ?_
  rintro e w' ⟨he, hb⟩
  rw [h] at he
  exact ⟨he, hb⟩
theorem app_list (a b : ByteArray) : (a ++ b).data.toList = a.data.toList ++ b.data.toList := by
  rw [ByteArray.data_append]; simp
theorem app_size (a b : ByteArray) : (a ++ b).size = a.size + b.size := by
  rw [← Pl.length_toList, app_list, List.length_append, Pl.length_toList, Pl.length_toList]

set_option maxRecDepth 100000 in
set_option maxHeartbeats 6400000 in
theorem join_any (A : Option Addr) (n c : Nat) (l : List ByteArray) (w : World) (hn : n = l.length) (hnc : n ≤ c) (hr : Rd w w.heap.size A (sc l)) :
    Calls Try.prog 36 #[.slice A n c] w (JoinPost l w) := by
  cases l with
  | nil =>
    have h0 : ¬ 0 < n := by rw [hn]; simp
    clear hn hr
    go_enter Try.func36, Try.ntmps36
    go_wp2_with fail
    (try simp only [Exit.inBlock, Exit.then])
    refine bodyPost_ret (ret_four rfl _ _ _) rfl ?_
    exact ⟨rfl, Below.refl _ _⟩
  | cons s0 r =>
    obtain ⟨b, off, rfl, hb, hcs⟩ := hr.str_at (i := 0) (by simp)
    have hn0 : 0 < n := by rw [hn]; simp
    have c0 : w.cell? ⟨b, off, none⟩ = some (.string s0) := hcs 0 (by simp)
    have HC := Lib.hid hcs
    have HN := Lib.hid hn
    clear hr hcs hn
    cases hT : Pl.tellF s0 with
    | none =>
      have HJ := Lib.hid (Pl.joinF_none (r := r) hT)
      have HT := Lib.hid (tell_none hT)
      clear hT
      go_enter Try.func36, Try.ntmps36
      go_wp2_with fail
      refine (HT.out _).mono ?_
      rintro e w1 ⟨rfl, h1⟩
      have HB1 := Lib.hid (h1.alloc h1.size (.cells #[.int .i64 0, .int .i64 0, .int .i64 0, .string ⟨#[]⟩] 75))
      clear h1
      go_wp2_with fail
      (try simp only [Exit.inBlock, Exit.then])
      refine bodyPost_ret (ret_four rfl _ _ _) rfl ?_
      exact ⟨by rw [HJ.out]; rfl, HB1.out⟩
    | some q =>
      obtain ⟨n0, p0, k0, d0⟩ := q
      have HT := Lib.hid (tell_some hT)
      obtain ⟨_, hok, _, _⟩ := Pl.tell_inv hT
      obtain ⟨z1, z2, z3, z4, _, _⟩ := (Pl.okB_iff _ _ _ _).1 hok
      clear hok
      by_cases hk : k0 ≤ n
      · have HJ := Lib.hid (Pl.joinF_some (r := r) hT (by rw [← HN.out]; exact hk))
        clear hT
        have g2 : decide ((n : Int) < (k0 : Int)) = false := decide_eq_false (by omega)
        have g3 : decide (n < k0) = false := decide_eq_false (by omega)
        have g4 : (0 : Int) ≤ (k0 : Int) := by omega
        have g5 : (k0 : Int) ≤ (c : Int) := by omega
        go_enter Try.func36, Try.ntmps36
        go_wp2_with fail
        refine (HT.out _).mono ?_
        rintro e w1 ⟨rfl, h1⟩
        have hbf : w.heap.size ≤ w1.heap.size := h1.size
        have HB1 := Lib.hid (h1.alloc h1.size (.cells #[.int .i64 (n0 : Int), .int .i64 (p0 : Int), .int .i64 (k0 : Int), .string d0] 75))
        clear h1
        go_wp2_with fail
        have HL := Lib.hid (show ((s0 :: r).take k0).length = k0 from by rw [List.length_take, ← HN.out]; omega)
        have HP1 : Hid (PB (w1.alloc (.cells #[.int .i64 (n0 : Int), .int .i64 (p0 : Int), .int .i64 (k0 : Int), .string d0] 75)) w1.heap.size n0 p0 k0 d0) := Lib.hid (new_block _ _)
        generalize (w1.alloc (.cells #[.int .i64 (n0 : Int), .int .i64 (p0 : Int), .int .i64 (k0 : Int), .string d0] 75)) = w2 at HB1 HP1 ⊢
        generalize w1.heap.size = bf at HP1 hbf ⊢
        clear g2 g3 g4 g5
        go_loopw [37, 8] (fun i v wr => ∃ (k : Nat) (acc : ByteArray), k ≤ k0 ∧ i = .int .i64 (k : Int) ∧ v = .string acc ∧ acc.size ≤ 55 * k ∧
            Hid (Pl.joinL n0 k0 0 ((s0 :: r).take k0) = (Pl.joinL n0 k0 k (((s0 :: r).take k0).drop k)).map (acc.data.toList ++ ·)) ∧ Hid (PB wr bf n0 p0 k0 d0) ∧ Hid (Below w.heap.size w wr)) (fun i _ _ => k0 - (intOf i).toNat)
        case atStart => exact ⟨0, ⟨#[]⟩, by omega, rfl, rfl, Nat.zero_le _, Lib.hid (by simp), HP1, HB1⟩
        case round =>
          obtain ⟨k, acc, hk0, rfl, rfl, hac, HI, HP, HW⟩ := hrel
          by_cases hlt : k < k0
          · have hkl : k < (s0 :: r).length := by have := HN.out; omega
            have ck : wr.cell? ⟨b, off + k, none⟩ = some (.string (s0 :: r)[k]) := (HW.out.cell (p := ⟨b, off + k, none⟩) hb).trans (HC.out k hkl)
            have hgk : ((s0 :: r).take k0)[k]? = some (s0 :: r)[k] := by rw [List.getElem?_take_of_lt hlt, List.getElem?_eq_getElem hkl]
            generalize (s0 :: r)[k] = sk at ck hgk
            have q0 : wr.cell? ⟨bf, 0, none⟩ = some (.int .i64 (n0 : Int)) := by rw [cell_of_block HP.out]; rfl
            have q2 : wr.cell? ⟨bf, 2, none⟩ = some (.int .i64 (k0 : Int)) := by rw [cell_of_block HP.out]; rfl
            have h1 : (0 : Int) ≤ (k : Int) := by omega
            have h2 : (k : Int) < (k0 : Int) := by omega
            have h3 : (k : Int) < (n : Int) := by omega
            clear hkl
            cases hTk : Pl.tellF sk with
            | none =>
              have HTK := Lib.hid (tell_none hTk)
              go_wp2_with fail
              refine (HTK.out _).mono ?_
              rintro e w3 ⟨rfl, hb3⟩
              have HW3 := Lib.hid (HW.out.trans (hb3.mono HW.out.size))
              clear hb3
              have HS := Lib.hid (Pl.joinL_stop (n := n0) (k := k0) acc.data.toList hgk (fun d hd => by rw [hTk] at hd; first | (cases hd; done) | (simp at hd; omega)))
              go_wp2_with fail
              (try simp only [Exit.inBlock, Exit.then])
              refine bodyPost_ret (ret_four rfl _ _ _) rfl ?_
              exact ⟨by rw [HJ.out, HI.out, HS.out]; rfl, (HW3.out.alloc HW3.out.size (.cells #[.int .i64 0, .int .i64 0, .int .i64 0, .string ⟨#[]⟩] 75))⟩
            | some q =>
              obtain ⟨n1, p1, k1, d1⟩ := q
              have HTK := Lib.hid (tell_some hTk)
              go_wp2_with fail
              refine (HTK.out _).mono ?_
              rintro e w3 ⟨rfl, hb3⟩
              have HW3 := Lib.hid (HW.out.trans (hb3.mono HW.out.size))
              have HP3 : Hid (PB w3 bf n0 p0 k0 d0) := Lib.hid ((hb3.block bf (lt_of_block HP.out)).trans HP.out)
              clear hb3 q0 q2 ck h1 h2 h3
              have q0 : w3.cell? ⟨bf, 0, none⟩ = some (.int .i64 (n0 : Int)) := by rw [cell_of_block HP3.out]; rfl
              have q2 : w3.cell? ⟨bf, 2, none⟩ = some (.int .i64 (k0 : Int)) := by rw [cell_of_block HP3.out]; rfl
              have hbl : bf ≠ w3.heap.size := by have := lt_of_block HP3.out; omega
              have hbl2 : w3.heap.size ≠ bf := Ne.symm hbl
              have q0a : (w3.alloc (.cells #[.int .i64 (n1 : Int), .int .i64 (p1 : Int), .int .i64 (k1 : Int), .string d1] 75)).cell? ⟨bf, 0, none⟩ = some (.int .i64 (n0 : Int)) := by rw [World.cell?_alloc_lt _ _ _ (show (⟨bf, 0, none⟩ : Addr).block < w3.heap.size from lt_of_block HP3.out)]; exact q0
              have q2a : (w3.alloc (.cells #[.int .i64 (n1 : Int), .int .i64 (p1 : Int), .int .i64 (k1 : Int), .string d1] 75)).cell? ⟨bf, 2, none⟩ = some (.int .i64 (k0 : Int)) := by rw [World.cell?_alloc_lt _ _ _ (show (⟨bf, 2, none⟩ : Addr).block < w3.heap.size from lt_of_block HP3.out)]; exact q2
              by_cases m0 : n1 = n0
              · have m0b : ((n1 : Int) != (n0 : Int)) = false := by simp; omega
                have Hm0 := Lib.hid m0
                clear m0
                by_cases m2 : p1 = k
                · have m2b : ((p1 : Int) != (k : Int)) = false := by simp; omega
                  have Hm2 := Lib.hid m2
                  clear m2
                  by_cases m1 : k1 = k0
                  · have m1b : ((k1 : Int) != (k0 : Int)) = false := by simp; omega
                    have Hm1 := Lib.hid m1
                    clear m1
                    have hst := Pl.joinL_step (n := n0) (k := k0) acc.data.toList hgk (d := d1) (by rw [hTk, Hm0.out, Hm1.out, Hm2.out])
                    rw [← app_list] at hst
                    have HS := Lib.hid hst
                    have hd1 := (Pl.tell_inv hTk).2.2.1
                    have has : (acc ++ d1).size = acc.size + d1.size := app_size _ _
                    have HP4 : Hid (PB (w3.alloc (.cells #[.int .i64 (n1 : Int), .int .i64 (p1 : Int), .int .i64 (k1 : Int), .string d1] 75)) bf n0 p0 k0 d0) := Lib.hid ((Below.heap_alloc _ _ bf (lt_of_block HP3.out)).trans HP3.out)
                    clear hst hTk
                    go_wp2_with fail
                    go_roundw
                    case rel => exact ⟨k + 1, acc ++ d1, by omega, by go_num, rfl, by omega, Lib.hid (HI.out.trans HS.out), HP4, Lib.hid (HW3.out.alloc HW3.out.size (.cells #[.int .i64 (n1 : Int), .int .i64 (p1 : Int), .int .i64 (k1 : Int), .string d1] 75))⟩
                    case measure => simp [intOf]; omega
                  · have m1b : ((k1 : Int) != (k0 : Int)) = true := by simp; omega
                    have HS := Lib.hid (Pl.joinL_stop (n := n0) (k := k0) acc.data.toList hgk (fun d hd => by rw [hTk] at hd; first | (cases hd; done) | (simp at hd; omega)))
                    go_wp2_with fail
                    (try simp only [Exit.inBlock, Exit.then])
                    refine bodyPost_ret (ret_four rfl _ _ _) rfl ?_
                    exact ⟨by rw [HJ.out, HI.out, HS.out]; rfl, (HW3.out.alloc HW3.out.size (.cells #[.int .i64 (n1 : Int), .int .i64 (p1 : Int), .int .i64 (k1 : Int), .string d1] 75))⟩
                · have m2b : ((p1 : Int) != (k : Int)) = true := by simp; omega
                  have HS := Lib.hid (Pl.joinL_stop (n := n0) (k := k0) acc.data.toList hgk (fun d hd => by rw [hTk] at hd; first | (cases hd; done) | (simp at hd; omega)))
                  go_wp2_with fail
                  (try simp only [Exit.inBlock, Exit.then])
                  refine bodyPost_ret (ret_four rfl _ _ _) rfl ?_
                  exact ⟨by rw [HJ.out, HI.out, HS.out]; rfl, (HW3.out.alloc HW3.out.size (.cells #[.int .i64 (n1 : Int), .int .i64 (p1 : Int), .int .i64 (k1 : Int), .string d1] 75))⟩
              · have m0b : ((n1 : Int) != (n0 : Int)) = true := by simp; omega
                have HS := Lib.hid (Pl.joinL_stop (n := n0) (k := k0) acc.data.toList hgk (fun d hd => by rw [hTk] at hd; first | (cases hd; done) | (simp at hd; omega)))
                go_wp2_with fail
                (try simp only [Exit.inBlock, Exit.then])
                refine bodyPost_ret (ret_four rfl _ _ _) rfl ?_
                exact ⟨by rw [HJ.out, HI.out, HS.out]; rfl, (HW3.out.alloc HW3.out.size (.cells #[.int .i64 (n1 : Int), .int .i64 (p1 : Int), .int .i64 (k1 : Int), .string d1] 75))⟩
          · obtain rfl : k = k0 := by omega
            have q0 : wr.cell? ⟨bf, 0, none⟩ = some (.int .i64 (n0 : Int)) := by rw [cell_of_block HP.out]; rfl
            have q2 : wr.cell? ⟨bf, 2, none⟩ = some (.int .i64 (k : Int)) := by rw [cell_of_block HP.out]; rfl
            have HE := Lib.hid (Pl.joinL_end (n := n0) (k := k) (l := (s0 :: r).take k) (i := k) acc.data.toList (by rw [HL.out]; exact Nat.le_refl _))
            go_wp2_with fail
            go_quiet (fail)
            go_wp2_with fail
            (try simp only [Exit.inBlock, Exit.then])
            refine bodyPost_ret (ret_four rfl _ _ _) rfl ?_
            exact ⟨by rw [HJ.out, HI.out, HE.out, Option.map_some, ← Pl.ba_mk acc]; rfl, below_drewN HW.out _⟩
      · have HJ := Lib.hid (Pl.joinF_short (r := r) hT (by rw [← HN.out]; omega))
        clear hT
        have g2 : decide ((n : Int) < (k0 : Int)) = true := decide_eq_true (by omega)
        have g3 : decide (n < k0) = true := decide_eq_true (by omega)
        go_enter Try.func36, Try.ntmps36
        go_wp2_with fail
        refine (HT.out _).mono ?_
        rintro e w1 ⟨rfl, h1⟩
        have HB1 := Lib.hid (h1.alloc h1.size (.cells #[.int .i64 (n0 : Int), .int .i64 (p0 : Int), .int .i64 (k0 : Int), .string d0] 75))
        clear h1
        go_wp2_with fail
        (try simp only [Exit.inBlock, Exit.then])
        refine bodyPost_ret (ret_four rfl _ _ _) rfl ?_
        exact ⟨by rw [HJ.out]; rfl, HB1.out⟩
end Go.Proofs.Ytcmeaeemjecjiaa.Fm
