/-
  The walk of SlotsPlays (by wip/tools/gen_plays6.py).
-/
import Derived.Test.YtkcickbkmedbmaaSPlayK
import Derived.Deep.RegionHeld3
import Derived.BigQuiet
namespace Go.Proofs.Ytkcickbkmedbmaa.slotsPlays
open Go.RowKit Go.Maps

/-- How many sectors the reference says, of whatever number. -/
def rsF (z : Int) : Int := max 1 (wrap64 ((wrap64 (wrap64 (max z 0 + 53) - 1)).tdiv 53))
theorem rsects_fun (z : Int) (w : World) : Calls Try.prog 24 #[.int .i64 z] w fun e w' => e = .returned (.int .i64 (rsF z)) ∧ w = w' := by
  have HR : Hid (rsF z = max 1 (wrap64 ((wrap64 (wrap64 (max z 0 + 53) - 1)).tdiv 53))) := Lib.hid rfl
  go_enter Try.func24, Try.ntmps24
  go_wp2
  go_ret
  exact ⟨by rw [HR.out]; rfl, rfl⟩
theorem rsF_small {z : Int} (h : z < 1099511627776) : rsF z = Fm.sectF z := by
  unfold rsF Fm.sectF
  rw [IntWalk.wrap64_in (max z 0 + 53) (by omega), IntWalk.wrap64_in (max z 0 + 53 - 1) (by omega), Int.tdiv_eq_ediv_of_nonneg (by omega), IntWalk.wrap64_in ((max z 0 + 53 - 1) / 53) (by omega)]
  omega
theorem sect_cases (z : Int) : (Fm.sectF z != rsF z) = false ∨ ((Fm.sectF z != rsF z) = true ∧ decide (z < 1099511627776) = false) := by
  by_cases h : Fm.sectF z = rsF z
  · exact .inl (by simp [h])
  · refine .inr ⟨by simpa using h, ?_⟩
    by_cases h1 : z < 1099511627776
    · exact absurd (rsF_small h1).symm h
    · simpa using h1

theorem tmod_lo (x : Int) {p : Nat} (hp : 1 ≤ p) : -(p : Int) < x.tmod (p : Int) := by
  have h := Int.tmod_lt_of_pos (-x) (show (0 : Int) < (p : Int) by omega)
  rw [Int.neg_tmod] at h
  omega
theorem tmod_hi (x : Int) {p : Nat} (hp : 1 ≤ p) : x.tmod (p : Int) < (p : Int) := Int.tmod_lt_of_pos x (by omega)

theorem layK {w0 w : World} {b br n n' : Nat} {s s' : St} {cs : List (Nat × Obj)} (h : K w0 w b br n s n' s' cs) {z : Int} {d : ByteArray} (hz : 1 ≤ z ∧ z ≤ 2147483647) (hd : d.size ≤ 5000) {p : Nat} (hp : p = Ps.partsN d.size) :
    Calls Try.prog 18 #[.int .i64 z, .string d] w fun e w' => ∃ g off c, e = .returned (.tuple #[.slice (some ⟨g, off, none⟩) p c, .int .i64 0]) ∧ p ≤ c ∧ (∃ o, K w0 w' b br n s n' s' ((g, o) :: cs)) ∧ ∀ j, j < p → ∃ t : ByteArray, w'.cell? ⟨g, off + j, none⟩ = some (.string t) := by
  obtain ⟨m, rfl⟩ := Int.eq_ofNat_of_zero_le (show 0 ≤ z by omega)
  refine (rlay_some m d w (by omega) (by omega) (by omega)).mono ?_
  rintro e w' ⟨A, c, rfl, hc, hrd, hb, hnew⟩
  have hl := Ps.secs_length m d
  have hpos := Ps.partsN_pos d.size
  obtain ⟨g, off, rfl, hg, hcs⟩ := Fm.Rd.str_at (w := w') (B := w'.heap.size) (A := A) (l := Ps.secs m d) hrd (i := 0) (by omega)
  have hge : w.heap.size ≤ g := hnew _ rfl
  obtain ⟨o, ho⟩ : ∃ o, w'.heap[g]? = some o := ⟨_, Array.getElem?_eq_getElem hg⟩
  rw [hl, ← hp] at hc
  exact ⟨g, off, c, by rw [hl, ← hp], hc, ⟨o, h.grow hb hge ho⟩, fun j hj => ⟨_, hcs j (by omega)⟩⟩

set_option maxRecDepth 100000 in
set_option maxHeartbeats 16000000 in
theorem walk (A : Option Addr) (n c : Nat) (l : List Cl6) (w : World) (hn : n = l.length) (hsz : n * 48 ≤ 140737488351232) (hr : Rd w w.heap.size A (oc l)) (hok : ∀ o ∈ l, o.Ok) :
    Calls Try.prog 3 #[.slice A n c] w fun e w' => e = .returned (.bool true) ∧ Below w.heap.size w w' := by
  have HN := Lib.hid hn
  have HR := Lib.hid hr
  have HOK := Lib.hid hok
  have hn63 : n ≤ 140737488355328 := by omega
  clear hn hr hok hsz
  go_enter Try.func3, Try.ntmps3
  go_wp2_with fail
  refine (newX w).mono ?_
  rintro e w1 ⟨X, rfl, hm, hX, hb⟩
  have H1 := Lib.hid (And.intro hm (And.intro hX hb))
  clear hm hX hb
  go_wp2_with fail
  refine (rnewX w1).mono ?_
  rintro e w2 ⟨Y, rfl, hm, hY, hb⟩
  have H0 := Lib.hid (newK H1.out.1 H1.out.2.1 H1.out.2.2 hm hY hb)
  clear hm hY hb
  generalize w1.heap.size = br at H0 ⊢
  go_wp2_with fail
  go_loopw [5] (fun i wr => ∃ k : Nat, k ≤ n ∧ k ≤ 200 ∧ i = .int .i64 (k : Int) ∧ Hid (∃ s, K w wr (w.heap.size + 1) br (100 * k) s (100 * k) s [])) (fun i _ => n - (RowKit.intOf i).toNat)
  case atStart => exact ⟨0, by omega, by omega, rfl, Lib.hid ⟨_, H0.out⟩⟩
  case round =>
    obtain ⟨k, hk, hk5, rfl, hJ⟩ := hrel
    obtain ⟨s, hJ⟩ := hJ.out
    have H := Lib.hid hJ
    clear hJ
    by_cases hlt : k < n ∧ k < 200
    · obtain ⟨hlt, hl5⟩ := hlt
      have hkl : k < l.length := by rw [← HN.out]; exact hlt
      obtain ⟨b, off, rfl, hb, hc⟩ := HR.out.call hkl
      have HO := Lib.hid (HOK.out l[k] (List.getElem_mem hkl))
      have hcc := hc k hkl
      clear hc
      generalize l[k] = o at hcc HO
      obtain ⟨ask, num, size, byte, left, at_⟩ := o
      simp only at hcc
      obtain ⟨c0, c1, c2, c3, c4, c5⟩ := hcc
      have hB := H.out.fst
      rw [← hB.cell (p := ⟨b, off + k * 6, none⟩) hb] at c0
      rw [← hB.cell (p := ⟨b, off + k * 6 + 1, none⟩) hb] at c1
      rw [← hB.cell (p := ⟨b, off + k * 6 + 2, none⟩) hb] at c2
      rw [← hB.cell (p := ⟨b, off + k * 6 + 3, none⟩) hb] at c3
      rw [← hB.cell (p := ⟨b, off + k * 6 + 4, none⟩) hb] at c4
      rw [← hB.cell (p := ⟨b, off + k * 6 + 5, none⟩) hb] at c5
      clear hB
      have h1 : (0 : Int) ≤ (k : Int) := by omega
      have h2 : (k : Int) < (n : Int) := by omega
      have h3 : (k : Int) < 200 := by omega
      by_cases ha0 : ask = 0
      · subst ha0
        go_wp2_with fail
        have H := Lib.hid (H.out.add (.cells #[.int .i64 0, .int .i64 num, .int .i64 size, .int .i64 byte, .int .i64 left, .int .i64 at_] 28))
        clear c0 c1 c2 c3 c4 c5
        generalize wr.alloc (.cells #[.int .i64 0, .int .i64 num, .int .i64 size, .int .i64 byte, .int .i64 left, .int .i64 at_] 28) = w3 at H ⊢
        generalize wr.heap.size = bx at H ⊢
        have q1 : w3.cell? ⟨bx, 1, none⟩ = some (.int .i64 num) := H.out.cell (List.mem_singleton.2 rfl) 1
        have q2 : w3.cell? ⟨bx, 2, none⟩ = some (.int .i64 size) := H.out.cell (List.mem_singleton.2 rfl) 2
        have q3 : w3.cell? ⟨bx, 3, none⟩ = some (.int .i64 byte) := H.out.cell (List.mem_singleton.2 rfl) 3
        obtain ⟨cw, s', hW⟩ : ∃ cw s', saveF s num (fillB size byte) = (cw, s') := ⟨_, _, rfl⟩
        have HW := Lib.hid hW
        have HF := Lib.hid (fillB_size size byte)
        clear hW
        have qc : (cw != cw) = false := bne_self_eq_false _
        go_region_held3 (fun w' => w'.cell? ⟨bx, 1, none⟩ = some (.int .i64 num) ∧ w'.cell? ⟨bx, 2, none⟩ = some (.int .i64 size) ∧ w'.cell? ⟨bx, 3, none⟩ = some (.int .i64 byte))
          (first
            | go_keep
            | (exact ⟨H.out.cell (List.mem_singleton.2 rfl) 1, H.out.cell (List.mem_singleton.2 rfl) 2, H.out.cell (List.mem_singleton.2 rfl) 3⟩)
            | (exact ⟨H.out.drew.cell (List.mem_singleton.2 rfl) 1, H.out.drew.cell (List.mem_singleton.2 rfl) 2, H.out.drew.cell (List.mem_singleton.2 rfl) 3⟩))
          (first
            | (go_at_call 10; (with_reducible refine (fillK (by first | exact H.out | exact H.out.drew) _ _).mono ?_); rintro e w4 ⟨rfl, hj⟩; have H := Lib.hid hj; clear hj)
            | (go_at_call 9; (with_reducible refine (saveK (by first | exact H.out | exact H.out.drew) (by omega) HF.out HW.out).mono ?_); rintro e w5 ⟨rfl, hj⟩; have H := Lib.hid hj; clear hj)
            | (go_at_call 11; (with_reducible refine (rsaveK (by first | exact H.out | exact H.out.drew) (by omega) HF.out HW.out).mono ?_); rintro e w6 ⟨rfl, hj⟩; have H := Lib.hid hj; clear hj))
        clear q1 q2 q3 qc
        go_wp2_with fail
        have q2 : w6.cell? ⟨bx, 2, none⟩ = some (.int .i64 size) := H.out.cell (List.mem_singleton.2 rfl) 2
        have gw : (s'.writes != s'.writes) = false := bne_self_eq_false _
        rcases sect_cases size with gq | ⟨gq, gz⟩
        · go_quiet (first
            | (go_at_call 21; exact Calls.quiet_of_same ((writesK (H.out.drewN _)).mono fun e w' ⟨h1, h2⟩ => ⟨h1, h2.symm⟩))
            | (go_at_call 22; exact Calls.quiet_of_same ((rwritesK (H.out.drewN _)).mono fun e w' ⟨h1, h2⟩ => ⟨h1, h2.symm⟩))
            | (go_at_call 23; exact Calls.quiet_of_same ((Fm.sectors_any size _ HO.out.size.1 HO.out.size.2).mono fun e w' ⟨h1, h2⟩ => ⟨h1, h2.symm⟩))
            | (go_at_call 24; exact Calls.quiet_of_same ((rsects_fun size _).mono fun e w' ⟨h1, h2⟩ => ⟨h1, h2.symm⟩)))
          go_wp2_with fail
          go_roundw
          case rel => exact ⟨k + 1, by omega, by omega, by go_num, Lib.hid ⟨_, (H.out.drewN _).bare.mono (by omega) (by omega)⟩⟩
          case measure => simp [RowKit.intOf]; omega
        · go_quiet (first
            | (go_at_call 21; exact Calls.quiet_of_same ((writesK (H.out.drewN _)).mono fun e w' ⟨h1, h2⟩ => ⟨h1, h2.symm⟩))
            | (go_at_call 22; exact Calls.quiet_of_same ((rwritesK (H.out.drewN _)).mono fun e w' ⟨h1, h2⟩ => ⟨h1, h2.symm⟩))
            | (go_at_call 23; exact Calls.quiet_of_same ((Fm.sectors_any size _ HO.out.size.1 HO.out.size.2).mono fun e w' ⟨h1, h2⟩ => ⟨h1, h2.symm⟩))
            | (go_at_call 24; exact Calls.quiet_of_same ((rsects_fun size _).mono fun e w' ⟨h1, h2⟩ => ⟨h1, h2.symm⟩)))
          go_wp2_with fail
          go_roundw
          case rel => exact ⟨k + 1, by omega, by omega, by go_num, Lib.hid ⟨_, (H.out.drewN _).bare.mono (by omega) (by omega)⟩⟩
          case measure => simp [RowKit.intOf]; omega
      · by_cases ha1 : ask = 1
        · subst ha1
          go_wp2_with fail
          have H := Lib.hid (H.out.add (.cells #[.int .i64 1, .int .i64 num, .int .i64 size, .int .i64 byte, .int .i64 left, .int .i64 at_] 28))
          clear c0 c1 c2 c3 c4 c5
          generalize wr.alloc (.cells #[.int .i64 1, .int .i64 num, .int .i64 size, .int .i64 byte, .int .i64 left, .int .i64 at_] 28) = w3 at H ⊢
          generalize wr.heap.size = bx at H ⊢
          have q4 : w3.cell? ⟨bx, 4, none⟩ = some (.int .i64 left) := H.out.cell (List.mem_singleton.2 rfl) 4
          go_wp2_with fail
          refine (armK H.out HO.out.left).mono ?_
          rintro e w5 ⟨rfl, hj⟩
          have H := Lib.hid hj
          clear hj q4
          have q4 : w5.cell? ⟨bx, 4, none⟩ = some (.int .i64 left) := H.out.cell (List.mem_singleton.2 rfl) 4
          go_wp2_with fail
          refine (rarmK H.out HO.out.left).mono ?_
          rintro e w6 ⟨rfl, hj⟩
          have H := Lib.hid hj
          clear hj q4
          go_wp2_with fail
          have q2 : w6.cell? ⟨bx, 2, none⟩ = some (.int .i64 size) := H.out.cell (List.mem_singleton.2 rfl) 2
          have gw : ((armF s left).writes != (armF s left).writes) = false := bne_self_eq_false _
          rcases sect_cases size with gq | ⟨gq, gz⟩
          · go_quiet (first
              | (go_at_call 21; exact Calls.quiet_of_same ((writesK (H.out.drewN _)).mono fun e w' ⟨h1, h2⟩ => ⟨h1, h2.symm⟩))
              | (go_at_call 22; exact Calls.quiet_of_same ((rwritesK (H.out.drewN _)).mono fun e w' ⟨h1, h2⟩ => ⟨h1, h2.symm⟩))
              | (go_at_call 23; exact Calls.quiet_of_same ((Fm.sectors_any size _ HO.out.size.1 HO.out.size.2).mono fun e w' ⟨h1, h2⟩ => ⟨h1, h2.symm⟩))
              | (go_at_call 24; exact Calls.quiet_of_same ((rsects_fun size _).mono fun e w' ⟨h1, h2⟩ => ⟨h1, h2.symm⟩)))
            go_wp2_with fail
            go_roundw
            case rel => exact ⟨k + 1, by omega, by omega, by go_num, Lib.hid ⟨_, (H.out.drewN _).bare.mono (by omega) (by omega)⟩⟩
            case measure => simp [RowKit.intOf]; omega
          · go_quiet (first
              | (go_at_call 21; exact Calls.quiet_of_same ((writesK (H.out.drewN _)).mono fun e w' ⟨h1, h2⟩ => ⟨h1, h2.symm⟩))
              | (go_at_call 22; exact Calls.quiet_of_same ((rwritesK (H.out.drewN _)).mono fun e w' ⟨h1, h2⟩ => ⟨h1, h2.symm⟩))
              | (go_at_call 23; exact Calls.quiet_of_same ((Fm.sectors_any size _ HO.out.size.1 HO.out.size.2).mono fun e w' ⟨h1, h2⟩ => ⟨h1, h2.symm⟩))
              | (go_at_call 24; exact Calls.quiet_of_same ((rsects_fun size _).mono fun e w' ⟨h1, h2⟩ => ⟨h1, h2.symm⟩)))
            go_wp2_with fail
            go_roundw
            case rel => exact ⟨k + 1, by omega, by omega, by go_num, Lib.hid ⟨_, (H.out.drewN _).bare.mono (by omega) (by omega)⟩⟩
            case measure => simp [RowKit.intOf]; omega
        · by_cases ha2 : ask = 2
          · subst ha2
            go_wp2_with fail
            have H := Lib.hid (H.out.add (.cells #[.int .i64 2, .int .i64 num, .int .i64 size, .int .i64 byte, .int .i64 left, .int .i64 at_] 28))
            clear c0 c1 c2 c3 c4 c5
            generalize wr.alloc (.cells #[.int .i64 2, .int .i64 num, .int .i64 size, .int .i64 byte, .int .i64 left, .int .i64 at_] 28) = w3 at H ⊢
            generalize wr.heap.size = bx at H ⊢
            refine (onK H.out).mono ?_
            rintro e w5 ⟨rfl, hj⟩
            have H := Lib.hid hj
            clear hj
            go_wp2_with fail
            refine (ronK H.out).mono ?_
            rintro e w6 ⟨rfl, hj⟩
            have H := Lib.hid hj
            clear hj
            obtain ⟨q0, q2, q1, hq⟩ := load_parts (mdT (onF s))
            have HL1 := Lib.hid (loadK H.out rfl)
            rw [hq] at HL1
            have HQ := Lib.hid hq
            clear hq
            have qd : (q1.toList == q1.toList) = true := beq_self_eq_true _
            have qn : (q1.toList != q1.toList) = false := bne_self_eq_false _
            have qa : (q0 != q0) = false := bne_self_eq_false _
            have qb : (q2 != q2) = false := bne_self_eq_false _
            go_wp2_with fail
            refine HL1.out.mono ?_
            rintro e w7 ⟨rfl, hj⟩
            have H := Lib.hid hj
            clear hj HL1
            have HL2 := Lib.hid (rloadK H.out (by omega) rfl)
            rw [HQ.out] at HL2
            go_wp2_with fail
            refine HL2.out.mono ?_
            rintro e w8 ⟨rfl, hj⟩
            have H := Lib.hid hj
            clear hj HL2 HQ
            go_wp2_with fail
            clear qd qn qa qb
            have q2 : w8.cell? ⟨bx, 2, none⟩ = some (.int .i64 size) := H.out.cell (List.mem_singleton.2 rfl) 2
            have gw : ((onF s).writes != (onF s).writes) = false := bne_self_eq_false _
            rcases sect_cases size with gq | ⟨gq, gz⟩
            · go_quiet (first
                | (go_at_call 21; exact Calls.quiet_of_same ((writesK (H.out.drewN _)).mono fun e w' ⟨h1, h2⟩ => ⟨h1, h2.symm⟩))
                | (go_at_call 22; exact Calls.quiet_of_same ((rwritesK (H.out.drewN _)).mono fun e w' ⟨h1, h2⟩ => ⟨h1, h2.symm⟩))
                | (go_at_call 23; exact Calls.quiet_of_same ((Fm.sectors_any size _ HO.out.size.1 HO.out.size.2).mono fun e w' ⟨h1, h2⟩ => ⟨h1, h2.symm⟩))
                | (go_at_call 24; exact Calls.quiet_of_same ((rsects_fun size _).mono fun e w' ⟨h1, h2⟩ => ⟨h1, h2.symm⟩)))
              go_wp2_with fail
              go_roundw
              case rel => exact ⟨k + 1, by omega, by omega, by go_num, Lib.hid ⟨_, (H.out.drewN _).bare.mono (by omega) (by omega)⟩⟩
              case measure => simp [RowKit.intOf]; omega
            · go_quiet (first
                | (go_at_call 21; exact Calls.quiet_of_same ((writesK (H.out.drewN _)).mono fun e w' ⟨h1, h2⟩ => ⟨h1, h2.symm⟩))
                | (go_at_call 22; exact Calls.quiet_of_same ((rwritesK (H.out.drewN _)).mono fun e w' ⟨h1, h2⟩ => ⟨h1, h2.symm⟩))
                | (go_at_call 23; exact Calls.quiet_of_same ((Fm.sectors_any size _ HO.out.size.1 HO.out.size.2).mono fun e w' ⟨h1, h2⟩ => ⟨h1, h2.symm⟩))
                | (go_at_call 24; exact Calls.quiet_of_same ((rsects_fun size _).mono fun e w' ⟨h1, h2⟩ => ⟨h1, h2.symm⟩)))
              go_wp2_with fail
              go_roundw
              case rel => exact ⟨k + 1, by omega, by omega, by go_num, Lib.hid ⟨_, (H.out.drewN _).bare.mono (by omega) (by omega)⟩⟩
              case measure => simp [RowKit.intOf]; omega
          · by_cases ha3 : ask = 3
            · subst ha3
              go_wp2_with fail
              have H := Lib.hid (H.out.add (.cells #[.int .i64 3, .int .i64 num, .int .i64 size, .int .i64 byte, .int .i64 left, .int .i64 at_] 28))
              clear c0 c1 c2 c3 c4 c5
              generalize wr.alloc (.cells #[.int .i64 3, .int .i64 num, .int .i64 size, .int .i64 byte, .int .i64 left, .int .i64 at_] 28) = w3 at H ⊢
              generalize wr.heap.size = bx at H ⊢
              have q1 : w3.cell? ⟨bx, 1, none⟩ = some (.int .i64 num) := H.out.cell (List.mem_singleton.2 rfl) 1
              have q2 : w3.cell? ⟨bx, 2, none⟩ = some (.int .i64 size) := H.out.cell (List.mem_singleton.2 rfl) 2
              have q3 : w3.cell? ⟨bx, 3, none⟩ = some (.int .i64 byte) := H.out.cell (List.mem_singleton.2 rfl) 3
              have HF := Lib.hid (fillB_size size byte)
              by_cases hz : 1 ≤ num ∧ num ≤ 2147483647
              · obtain ⟨p, hp⟩ : ∃ p, p = Ps.partsN (fillB size byte).size := ⟨_, rfl⟩
                have hp1 : 1 ≤ p := by rw [hp]; exact Ps.partsN_pos _
                have hp2 : p ≤ 95 := by rw [hp]; exact slotsLasts.partsN_5000 HF.out
                have HPP := Lib.hid hp
                have HZ := Lib.hid hz
                clear hz hp
                go_region_held3 (fun w' => w'.cell? ⟨bx, 1, none⟩ = some (.int .i64 num) ∧ w'.cell? ⟨bx, 2, none⟩ = some (.int .i64 size) ∧ w'.cell? ⟨bx, 3, none⟩ = some (.int .i64 byte))
                  (first
                    | go_keep
                    | (exact ⟨H.out.cell (List.mem_singleton.2 rfl) 1, H.out.cell (List.mem_singleton.2 rfl) 2, H.out.cell (List.mem_singleton.2 rfl) 3⟩)
                    | (exact ⟨H.out.cell (List.mem_cons_of_mem _ (List.mem_singleton.2 rfl)) 1, H.out.cell (List.mem_cons_of_mem _ (List.mem_singleton.2 rfl)) 2, H.out.cell (List.mem_cons_of_mem _ (List.mem_singleton.2 rfl)) 3⟩)
                    | (exact ⟨H.out.drew.cell (List.mem_singleton.2 rfl) 1, H.out.drew.cell (List.mem_singleton.2 rfl) 2, H.out.drew.cell (List.mem_singleton.2 rfl) 3⟩))
                  (first
                    | (go_at_call 10; (with_reducible refine (fillK (by first | exact H.out | exact H.out.drew) _ _).mono ?_); rintro e w4 ⟨rfl, hj⟩; have H := Lib.hid hj; clear hj)
                    | (go_at_call 18; (with_reducible refine (layK (by first | exact H.out | exact H.out.drew) HZ.out HF.out HPP.out).mono ?_); rintro e w5 ⟨g, off, c', rfl, hpc, hx, hy⟩; obtain ⟨ob, hj⟩ := hx; have H := Lib.hid hj; have HC := Lib.hid hy; clear hj hy))
                clear q1 q2 q3
                have q3 : w5.cell? ⟨bx, 3, none⟩ = some (.int .i64 byte) := H.out.cell (List.mem_cons_of_mem _ (List.mem_singleton.2 rfl)) 3
                have q4 : w5.cell? ⟨bx, 4, none⟩ = some (.int .i64 left) := H.out.cell (List.mem_cons_of_mem _ (List.mem_singleton.2 rfl)) 4
                have q5 : w5.cell? ⟨bx, 5, none⟩ = some (.int .i64 at_) := H.out.cell (List.mem_cons_of_mem _ (List.mem_singleton.2 rfl)) 5
                have t0 := tmod_lo left hp1
                have t1 := tmod_hi left hp1
                have t2 : ¬ (p : Int) = 0 := by omega
                have t3 : (p : Int) ≤ 95 := by omega
                go_wp2_with fail
                obtain ⟨j, hj⟩ := Int.eq_ofNat_of_zero_le (Int.emod_nonneg (left.tmod (p : Int) + (p : Int)) t2)
                have hjp : j < p := by have := Int.emod_lt_of_pos (left.tmod (p : Int) + (p : Int)) (show (0 : Int) < (p : Int) by omega); omega
                obtain ⟨xt, hxt⟩ := HC.out j hjp
                have hxf : Wf (min (max byte 0) 1) := by constructor <;> omega
                have hxa : Wf (min (max at_ 0) 100) := by constructor <;> omega
                rw [hj]
                generalize min (max byte 0) 1 = xf at hxf ⊢
                generalize min (max at_ 0) 100 = xa at hxa ⊢
                obtain ⟨cw, s', hW⟩ : ∃ cw s', writeF s xf xa xt = (cw, s') := ⟨_, _, rfl⟩
                have HW := Lib.hid hW
                have HXF := Lib.hid (And.intro hxf hxa)
                have H5 := H
                have HCK : Hid (∀ W n1 s1 n2 s2, K w W (w.heap.size + 1) br n1 s1 n2 s2 ((g, ob) :: [(bx, (.cells #[.int .i64 3, .int .i64 num, .int .i64 size, .int .i64 byte, .int .i64 left, .int .i64 at_] 28))]) → W.cell? ⟨g, off + j, none⟩ = some (.string xt)) := Lib.hid (fun W n1 s1 n2 s2 h => (World.cell?_of_block (w := w5) ((h.block (List.mem_cons_self ..)).trans (H5.out.block (List.mem_cons_self ..)).symm)).trans hxt)
                have qc : (cw != cw) = false := bne_self_eq_false _
                have j1 : (0 : Int) ≤ (j : Int) := by omega
                have j2 : (j : Int) < (p : Int) := by omega
                clear q3 q4 q5 t0 t1 t2 t3 hj hW hxf hxa H5
                go_region_held3 (fun w' => w'.cell? ⟨g, off + j, none⟩ = some (.string xt))
                  (first
                    | exact HCK.out _ _ _ _ _ H.out
                    | exact HCK.out _ _ _ _ _ H.out.drew
                    | go_keep)
                  (first
                    | (go_at_call 19; (with_reducible refine (writeK (by first | exact H.out | exact H.out.drew) (by omega) HXF.out.1 HXF.out.2 HW.out).mono ?_); rintro e w6 ⟨rfl, hj⟩; have H := Lib.hid hj; clear hj)
                    | (go_at_call 20; (with_reducible refine (rwriteK (by first | exact H.out | exact H.out.drew) (by omega) HW.out).mono ?_); rintro e w7 ⟨rfl, hj⟩; have H := Lib.hid hj; clear hj))
                clear qc hxt
                go_wp2_with fail
                have q2 : w7.cell? ⟨bx, 2, none⟩ = some (.int .i64 size) := H.out.cell (List.mem_cons_of_mem _ (List.mem_singleton.2 rfl)) 2
                have gw : (s'.writes != s'.writes) = false := bne_self_eq_false _
                rcases sect_cases size with gq | ⟨gq, gz⟩
                · go_quiet (first
                    | (go_at_call 21; exact Calls.quiet_of_same ((writesK (H.out.drewN _)).mono fun e w' ⟨h1, h2⟩ => ⟨h1, h2.symm⟩))
                    | (go_at_call 22; exact Calls.quiet_of_same ((rwritesK (H.out.drewN _)).mono fun e w' ⟨h1, h2⟩ => ⟨h1, h2.symm⟩))
                    | (go_at_call 23; exact Calls.quiet_of_same ((Fm.sectors_any size _ HO.out.size.1 HO.out.size.2).mono fun e w' ⟨h1, h2⟩ => ⟨h1, h2.symm⟩))
                    | (go_at_call 24; exact Calls.quiet_of_same ((rsects_fun size _).mono fun e w' ⟨h1, h2⟩ => ⟨h1, h2.symm⟩)))
                  go_wp2_with fail
                  go_roundw
                  case rel => exact ⟨k + 1, by omega, by omega, by go_num, Lib.hid ⟨_, (H.out.drewN _).bare.mono (by omega) (by omega)⟩⟩
                  case measure => simp [RowKit.intOf]; omega
                · go_quiet (first
                    | (go_at_call 21; exact Calls.quiet_of_same ((writesK (H.out.drewN _)).mono fun e w' ⟨h1, h2⟩ => ⟨h1, h2.symm⟩))
                    | (go_at_call 22; exact Calls.quiet_of_same ((rwritesK (H.out.drewN _)).mono fun e w' ⟨h1, h2⟩ => ⟨h1, h2.symm⟩))
                    | (go_at_call 23; exact Calls.quiet_of_same ((Fm.sectors_any size _ HO.out.size.1 HO.out.size.2).mono fun e w' ⟨h1, h2⟩ => ⟨h1, h2.symm⟩))
                    | (go_at_call 24; exact Calls.quiet_of_same ((rsects_fun size _).mono fun e w' ⟨h1, h2⟩ => ⟨h1, h2.symm⟩)))
                  go_wp2_with fail
                  go_roundw
                  case rel => exact ⟨k + 1, by omega, by omega, by go_num, Lib.hid ⟨_, (H.out.drewN _).bare.mono (by omega) (by omega)⟩⟩
                  case measure => simp [RowKit.intOf]; omega
              · have HB := Lib.hid (fun W => rlay_none num (fillB size byte) W (.inl hz))
                clear hz
                go_region_held3 (fun w' => w'.cell? ⟨bx, 1, none⟩ = some (.int .i64 num) ∧ w'.cell? ⟨bx, 2, none⟩ = some (.int .i64 size) ∧ w'.cell? ⟨bx, 3, none⟩ = some (.int .i64 byte))
                  (first
                    | go_keep
                    | (exact ⟨H.out.cell (List.mem_singleton.2 rfl) 1, H.out.cell (List.mem_singleton.2 rfl) 2, H.out.cell (List.mem_singleton.2 rfl) 3⟩)
                    | (exact ⟨H.out.cell (List.mem_cons_of_mem _ (List.mem_singleton.2 rfl)) 1, H.out.cell (List.mem_cons_of_mem _ (List.mem_singleton.2 rfl)) 2, H.out.cell (List.mem_cons_of_mem _ (List.mem_singleton.2 rfl)) 3⟩)
                    | (exact ⟨H.out.drew.cell (List.mem_singleton.2 rfl) 1, H.out.drew.cell (List.mem_singleton.2 rfl) 2, H.out.drew.cell (List.mem_singleton.2 rfl) 3⟩))
                  (first
                    | (go_at_call 10; (with_reducible refine (fillK (by first | exact H.out | exact H.out.drew) _ _).mono ?_); rintro e w4 ⟨rfl, hj⟩; have H := Lib.hid hj; clear hj)
                    | (go_at_call 18; (with_reducible refine (HB.out _).mono ?_); rintro e w5 ⟨rfl, hb5⟩; have H := Lib.hid ((by first | exact H.out | exact H.out.drew : K _ _ _ _ _ _ _ _ _).below hb5); clear hb5))
                clear q1 q2 q3
                go_wp2_with fail
                go_roundw
                case rel => exact ⟨k + 1, by omega, by omega, by go_num, Lib.hid ⟨_, H.out.bare.mono (by omega) (by omega)⟩⟩
                case measure => simp [RowKit.intOf]; omega
            · have e0 : (ask == 0) = false := by simp [ha0]
              have e1 : (ask == 1) = false := by simp [ha1]
              have e2 : (ask == 2) = false := by simp [ha2]
              have e3 : (ask == 3) = false := by simp [ha3]
              clear ha0 ha1 ha2 ha3
              go_wp2_with fail
              have H := Lib.hid (H.out.add (.cells #[.int .i64 ask, .int .i64 num, .int .i64 size, .int .i64 byte, .int .i64 left, .int .i64 at_] 28))
              clear c0 c1 c2 c3 c4 c5
              generalize wr.alloc (.cells #[.int .i64 ask, .int .i64 num, .int .i64 size, .int .i64 byte, .int .i64 left, .int .i64 at_] 28) = w3 at H ⊢
              generalize wr.heap.size = bx at H ⊢
              have q2 : w3.cell? ⟨bx, 2, none⟩ = some (.int .i64 size) := H.out.cell (List.mem_singleton.2 rfl) 2
              have gw : (s.writes != s.writes) = false := bne_self_eq_false _
              rcases sect_cases size with gq | ⟨gq, gz⟩
              · go_quiet (first
                  | (go_at_call 21; exact Calls.quiet_of_same ((writesK (H.out.drewN _)).mono fun e w' ⟨h1, h2⟩ => ⟨h1, h2.symm⟩))
                  | (go_at_call 22; exact Calls.quiet_of_same ((rwritesK (H.out.drewN _)).mono fun e w' ⟨h1, h2⟩ => ⟨h1, h2.symm⟩))
                  | (go_at_call 23; exact Calls.quiet_of_same ((Fm.sectors_any size _ HO.out.size.1 HO.out.size.2).mono fun e w' ⟨h1, h2⟩ => ⟨h1, h2.symm⟩))
                  | (go_at_call 24; exact Calls.quiet_of_same ((rsects_fun size _).mono fun e w' ⟨h1, h2⟩ => ⟨h1, h2.symm⟩)))
                go_wp2_with fail
                go_roundw
                case rel => exact ⟨k + 1, by omega, by omega, by go_num, Lib.hid ⟨_, (H.out.drewN _).bare.mono (by omega) (by omega)⟩⟩
                case measure => simp [RowKit.intOf]; omega
              · go_quiet (first
                  | (go_at_call 21; exact Calls.quiet_of_same ((writesK (H.out.drewN _)).mono fun e w' ⟨h1, h2⟩ => ⟨h1, h2.symm⟩))
                  | (go_at_call 22; exact Calls.quiet_of_same ((rwritesK (H.out.drewN _)).mono fun e w' ⟨h1, h2⟩ => ⟨h1, h2.symm⟩))
                  | (go_at_call 23; exact Calls.quiet_of_same ((Fm.sectors_any size _ HO.out.size.1 HO.out.size.2).mono fun e w' ⟨h1, h2⟩ => ⟨h1, h2.symm⟩))
                  | (go_at_call 24; exact Calls.quiet_of_same ((rsects_fun size _).mono fun e w' ⟨h1, h2⟩ => ⟨h1, h2.symm⟩)))
                go_wp2_with fail
                go_roundw
                case rel => exact ⟨k + 1, by omega, by omega, by go_num, Lib.hid ⟨_, (H.out.drewN _).bare.mono (by omega) (by omega)⟩⟩
                case measure => simp [RowKit.intOf]; omega
    · have hy : (¬ k < n ∧ k ≤ 200) ∨ (k < n ∧ k = 200) := by omega
      clear hlt
      rcases hy with ⟨hy, hy2⟩ | ⟨hy, rfl⟩
      all_goals
        go_wp2_with fail
        refine (awake_any _).mono ?_
        rintro e w6 ⟨rfl, hb⟩
        have HB := Lib.hid (H.out.fst.trans (hb.mono H.out.fst.size))
        clear hb
        go_wp2_with fail
        go_ret
        exact ⟨rfl, HB.out⟩
end Go.Proofs.Ytkcickbkmedbmaa.slotsPlays
