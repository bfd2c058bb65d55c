/-
  CONTRACT of the reference's Write.
-/
import Derived.Test.YtkcickbkmedbmaaMRef
import Derived.Maps.AppendAt
namespace Go.Proofs.Ytkcickbkmedbmaa
open Go.RowKit Go.Maps

def RStepX (Y : Nat → Prop) (br n : Nat) (r : Int × St) (w : World) (e : Ending) (w' : World) : Prop :=
  ∃ Y', e = .returned (.int .i64 r.1) ∧ RM w' Y' br n r.2 ∧ Only Y w w' ∧ ∀ k, Y' k → Y k ∨ w.heap.size ≤ k

theorem infoS : (Try.prog.info? 72).map (fun i => (i.zero, i.size, i.bytes)) = some (some (.agg #[.int .i64 0, .int .i64 0, .string ⟨#[]⟩]), 3, 32) := by kernel_rfl

/-- One sector's three cells, at its place. -/
theorem Rd.sec {w : World} {B : Nat} {A : Option Addr} {l : List Sec} (h : Rd w B A (sc l)) {i : Nat} (hi : i < l.length) :
    ∃ b off, A = some ⟨b, off, none⟩ ∧ b < B ∧ ∀ j (hj : j < l.length),
      w.cell? ⟨b, off + j * 3, none⟩ = some (.int .i64 l[j].file) ∧ w.cell? ⟨b, off + j * 3 + 1, none⟩ = some (.int .i64 l[j].at_) ∧ w.cell? ⟨b, off + j * 3 + 2, none⟩ = some (.string l[j].data) := by
  obtain ⟨b, off, e, hb, hc⟩ := h (by rw [sc_length]; omega)
  refine ⟨b, off, e, hb, fun j hj => ?_⟩
  have g : ∀ k, k < 3 → ∀ u, l[j].vs[k]? = some u → w.cell? ⟨b, off + j * 3 + k, none⟩ = some u := fun k hk u hu => by
    rw [Nat.add_assoc]; exact hc _ _ ((sc_at l j k hj hk).trans hu)
  exact ⟨g 0 (by omega) _ rfl, g 1 (by omega) _ rfl, g 2 (by omega) _ rfl⟩

/-- An own row is a block of its own. -/
theorem row_block {w : World} {base : Nat} {l : List Sec} {A : Option Addr} {m c : Nat} (h : w.ownsRow base 72 3 (.slice A m c) m (sc l)) (hm : 0 < m) :
    ∃ g cur, A = some ⟨g, 0, none⟩ ∧ base ≤ g ∧ w.heap[g]? = some (.cells cur 72 (0, 0)) ∧ m ≤ c ∧ c ≤ maxLen ∧ cur.size = c * 3 ∧ cur.toList.take (m * 3) = sc l := by
  rcases h.2 with ⟨_, rfl⟩ | ⟨g, cap, cur, hv, hb, hh, h1, h2, h3, h4⟩
  · omega
  · injection hv with e1 _ e3
    subst e1 e3
    exact ⟨g, cur, rfl, hb, hh, h1, h2, h3, h4⟩
/-- The text of one sector written anew. -/
theorem row_set {w : World} {base : Nat} {l : List Sec} {A : Option Addr} {m c g k : Nat} {d : ByteArray} (h : w.ownsRow base 72 3 (.slice A m c) m (sc l)) (hA : A = some ⟨g, 0, none⟩) (hm : m = l.length) (hk : k < l.length) :
    (w.setCell ⟨g, k * 3 + 2, none⟩ (.string d)).ownsRow base 72 3 (.slice A m c) m (sc (l.set k ⟨l[k].file, l[k].at_, d⟩)) := by
  obtain ⟨g', cur, hA', hb, hh, h1, h2, h3, h4⟩ := row_block h (by omega)
  rw [hA] at hA'
  injection hA' with hA'
  injection hA' with hA'
  subst hA'
  subst hA
  refine ⟨by rw [sc_length, List.length_set, hm], .inr ⟨g, c, cur.setIfInBounds (k * 3 + 2) (.string d), rfl, hb, block_setCell hh _, h1, h2, by rw [Array.size_setIfInBounds]; exact h3, ?_⟩⟩
  rw [Array.toList_setIfInBounds, List.take_set, h4, sc_set _ _ _ hk]

theorem new_sec (w : World) (s : Sec) (t : TypeId) : ∀ (j : Nat) (u : Value), s.vs[j]? = some u → (w.alloc (.cells #[.int .i64 s.file, .int .i64 s.at_, .string s.data] t)).cell? ((⟨w.heap.size, 0, none⟩ : Addr).add j) = some u := by
  intro j u hu
  rw [Addr.add_lit, Nat.zero_add, cell_of_block (heap_alloc_new w _)]
  rw [← hu]
  simp [Sec.vs]
theorem sec_one (s : Sec) : ∀ u ∈ s.vs, u.oneCell' = true := by
  intro u hu
  simp only [Sec.vs, List.mem_cons, List.not_mem_nil, or_false] at hu
  obtain rfl | rfl | rfl := hu <;> rfl

set_option maxRecDepth 100000 in
set_option maxHeartbeats 3200000 in
theorem rwriteX (Y : Nat → Prop) (br n : Nat) (s : St) (x a : Int) (d : ByteArray) (w : World) (h : RM w Y br n s) (hn : n ≤ 1000000) :
    Calls Try.prog 20 #[.pointer (some ⟨br, 0, none⟩), .int .i64 x, .int .i64 a, .string d] w (RStepX Y br (n + 1) (writeF s x a d) w) := by
  obtain ⟨l, A, m, c, left, hr, hY⟩ := h
  have HR := Lib.hid hr
  have HY := Lib.hid hY
  obtain ⟨c0, c1, c2, c3, c4, f0, f1, f2, f3, f4⟩ := hr.ms.cl
  have hne : ∀ k o sp, A = some ⟨k, o, sp⟩ → k ≠ br := fun k o sp hA => row_ne hr.row hr.ms (by decide) hA
  have HNE := Lib.hid hne
  have HG := Lib.hid (hr.good.write x a d)
  clear hne
  cases hoff : s.off with
  | true =>
    rw [hoff] at c3
    have HW := Lib.hid (show writeF s x a d = (40, s) from by unfold writeF spendF; rw [hoff]; simp; cases s; simp_all)
    clear hr hY hoff c0 c1 c2 c4 f0 f1 f2 f3 f4
    go_enter Try.func20, Try.ntmps20
    go_wp2_with fail
    go_ret
    exact ⟨Y, by rw [HW.out]; rfl, by rw [HW.out]; exact RM.mono ⟨l, A, m, c, left, HR.out, HY.out⟩ (Nat.le_succ _), Only.refl _ _, fun k hk => .inl hk⟩
  | false =>
    rw [hoff] at c3
    have HMS : Hid (RMS w br A m c s.armed left false s.writes) := by have := hr.ms; rw [hoff] at this; exact this
    cases hv : validW x a d with
    | false =>
      have HW := Lib.hid (show writeF s x a d = (42, s) from by unfold writeF spendF; rw [hoff, hv]; simp; cases s; simp_all)
      clear hr hY hoff
      cases hxa : isF x && isS a with
      | false =>
        have HX := Lib.hid hxa
        clear hxa hv c0 c1 c2 c4 f0 f1 f2 f3 f4
        go_enter Try.func20, Try.ntmps20
        go_wp2_with (first
          | (go_at_call 36; (with_reducible refine (right_any _ _ _).mono ?_); rw [HX.out]; rintro e w' ⟨rfl, rfl⟩)
          | fail)
        go_ret
        exact ⟨Y, by rw [HW.out]; rfl, by rw [HW.out]; exact RM.mono ⟨l, A, m, c, left, HR.out, HY.out⟩ (Nat.le_succ _), Only.refl _ _, fun k hk => .inl hk⟩
      | true =>
        have HX := Lib.hid hxa
        have hd : ¬ d.size = 64 := fun e => by simp [validW, hxa, e] at hv
        have hd2 : ((d.size : Int) != 64) = true := by rw [bne_iff_ne]; omega
        clear hxa hv hd c0 c1 c2 c4 f0 f1 f2 f3 f4
        go_enter Try.func20, Try.ntmps20
        go_wp2_with (first
          | (go_at_call 36; (with_reducible refine (right_any _ _ _).mono ?_); rw [HX.out]; rintro e w' ⟨rfl, rfl⟩)
          | fail)
        go_ret
        exact ⟨Y, by rw [HW.out]; rfl, by rw [HW.out]; exact RM.mono ⟨l, A, m, c, left, HR.out, HY.out⟩ (Nat.le_succ _), Only.refl _ _, fun k hk => .inl hk⟩
    | true =>
      have hxa : (isF x && isS a) = true := by simp [validW] at hv; simp [hv.1.1, hv.1.2]
      have HX := Lib.hid hxa
      have hd : d.size = 64 := by simp [validW] at hv; exact hv.2
      have hd2 : ((d.size : Int) != 64) = false := by rw [bne_eq_false_iff_eq]; omega
      have HV := Lib.hid hv
      have HOFF := Lib.hid hoff
      have HA := Lib.hid (act_any br A m c s.armed left s.writes w HMS.out (fun ha => by rw [hr.left ha]; exact ⟨hr.good.l0, hr.good.l1⟩) hr.good.w0 (by have := hr.good.w1; omega))
      clear hxa hd hv hoff hr hY c0 c1 c2 c4 f0 f1 f2 f3 f4
      go_enter Try.func20, Try.ntmps20
      go_wp2_with (first
        | (go_at_call 36; (with_reducible refine (right_any _ _ _).mono ?_); rw [HX.out]; rintro e w' ⟨rfl, rfl⟩)
        | fail)
      refine HA.out.mono ?_
      rintro e w1 ⟨hcase, ho⟩
      have HO := Lib.hid ho
      have hleq : ∀ (_ : s.armed = true), left = s.left := HR.out.left
      rcases hcase with ⟨hz, rfl, hms⟩ | ⟨hz, left', rfl, hl', hms⟩
      · have HMS1 := Lib.hid hms
        have HW := Lib.hid (show writeF s x a d = (40, { S := s.S, off := true, armed := s.armed, left := s.left, writes := s.writes }) from by
          unfold writeF spendF
          have : (s.armed && s.left == 0) = true := by
            cases ha : s.armed
            · rw [ha] at hz; simp at hz
            · rw [ha] at hz; rw [← hleq ha]; exact hz
          rw [HOFF.out, HV.out, this]
          simp)
        clear hms ho hz c3 hleq
        go_wp2_with fail
        go_ret
        have hh := HR.out
        refine ⟨Y, by rw [HW.out]; rfl, ?_, HO.out.mono (fun k hk _ => (HY.out k).2 (.inl hk)), fun k hk => .inl hk⟩
        rw [HW.out]
        have hg := HG.out
        rw [HW.out] at hg
        exact ⟨l, A, m, c, left, ⟨HMS1.out, row_kept hh.row (fun k o sp hA => HO.out.block k (row_lt hh.row hA) (HNE.out k o sp hA)), hh.len, Nat.le_trans hh.max (Nat.le_succ _), hh.left, hh.says, hg⟩, HY.out⟩
      · have HMS1 := Lib.hid hms
        have HW := Lib.hid (show writeF s x a d = (0, { S := updS s.S x a d, off := false, armed := s.armed, left := if s.armed then s.left - 1 else s.left, writes := s.writes + 1 }) from by
          unfold writeF spendF
          have : (s.armed && s.left == 0) = false := by
            cases ha : s.armed
            · rfl
            · rw [ha] at hz; rw [← hleq ha]; exact hz
          rw [HOFF.out, HV.out, this]
          simp)
        have HL' := Lib.hid (show s.armed = true → left' = (if s.armed then s.left - 1 else s.left) from fun ha => by rw [hl' ha, hleq ha, ha]; rfl)
        have hrow1 : w1.ownsRow 0 72 3 (.slice A m c) m (sc l) := row_kept HR.out.row (fun k o sp hA => ho.block k (row_lt HR.out.row hA) (HNE.out k o sp hA))
        have HROW := Lib.hid hrow1
        have HRD := Lib.hid (Rd.of_own hrow1)
        obtain ⟨c0, _, _, _, _, f0, _, _, _, _⟩ := hms.cl
        have HM := Lib.hid HR.out.len
        have HMX := Lib.hid HR.out.max
        clear hms ho hz c3 hleq hl' hrow1
        go_wp2_with fail
        go_loop [9] (fun i => ∃ k : Nat, k ≤ m ∧ i = .int .i64 (k : Int) ∧ Hid (∀ j (hj : j < l.length), j < k → hit x a l[j] = false)) (fun i => m - (RowKit.intOf i).toNat)
        case atStart => exact ⟨0, by omega, rfl, Lib.hid (fun j hj h => by omega)⟩
        case round =>
          obtain ⟨k, hk, rfl, HB⟩ := hrel
          have hm63 : m ≤ 1000000 := by have := HMX.out; omega
          by_cases hlt : k < m
          · have hkl : k < l.length := by rw [← HM.out]; exact hlt
            obtain ⟨g, cur, hA, _, hgb, _⟩ := row_block HROW.out (by omega)
            have HA2 := Lib.hid hA
            have HGB := Lib.hid hgb
            obtain ⟨b, off, hA', _, hc⟩ := HRD.out.sec hkl
            rw [hA] at hA'
            injection hA' with hA'
            injection hA' with e1 e2
            subst e1 e2
            obtain ⟨q0, q1, q2⟩ := hc k hkl
            simp only [Nat.zero_add] at q0 q1 q2
            have hfz : w1.frozen? ⟨g, k * 3 + 2, none⟩ = false := frozen_of_block hgb
            have h1 : (0 : Int) ≤ (k : Int) := by omega
            have h2 : (k : Int) < (m : Int) := by omega
            have HHIT := Lib.hid (show hit x a l[k] = (l[k].file == x && l[k].at_ == a) from rfl)
            have HNX := Lib.hid (show hit x a l[k] = false → ∀ j (hj : j < l.length), j < k + 1 → hit x a l[j] = false from fun hf j hj hjk => by
              by_cases e : j = k
              · subst e; exact hf
              · exact HB.out j hj (by omega))
            have HSET := Lib.hid (fun d' => row_set (d := d') HROW.out hA HM.out hkl)
            have HFS := Lib.hid (show hit x a l[k] = true → ∀ y c, findR (l.set k ⟨l[k].file, l[k].at_, d⟩) y c = updS (findR l) x a d y c from fun hh y c => findR_set hkl HB.out hh y c)
            clear hc hgb
            subst hA
            generalize hsk : l[k] = sk at q0 q1 q2 HHIT HNX HSET HFS
            clear hsk
            by_cases hf : (sk.file == x) = true
            · by_cases hat : (sk.at_ == a) = true
              · have HH := Lib.hid (show hit x a sk = true from by rw [HHIT.out, hf, hat]; rfl)
                go_wp2_with fail
                go_ret
                have hh := HR.out
                have hgbr : g ≠ br := HNE.out g 0 none rfl
                have ho2 : Only (fun i => i = g) w1 (w1.setCell ⟨g, k * 3 + 2, none⟩ (.string d)) := Only.set _ _ _ _
                refine ⟨Y, by rw [HW.out]; rfl, ?_, HO.out.trans ho2 (fun i e => (HY.out i).2 (.inl e)) (fun i e _ => (HY.out i).2 (.inr ⟨0, none, by rw [e]⟩)), fun k hk => .inl hk⟩
                have hg2 := HG.out
                rw [HW.out] at hg2 ⊢
                exact ⟨l.set k ⟨sk.file, sk.at_, d⟩, some ⟨g, 0, none⟩, m, c, left', ⟨HMS1.out.kept (ho2.block br HMS1.out.lt (fun e => hgbr e.symm)), HSET.out d, by rw [List.length_set]; exact HM.out, Nat.le_trans hh.max (Nat.le_succ _), HL'.out, (fun y c => by rw [HFS.out HH.out]; unfold updS; rw [hh.says]), hg2⟩, HY.out⟩
              · have hat' : (sk.at_ == a) = false := by simpa using hat
                have HNX2 := Lib.hid (HNX.out (by rw [HHIT.out, hat']; simp))
                clear hat
                go_wp2_with fail
                go_round
                case rel => exact ⟨k + 1, by omega, by go_num, HNX2⟩
                case measure => simp [RowKit.intOf]; omega
            · have hf' : (sk.file == x) = false := by simpa using hf
              have HNX2 := Lib.hid (HNX.out (by rw [HHIT.out, hf']; rfl))
              clear hf
              go_wp2_with fail
              go_round
              case rel => exact ⟨k + 1, by omega, by go_num, HNX2⟩
              case measure => simp [RowKit.intOf]; omega
          · obtain rfl : k = m := by omega
            have HB2 := Lib.hid (show ∀ s ∈ l, hit x a s = false from fun s hs => by
              obtain ⟨j, hj, rfl⟩ := List.getElem_of_mem hs
              exact HB.out j hj (by rw [HM.out]; exact hj))
            obtain ⟨i0, hi0, hz0, hz1, hz2⟩ := info_parts infoS
            have HROW2 := Lib.hid (row_kept (w' := w1.alloc (.cells #[.int .i64 x, .int .i64 a, .string d] 72)) HROW.out (fun k o sp hA => Below.heap_alloc _ _ k (row_lt HROW.out hA)))
            have hbr1 := HMS1.out.lt
            have HNW := Lib.hid (new_sec w1 ⟨x, a, d⟩ 72)
            have H1C := Lib.hid (sec_one ⟨x, a, d⟩)
            have HCL := Lib.hid (show ∀ w2, (w1.alloc (.cells #[.int .i64 x, .int .i64 a, .string d] 72)).grownBy w2 (Value.slice A k c).ownBlock → w2.heap[br]? = w1.heap[br]? from fun w2 hg => (hg.block br (by simp; omega) (fun e => by
              rcases A with _ | ⟨g, o, sp⟩
              · cases e
              · injection e with e
                exact HNE.out g o sp rfl e.symm)).trans (Below.heap_alloc _ _ br hbr1))
            go_wp2_with (first
              | (at_builtin; refine wpList_append_own_at _ rfl (.tmp 69) (.tmp 74) _ rfl 0 72 i0 _ 3 32 Try.underlying53 hi0 hz0 hz1 hz2 rfl (by decide) _ k (sc l) rfl HROW2.out ⟨w1.heap.size, 0, none⟩ 1 1 (Sec.vs ⟨x, a, d⟩) rfl rfl HNW.out H1C.out (by simp only [maxLen]; omega) (by omega) (Nat.zero_le _) ?_; intro v' w2 hown' hgr _ hloc; obtain ⟨A', c', rfl, _⟩ := own_form hown'; have HOWN := Lib.hid hown'; have HGR := Lib.hid hgr; have HLOC := Lib.hid hloc; have c02 : w2.cell? ⟨br, 0, none⟩ = some (.slice A k c) := (by rw [World.cell?_of_block (w := w1) (HCL.out w2 hgr)]; exact c0); have f02 : w2.frozen? ⟨br, 0, none⟩ = false := (by rw [World.frozen?_of_block (w := w1) (HCL.out w2 hgr)]; exact f0); clear hown' hgr hloc)
              | fail)
            go_ret
            have hh := HR.out
            have s1 : (w1.alloc (.cells #[.int .i64 x, .int .i64 a, .string d] 72)).heap.size = w1.heap.size + 1 := by simp
            have hs2 := HGR.out.size
            have hms2 : RMS w2 br A k c s.armed left' false (s.writes + 1) := HMS1.out.kept (HCL.out w2 HGR.out)
            have ho3 : Only (fun i => i = br) w2 (w2.setCell ⟨br, 0, none⟩ (.slice A' (k + 1) c')) := Only.set _ _ _ _
            have hnew : ∀ j o sp, A' = some ⟨j, o, sp⟩ → (∃ o sp, A = some ⟨j, o, sp⟩) ∨ w.heap.size ≤ j := fun j o sp hj => by
              subst hj
              rcases HLOC.out with h | h
              · rcases A with _ | ⟨g, o', sp'⟩
                · cases h
                · injection h with h
                  exact .inl ⟨o', sp', by rw [show g = j from h.symm]⟩
              · injection h with h
                right
                have := HO.out.size
                have h : j = _ := h
                omega
            have hne' : ∀ j o sp, A' = some ⟨j, o, sp⟩ → j ≠ br := fun j o sp hj => row_ne HOWN.out hms2 (by decide) hj
            refine ⟨ownR br A', by rw [HW.out]; rfl, ?_, ?_, ?_⟩
            · have hg2 := HG.out
              rw [HW.out] at hg2 ⊢
              refine ⟨l ++ [⟨x, a, d⟩], A', k + 1, c', left', ⟨?_, ?_, by rw [List.length_append, ← HM.out]; rfl, by have := hh.max; omega, HL'.out, (fun y z => by rw [findR_app HB2.out]; unfold updS; rw [hh.says]), hg2⟩, fun _ => Iff.rfl⟩
              · unfold RMS
                rw [block_setCell hms2]
                rfl
              · have := row_kept (w' := w2.setCell ⟨br, 0, none⟩ (.slice A' (k + 1) c')) HOWN.out (fun j o sp hj => ho3.block j (row_lt HOWN.out hj) (hne' j o sp hj))
                rw [sc_append]
                exact this
            · refine ⟨(HGR.out.os.trans HO.out.os), (HGR.out.tape.trans HO.out.tape), (HGR.out.output.trans HO.out.output), ?_, fun j hj hy => ?_⟩
              · have := HO.out.size
                have e3 : w2.heap.size ≤ (w2.setCell ⟨br, 0, none⟩ (.slice A' (k + 1) c')).heap.size := ho3.size
                omega
              · have hjb : j ≠ br := fun e => hy ((HY.out j).2 (.inl e))
                have hjl := HO.out.size
                have hA : (Value.slice A k c).ownBlock ≠ some j := fun e => by
                  rcases A with _ | ⟨g, o', sp'⟩
                  · cases e
                  · injection e with e
                    exact hy ((HY.out j).2 (.inr ⟨o', sp', by rw [show g = j from e]⟩))
                rw [ho3.block j (by omega) hjb, HGR.out.block j (by omega) (fun e => hA e.symm), Below.heap_alloc _ _ j (by omega)]
                exact HO.out.block j hj (fun e => hjb e)
            · rintro j (rfl | ⟨o, sp, hj⟩)
              · exact .inl ((HY.out j).2 (.inl rfl))
              · exact (hnew j o sp hj).imp (fun h => (HY.out j).2 (.inr h)) id
end Go.Proofs.Ytkcickbkmedbmaa
