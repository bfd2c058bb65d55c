/-
  CONTRACTS of the reference's Read, Size, Remove.
-/
import Derived.Test.YtfankhahpnlcfaaMRefW
namespace Go.Proofs.Ytfankhahpnlcfaa
open Go.RowKit Go.Maps

/-- One sector's cells in a row that is a block of its own. -/
theorem row_sec {w : World} {l : List Sec} {A : Option Addr} {m c k : Nat} (h : w.ownsRow 0 61 3 (.slice A m c) m (sc l)) (hm : m = l.length) (hk : k < l.length) :
    ∃ g, A = some ⟨g, 0, none⟩ ∧ g < w.heap.size ∧ w.cell? ⟨g, k * 3, none⟩ = some (.int .i64 l[k].file) ∧ w.cell? ⟨g, k * 3 + 1, none⟩ = some (.int .i64 l[k].at_) ∧ w.cell? ⟨g, k * 3 + 2, none⟩ = some (.string l[k].data) := by
  obtain ⟨g, cur, hA, _, hgb, _⟩ := row_block h (by omega)
  obtain ⟨b, off, hA', _, hc⟩ := (Rd.of_own h).sec hk
  rw [hA] at hA'
  injection hA' with hA'
  injection hA' with e1 e2
  subst e1 e2
  obtain ⟨q0, q1, q2⟩ := hc k hk
  simp only [Nat.zero_add] at q0 q1 q2
  exact ⟨g, hA, lt_of_block hgb, q0, q1, q2⟩

set_option maxRecDepth 100000 in
set_option maxHeartbeats 1600000 in
theorem rreadX (Y : Nat → Prop) (br n : Nat) (s : St) (x a : Int) (w : World) (h : RM w Y br n s) (hn : n ≤ 1000000) :
    Calls Try.prog 15 #[.pointer (some ⟨br, 0, none⟩), .int .i64 x, .int .i64 a] w fun e w' => e = .returned (.tuple #[.string (readF s x a).1, .int .i64 (readF s x a).2]) ∧ w = w' := by
  obtain ⟨l, A, m, c, left, hr, _⟩ := h
  have HR := Lib.hid hr
  obtain ⟨c0, _, _, c3, _, _, _, _, _, _⟩ := hr.ms.cl
  cases hoff : s.off with
  | true =>
    rw [hoff] at c3
    have HW := Lib.hid (show readF s x a = (⟨#[]⟩, 40) from by simp [readF, hoff])
    clear hr hoff c0
    go_enter Try.func15, Try.ntmps15
    go_wp2_with fail
    go_ret2
    exact ⟨by rw [HW.out]; rfl, rfl⟩
  | false =>
    rw [hoff] at c3
    cases hv : isF x && isS a with
    | false =>
      have HW := Lib.hid (show readF s x a = (⟨#[]⟩, 42) from by simp [readF, hoff, hv])
      have HX := Lib.hid hv
      clear hr hoff hv c0
      go_enter Try.func15, Try.ntmps15
      go_wp2_with (first
        | (go_at_call 31; (with_reducible refine (right_any _ _ _).mono ?_); rw [HX.out]; rintro e w' ⟨rfl, rfl⟩)
        | fail)
      go_ret2
      exact ⟨by rw [HW.out]; rfl, rfl⟩
    | true =>
      have HX := Lib.hid hv
      have HNO := Lib.hid (show findR l x a = none → readF s x a = (⟨#[]⟩, 41) from fun hf => by
        unfold readF; rw [hoff, hv, ← hr.says, hf]; rfl)
      have HYES := Lib.hid (show ∀ d, findR l x a = some d → readF s x a = (d, 0) from fun d hf => by
        unfold readF; rw [hoff, hv, ← hr.says, hf]; rfl)
      have HROW := Lib.hid hr.row
      have HM := Lib.hid hr.len
      have hm63 : m ≤ 1000000 := by have := hr.max; omega
      clear hr hoff hv
      go_enter Try.func15, Try.ntmps15
      go_wp2_with (first
        | (go_at_call 31; (with_reducible refine (right_any _ _ _).mono ?_); rw [HX.out]; rintro e w' ⟨rfl, rfl⟩)
        | fail)
      go_loop [8] (fun i => ∃ k : Nat, k ≤ m ∧ i = .int .i64 (k : Int) ∧ Hid (∀ j (hj : j < l.length), j < k → hit x a l[j] = false)) (fun i => m - (RowKit.intOf i).toNat)
      case atStart => exact ⟨0, by omega, rfl, Lib.hid (fun j hj h => by omega)⟩
      case round =>
        obtain ⟨k, hk, rfl, HB⟩ := hrel
        by_cases hlt : k < m
        · have hkl : k < l.length := by rw [← HM.out]; exact hlt
          obtain ⟨g, hA, _, q0, q1, q2⟩ := row_sec HROW.out HM.out hkl
          have h1 : (0 : Int) ≤ (k : Int) := by omega
          have h2 : (k : Int) < (m : Int) := by omega
          have HHIT := Lib.hid (show hit x a l[k] = (l[k].file == x && l[k].at_ == a) from rfl)
          have HNX := Lib.hid (show hit x a l[k] = false → ∀ j (hj : j < l.length), j < k + 1 → hit x a l[j] = false from fun hf j hj hjk => by
            by_cases e : j = k
            · subst e; exact hf
            · exact HB.out j hj (by omega))
          have HFS := Lib.hid (show hit x a l[k] = true → findR l x a = some l[k].data from fun hh => findR_at hkl HB.out hh)
          subst hA
          generalize l[k] = sk at q0 q1 q2 HHIT HNX HFS
          by_cases hf : (sk.file == x) = true
          · by_cases hat : (sk.at_ == a) = true
            · have HH := Lib.hid (HYES.out _ (HFS.out (by rw [HHIT.out, hf, hat]; rfl)))
              go_wp2_with fail
              go_ret2
              exact ⟨by rw [HH.out]; rfl, rfl⟩
            · have hat' : (sk.at_ == a) = false := by simpa using hat
              have HNX2 := Lib.hid (HNX.out (by rw [HHIT.out, hat']; simp))
              clear hat
              go_wp2_with fail
              go_round
              case rel => exact ⟨k + 1, by omega, by go_num, HNX2⟩
              case measure => simp [RowKit.intOf]; omega
          · have hf' : (sk.file == x) = false := by simpa using hf
            have HNX2 := Lib.hid (HNX.out (by rw [HHIT.out, hf']; rfl))
            clear hf
            go_wp2_with fail
            go_round
            case rel => exact ⟨k + 1, by omega, by go_num, HNX2⟩
            case measure => simp [RowKit.intOf]; omega
        · obtain rfl : k = m := by omega
          have HH := Lib.hid (HNO.out (findR_none fun s hs => by
            obtain ⟨j, hj, rfl⟩ := List.getElem_of_mem hs
            exact HB.out j hj (by rw [HM.out]; exact hj)))
          go_wp2_with fail
          go_ret2
          exact ⟨by rw [HH.out]; rfl, rfl⟩

set_option maxRecDepth 100000 in
set_option maxHeartbeats 1600000 in
theorem rsizeX (Y : Nat → Prop) (br n : Nat) (s : St) (x : Int) (w : World) (h : RM w Y br n s) (hn : n ≤ 1000000) :
    Calls Try.prog 24 #[.pointer (some ⟨br, 0, none⟩), .int .i64 x] w fun e w' => (∃ r : Int, e = .returned (.int .i64 r) ∧ IsSz (s.S x) r) ∧ w = w' := by
  obtain ⟨l, A, m, c, left, hr, _⟩ := h
  obtain ⟨c0, _, _, c3, _, _, _, _, _, _⟩ := hr.ms.cl
  have HROW := Lib.hid hr.row
  have HM := Lib.hid hr.len
  have HS := Lib.hid hr.says
  have HDOM := Lib.hid (show ∀ t ∈ l, 0 ≤ t.at_ ∧ t.at_ < 65536 from fun t ht => by
    obtain ⟨d, hd⟩ := findR_some ht
    rw [hr.says] at hd
    exact (hr.good.dom _ _ _ hd).1.2)
  have hm63 : m ≤ 1000000 := by have := hr.max; omega
  clear hr
  go_enter Try.func24, Try.ntmps24
  go_wp2_with fail
  go_loop [5, 6] (fun z i => ∃ (k : Nat) (r : Int), k ≤ m ∧ i = .int .i64 (k : Int) ∧ z = .int .i64 r ∧ 0 ≤ r ∧ r ≤ 65536 ∧ Hid ((∀ j (hj : j < l.length), j < k → l[j].file = x → l[j].at_ + 1 ≤ r) ∧ (r = 0 ∨ ∃ t ∈ l, t.file = x ∧ r = t.at_ + 1))) (fun _ i => m - (RowKit.intOf i).toNat)
  case atStart => exact ⟨0, 0, by omega, rfl, rfl, by omega, by omega, Lib.hid ⟨fun j hj h => by omega, .inl rfl⟩⟩
  case round =>
    obtain ⟨k, r, hk, rfl, rfl, hr0, hr1, HB⟩ := hrel
    by_cases hlt : k < m
    · have hkl : k < l.length := by rw [← HM.out]; exact hlt
      obtain ⟨g, hA, _, q0, q1, _⟩ := row_sec HROW.out HM.out hkl
      have h1 : (0 : Int) ≤ (k : Int) := by omega
      have h2 : (k : Int) < (m : Int) := by omega
      obtain ⟨ha0, ha1⟩ := HDOM.out l[k] (List.getElem_mem hkl)
      have HNX := Lib.hid (show ∀ r', r ≤ r' → (l[k].file = x → l[k].at_ + 1 ≤ r') → ∀ j (hj : j < l.length), j < k + 1 → l[j].file = x → l[j].at_ + 1 ≤ r' from fun r' hrr hk' j hj hjk hf => by
        by_cases e : j = k
        · subst e; exact hk' hf
        · have := HB.out.1 j hj (by omega) hf; omega)
      have HMEM := Lib.hid (List.getElem_mem hkl)
      subst hA
      generalize l[k] = sk at q0 q1 ha0 ha1 HNX HMEM
      by_cases hf : sk.file = x
      · have hfb : (sk.file == x) = true := by simp [hf]
        have HF := Lib.hid hf
        clear hf
        go_wp2_with fail
        go_round
        case rel =>
          refine ⟨k + 1, max r (sk.at_ + 1), by omega, by go_num, rfl, by omega, by omega, Lib.hid ⟨HNX.out _ (by omega) (fun _ => by omega), ?_⟩⟩
          rcases Int.lt_or_le r (sk.at_ + 1) with h | h
          · exact .inr ⟨sk, HMEM.out, HF.out, by omega⟩
          · rw [show max r (sk.at_ + 1) = r from by omega]; exact HB.out.2
        case measure => simp [RowKit.intOf]; omega
      · have hfb : (sk.file == x) = false := by simp [hf]
        have HNX2 := Lib.hid (HNX.out r (Int.le_refl _) (fun h => absurd h hf))
        clear hf
        go_wp2_with fail
        go_round
        case rel => exact ⟨k + 1, r, by omega, by go_num, rfl, hr0, hr1, Lib.hid ⟨HNX2.out, HB.out.2⟩⟩
        case measure => simp [RowKit.intOf]; omega
    · obtain rfl : k = m := by omega
      have HZ := Lib.hid (show IsSz (s.S x) r from ⟨hr0, fun a ha => by
          obtain ⟨d, hd⟩ := Option.isSome_iff_exists.1 ha
          rw [← HS.out] at hd
          obtain ⟨t, ht, hf, hta⟩ := findR_mem hd
          obtain ⟨j, hj, rfl⟩ := List.getElem_of_mem ht
          have := HB.out.1 j hj (by rw [HM.out]; exact hj) hf
          omega, by
          rcases HB.out.2 with h0 | ⟨t, ht, hf, h0⟩
          · exact .inl h0
          · refine .inr ⟨t.at_, ?_, h0⟩
            obtain ⟨d, hd⟩ := findR_some ht
            rw [HS.out, hf] at hd
            rw [hd]; rfl⟩)
      go_wp2_with fail
      go_ret
      exact ⟨⟨r, rfl, HZ.out⟩, rfl⟩

theorem filter_take_succ (x : Int) (l : List Sec) {k : Nat} (hk : k < l.length) : (l.take (k + 1)).filter (keepR x) = (l.take k).filter (keepR x) ++ (if keepR x l[k] then [l[k]] else []) := by
  rw [List.take_succ_eq_append_getElem hk, List.filter_append]
  congr 1
  by_cases h : keepR x l[k] = true <;> simp [h]

set_option maxRecDepth 100000 in
set_option maxHeartbeats 3200000 in
theorem rremoveX (Y : Nat → Prop) (br n : Nat) (s : St) (x : Int) (w : World) (h : RM w Y br n s) (hn : n ≤ 1000000) :
    Calls Try.prog 13 #[.pointer (some ⟨br, 0, none⟩), .int .i64 x] w (RStepX Y br (n + 1) (removeF s x) w) := by
  obtain ⟨l, A, m, c, left, hr, hY⟩ := h
  have HR := Lib.hid hr
  have HY := Lib.hid hY
  obtain ⟨c0, c1, c2, c3, c4, f0, f1, f2, f3, f4⟩ := hr.ms.cl
  have hne : ∀ k o sp, A = some ⟨k, o, sp⟩ → k ≠ br := fun k o sp hA => row_ne hr.row hr.ms (by decide) hA
  have HNE := Lib.hid hne
  have HG := Lib.hid (hr.good.remove x)
  clear hne
  cases hoff : s.off with
  | true =>
    rw [hoff] at c3
    have HW := Lib.hid (show removeF s x = (40, s) from by unfold removeF spendF; rw [hoff]; simp; cases s; simp_all)
    clear hr hY hoff c0 c1 c2 c4 f0 f1 f2 f3 f4
    go_enter Try.func13, Try.ntmps13
    go_wp2_with fail
    go_ret
    exact ⟨Y, by rw [HW.out]; rfl, by rw [HW.out]; exact RM.mono ⟨l, A, m, c, left, HR.out, HY.out⟩ (Nat.le_succ _), Only.refl _ _, fun k hk => .inl hk⟩
  | false =>
    rw [hoff] at c3
    have HMS : Hid (RMS w br A m c s.armed left false s.writes) := by have := hr.ms; rw [hoff] at this; exact this
    have hs0 : isS 0 = true := rfl
    cases hv : isF x with
    | false =>
      have HW := Lib.hid (show removeF s x = (42, s) from by unfold removeF spendF; rw [hoff, hv]; simp; cases s; simp_all)
      have HX := Lib.hid (show (isF x && isS 0) = false from by rw [hv]; rfl)
      clear hr hY hoff hv hs0 c0 c1 c2 c4 f0 f1 f2 f3 f4
      go_enter Try.func13, Try.ntmps13
      go_wp2_with (first
        | (go_at_call 31; (with_reducible refine (right_any _ _ _).mono ?_); rw [HX.out]; rintro e w' ⟨rfl, rfl⟩)
        | fail)
      go_ret
      exact ⟨Y, by rw [HW.out]; rfl, by rw [HW.out]; exact RM.mono ⟨l, A, m, c, left, HR.out, HY.out⟩ (Nat.le_succ _), Only.refl _ _, fun k hk => .inl hk⟩
    | true =>
      have HX := Lib.hid (show (isF x && isS 0) = true from by rw [hv]; rfl)
      have HV := Lib.hid hv
      have HOFF := Lib.hid hoff
      have HA := Lib.hid (act_any br A m c s.armed left s.writes w HMS.out (fun ha => by rw [hr.left ha]; exact ⟨hr.good.l0, hr.good.l1⟩) hr.good.w0 (by have := hr.good.w1; omega))
      clear hv hoff hr hY hs0 c0 c1 c2 c4 f0 f1 f2 f3 f4
      go_enter Try.func13, Try.ntmps13
      go_wp2_with (first
        | (go_at_call 31; (with_reducible refine (right_any _ _ _).mono ?_); rw [HX.out]; rintro e w' ⟨rfl, rfl⟩)
        | fail)
      refine HA.out.mono ?_
      rintro e w1 ⟨hcase, ho⟩
      have HO := Lib.hid ho
      have hleq : ∀ (_ : s.armed = true), left = s.left := HR.out.left
      rcases hcase with ⟨hz, rfl, hms⟩ | ⟨hz, left', rfl, hl', hms⟩
      · have HMS1 := Lib.hid hms
        have HW := Lib.hid (show removeF s x = (40, { S := s.S, off := true, armed := s.armed, left := s.left, writes := s.writes }) from by
          unfold removeF spendF
          have : (s.armed && s.left == 0) = true := by
            cases ha : s.armed
            · rw [ha] at hz; simp at hz
            · rw [ha] at hz; rw [← hleq ha]; exact hz
          rw [HOFF.out, HV.out, this]
          simp)
        clear hms ho hz c3 hleq
        go_wp2_with fail
        go_ret
        have hh := HR.out
        refine ⟨Y, by rw [HW.out]; rfl, ?_, HO.out.mono (fun k hk _ => (HY.out k).2 (.inl hk)), fun k hk => .inl hk⟩
        rw [HW.out]
        have hg := HG.out
        rw [HW.out] at hg
        exact ⟨l, A, m, c, left, ⟨HMS1.out, row_kept hh.row (fun k o sp hA => HO.out.block k (row_lt hh.row hA) (HNE.out k o sp hA)), hh.len, Nat.le_trans hh.max (Nat.le_succ _), hh.left, hh.says, hg⟩, HY.out⟩
      · have HMS1 := Lib.hid hms
        have HW := Lib.hid (show removeF s x = (0, { S := fun y a => if y = x then none else s.S y a, off := false, armed := s.armed, left := if s.armed then s.left - 1 else s.left, writes := s.writes + 1 }) from by
          unfold removeF spendF
          have : (s.armed && s.left == 0) = false := by
            cases ha : s.armed
            · rfl
            · rw [ha] at hz; rw [← hleq ha]; exact hz
          rw [HOFF.out, HV.out, this]
          simp)
        have HL' := Lib.hid (show s.armed = true → left' = (if s.armed then s.left - 1 else s.left) from fun ha => by rw [hl' ha, hleq ha, ha]; rfl)
        have hrow1 : w1.ownsRow 0 61 3 (.slice A m c) m (sc l) := row_kept HR.out.row (fun k o sp hA => ho.block k (row_lt HR.out.row hA) (HNE.out k o sp hA))
        have HROW := Lib.hid hrow1
        have HM := Lib.hid HR.out.len
        have HMX := Lib.hid HR.out.max
        have hbr := hms.lt
        have C0 := Lib.hid hms.cl.c0
        have F0 := Lib.hid hms.cl.f0
        obtain ⟨i0, hi0, hz0, hz1, hz2⟩ := info_parts infoS
        clear hms ho hz c3 hleq hl' hrow1
        go_wp2_with fail
        go_loopw [5, 6] (fun z i wr => ∃ (k m2 c2 : Nat) (A2 : Option Addr), k ≤ m ∧ m2 ≤ k ∧ i = .int .i64 (k : Int) ∧ z = .slice A2 m2 c2 ∧ Hid (m2 = ((l.take k).filter (keepR x)).length) ∧
            Hid (wr.ownsRow w1.heap.size 61 3 (.slice A2 m2 c2) m2 (sc ((l.take k).filter (keepR x)))) ∧ Hid (Below w1.heap.size w1 wr)) (fun _ i _ => m - (RowKit.intOf i).toNat)
        case atStart => exact ⟨0, 0, 0, none, by omega, by omega, rfl, rfl, Lib.hid rfl, Lib.hid (World.ownsRow_nil _ _ _ _), Lib.hid (Below.refl _ _)⟩
        case round =>
          obtain ⟨k, m2, c2, A2, hk, hm2, rfl, rfl, HL2, HOWN, HBEL⟩ := hrel
          have hm63 : m ≤ 1000000 := by have := HMX.out; omega
          have c0 : wr.cell? ⟨br, 0, none⟩ = some (.slice A m c) := (HBEL.out.cell (p := ⟨br, 0, none⟩) hbr).trans C0.out
          have f0 : wr.frozen? ⟨br, 0, none⟩ = false := (HBEL.out.frozen (p := ⟨br, 0, none⟩) hbr).trans F0.out
          by_cases hlt : k < m
          · have hkl : k < l.length := by rw [← HM.out]; exact hlt
            obtain ⟨g, hA, hgl, q0, q1, q2⟩ := row_sec HROW.out HM.out hkl
            rw [← HBEL.out.cell (p := ⟨g, k * 3, none⟩) hgl] at q0
            rw [← HBEL.out.cell (p := ⟨g, k * 3 + 1, none⟩) hgl] at q1
            rw [← HBEL.out.cell (p := ⟨g, k * 3 + 2, none⟩) hgl] at q2
            have h1 : (0 : Int) ≤ (k : Int) := by omega
            have h2 : (k : Int) < (m : Int) := by omega
            have HFT := Lib.hid (filter_take_succ x l hkl)
            subst hA
            generalize l[k] = sk at q0 q1 q2 HFT
            by_cases hf : (sk.file != x) = true
            · have HFT2 := Lib.hid (show (l.take (k + 1)).filter (keepR x) = (l.take k).filter (keepR x) ++ [sk] from by rw [HFT.out, if_pos (show keepR x sk = true from hf)])
              have HOWN2 := Lib.hid (own_below HOWN.out ((Below.refl _ wr).alloc (Nat.le_refl _) (.cells #[.int .i64 sk.file, .int .i64 sk.at_, .string sk.data] 61)))
              have HB2 := Lib.hid (HBEL.out.alloc HBEL.out.size (.cells #[.int .i64 sk.file, .int .i64 sk.at_, .string sk.data] 61))
              have HRN : Hid (Rd (wr.alloc (.cells #[.int .i64 sk.file, .int .i64 sk.at_, .string sk.data] 61)) (wr.heap.size + 1) (some ⟨wr.heap.size, 0, none⟩) sk.vs) := Lib.hid (fun _ => ⟨wr.heap.size, 0, rfl, by omega, fun j u hu => by have := new_sec wr sk 61 j u hu; rwa [Addr.add_lit] at this⟩)
              go_wp2_with (first
                | (at_builtin; refine wpList_app rfl (.tmp 36) (.tmp 44) _ rfl w1.heap.size 61 i0 _ 3 32 Try.underlying52 hi0 hz0 hz1 hz2 rfl (by decide) A2 m2 c2 _ rfl HOWN2.out (wr.heap.size + 1) (some ⟨wr.heap.size, 0, none⟩) 1 1 sk.vs rfl rfl HRN.out (sec_one sk) (by simp only [maxLen]; omega) (by omega) HB2.out.size ?_; intro A3 c3 w3 hown3 hb3; have HOWN3 := Lib.hid hown3; have HB3 := Lib.hid (HB2.out.trans hb3); clear hown3 hb3)
                | fail)
              go_roundw
              case rel => exact ⟨k + 1, m2 + 1, c3, A3, by omega, by omega, by go_num, rfl, Lib.hid (by rw [HFT2.out, List.length_append, ← HL2.out]; rfl), Lib.hid (by rw [HFT2.out, sc_append]; exact HOWN3.out), HB3⟩
              case measure => simp [RowKit.intOf]; omega
            · have hf' : (sk.file != x) = false := by simpa using hf
              have HFT2 := Lib.hid (show (l.take (k + 1)).filter (keepR x) = (l.take k).filter (keepR x) from by rw [HFT.out, if_neg (show ¬ keepR x sk = true from hf), List.append_nil])
              clear hf
              go_wp2_with fail
              go_roundw
              case rel => exact ⟨k + 1, m2, c2, A2, by omega, by omega, by go_num, rfl, Lib.hid (by rw [HFT2.out]; exact HL2.out), Lib.hid (by rw [HFT2.out]; exact HOWN.out), HBEL⟩
              case measure => simp [RowKit.intOf]; omega
          · obtain rfl : k = m := by omega
            have htk : l.take k = l := List.take_of_length_le (by rw [← HM.out]; omega)
            rw [htk] at HL2 HOWN
            clear htk
            go_wp2_with fail
            go_ret
            have hms2 : RMS wr br A k c s.armed left' false (s.writes + 1) := HMS1.out.kept (HBEL.out.block br hbr)
            have ho3 : Only (fun i => i = br) wr (wr.setCell ⟨br, 0, none⟩ (.slice A2 m2 c2)) := Only.set _ _ _ _
            have hown0 : wr.ownsRow 0 61 3 (.slice A2 m2 c2) m2 (sc (l.filter (keepR x))) := by
              have := HOWN.out
              exact ⟨this.1, this.2.imp id fun ⟨g, cap, cur, hv, hb, hr⟩ => ⟨g, cap, cur, hv, Nat.zero_le _, hr⟩⟩
            have hnew : ∀ j o sp, A2 = some ⟨j, o, sp⟩ → w1.heap.size ≤ j := fun j o sp hj => by
              subst hj
              exact own_base HOWN.out j rfl
            have s1 := HO.out.size
            have s2 := HBEL.out.size
            refine ⟨ownR br A2, by rw [HW.out]; rfl, ?_, ?_, ?_⟩
            · have hg2 := HG.out
              rw [HW.out] at hg2 ⊢
              refine ⟨l.filter (keepR x), A2, m2, c2, left', ⟨?_, ?_, HL2.out, by have := HMX.out; omega, HL'.out, (fun y z => by rw [findR_filter, HR.out.says]), hg2⟩, fun _ => Iff.rfl⟩
              · unfold RMS
                rw [block_setCell hms2]
                rfl
              · exact row_kept hown0 (fun j o sp hj => ho3.block j (row_lt hown0 hj) (by have := hnew j o sp hj; omega))
            · refine ⟨HBEL.out.os.trans HO.out.os, HBEL.out.tape.trans HO.out.tape, HBEL.out.output.trans HO.out.output, ?_, fun j hj hy => ?_⟩
              · have e3 : wr.heap.size ≤ (wr.setCell ⟨br, 0, none⟩ (.slice A2 m2 c2)).heap.size := ho3.size
                omega
              · have hjb : j ≠ br := fun e => hy ((HY.out j).2 (.inl e))
                rw [ho3.block j (by omega) hjb, HBEL.out.block j (by omega)]
                exact HO.out.block j hj (fun e => hjb e)
            · rintro j (rfl | ⟨o, sp, hj⟩)
              · exact .inl ((HY.out j).2 (.inl rfl))
              · exact .inr (by have := hnew j o sp hj; omega)
end Go.Proofs.Ytfankhahpnlcfaa
