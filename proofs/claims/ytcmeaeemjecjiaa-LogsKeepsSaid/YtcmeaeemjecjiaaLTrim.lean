/-
  CONTRACT of Trim.
-/
import Derived.Test.YtcmeaeemjecjiaaLSect
namespace Go.Proofs.Ytcmeaeemjecjiaa
open Go.RowKit Go.Maps

theorem cnt_split' (pre : List (List ByteArray)) (i : Nat) : Pl.cnt (pre.take i) + Pl.cnt (pre.drop i) = Pl.cnt pre := by
  have : Pl.cnt (pre.take i ++ pre.drop i) = Pl.cnt (pre.take i) + Pl.cnt (pre.drop i) := by simp only [Pl.cnt, List.map_append, List.sum_append]
  rw [← this, List.take_append_drop]
theorem remove_cases {s : St} {f : Nat} (hoff : s.off = false) (hf : f < 1048576) :
    ((removeF s (f : Int)).1 = 40 ∧ s.armed = true ∧ mdT (removeF s (f : Int)).2 = mdT s) ∨
    ((removeF s (f : Int)).1 = 0 ∧ (removeF s (f : Int)).2.off = false ∧ (removeF s (f : Int)).2.armed = s.armed ∧ mdT (removeF s (f : Int)).2 = Pl.rmv (mdT s) f) := by
  have hv : isF (f : Int) = true := by simp [isF]; omega
  unfold removeF spendF
  rw [hoff, hv]
  by_cases h : (s.armed && s.left == 0) = true
  · left
    simp only [h]
    have ha : s.armed = true := by rw [Bool.and_eq_true] at h; exact h.1
    exact ⟨by first | rfl | trivial, ha, by first | rfl | trivial⟩
  · right
    have h : (s.armed && s.left == 0) = false := by simpa using h
    simp only [h]
    refine ⟨by first | rfl | trivial, by first | rfl | trivial, by first | rfl | trivial, ?_⟩
    funext f' a
    unfold mdT Pl.rmv
    by_cases e : f' = f
    · subst e; simp
    · have : ¬ (f' : Int) = (f : Int) := by omega
      simp [e, this]

/-- What is so behind i removed segments. -/
structure TS (w wr : World) (X Y Z : Nat → Prop) (b bl bm n : Nat) (s : St) (lo nn : Nat) (pre : List (List ByteArray)) (cur : List ByteArray) (c : Nat) (sgv tl nx z : Int) (i : Nat) (Y' : Nat → Prop) (s' : St) : Prop where
  m : M wr Y' b (n + i) s'
  off : s'.off = false
  armed : s'.armed = s.armed
  g : LG wr bl b bm sgv tl nx
  im : IM wr bm c (lastV (lo + i) (nn + Pl.cnt (pre.take i)) (pre.drop i) cur)
  inv : Pl.Inv (mdT s') (lo + i) (nn + Pl.cnt (pre.take i)) (pre.drop i) cur
  new : ∀ k, Y' k → Y k ∨ w.heap.size ≤ k
  only : Only X w wr
  low : i = 0 ∨ ((nn + Pl.cnt (pre.take i) : Nat) : Int) ≤ z + 1
  yl : ∀ k, Y k → k < w.heap.size ∧ k ≠ bl ∧ k ≠ bm
  x : ∀ k, X k ↔ Y k ∨ Z k
  z : ∀ k, Z k ↔ k = bl ∨ k = bm
  zl : bl < w.heap.size ∧ bm < w.heap.size
  bne : bm ≠ bl
  sg : sgv = ((lo + pre.length : Nat) : Int)
  tl_ : tl = (((Pl.segL (nn + Pl.cnt pre) cur).length : Nat) : Int)
  nx_ : nx = ((nn + Pl.cnt pre + cur.length : Nat) : Int)
  cc : c ≤ nn + Pl.cnt pre + cur.length
  n0 : n ≤ 500000
  p9 : pre.length ≤ 900
  lo_ : lo + pre.length ≤ 100000

def TrimPost (w : World) (X : Nat → Prop) (b bl n : Nat) (s : St) (lo nn : Nat) (pre : List (List ByteArray)) (cur : List ByteArray) (z : Int) (e : Ending) (w' : World) : Prop :=
  Only X w w' ∧ ∃ X' i s', (∀ k, X' k → X k ∨ w.heap.size ≤ k) ∧ i ≤ pre.length ∧ (i = 0 ∨ ((nn + Pl.cnt (pre.take i) : Nat) : Int) ≤ z + 1) ∧
    ((e = .returned (.int .i64 0) ∧ s'.off = false ∧ s'.armed = s.armed ∧ LM LO w' X' b bl (n + 1000) s' (lo + i) (nn + Pl.cnt (pre.take i)) (pre.drop i) cur ∧ (i < pre.length → z + 1 < ((nn + Pl.cnt (pre.take (i + 1)) : Nat) : Int))) ∨
     (e = .returned (.int .i64 40) ∧ s.armed = true ∧ M w' X' b (n + 1000) s' ∧ Pl.Inv (mdT s') (lo + i) (nn + Pl.cnt (pre.take i)) (pre.drop i) cur))

section
variable {w wr w' : World} {X Y Z : Nat → Prop} {b bl bm n : Nat} {s : St} {lo nn : Nat} {pre : List (List ByteArray)} {cur : List ByteArray} {c : Nat} {sgv tl nx z : Int} {i : Nat} {Y' : Nat → Prop} {s' : St}
theorem TS.yl' (h : TS w wr X Y Z b bl bm n s lo nn pre cur c sgv tl nx z i Y' s') : ∀ k, Y' k → k ≠ bl ∧ k ≠ bm := fun k hk => by
  rcases h.new k hk with h1 | h1
  · exact (h.yl k h1).2
  · have := h.zl; omega
/-- It ends well. -/
theorem TS.done (h : TS w wr X Y Z b bl bm n s lo nn pre cur c sgv tl nx z i Y' s') (hi : i ≤ pre.length) (hz : i < pre.length → z + 1 < ((nn + Pl.cnt (pre.take (i + 1)) : Nat) : Int)) : TrimPost w X b bl n s lo nn pre cur z (.returned (.int .i64 0)) wr := by
  have hp := h.p9
  refine ⟨h.only, fun k => Y' k ∨ Z k, i, s', fun k hk => ?_, hi, h.low, .inl ⟨rfl, h.off, h.armed, ⟨Y', Z, h.m.mono (by omega), ⟨bm, c, ?_, h.im, ?_, h.z⟩, fun k hk hz => ?_, fun k => Iff.rfl, h.inv⟩, hz⟩⟩
  · rcases hk with h1 | h1
    · exact (h.new k h1).imp (fun h2 => (h.x k).2 (.inl h2)) id
    · exact .inl ((h.x k).2 (.inr h1))
  · have hc := cnt_split' pre i
    have e1 : lo + i + (pre.drop i).length = lo + pre.length := by rw [List.length_drop]; omega
    have e2 : nn + Pl.cnt (pre.take i) + Pl.cnt (pre.drop i) = nn + Pl.cnt pre := by omega
    have := h.g
    rw [h.sg, h.tl_, h.nx_] at this
    rw [e1, e2]
    exact this
  · have hc := cnt_split' pre i
    have := h.cc
    omega
  · have := h.yl' k hk
    rcases (h.z k).1 hz with e | e
    · exact this.1 e
    · exact this.2 e
/-- The power goes off. -/
theorem TS.cut (h : TS w wr X Y Z b bl bm n s lo nn pre cur c sgv tl nx z i Y' s') (hi : i ≤ pre.length) (ha : s.armed = true) {Y'' : Nat → Prop} {s'' : St} (hm : M w' Y'' b (n + i + 1) s'') (ho : Only Y' wr w') (hn : ∀ k, Y'' k → Y' k ∨ wr.heap.size ≤ k) (hs : mdT s'' = mdT s') (hip : i < pre.length) : TrimPost w X b bl n s lo nn pre cur z (.returned (.int .i64 40)) w' := by
  have hp := h.p9
  refine ⟨h.only.trans ho (fun _ x => x) (fun k hk hl => ?_), Y'', i, s'', fun k hk => ?_, hi, h.low, .inr ⟨rfl, ha, hm.mono (by omega), by rw [hs]; exact h.inv⟩⟩
  · rcases h.new k hk with h1 | h1
    · exact (h.x k).2 (.inl h1)
    · omega
  · have := h.only.size
    rcases hn k hk with h1 | h1
    · exact (h.new k h1).imp (fun h2 => (h.x k).2 (.inl h2)) id
    · right; omega
/-- One segment less. -/
theorem TS.step (h : TS w wr X Y Z b bl bm n s lo nn pre cur c sgv tl nx z i Y' s') (hip : i < pre.length) {w2 w3 : World} {Y'' : Nat → Prop} {s'' : St} (hm : M w2 Y'' b (n + i + 1) s'') (ho : Only Y' wr w2) (hn : ∀ k, Y'' k → Y' k ∨ wr.heap.size ≤ k) (hoff : s''.off = false) (ha : s''.armed = s'.armed) (hs : mdT s'' = Pl.rmv (mdT s') (lo + i))
    (hI : IM w3 bm c (upd (lastV (lo + i) (nn + Pl.cnt (pre.take i)) (pre.drop i) cur) ((lo + i : Nat) : Int) none)) (ht : w2.mapTurned w3 bm) (hz : ((nn + Pl.cnt (pre.take (i + 1)) : Nat) : Int) ≤ z + 1) :
    TS w w3 X Y Z b bl bm n s lo nn pre cur c sgv tl nx z (i + 1) Y'' s'' := by
  have hd : pre.drop i = pre[i] :: pre.drop (i + 1) := List.drop_eq_getElem_cons hip
  have hc : Pl.cnt (pre.take (i + 1)) = Pl.cnt (pre.take i) + pre[i].length := Pl.cnt_take_succ (List.getElem?_eq_getElem hip)
  have ho3 : Only (fun k => k = bm) w2 w3 := Only.turned ht rfl
  have hs1 := h.only.size
  have hs2 := ho.size
  have hnew : ∀ k, Y'' k → Y k ∨ w.heap.size ≤ k := fun k hk => (hn k hk).elim (fun h1 => h.new k h1) (fun h1 => .inr (by omega))
  have hyb : ∀ k, Y'' k → k ≠ bl ∧ k ≠ bm := fun k hk => by
    rcases hnew k hk with h1 | h1
    · exact (h.yl k h1).2
    · have := h.zl; omega
  have hzl := h.zl
  have hinv := h.inv
  have him := h.im
  rw [hd] at hinv him hI
  have e : nn + Pl.cnt (pre.take i) + pre[i].length = nn + Pl.cnt (pre.take (i + 1)) := by omega
  refine ⟨hm.keptB (fun k hk => ho3.block k (hm.lt hk) (hyb k hk).2), hoff, ha.trans h.armed, ?_, ?_, ?_, hnew, ?_, .inr hz, h.yl, h.x, h.z, h.zl, h.bne, h.sg, h.tl_, h.nx_, h.cc, h.n0, h.p9, h.lo_⟩
  · refine (ho3.block bl (by omega) (fun e => h.bne e.symm)).trans ((ho.block bl (by omega) (fun hy => (h.yl' bl hy).1 rfl)).trans h.g)
  · refine hI.congr fun f => ?_
    rw [← e, ← Nat.add_assoc]
    unfold lastV
    rw [last_drop, upd_map]; rfl
  · rw [hs, ← Nat.add_assoc, ← e]
    exact hinv.drop
  · refine (h.only.trans ho (fun _ x => x) (fun k hk hl => ?_)).trans ho3 (fun _ x => x) (fun k hk _ => ?_)
    · rcases h.new k hk with h1 | h1
      · exact (h.x k).2 (.inl h1)
      · omega
    · subst hk; exact (h.x _).2 (.inr ((h.z _).2 (.inr rfl)))
end

set_option maxRecDepth 100000 in
set_option maxHeartbeats 3200000 in
theorem trim_any (X : Nat → Prop) (b bl n : Nat) (s : St) (lo nn : Nat) (pre : List (List ByteArray)) (cur : List ByteArray) (w : World) (h : LM LO w X b bl n s lo nn pre cur) (hoff : s.off = false) (hn : n ≤ 500000) (_hN : nn + Pl.cnt pre + cur.length ≤ 100000) (hL : lo + pre.length ≤ 100000) (hp9 : pre.length ≤ 900) (z : Int) (hwz : Wf z) :
    Calls Try.prog 12 #[.pointer (some ⟨bl, 0, none⟩), .int .i64 z] w (TrimPost w X b bl n s lo nn pre cur z) := by
  obtain ⟨Y, Z, hM, ⟨bm, c, hG, hI, hc, hZ⟩, hd, hX, hinv⟩ := h
  have hbne : bm ≠ bl := hI.ne_cells hG
  obtain ⟨sgv, hsg⟩ : ∃ sgv : Int, sgv = ((lo + pre.length : Nat) : Int) := ⟨_, rfl⟩
  obtain ⟨tl, htl⟩ : ∃ tl : Int, tl = (((Pl.segL (nn + Pl.cnt pre) cur).length : Nat) : Int) := ⟨_, rfl⟩
  obtain ⟨nx, hnx⟩ : ∃ nx : Int, nx = ((nn + Pl.cnt pre + cur.length : Nat) : Int) := ⟨_, rfl⟩
  rw [← hsg, ← htl, ← hnx] at hG
  have HS0 : Hid (TS w w X Y Z b bl bm n s lo nn pre cur c sgv tl nx z 0 Y s) := Lib.hid ⟨hM, hoff, rfl, hG, by simpa [Pl.cnt] using hI, by simpa [Pl.cnt] using hinv, fun k hk => .inl hk, Only.refl _ _, .inl rfl, fun k hk => ⟨hM.lt hk, fun e => hd k hk ((hZ k).2 (.inl e)), fun e => hd k hk ((hZ k).2 (.inr e))⟩, hX, hZ, ⟨hG.lt, hI.lt⟩, hbne, hsg, htl, hnx, hc, hn, hp9, hL⟩
  have HSG := Lib.hid (segments_any Y b bl bm n s sgv tl nx w hM (by omega) hG)
  have HINV := Lib.hid hinv
  have HGD := Lib.hid hM.good
  have HSV := Lib.hid hsg
  obtain ⟨P, hP⟩ : ∃ P, P = pre.length := ⟨_, rfl⟩
  have HPP := Lib.hid hP
  rw [← hP] at hL hp9
  have HWZ := Lib.hid hwz
  clear hM hG hI hc hZ hd hX hinv hbne hsg htl hnx hoff hP hwz
  go_enter Try.func12, Try.ntmps12
  go_wp2_with fail
  refine HSG.out.mono ?_
  rintro e w1 ⟨A, m, cc, l, rfl, hm, _, hm1, hp, hmem, hrd, hb, hab⟩
  have HTE : Hid (∃ te, l = segsL lo P te ∧ (te = false → cur = [])) := Lib.hid (by
    have := segs_inv HGD.out HINV.out hp (by rw [← HSV.out]; exact hmem)
    rwa [← HPP.out] at this)
  obtain ⟨te, hl, _⟩ := HTE.out
  have HL := Lib.hid hl
  have HRD := Lib.hid hrd
  have HML := Lib.hid hm
  have HMT : Hid (m = P + (if te then 1 else 0)) := Lib.hid (by rw [hm, hl, segsL_length])
  have HBW := Lib.hid hb
  have HYL := Lib.hid HS0.out.yl
  have HAB := Lib.hid hab
  -- the list lies above the log
  have HS1 : Hid (TS w1 w1 X Y Z b bl bm n s lo nn pre cur c sgv tl nx z 0 Y s) := Lib.hid (by
    have h := HS0.out
    have hs := hb.size
    exact ⟨h.m.below hb, h.off, h.armed, (hb.block _ h.zl.1).trans h.g, h.im.kept (hb.block _ h.zl.2), h.inv, fun k hk => .inl hk, Only.refl _ _, h.low, fun k hk => ⟨by have := (h.yl k hk).1; omega, (h.yl k hk).2⟩, h.x, h.z, ⟨by have := h.zl; omega, by have := h.zl; omega⟩, h.bne, h.sg, h.tl_, h.nx_, h.cc, h.n0, h.p9, h.lo_⟩)
  have HEND : Hid (∀ e w', TrimPost w1 X b bl n s lo nn pre cur z e w' → TrimPost w X b bl n s lo nn pre cur z e w') := Lib.hid (fun e w' ⟨h1, X', i, s', h2, h3⟩ => by
    refine ⟨(Only.below hb).tr h1, X', i, s', fun k hk => (h2 k hk).imp id (fun h => Nat.le_trans hb.size h), h3⟩)
  have HLR : Hid (∀ (wr : World) (i : Nat) (Y' : Nat → Prop) (s' : St), TS w1 wr X Y Z b bl bm n s lo nn pre cur c sgv tl nx z i Y' s' → ∀ k, k < m → ∃ ba oa, A = some ⟨ba, oa, none⟩ ∧ wr.cell? ⟨ba, oa + k, none⟩ = some (.int .i64 ((lo + k : Nat) : Int))) := Lib.hid (fun wr i Y' s' h k hk => by
    have hil : k < l.length := by rw [← hm]; exact hk
    have hl2 : l[k]? = some ((lo + k : Nat) : Int) := by rw [hl]; exact segsL_get? lo P te k (by have := HMT.out; omega)
    obtain ⟨ba, oa, rfl, hba, hcs⟩ := hrd.int_at hil
    have hg := hcs k hil
    rw [(List.getElem?_eq_some_iff.1 hl2).2] at hg
    have hab' := hab ba rfl
    refine ⟨ba, oa, rfl, ?_⟩
    have hnx' : ¬ X ba := fun hx => by
      rcases (h.x ba).1 hx with h1 | h1
      · have := (HYL.out ba h1).1; omega
      · have := HS0.out.zl
        rcases (h.z ba).1 h1 with e | e <;> omega
    exact (World.cell?_of_block (w := w1) (h.only.block ba hba hnx')).trans hg)
  clear hp hmem hrd hb hm hl HTE HSG hab
  clear HS0
  go_wp2_with fail
  go_loopw [6, 7, 8, 9, 15] (fun _ _ _ _ v15 wr => ∃ (i : Nat), i ≤ P ∧ i ≤ m ∧ v15 = .int .i64 (i : Int) ∧ Hid (∃ Y' s', TS w1 wr X Y Z b bl bm n s lo nn pre cur c sgv tl nx z i Y' s')) (fun _ _ _ _ v15 _ => m - (RowKit.intOf v15).toNat)
  case atStart => exact ⟨0, by omega, by omega, rfl, Lib.hid ⟨_, _, HS1.out⟩⟩
  case round =>
    obtain ⟨i, hiP, him, rfl, HH⟩ := hrel
    obtain ⟨Y', s', hT⟩ := HH.out
    have HT := Lib.hid hT
    clear hT HH HS1
    have c0 := HT.out.g.cl.c0
    have c1 := HT.out.g.cl.c1
    have c4 := HT.out.g.cl.c4
    by_cases hlt : i < m
    · obtain ⟨ba, oa, rfl, hc0⟩ := HLR.out wr i Y' s' HT.out i hlt
      by_cases hiP2 : i < P
      · have hip : i < pre.length := by rw [← HPP.out]; exact hiP2
        have hfull : pre[i] ≠ [] := Pl.seg_some (HINV.out.full.seg i _ (List.getElem?_eq_getElem hip)).2.1
        have hct : Pl.cnt (pre.take (i + 1)) = Pl.cnt (pre.take i) + pre[i].length := Pl.cnt_take_succ (List.getElem?_eq_getElem hip)
        have hseg : (((lo + i : Nat) : Int) == sgv) = false := by rw [beq_eq_false_iff_ne, HSV.out, ← HPP.out]; omega
        have hwv : Wf ((lo + i : Nat) : Int) := by constructor <;> omega
        obtain ⟨last, hlast, hlv⟩ : ∃ last : Int, last = ((nn + Pl.cnt (pre.take (i + 1)) : Nat) : Int) - 1 ∧ lastV (lo + i) (nn + Pl.cnt (pre.take i)) (pre.drop i) cur ((lo + i : Nat) : Int) = some (.int .i64 last) := by
          refine ⟨_, rfl, ?_⟩
          unfold lastV
          rw [List.drop_eq_getElem_cons hip, last_head _ _ _ _ _ hfull, hct, ← Nat.add_assoc]
          rfl
        have hlk := HT.out.im.look_ok (t := 51) Try.underlying51 (Try.zeroValue3 _) (x := ((lo + i : Nat) : Int)) hwv
        rw [hlv] at hlk
        simp only [Option.getD_some, Option.isSome_some] at hlk
        have HLT := Lib.hid hlast
        have HIP := Lib.hid hip
        have HWV := Lib.hid hwv
        have HRM := Lib.hid (removeX Y' b (n + i) s' ((lo + i : Nat) : Int) wr HT.out.m (by omega) hwv)
        have HRC := Lib.hid (remove_cases (f := lo + i) HT.out.off (by omega))
        have HVV := Lib.hid (show ((lo + i : Nat) : Int) = ((lo + i : Nat) : Int) from rfl)
        by_cases hzl : z < last
        · have g1 : decide (z < last) = true := decide_eq_true hzl
          have HD := Lib.hid (HT.out.done (by rw [← HPP.out]; exact hiP) (fun _ => by have := HLT.out; omega))
          clear hip hfull hct hlv hlast hzl hwv
          generalize ((lo + i : Nat) : Int) = v at hc0 hseg hlk
          go_wp2_with fail
          go_ret
          exact HEND.out _ _ HD.out
        · have g1 : decide (z < last) = false := decide_eq_false hzl
          have HZL : Hid (((nn + Pl.cnt (pre.take (i + 1)) : Nat) : Int) ≤ z + 1) := Lib.hid (by have := HLT.out; omega)
          clear hip hfull hct hlv hlast hzl hwv
          rcases HRC.out with ⟨h40, ha, hmd⟩ | ⟨h00, ho0, ha0, hmd⟩
          · have HR2 : Hid (Calls Try.prog 17 #[.pointer (some ⟨b, 0, none⟩), .int .i64 ((lo + i : Nat) : Int)] wr fun e w2 => e = .returned (.int .i64 40) ∧ Hid (TrimPost w X b bl n s lo nn pre cur z (.returned (.int .i64 40)) w2)) := Lib.hid (HRM.out.mono fun e w2 ⟨Y'', he, hm2, ho2, hn2⟩ => by
              rw [h40] at he
              exact ⟨he, Lib.hid (HEND.out _ _ (HT.out.cut (by rw [← HPP.out]; exact hiP) (by rw [← HT.out.armed]; exact ha) hm2 ho2 hn2 hmd HIP.out))⟩)
            clear h40 ha hmd HRM HRC HVV
            generalize ((lo + i : Nat) : Int) = v at hc0 hseg hlk HR2
            go_wp2_with fail
            refine HR2.out.mono ?_
            rintro e w2 ⟨rfl, HD⟩
            clear HR2
            go_wp2_with fail
            go_ret
            exact HD.out
          · have HR2 : Hid (Calls Try.prog 17 #[.pointer (some ⟨b, 0, none⟩), .int .i64 ((lo + i : Nat) : Int)] wr fun e w2 => e = .returned (.int .i64 0) ∧ Hid (LG w2 bl b bm sgv tl nx ∧ IM w2 bm c (lastV (lo + i) (nn + Pl.cnt (pre.take i)) (pre.drop i) cur) ∧
                ∀ w3, IM w3 bm c (upd (lastV (lo + i) (nn + Pl.cnt (pre.take i)) (pre.drop i) cur) ((lo + i : Nat) : Int) none) → w2.mapTurned w3 bm → ∃ Y'' s'', TS w1 w3 X Y Z b bl bm n s lo nn pre cur c sgv tl nx z (i + 1) Y'' s'')) := Lib.hid (HRM.out.mono fun e w2 ⟨Y'', he, hm2, ho2, hn2⟩ => by
              rw [h00] at he
              have h := HT.out
              have hs := h.only.size
              have hzl' := h.zl
              refine ⟨he, Lib.hid ⟨(ho2.block bl (by omega) (fun hy => (h.yl' bl hy).1 rfl)).trans h.g, h.im.kept (ho2.block bm (by omega) (fun hy => (h.yl' bm hy).2 rfl)), fun w3 hI ht => ⟨Y'', _, h.step HIP.out hm2 ho2 hn2 ho0 ha0 hmd hI ht HZL.out⟩⟩⟩)
            have hwv := HWV.out
            clear h00 ho0 ha0 hmd HRM HRC HVV HWV
            generalize ((lo + i : Nat) : Int) = v at hc0 hseg hlk HR2 hwv
            have HWV := Lib.hid hwv
            clear hwv
            go_wp2_with fail
            refine HR2.out.mono ?_
            rintro e w2 ⟨rfl, HD⟩
            have c4' := HD.out.1.cl.c4
            clear HR2 c0 c1 c4 hc0 hlk
            go_wp2_with (first
              | (at_delete; refine wpList_delete_im _ rfl _ _ _ rfl 3 Try.underlying51 bm c _ rfl HD.out.2.1 v HWV.out rfl ?_; intro w3 hI3 ht3; have HN := Lib.hid (HD.out.2.2 w3 hI3.out ht3); clear hI3 ht3)
              | fail)
            go_roundw
            case rel => exact ⟨i + 1, by omega, by omega, by go_num, HN⟩
            case measure => simp [RowKit.intOf]; omega
      · have hiP3 : i = P := by omega
        have hseg : (((lo + i : Nat) : Int) == sgv) = true := by rw [beq_iff_eq, HSV.out, hiP3, HPP.out]
        have hlk := HT.out.im.look_ok (t := 51) Try.underlying51 (Try.zeroValue3 _) (x := ((lo + i : Nat) : Int)) (by constructor <;> omega)
        have HD := Lib.hid (HT.out.done (by rw [← HPP.out]; exact hiP) (fun h => by rw [← HPP.out] at h; omega))
        clear hiP3
        generalize ((lo + i : Nat) : Int) = v at hc0 hseg hlk
        go_wp2_with fail
        go_ret
        exact HEND.out _ _ HD.out
    · have HD := Lib.hid (HT.out.done (by rw [← HPP.out]; exact hiP) (fun h => by
        have := HMT.out
        rw [← HPP.out] at h
        split at this <;> omega))
      go_wp2_with fail
      go_ret
      exact HEND.out _ _ HD.out
end Go.Proofs.Ytcmeaeemjecjiaa
