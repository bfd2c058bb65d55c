/-
  CONTRACT of Write.
-/
import Derived.Test.YtkcickbkmedbmaaMRw
import Derived.Deep.RegionHeld3
namespace Go.Proofs.Ytkcickbkmedbmaa
open Go.RowKit Go.Maps

def updS (S : Int → Int → Option ByteArray) (x a : Int) (d : ByteArray) : Int → Int → Option ByteArray := fun y c => if y = x ∧ c = a then some d else S y c
def validW (x a : Int) (d : ByteArray) : Bool := isF x && isS a && d.size == 64
def writeF (s : St) (x a : Int) (d : ByteArray) : Int × St :=
  match spendF s.off s.armed (validW x a d) s.left s.writes with
  | (c, off, left, writes) => (c, { S := if c = 0 then updS s.S x a d else s.S, off := off, armed := s.armed, left := left, writes := writes })

theorem updS_col (S : Int → Int → Option ByteArray) (x a : Int) (d : ByteArray) (c : Int) : (updS S x a d x c).map secV = upd (fun c => (S x c).map secV) a (some (secV d)) c := by
  unfold updS upd
  by_cases e : c = a <;> simp [e]
theorem updS_other {S : Int → Int → Option ByteArray} {x a y : Int} {d : ByteArray} (h : y ≠ x) (c : Int) : updS S x a d y c = S y c := by simp [updS, h]
theorem updS_hit (S : Int → Int → Option ByteArray) (x a : Int) (d : ByteArray) : updS S x a d x a = some d := by simp [updS]

set_option maxRecDepth 100000 in
set_option maxHeartbeats 3200000 in
theorem write_any (b bo n : Nat) (F : Int → Option Nat) (s : St) (x a : Int) (d : ByteArray) (w : World) (h : Med w b bo F n s) (hg : s.Good n) (hn : n ≤ 1000000) (hx : Wf x) (ha : Wf a) :
    Calls Try.prog 19 #[.pointer (some ⟨b, 0, none⟩), .int .i64 x, .int .i64 a, .string d] w (Step b bo F (n + 1) (writeF s x a d) w) := by
  obtain ⟨c, off', left', writes', hsf⟩ : ∃ c off' left' writes', spendF s.off s.armed (validW x a d) s.left s.writes = (c, off', left', writes') := ⟨_, _, _, _, rfl⟩
  have HSP := Lib.hid (spend_at hsf h.ms hg.l0 hg.l1 hg.w0 (by have := hg.w1; omega))
  have HM := Lib.hid h
  have HR := Lib.hid (show writeF s x a d = (c, { S := if c = 0 then updS s.S x a d else s.S, off := off', armed := s.armed, left := left', writes := writes' }) from by unfold writeF; rw [hsf])
  have HC := Lib.hid (spendF_cases hsf)
  clear h hg hsf
  rcases HC.out with ⟨rfl, hv, _, rfl, rfl, rfl, _⟩ | ⟨hc, rfl, rfl⟩
  · have hvx : isF x = true := by simp [validW] at hv; exact hv.1.1
    have hva : isS a = true := by simp [validW] at hv; exact hv.1.2
    have hvd : d.size = 64 := by simp [validW] at hv; exact hv.2
    have HX := Lib.hid hvx
    have HA := Lib.hid hva
    have HD := Lib.hid hvd
    rw [hv] at HSP
    have hde : ((d.size : Int) == 64) = true := by simp [hvd]
    clear hv HC hvx hva hvd
    cases hF : F x with
    | none =>
      have HF := Lib.hid hF
      clear hF
      have hmm := @run_makeMap Try.prog
      go_enter Try.func19, Try.ntmps19
      go_wp2_with (first
        | (go_at_call 34; (with_reducible refine (isFile_any _ _).mono ?_); rw [HX.out]; rintro e w' ⟨rfl, rfl⟩)
        | (go_at_call 35; (with_reducible refine (isSector_any _ _).mono ?_); rw [HA.out]; rintro e w' ⟨rfl, rfl⟩)
        | fail)
      refine HSP.out.mono ?_
      rintro e w1 ⟨rfl, hms, ho⟩
      have c0 := hms.cl.c0
      have HM1 := Lib.hid (HM.out.struct hms ho)
      have HO1 := Lib.hid ho
      have hlk := HM1.out.files.look (t := 50) Try.underlying50 (Try.zeroValue67 w1) hx
      simp only [HF.out, Option.map_none, Option.getD_none] at hlk
      have hq1 := eql_files
      have hq2 := eql_none
      have HFA : Hid (IM (w1.alloc (.map #[] 0)) bo n _) := Lib.hid (HM1.out.files.kept (Below.heap_alloc _ _ bo HM1.out.files.lt))
      clear hms ho
      go_wp2_with (first
        | (at_mapUpdate; refine wpList_update_im _ rfl _ _ _ _ rfl 67 Try.underlying50 bo n _ rfl HFA.out (by simp only [maxLen]; omega) x hx rfl (.map (some w1.heap.size)) rfl ?_; intro w2 hI2 ht2; have HT2 := Lib.hid ht2; clear ht2)
        | (with_reducible refine wpList_alloc_sec _ rfl rfl ?_; intro w3 hs3 hb3 HB3; have HS3 := Lib.hid hs3; have HW3 := Lib.hid hb3; clear hs3 hb3)
        | (refine wpList_copy_str _ rfl (.tmp 49) (.tmp 50) rfl w2.heap.size d rfl rfl HD.out zs_size HB3.out ?_; intro w4 ho4 HB4; have HO4 := Lib.hid ho4; clear ho4)
        | fail)
      have hbob := HM1.out.bne
      have hfl := HM1.out.files.lt
      have hml := HM1.out.ms.lt
      have hsA : (w1.alloc (.map #[] 0)).heap.size = w1.heap.size + 1 := by simp
      have ho2 : Only (fun i => i = bo) (w1.alloc (.map #[] 0)) w2 := Only.turned HT2.out rfl
      have hs2 : w1.heap.size + 1 ≤ w2.heap.size := by have := ho2.size; omega
      have hj2 : IM w2 w1.heap.size n (fun _ => none) := ho2.im (IM.made w1 n) (by omega)
      have e2 : ∀ k, k < w1.heap.size → k ≠ bo → w2.heap[k]? = w1.heap[k]? := fun k hk hkb => (ho2.block k (by omega) hkb).trans (Below.heap_alloc _ _ k hk)
      have e4 : ∀ k, k < w2.heap.size → w4.heap[k]? = w2.heap[k]? := fun k hk => (HO4.out.block k (by have := HS3.out; omega) (by omega)).trans (HW3.out.block k hk)
      have c04 : w4.cell? ⟨b, 0, none⟩ = some (.map (some bo)) := by rw [World.cell?_of_block (w := w1) ((e4 b (by omega)).trans (e2 b hml hbob.symm))]; exact c0
      have hI4 : IM w4.drew bo (n + 1) _ := IM.kept (w' := w4.drew) hI2.out (e4 bo (by omega))
      have hlk4 := hI4.look (t := 50) Try.underlying50 (Try.zeroValue67 _) hx
      simp only [upd_same, Option.getD_some] at hlk4
      have hj4 : IM w4.drew w1.heap.size n _ := IM.kept (w' := w4.drew) hj2 (e4 w1.heap.size (by omega))
      obtain ⟨w5, hup, hI5, ht5⟩ := hj4.store (t := 67) Try.underlying67 (by simp only [maxLen]; omega) ha (secV d)
      have HI5 := Lib.hid hI5
      have ho5 : Only (fun i => i = w1.heap.size) w4.drew w5 := Only.turned ht5 rfl
      have hgs4 : w2.heap.size < w4.heap.size := lt_of_block HB4.out
      have c05 : w5.cell? ⟨b, 0, none⟩ = some (.map (some bo)) := by rw [World.cell?_of_block (w := w4.drew) (ho5.block b (by show b < w4.heap.size; omega) (by omega))]; exact c04
      have HB5 : Hid (SB w5 w2.heap.size (bytesV d).toArray) := Lib.hid ((ho5.block w2.heap.size hgs4 (by omega)).trans HB4.out)
      have HR5 := Lib.hid HB5.out.range
      have HO5 := Lib.hid ho5
      have HO2 := Lib.hid ho2
      have HI4 := Lib.hid hI4
      have HE4 := Lib.hid e4
      have HE2 := Lib.hid e2
      have HS2 := Lib.hid hs2
      have HSA := Lib.hid hsA
      have HG4 := Lib.hid hgs4
      have HR4 := Lib.hid HB4.out.range
      unfold secV at hup
      clear hlk hj2 hfl hml hs2 hsA e2 e4 hI4 hj4 hI5 ht5 c0 ho5 ho2 hbob hgs4 hI2
      have hu := Try.underlying69
      have hi : (Try.prog.info? 69).map (·.size) = some (bytesV d).length := by rw [infoSec, bytesV_length, HD.out]
      have hl64 : (bytesV d).length = 64 := by rw [bytesV_length]; exact HD.out
      have h1c := secV_one d
      go_region_held3 (fun w' => w'.cell? ⟨b, 0, none⟩ = some (.map (some bo)) ∧ w'.rangeAt w2.heap.size 0 (bytesV d))
        (first | exact ⟨c04, HR4.out⟩ | exact ⟨c05, HR5.out⟩ | go_keep_ranges)
        (fail)
      clear c04 c05 hu hi hl64 h1c hlk4 hup
      go_wp2_with fail
      go_ret
      have hM := HM1.out
      have hbob := hM.bne
      have hlt1 : ∀ k, own b bo F k → k < w1.heap.size := hM.lt
      have s2 := HS2.out
      have s3 := HS3.out
      have s4 : w3.heap.size ≤ w4.heap.size := HO4.out.size
      have s5 : w4.heap.size ≤ w5.heap.size := HO5.out.size
      have s1 := HO1.out.size
      have e5 : ∀ k, k < w1.heap.size → k ≠ bo → w5.heap[k]? = w1.heap[k]? := fun k hk hkb =>
        (HO5.out.block k (by show k < w4.heap.size; omega) (by omega)).trans ((HE4.out k (by omega)).trans (HE2.out k hk hkb))
      have hO : Only (own b bo F) w w5 := by
        refine ⟨HO5.out.os.trans (HO4.out.os.trans (HW3.out.os.trans (HO2.out.os.trans HO1.out.os))), HO5.out.tape.trans (HO4.out.tape.trans (HW3.out.tape.trans (HO2.out.tape.trans HO1.out.tape))), HO5.out.output.trans (HO4.out.output.trans (HW3.out.output.trans (HO2.out.output.trans HO1.out.output))), by omega, fun k hk ho => ?_⟩
        rw [e5 k (by omega) (fun e => ho (e ▸ .inr (.inl rfl)))]
        exact HO1.out.block k hk (fun e => ho (e ▸ .inl rfl))
      have hfr : ∀ {y i}, F y = some i → i < w1.heap.size := fun {y i} hy => hlt1 i (.inr (.inr ⟨y, hy⟩))
      have hU : ∀ {y i}, upd F x (some w1.heap.size) y = some i → (y = x ∧ i = w1.heap.size) ∨ (y ≠ x ∧ F y = some i) := fun {y i} hy => by
        by_cases e : y = x
        · subst e; rw [upd_same] at hy; exact .inl ⟨rfl, (Option.some.inj hy).symm⟩
        · rw [upd_other e] at hy; exact .inr ⟨e, hy⟩
      refine ⟨upd F x (some w1.heap.size), by rw [HR.out]; rfl, ?_, hO, ?_⟩
      · rw [HR.out]
        refine ⟨hM.ms.kept (e5 b hM.ms.lt hbob.symm), (IM.kept (w' := w5) HI4.out (HO5.out.block bo (by show bo < w4.heap.size; have := hM.files.lt; omega) (by have := hM.files.lt; omega))).congr fun y => ?_, fun y z i h1 h2 => ?_, fun y i h1 => ?_, fun y i h1 => ?_, fun y h1 c => ?_, fun y i h1 => ?_⟩
        · by_cases e : y = x
          · subst e; rw [upd_same, upd_same]; rfl
          · rw [upd_other e, upd_other e]
        · rcases hU h1 with ⟨rfl, rfl⟩ | ⟨_, h1'⟩
          · rcases hU h2 with ⟨rfl, _⟩ | ⟨_, h2'⟩
            · rfl
            · have := hfr h2'; omega
          · rcases hU h2 with ⟨rfl, rfl⟩ | ⟨_, h2'⟩
            · have := hfr h1'; omega
            · exact hM.inj y z i h1' h2'
        · rcases hU h1 with ⟨rfl, rfl⟩ | ⟨_, h1'⟩
          · have := hM.files.lt; omega
          · exact hM.ne y i h1'
        · rcases hU h1 with ⟨rfl, rfl⟩ | ⟨e, h1'⟩
          · refine HI5.out.congr fun c => ?_
            refine Eq.trans ?_ (updS_col s.S y a d c).symm
            unfold upd
            by_cases e : c = a
            · simp [e]
            · have := hM.none_ y HF.out c
              simp only [e, if_false]
              exact (congrArg (Option.map secV) this).symm
          · have := (hM.secs y i h1').kept (w' := w5) (e5 i (hfr h1') (hM.ne y i h1'))
            refine (this.mono (Nat.le_succ _)).congr fun c => ?_
            exact congrArg _ (updS_other e c).symm
        · have e : y ≠ x := fun h => by subst h; rw [upd_same] at h1; cases h1
          rw [upd_other e] at h1
          exact (updS_other e c).trans (hM.none_ y h1 c)
        · rcases hU h1 with ⟨rfl, rfl⟩ | ⟨e, h1'⟩
          · exact ⟨a, d, updS_hit _ _ _ _⟩
          · obtain ⟨c, u, hu⟩ := hM.some_ y i h1'
            exact ⟨c, u, (updS_other e c).trans hu⟩
      · rintro k (rfl | rfl | ⟨y, hy⟩)
        · exact .inl (.inl rfl)
        · exact .inl (.inr (.inl rfl))
        · rcases hU hy with ⟨rfl, rfl⟩ | ⟨_, hy'⟩
          · exact .inr s1
          · exact .inl (.inr (.inr ⟨y, hy'⟩))
    | some j =>
      have HF := Lib.hid hF
      clear hF
      go_enter Try.func19, Try.ntmps19
      go_wp2_with (first
        | (go_at_call 34; (with_reducible refine (isFile_any _ _).mono ?_); rw [HX.out]; rintro e w' ⟨rfl, rfl⟩)
        | (go_at_call 35; (with_reducible refine (isSector_any _ _).mono ?_); rw [HA.out]; rintro e w' ⟨rfl, rfl⟩)
        | fail)
      refine HSP.out.mono ?_
      rintro e w1 ⟨rfl, hms, ho⟩
      have c0 := hms.cl.c0
      have HM1 := Lib.hid (HM.out.struct hms ho)
      have HO1 := Lib.hid ho
      have hlk := HM1.out.files.look (t := 50) Try.underlying50 (Try.zeroValue67 w1) hx
      simp only [HF.out, Option.map_some, Option.getD_some] at hlk
      have hq1 := eql_files
      have hq2 := eql_some
      clear hms ho
      go_wp2_with (first
        | (with_reducible refine wpList_alloc_sec _ rfl rfl ?_; intro w3 hs3 hb3 HB3; have HS3 := Lib.hid hs3; have HW3 := Lib.hid hb3; clear hs3 hb3)
        | (refine wpList_copy_str _ rfl (.tmp 49) (.tmp 50) rfl w1.heap.size d rfl rfl HD.out zs_size HB3.out ?_; intro w4 ho4 HB4; have HO4 := Lib.hid ho4; clear ho4)
        | fail)
      have hj := HM1.out.secs x j HF.out
      have hjl := hj.lt
      have hMS := HM1.out.ms
      have hML := hMS.lt
      have hfl := HM1.out.files.lt
      have e4 : ∀ k, k < w1.heap.size → w4.heap[k]? = w1.heap[k]? := fun k hk => (HO4.out.block k (by have := HS3.out; omega) (by omega)).trans (HW3.out.block k hk)
      have HOB := Lib.hid (Only.trans (X := fun _ => False) (Z := fun _ => False) (Only.below HW3.out) HO4.out (fun _ h => h) (fun i h hl => by omega))
      have c04 : w4.cell? ⟨b, 0, none⟩ = some (.map (some bo)) := by rw [World.cell?_of_block (w := w1) (e4 b hML)]; exact c0
      have hI4 : IM w4.drew bo n _ := IM.kept (w' := w4.drew) HM1.out.files (e4 bo hfl)
      have hlk4 := hI4.look (t := 50) Try.underlying50 (Try.zeroValue67 _) hx
      simp only [HF.out, Option.map_some, Option.getD_some] at hlk4
      have hj4 : IM w4.drew j n _ := IM.kept (w' := w4.drew) hj (e4 j hjl)
      obtain ⟨w5, hup, hI5, ht5⟩ := hj4.store (t := 67) Try.underlying67 (by simp only [maxLen]; omega) ha (secV d)
      have HI5 := Lib.hid hI5
      have ho5 : Only (fun i => i = j) w4.drew w5 := Only.turned ht5 rfl
      have hbj : b ≠ j := fun e => HM1.out.fne HF.out e.symm
      have hgs4 : w1.heap.size < w4.heap.size := lt_of_block HB4.out
      have c05 : w5.cell? ⟨b, 0, none⟩ = some (.map (some bo)) := by rw [World.cell?_of_block (w := w4.drew) (ho5.block b (by show b < w4.heap.size; omega) hbj)]; exact c04
      have HB5 : Hid (SB w5 w1.heap.size (bytesV d).toArray) := Lib.hid ((ho5.block w1.heap.size hgs4 (by omega)).trans HB4.out)
      have HR5 := Lib.hid HB5.out.range
      have HO5 := Lib.hid ho5
      have HI4 := Lib.hid hI4
      have HE4 := Lib.hid e4
      have HR4 := Lib.hid HB4.out.range
      unfold secV at hup
      clear hlk hj hjl hML hfl e4 hI4 hj4 hI5 ht5 c0 ho5 hbj hgs4
      have hu := Try.underlying69
      have hi : (Try.prog.info? 69).map (·.size) = some (bytesV d).length := by rw [infoSec, bytesV_length, HD.out]
      have hl64 : (bytesV d).length = 64 := by rw [bytesV_length]; exact HD.out
      have h1c := secV_one d
      go_region_held3 (fun w' => w'.cell? ⟨b, 0, none⟩ = some (.map (some bo)) ∧ w'.rangeAt w1.heap.size 0 (bytesV d))
        (first | exact ⟨c04, HR4.out⟩ | exact ⟨c05, HR5.out⟩ | go_keep_ranges)
        (fail)
      clear c04 c05 hu hi hl64 h1c hlk4 hup
      go_wp2_with fail
      go_ret
      have hM := HM1.out
      have hjF := hM.fne HF.out
      have hjbo := hM.ne x j HF.out
      have hbob := hM.bne
      have e5 : ∀ k, k < w1.heap.size → k ≠ j → w5.heap[k]? = w1.heap[k]? := fun k hk hkj => (HO5.out.block k (by show k < w4.heap.size; have := HO4.out.size; have := HS3.out; omega) hkj).trans (HE4.out k hk)
      have hO : Only (own b bo F) w w5 := by
        refine ⟨HO5.out.os.trans (HO4.out.os.trans (HW3.out.os.trans HO1.out.os)), HO5.out.tape.trans (HO4.out.tape.trans (HW3.out.tape.trans HO1.out.tape)), HO5.out.output.trans (HO4.out.output.trans (HW3.out.output.trans HO1.out.output)), ?_, fun k hk ho => ?_⟩
        · have s1 := HO1.out.size
          have s3 := HS3.out
          have s4 := HO4.out.size
          have s5 : w4.heap.size ≤ w5.heap.size := HO5.out.size
          omega
        · rw [e5 k (by have := HO1.out.size; omega) (fun e => ho (e ▸ .inr (.inr ⟨x, HF.out⟩)))]
          exact HO1.out.block k hk (fun e => ho (e ▸ .inl rfl))
      refine ⟨F, by rw [HR.out]; rfl, ?_, hO, fun k hk => .inl hk⟩
      rw [HR.out]
      refine ⟨hM.ms.kept (e5 b hM.ms.lt hjF.symm), (hM.files.kept (e5 bo hM.files.lt hjbo.symm)).mono (Nat.le_succ _), hM.inj, hM.ne, fun y i hy => ?_, fun y hy c => ?_, fun y i hy => ?_⟩
      · by_cases e : y = x
        · subst e
          have hij : i = j := by have := HF.out; rw [hy] at this; exact Option.some.inj this
          subst hij
          exact HI5.out.congr fun c => (updS_col _ _ _ _ _).symm
        · have hne : i ≠ j := fun h => e (hM.inj y x j (h ▸ hy) HF.out)
          have := (hM.secs y i hy).kept (w' := w5) (e5 i (hM.secs y i hy).lt hne)
          refine (this.mono (Nat.le_succ _)).congr fun c => ?_
          exact congrArg _ (updS_other e c).symm
      · have e : y ≠ x := fun h => by have := HF.out; rw [← h, hy] at this; cases this
        exact (updS_other e c).trans (hM.none_ y hy c)
      · by_cases e : y = x
        · subst e; exact ⟨a, d, updS_hit _ _ _ _⟩
        · obtain ⟨c, u, hu⟩ := hM.some_ y i hy
          exact ⟨c, u, (updS_other e c).trans hu⟩
  · clear HC
    obtain ⟨v1, v2, HV1, HV2, HV3⟩ : ∃ v1 v2 : Bool, Hid (isF x = v1) ∧ Hid (isS a = v2) ∧ Hid (validW x a d = (v1 && v2 && d.size == 64)) := ⟨_, _, Lib.hid rfl, Lib.hid rfl, Lib.hid rfl⟩
    rw [HV3.out] at HSP
    rcases hc with rfl | rfl
    all_goals
      by_cases hde : d.size = 64
      all_goals
        first
        | (have hd1 : (d.size == 64) = true := by simp [hde])
        | (have hd1 : (d.size == 64) = false := by simp [hde])
        rw [hd1] at HSP
        first
        | (have hd2 : ((d.size : Int) == 64) = true := by simp [hde])
        | (have hd2 : ((d.size : Int) == 64) = false := by rw [beq_eq_false_iff_ne]; omega)
        clear hd1 hde
        cases v1
        all_goals
          cases v2
          all_goals
            simp only [Bool.and_true, Bool.and_false] at HSP
            go_enter Try.func19, Try.ntmps19
            go_wp2_with (first
              | (go_at_call 34; (with_reducible refine (isFile_any _ _).mono ?_); rw [HV1.out]; rintro e w' ⟨rfl, rfl⟩)
              | (go_at_call 35; (with_reducible refine (isSector_any _ _).mono ?_); rw [HV2.out]; rintro e w' ⟨rfl, rfl⟩)
              | fail)
            refine HSP.out.mono ?_
            rintro e w1 ⟨rfl, hms, ho⟩
            have HO1 := Lib.hid ho
            have HM1 := Lib.hid (HM.out.struct hms ho)
            clear hms ho
            go_wp2_with fail
            go_ret
            exact ⟨F, by rw [HR.out]; rfl, by rw [HR.out]; exact HM1.out.mono (Nat.le_succ _), HO1.out.mono (fun i e _ => e ▸ .inl rfl), fun k hk => .inl hk⟩
end Go.Proofs.Ytkcickbkmedbmaa
