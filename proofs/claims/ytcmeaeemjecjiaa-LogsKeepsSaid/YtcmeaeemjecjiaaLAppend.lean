/-
  CONTRACT of Append.
-/
import Derived.Test.YtcmeaeemjecjiaaLTrim
namespace Go.Proofs.Ytcmeaeemjecjiaa
open Go.RowKit Go.Maps
open Fm (sc sc_length)

theorem write_cases {s : St} {f a : Nat} {d : ByteArray} (hoff : s.off = false) (hf : f < 1048576) (ha : a < 65536) (hd : d.size = 64) :
    ((writeF s (f : Int) (a : Int) d).1 = 40 ∧ s.armed = true ∧ mdT (writeF s (f : Int) (a : Int) d).2 = mdT s) ∨
    ((writeF s (f : Int) (a : Int) d).1 = 0 ∧ (writeF s (f : Int) (a : Int) d).2.off = false ∧ (writeF s (f : Int) (a : Int) d).2.armed = s.armed ∧ mdT (writeF s (f : Int) (a : Int) d).2 = Pl.wr (mdT s) f a d) := by
  have hv : validW (f : Int) (a : Int) d = true := by simp [validW, isF, isS, hd]; omega
  unfold writeF spendF
  rw [hoff, hv]
  by_cases h : (s.armed && s.left == 0) = true
  · left
    simp only [h]
    have ha : s.armed = true := by rw [Bool.and_eq_true] at h; exact h.1
    exact ⟨by first | rfl | trivial, ha, by first | rfl | trivial⟩
  · right
    have h : (s.armed && s.left == 0) = false := by simpa using h
    simp only [h]
    refine ⟨by first | rfl | trivial, by first | rfl | trivial, by first | rfl | trivial, ?_⟩
    funext f' a'
    unfold mdT Pl.wr
    by_cases e : f' = f ∧ a' = a
    · obtain ⟨rfl, rfl⟩ := e; simp [updS]
    · have : ¬ ((f' : Int) = (f : Int) ∧ (a' : Int) = (a : Int)) := fun h => e ⟨by omega, by omega⟩
      simp [updS, e, this]

theorem secs_size {n : Nat} {data : ByteArray} (hn1 : 1 ≤ n) (hn2 : n ≤ 2147483647) (hs : data.size ≤ 440) {i : Nat} {d : ByteArray} (h : (Pl.secs n data)[i]? = some d) : d.size = 64 := by
  have hi : i < Pl.partsN data.size := by rw [← Pl.secs_length n data]; exact (List.getElem?_eq_some_iff.1 h).1
  rw [Pl.secs_get n data i hi] at h
  injection h with h
  rw [← h]
  exact Pl.secB_size _ _ _ _ (Pl.piece_ok n data i hn1 hn2 hs hi).2

/-- What is so behind i written sectors. -/
structure AS (w wr : World) (X Y : Nat → Prop) (b bl bm n : Nat) (s : St) (f0 a0 : Nat) (nx : Int) (c : Nat) (F : Int → Option Value) (ls : List ByteArray) (i : Nat) (Y' : Nat → Prop) (s' : St) : Prop where
  m : M wr Y' b (n + i) s'
  off : s'.off = false
  armed : s'.armed = s.armed
  g : LG wr bl b bm (f0 : Int) (a0 : Int) nx
  im : IM wr bm c F
  md : mdT s' = Pl.puts (mdT s) f0 a0 (ls.take i)
  new : ∀ k, Y' k → Y k ∨ w.heap.size ≤ k
  only : Only X w wr
  yl : ∀ k, Y k → k < w.heap.size ∧ k ≠ bl ∧ k ≠ bm
  x : ∀ k, X k ↔ Y k ∨ (k = bl ∨ k = bm)
  zl : bl < w.heap.size ∧ bm < w.heap.size
  bne : bm ≠ bl

section
variable {w wr w' : World} {X Y : Nat → Prop} {b bl bm n : Nat} {s : St} {f0 a0 : Nat} {nx : Int} {c : Nat} {F : Int → Option Value} {ls : List ByteArray} {i : Nat} {Y' : Nat → Prop} {s' : St}
theorem AS.yl' (h : AS w wr X Y b bl bm n s f0 a0 nx c F ls i Y' s') : ∀ k, Y' k → k ≠ bl ∧ k ≠ bm := fun k hk => by
  rcases h.new k hk with h1 | h1
  · exact (h.yl k h1).2
  · have := h.zl; omega
theorem AS.below (h : AS w wr X Y b bl bm n s f0 a0 nx c F ls i Y' s') (hb : Below wr.heap.size wr w') : AS w w' X Y b bl bm n s f0 a0 nx c F ls i Y' s' :=
  ⟨h.m.below hb, h.off, h.armed, (hb.block _ h.g.lt).trans h.g, h.im.kept (hb.block _ h.im.lt), h.md, h.new, h.only.tr (Only.below hb), h.yl, h.x, h.zl, h.bne⟩
theorem AS.onlyW (h : AS w wr X Y b bl bm n s f0 a0 nx c F ls i Y' s') (ho : Only Y' wr w') : Only X w w' :=
  h.only.trans ho (fun _ x => x) (fun k hk hl => by
    rcases h.new k hk with h1 | h1
    · exact (h.x k).2 (.inl h1)
    · omega)
theorem AS.newW (h : AS w wr X Y b bl bm n s f0 a0 nx c F ls i Y' s') {Y'' : Nat → Prop} (hn : ∀ k, Y'' k → Y' k ∨ wr.heap.size ≤ k) : ∀ k, Y'' k → Y k ∨ w.heap.size ≤ k := fun k hk => by
  have := h.only.size
  rcases hn k hk with h1 | h1
  · exact h.new k h1
  · right; omega
/-- One sector more. -/
theorem AS.step (h : AS w wr X Y b bl bm n s f0 a0 nx c F ls i Y' s') {d : ByteArray} (hd : ls[i]? = some d) {Y'' : Nat → Prop} {s'' : St} (hm : M w' Y'' b (n + i + 1) s'') (ho : Only Y' wr w') (hn : ∀ k, Y'' k → Y' k ∨ wr.heap.size ≤ k) (hoff : s''.off = false) (ha : s''.armed = s'.armed) (hs : mdT s'' = Pl.wr (mdT s') f0 (a0 + i) d) :
    AS w w' X Y b bl bm n s f0 a0 nx c F ls (i + 1) Y'' s'' := by
  have hs1 := h.only.size
  have hzl := h.zl
  exact ⟨hm, hoff, ha.trans h.armed, (ho.block bl (by omega) (fun hy => (h.yl' bl hy).1 rfl)).trans h.g, h.im.kept (ho.block bm (by omega) (fun hy => (h.yl' bm hy).2 rfl)), by rw [hs, h.md, Pl.puts_step _ _ _ _ _ _ hd], h.newW hn, h.onlyW ho, h.yl, h.x, h.zl, h.bne⟩
end

def AppPost (w : World) (X : Nat → Prop) (b bl n : Nat) (s : St) (lo nn : Nat) (pre : List (List ByteArray)) (cur : List ByteArray) (data : ByteArray) (e : Ending) (w' : World) : Prop :=
  Only X w w' ∧ ∃ X', (∀ k, X' k → X k ∨ w.heap.size ≤ k) ∧
    ((440 < data.size ∧ e = .returned (.tuple #[.int .i64 0, .int .i64 43]) ∧ LM LO w' X' b bl n s lo nn pre cur) ∨
     (data.size ≤ 440 ∧ ∃ s' pre' cur', e = .returned (.tuple #[.int .i64 ((nn + Pl.cnt pre + cur.length : Nat) : Int), .int .i64 0]) ∧ flat pre' cur' = flat pre cur ++ [data] ∧ s'.off = false ∧ s'.armed = s.armed ∧ LM LO w' X' b bl (n + 8) s' lo nn pre' cur' ∧
        (pre', cur') = if (Pl.segL (nn + Pl.cnt pre) cur).length + Pl.partsN data.size ≤ 16 then (pre, cur ++ [data]) else (pre ++ [cur], [data])) ∨
     (data.size ≤ 440 ∧ s.armed = true ∧ ∃ s', e = .returned (.tuple #[.int .i64 0, .int .i64 40]) ∧ M w' X' b (n + 8) s' ∧ Pl.Inv (mdT s') lo nn pre cur))

section
variable {w wr w' : World} {X Y : Nat → Prop} {b bl bm n : Nat} {s : St} {c : Nat} {i : Nat} {Y' : Nat → Prop} {s' : St} {lo nn : Nat} {pre : List (List ByteArray)} {cur : List ByteArray} {data : ByteArray}
/-- The power goes off. -/
theorem AS.cut (h : AS w wr X Y b bl bm n s (Pl.place (lo + pre.length) (Pl.segL (nn + Pl.cnt pre) cur).length (Pl.partsN data.size)).1 (Pl.place (lo + pre.length) (Pl.segL (nn + Pl.cnt pre) cur).length (Pl.partsN data.size)).2 ((nn + Pl.cnt pre + cur.length : Nat) : Int) c (lastV lo nn pre cur) (Pl.secs (nn + Pl.cnt pre + cur.length) data) i Y' s')
    (hinv : Pl.Inv (mdT s) lo nn pre cur) (hs : data.size ≤ 440) (hi : i < Pl.partsN data.size) (ha : s.armed = true) {Y'' : Nat → Prop} {s'' : St} (hm : M w' Y'' b (n + i + 1) s'') (ho : Only Y' wr w') (hn : ∀ k, Y'' k → Y' k ∨ wr.heap.size ≤ k) (hmd : mdT s'' = mdT s') :
    AppPost w X b bl n s lo nn pre cur data (.returned (.tuple #[.int .i64 0, .int .i64 40])) w' := by
  have hp8 := Pl.partsN_le hs
  refine ⟨h.onlyW ho, Y'', fun k hk => (h.newW hn k hk).imp (fun h1 => (h.x k).2 (.inl h1)) id, .inr (.inr ⟨hs, ha, s'', rfl, hm.mono (by omega), ?_⟩)⟩
  rw [hmd, h.md]
  exact hinv.torn data hs i hi
/-- It is all written, and the log's end moves. -/
theorem AS.done (h : AS w wr X Y b bl bm n s (Pl.place (lo + pre.length) (Pl.segL (nn + Pl.cnt pre) cur).length (Pl.partsN data.size)).1 (Pl.place (lo + pre.length) (Pl.segL (nn + Pl.cnt pre) cur).length (Pl.partsN data.size)).2 ((nn + Pl.cnt pre + cur.length : Nat) : Int) c (lastV lo nn pre cur) (Pl.secs (nn + Pl.cnt pre + cur.length) data) (Pl.partsN data.size) Y' s')
    (hinv : Pl.Inv (mdT s) lo nn pre cur) (hs : data.size ≤ 440) (hN : nn + Pl.cnt pre + cur.length ≤ 100000) (hc : c ≤ nn + Pl.cnt pre + cur.length) {e : Ending}
    (he : EndPost bl b bm c (lastV lo nn pre cur) ((nn + Pl.cnt pre + cur.length : Nat) : Int) ((Pl.place (lo + pre.length) (Pl.segL (nn + Pl.cnt pre) cur).length (Pl.partsN data.size)).1 : Int) (((Pl.place (lo + pre.length) (Pl.segL (nn + Pl.cnt pre) cur).length (Pl.partsN data.size)).2 : Int) + (Pl.partsN data.size : Int)) wr e w') :
    AppPost w X b bl n s lo nn pre cur data (.returned (.tuple #[.int .i64 ((nn + Pl.cnt pre + cur.length : Nat) : Int), .int .i64 0])) w' := by
  obtain ⟨_, hg, him, ho⟩ := he
  have hp8 := Pl.partsN_le hs
  have hs1 := h.only.size
  have hm := h.m.keptB (w' := w') (fun k hk => ho.block k (h.m.lt hk) (by rintro (e | e); exact (h.yl' k hk).1 e; exact (h.yl' k hk).2 e))
  have hput := hinv.put data hs (by omega)
  have hmd := h.md
  rw [List.take_of_length_le (by rw [Pl.secs_length]; exact Nat.le_refl _)] at hmd
  have hoo : Only X w w' := h.only.trans ho (fun _ x => x) (fun k hk _ => (h.x k).2 (.inr hk))
  have hxx : ∀ k, (Y' k ∨ (k = bl ∨ k = bm)) → X k ∨ w.heap.size ≤ k := fun k hk => by
    rcases hk with h1 | h1
    · exact (h.new k h1).imp (fun h2 => (h.x k).2 (.inl h2)) id
    · exact .inl ((h.x k).2 (.inr h1))
  have hdd : ∀ k, Y' k → ¬ (k = bl ∨ k = bm) := fun k hk hz => by
    rcases hz with e | e
    · exact (h.yl' k hk).1 e
    · exact (h.yl' k hk).2 e
  by_cases hfit : (Pl.segL (nn + Pl.cnt pre) cur).length + Pl.partsN data.size ≤ 16
  · have hpl : Pl.place (lo + pre.length) (Pl.segL (nn + Pl.cnt pre) cur).length (Pl.partsN data.size) = (lo + pre.length, (Pl.segL (nn + Pl.cnt pre) cur).length) := by unfold Pl.place; rw [if_pos hfit]
    rw [hpl] at hg him hmd hput
    simp only [if_pos hfit] at hput
    refine ⟨hoo, _, hxx, .inr (.inl ⟨hs, s', pre, cur ++ [data], rfl, flat_more _ _ _, h.off, h.armed, ⟨Y', _, hm.mono (by omega), ⟨bm, c + 1, ?_, ?_, ?_, fun _ => Iff.rfl⟩, hdd, fun _ => Iff.rfl, by rw [hmd]; exact hput⟩, by rw [if_pos hfit]⟩)⟩
    · have e1 : (Pl.segL (nn + Pl.cnt pre) (cur ++ [data])).length = (Pl.segL (nn + Pl.cnt pre) cur).length + Pl.partsN data.size := by rw [Pl.segL_snoc, List.length_append, Pl.secs_length]
      have e2 : nn + Pl.cnt pre + (cur ++ [data]).length = nn + Pl.cnt pre + cur.length + 1 := by rw [List.length_append, List.length_singleton]; omega
      rw [e1, e2]
      exact hg
    · refine him.congr fun f => ?_
      unfold lastV
      rw [last_more, upd_map]; rfl
    · rw [List.length_append, List.length_singleton]; omega
  · have hpl : Pl.place (lo + pre.length) (Pl.segL (nn + Pl.cnt pre) cur).length (Pl.partsN data.size) = (lo + pre.length + 1, 0) := by unfold Pl.place; rw [if_neg hfit]
    rw [hpl] at hg him hmd hput
    simp only [if_neg hfit] at hput
    refine ⟨hoo, _, hxx, .inr (.inl ⟨hs, s', pre ++ [cur], [data], rfl, flat_next _ _ _, h.off, h.armed, ⟨Y', _, hm.mono (by omega), ⟨bm, c + 1, ?_, ?_, ?_, fun _ => Iff.rfl⟩, hdd, fun _ => Iff.rfl, by rw [hmd]; exact hput⟩, by rw [if_neg hfit]⟩)⟩
    · have e1 : (Pl.segL (nn + Pl.cnt (pre ++ [cur])) [data]).length = 0 + Pl.partsN data.size := by simp [Pl.segL, Pl.secs_length]
      have e2 : nn + Pl.cnt (pre ++ [cur]) + [data].length = nn + Pl.cnt pre + cur.length + 1 := by rw [Pl.cnt_snoc, List.length_singleton]; omega
      have e3 : lo + (pre ++ [cur]).length = lo + pre.length + 1 := by rw [List.length_append, List.length_singleton]; omega
      rw [e1, e2, e3]
      exact hg
    · refine him.congr fun f => ?_
      unfold lastV
      rw [last_next, upd_map]; rfl
    · rw [Pl.cnt_snoc, List.length_singleton]; omega
end
end Go.Proofs.Ytcmeaeemjecjiaa
