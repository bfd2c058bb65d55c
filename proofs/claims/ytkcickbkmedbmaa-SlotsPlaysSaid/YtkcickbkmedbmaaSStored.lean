/-
  CONTRACT of stored: the snapshot in a slot.
-/
import Derived.Test.YtkcickbkmedbmaaSSecs
import Derived.Test.YtkcickbkmedbmaaSEq
import Derived.Test.YtkcickbkmedbmaaSLoadP
import Derived.Test.YtkcickbkmedbmaaSCon
import Derived.Test.YtkcickbkmedbmaaMApp
import Derived.Lib.AppendStr
import Derived.Deep.RegionHeld3
namespace Go.Proofs.Ytkcickbkmedbmaa
open Go.RowKit Go.Maps
open Fm (sc sc_length bv bv_length)

theorem own_string {B : Nat} {v : Value} {l : List UInt8} {w : World} {m : Nat} (h : w.ownsRow B 5 1 v m (bv l)) (hm : m = l.length) :
    (convert 59 9 v).run Try.prog w = .ok (.string ⟨l.toArray⟩) w := by
  subst hm
  rcases h.2 with ⟨rfl, hl⟩ | ⟨g, cap, cur, rfl, _, hg, _, _, _, htake⟩
  · have : l = [] := List.eq_nil_of_length_eq_zero hl
    subst this
    rw [run_convert_bytes_string w 59 9 5 none 0 0 Try.underlying59 Try.underlying5 Try.underlying9]
    simp [Conv.bytesToString]
    rfl
  · exact run_convert_bytes_back w 59 9 5 ⟨g, 0, none⟩ cap l Try.underlying59 Try.underlying5 Try.underlying9 fun j hj => by
      have hc := h.cellAt j (by omega)
      rw [show (⟨g, 0, none⟩ : Addr).add j = ⟨g, j, none⟩ from by simp [Addr.add]; exact fun h => h.symm, hc]
      simp [bv, hj]
theorem str_bv (s : ByteArray) : Lib.strCells s = bv s.data.toList := by
  first | rfl | (simp [Lib.strCells, bv])
/-- Rows of unlike elements are apart. -/
theorem rows_apart {w : World} {B B' n n' s s' : Nat} {e e' : TypeId} {v v' : Value} {xs xs' : List Value} (h : w.ownsRow B e s v n xs) (h' : w.ownsRow B' e' s' v' n' xs') (hne : e ≠ e') : v.ownBlock = none ∨ v.ownBlock ≠ v'.ownBlock := by
  rcases h.2 with ⟨rfl, _⟩ | ⟨g, cap, cur, rfl, _, hg, _⟩
  · exact .inl rfl
  · right
    rcases h'.2 with ⟨rfl, _⟩ | ⟨g', cap', cur', rfl, _, hg', _⟩
    · simp [Value.ownBlock]
    · simp only [Value.ownBlock]
      intro e1
      have : g = g' := by simpa using e1
      subst this
      rw [hg] at hg'
      injection hg' with hg'
      injection hg' with _ h2 _
      exact hne h2

/-- A piece of code that comes to one end. -/
theorem region_to {P : Program} {c : Code} {Q : Exit → Act → World → Prop} {a : Act} {w : World} {A : Act} {W : World} (h : c.wp P (fun e a' w' => e = .normal ∧ a' = A ∧ w' = W) a w) (hq : Q .normal A W) : c.wp P Q a w :=
  Code.wp_mono (fun e a' w' => (by rintro ⟨rfl, rfl, rfl⟩; exact hq)) h
/-- A snapshot's variable. -/
def SN (w : World) (g : Nat) (n : Int) (d : ByteArray) : Prop := w.heap[g]? = some (.cells #[.int .i64 n, .string d] 57 (0, 0))
theorem load_sn {W : World} {b : Nat} {n : Int} {d : ByteArray} (h : SN W b n d) :
    (loadVar 57 ⟨b, 0, none⟩).run Try.prog W = .ok (.agg #[.int .i64 n, .string d]) W := by
  have c0 : W.cell? ⟨b, 0, none⟩ = some (.int .i64 n) := by rw [cell_of_block h]; rfl
  have c1 : W.cell? ⟨b, 1, none⟩ = some (.string d) := by rw [cell_of_block h]; rfl
  go_simp
theorem ret_sn {W : World} {b : Nat} {n : Int} {d : ByteArray} {u : Value} {fn : Func} {p q : Tmp} {tmps : Array Value} (hf : fn.results = #[.cell p 57, .tmp q]) (hp : tmps.getD p undef = .pointer (some ⟨b, 0, none⟩)) (hq : tmps.getD q undef = u)
    (h : SN W b n d) : (results fn tmps).run Try.prog W = .ok (.tuple #[.agg #[.int .i64 n, .string d], u]) W := by
  rw [results_cell_tmp hf, hp, hq]
  simp [asAddr, Result.andThen, load_sn h]

def storedV : Option (Nat × List UInt8) → Value
  | none => .tuple #[.agg #[.int .i64 0, .string ⟨#[]⟩], .int .i64 41]
  | some (n, x) => .tuple #[.agg #[.int .i64 (n : Int), .string ⟨x.toArray⟩], .int .i64 0]
def StoredPost (r : Option (Nat × List UInt8)) (w : World) (e : Ending) (w' : World) : Prop := e = .returned (storedV r) ∧ Below w.heap.size w w'

theorem read_at (s : St) (f i : Nat) (hoff : s.off = false) (hf : f < 1048576) (hi : i < 65536) : readF s (f : Int) (i : Int) = match mdT s f i with | none => (⟨#[]⟩, 41) | some d => (d, 0) := by
  unfold readF mdT
  have h1 : isF (f : Int) = true := by simp [isF]; omega
  have h2 : isS (i : Int) = true := by simp [isS]; omega
  rw [hoff, h1, h2]
  rfl
theorem M.good {w : World} {X : Nat → Prop} {b n : Nat} {s : St} (h : M w X b n s) : s.Good n := by obtain ⟨_, _, _, hg, _⟩ := h; exact hg
theorem md_size {s : St} {n f i : Nat} {d : ByteArray} (hg : s.Good n) (h : mdT s f i = some d) : d.size = 64 := (hg.dom _ _ d h).2

theorem hd_num (s : ByteArray) (hs : s.size = 64) : Fm.numK ((s.data.toList.take 9).take 4) = Ps.numB s ∧ Fm.numK (((s.data.toList.take 9).drop 6).take 2) = Ps.cntB s := by
  have h : 9 ≤ s.data.toList.length := by rw [Ps.length_toList]; omega
  unfold Ps.numB Ps.cntB Ps.byteAt
  match e : s.data.toList, h with
  | a0 :: a1 :: a2 :: a3 :: a4 :: a5 :: a6 :: a7 :: a8 :: r, _ =>
    simp [Fm.numK]
    omega
theorem hd_cells {w : World} {g : Nat} {l : List UInt8} (h : Fm.HB w g l) (off m : Nat) : ∀ i (hi : i < ((l.drop off).take m).length), w.cell? ⟨g, off + i, none⟩ = some (.int .u8 (((l.drop off).take m)[i].toNat : Int)) := fun i hi => by
  have h1 : off + i < l.length := by rw [List.length_take, List.length_drop] at hi; omega
  rw [cell_of_block h, List.getElem?_toArray, List.getElem_take, List.getElem_drop]
  simp [bv, List.getElem?_eq_getElem h1]
theorem BR {X : Nat → Prop} {b n : Nat} {s : St} {w0 w : World} (h : M w0 X b n s) (hb : Below w0.heap.size w0 w) (f i : Nat) (hoff : s.off = false) (hf : f < 1048576) (hi : i < 65536) :
    Calls Try.prog 40 #[.pointer (some ⟨b, 0, none⟩), .int .i64 (f : Int), .int .i64 (i : Int)] w (ReadPost (match mdT s f i with | none => (⟨#[]⟩, 41) | some d => (d, 0)) w) := by
  have := readX X b n s (f : Int) (i : Int) w (h.below hb) (by constructor <;> omega) (by constructor <;> omega)
  rwa [read_at s f i hoff hf hi] at this

/-- What is so in the loop: both rows, the result's variable, the header's. -/
structure LI (w0 w : World) (B gh : Nat) (hl : List UInt8) (v1 : Value) (k : Nat) (L1 : List ByteArray) (v2 : Value) (dl : Nat) (L2 : List UInt8) : Prop where
  r1 : w.ownsRow B 9 1 v1 k (sc L1)
  r2 : w.ownsRow B 5 1 v2 dl (bv L2)
  sn : SN w w0.heap.size 0 ByteArray.empty
  hb : Fm.HB w gh hl
  below : Below w0.heap.size w0 w
  b2 : B ≤ w.heap.size
  gl : gh < B
  gw : w0.heap.size < B
section
variable {w0 w w' : World} {B gh : Nat} {hl : List UInt8} {v1 : Value} {k : Nat} {L1 : List ByteArray} {v2 : Value} {dl : Nat} {L2 : List UInt8}
theorem LI.below' (h : LI w0 w B gh hl v1 k L1 v2 dl L2) (hb : Below w.heap.size w w') : LI w0 w' B gh hl v1 k L1 v2 dl L2 :=
  ⟨own_below h.r1 hb, own_below h.r2 hb, (hb.block _ (lt_of_block h.sn)).trans h.sn, (hb.block _ (lt_of_block h.hb)).trans h.hb, h.below.trans (hb.mono h.below.size), Nat.le_trans h.b2 hb.size, h.gl, h.gw⟩
theorem LI.app1 (h : LI w0 w B gh hl v1 k L1 v2 dl L2) (hg : w.grownBy w' v1.ownBlock) {v1' : Value} {k' : Nat} {L1' : List ByteArray} (ho : w'.ownsRow B 9 1 v1' k' (sc L1')) : LI w0 w' B gh hl v1' k' L1' v2 dl L2 := by
  have hob : ∀ q, v1.ownBlock = some q → B ≤ q := own_base h.r1
  have hk : ∀ i, i < B → w'.heap[i]? = w.heap[i]? := fun i hi => hg.block _ (by have := h.b2; omega) (fun e => by have := hob _ e.symm; omega)
  exact ⟨ho, h.r2.kept hg (rows_apart h.r2 h.r1 (by decide)), (hk _ h.gw).trans h.sn, (hk _ h.gl).trans h.hb, h.below.grown hg (Nat.le_trans (Nat.le_of_lt h.gw) h.b2) (fun q hq => by have := hob q hq; have := h.gw; omega), Nat.le_trans h.b2 hg.size, h.gl, h.gw⟩
theorem LI.app2 (h : LI w0 w B gh hl v1 k L1 v2 dl L2) (hg : w.grownBy w' v2.ownBlock) {v2' : Value} {dl' : Nat} {L2' : List UInt8} (ho : w'.ownsRow B 5 1 v2' dl' (bv L2')) : LI w0 w' B gh hl v1 k L1 v2' dl' L2' := by
  have hob : ∀ q, v2.ownBlock = some q → B ≤ q := own_base h.r2
  have hk : ∀ i, i < B → w'.heap[i]? = w.heap[i]? := fun i hi => hg.block _ (by have := h.b2; omega) (fun e => by have := hob _ e.symm; omega)
  exact ⟨h.r1.kept hg (rows_apart h.r1 h.r2 (by decide)), ho, (hk _ h.gw).trans h.sn, (hk _ h.gl).trans h.hb, h.below.grown hg (Nat.le_trans (Nat.le_of_lt h.gw) h.b2) (fun q hq => by have := hob q hq; have := h.gw; omega), Nat.le_trans h.b2 hg.size, h.gl, h.gw⟩
end
/-- The sectors read so far. -/
def SR (T : Ps.Md) (f k : Nat) (L : List ByteArray) : Prop := L.length = k ∧ Ps.At T f 0 L ∧ ∀ d ∈ L, d.size = 64
theorem SR.more {T : Ps.Md} {f k : Nat} {L : List ByteArray} {d : ByteArray} (h : SR T f k L) (hd : T f k = some d) (h64 : d.size = 64) : SR T f (k + 1) (L ++ [d]) := by
  obtain ⟨h1, h2, h3⟩ := h
  refine ⟨by rw [List.length_append, h1]; rfl, fun i s hi => ?_, fun s hs => ?_⟩
  · rw [Nat.zero_add]
    by_cases hik : i < L.length
    · rw [List.getElem?_append_left hik] at hi
      have := h2 i s hi
      rwa [Nat.zero_add] at this
    · have hlt := (List.getElem?_eq_some_iff.1 hi).1
      rw [List.length_append, List.length_singleton] at hlt
      obtain rfl : i = L.length := by omega
      rw [List.getElem?_append_right (Nat.le_refl _), Nat.sub_self] at hi
      injection hi with hi
      rw [h1, ← hi]
      exact hd
  · rcases List.mem_append.1 hs with hs | hs
    · exact h3 s hs
    · rw [List.mem_singleton.1 hs]; exact h64

set_option maxRecDepth 100000 in
set_option maxHeartbeats 6400000 in
theorem stored_any (X : Nat → Prop) (b n : Nat) (s : St) (f : Nat) (w : World) (h : M w X b n s) (hoff : s.off = false) (hf : f < 2) :
    Calls Try.prog 30 #[.pointer (some ⟨b, 0, none⟩), .int .i64 (f : Int)] w (StoredPost (Ps.slotF (mdT s) f) w) := by
  obtain ⟨iS, hS, zS, sS, bS⟩ := info_parts Fm.infoS
  obtain ⟨iU, hU, zU, sU, bU⟩ := info_parts Fm.infoU
  have HM := Lib.hid h
  have HOFF := Lib.hid hoff
  have HGOOD := Lib.hid h.good
  have HRD := Lib.hid (fun (W : World) (hb : Below w.heap.size w W) (i : Nat) (hi : i < 65536) => BR h hb f i hoff (by omega) hi)
  cases h0 : mdT s f 0 with
  | none =>
    have HR := Lib.hid (HRD.out (w.alloc (.cells #[.int .i64 0, .string ByteArray.empty] 57)) ((Below.refl _ _).alloc (Nat.le_refl _) _) 0 (by omega))
    rw [h0] at HR
    have HP := Lib.hid (Ps.slot_none h0)
    clear h hoff h0 HRD
    go_enter Try.func30, Try.ntmps30
    go_wp2_with fail
    refine HR.out.mono ?_
    rintro e w1 ⟨rfl, hb1⟩
    have HN : Hid (SN w1 w.heap.size 0 ByteArray.empty) := Lib.hid ((hb1.block _ (by simp)).trans (heap_alloc_new _ _))
    have HB1 : Hid (Below w.heap.size w w1) := Lib.hid (((Below.refl _ _).alloc (Nat.le_refl _) _).trans (hb1.mono (by simp)))
    have c0 : w1.cell? ⟨w.heap.size, 0, none⟩ = some (.int .i64 0) := by rw [cell_of_block HN.out]; rfl
    have c1 : w1.cell? ⟨w.heap.size, 1, none⟩ = some (.string ByteArray.empty) := by rw [cell_of_block HN.out]; rfl
    have f0 : w1.frozen? ⟨w.heap.size, 0, none⟩ = false := frozen_of_block HN.out
    have f1 : w1.frozen? ⟨w.heap.size, 1, none⟩ = false := frozen_of_block HN.out
    clear hb1 HR
    go_wp2_with fail
    (try simp only [Exit.inBlock, Exit.then])
    refine bodyPost_ret (ret_sn (n := 0) (d := ⟨#[]⟩) rfl rfl rfl (by unfold SN; rw [block_setCell (block_setCell HN.out _) _]; rfl)) rfl ?_
    exact ⟨by rw [HP.out]; rfl, (HB1.out.setCell (p := ⟨w.heap.size, 0, none⟩) (Nat.le_refl _) _).setCell (p := ⟨w.heap.size, 1, none⟩) (Nat.le_refl _) _⟩
  | some s0 =>
    have HR := Lib.hid (HRD.out (w.alloc (.cells #[.int .i64 0, .string ByteArray.empty] 57)) ((Below.refl _ _).alloc (Nat.le_refl _) _) 0 (by omega))
    rw [h0] at HR
    have H0 := Lib.hid h0
    have hs0 := md_size h.good h0
    obtain ⟨hn1, hn2⟩ := hd_num s0 hs0
    obtain ⟨hl, hhl⟩ : ∃ hl, hl = s0.data.toList.take 9 := ⟨_, rfl⟩
    have hl9 : hl.length = 9 := by rw [hhl, List.length_take, Ps.length_toList]; omega
    have HH9 := Lib.hid (fun W => Fm.headerOf_any s0 W hs0)
    rw [← hhl] at hn1 hn2 HH9
    obtain ⟨K, hK⟩ : ∃ K, K = Ps.cntB s0 := ⟨_, rfl⟩
    obtain ⟨N, hN⟩ : ∃ N, N = Ps.numB s0 := ⟨_, rfl⟩
    rw [← hN] at hn1
    rw [← hK] at hn2
    have hKb : K ≤ 65535 := by rw [hK]; unfold Ps.cntB; have := Ps.byteAt_lt s0 6; have := Ps.byteAt_lt s0 7; omega
    have hNb : N ≤ 4294967295 := by rw [hN]; unfold Ps.numB; have := Ps.byteAt_lt s0 0; have := Ps.byteAt_lt s0 1; have := Ps.byteAt_lt s0 2; have := Ps.byteAt_lt s0 3; omega
    have HK := Lib.hid hK
    have HNN := Lib.hid hN
    have HN1 := Lib.hid hn1
    have HN2 := Lib.hid hn2
    have HL9 := Lib.hid hl9
    have HI9 : Hid ((Try.prog.info? 75).map (·.size) = some (bv hl).length) := Lib.hid (by rw [Fm.infoH, bv_length, hl9])
    have HZ9 : Hid ((bv (List.replicate 9 0)).toArray.size = (bv hl).length) := Lib.hid (by rw [bv_length, hl9]; simp [bv])
    clear h hoff h0 hs0 hn1 hn2 hhl hl9 hK hN
    go_enter Try.func30, Try.ntmps30
    go_wp2_with fail
    refine HR.out.mono ?_
    rintro e w1 ⟨rfl, hb1⟩
    have HSN1 : Hid (SN w1 w.heap.size 0 ByteArray.empty) := Lib.hid ((hb1.block _ (by simp)).trans (heap_alloc_new _ _))
    have HB1 : Hid (Below w.heap.size w w1) := Lib.hid (((Below.refl _ _).alloc (Nat.le_refl _) _).trans (hb1.mono (by simp)))
    clear hb1 HR
    go_wp2_with fail
    refine (HH9.out _).mono ?_
    rintro e w2 ⟨rfl, hb2⟩
    have HSN2 : Hid (SN w2 w.heap.size 0 ByteArray.empty) := Lib.hid ((hb2.block _ (lt_of_block HSN1.out)).trans HSN1.out)
    have HB2 : Hid (Below w.heap.size w w2) := Lib.hid (HB1.out.trans (hb2.mono HB1.out.size))
    clear hb2 HH9 HSN1 HB1
    unfold Fm.hdV
    go_wp2_with (first
      | (with_reducible refine Fm.wpList_alloc_hd _ 8 rfl rfl rfl ?_; intro w3 hs3 hb3 HG3; have HS3 := Lib.hid hs3; have HW3 := Lib.hid hb3; clear hs3 hb3)
      | (refine Fm.wpList_store_row _ rfl 75 (.tmp 8) (.tmp 26) rfl w2.heap.size (bv hl) rfl rfl HI9.out (Fm.bv_one _) HZ9.out HG3.out ?_; intro w4 ho4 hb4; have HO4 := Lib.hid ho4; have HG4 : Hid (Fm.HB w4 w2.heap.size hl) := hb4; clear ho4 hb4)
      | fail)
    obtain ⟨gh, hgh⟩ : ∃ gh, gh = w2.heap.size := ⟨_, rfl⟩
    have HGH := Lib.hid hgh
    rw [← hgh] at HG4 ⊢
    have HLI0 : Hid (LI w w4 w4.heap.size gh hl (.slice none 0 0) 0 [] (.slice none 0 0) 0 []) := Lib.hid (by
      have h2 := HB2.out.size
      have h3 := HS3.out
      have h4 := HO4.out.size
      have hsn : SN w4 w.heap.size 0 ByteArray.empty := (HO4.out.block _ (by omega) (by have := lt_of_block HSN2.out; omega)).trans ((HW3.out.block _ (lt_of_block HSN2.out)).trans HSN2.out)
      exact ⟨World.ownsRow_nil _ _ _ _, World.ownsRow_nil _ _ _ _, hsn, HG4.out, HB2.out.trans ((HW3.out.mono h2).trans (HO4.out.to_below (B := w.heap.size) (by omega) (fun i hi _ => by omega))), Nat.le_refl _, lt_of_block HG4.out, lt_of_block hsn⟩)
    have HTB : Hid (∀ W, Fm.HB W gh hl → Calls Try.prog 42 #[.slice (some ⟨gh, 6, none⟩) 2 3] W fun e w' => e = .returned (.int .i64 (K : Int)) ∧ W = w') := Lib.hid (fun W hW => by
      have := Fm.takeBig_any gh 6 3 2 ((hl.drop 6).take 2) W (by rw [List.length_take]; omega) (by rw [List.length_take, List.length_drop, HL9.out]; rfl) (hd_cells hW 6 2)
      rwa [HN2.out] at this)
    have HTN : Hid (∀ W, Fm.HB W gh hl → Calls Try.prog 42 #[.slice (some ⟨gh, 0, none⟩) 4 9] W fun e w' => e = .returned (.int .i64 (N : Int)) ∧ W = w') := Lib.hid (fun W hW => by
      have := Fm.takeBig_any gh 0 9 4 ((hl.drop 0).take 4) W (by rw [List.length_take]; omega) (by rw [List.length_take, List.length_drop, HL9.out]; rfl) (hd_cells hW 0 4)
      rwa [List.drop_zero, HN1.out] at this)
    obtain ⟨B2, hB2⟩ : ∃ B2, B2 = w4.heap.size := ⟨_, rfl⟩
    rw [← hB2] at HLI0
    clear hgh hB2 HB2 HSN2 HG3 HS3 HW3 HO4
    refine (HTB.out w4 HLI0.out.hb).mono ?_
    rintro e w5 ⟨rfl, rfl⟩
    clear HTB HG4
    go_wp2_with fail
    go_loopw [9, 10, 29] (fun v9 v10 v29 wr => ∃ (k c dl c2 : Nat) (A A2 : Option Addr) (L : List ByteArray), k ≤ K ∧ v9 = .slice A k c ∧ v10 = .slice A2 dl c2 ∧ v29 = .int .i64 (k : Int) ∧ dl ≤ k * 53 ∧
        Hid (SR (mdT s) f k L ∧ dl = (Ps.claimL L).length) ∧ Hid (LI w wr B2 gh hl (.slice A k c) k L (.slice A2 dl c2) dl (Ps.claimL L)))
      (fun _ _ v29 _ => K - (RowKit.intOf v29).toNat)
    case atStart => exact ⟨0, 0, 0, 0, none, none, [], by omega, rfl, rfl, rfl, by omega, Lib.hid ⟨⟨rfl, fun i s hi => by simp at hi, fun d hd => by simp at hd⟩, rfl⟩, HLI0⟩
    case round =>
      obtain ⟨k, c, dl, c2, A, A2, L, hk, rfl, rfl, rfl, hdl, HSR, HLI⟩ := hrel
      clear HLI0
      by_cases hlt : k < K
      · cases hT : mdT s f k with
        | none =>
          have HR := Lib.hid (HRD.out wr HLI.out.below k (by omega))
          rw [hT] at HR
          have HP : Hid (Ps.slotF (mdT s) f = none) := Lib.hid (Ps.slot_miss H0.out (by have := HK.out; omega) hT)
          clear hT
          go_wp2_with fail
          refine HR.out.mono ?_
          rintro e w5 ⟨rfl, hb5⟩
          have HLI5 := Lib.hid (HLI.out.below' hb5)
          have c0 : w5.cell? ⟨w.heap.size, 0, none⟩ = some (.int .i64 0) := by rw [cell_of_block HLI5.out.sn]; rfl
          have c1 : w5.cell? ⟨w.heap.size, 1, none⟩ = some (.string ByteArray.empty) := by rw [cell_of_block HLI5.out.sn]; rfl
          have f0 : w5.frozen? ⟨w.heap.size, 0, none⟩ = false := frozen_of_block HLI5.out.sn
          have f1 : w5.frozen? ⟨w.heap.size, 1, none⟩ = false := frozen_of_block HLI5.out.sn
          clear hb5 HR
          go_wp2_with fail
          (try simp only [Exit.inBlock, Exit.then])
          refine bodyPost_ret (ret_sn (n := 0) (d := ⟨#[]⟩) rfl rfl rfl (by unfold SN; rw [block_setCell (block_setCell HLI5.out.sn _) _]; rfl)) rfl ?_
          exact ⟨by rw [HP.out]; rfl, (HLI5.out.below.setCell (p := ⟨w.heap.size, 0, none⟩) (Nat.le_refl _) _).setCell (p := ⟨w.heap.size, 1, none⟩) (Nat.le_refl _) _⟩
        | some d =>
          have HR := Lib.hid (HRD.out wr HLI.out.below k (by omega))
          rw [hT] at HR
          have hd64 := md_size HGOOD.out hT
          have HSR' := Lib.hid (HSR.out.1.more hT hd64)
          have HCL := Lib.hid (fun W => Fm.claimed_any d W hd64)
          have hcz := Ps.claimS_size hd64
          have HCZ : Hid (dl + (Ps.claimS d).size = (Ps.claimL (L ++ [d])).length) := Lib.hid (by rw [Ps.claimL_snoc, List.length_append, Ps.length_toList, HSR.out.2])
          have hcz2 : (Ps.claimS d).size ≤ 53 := by rw [hcz]; omega
          clear hT hd64 hcz
          go_wp2_with fail
          refine HR.out.mono ?_
          rintro e w5 ⟨rfl, hb5⟩
          have HLI5 := Lib.hid ((HLI.out.below' hb5).below' ((Below.refl _ _).alloc (Nat.le_refl _) (.cells #[.string d] 9)))
          have HW5 : Hid (∀ w', Below (w5.alloc (.cells #[.string d] 9)).heap.size (w5.alloc (.cells #[.string d] 9)) w' → True) := Lib.hid (fun _ _ => trivial)
          clear hb5 HR HLI
          go_wp2_with (first
            | (at_builtin; refine wpList_append_own_at _ rfl (.tmp 43) (.tmp 45) 37 rfl B2 9 iS _ 1 16 Try.underlying37 hS zS sS bS rfl (by decide) _ _ _ rfl HLI5.out.r1 ⟨w5.heap.size, 0, none⟩ 1 1 [.string d] rfl rfl ?c1 ?c2 ?c3 ?c4 ?c5 ?_)
            | fail)
          case c1 => exact cell_one_new _ _ _
          case c2 => intro u hu; simp at hu; subst hu; rfl
          case c3 => simp only [maxLen]; omega
          case c4 => omega
          case c5 => exact HLI5.out.b2
          intro v' w6 hown' hgrow _ _
          obtain ⟨A6, c6, rfl, _⟩ := own_form hown'
          have HLI6 := Lib.hid (HLI5.out.app1 hgrow (L1' := L ++ [d]) (by rw [Fm.sc_append]; exact hown'))
          clear hown' hgrow HLI5 HW5
          go_wp2_with fail
          refine (HCL.out w6).mono ?_
          rintro e w7 ⟨rfl, hb7⟩
          have HLI7 := Lib.hid (HLI6.out.below' hb7)
          rw [show Fm.claimF d = Ps.claimS d from rfl]
          clear hb7 HLI6 HCL
          go_wp2_with (first
            | (refine Lib.wpList_append_own_string _ rfl (.tmp 47) (.tmp 49) 59 9 rfl B2 5 iU Try.underlying59 Try.underlying9 hU zU sU bU _ dl _ rfl HLI7.out.r2 (Ps.claimS d) rfl (by simp only [maxLen]; omega) (by omega) HLI7.out.b2 ?_; intro v8 w8 ho8 hg8 _)
            | fail)
          obtain ⟨A8, c8, rfl, _⟩ := own_form ho8
          have HLI8 : Hid (LI w w8 B2 gh hl (.slice A6 (k + 1) c6) (k + 1) (L ++ [d]) (.slice A8 (dl + (Ps.claimS d).size) c8) (dl + (Ps.claimS d).size) (Ps.claimL (L ++ [d]))) := Lib.hid (HLI7.out.app2 hg8 (by rw [Ps.claimL_snoc, Fm.bv_append, ← str_bv]; exact ho8))
          clear ho8 hg8 HLI7
          go_wp2_with fail
          go_roundw
          case rel => exact ⟨k + 1, c6, dl + (Ps.claimS d).size, c8, A6, A8, L ++ [d], by omega, rfl, rfl, by go_num, by omega, Lib.hid ⟨HSR'.out, HCZ.out⟩, HLI8⟩
          case measure => simp [RowKit.intOf]; omega
      · obtain rfl : k = K := by omega
        have HCH := Lib.hid (Ps.slot_char H0.out (by rw [HSR.out.1.1, HK.out]) HSR.out.1.2.1)
        rw [← HNN.out] at HCH
        have HDZ : Hid ((⟨(Ps.claimL L).toArray⟩ : ByteArray).size = dl) := Lib.hid (by show (Ps.claimL L).toArray.size = _; rw [List.size_toArray, HSR.out.2])
        obtain ⟨D, hD⟩ : ∃ D, D = Ps.claimL L := ⟨_, rfl⟩
        rw [← hD] at HCH HDZ
        have HTXT : Hid (∀ W, W.ownsRow B2 5 1 (.slice A2 dl c2) dl (bv D) → (convert 59 9 (.slice A2 dl c2)).run Try.prog W = .ok (.string ⟨D.toArray⟩) W) := Lib.hid (fun W hW => own_string hW (by rw [hD, HSR.out.2]))
        rw [← hD] at HLI
        have HDD := Lib.hid hD
        clear hD
        have HLID := Lib.hid (HLI.out.below' (Fm.World.drew_below wr))
        clear HRD
        have HSS : Hid (∀ W, Below wr.heap.size wr W → (convert 59 9 (.slice A2 dl c2)).run Try.prog W = .ok (.string ⟨D.toArray⟩) W ∧ Fm.HB W gh hl) := Lib.hid (fun W hW => ⟨HTXT.out W (HLI.out.below' hW).r2, (HLI.out.below' hW).hb⟩)
        go_wp2_with fail
        apply region_to
        · refine wp_region_held_drew (S := (fun w' => (convert 59 9 (.slice A2 dl c2)).run Try.prog w' = .ok (.string ⟨D.toArray⟩) w' ∧ Fm.HB w' gh hl)) (by kernel_rfl) ⟨HTXT.out _ HLID.out.r2, HLID.out.hb⟩ (fun dd0 => ?_)
          refine wpAnyH_take (i := 0) (v := .slice (some ⟨gh, 0, none⟩) 4 9) rfl (by kernel_rfl) (by kernel_rfl) (by kernel_rfl) (fun _ _ _ h => nomatch h.1) (.inl ⟨by kernel_rfl, fun w hw => by first | go_simp | (have hw := hw.1; go_simp)⟩) (by assumption) ?_
          (try simp only [Act.put, List.getElem_toArray, List.getElem_cons_zero, List.setIfInBounds_toArray, List.set_cons_zero, List.set_cons_succ])
          refine wpAnyH_take (i := 2) (v := .slice A2 dl c2) rfl (by kernel_rfl) (by kernel_rfl) (by kernel_rfl) (fun _ _ _ h => nomatch h.1) (.inl ⟨by kernel_rfl, fun w hw => by first | go_simp | (have hw := hw.1; go_simp)⟩) (by assumption) ?_
          (try simp only [Act.put, List.getElem_toArray, List.getElem_cons_succ, List.getElem_cons_zero, List.setIfInBounds_toArray, List.set_cons_zero, List.set_cons_succ])
          refine wpAnyH_take (i := 3) (v := .string ⟨D.toArray⟩) rfl (by kernel_rfl) (by kernel_rfl) (by kernel_rfl) (fun _ _ _ h => nomatch h.1) (.inl ⟨by kernel_rfl, fun w hw => by first | go_simp | (have hw := hw.1; go_simp)⟩) (by assumption) ?_
          (try simp only [Act.put, List.getElem_toArray, List.getElem_cons_succ, List.getElem_cons_zero, List.setIfInBounds_toArray, List.set_cons_zero, List.set_cons_succ])
          refine wpAnyH_ready (rs := [1, 5]) (by kernel_rfl) (by simp) ?_
          refine AllReadyH.cons rfl (fun K hK => ?_) ?_
          · go_simp
            refine (HTN.out _ (by assumption : _ ∧ _).2).mono ?_
            rintro e w9 ⟨rfl, rfl⟩
            refine hK.out _ _ (by assumption) (fun _ => ?_)
            clear hK K
            (try simp only [Act.put, List.getElem_toArray, List.getElem_cons_succ, List.getElem_cons_zero, List.setIfInBounds_toArray, List.set_cons_zero, List.set_cons_succ])
            refine wpAnyH_take (i := 4) (v := .agg #[.int .i64 (N : Int), .string ⟨D.toArray⟩]) rfl (by kernel_rfl) (by kernel_rfl) (by kernel_rfl) (fun _ _ _ h => nomatch h.1) (.inl ⟨by kernel_rfl, fun w hw => by first | go_simp | (have hw := hw.1; go_simp)⟩) (by assumption) ?_
            (try simp only [Act.put, List.getElem_toArray, List.getElem_cons_succ, List.getElem_cons_zero, List.setIfInBounds_toArray, List.set_cons_zero, List.set_cons_succ])
            refine wpAnyH_ready (rs := [5]) (by kernel_rfl) (by simp) ?_
            refine AllReadyH.cons rfl (fun K hK => ?_) ?_
            · go_simp
              refine hK.out _ _ (HSS.out _ ((Below.refl _ _).alloc (Nat.le_refl _) _).drew) (fun _ => ?_)
              clear hK K
              (try simp only [Act.put, List.getElem_toArray, List.getElem_cons_succ, List.getElem_cons_zero, List.setIfInBounds_toArray, List.set_cons_zero, List.set_cons_succ])
              refine wpAnyH_ready (rs := [6]) (by kernel_rfl) (by simp) ?_
              refine AllReadyH.cons rfl (fun K hK => ?_) ?_
              · go_simp
                refine hK.out _ _ (HSS.out _ ((Below.refl _ _).alloc (Nat.le_refl _) _).drew) (fun _ => ?_)
                clear hK K
                (try simp only [Act.put, List.getElem_toArray, List.getElem_cons_succ, List.getElem_cons_zero, List.setIfInBounds_toArray, List.set_cons_zero, List.set_cons_succ])
                refine wpAnyH_done (by kernel_rfl) ?_ _
                exact ⟨rfl, rfl, rfl⟩
              exact AllReadyH.nil
            exact AllReadyH.nil
          refine AllReadyH.cons rfl (fun K hK => ?_) ?_
          · go_simp
            refine hK.out _ _ (HSS.out _ ((Below.refl _ _).alloc (Nat.le_refl _) _).drew) (fun _ => ?_)
            clear hK K
            (try simp only [Act.put, List.getElem_toArray, List.getElem_cons_succ, List.getElem_cons_zero, List.setIfInBounds_toArray, List.set_cons_zero, List.set_cons_succ])
            refine wpAnyH_ready (rs := [1]) (by kernel_rfl) (by simp) ?_
            refine AllReadyH.cons rfl (fun K hK => ?_) ?_
            · go_simp
              refine (HTN.out _ (by assumption : _ ∧ _).2).mono ?_
              rintro e w9 ⟨rfl, rfl⟩
              refine hK.out _ _ (by assumption) (fun _ => ?_)
              clear hK K
              (try simp only [Act.put, List.getElem_toArray, List.getElem_cons_succ, List.getElem_cons_zero, List.setIfInBounds_toArray, List.set_cons_zero, List.set_cons_succ])
              refine wpAnyH_take (i := 4) (v := .agg #[.int .i64 (N : Int), .string ⟨D.toArray⟩]) rfl (by kernel_rfl) (by kernel_rfl) (by kernel_rfl) (fun _ _ _ h => nomatch h.1) (.inl ⟨by kernel_rfl, fun w hw => by first | go_simp | (have hw := hw.1; go_simp)⟩) (by assumption) ?_
              (try simp only [Act.put, List.getElem_toArray, List.getElem_cons_succ, List.getElem_cons_zero, List.setIfInBounds_toArray, List.set_cons_zero, List.set_cons_succ])
              refine wpAnyH_ready (rs := [6]) (by kernel_rfl) (by simp) ?_
              refine AllReadyH.cons rfl (fun K hK => ?_) ?_
              · go_simp
                refine hK.out _ _ (HSS.out _ ((Below.refl _ _).alloc (Nat.le_refl _) _).drew) (fun _ => ?_)
                clear hK K
                (try simp only [Act.put, List.getElem_toArray, List.getElem_cons_succ, List.getElem_cons_zero, List.setIfInBounds_toArray, List.set_cons_zero, List.set_cons_succ])
                refine wpAnyH_done (by kernel_rfl) ?_ _
                exact ⟨rfl, rfl, rfl⟩
              exact AllReadyH.nil
            exact AllReadyH.nil
          exact AllReadyH.nil
        
        have HSN : Hid (SN (wr.alloc (.cells #[.int .i64 (N : Int), .string ⟨D.toArray⟩] 57)).drew wr.heap.size N ⟨D.toArray⟩) := Lib.hid (heap_alloc_new _ _)
        have HLIA := Lib.hid (HLI.out.below' (w' := (wr.alloc (.cells #[.int .i64 (N : Int), .string ⟨D.toArray⟩] 57)).drew) ((Below.refl _ _).alloc (Nat.le_refl _) _).drew)
        obtain ⟨gs, hgs⟩ : ∃ gs, gs = wr.heap.size := ⟨_, rfl⟩
        have HGS : Hid (B2 ≤ gs) := Lib.hid (by rw [hgs]; exact HLI.out.b2)
        rw [← hgs] at HSN ⊢
        clear hgs HSS HLID HTXT HTN HLI
        generalize (wr.alloc (.cells #[.int .i64 (N : Int), .string ⟨D.toArray⟩] 57)).drew = w10 at HSN HLIA ⊢
        have q0 : w10.cell? ⟨gs, 0, none⟩ = some (.int .i64 (N : Int)) := by rw [cell_of_block HSN.out]; rfl
        have q1 : w10.cell? ⟨gs, 1, none⟩ = some (.string ⟨D.toArray⟩) := by rw [cell_of_block HSN.out]; rfl
        have HZL : Hid ((⟨D.toArray⟩ : ByteArray).size = D.length) := Lib.hid (by show D.toArray.size = _; exact List.size_toArray)
        cases hv : Fm.validF (N : Int) (⟨D.toArray⟩ : ByteArray).size with
        | false =>
          have HV := Lib.hid hv
          have HP : Hid (Ps.slotF (mdT s) f = none) := Lib.hid (by
            rw [HCH.out, if_neg]
            rintro ⟨h1, h2, h3, _, _⟩
            have := (Fm.validF_iff (N : Int) (⟨D.toArray⟩ : ByteArray).size).2 ⟨by omega, by omega, by rw [HZL.out]; exact h3⟩
            rw [HV.out] at this
            cases this)
          clear hv
          go_wp2_with fail
          refine (Fm.valid_any (N : Int) ⟨D.toArray⟩ w10).mono ?_
          rw [HV.out]
          rintro e w11 ⟨rfl, hb11⟩
          have HLI11 := Lib.hid (HLIA.out.below' hb11)
          have c0 : w11.cell? ⟨w.heap.size, 0, none⟩ = some (.int .i64 0) := by rw [cell_of_block HLI11.out.sn]; rfl
          have c1 : w11.cell? ⟨w.heap.size, 1, none⟩ = some (.string ByteArray.empty) := by rw [cell_of_block HLI11.out.sn]; rfl
          have f0 : w11.frozen? ⟨w.heap.size, 0, none⟩ = false := frozen_of_block HLI11.out.sn
          have f1 : w11.frozen? ⟨w.heap.size, 1, none⟩ = false := frozen_of_block HLI11.out.sn
          clear hb11 q0 q1
          go_wp2_with fail
          (try simp only [Exit.inBlock, Exit.then])
          refine bodyPost_ret (ret_sn (n := 0) (d := ⟨#[]⟩) rfl rfl rfl (by unfold SN; rw [block_setCell (block_setCell HLI11.out.sn _) _]; rfl)) rfl ?_
          exact ⟨by rw [HP.out]; rfl, (HLI11.out.below.setCell (p := ⟨w.heap.size, 0, none⟩) (Nat.le_refl _) _).setCell (p := ⟨w.heap.size, 1, none⟩) (Nat.le_refl _) _⟩
        | true =>
          have HV := Lib.hid hv
          have hvv : 1 ≤ N ∧ N ≤ 2147483647 ∧ (⟨D.toArray⟩ : ByteArray).size ≤ 1000000 := by have := (Fm.validF_iff _ _).1 hv; exact ⟨by omega, by omega, this.2.2⟩
          obtain ⟨hv1, hv2, hv3⟩ := hvv
          have HV3 := Lib.hid hv3
          clear hv hv3
          by_cases hsl : N % 2 = f
          · have HSL := Lib.hid hsl
            clear hsl
            go_wp2_with fail
            refine (Fm.valid_any (N : Int) ⟨D.toArray⟩ w10).mono ?_
            rw [HV.out]
            rintro e w11 ⟨rfl, hb11⟩
            have HLI11 := Lib.hid (HLIA.out.below' hb11)
            have HSN11 : Hid (SN w11 gs N ⟨D.toArray⟩) := Lib.hid ((hb11.block _ (lt_of_block HSN.out)).trans HSN.out)
            have q0 : w11.cell? ⟨gs, 0, none⟩ = some (.int .i64 (N : Int)) := by rw [cell_of_block HSN11.out]; rfl
            have q1 : w11.cell? ⟨gs, 1, none⟩ = some (.string ⟨D.toArray⟩) := by rw [cell_of_block HSN11.out]; rfl
            clear hb11 HLIA HSN
            go_wp2_with fail
            refine (Fm.slot_any N ⟨D.toArray⟩ w11 hv2).mono ?_
            rw [HSL.out]
            rintro e w12 ⟨rfl, hb12⟩
            have HLI12 := Lib.hid (HLI11.out.below' hb12)
            have HSN12 : Hid (SN w12 gs N ⟨D.toArray⟩) := Lib.hid ((hb12.block _ (lt_of_block HSN11.out)).trans HSN11.out)
            clear q0 q1
            have q0 : w12.cell? ⟨gs, 0, none⟩ = some (.int .i64 (N : Int)) := by rw [cell_of_block HSN12.out]; rfl
            have q1 : w12.cell? ⟨gs, 1, none⟩ = some (.string ⟨D.toArray⟩) := by rw [cell_of_block HSN12.out]; rfl
            clear hb12 HLI11 HSN11
            go_wp2_with fail
            refine (Fm.secs_any N ⟨D.toArray⟩ w12 hv1 hv2 HV3.out).mono ?_
            rintro e w13 ⟨g, m, hgw, hm, rfl, hgc, hb13⟩
            have HLI13 := Lib.hid (HLI12.out.below' hb13)
            have HSN13 : Hid (SN w13 gs N ⟨D.toArray⟩) := Lib.hid ((hb13.block _ (lt_of_block HSN12.out)).trans HSN12.out)
            have hmb : m ≤ 18868 := by rw [hm]; exact Ps.partsN_le HV3.out
            have hkc : k ≤ c := own_cap HLI13.out.r1
            have HEQ := Lib.hid (Fm.equal_any w13 (some ⟨g, 0, none⟩) A m k m c (Ps.secs N ⟨D.toArray⟩) L (by rw [Ps.secs_length]; exact hm) HSR.out.1.1.symm (by omega) (by omega) (Nat.le_refl _) hkc (fun _ => ⟨g, 0, rfl, lt_of_block hgc, fun j u hu => by rw [cell_of_block hgc, Nat.zero_add, List.getElem?_toArray]; exact hu⟩) (Fm.Rd.of_own HLI13.out.r1))
            clear q0 q1 hgw hm hgc hb13 HLI12 HSN12 hmb hkc
            go_wp2_with fail
            by_cases heq : Ps.secs N ⟨D.toArray⟩ = L
            · have HP : Hid (Ps.slotF (mdT s) f = some (N, D)) := Lib.hid (by
                rw [HCH.out, if_pos ⟨hv1, hv2, by rw [← HZL.out]; exact HV3.out, HSL.out, heq⟩])
              rw [decide_eq_true heq] at HEQ
              clear heq
              refine HEQ.out.mono ?_
              rintro e w14 ⟨rfl, hb14⟩
              have HLI14 := Lib.hid (HLI13.out.below' hb14)
              have HSN14 : Hid (SN w14 gs N ⟨D.toArray⟩) := Lib.hid ((hb14.block _ (lt_of_block HSN13.out)).trans HSN13.out)
              have q0 : w14.cell? ⟨gs, 0, none⟩ = some (.int .i64 (N : Int)) := by rw [cell_of_block HSN14.out]; rfl
              have q1 : w14.cell? ⟨gs, 1, none⟩ = some (.string ⟨D.toArray⟩) := by rw [cell_of_block HSN14.out]; rfl
              have c0 : w14.cell? ⟨w.heap.size, 0, none⟩ = some (.int .i64 0) := by rw [cell_of_block HLI14.out.sn]; rfl
              have c1 : w14.cell? ⟨w.heap.size, 1, none⟩ = some (.string ByteArray.empty) := by rw [cell_of_block HLI14.out.sn]; rfl
              have f0 : w14.frozen? ⟨w.heap.size, 0, none⟩ = false := frozen_of_block HLI14.out.sn
              have f1 : w14.frozen? ⟨w.heap.size, 1, none⟩ = false := frozen_of_block HLI14.out.sn
              clear hb14 HLI13 HSN13
              go_wp2_with fail
              (try simp only [Exit.inBlock, Exit.then])
              refine bodyPost_ret (ret_sn (n := N) (d := ⟨D.toArray⟩) rfl rfl rfl (by unfold SN; rw [block_setCell (block_setCell HLI14.out.sn _) _]; rfl)) rfl ?_
              exact ⟨by rw [HP.out]; rfl, (HLI14.out.below.setCell (p := ⟨w.heap.size, 0, none⟩) (Nat.le_refl _) _).setCell (p := ⟨w.heap.size, 1, none⟩) (Nat.le_refl _) _⟩
            · have HP : Hid (Ps.slotF (mdT s) f = none) := Lib.hid (by
                rw [HCH.out, if_neg (fun h => heq h.2.2.2.2)])
              rw [decide_eq_false heq] at HEQ
              clear heq
              refine HEQ.out.mono ?_
              rintro e w14 ⟨rfl, hb14⟩
              have HLI14 := Lib.hid (HLI13.out.below' hb14)
              have c0 : w14.cell? ⟨w.heap.size, 0, none⟩ = some (.int .i64 0) := by rw [cell_of_block HLI14.out.sn]; rfl
              have c1 : w14.cell? ⟨w.heap.size, 1, none⟩ = some (.string ByteArray.empty) := by rw [cell_of_block HLI14.out.sn]; rfl
              have f0 : w14.frozen? ⟨w.heap.size, 0, none⟩ = false := frozen_of_block HLI14.out.sn
              have f1 : w14.frozen? ⟨w.heap.size, 1, none⟩ = false := frozen_of_block HLI14.out.sn
              clear hb14 HLI13 HSN13
              go_wp2_with fail
              (try simp only [Exit.inBlock, Exit.then])
              refine bodyPost_ret (ret_sn (n := 0) (d := ⟨#[]⟩) rfl rfl rfl (by unfold SN; rw [block_setCell (block_setCell HLI14.out.sn _) _]; rfl)) rfl ?_
              exact ⟨by rw [HP.out]; rfl, (HLI14.out.below.setCell (p := ⟨w.heap.size, 0, none⟩) (Nat.le_refl _) _).setCell (p := ⟨w.heap.size, 1, none⟩) (Nat.le_refl _) _⟩
          · obtain ⟨r, hr⟩ : ∃ r, N % 2 = r := ⟨_, rfl⟩
            have hq : ((r : Int) != (f : Int)) = true := by simp; omega
            have HRR := Lib.hid hr
            have HP : Hid (Ps.slotF (mdT s) f = none) := Lib.hid (by
              rw [HCH.out, if_neg (fun h => hsl h.2.2.2.1)])
            clear hsl hr
            go_wp2_with fail
            refine (Fm.valid_any (N : Int) ⟨D.toArray⟩ w10).mono ?_
            rw [HV.out]
            rintro e w11 ⟨rfl, hb11⟩
            have HLI11 := Lib.hid (HLIA.out.below' hb11)
            have HSN11 : Hid (SN w11 gs N ⟨D.toArray⟩) := Lib.hid ((hb11.block _ (lt_of_block HSN.out)).trans HSN.out)
            clear q0 q1
            have q0 : w11.cell? ⟨gs, 0, none⟩ = some (.int .i64 (N : Int)) := by rw [cell_of_block HSN11.out]; rfl
            have q1 : w11.cell? ⟨gs, 1, none⟩ = some (.string ⟨D.toArray⟩) := by rw [cell_of_block HSN11.out]; rfl
            clear hb11 HLIA HSN
            go_wp2_with fail
            refine (Fm.slot_any N ⟨D.toArray⟩ w11 hv2).mono ?_
            rw [HRR.out]
            rintro e w12 ⟨rfl, hb12⟩
            have HLI12 := Lib.hid (HLI11.out.below' hb12)
            have c0 : w12.cell? ⟨w.heap.size, 0, none⟩ = some (.int .i64 0) := by rw [cell_of_block HLI12.out.sn]; rfl
            have c1 : w12.cell? ⟨w.heap.size, 1, none⟩ = some (.string ByteArray.empty) := by rw [cell_of_block HLI12.out.sn]; rfl
            have f0 : w12.frozen? ⟨w.heap.size, 0, none⟩ = false := frozen_of_block HLI12.out.sn
            have f1 : w12.frozen? ⟨w.heap.size, 1, none⟩ = false := frozen_of_block HLI12.out.sn
            clear hb12 q0 q1 HLI11 HSN11
            go_wp2_with fail
            (try simp only [Exit.inBlock, Exit.then])
            refine bodyPost_ret (ret_sn (n := 0) (d := ⟨#[]⟩) rfl rfl rfl (by unfold SN; rw [block_setCell (block_setCell HLI12.out.sn _) _]; rfl)) rfl ?_
            exact ⟨by rw [HP.out]; rfl, (HLI12.out.below.setCell (p := ⟨w.heap.size, 0, none⟩) (Nat.le_refl _) _).setCell (p := ⟨w.heap.size, 1, none⟩) (Nat.le_refl _) _⟩
end Go.Proofs.Ytkcickbkmedbmaa
