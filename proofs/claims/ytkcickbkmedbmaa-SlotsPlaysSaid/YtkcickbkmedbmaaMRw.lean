/-
  CONTRACTS of Read and Remove.
-/
import Derived.Test.YtkcickbkmedbmaaMBasic
import Derived.Test.YtkcickbkmedbmaaMSec
namespace Go.Proofs.Ytkcickbkmedbmaa
open Go.RowKit Go.Maps

def readF (s : St) (x a : Int) : ByteArray × Int :=
  if s.off then (⟨#[]⟩, 40) else if !(isF x && isS a) then (⟨#[]⟩, 42) else match s.S x a with | none => (⟨#[]⟩, 41) | some d => (d, 0)
def ReadPost (r : ByteArray × Int) (w : World) (e : Ending) (w' : World) : Prop := e = .returned (.tuple #[.string r.1, .int .i64 r.2]) ∧ Below w.heap.size w w'

theorem secV_one (d : ByteArray) : ∀ v ∈ bytesV d, v.oneCell' = true := fun v hv => by
  obtain ⟨u, _, rfl⟩ := List.mem_map.1 hv; rfl
theorem zs_list : zs = (List.replicate 64 (Value.int .u8 0)).toArray := rfl
theorem zs_one : ∀ v ∈ List.replicate 64 (Value.int .u8 0), v.oneCell' = true := fun v hv => by rw [List.eq_of_mem_replicate hv]; rfl

set_option maxRecDepth 100000 in
set_option maxHeartbeats 1600000 in
theorem read_any (b bo n : Nat) (F : Int → Option Nat) (s : St) (x a : Int) (w : World) (h : Med w b bo F n s) (hg : s.Good n) (hx : Wf x) (ha : Wf a) :
    Calls Try.prog 40 #[.pointer (some ⟨b, 0, none⟩), .int .i64 x, .int .i64 a] w (ReadPost (readF s x a) w) := by
  obtain ⟨c0, c1, _, _, _, _, _, _, _, _⟩ := h.ms.cl
  cases hoff : s.off with
  | true =>
    have HP := Lib.hid (show readF s x a = (⟨#[]⟩, 40) from by simp [readF, hoff])
    rw [hoff] at c1
    clear h hg hoff
    go_enter Try.func40, Try.ntmps40
    go_wp2_with fail
    go_ret2
    exact ⟨by rw [HP.out]; rfl, Below.refl _ _⟩
  | false =>
    rw [hoff] at c1
    cases hv : isF x && isS a with
    | false =>
      have HP := Lib.hid (show readF s x a = (⟨#[]⟩, 42) from by simp [readF, hoff, hv])
      clear h hg hoff
      cases hvx : isF x
      · clear hv
        have HX := Lib.hid hvx
        clear hvx
        go_enter Try.func40, Try.ntmps40
        go_wp2_with (first
          | (go_at_call 34; (with_reducible refine (isFile_any _ _).mono ?_); rw [HX.out]; rintro e w' ⟨rfl, rfl⟩)
          | fail)
        go_ret2
        exact ⟨by rw [HP.out]; rfl, Below.refl _ _⟩
      · have hva : isS a = false := by rw [hvx] at hv; simpa using hv
        have HX := Lib.hid hvx
        have HA := Lib.hid hva
        clear hvx hva hv
        go_enter Try.func40, Try.ntmps40
        go_wp2_with (first
          | (go_at_call 34; (with_reducible refine (isFile_any _ _).mono ?_); rw [HX.out]; rintro e w' ⟨rfl, rfl⟩)
          | (go_at_call 35; (with_reducible refine (isSector_any _ _).mono ?_); rw [HA.out]; rintro e w' ⟨rfl, rfl⟩)
          | fail)
        go_ret2
        exact ⟨by rw [HP.out]; rfl, Below.refl _ _⟩
    | true =>
      have hvx : isF x = true := by rw [Bool.and_eq_true] at hv; exact hv.1
      have hva : isS a = true := by rw [Bool.and_eq_true] at hv; exact hv.2
      have HX := Lib.hid hvx
      have HA := Lib.hid hva
      have hlk := h.files.look (t := 50) Try.underlying50 (Try.zeroValue67 w) hx
      cases hS : s.S x a with
      | none =>
        have HP := Lib.hid (show readF s x a = (⟨#[]⟩, 41) from by simp [readF, hoff, hvx, hva, hS])
        obtain ⟨mv, hl1, hl2⟩ : ∃ mv, (Instr.lookup 50 (.map (some bo)) (.int .i64 x) false).run Try.prog w = .ok mv w ∧ (Instr.lookup 67 mv (.int .i64 a) true).run Try.prog w = .ok (.tuple #[.agg zs, .bool false]) w := by
          cases hF : F x with
          | none =>
            simp only [hF, Option.map_none, Option.getD_none] at hlk
            exact ⟨_, hlk, look_ok_nil Try.underlying67 (zeroSec w) ha⟩
          | some j =>
            simp only [hF, Option.map_some, Option.getD_some] at hlk
            refine ⟨_, hlk, ?_⟩
            have := (h.secs x j hF).look_ok (t := 67) Try.underlying67 (zeroSec w) ha
            simpa only [hS, Option.map_none, Option.getD_none, Option.isSome_none] using this
        clear h hg hoff hv hvx hva hlk hS
        go_enter Try.func40, Try.ntmps40
        go_wp2_with (first
          | (go_at_call 34; (with_reducible refine (isFile_any _ _).mono ?_); rw [HX.out]; rintro e w' ⟨rfl, rfl⟩)
          | (go_at_call 35; (with_reducible refine (isSector_any _ _).mono ?_); rw [HA.out]; rintro e w' ⟨rfl, rfl⟩)
          | (with_reducible refine wpList_alloc_sec _ rfl rfl ?_; intro w1 hs1 hb1 HB1; have HS1 := Lib.hid hs1; have HW1 := Lib.hid hb1; clear hs1 hb1)
          | (refine wpList_store_sec _ rfl _ _ rfl w.heap.size (List.replicate 64 (Value.int .u8 0)) rfl (by rw [zs_list]; rfl) (by simp) zs_one zs_size HB1.out ?_; intro w2 ho2 hb2; have HW2 := Lib.hid ho2; clear ho2)
          | fail)
        go_ret2
        exact ⟨by rw [HP.out]; rfl, HW1.out.trans (HW2.out.to_below (by have := HS1.out; omega) (fun i hi _ => by omega))⟩
      | some d =>
        have hd := (hg.dom x a d hS).2
        have HP := Lib.hid (show readF s x a = (d, 0) from by simp [readF, hoff, hvx, hva, hS])
        obtain ⟨mv, hl1, hl2⟩ : ∃ mv, (Instr.lookup 50 (.map (some bo)) (.int .i64 x) false).run Try.prog w = .ok mv w ∧ (Instr.lookup 67 mv (.int .i64 a) true).run Try.prog w = .ok (.tuple #[.agg (bytesV d).toArray, .bool true]) w := by
          cases hF : F x with
          | none => have := h.none_ x hF a; rw [hS] at this; cases this
          | some j =>
            simp only [hF, Option.map_some, Option.getD_some] at hlk
            refine ⟨_, hlk, ?_⟩
            have := (h.secs x j hF).look_ok (t := 67) Try.underlying67 (zeroSec w) ha
            simpa only [secV, hS, Option.map_some, Option.getD_some, Option.isSome_some] using this
        have HD := Lib.hid hd
        clear h hg hoff hv hvx hva hlk hS hd
        go_enter Try.func40, Try.ntmps40
        go_wp2_with (first
          | (go_at_call 34; (with_reducible refine (isFile_any _ _).mono ?_); rw [HX.out]; rintro e w' ⟨rfl, rfl⟩)
          | (go_at_call 35; (with_reducible refine (isSector_any _ _).mono ?_); rw [HA.out]; rintro e w' ⟨rfl, rfl⟩)
          | (with_reducible refine wpList_alloc_sec _ rfl rfl ?_; intro w1 hs1 hb1 HB1; have HS1 := Lib.hid hs1; have HW1 := Lib.hid hb1; clear hs1 hb1)
          | (refine wpList_store_sec _ rfl _ _ rfl w.heap.size (bytesV d) rfl rfl (by rw [bytesV_length]; exact HD.out) (secV_one d) zs_size HB1.out ?_; intro w2 ho2 hb2; have HW2 := Lib.hid ho2; clear ho2; have htx := secText HD.out hb2.out)
          | fail)
        go_ret2
        exact ⟨by rw [HP.out]; rfl, HW1.out.trans (HW2.out.to_below (by have := HS1.out; omega) (fun i hi _ => by omega))⟩

def removeF (s : St) (x : Int) : Int × St :=
  match spendF s.off s.armed (isF x) s.left s.writes with
  | (c, off, left, writes) => (c, { S := if c = 0 then fun y a => if y = x then none else s.S y a else s.S, off := off, armed := s.armed, left := left, writes := writes })

/-- A step of the medium: it answers c and is in the state s'; its new blocks are new. -/
def Step (b bo : Nat) (F : Int → Option Nat) (n : Nat) (r : Int × St) (w : World) (e : Ending) (w' : World) : Prop :=
  ∃ F', e = .returned (.int .i64 r.1) ∧ Med w' b bo F' n r.2 ∧ Only (own b bo F) w w' ∧ ∀ k, own b bo F' k → own b bo F k ∨ w.heap.size ≤ k

theorem spendF_cases {off armed valid : Bool} {left writes c left' writes' : Int} {off' : Bool} (h : spendF off armed valid left writes = (c, off', left', writes')) :
    (c = 0 ∧ valid = true ∧ off = false ∧ off' = false ∧ left' = (if armed then left - 1 else left) ∧ writes' = writes + 1 ∧ (armed = true → left ≠ 0)) ∨ ((c = 40 ∨ c = 42) ∧ left' = left ∧ writes' = writes) := by
  unfold spendF at h
  split at h
  · simp at h; obtain ⟨rfl, _, rfl, rfl⟩ := h; exact .inr ⟨.inl rfl, rfl, rfl⟩
  · split at h
    · simp at h; obtain ⟨rfl, _, rfl, rfl⟩ := h; exact .inr ⟨.inr rfl, rfl, rfl⟩
    · split at h
      · simp at h; obtain ⟨rfl, _, rfl, rfl⟩ := h; exact .inr ⟨.inl rfl, rfl, rfl⟩
      · rename_i h1 h2 h3
        simp at h h1 h2 h3
        obtain ⟨rfl, rfl, rfl, rfl⟩ := h
        exact .inl ⟨rfl, h2, h1, h1, rfl, rfl, h3⟩

theorem spend_at {b bo : Nat} {off armed valid : Bool} {left writes c left' writes' : Int} {off' : Bool} {w : World} (hsf : spendF off armed valid left writes = (c, off', left', writes'))
    (h : MS w b bo off armed left writes) (hl0 : 0 ≤ left) (hl1 : left ≤ 9223372036854775807) (hw0 : 0 ≤ writes) (hw1 : writes ≤ 9223372036854775806) :
    Calls Try.prog 33 #[.pointer (some ⟨b, 0, none⟩), .bool valid] w fun e w' => e = .returned (.int .i64 c) ∧ MS w' b bo off' armed left' writes' ∧ Only (fun i => i = b) w w' :=
  (spend_any b bo off armed valid left writes w h hl0 hl1 hw0 hw1).mono fun e w' ⟨c2, o2, l2, w2, h2, he, hm, ho⟩ => by
    rw [hsf] at h2
    simp only [Prod.mk.injEq] at h2
    obtain ⟨rfl, rfl, rfl, rfl⟩ := h2
    exact ⟨he, hm, ho⟩

theorem Only.im {X : Nat → Prop} {w w' : World} (ho : Only X w w') {b n : Nat} {f : Int → Option Value} (h : IM w b n f) (hx : ¬ X b) : IM w' b n f := h.kept (ho.block b h.lt hx)
theorem Only.ms {X : Nat → Prop} {w w' : World} (ho : Only X w w') {b bo : Nat} {off armed : Bool} {left writes : Int} (h : MS w b bo off armed left writes) (hx : ¬ X b) : MS w' b bo off armed left writes := h.kept (ho.block b h.lt hx)
theorem Only.lt {X : Nat → Prop} {w w' : World} (ho : Only X w w') {k : Nat} (h : k < w.heap.size) : k < w'.heap.size := Nat.lt_of_lt_of_le h ho.size

end Go.Proofs.Ytkcickbkmedbmaa
