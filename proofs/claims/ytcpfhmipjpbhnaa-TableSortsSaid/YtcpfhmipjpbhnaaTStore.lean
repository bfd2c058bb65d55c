/-
  A LAW: a pair stored into a row of the call's own.
-/
import Derived.Test.YtcpfhmipjpbhnaaTRef
namespace Go.Proofs.Ytcpfhmipjpbhnaa
open Go.RowKit

theorem run_store_pair {w : World} {g i : Nat} {s : ByteArray} {z : Int} {u0 u1 : Value} (h0 : w.cell? ⟨g, i * 2, none⟩ = some u0) (h1 : w.cell? ⟨g, i * 2 + 1, none⟩ = some u1) (f0 : w.frozen? ⟨g, i * 2, none⟩ = false) (f1 : w.frozen? ⟨g, i * 2 + 1, none⟩ = false) :
    (Instr.storeAt 24 (.pointer (some ⟨g, i * 2, none⟩)) (.agg #[.string s, .int .i64 z])).run Try.prog w = .ok () ((w.setCell ⟨g, i * 2, none⟩ (.string s)).setCell ⟨g, i * 2 + 1, none⟩ (.int .i64 z)) := by
  simp [go_sem, stored, h0, h1, f0, f1]

theorem wpList_store_pair {w : World} {ops : Array Oper} {rest : List Oper} {o : Oper} {a : Act} {Q : Exit → Act → World → Prop} (hgd : o.guard = none) (x v : Operand) (ho : o.op = .store 24 x v)
    (B g n c i : Nat) (l : List Pl.Pr) (s : ByteArray) (z : Int) (hx : a.eval x = .pointer (some ⟨g, i * 2, none⟩)) (hv : a.eval v = .agg #[.string s, .int .i64 z])
    (hown : w.ownsRow B 24 2 (.slice (some ⟨g, 0, none⟩) n c) n (pc l)) (hg : B ≤ g) (hl : n = l.length) (hi : i < n)
    (h : ∀ w', w'.ownsRow B 24 2 (.slice (some ⟨g, 0, none⟩) n c) n (pc (l.set i (s, z))) → Below B w w' → (∀ b j, b ≠ g → w'.cell? ⟨b, j, none⟩ = w.cell? ⟨b, j, none⟩) → wpList Try.prog ops Q rest (a.put o.dst undef) w') : wpList Try.prog ops Q (o :: rest) a w := by
  refine wpList_plain hgd fun K hK => ?_
  have h0 := (hown.cellAt (i * 2) (by omega)).trans (pc_at0 l i (by omega))
  have h1 := (hown.cellAt (i * 2 + 1) (by omega)).trans (pc_at1 l i (by omega))
  have hr := run_store_pair (s := s) (z := z) h0 h1 (hown.frozenAt _) (hown.frozenAt _)
  have hS := own_set (i := i) (s := s) (z := z) hown hg
  unfold Oper.wp execOp
  simp only [ho, Sem.run_bind, Sem.run_pure, hx, hv, hr, Result.andThen_ok]
  refine hK _ _ (h _ hS.1 hS.2 fun b j hb => ?_)
  rw [World.cell?_setCell_other _ _ _ _ (by intro e; injection e with e; exact hb e.symm), World.cell?_setCell_other _ _ _ _ (by intro e; injection e with e; exact hb e.symm)]
end Go.Proofs.Ytcpfhmipjpbhnaa
