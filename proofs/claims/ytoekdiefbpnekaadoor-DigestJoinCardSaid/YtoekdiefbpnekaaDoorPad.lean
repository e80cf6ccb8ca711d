/- What is put behind the bytes, by whole blocks and what is left. Nothing of the program is named here but its words of memory. -/
import Derived.Test.YtoekdiefbpnekaaDoorEnding
import Derived.Test.YtoekdiefbpnekaaDoorBlocks
namespace Go.Proofs.YtoekdiefbpnekaaDoor
set_option linter.unusedVariables false
set_option linter.unusedSimpArgs false
open Go.RowKit

theorem endB_len (d : List UInt8) (N : Nat) (h : d.length < 64) : (endB d N).length = 64 * eblk d.length := by
  have he : 9 + d.length ≤ 64 * eblk d.length := by unfold eblk; split <;> omega
  unfold endB
  rw [List.length_append, List.length_append, List.length_cons, List.length_replicate, be_len]
  omega
theorem pad_eq (l : List UInt8) (k : Nat) (h1 : 64 * k ≤ l.length) (h2 : l.length < 64 * k + 64) : pad l = l.take (64 * k) ++ endB (l.drop (64 * k)) l.length ∧ nblk l.length = k + eblk (l.drop (64 * k)).length := by
  have hd : (l.drop (64 * k)).length = l.length - 64 * k := List.length_drop
  have hn : nblk l.length = k + eblk (l.drop (64 * k)).length := by
    rw [hd]; unfold nblk eblk; split <;> omega
  refine ⟨?_, hn⟩
  unfold pad endB
  rw [hn, be8_eq, ← List.append_assoc, ← List.append_assoc, List.take_append_drop]
  congr 4
  rw [hd]; omega
theorem sum_eq (l : List UInt8) (k : Nat) (h1 : 64 * k ≤ l.length) (h2 : l.length < 64 * k + 64) :
    sum l = outB (thr (thr S0 (l.take (64 * k)) k) (endB (l.drop (64 * k)) l.length) (eblk (l.drop (64 * k)).length)) := by
  obtain ⟨e1, e2⟩ := pad_eq l k h1 h2
  unfold sum
  rw [e1, e2, thr_app S0 _ _ k (by rw [List.length_take]; omega)]
/-- The first words' bytes. -/
def pfx (s : St) : Nat → List UInt8
  | 0 => []
  | n + 1 => pfx s n ++ be 4 (s.list.getD n 0)
theorem pfx_len (s : St) : ∀ n, (pfx s n).length = 4 * n
  | 0 => rfl
  | n + 1 => by rw [pfx, List.length_append, pfx_len s n, be_len]; omega
theorem pfx_out (s : St) : pfx s 8 = outB s := by
  simp [pfx, outB, be, St.list, List.range_succ]
end Go.Proofs.YtoekdiefbpnekaaDoor
