/- Pad, Tail, Slice: texts of this seat, one behind the other. -/
import Derived.Test.YtinbegnojfpeiaaDoorEnding
import Derived.Test.YtinbegnojfpeiaaDoorG3
import Derived.Test.YtinbegnojfpeiaaDoorG1
import Derived.Test.YtinbegnojfpeiaaDoorG2
import Derived.Test.YtinbegnojfpeiaaDoorRows
/- What is put behind the bytes, by whole blocks and what is left. Nothing of the program is named here but its words of memory. -/
namespace Go.Proofs.YtinbegnojfpeiaaDoor
set_option linter.unusedVariables false
set_option maxRecDepth 100000
set_option linter.unusedSimpArgs false
open Go.RowKit

theorem endB_len (d : List UInt8) (N : Nat) (h : d.length < 64) : (endB d N).length = 64 * eblk d.length := by
  have he : 9 + d.length ≤ 64 * eblk d.length := by unfold eblk; split <;> omega
  unfold endB
  rw [List.length_append, List.length_append, List.length_cons, List.length_replicate, be_len]
  omega
theorem pad_eq (l : List UInt8) (k : Nat) (h1 : 64 * k ≤ l.length) (h2 : l.length < 64 * k + 64) : pad l = l.take (64 * k) ++ endB (l.drop (64 * k)) l.length ∧ nblk l.length = k + eblk (l.drop (64 * k)).length := by
  have hd : (l.drop (64 * k)).length = l.length - 64 * k := List.length_drop
  have hn : nblk l.length = k + eblk (l.drop (64 * k)).length := by
    rw [hd]; unfold nblk eblk; split <;> omega
  refine ⟨?_, hn⟩
  unfold pad endB
  rw [hn, be8_eq, ← List.append_assoc, ← List.append_assoc, List.take_append_drop]
  congr 4
  rw [hd]; omega
theorem sum_eq (l : List UInt8) (k : Nat) (h1 : 64 * k ≤ l.length) (h2 : l.length < 64 * k + 64) :
    sum l = outB (thr (thr S0 (l.take (64 * k)) k) (endB (l.drop (64 * k)) l.length) (eblk (l.drop (64 * k)).length)) := by
  obtain ⟨e1, e2⟩ := pad_eq l k h1 h2
  unfold sum
  rw [e1, e2, thr_app S0 _ _ k (by rw [List.length_take]; omega)]
/-- The first words' bytes. -/
def pfx (s : St) : Nat → List UInt8
  | 0 => []
  | n + 1 => pfx s n ++ be 4 (s.list.getD n 0)
theorem pfx_len (s : St) : ∀ n, (pfx s n).length = 4 * n
  | 0 => rfl
  | n + 1 => by rw [pfx, List.length_append, pfx_len s n, be_len]; omega
theorem pfx_out (s : St) : pfx s 8 = outB s := by
  simp [pfx, outB, be, St.list, List.range_succ]
end Go.Proofs.YtinbegnojfpeiaaDoor

/- Parts of a slice of bytes; a slice expression in a region that draws its order, and in one that does not. -/
namespace Go.Proofs.YtinbegnojfpeiaaDoor
set_option linter.unusedVariables false
set_option maxRecDepth 100000
set_option linter.unusedSimpArgs false
open Go.RowKit

theorem yieldsIf_slice {P : Program} {ops : Array Oper} {S : World → Prop} {oi : Oper} {a : Act} (hw : Region.wanted oi (yielded ops a.tmps) = true) (t : TypeId) (x : Operand) (lo hi : Option Operand) (ho : oi.op = .slice t x lo hi none) (v : Value)
    (h : ∀ w, (Instr.sliceAt t (a.eval x) (lo.map a.eval) (hi.map a.eval) none).run P w = .ok v w) : YieldsIf P ops S oi v a :=
  .inl ⟨hw, fun w _ => by
    unfold execOp
    simp only [ho, Sem.run_bind, Option.map_none, h w, Result.andThen_ok, Sem.run_pure]⟩

/-- Where b[lo:] lies. -/
def tailA (A : Option Addr) (c lo : Nat) : Option Addr := if c = lo then A else A.map (·.add (lo * 1))
theorem tailA_none (A : Option Addr) (c lo : Nat) (h : tailA A c lo = none) : A = none := by
  unfold tailA at h
  split at h
  · exact h
  · cases A with
    | none => rfl
    | some a => cases h
theorem Rb.tail {w : World} {B : Nat} {A : Option Addr} {l : List UInt8} {c : Nat} (h : Rb w B A l) (lo : Nat) (hc : l.length ≤ c) : Rb w B (tailA A c lo) (l.drop lo) := by
  by_cases h0 : l.drop lo = []
  · left; exact h0
  · have hlo : lo < l.length := by
      rcases Nat.lt_or_ge lo l.length with h1 | h1
      · exact h1
      · exact absurd (List.drop_of_length_le h1) h0
    rcases h with h | ⟨b, o, e, hb, hcl⟩
    · rw [h] at hlo; simp at hlo
    · subst e
      have e2 : tailA (some ⟨b, o, none⟩) c lo = some ⟨b, o + lo, none⟩ := by
        unfold tailA
        rw [if_neg (by omega)]
        simp only [Option.map_some, Nat.mul_one, Addr.add]
        split <;> simp_all
      rw [e2]
      refine .inr ⟨b, o + lo, rfl, hb, fun i hi => ?_⟩
      have hi' : lo + i < l.length := by rw [List.length_drop] at hi; omega
      have := hcl (lo + i) hi'
      rw [← Nat.add_assoc] at this
      rw [this, List.getElem_drop]
theorem Rb.front {w : World} {B : Nat} {A : Option Addr} {l : List UInt8} (h : Rb w B A l) (n : Nat) : Rb w B A (l.take n) := by
  rcases h with h | ⟨b, o, e, hb, hc⟩
  · left; rw [h]; simp
  · refine .inr ⟨b, o, e, hb, fun i hi => ?_⟩
    have hi' : i < l.length := by rw [List.length_take] at hi; omega
    rw [hc i hi', List.getElem_take]
theorem slice_fr (A : Option Addr) (n c lo : Nat) (h : lo ≤ n) (hc : n ≤ c) (u : World) : (Instr.sliceAt 50 (.slice A n c) (some (.int .i64 (lo : Int))) none none).run Tryd.prog u = .ok (.slice (tailA A c lo) (n - lo) (c - lo)) u := by
  have h1 : (lo : Int) ≤ (n : Int) := by omega
  unfold tailA
  go_simp
/-- b[lo:] in a region that draws nothing. -/
theorem wpList_from {P : Program} {ops : Array Oper} {rest : List Oper} {o : Oper} {a : Act} {Q : Exit → Act → World → Prop} {w : World} (hgd : o.guard = none) (t : TypeId) (x lo : Operand) (ho : o.op = .slice t x (some lo) none none) (vx vl v : Value) (hx : a.eval x = vx) (hl : a.eval lo = vl)
    (hr : (Instr.sliceAt t vx (some vl) none none).run P w = .ok v w) (h : wpList P ops Q rest (a.put o.dst v) w) : wpList P ops Q (o :: rest) a w :=
  wpList_plain hgd fun _ hK => by
    unfold Oper.wp execOp
    simp only [ho, Option.map_some, Option.map_none, hx, hl, Sem.run_bind, hr, Result.andThen_ok, Sem.run_pure]
    exact hK _ _ h
end Go.Proofs.YtinbegnojfpeiaaDoor

/- Parts of a slice of bytes. -/
namespace Go.Proofs.YtinbegnojfpeiaaDoor
end Go.Proofs.YtinbegnojfpeiaaDoor
