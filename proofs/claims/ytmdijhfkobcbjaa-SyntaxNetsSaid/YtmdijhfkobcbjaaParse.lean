/- num.Parse: its contract. -/
import Derived.Test.YtmdijhfkobcbjaaNumb
import Derived.BigQuiet
import Derived.Deep.QuietTactic
namespace Go.Proofs.Ytmdijhfkobcbjaa
set_option linter.unusedVariables false
set_option linter.unusedSimpArgs false
open Go.RowKit

def stP (s : ByteArray) (k : Nat) : Nat × Bool × Bool := if h : k < s.size then ((s[k]).toNat - 48, decide (k + 1 = s.size), decide (48 ≤ (s[k]).toNat ∧ (s[k]).toNat ≤ 57)) else (0, true, false)
/-- The number of which a text is the decimals. -/
def parseS (s : ByteArray) : Option (Nat × Nat) := numS 10 (stP s) (s.size + 1) 0 0

structure ParI (w : World) (g : Nat) (s : ByteArray) (k : Nat) : Prop where
  rd : RdS w g s k
  next : Bk w (g + 1 + 1) 73 #[.func (.func 50) #[] #[.pointer (some ⟨g + 1, 0, none⟩), .pointer (some ⟨g, 0, none⟩)]]
  left : Bk w (g + 1 + 1 + 1) 3 #[.int .i64 ((s.size : Int) - (k : Int))]

theorem ParI.step {w : World} {g k : Nat} {s : ByteArray} (h : ParI w g s k) (hk : k < s.size) (nq : Nat) :
    ParI (((w.setCell ⟨g + 1, 0, none⟩ (.int .i64 ((k : Int) + 1))).setCell ⟨g + 1 + 1 + 1, 0, none⟩ (.int .i64 ((s.size : Int) - (k : Int) - 1))).drewN nq) g s (k + 1) ∧
    Below g w (((w.setCell ⟨g + 1, 0, none⟩ (.int .i64 ((k : Int) + 1))).setCell ⟨g + 1 + 1 + 1, 0, none⟩ (.int .i64 ((s.size : Int) - (k : Int) - 1))).drewN nq) := by
  have e1 : ((s.size : Int) - (k : Int) - 1) = ((s.size : Int) - ((k + 1 : Nat) : Int)) := by omega
  have e2 : ((k : Int) + 1) = ((k + 1 : Nat) : Int) := by omega
  rw [e1, e2]
  refine ⟨⟨?_, ?_, ?_⟩, ?_⟩
  · have := h.rd.step hk
    exact ⟨this.pos.far (p := ⟨g + 1 + 1 + 1, 0, none⟩) (by show g + 1 ≠ g + 1 + 1 + 1; omega) _, this.from_.far (p := ⟨g + 1 + 1 + 1, 0, none⟩) (by show g ≠ g + 1 + 1 + 1; omega) _, this.size, this.le⟩
  · exact (h.next.far (p := ⟨g + 1, 0, none⟩) (by show g + 1 + 1 ≠ g + 1; omega) _).far (p := ⟨g + 1 + 1 + 1, 0, none⟩) (by show g + 1 + 1 ≠ g + 1 + 1 + 1; omega) _
  · exact (h.left.far (p := ⟨g + 1, 0, none⟩) (by show g + 1 + 1 + 1 ≠ g + 1; omega) _).set 0 _
  · exact below_drewN (((Below.refl g w).setCell (by show g ≤ g + 1; omega) _).setCell (by show g ≤ g + 1 + 1 + 1; omega) _) nq

theorem parse1_fin {w' : World} {g k v S : Nat} {P Q : Prop} (b1 : Bool) (hb : b1 = decide (48 ≤ v ∧ v ≤ 57)) (h : P) (h' : Q) :
    ∃ di lb, Ending.returned (.tuple #[.int .i64 ((v : Int) - 48), .bool ((S : Int) - (k : Int) - 1 == 0), .bool b1]) = Ending.returned (.tuple #[.int .i64 di, .bool lb, .bool (decide (48 ≤ v ∧ v ≤ 57))]) ∧
      (decide (48 ≤ v ∧ v ≤ 57) = true → di = ((v - 48 : Nat) : Int) ∧ lb = decide (k + 1 = S) ∧ P) ∧ Q :=
  ⟨_, _, by rw [hb], (fun h0 => ⟨(by have : 48 ≤ v ∧ v ≤ 57 := (by simpa using h0); omega), (by rw [Bool.eq_iff_iff]; simp; omega), h⟩), h'⟩

set_option maxHeartbeats 400000 in
theorem parse1_ok (g k : Nat) (s : ByteArray) (w : World) (h : ParI w g s k) :
    Calls Try.prog 46 #[.pointer (some ⟨g + 1 + 1, 0, none⟩), .pointer (some ⟨g + 1 + 1 + 1, 0, none⟩)] w fun e w' =>
      ∃ di lb, e = .returned (.tuple #[.int .i64 di, .bool lb, .bool (stP s k).2.2]) ∧ ((stP s k).2.2 = true → di = ((stP s k).1 : Int) ∧ lb = (stP s k).2.1 ∧ ParI w' g s (k + 1)) ∧ Below g w w' := by
  have c1 : w.cell? ⟨g + 1 + 1, 0, none⟩ = some (.func (.func 50) #[] #[.pointer (some ⟨g + 1, 0, none⟩), .pointer (some ⟨g, 0, none⟩)]) := by rw [h.next.cell]; rfl
  have hsz := h.rd.size
  by_cases hk : k < s.size
  · have hc := Lib.hid (readS_more g k s w h.rd hk)
    have c2 : ∀ u : Value, (w.setCell ⟨g + 1, 0, none⟩ u).cell? ⟨g + 1 + 1 + 1, 0, none⟩ = some (.int .i64 ((s.size : Int) - (k : Int))) := by
      intro u
      have := (h.left.far (p := ⟨g + 1, 0, none⟩) (by show g + 1 + 1 + 1 ≠ g + 1; omega) u).cell 0
      rw [this]; rfl
    have c3 : ∀ u : Value, (w.setCell ⟨g + 1, 0, none⟩ u).frozen? ⟨g + 1 + 1 + 1, 0, none⟩ = false := fun u => (h.left.far (p := ⟨g + 1, 0, none⟩) (by show g + 1 + 1 + 1 ≠ g + 1; omega) u).frozen 0
    have c4 : ∀ u u' : Value, ((w.setCell ⟨g + 1, 0, none⟩ u).setCell ⟨g + 1 + 1 + 1, 0, none⟩ u').cell? ⟨g + 1 + 1 + 1, 0, none⟩ = some u' := by
      intro u u'
      have := ((h.left.far (p := ⟨g + 1, 0, none⟩) (by show g + 1 + 1 + 1 ≠ g + 1; omega) u).set 0 u').cell 0
      rw [this]; rfl
    have HF := Lib.hid (fun nq => ParI.step h hk nq)
    have hs : stP s k = ((s[k]).toNat - 48, decide (k + 1 = s.size), decide (48 ≤ (s[k]).toNat ∧ (s[k]).toNat ≤ 57)) := by simp [stP, hk]
    rw [hs]
    obtain ⟨v, hv⟩ : ∃ v : Nat, v = (s[k]).toNat := ⟨_, rfl⟩
    have hv2 : v < 256 := by rw [hv]; exact (s[k]).toNat_lt
    rw [← hv] at hc ⊢
    clear hs hv h
    have w1 : IntKind.i64.wrap ((v : Nat) : Int) = (v : Int) := IntWalk.i64_in _ (by omega)
    have w2 : IntKind.i64.wrap ((v : Int) - 48) = (v : Int) - 48 := IntWalk.i64_in _ (by omega)
    by_cases d1 : 48 ≤ v
    · have d2 : decide ((48 : Int) ≤ (v : Int)) = true := by simp; omega
      go_enter Try.func46, Try.ntmps46
      go_wp2_with (refine hc.out.mono ?_; rintro e w1 ⟨rfl, hw1⟩; subst hw1)
      go_quiet (fail)
      go_wp2
      go_ret3
      have := HF.out nq
      exact parse1_fin (w' := w) (g := g) _ (by rw [Bool.eq_iff_iff]; simp; omega) this.1 this.2
    · have d2 : decide ((48 : Int) ≤ (v : Int)) = false := by simp; omega
      go_enter Try.func46, Try.ntmps46
      go_wp2_with (refine hc.out.mono ?_; rintro e w1 ⟨rfl, hw1⟩; subst hw1)
      go_quiet (fail)
      go_wp2
      go_ret3
      have := HF.out nq
      exact parse1_fin (w' := w) (g := g) _ (by rw [Bool.eq_iff_iff]; simp; omega) this.1 this.2
  · have hc := Lib.hid (readS_end g k s w h.rd hk)
    have hs : stP s k = (0, true, false) := by simp [stP, hk]
    have c2 : w.cell? ⟨g + 1 + 1 + 1, 0, none⟩ = some (.int .i64 ((s.size : Int) - (k : Int))) := by rw [h.left.cell]; rfl
    have c3 : w.frozen? ⟨g + 1 + 1 + 1, 0, none⟩ = false := h.left.frozen 0
    have hle := h.rd.le
    have c4 : ∀ u' : Value, (w.setCell ⟨g + 1 + 1 + 1, 0, none⟩ u').cell? ⟨g + 1 + 1 + 1, 0, none⟩ = some u' := by
      intro u'
      have := (h.left.set 0 u').cell 0
      rw [this]; rfl
    rw [hs]
    clear hs h
    have w1 : IntKind.i64.wrap (-48 : Int) = -48 := IntWalk.i64_in _ (by omega)
    go_enter Try.func46, Try.ntmps46
    go_wp2_with (refine hc.out.mono ?_; rintro e w1 ⟨rfl, rfl⟩)
    go_quiet (fail)
    go_wp2
    go_ret3
    exact ⟨_, _, rfl, (fun h => by cases h), below_drewN ((Below.refl g w).setCell (by show g ≤ g + 1 + 1 + 1; omega) _) nq⟩

theorem in26 (args : Array Value) (w : World) : (callFunc 46 args).run Try.prog w = .ok (.enter 46 args) w := goes_in Try.func46 (by kernel_rfl) rfl args w

/-- How Parse returns it. -/
def parE : Option (Nat × Nat) → Ending
  | some (n, _) => .returned (.tuple #[.int .i64 n, .bool true])
  | none => .returned (.tuple #[.int .i64 0, .bool false])

set_option maxHeartbeats 400000 in
theorem parse_ok (s : ByteArray) (w : World) (hl : s.size ≤ 140737488355328) :
    Calls Try.prog 38 #[.string s] w fun e w' => e = parE (parseS s) ∧ Below w.heap.size w w' := by
  have h1 := Lib.hid (RdS.start (w := w) hl)
  have hnum := Lib.hid (fun (w' : World) (hi : ParI w' w.heap.size s 0) => number_ok 10 46 #[.pointer (some ⟨w.heap.size + 1 + 1, 0, none⟩), .pointer (some ⟨w.heap.size + 1 + 1 + 1, 0, none⟩)] w.heap.size s.size (fun k w' => ParI w' w.heap.size s k) (stP s) (by omega) (by omega)
    (fun k hk => by
      unfold stP at hk ⊢
      by_cases hkl : k < s.size
      · rw [dif_pos hkl]; exact ⟨hkl, by have := (s[k]).toNat_lt; show (s[k]).toNat - 48 < 256; omega⟩
      · rw [dif_neg hkl] at hk; cases hk) hl (fun w' => in26 _ w') (fun k w' _ hi => parse1_ok w.heap.size k s w' hi) w' hi)
  obtain ⟨R, hR⟩ : ∃ R, parseS s = R := ⟨_, rfl⟩
  rw [hR]
  have HR := Lib.hid hR
  clear hR
  have hmf := @hmf Try.prog
  go_enter Try.func38, Try.ntmps38
  go_wp2_with fail
  refine (readerS_ok s _).mono ?_
  rintro e w' ⟨rfl, rfl⟩
  go_wp2_with fail
  refine (hnum.out _ ⟨(h1.out.below (Below.alloc (Below.refl _ _) (Nat.le_refl _) _) (by simp)).below (Below.alloc (Below.refl _ _) (Nat.le_refl _) _) (by simp), ?_, ?_⟩).mono ?_
  · exact (Bk.here (by simp)).alloc _
  · exact Bk.here (by simp)
  rintro e w' ⟨he, hb⟩
  have hb2 : Below w.heap.size w w' := (by go_grown : Below w.heap.size w _).trans hb
  replace he : e = numE R := he.trans (congrArg numE HR.out)
  rcases R with _ | ⟨n, k⟩
  · simp only [numE] at he
    subst he
    go_wp2
    go_ret2
    exact ⟨rfl, hb2⟩
  · simp only [numE] at he
    subst he
    go_wp2
    go_ret2
    exact ⟨rfl, hb2⟩

end Go.Proofs.Ytmdijhfkobcbjaa
