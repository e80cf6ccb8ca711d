/- num.Get, num.Parse: their contracts. -/
import Derived.Test.YtimhjmeebahdaaaDoorNumb
import Derived.Test.YtimhjmeebahdaaaDoorRdr
namespace Go.Proofs.YtimhjmeebahdaaaDoor
set_option linter.unusedVariables false
set_option linter.unusedSimpArgs false
open Go.RowKit

def stB (l : List UInt8) (k : Nat) : Nat × Bool × Bool := if h : k < l.length then ((l[k]).toNat % 128, decide ((l[k]).toNat < 128), true) else (0, true, false)
/-- The number with which bytes begin, and how many bytes it has. -/
def getS (l : List UInt8) : Option (Nat × Nat) := numS 128 (stB l) (l.length + 1) 0 0

structure GetI (w : World) (g : Nat) (A : Option Addr) (l : List UInt8) (k : Nat) : Prop where
  rd : RdB w g A l k
  next : Bk w (g + 1 + 1) 63 #[.func (.func 40) #[] #[.pointer (some ⟨g + 1, 0, none⟩), .pointer (some ⟨g, 0, none⟩)]]

theorem get1_fin (v : Nat) : Ending.returned (.tuple #[.int .i64 ((v : Int) % 128), .bool (decide ((v : Int) < 128)), .bool true]) = Ending.returned (.tuple #[.int .i64 ((v % 128 : Nat) : Int), .bool (decide (v < 128)), .bool true]) := by
  have e1 : decide ((v : Int) < 128) = decide (v < 128) := decide_eq_decide.2 (by omega)
  rw [e1]; simp

set_option maxHeartbeats 400000 in
theorem get1_ok (g k : Nat) (A : Option Addr) (l : List UInt8) (w : World) (h : GetI w g A l k) :
    Calls Tryd.prog 39 #[.pointer (some ⟨g + 1 + 1, 0, none⟩)] w fun e w' =>
      e = .returned (.tuple #[.int .i64 ((stB l k).1 : Int), .bool (stB l k).2.1, .bool (stB l k).2.2]) ∧ ((stB l k).2.2 = true → GetI w' g A l (k + 1)) ∧ Below g w w' := by
  have c1 : w.cell? ⟨g + 1 + 1, 0, none⟩ = some (.func (.func 40) #[] #[.pointer (some ⟨g + 1, 0, none⟩), .pointer (some ⟨g, 0, none⟩)]) := by rw [h.next.cell]; rfl
  by_cases hk : k < l.length
  · have hc := Lib.hid (readB_more g k A l w h.rd hk)
    have hfin : ∀ w', w' = w.setCell ⟨g + 1, 0, none⟩ (.int .i64 ((k + 1 : Nat) : Int)) → GetI w' g A l (k + 1) ∧ Below g w w' := by
      rintro w' rfl
      exact ⟨⟨h.rd.step hk, h.next.far (by show g + 1 + 1 ≠ g + 1; omega) _⟩, (Below.refl g w).setCell (by show g ≤ g + 1; omega) _⟩
    have HF := Lib.hid hfin
    have hs : stB l k = ((l[k]).toNat % 128, decide ((l[k]).toNat < 128), true) := by simp [stB, hk]
    rw [hs]
    obtain ⟨v, hv⟩ : ∃ v : Nat, v = (l[k]).toNat := ⟨_, rfl⟩
    have hv2 : v < 256 := by rw [hv]; exact (l[k]).toNat_lt
    rw [← hv] at hc ⊢
    clear hfin hs hv h
    go_enter Tryd.func39, Tryd.ntmps39
    go_wp2_with (refine hc.out.mono ?_; rintro e w1 ⟨rfl, hw1⟩; replace hw1 := HF.out _ hw1)
    go_ret3
    exact ⟨get1_fin v, fun _ => hw1.1, hw1.2⟩
  · have hc := Lib.hid (readB_end g k A l w h.rd hk)
    have hs : stB l k = (0, true, false) := by simp [stB, hk]
    rw [hs]
    clear hs h
    go_enter Tryd.func39, Tryd.ntmps39
    go_wp2_with (refine hc.out.mono ?_; rintro e w1 ⟨rfl, rfl⟩)
    go_ret3
    exact ⟨rfl, (fun h => by cases h), Below.refl _ _⟩

theorem in28 (args : Array Value) (w : World) : (callFunc 39 args).run Tryd.prog w = .ok (.enter 39 args) w := goes_in Tryd.func39 (by kernel_rfl) rfl args w

set_option maxHeartbeats 400000 in
theorem get_ok (A : Option Addr) (l : List UInt8) (n c : Nat) (w : World) (h : Rb w w.heap.size A l) (hl : l.length ≤ 140737488355328) (hn : l.length = n) :
    Calls Tryd.prog 33 #[.slice A n c] w fun e w' => e = numE (getS l) ∧ Below w.heap.size w w' := by
  subst hn
  have h1 := Lib.hid (RdB.start (c := c) h hl)
  have hnum := Lib.hid (fun (w' : World) (hi : GetI w' w.heap.size A l 0) => number_ok 128 39 #[.pointer (some ⟨w.heap.size + 1 + 1, 0, none⟩)] w.heap.size l.length (fun k w' => GetI w' w.heap.size A l k) (stB l) (by omega) (by omega)
    (fun k hk => by
      unfold stB at hk ⊢
      by_cases hkl : k < l.length
      · rw [dif_pos hkl]; exact ⟨hkl, by show (l[k]).toNat % 128 < 256; omega⟩
      · rw [dif_neg hkl] at hk; cases hk) hl (fun w' => in28 _ w') (fun k w' _ hi => (get1_ok w.heap.size k A l w' hi).mono fun e w2 ⟨h1, h2, h3⟩ => ⟨_, _, h1, (fun h => ⟨rfl, rfl, h2 h⟩), h3⟩) w' hi)
  obtain ⟨R, hR⟩ : ∃ R, getS l = R := ⟨_, rfl⟩
  rw [hR]
  have HR := Lib.hid hR
  clear hR
  have hmf := @hmf Tryd.prog
  go_enter Tryd.func33, Tryd.ntmps33
  go_wp2_with fail
  refine (readerB_ok A l.length c _).mono ?_
  rintro e w' ⟨rfl, rfl⟩
  go_wp2_with fail
  refine (hnum.out _ ⟨h1.out.below (Below.alloc (Below.refl _ _) (Nat.le_refl _) _) (by simp), ?_⟩).mono ?_
  · have := Bk.new ((w.alloc (.cells #[.slice A l.length c] 24)).alloc (.cells #[.int .i64 0] 3)) 63 #[.func (.func 40) #[] #[.pointer (some ⟨w.heap.size + 1, 0, none⟩), .pointer (some ⟨w.heap.size, 0, none⟩)]]
    simpa using this
  rintro e w' ⟨he, hb⟩
  have hb2 : Below w.heap.size w w' := (by go_grown : Below w.heap.size w _).trans hb
  replace he : e = numE R := he.trans (congrArg numE HR.out)
  rcases R with _ | ⟨n, k⟩
  · simp only [numE] at he
    subst he
    go_wp2
    go_ret3
    exact ⟨rfl, hb2⟩
  · simp only [numE] at he
    subst he
    go_wp2
    go_ret3
    exact ⟨rfl, hb2⟩

end Go.Proofs.YtimhjmeebahdaaaDoor
