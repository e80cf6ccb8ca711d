/- num.reader: what it makes, and what each call of that tells. -/
import Derived.Test.YtimhjmeebahdaaaDoorRows
import Derived.Test.YtimhjmeebahdaaaDoorHmf
namespace Go.Proofs.YtimhjmeebahdaaaDoor
set_option linter.unusedVariables false
set_option linter.unusedSimpArgs false
open Go.RowKit

/-- The reader's variables: how far it is, and what it reads. -/
structure RdB (w : World) (g : Nat) (A : Option Addr) (l : List UInt8) (k : Nat) : Prop where
  pos : Bk w (g + 1) 3 #[.int .i64 k]
  from_ : ∃ c, Bk w g 24 #[.slice A l.length c]
  bytes : Rb w g A l
  size : l.length ≤ 140737488355328
  le : k ≤ l.length

set_option maxHeartbeats 400000 in
theorem readerB_ok (A : Option Addr) (n c : Nat) (w : World) :
    Calls Tryd.prog 36 #[.slice A n c] w fun e w' => e = .returned (.func (.func 40) #[] #[.pointer (some ⟨w.heap.size + 1, 0, none⟩), .pointer (some ⟨w.heap.size, 0, none⟩)]) ∧
      w' = (w.alloc (.cells #[.slice A n c] 24)).alloc (.cells #[.int .i64 0] 3) := by
  have h := @hmf Tryd.prog
  go_enter Tryd.func36, Tryd.ntmps36
  go_wp2
  go_ret
  exact ⟨rfl, rfl⟩

theorem RdB.start {w : World} {A : Option Addr} {l : List UInt8} {c : Nat} (h : Rb w w.heap.size A l) (hl : l.length ≤ 140737488355328) :
    RdB ((w.alloc (.cells #[.slice A l.length c] 24)).alloc (.cells #[.int .i64 0] 3)) w.heap.size A l 0 := by
  have b1 : Bk (w.alloc (.cells #[.slice A l.length c] 24)) w.heap.size 24 _ := Bk.new w _ _
  have b2 : Bk ((w.alloc (.cells #[.slice A l.length c] 24)).alloc (.cells #[.int .i64 0] 3)) (w.heap.size + 1) 3 #[.int .i64 0] := by
    have := Bk.new (w.alloc (.cells #[.slice A l.length c] 24)) 3 #[.int .i64 0]
    simpa using this
  exact ⟨b2, ⟨c, b1.alloc _⟩, h.below (by go_grown : Below w.heap.size w _) (by omega), hl, by omega⟩

theorem RdB.step {w : World} {g k : Nat} {A : Option Addr} {l : List UInt8} (h : RdB w g A l k) (hk : k < l.length) : RdB (w.setCell ⟨g + 1, 0, none⟩ (.int .i64 ((k + 1 : Nat) : Int))) g A l (k + 1) := by
  obtain ⟨c, hc⟩ := h.from_
  exact ⟨h.pos.set 0 _, ⟨c, hc.far (by show g ≠ g + 1; omega) _⟩, h.bytes.below ((Below.refl g w).setCell (by show g ≤ g + 1; omega) _) (by omega), h.size, by omega⟩

theorem RdB.below {w w' : World} {g k B : Nat} {A : Option Addr} {l : List UInt8} (h : RdB w g A l k) (hb : Below B w w') (hB : g + 2 ≤ B) : RdB w' g A l k := by
  obtain ⟨c, hc⟩ := h.from_
  exact ⟨h.pos.below hb (by omega), ⟨c, hc.below hb (by omega)⟩, h.bytes.below hb (by omega), h.size, h.le⟩

set_option maxHeartbeats 400000 in
theorem readB_more (g k : Nat) (A : Option Addr) (l : List UInt8) (w : World) (h : RdB w g A l k) (hk : k < l.length) :
    Calls Tryd.prog 40 #[.pointer (some ⟨g + 1, 0, none⟩), .pointer (some ⟨g, 0, none⟩)] w fun e w' =>
      e = .returned (.tuple #[.int .u8 ((l[k]).toNat : Int), .bool true]) ∧ w' = w.setCell ⟨g + 1, 0, none⟩ (.int .i64 ((k + 1 : Nat) : Int)) := by
  obtain ⟨c, hc⟩ := h.from_
  have hsz := h.size
  rcases h.bytes with h0 | ⟨b, o, rfl, hb, hcell⟩
  · subst h0; simp at hk
  have c1 : w.cell? ⟨g + 1, 0, none⟩ = some (.int .i64 k) := by rw [h.pos.cell]; rfl
  have c2 : w.cell? ⟨g, 0, none⟩ = some (.slice (some ⟨b, o, none⟩) l.length c) := by rw [hc.cell]; rfl
  have c3 : w.cell? ⟨b, o + k, none⟩ = some (.int .u8 ((l[k]).toNat : Int)) := hcell k hk
  have f1 : w.frozen? ⟨g + 1, 0, none⟩ = false := h.pos.frozen 0
  have hne : ((k : Int) == (l.length : Int)) = false := by simp; omega
  obtain ⟨L, hL⟩ : ∃ L, L = l.length := ⟨_, rfl⟩
  obtain ⟨v, hv⟩ : ∃ v : Nat, v = (l[k]).toNat := ⟨_, rfl⟩
  rw [← hv] at c3 ⊢
  rw [← hL] at c2 hsz hk hne
  clear hv hL hcell hc h
  go_enter Tryd.func40, Tryd.ntmps40
  go_wp2
  go_ret2
  exact ⟨rfl, by go_num⟩

set_option maxHeartbeats 400000 in
theorem readB_end (g k : Nat) (A : Option Addr) (l : List UInt8) (w : World) (h : RdB w g A l k) (hk : ¬ k < l.length) :
    Calls Tryd.prog 40 #[.pointer (some ⟨g + 1, 0, none⟩), .pointer (some ⟨g, 0, none⟩)] w fun e w' =>
      e = .returned (.tuple #[.int .u8 0, .bool false]) ∧ w = w' := by
  obtain ⟨c, hc⟩ := h.from_
  have hsz := h.size
  have hle := h.le
  have c1 : w.cell? ⟨g + 1, 0, none⟩ = some (.int .i64 k) := by rw [h.pos.cell]; rfl
  have c2 : w.cell? ⟨g, 0, none⟩ = some (.slice A l.length c) := by rw [hc.cell]; rfl
  have hne : ((k : Int) == (l.length : Int)) = true := by simp; omega
  obtain ⟨L, hL⟩ : ∃ L, L = l.length := ⟨_, rfl⟩
  rw [← hL] at c2 hsz hk hne hle
  clear hL hc h
  go_enter Tryd.func40, Tryd.ntmps40
  go_wp2
  go_ret2
  exact ⟨rfl, rfl⟩

end Go.Proofs.YtimhjmeebahdaaaDoor
