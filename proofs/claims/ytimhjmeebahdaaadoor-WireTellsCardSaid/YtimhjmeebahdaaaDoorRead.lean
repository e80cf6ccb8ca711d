/- num.Read: its contract. -/
import Derived.Test.YtimhjmeebahdaaaDoorRdr
namespace Go.Proofs.YtimhjmeebahdaaaDoor
set_option linter.unusedVariables false
set_option linter.unusedSimpArgs false
open Go.RowKit

/-- The text with which bytes begin. -/
def readS : List UInt8 → Option (List UInt8)
  | [] => none
  | c :: r => if c.toNat ≤ r.length then some (r.take c.toNat) else none

def readE : Option (List UInt8) → Ending
  | some t => .returned (.tuple #[.string ⟨t.toArray⟩, .int .i64 (1 + (t.length : Int)), .bool true])
  | none => .returned (.tuple #[.string ⟨#[]⟩, .int .i64 0, .bool false])

/-- The cells of which the first j are read. -/
def rcells (l : List UInt8) (m j : Nat) : Array Value := ((List.range m).map fun i => Value.int .u8 (if i < j then ((l.getD (1 + i) 0).toNat : Int) else 0)).toArray

theorem rcells_none (l : List UInt8) (m : Nat) : rcells l m 0 = Array.replicate m (.int .u8 0) := by
  apply Array.ext
  · simp [rcells]
  · intro i h1 h2
    simp [rcells]
theorem rcells_at (l : List UInt8) (m j i : Nat) (h : i < m) : ∃ v : Int, (rcells l m j)[i]? = some (.int .u8 v) := by
  exact ⟨if i < j then ((l.getD (1 + i) 0).toNat : Int) else 0, by simp [rcells, h]⟩
theorem rcells_set (l : List UInt8) (m j : Nat) (v : Int) (h : j < m) (hv : v = ((l.getD (1 + j) 0).toNat : Int)) : (rcells l m j).setIfInBounds j (.int .u8 v) = rcells l m (j + 1) := by
  subst hv
  apply Array.ext
  · simp [rcells]
  · intro i h1 h2
    have hi : i < m := by simpa [rcells] using h2
    rw [Array.getElem_setIfInBounds (by simpa [rcells] using hi)]
    by_cases he : j = i
    · subst he
      simp [rcells]
    · rw [if_neg he]
      have : (i < j) ↔ (i < j + 1) := by omega
      simp [rcells, this]
theorem rcells_all (c : UInt8) (r : List UInt8) (m : Nat) (h : m ≤ r.length) : rcells (c :: r) m m = bcells (r.take m) := by
  apply Array.ext
  · simp [rcells, bcells, h]
  · intro i h1 h2
    have hi : i < m := by simpa [rcells] using h1
    have e : 1 + i = i + 1 := by omega
    have hr : i < r.length := by omega
    simp [rcells, bcells, hi, e, hr]

theorem bytesInfo' : (Tryd.prog.info? 5).map (fun i => (i.zero, i.size, i.bytes)) = some (some (.int .u8 0), 1, 1) := by kernel_rfl

/-- One byte is read, and stored. -/
theorem read_step {wr : World} {g G m j v : Nat} {A : Option Addr} {l : List UInt8} (hR : RdB wr g A l (1 + j)) (hB : Bk wr G 5 (rcells l m j)) (hG : g + 2 ≤ G) (hj : 1 + j < l.length) (hm : j < m) (hv : (v : Int) = ((l.getD (1 + j) 0).toNat : Int)) :
    RdB ((wr.setCell ⟨g + 1, 0, none⟩ (.int .i64 (1 + (j : Int) + 1))).setCell ⟨G, j, none⟩ (.int .u8 (v : Int))) g A l (1 + j + 1) ∧
    Bk ((wr.setCell ⟨g + 1, 0, none⟩ (.int .i64 (1 + (j : Int) + 1))).setCell ⟨G, j, none⟩ (.int .u8 (v : Int))) G 5 (rcells l m (j + 1)) ∧
    Below g wr ((wr.setCell ⟨g + 1, 0, none⟩ (.int .i64 (1 + (j : Int) + 1))).setCell ⟨G, j, none⟩ (.int .u8 (v : Int))) := by
  have e : (1 + (j : Int) + 1) = ((1 + j + 1 : Nat) : Int) := by omega
  rw [e]
  refine ⟨(hR.step hj).below (B := g + 2) ((Below.refl _ _).setCell (by show g + 2 ≤ G; omega) _) (by omega), ?_, ((Below.refl g wr).setCell (by show g ≤ g + 1; omega) _).setCell (by show g ≤ G; omega) _⟩
  have := (hB.far (p := ⟨g + 1, 0, none⟩) (by show G ≠ g + 1; omega) (.int .i64 ((1 + j + 1 : Nat) : Int))).set j (.int .u8 (v : Int))
  rwa [rcells_set l m j _ hm hv] at this

/-- There is none to read: a 0 is stored. -/
theorem read_none {wr : World} {g G m j k : Nat} {A : Option Addr} {l : List UInt8} (hR : RdB wr g A l k) (hB : Bk wr G 5 (rcells l m j)) (hG : g + 2 ≤ G) (hj : ¬ 1 + j < l.length) (hm : j < m) :
    RdB (wr.setCell ⟨G, j, none⟩ (.int .u8 0)) g A l k ∧ Bk (wr.setCell ⟨G, j, none⟩ (.int .u8 0)) G 5 (rcells l m (j + 1)) ∧ Below g wr (wr.setCell ⟨G, j, none⟩ (.int .u8 0)) := by
  refine ⟨hR.below (B := g + 2) ((Below.refl _ _).setCell (by show g + 2 ≤ G; omega) _) (by omega), ?_, (Below.refl g wr).setCell (by show g ≤ G; omega) _⟩
  have := hB.set j (.int .u8 0)
  rwa [rcells_set l m j _ hm (by simp [List.getD, hj])] at this

set_option maxHeartbeats 1000000 in
theorem read_ok (A : Option Addr) (l : List UInt8) (n c : Nat) (w : World) (h : Rb w w.heap.size A l) (hl : l.length ≤ 140737488355328) (hn : l.length = n) :
    Calls Tryd.prog 31 #[.slice A n c] w fun e w' => e = readE (readS l) ∧ Below w.heap.size w w' := by
  subst hn
  have h1 := Lib.hid (RdB.start (c := c) h hl)
  obtain ⟨R, hR⟩ : ∃ R, readS l = R := ⟨_, rfl⟩
  rw [hR]
  have HR := Lib.hid hR
  clear hR
  have hmk0 : ∀ w' : World, (Instr.makeSlice 24 (.int .u8 0) (.int .u8 0)).run Tryd.prog w' = .ok (.slice (some ⟨w'.heap.size, 0, none⟩) 0 0) (w'.alloc (.cells #[] 5)) :=
    fun w' => mk_bytes (P := Tryd.prog) w' 24 5 Tryd.underlying24 bytesInfo' 0 (by omega) #[] rfl .u8 .u8
  cases l with
  | nil =>
    go_enter Tryd.func31, Tryd.ntmps31
    go_wp2_with fail
    refine (readerB_ok A 0 c _).mono ?_
    rintro e w' ⟨rfl, rfl⟩
    go_wp2_with fail
    refine (readB_end w.heap.size 0 A [] _ h1.out (by simp)).mono ?_
    rintro e w' ⟨rfl, rfl⟩
    go_wp2_with fail
    go_rounds 1
    go_ret3
    refine ⟨by rw [← HR.out]; rfl, by go_grown⟩
  | cons b r =>
    obtain ⟨m, hm⟩ : ∃ m, m = b.toNat := ⟨_, rfl⟩
    have hm2 : m < 256 := by rw [hm]; exact b.toNat_lt
    have hmk := fun w' : World => mk_bytes (P := Tryd.prog) w' 24 5 Tryd.underlying24 bytesInfo' m (by omega) (rcells (b :: r) m 0) (rcells_none (b :: r) m) .u8 .u8
    have hfirst := Lib.hid (readB_more w.heap.size 0 A (b :: r) _ h1.out (by simp))
    obtain ⟨l, hl2⟩ : ∃ l, l = b :: r := ⟨_, rfl⟩
    have hll := Lib.hid (show l.length = r.length + 1 by rw [hl2]; rfl)
    have h2 := Lib.hid (h1.out.step (by simp))
    rw [← hl2] at h h1 hl hmk h2 ⊢
    have HR2 := Lib.hid (show R = if m ≤ r.length then some (r.take m) else none by rw [← HR.out, hm]; rfl)
    have hall := Lib.hid (fun h : m ≤ r.length => show rcells l m m = bcells (r.take m) by rw [hl2]; exact rcells_all b r m h)
    have HL := Lib.hid hl2
    replace hfirst := Lib.hid (show Calls _ _ _ _ _ from (by have := hfirst.out; simp only [List.getElem_cons_zero] at this; rw [← hm, ← hl2] at this; exact this))
    clear hm HR hl2
    go_enter Tryd.func31, Tryd.ntmps31
    go_wp2_with fail
    refine (readerB_ok A _ c _).mono ?_
    rintro e w' ⟨rfl, rfl⟩
    go_wp2_with fail
    refine hfirst.out.mono ?_
    rintro e w1 ⟨rfl, hw1⟩
    have hrd : RdB w1 w.heap.size A l 1 := by rw [hw1]; exact h2.out
    have hb1 : Below w.heap.size w w1 := by rw [hw1]; go_grown
    have hG : w.heap.size + 2 ≤ w1.heap.size := by rw [hw1]; simp
    clear hw1 h1 h2 hfirst
    have HRD := Lib.hid hrd
    clear hrd
    go_wp2_with fail
    have hB0 : Bk (w1.alloc (.cells (rcells l m 0) 5)) w1.heap.size 5 (rcells l m 0) := Bk.new _ _ _
    have hrd0 := Lib.hid (HRD.out.below (Below.alloc (Below.refl _ _) (Nat.le_refl _) (.cells (rcells l m 0) 5)) hG)
    have hb0 : Below w.heap.size w (w1.alloc (.cells (rcells l m 0) 5)) := hb1.alloc (by omega) _
    generalize hw2 : w1.alloc (.cells (rcells l m 0) 5) = w2 at hB0 hrd0 hb0 ⊢
    generalize hGe : w1.heap.size = G at hB0 hG ⊢
    clear hw2 hGe HRD hb1 hmk hmk0 HL h
    have HB0 := Lib.hid hB0
    clear hB0
    go_loopw [7, 21] (fun v7 v21 wr => ∃ (j k : Nat) (is : Bool), j ≤ m ∧ v21 = .int .i64 j ∧ v7 = .bool is ∧ Hid (is = decide (j + 1 ≤ l.length)) ∧ Hid (k = min (1 + j) l.length) ∧ Hid (RdB wr w.heap.size A l k) ∧ Hid (Bk wr G 5 (rcells l m j)) ∧ Below w.heap.size w wr) (fun _ v21 _ => m - (intOf v21).toNat)
    case atStart => exact ⟨0, 1, true, by omega, rfl, rfl, Lib.hid (by have := hll.out; simp; omega), Lib.hid (by have := hll.out; omega), hrd0, HB0, hb0⟩
    case round =>
      obtain ⟨j, k, is, hj, rfl, rfl, His, Hk, HR, HB, hbel⟩ := hrel
      clear HB0 hrd0 hb0
      by_cases hjm : j < m
      · have hne : G ≠ w.heap.size + 1 := by omega
        by_cases hjl : 1 + j < l.length
        · have hk : k = 1 + j := by have := Hk.out; omega
          subst hk
          have hcall := Lib.hid (readB_more w.heap.size (1 + j) A l wr HR.out hjl)
          obtain ⟨v0, hold⟩ := rcells_at l m j j hjm
          have c1 : ∀ u, (wr.setCell ⟨w.heap.size + 1, 0, none⟩ u).cell? ⟨G, j, none⟩ = some (.int .u8 v0) := fun u => by rw [(HB.out.far (p := ⟨w.heap.size + 1, 0, none⟩) hne u).cell, hold]
          have f1 : ∀ u, (wr.setCell ⟨w.heap.size + 1, 0, none⟩ u).frozen? ⟨G, j, none⟩ = false := fun u => (HB.out.far (p := ⟨w.heap.size + 1, 0, none⟩) hne u).frozen j
          obtain ⟨v, hv⟩ : ∃ v : Nat, v = (l[1 + j]).toNat := ⟨_, rfl⟩
          rw [← hv] at hcall
          have Hv := Lib.hid (show (v : Int) = ((l.getD (1 + j) 0).toNat : Int) by rw [hv]; simp [List.getD, hjl])
          clear hv
          go_wp2_with (refine hcall.out.mono ?_; rintro e w3 ⟨rfl, hw3⟩; subst hw3)
          go_roundw
          case rel =>
            have S := read_step HR.out HB.out hG hjl hjm Hv.out
            exact ⟨j + 1, 1 + j + 1, true, by omega, by go_num, rfl, Lib.hid (by simp; omega), Lib.hid (by omega), Lib.hid S.1, Lib.hid S.2.1, hbel.trans S.2.2⟩
          case measure => simp [intOf]; omega
        · have hk : k = l.length := by have := Hk.out; omega
          have hcall := Lib.hid (readB_end w.heap.size k A l wr HR.out (by omega))
          obtain ⟨v0, hold⟩ := rcells_at l m j j hjm
          have c1 : wr.cell? ⟨G, j, none⟩ = some (.int .u8 v0) := by rw [HB.out.cell, hold]
          have f1 : wr.frozen? ⟨G, j, none⟩ = false := HB.out.frozen j
          have Hk2 := Lib.hid hk
          clear hk
          go_wp2_with (refine hcall.out.mono ?_; rintro e w3 ⟨rfl, rfl⟩)
          go_roundw
          case rel =>
            have S := read_none HR.out HB.out hG hjl hjm
            exact ⟨j + 1, k, false, by omega, by go_num, rfl, Lib.hid (by simp; omega), Lib.hid (by have := Hk2.out; omega), Lib.hid S.1, Lib.hid S.2.1, hbel.trans S.2.2⟩
          case measure => simp [intOf]; omega
      · have hjm2 : j = m := by omega
        by_cases hmr : m ≤ r.length
        · have his : is = true := by rw [His.out, hjm2, hll.out]; simp; omega
          have hR : R = some (r.take m) := by rw [HR2.out, if_pos hmr]
          have hlen : (r.take m).length = m := by simp; omega
          have hst := str_of (P := Tryd.prog) (w := wr) (Rb.bk (t := 5) (g := G) (l := r.take m) (by have := HB.out; rw [hjm2, hall.out hmr] at this; exact this)) 24 5 9 Tryd.underlying24 Tryd.underlying5 Tryd.underlying9 m m hlen
          generalize htl : r.take m = tl at hst hR hlen
          have HRS := Lib.hid hR
          have HLEN := Lib.hid hlen
          have HJ := Lib.hid hjm2
          subst his
          clear hR hlen hjm2 htl HR2 hall
          go_wp2
          go_ret3
          exact ⟨by rw [HRS.out, readE, HLEN.out]; rfl, hbel⟩
        · have his : is = false := by rw [His.out, hjm2, hll.out]; simp; omega
          have hR := Lib.hid (show R = none by rw [HR2.out, if_neg hmr])
          have HJ := Lib.hid hjm2
          subst his
          clear hjm2 HR2 hall
          go_wp2
          go_ret3
          exact ⟨by rw [hR.out]; rfl, hbel⟩

end Go.Proofs.YtimhjmeebahdaaaDoor
