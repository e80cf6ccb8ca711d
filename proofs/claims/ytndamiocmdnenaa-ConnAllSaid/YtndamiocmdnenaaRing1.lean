/- A ring in memory; Many, Room, place, New: their contracts. -/
import Derived.Test.YtndamiocmdnenaaRingM
import Derived.Test.YtndamiocmdnenaaKe
import Derived.Test.YtndamiocmdnenaaHere
import Derived.Deep.Cut
namespace Go.Proofs.Ytndamiocmdnenaa
set_option linter.unusedVariables false
set_option maxRecDepth 100000
set_option linter.unusedSimpArgs false
open Go.RowKit

theorem bytesInfo : (Try.prog.info? 5).map (fun i => (i.zero, i.size, i.bytes)) = some (some (.int .u8 0), 1, 1) := by kernel_rfl

/-- The ring's own cells: its row lies at g, of m bytes; f is the first one's place, k wait. -/
abbrev rcells (g m f k : Nat) : Array Value := #[.slice (some ⟨g, 0, none⟩) m m, .int .i64 (f : Int), .int .i64 (k : Int)]

/-- At r lies a ring, its row at g, of at most m bytes; the bytes q wait. -/
structure Rg (u : World) (r g m : Nat) (q : List UInt8) : Prop where
  ne : r ≠ g
  most : m ≤ 65536
  ex : ∃ row f, row.length = m ∧ Rd row f q ∧ Bk u g 5 (bcells row) ∧ Bk u r 95 (rcells g m f q.length)

theorem Rg.ke {u u' : World} {r g m : Nat} {q : List UInt8} {L : List Nat} (h : Rg u r g m q) (k : Ke L u u') (hr : r ∉ L) (hg : g ∉ L) : Rg u' r g m q := by
  obtain ⟨h1, h2, row, f, h3, h4, h5, h6⟩ := h
  exact ⟨h1, h2, row, f, h3, h4, h5.ke k hg, h6.ke k hr⟩
theorem Rg.lt {u : World} {r g m : Nat} {q : List UInt8} (h : Rg u r g m q) : r < u.heap.size ∧ g < u.heap.size := by
  obtain ⟨_, _, row, f, _, _, h5, h6⟩ := h
  exact ⟨h6.lt, h5.lt⟩
theorem Rg.fit {u : World} {r g m : Nat} {q : List UInt8} (h : Rg u r g m q) : q.length ≤ m := by
  obtain ⟨_, _, row, f, h3, h4, _⟩ := h
  rw [← h3]; exact h4.fit
theorem Rg.drew {u : World} {r g m : Nat} {q : List UInt8} (h : Rg u r g m q) : Rg u.drew r g m q := h.ke (L := []) (Ke.refl _ _).drew (by simp) (by simp)

theorem ring_cells {u : World} {r g m f k : Nat} {t : TypeId} (h : Bk u r t (rcells g m f k)) :
    u.cell? ⟨r, 0, none⟩ = some (.slice (some ⟨g, 0, none⟩) m m) ∧ u.cell? ⟨r, 1, none⟩ = some (.int .i64 (f : Int)) ∧ u.cell? ⟨r, 2, none⟩ = some (.int .i64 (k : Int)) :=
  ⟨by rw [h.cell]; rfl, by rw [h.cell]; rfl, by rw [h.cell]; rfl⟩

/-- Many. -/
theorem many_ok (r g m : Nat) (q : List UInt8) (u : World) (h : Rg u r g m q) :
    Calls Try.prog 47 #[.pointer (some ⟨r, 0, none⟩)] u fun e u' => e = .returned (.int .i64 (q.length : Int)) ∧ u' = u := by
  obtain ⟨_, _, row, f, _, _, _, h6⟩ := h
  obtain ⟨c0, c1, c2⟩ := ring_cells h6
  clear h6
  obtain ⟨k, hk⟩ : ∃ k, q.length = k := ⟨_, rfl⟩
  rw [hk] at c2 ⊢
  go_enter Try.func47, Try.ntmps47
  go_wp2
  go_ret
  exact ⟨rfl, rfl⟩

/-- Where that one stands. -/
theorem place_ok (r g m f k a : Nat) (u : World) (t : TypeId) (h : Bk u r t (rcells g m f k)) (hf : f ≤ 65536) (ha : a ≤ 65536) (hm : m ≤ 65536) :
    Calls Try.prog 72 #[.pointer (some ⟨r, 0, none⟩), .int .i64 (a : Int)] u fun e u' => e = .returned (.int .i64 (plc m (f + a) : Nat)) ∧ u' = u := by
  obtain ⟨c0, c1, c2⟩ := ring_cells h
  obtain ⟨s, hs⟩ : ∃ s, s = f + a := ⟨_, rfl⟩
  obtain ⟨y1, y2⟩ := iwrap ((f : Int) + (a : Int)) s (by omega) (by omega)
  rw [← hs]
  clear h
  by_cases hms : m ≤ s
  · have h1 : (m : Int) ≤ (s : Int) := by omega
    have hp : plc m s = s - m := if_pos hms
    rw [hp]
    obtain ⟨d, hd⟩ : ∃ d, d = s - m := ⟨_, rfl⟩
    obtain ⟨z1, z2⟩ := iwrap ((s : Int) - (m : Int)) d (by omega) (by omega)
    rw [← hd]
    clear hd hs hp hms
    go_enter Try.func72, Try.ntmps72
    go_wp2
    go_ret
    exact ⟨rfl, rfl⟩
  · have h1 : ¬ ((m : Int) ≤ (s : Int)) := by omega
    have hp : plc m s = s := if_neg hms
    rw [hp]
    clear hs hp hms
    go_enter Try.func72, Try.ntmps72
    go_wp2
    go_ret
    exact ⟨rfl, rfl⟩

/-- How many there may be. -/
def mostM (x : Int) : Nat := (min (max x 0) 65536).toNat

theorem replicate_bcells (m : Nat) : Array.replicate m (Value.int .u8 0) = bcells (List.replicate m 0) := by
  apply Array.ext'
  simp [bcells]

/-- What New leaves. -/
theorem new_left (m : Nat) (hm : m ≤ 65536) (u : World) : Rg ((u.alloc (.cells (bcells (List.replicate m 0)) 5)).alloc (.cells #[.slice (some ⟨u.heap.size, 0, none⟩) m m, .int .i64 0, .int .i64 0] 95)) (u.heap.size + 1) u.heap.size m [] ∧
    Ke [] u ((u.alloc (.cells (bcells (List.replicate m 0)) 5)).alloc (.cells #[.slice (some ⟨u.heap.size, 0, none⟩) m m, .int .i64 0, .int .i64 0] 95)) := by
  refine ⟨⟨by omega, hm, List.replicate m 0, 0, by simp, Rd.new m, ?_, ?_⟩, ((Ke.refl [] u).alloc _).alloc _⟩
  · exact (Bk.new u _ _).alloc _
  · exact Bk.here (by simp)

set_option maxHeartbeats 2000000 in
/-- New. -/
theorem new_ok (x : Int) (u : World) :
    Calls Try.prog 70 #[.int .i64 x] u fun e u' => e = .returned (.pointer (some ⟨u.heap.size + 1, 0, none⟩)) ∧ Rg u' (u.heap.size + 1) u.heap.size (mostM x) [] ∧ Ke [] u u' := by
  have HM := fun (m : Nat) (hm : m ≤ 65536) u => mk_bytes (P := Try.prog) u 28 5 Try.underlying28 bytesInfo m (by omega) _ (replicate_bcells m).symm
  by_cases h0 : x < 0
  · have HM0 := HM 0 (by omega)
    simp only [Int.natCast_zero] at HM0
    have HN := Lib.hid (new_left 0 (by omega) u)
    have hm : mostM x = 0 := by unfold mostM; omega
    rw [hm]
    clear HM hm
    go_enter Try.func70, Try.ntmps70
    go_wp2
    go_ret
    exact ⟨rfl, HN.out⟩
  · by_cases h1 : 65536 < x
    · have HM0 := HM 65536 (by omega)
      simp only [show ((65536 : Nat) : Int) = 65536 from rfl] at HM0
      have HN := Lib.hid (new_left 65536 (by omega) u)
      have hm : mostM x = 65536 := by unfold mostM; omega
      rw [hm]
      clear HM hm
      obtain ⟨b, hb⟩ : ∃ b, bcells (List.replicate 65536 0) = b := ⟨_, rfl⟩
      rw [hb] at HM0 HN
      clear hb
      go_enter Try.func70, Try.ntmps70
      go_wp2
      go_ret
      exact ⟨rfl, HN.out⟩
    · obtain ⟨m, rfl⟩ : ∃ m : Nat, x = (m : Int) := ⟨x.toNat, by omega⟩
      have hm6 : m ≤ 65536 := by omega
      have HM0 := HM m hm6
      have HN := Lib.hid (new_left m hm6 u)
      have hm : mostM (m : Int) = m := by unfold mostM; omega
      have h2 : (m : Int) ≤ 65536 := by omega
      rw [hm]
      clear HM hm h0 h1
      obtain ⟨b, hb⟩ : ∃ b, bcells (List.replicate m 0) = b := ⟨_, rfl⟩
      rw [hb] at HM0 HN
      clear hb
      go_enter Try.func70, Try.ntmps70
      go_wp2
      go_ret
      exact ⟨rfl, HN.out⟩
end Go.Proofs.Ytndamiocmdnenaa
