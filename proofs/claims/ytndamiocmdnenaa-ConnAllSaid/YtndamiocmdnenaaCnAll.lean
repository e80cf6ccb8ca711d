/- All connections that were opened, and not closed; a row of bools. Plain but for the last. -/
import Derived.Test.YtndamiocmdnenaaCnX
import Derived.Test.YtndamiocmdnenaaCnNone
namespace Go.Proofs.Ytndamiocmdnenaa
set_option linter.unusedVariables false
set_option maxRecDepth 100000
set_option linter.unusedSimpArgs false
open Go.RowKit

def fA (xs : List Int) (j : Nat) : Int × Cn := (((j + 1 : Nat) : Int), cn0 (xs.getD j 0))
/-- Of the first i that were opened those that are not gone. -/
def lG (g : List Bool) (i : Nat) : List Nat := (List.range i).filter (fun j => !(g.getD (j + 1) false))
def tG (xs : List Int) (g : List Bool) (i : Nat) : Tc := ⟨(lG g i).map (fA xs), i⟩
theorem lG_new {g : List Bool} {i : Nat} : lG g (i + 1) = lG g i ++ (if g.getD (i + 1) false = true then [] else [i]) := by
  unfold lG
  rw [List.range_succ, List.filter_append]
  congr 1
  rw [List.filter_cons, List.filter_nil]
  cases h : g.getD (i + 1) false <;> rfl
theorem mem_lG {g : List Bool} {i j : Nat} : j ∈ lG g i ↔ j < i ∧ g.getD (j + 1) false = false := by
  unfold lG
  rw [List.mem_filter, List.mem_range]
  simp
theorem lG_len (g : List Bool) (i : Nat) : (lG g i).length ≤ i := by
  unfold lG
  refine Nat.le_trans (List.length_filter_le _ _) ?_
  rw [List.length_range]
  exact Nat.le_refl _
theorem fn_fA (xs : List Int) (l : List Nat) (j : Nat) : fnC (l.map (fA xs)) ((j + 1 : Nat) : Int) = if j ∈ l then some (cn0 (xs.getD j 0)) else none := by
  induction l with
  | nil => rfl
  | cons k l ih =>
    rw [List.map_cons, fn_cons, ih]
    by_cases h : k = j
    · subst h
      rw [if_pos (show (fA xs k).1 = ((k + 1 : Nat) : Int) from rfl), if_pos (List.mem_cons_self ..)]
      rfl
    · have hne : ¬ (fA xs k).1 = ((j + 1 : Nat) : Int) := fun e => h (by have : ((k + 1 : Nat) : Int) = ((j + 1 : Nat) : Int) := e; omega)
      rw [if_neg hne]
      by_cases h2 : j ∈ l
      · rw [if_pos h2, if_pos (List.mem_cons_of_mem _ h2)]
      · rw [if_neg h2, if_neg (fun e => (List.mem_cons.1 e).elim (fun e => h e.symm) h2)]
theorem fn_fA0 (xs : List Int) (l : List Nat) : fnC (l.map (fA xs)) 0 = none := fn_none.2 (fun p hp e => by
  obtain ⟨k, _, rfl⟩ := List.mem_map.1 hp
  have : ((k + 1 : Nat) : Int) = 0 := e
  omega)
theorem tG_open (xs : List Int) (i : Nat) (hi : i < 60) (h : i < xs.length) : opC (tG xs [] i) (xs.getD i 0) = ((((i + 1 : Nat) : Int), 0), tG xs [] (i + 1)) := by
  unfold opC
  have hl : (tG xs [] i).l.length ≤ i := by show ((lG [] i).map (fA xs)).length ≤ i; rw [List.length_map]; exact lG_len _ _
  rw [if_neg (by omega)]
  refine Prod.ext rfl ?_
  show (⟨(lG [] i).map (fA xs) ++ [(((i + 1 : Nat) : Int), cn0 (xs.getD i 0))], i + 1⟩ : Tc) = ⟨(lG [] (i + 1)).map (fA xs), i + 1⟩
  rw [lG_new, List.map_append]
  rfl
theorem getD_set {g : List Bool} {i j : Nat} {b : Bool} (hi : i < g.length) : (g.set i b).getD j false = if i = j then b else g.getD j false := by
  rw [List.getD_eq_getElem?_getD, List.getD_eq_getElem?_getD, List.getElem?_set]
  by_cases h : i = j
  · rw [if_pos h, if_pos h, if_pos (by omega)]; rfl
  · rw [if_neg h, if_neg h]
theorem lG_set {g : List Bool} {i j : Nat} (hj : j + 1 < g.length) : lG (g.set (j + 1) true) i = (lG g i).filter (fun x => decide (x ≠ j)) := by
  unfold lG
  rw [List.filter_filter]
  refine List.filter_congr fun x _ => ?_
  rw [getD_set hj]
  by_cases h : j = x
  · subst h; simp
  · rw [if_neg (by omega)]
    have : decide (x ≠ j) = true := decide_eq_true (fun e => h e.symm)
    rw [this, Bool.true_and]
theorem lG_set0 {g : List Bool} {i : Nat} (h0 : 0 < g.length) : lG (g.set 0 true) i = lG g i := by
  unfold lG
  refine List.filter_congr fun x _ => ?_
  rw [getD_set h0, if_neg (by omega)]
theorem rm_fA (xs : List Int) (l : List Nat) (j : Nat) : rmC (l.map (fA xs)) ((j + 1 : Nat) : Int) = (l.filter (fun x => decide (x ≠ j))).map (fA xs) := by
  unfold rmC
  rw [List.filter_map]
  congr 1
  refine List.filter_congr fun x _ => ?_
  show decide (((x + 1 : Nat) : Int) ≠ ((j + 1 : Nat) : Int)) = decide (x ≠ j)
  by_cases h : x = j
  · subst h; simp
  · rw [decide_eq_true h, decide_eq_true]
    omega
/-- A close, of any number up to k. -/
theorem tG_close (xs : List Int) (g : List Bool) (k i : Nat) (hg : g.length = k + 1) (hi : i ≤ k) : clC (tG xs g k) (i : Int) = (decide (0 < i) && !(g.getD i false), tG xs (g.set i true) k) := by
  have hs : hsC (tG xs g k) (i : Int) = (decide (0 < i) && !(g.getD i false)) := by
    unfold hsC Tc.f tG
    cases i with
    | zero => rw [Int.natCast_zero, fn_fA0]; rfl
    | succ j =>
      rw [fn_fA]
      by_cases h : j ∈ lG g k
      · rw [if_pos h, (mem_lG.1 h).2]; rfl
      · rw [if_neg h]
        have : g.getD (j + 1) false = true := by
          cases hh : g.getD (j + 1) false with
          | true => rfl
          | false => exact absurd (mem_lG.2 ⟨by omega, hh⟩) h
        rw [this]; simp
  unfold clC
  cases hb : hsC (tG xs g k) (i : Int) with
  | true =>
    rw [if_pos rfl, ← hs, hb]
    cases i with
    | zero => rw [hs] at hb; simp at hb
    | succ j =>
      refine Prod.ext rfl ?_
      show (⟨rmC ((lG g k).map (fA xs)) ((j + 1 : Nat) : Int), k⟩ : Tc) = ⟨(lG (g.set (j + 1) true) k).map (fA xs), k⟩
      rw [rm_fA, lG_set (by omega)]
  | false =>
    rw [if_neg (by simp), ← hs, hb]
    refine Prod.ext rfl ?_
    show tG xs g k = tG xs (g.set i true) k
    unfold tG
    congr 2
    cases i with
    | zero => rw [lG_set0 (by omega)]
    | succ j =>
      rw [lG_set (by omega)]
      refine (List.filter_eq_self.2 fun x hx => ?_).symm
      rw [decide_eq_true_iff]
      rintro rfl
      rw [hs, (mem_lG.1 hx).2] at hb
      simp at hb
theorem tG_addr (xs : List Int) (g : List Bool) (k j : Nat) (hj : j < k) (h : g.getD (j + 1) false = false) : adC (tG xs g k) ((j + 1 : Nat) : Int) = xs.getD j 0 := by
  unfold adC Tc.f tG
  rw [fn_fA, if_pos (mem_lG.2 ⟨hj, h⟩)]
theorem tG_all (xs : List Int) (g : List Bool) (k : Nat) : alC (tG xs g k) = (lG g k).map (fun j => ((j + 1 : Nat) : Int)) := by
  unfold alC tG
  rw [List.map_map]
  rfl
theorem gc_tG (xs : List Int) (g : List Bool) (k : Nat) (hk : k ≤ 60) : Gc (tG xs g k) := by
  refine ⟨?_, ?_, ?_, ?_⟩
  · show (((lG g k).map (fA xs)).map (·.1)).Pairwise (· < ·)
    rw [List.map_map]
    refine List.pairwise_map.2 ?_
    unfold lG
    refine (List.pairwise_lt_range.filter _).imp fun {a b} h => ?_
    show ((a + 1 : Nat) : Int) < ((b + 1 : Nat) : Int)
    omega
  · intro x hx
    have hx : x ∈ ((lG g k).map (fA xs)).map (·.1) := hx
    rw [List.map_map] at hx
    obtain ⟨j, hj, rfl⟩ := List.mem_map.1 hx
    have := (mem_lG.1 hj).1
    show 1 ≤ ((j + 1 : Nat) : Int) ∧ ((j + 1 : Nat) : Int) ≤ (k : Int)
    omega
  · show ((lG g k).map (fA xs)).length ≤ 64
    rw [List.length_map]
    have := lG_len g k
    omega
  · intro p hp
    have hp : p ∈ (lG g k).map (fA xs) := hp
    obtain ⟨j, _, rfl⟩ := List.mem_map.1 hp
    show ([] : List UInt8).length ≤ 512 ∧ ([] : List UInt8).length ≤ 1024 ∧ 0 ≤ 1073741824
    simp
theorem tG_nil (xs : List Int) : tG xs [] 0 = tc0 := rfl
theorem lG_none (n i : Nat) : lG (List.replicate n false) i = lG [] i := by
  unfold lG
  refine List.filter_congr fun x _ => ?_
  have : (List.replicate n false).getD (x + 1) false = false := by
    rw [List.getD_eq_getElem?_getD, List.getElem?_replicate]
    split <;> rfl
  rw [this]
  rfl
theorem tG_none (xs : List Int) (n i : Nat) : tG xs (List.replicate n false) i = tG xs [] i := by unfold tG; rw [lG_none]
/-- A row of bools, in its block. -/
def bcl (g : List Bool) : Array Value := (g.map Value.bool).toArray
theorem bcl_at {g : List Bool} {i : Nat} (h : i < g.length) : (bcl g)[i]? = some (.bool (g.getD i false)) := by
  unfold bcl
  rw [List.getElem?_toArray, List.getElem?_map, List.getElem?_eq_getElem h, List.getD_eq_getElem?_getD, List.getElem?_eq_getElem h]
  rfl
theorem bcl_set (g : List Bool) (i : Nat) (b : Bool) : (bcl g).setIfInBounds i (.bool b) = bcl (g.set i b) := by
  unfold bcl
  rw [List.setIfInBounds_toArray, List.map_set]
theorem boolInfo : (Try.prog.info? 4).map (fun i => (i.zero, i.size, i.bytes)) = some (some (.bool false), 1, 1) := by kernel_rfl
theorem mk_bools (w : World) (n : Nat) (hn : n ≤ 140737488355328) (kl kc : IntKind) :
    (Instr.makeSlice 58 (.int kl (n : Int)) (.int kc (n : Int))).run Try.prog w = .ok (.slice (some ⟨w.heap.size, 0, none⟩) n n) (w.alloc (.cells (bcl (List.replicate n false)) 4)) := by
  obtain ⟨i, hi1, hz, hs, hb⟩ := info_parts boolInfo
  have h := run_make (P := Try.prog) w 58 4 i (.bool false) Try.underlying58 hi1 hz kl kc n n (by omega) (by omega) (by rw [hb]; omega) (by omega)
  rw [h]
  have e1 : madeCells #[Value.bool false] n = bcl (List.replicate n false) := by
    apply Array.ext'; rw [toList_madeCells_one]; simp [bcl]
  simp [hs, Value.cells, e1]
end Go.Proofs.Ytndamiocmdnenaa
