/- TicketVoid, TicketFull: plain. -/
import Derived.Test.YtinbegnojfpeiaaDoorG1
import Derived.Test.YtinbegnojfpeiaaDoorG6
namespace Go.Proofs.YtinbegnojfpeiaaDoor
set_option linter.unusedVariables false
set_option maxRecDepth 100000
set_option linter.unusedSimpArgs false

/-- The pass that the laws draw up: of a visitor, for a tenant. -/
abbrev vP (a : ByteArray) (j : Int) : Ps := ⟨j, ⟨#[]⟩, a, 0⟩
/-- The first i tickets. -/
def vL (a : ByteArray) (f : Int → ByteArray) (i : Nat) : List Tk5 := (List.range i).map fun j : Nat => ⟨f ((j : Int) + 1), vP a j⟩
def vT (f : Int → ByteArray) (i : Nat) : List ByteArray := (List.range i).map fun j : Nat => f ((j : Int) + 1)
section
variable {a : ByteArray} {f : Int → ByteArray}
theorem vL_len (i : Nat) : (vL a f i).length = i := by simp [vL]
theorem vT_len (i : Nat) : (vT f i).length = i := by simp [vT]
theorem vL_succ (i : Nat) : vL a f (i + 1) = vL a f i ++ [⟨f ((i : Int) + 1), vP a i⟩] := by simp [vL, List.range_succ]
theorem vT_succ (i : Nat) : vT f (i + 1) = vT f i ++ [f ((i : Int) + 1)] := by simp [vT, List.range_succ]
theorem vL_tx (i : Nat) : (vL a f i).map (·.tx) = vT f i := by simp [vL, vT]
theorem vL_vis (i : Nat) : (vL a f i).map (·.p.vis) = (List.range i).map (fun j : Nat => (j : Int)) := by simp [vL]
theorem vL_any (i : Nat) (v : Int) : (vL a f i).any (visT v) = decide (0 ≤ v ∧ v < (i : Int)) := by
  rw [Bool.eq_iff_iff, any_vis, vL_vis, List.mem_map, decide_eq_true_iff]
  constructor
  · rintro ⟨j, hj, rfl⟩
    have := List.mem_range.1 hj
    omega
  · rintro ⟨h1, h2⟩
    exact ⟨v.toNat, List.mem_range.2 (by omega), by omega⟩
theorem vL_gk (i : Nat) (h : i ≤ 64) (n : Int) (hn : 0 ≤ n) : Gk ⟨n, vL a f i⟩ := by
  refine ⟨?_, by rw [vL_len]; exact h, hn⟩
  show ((vL a f i).map (·.p.vis)).Nodup
  rw [vL_vis]
  exact List.Pairwise.map _ (fun x y hxy h => hxy (by omega)) List.nodup_range
theorem vL_iss (i : Nat) (h : i < 64) : issT ⟨(i : Int), vL a f i⟩ (vP a i) f = (f ((i : Int) + 1), 0, ⟨((i + 1 : Nat) : Int), vL a f (i + 1)⟩) := by
  unfold issT
  dsimp only
  rw [vL_any, if_neg (by simp), if_neg (by rw [vL_len]; omega), vL_succ]
  rfl
theorem vL_iss2 (i : Nat) (h : i < 64) : issT ⟨((i + 1 : Nat) : Int), vL a f (i + 1)⟩ (vP a i) f = (⟨#[]⟩, 4, ⟨((i + 1 : Nat) : Int), vL a f (i + 1)⟩) := by
  unfold issT
  dsimp only
  rw [vL_any, if_pos (by rw [decide_eq_true_iff]; omega)]
theorem vL_iss3 (i : Nat) (h : 64 ≤ i) : issT ⟨64, vL a f 64⟩ (vP a i) f = (⟨#[]⟩, 2, ⟨64, vL a f 64⟩) := by
  unfold issT
  dsimp only
  rw [vL_any, if_neg (by simp; omega), if_pos (by rw [vL_len]; exact Nat.le_refl _)]
/-- What is left when the k-th is void. -/
def vK (a : ByteArray) (f : Int → ByteArray) (n k : Nat) : List Tk5 := (vL a f n).eraseP (visT k)
theorem vK_voi (n k : Nat) : voiT ⟨(n : Int), vL a f n⟩ (k : Int) = (decide (k < n), ⟨(n : Int), vK a f n k⟩) := by
  unfold voiT vK
  dsimp only
  rw [vL_any]
  congr 1
  rw [Bool.eq_iff_iff, decide_eq_true_iff, decide_eq_true_iff]
  omega
theorem vK_gk (n k : Nat) (h : n ≤ 64) : Gk ⟨(n : Int), vK a f n k⟩ := gk_erase (vL_gk n h (n : Int) (by omega)) _
theorem vK_none (n k : Nat) (h : n ≤ 64) : voiT ⟨(n : Int), vK a f n k⟩ (k : Int) = (false, ⟨(n : Int), vK a f n k⟩) :=
  voi_no (voi_gone (vL_gk (a := a) (f := f) n h (n : Int) (by omega)) (k : Int))
theorem vK_len (n k : Nat) : (vK a f n k).length = if k < n then n - 1 else n := by
  unfold vK
  rw [List.length_eraseP, vL_any, vL_len]
  by_cases h : k < n
  · rw [if_pos (by rw [decide_eq_true_iff]; omega), if_pos h]
  · rw [if_neg (by rw [decide_eq_true_iff]; omega), if_neg h]
theorem vK_mem (n k : Nat) (h : n ≤ 64) : ∀ x ∈ vK a f n k, x.p.vis ≠ (k : Int) ∧ x.p.ten = a := by
  intro x hx
  constructor
  · have h1 : (vK a f n k).any (visT k) = false := voi_gone (vL_gk (a := a) (f := f) n h (n : Int) (by omega)) (k : Int)
    have := List.any_eq_false.1 h1 x hx
    unfold visT at this
    simpa using this
  · have h2 : x ∈ vL a f n := List.mem_of_mem_eraseP hx
    obtain ⟨j, _, rfl⟩ := List.mem_map.1 h2
    rfl
theorem vK_all (n k : Nat) : shT (vK a f n k) (vT f n) = [] := by
  refine sh_all fun t => ?_
  refine Nat.le_trans (cnt_less (l := vL a f n) (visT k) t) ?_
  rw [cnt_told, vL_tx]
  exact Nat.le_refl _
end
theorem sh_mem : ∀ {ts : List ByteArray} {l : List Tk5} {x : Tk5}, x ∈ shT l ts → x ∈ l
  | [], _, _, h => h
  | s :: r, l, x, h => List.mem_of_mem_eraseP (sh_mem (ts := r) h)
theorem sh_gk (n : Int) : ∀ {ts : List ByteArray} {l : List Tk5}, Gk ⟨n, l⟩ → Gk ⟨n, shT l ts⟩
  | [], _, h => h
  | s :: r, l, h => sh_gk n (ts := r) (gk_erase h _)
/-- One is shown, by its tenant. -/
theorem sh_red {n : Int} {L : List Tk5} {a s : ByteArray} (ha : ∀ x ∈ L, x.p.ten = a) :
    (redT ⟨n, L⟩ s a = (zeroPs, 151, ⟨n, L⟩) ∧ L.eraseP (texT s) = L) ∨ ∃ x ∈ L, redT ⟨n, L⟩ s a = (x.p, 0, ⟨n, L.eraseP (texT s)⟩) ∧ (L.eraseP (texT s)).length + 1 = L.length := by
  rcases red_cases ⟨n, L⟩ s a with ⟨h0, h1⟩ | ⟨x, h0, h1, h2⟩ | ⟨x, h0, h1, h2⟩
  · exact .inl ⟨h1, (erase_no h0).1⟩
  · have := ha x (List.mem_of_find?_eq_some h0)
    rw [this, nmQ_same] at h1
    cases h1
  · refine .inr ⟨x, List.mem_of_find?_eq_some h0, h2, ?_⟩
    have hx : x ∈ L := List.mem_of_find?_eq_some h0
    have hp := List.find?_some h0
    have : (L.eraseP (texT s)).length = L.length - 1 := List.length_eraseP_of_mem hx hp
    have h3 : 0 < L.length := List.length_pos_of_mem hx
    show (L.eraseP (texT s)).length + 1 = L.length
    omega
end Go.Proofs.YtinbegnojfpeiaaDoor
