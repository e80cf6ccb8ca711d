/- The row's own methods: Len, Less, Swap. -/
import Derived.Test.YtdfllobdefodfaaCkMem
import Derived.BigQuiet
namespace Go.Proofs.Ytdfllobdefodfaa
set_option linter.unusedVariables false
set_option linter.unusedSimpArgs false
open Go.RowKit

theorem Ke.drewN {L : List Nat} {a b : World} (h : Ke L a b) (n : Nat) : Ke L a (b.drewN n) := ⟨h.os, h.tape, h.output, h.size, h.block⟩

variable {u : World} {F : List Nat} {c : Nat} {now : Int} {mb : Nat} {A : Option Addr} {cap : Nat} {l : List Al}

theorem len_ok (A : Option Addr) (n cap : Nat) (u : World) : Calls Try.prog 48 #[.slice A n cap] u fun e u' => e = .returned (.int .i64 (n : Int)) ∧ u' = u := by
  go_enter Try.func48, Try.ntmps48
  go_wp2
  go_ret
  exact ⟨rfl, rfl⟩

set_option maxRecDepth 100000 in
set_option maxHeartbeats 4000000 in
theorem less_ok (u : World) (h : Hp u F c now mb A cap l) (i j n : Nat) (hn : l.length = n) (hi : i < n) (hj : j < n) :
    Calls Try.prog 49 #[.slice A n cap, .int .i64 (i : Int), .int .i64 (j : Int)] u fun e u' => e = .returned (.bool (decide ((nth l i).lt (nth l j)))) ∧ Ke [] u u' := by
  subst hn
  obtain ⟨g, cur, rfl, _, hb, hc1, hc2, hc3, hcell⟩ := h.at_ hi
  have gi := (hb.cell i).trans (hcell i hi)
  have gj := (hb.cell j).trans (hcell j hj)
  obtain ⟨i0, i1, _⟩ := (h.als i hi).cells3
  obtain ⟨j0, j1, _⟩ := (h.als j hj).cells3
  have hlt : (nth l i).lt (nth l j) ↔ ((nth l i).t < (nth l j).t ∨ ((nth l i).t = (nth l j).t ∧ (nth l i).id < (nth l j).id)) := Iff.rfl
  simp only [hlt]
  have hi2 : (i : Int) < (l.length : Int) := by omega
  have hj2 : (j : Int) < (l.length : Int) := by omega
  generalize (nth l i).t = ti at *
  generalize (nth l j).t = tj at *
  generalize (nth l i).id = di at *
  generalize (nth l j).id = dj at *
  generalize (nth l i).b = bi at *
  generalize (nth l j).b = bj at *
  generalize l.length = n at *
  clear h hb hcell hc1 hc2 hc3 hlt
  by_cases ht : ti = tj
  · subst ht
    have e : (decide (ti < ti ∨ ti = ti ∧ di < dj)) = decide (di < dj) := by simp
    rw [e]
    clear e
    go_enter Try.func49, Try.ntmps49
    go_wp2_with fail
    go_quiet (fail)
    go_wp2_with fail
    go_quiet (fail)
    go_wp2_with fail
    go_ret
    exact ⟨rfl, ((Ke.refl [] u).drewN _).drewN _⟩
  · have e : (decide (ti < tj ∨ ti = tj ∧ di < dj)) = decide (ti < tj) := by simp [ht]
    rw [e]
    clear e
    have ht2 : (ti == tj) = false := by simp [ht]
    go_enter Try.func49, Try.ntmps49
    go_wp2_with fail
    go_quiet (fail)
    go_wp2_with fail
    go_quiet (fail)
    go_wp2_with fail
    go_ret
    exact ⟨rfl, ((Ke.refl [] u).drewN _).drewN _⟩

theorem gen_q {Q : Exit → Act → World → Prop} {e : Exit} {a : Act} {w : World} (S : World → Prop) (hS : S w) (h : ∀ u, S u → Q e a u) : Q e a w := h w hS

/-- The row behind Swap's first statement. -/
abbrev swc (cur : Array Value) (i j : Nat) (bi bj : Nat) : Array Value := (cur.setIfInBounds i (ptr bj)).setIfInBounds j (ptr bi)
theorem swap_row {u : World} {g i j bi bj : Nat} {cur : Array Value} (h : Bk u g 61 cur) : Bk (((u.setCell ⟨g, i, none⟩ (ptr bj)).setCell ⟨g, j, none⟩ (ptr bi)).drew) g 61 (swc cur i j bi bj) ∧ Ke [g] u ((u.setCell ⟨g, i, none⟩ (ptr bj)).setCell ⟨g, j, none⟩ (ptr bi)).drew :=
  ⟨((h.set i _).set j _).drew, (((Ke.refl [g] u).set (p := ⟨g, i, none⟩) (by simp) _).set (p := ⟨g, j, none⟩) (by simp) _).drew⟩
/-- What Swap leaves. -/
theorem swap_left (h : Hp u F c now mb A cap l) {i j g : Nat} (hi : i < l.length) (hj : j < l.length) (hij : i ≠ j) {cur : Array Value} (hA : A = some ⟨g, 0, none⟩) (hg : g ∈ F) (hc1 : l.length ≤ cap) (hc2 : cap ≤ maxLen) (hc3 : cur.size = cap)
    (hcell : ∀ i, i < l.length → cur[i]? = some (ptr (nth l i).b)) (hb : Bk u g 61 cur) {w : World} (hw : Bk w g 61 (swc cur i j (nth l i).b (nth l j).b)) (hk : Ke [g] u w) :
    Hp ((w.setCell ⟨(nth l j).b, 2, none⟩ (.int .i64 (i : Int))).setCell ⟨(nth l i).b, 2, none⟩ (.int .i64 (j : Int))) F c now mb A cap (swp l i j) ∧ Ke F u ((w.setCell ⟨(nth l j).b, 2, none⟩ (.int .i64 (i : Int))).setCell ⟨(nth l i).b, 2, none⟩ (.int .i64 (j : Int))) := by
  have hne : ∀ k, k < l.length → (nth l k).b ≠ g := fun k hk => (h.als k hk).ne hb (by decide)
  have hnc : ∀ k, k < l.length → (nth l k).b ≠ c := fun k hk => (h.als k hk).ne h.ck (by decide)
  have hcg : c ≠ g := h.ck.ne hb (by decide)
  have bij := h.two hi hj hij
  have len := swp_length l i j
  constructor
  · refine ⟨?_, .inr ⟨g, swc cur i j (nth l i).b (nth l j).b, hA, hg, ?_, by rw [len]; exact hc1, hc2, by simp [hc3], fun k hk => ?_⟩, fun k hk => ?_, by rw [len]; exact h.few, h.fc, fun k hk => ?_⟩
    · rw [len]
      exact ((h.ck.ke hk (by simpa using hcg)).far (hnc j hj).symm _).far (hnc i hi).symm _
    · exact (hw.far (hne j hj).symm _).far (hne i hi).symm _
    · rw [len] at hk
      rw [nth_swp hi hj]
      have hkc : k < cur.size := by omega
      simp only [swc, Array.getElem?_setIfInBounds]
      by_cases hkj : k = j
      · subst hkj; simp [hkc]
      · rw [if_neg (fun e => hkj e.symm), if_neg hkj]
        by_cases hki : k = i
        · subst hki; simp [hkc]
        · rw [if_neg (fun e => hki e.symm), if_neg hki]
          exact hcell k hk
    · rw [len] at hk
      have H : ∀ m, m < l.length → Bk w (nth l m).b 65 (acells (nth l m) m) := fun m hm => (h.als m hm).ke (by assumption) (by simpa using hne m hm)
      rw [nth_swp hi hj]
      by_cases hkj : k = j
      · subst hkj
        rw [if_pos rfl]
        exact ((H i hi).far bij _).set 2 _
      · rw [if_neg hkj]
        by_cases hki : k = i
        · subst hki
          rw [if_pos rfl]
          exact ((H j hj).set 2 _).far bij.symm _
        · rw [if_neg hki]
          exact ((H k hk).far (h.two hk hj hkj) _).far (h.two hk hi hki) _
    · rw [len] at hk
      rw [nth_swp hi hj]
      split
      · exact h.fl i hi
      · split
        · exact h.fl j hj
        · exact h.fl k hk
  · exact ((hk.more (fun x hx => by simp at hx; exact hx ▸ hg)).set (h.fl j hj) _).set (h.fl i hi) _

set_option maxRecDepth 100000 in
set_option maxHeartbeats 4000000 in
theorem swap_ok (u : World) (h : Hp u F c now mb A cap l) (i j n : Nat) (hn : l.length = n) (hi : i < n) (hj : j < n) (hij : i ≠ j) :
    Calls Try.prog 50 #[.slice A n cap, .int .i64 (i : Int), .int .i64 (j : Int)] u fun e u' => e = .returned (.tuple #[]) ∧ Hp u' F c now mb A cap (swp l i j) ∧ Ke F u u' := by
  subst hn
  obtain ⟨g, cur, rfl, hg, hb, hc1, hc2, hc3, hcell⟩ := h.at_ hi
  have gi := (hb.cell i).trans (hcell i hi)
  have gj := (hb.cell j).trans (hcell j hj)
  have hi2 : (i : Int) < (l.length : Int) := by omega
  have hj2 : (j : Int) < (l.length : Int) := by omega
  have HLEFT := Lib.hid (fun w => swap_left (w := w) h hi hj hij rfl hg hc1 hc2 hc3 hcell hb)
  have HAL := Lib.hid (show ∀ w, Ke [g] u w → Bk w (nth l i).b 65 (acells (nth l i) i) ∧ Bk w (nth l j).b 65 (acells (nth l j) j) from
    fun w k => ⟨(h.als i hi).ke k (by simpa using (h.als i hi).ne hb (by decide)), (h.als j hj).ke k (by simpa using (h.als j hj).ne hb (by decide))⟩)
  have HB := Lib.hid hb
  have HCUR := Lib.hid (show i < cur.size ∧ j < cur.size by omega)
  have hbij := h.two hi hj hij
  generalize (nth l i).b = bi at *
  generalize (nth l j).b = bj at *
  generalize l.length = n at *
  clear h hb hcell hc1 hc2 hc3 hg
  have fi : u.frozen? ⟨g, i, none⟩ = false := HB.out.frozen i
  have fj : u.frozen? ⟨g, j, none⟩ = false := HB.out.frozen j
  go_enter Try.func50, Try.ntmps50
  go_wp2_with fail
  go_region
  refine gen_q (fun w => Bk w g 61 (swc cur i j bi bj) ∧ Ke [g] u w) (swap_row HB.out) (fun w hw => ?_)
  have HW := Lib.hid hw
  have gi2 : w.cell? ⟨g, i, none⟩ = some (ptr bj) := by
    rw [hw.1.cell]; simp [swc, Array.getElem?_setIfInBounds, HCUR.out.1, hij, Ne.symm hij]
  have gj2 : w.cell? ⟨g, j, none⟩ = some (ptr bi) := by
    rw [hw.1.cell]; simp [swc, Array.getElem?_setIfInBounds, HCUR.out.2]
  obtain ⟨bi2, bj2⟩ := HAL.out w hw.2
  obtain ⟨_, _, pi⟩ := bi2.cells3
  obtain ⟨_, _, pj⟩ := bj2.cells3
  have fi2 := bi2.frozen 2
  have fj2 := bj2.frozen 2
  clear gi gj fi fj hw bi2 bj2
  go_wp2_with fail
  go_region
  go_wp2_with fail
  go_returns
  obtain ⟨q1, q2⟩ := HLEFT.out w HW.out.1 HW.out.2
  exact ⟨rfl, q1.drew, q2.drew⟩
end Go.Proofs.Ytdfllobdefodfaa
