/- slices.Delete of one good ticket; spend, Void, Many, New: their contracts. -/
import Derived.Test.YtinbegnojfpeiaaDoorTk2
import Derived.BigRegion
import Derived.Deep.Cut
namespace Go.Proofs.YtinbegnojfpeiaaDoor
set_option linter.unusedVariables false
set_option maxRecDepth 100000
set_option linter.unusedSimpArgs false
open Go.RowKit

theorem islice_from (g n c lo : Nat) (ad : Addr) (h : lo ≤ n) (hc : n ≤ c) (ha : (if c = lo then (some ⟨g, 0, none⟩ : Option Addr) else some ⟨g, lo * 5, none⟩) = some ad) (u : World) : (Instr.sliceAt 54 (.slice (some ⟨g, 0, none⟩) n c) (some (.int .i64 (lo : Int))) none none).run Tryd.prog u = .ok (.slice (some ad) (n - lo) (c - lo)) u := by
  rw [← ha]
  have h1 : (lo : Int) ≤ (n : Int) := by omega
  have h2 : (n : Int) ≤ (c : Int) := by omega
  go_simp
theorem islice_to (A : Option Addr) (n c hi : Nat) (h : hi ≤ n) (hc : n ≤ c) (u : World) : (Instr.sliceAt 54 (.slice A n c) none (some (.int .i64 (hi : Int))) none).run Tryd.prog u = .ok (.slice A hi c) u := by
  have h1 : (hi : Int) ≤ (n : Int) := by omega
  have h2 : (hi : Int) ≤ (c : Int) := by omega
  go_simp
theorem islice_last (g m n c : Nat) (hm : m + 1 = n) (hc : n ≤ c) (u : World) : (Instr.sliceAt 54 (.slice (some ⟨g, 0, none⟩) m c) (some (.int .i64 (m : Int))) (some (.int .i64 (n : Int))) none).run Tryd.prog u = .ok (.slice (some ⟨g, m * 5, none⟩) 1 (c - m)) u := by
  have h1 : (m : Int) ≤ (n : Int) := by omega
  have h2 : (n : Int) ≤ (c : Int) := by omega
  have h3 : n - m = 1 := by omega
  have h4 : ¬ c = m := by omega
  go_simp
abbrev z5 : List Value := [.int .i64 0, .string ⟨#[]⟩, .string ⟨#[]⟩, .int .i64 0, .slice none 0 0]
set_option maxRecDepth 100000 in
set_option maxHeartbeats 4000000 in
theorem del_ok {B : Nat} (w : World) (g n c i : Nat) (l : List Tq) (h : Ow 59 5 tqc w B (some ⟨g, 0, none⟩) c l) (hn : l.length = n) (hf : n ≤ 64) (hi : i < n) :
    Calls Tryd.prog 35 #[.slice (some ⟨g, 0, none⟩) n c, .int .i64 (i : Int), .int .i64 ((i + 1 : Nat) : Int)] w fun e w' => e = .returned (.slice (some ⟨g, 0, none⟩) (n - 1) c) ∧ Ow 59 5 tqc w' B (some ⟨g, 0, none⟩) c (l.take i ++ l.drop (i + 1)) ∧ Ke [g] w w' := by
  have hcap : n ≤ c := by rw [← hn]; exact (Ow.fit h).cap
  have h' : Ow 59 5 tqc w.drew B (some ⟨g, 0, none⟩) c l := h
  obtain ⟨f1, f2, f3, w9, hw9, f5, f6⟩ := Ow.out (f := tqc) (k := 5) (fun _ => rfl) h' i (by omega) z5 rfl
  have f7 : Ke [g] w w9 := ((Ke.refl [g] w).drew).trans f6
  obtain ⟨news, hnews⟩ : ∃ news, fl tqc (l.drop (i + 1)) = news := ⟨_, rfl⟩
  have hlen : news.length = (n - (i + 1)) * 5 := by rw [← hnews, fl_length (f := tqc) (k := 5) (fun _ => rfl), List.length_drop, hn]
  have hone : ∀ u ∈ news, u.oneCell' = true := by rw [← hnews]; exact fl_one roI5 _
  rw [hnews] at f1 f3 hw9
  rw [hn] at f2 f3 hw9
  obtain ⟨j, hj⟩ : ∃ j, i + 1 = j := ⟨_, rfl⟩
  obtain ⟨m, hm⟩ : ∃ m, n - 1 = m := ⟨_, rfl⟩
  obtain ⟨d1, hd1⟩ : ∃ d1, n - j = d1 := ⟨_, rfl⟩
  obtain ⟨e1, he1⟩ : ∃ e1, c - j = e1 := ⟨_, rfl⟩
  rw [hj] at hlen f1 f5 ⊢
  rw [hd1] at hlen
  rw [hm] at hw9 ⊢
  obtain ⟨ad, had, hsrc⟩ : ∃ ad : Addr, (if c = j then (some ⟨g, 0, none⟩ : Option Addr) else some ⟨g, j * 5, none⟩) = some ad ∧ Hid (∀ t u, news[t]? = some u → w.drew.cell? (ad.add t) = some u) := by
    by_cases h0 : c = j
    · refine ⟨⟨g, 0, none⟩, by rw [if_pos h0], Lib.hid fun t u hu => ?_⟩
      have h1 : news.length = 0 := by omega
      rw [List.length_eq_zero_iff.1 h1] at hu
      simp at hu
    · refine ⟨⟨g, j * 5, none⟩, by rw [if_neg h0], Lib.hid fun t u hu => ?_⟩
      rw [add_plain]
      exact f1 t u hu
  obtain ⟨i0, z0, hi1, hz1, hsz1, _, _⟩ := roI5.hi
  have s3 : Hid (∀ t, t < news.length → (w.drew.cell? ⟨g, 0 + i * 5 + t, none⟩).isSome = true ∧ w.drew.frozen? ⟨g, 0 + i * 5 + t, none⟩ = false) := Lib.hid fun t ht => by
    rw [Nat.zero_add]
    exact f2 _ (by omega)
  obtain ⟨W1, hW1⟩ : ∃ W1, w.drew.setCells g (i * 5) news = W1 := ⟨_, rfl⟩
  rw [hW1] at f3 hw9
  have hW : Hid (w.drew.setCells g (0 + i * 5) news = W1) := Lib.hid (by rw [Nat.zero_add]; exact hW1)
  have hcl : ∀ ty, (Builtin.clear_ #[54] ty #[.slice (some ⟨g, m * 5, none⟩) 1 (c - m)]).run Tryd.prog W1 = .ok (.tuple #[]) (W1.setCells g (m * 5) z5) :=
    fun ty => run_clear_rows W1 _ _ ty _ z5 Tryd.underlying54 Tryd.zeroValue59 g (m * 5) 1 (c - m) (by omega) (by kernel_rfl) (by simp [Value.oneCell']) (fun t ht => (f3 _ (by simp at ht; omega)).1) (fun t ht => (f3 _ (by simp at ht; omega)).2)
  rw [← hw9] at hcl
  have HS1 := Lib.hid (fun u => islice_to (some ⟨g, 0, none⟩) n c i (by omega) hcap u)
  have hs1 := HS1.out
  have hs2 := fun u => islice_from g n c j ad (by omega) hcap had u
  have hs3 := fun u => islice_last g m n c (by omega) hcap u
  rw [hd1, he1] at hs2
  have HF := Lib.hid (And.intro f5 f7)
  have HL := Lib.hid hlen
  have HO := Lib.hid hone
  have hij : (i : Int) ≤ (j : Int) := by omega
  have hne : ¬ ((i : Int) = (j : Int)) := by omega
  have hic : (i : Int) ≤ (c : Int) := by omega
  have hin : (i : Int) ≤ (n : Int) := by omega
  have hjn : (j : Int) ≤ (n : Int) := by omega
  have hjc : (j : Int) ≤ (c : Int) := by omega
  have hncc : (n : Int) ≤ (c : Int) := by omega
  have HM := Lib.hid (show i + d1 = m by omega)
  have hroom : i + d1 ≤ c := by omega
  clear h h' f1 f2 f3 f5 f6 f7 hnews hlen hone hW1 had hw9 hn
  go_enter Tryd.func35, Tryd.ntmps35
  go_upto_region 5 with fail
  go_region_law (refine step_append_room rfl (.tmp 22) (.tmp 25) 54 rfl 59 i0 5 Tryd.underlying54 hi1 hsz1 g 0 i c rfl ad d1 e1 news rfl HL.out hsrc.out HO.out hroom s3.out ?_; rw [hW.out, HM.out])
  all_goals
    go_wp2
    go_ret
    exact ⟨rfl, HF.out.1, HF.out.2⟩
end Go.Proofs.YtinbegnojfpeiaaDoor
