/- Numbers rise; what was closed never comes again; plain. (Written by gen_cnnever.py.) -/
import Derived.Test.YtndamiocmdnenaaCnX
import Derived.Test.YtndamiocmdnenaaCnNone
namespace Go.Proofs.Ytndamiocmdnenaa
set_option linter.unusedVariables false
set_option maxRecDepth 100000
set_option linter.unusedSimpArgs false
open Go.RowKit

/-- What the law has gathered of a table: those that were closed. -/
structure Nv (t : Tc) (g : List Int) : Prop where
  len : t.l.length + g.length = t.la
  out : ∀ x ∈ g, x ≤ (t.la : Int) ∧ hsC t x = false
  wf : ∀ x ∈ g, WfN x
theorem nv_new : Nv tc0 [] := ⟨rfl, (fun x hx => by cases hx), fun x hx => by cases hx⟩
theorem hs_keys {t : Tc} {x : Int} : hsC t x = true ↔ x ∈ t.l.map (·.1) := fn_key
theorem hs_same {t t' : Tc} (h : t'.l.map (·.1) = t.l.map (·.1)) (x : Int) : hsC t' x = hsC t x := by rw [Bool.eq_iff_iff, hs_keys, hs_keys, h]
/-- The numbers, and how many there were, stay. -/
structure Sk (t t' : Tc) : Prop where
  k : t'.l.map (·.1) = t.l.map (·.1)
  la : t'.la = t.la
theorem Sk.refl (t : Tc) : Sk t t := ⟨rfl, rfl⟩
theorem sk_up (t : Tc) (i : Int) (c : Cn) : Sk t (t.up i c) := ⟨up_keys _ _ _, rfl⟩
theorem sk_feed (t : Tc) (i : Int) (B : List UInt8) : Sk t (feC t i B).2 := by unfold feC; split; exact Sk.refl _; split; exact Sk.refl _; exact sk_up _ _ _
theorem sk_next (t : Tc) (i : Int) : Sk t (neC t i).2 := by unfold neC; split; exact Sk.refl _; split; exact Sk.refl _; split; exact Sk.refl _; exact sk_up _ _ _
theorem sk_rest (t : Tc) (i n : Int) : Sk t (reC t i n).2 := by unfold reC; split; exact Sk.refl _; exact sk_up _ _ _
theorem sk_say (t : Tc) (i : Int) (B : List UInt8) : Sk t (saC t i B).2 := by unfold saC; split; exact Sk.refl _; split; exact Sk.refl _; exact sk_up _ _ _
theorem sk_bud (t : Tc) (i n : Int) : Sk t (buC t i n).2 := by unfold buC; split; exact Sk.refl _; split; exact Sk.refl _; exact sk_up _ _ _
theorem sk_flush (t : Tc) (i : Int) : Sk t (flC t i).2 := by unfold flC; split; exact Sk.refl _; exact sk_up _ _ _
theorem sk_half (t : Tc) (i : Int) : Sk t (haC t i).2 := by unfold haC; split; exact Sk.refl _; split; exact Sk.refl _; exact sk_up _ _ _
theorem sk_do (t : Tc) (o : OpC) (h0 : o.what ≠ 0) (h1 : o.what ≠ 1) : Sk t (doC t o) := by
  unfold doC
  rw [if_neg h0, if_neg h1]
  repeat' split
  · exact sk_feed _ _ _
  · exact sk_feed _ _ _
  · exact sk_next _ _
  · exact sk_rest _ _ _
  · exact sk_say _ _ _
  · exact sk_say _ _ _
  · exact sk_bud _ _ _
  · exact sk_flush _ _
  · exact sk_half _ _
theorem Nv.sk {t t' : Tc} {g : List Int} (h : Nv t g) (s : Sk t t') : Nv t' g := by
  have e : t'.l.length = t.l.length := by have := congrArg List.length s.k; rw [List.length_map, List.length_map] at this; exact this
  exact ⟨by rw [e, s.la]; exact h.len, fun x hx => by rw [s.la, hs_same s.k]; exact h.out x hx, h.wf⟩
theorem open_full {t : Tc} (a : Int) (h : 64 ≤ t.l.length) : opC t a = ((0, 2), t) := by unfold opC; rw [if_pos h]
theorem open_more {t : Tc} (a : Int) (h : ¬ 64 ≤ t.l.length) : opC t a = ((((t.la + 1 : Nat) : Int), 0), ⟨t.l ++ [(((t.la + 1 : Nat) : Int), cn0 a)], t.la + 1⟩) := by unfold opC; rw [if_neg h]
theorem Nv.open_ {t : Tc} {g : List Int} (h : Nv t g) (a : Int) : Nv ⟨t.l ++ [(((t.la + 1 : Nat) : Int), cn0 a)], t.la + 1⟩ g := by
  refine ⟨?_, fun x hx => ?_, h.wf⟩
  · show (t.l ++ [_]).length + g.length = t.la + 1
    rw [List.length_append]
    have := h.len
    simp only [List.length_cons, List.length_nil]
    omega
  · obtain ⟨h1, h2⟩ := h.out x hx
    refine ⟨by show x ≤ ((t.la + 1 : Nat) : Int); omega, ?_⟩
    cases hh : hsC (⟨t.l ++ [(((t.la + 1 : Nat) : Int), cn0 a)], t.la + 1⟩ : Tc) x with
    | false => rfl
    | true =>
      have h3 := hs_keys.1 hh
      rw [show (⟨t.l ++ [(((t.la + 1 : Nat) : Int), cn0 a)], t.la + 1⟩ : Tc).l = t.l ++ [(((t.la + 1 : Nat) : Int), cn0 a)] from rfl, List.map_append, List.mem_append] at h3
      rcases h3 with h3 | h3
      · have := hs_keys.2 h3
        rw [h2] at this; cases this
      · simp only [List.map_cons, List.map_nil, List.mem_singleton] at h3
        omega
theorem close_no {t : Tc} {i : Int} (h : hsC t i = false) : clC t i = (false, t) := by unfold clC; rw [h]; rfl
theorem close_yes {t : Tc} {i : Int} (h : hsC t i = true) : clC t i = (true, { t with l := rmC t.l i }) := by unfold clC; rw [h]; rfl
theorem rm_gone (t : Tc) (i : Int) : hsC { t with l := rmC t.l i } i = false := by
  unfold hsC Tc.f
  dsimp only
  rw [fn_rm_same]
  rfl
theorem Nv.close_ {t : Tc} {g : List Int} (h : Nv t g) (hg : Gc t) {i : Int} (hi : hsC t i = true) (hw : WfN i) : Nv { t with l := rmC t.l i } (g ++ [i]) := by
  obtain ⟨c, hc⟩ : ∃ c, fnC t.l i = some c := Option.isSome_iff_exists.1 hi
  have hp := (perm_rm hc hg.up).length_eq
  refine ⟨?_, fun x hx => ?_, fun x hx => ?_⟩
  · show (rmC t.l i).length + (g ++ [i]).length = t.la
    rw [List.length_append]
    have := h.len
    simp only [List.length_cons, List.length_nil] at hp ⊢
    omega
  · rcases List.mem_append.1 hx with e | e
    · obtain ⟨h1, h2⟩ := h.out x e
      refine ⟨h1, ?_⟩
      cases hh : hsC { t with l := rmC t.l i } x with
      | false => rfl
      | true =>
        have h3 := hs_keys.1 hh
        rw [show ({ t with l := rmC t.l i } : Tc).l = rmC t.l i from rfl, rm_keys] at h3
        have := hs_keys.2 (List.mem_filter.1 h3).1
        rw [h2] at this; cases this
    · rw [List.mem_singleton.1 e]
      exact ⟨(hg.pos i (hs_keys.1 hi)).2, rm_gone t i⟩
  · rcases List.mem_append.1 hx with e | e
    · exact h.wf x e
    · rw [List.mem_singleton.1 e]; exact hw
theorem al_len (t : Tc) : (alC t).length = t.l.length := List.length_map _
theorem gc_open2 {t : Tc} (h : Gc t) (a : Int) (hl : ¬ 64 ≤ t.l.length) : Gc ⟨t.l ++ [(((t.la + 1 : Nat) : Int), cn0 a)], t.la + 1⟩ := by have := gc_open h a; rw [open_more a hl] at this; exact this
theorem gc_close2 {t : Tc} (h : Gc t) {i : Int} (hi : hsC t i = true) : Gc { t with l := rmC t.l i } := by have := gc_close h i; rw [close_yes hi] at this; exact this
end Go.Proofs.Ytndamiocmdnenaa
