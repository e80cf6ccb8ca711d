/- The program's table: All: its contract. -/
import Derived.Test.YtndamiocmdnenaaCnZ
import Derived.Test.YtndamiocmdnenaaIKeys
import Derived.Test.YtndamiocmdnenaaOi
namespace Go.Proofs.Ytndamiocmdnenaa
set_option linter.unusedVariables false
set_option maxRecDepth 100000
set_option linter.unusedSimpArgs false
open Go.RowKit Go.Maps Go.Sort

theorem mn_keys {u : World} {mb : Nat} {l : List (Int × Option Nat)} (h : MnC u mb l) : ∃ D : DataW Unit, u.ownsMap Try.prog 3 cRP mb l.length D ∧ (l.map (·.1)).Perm (intKeys D) ∧ Maps.size D = l.length := by
  obtain ⟨h0, h1, h2, D, h3, h4, h5, h6⟩ := h
  refine ⟨D, h3, CollectedI.perm (left := fun _ => false) ⟨?_, fun x => ?_⟩ h3 nlaw Try.underlying3 (fun _ => rfl), h4⟩
  · exact List.pairwise_map.2 h1
  · rw [← h5 x, List.mem_map]
    constructor
    · rintro ⟨y, hy, e⟩; exact ⟨⟨y, hy, e⟩, by first | rfl | trivial⟩
    · rintro ⟨⟨y, hy, e⟩, _⟩; exact ⟨y, hy, e⟩
theorem sorted_ints {l ss : List Int} (h : l.Pairwise (· < ·)) (p : ss.Perm l) : ss.mergeSort (fun x y => decide (x ≤ y)) = l := by
  refine List.Perm.eq_of_pairwise (le := fun a b => leI a b = true) (fun a b _ _ h1 h2 => ?_) (List.pairwise_mergeSort (fun a b c h1 h2 => by simp only [leI, decide_eq_true_eq] at *; omega) (fun a b => by simp only [leI, Bool.or_eq_true, decide_eq_true_eq]; omega) ss) ?_ ((List.mergeSort_perm ss _).trans p)
  · simp only [leI, decide_eq_true_eq] at h1 h2
    omega
  · exact h.imp fun {a b} hab => by simp only [leI, decide_eq_true_eq]; omega
theorem enC_keys (pl : Int → Pl) (l : List (Int × Cn)) : (enC_ pl l).map (·.1) = l.map (·.1) := by unfold enC_; rw [List.map_map]; rfl
theorem ckeys_ok (mb : Nat) (W : World) : Calls Try.prog 35 #[.map (some mb)] W fun e w' => e = .returned (.func (.func 69) #[] #[.pointer (some ⟨W.heap.size, 0, none⟩)]) ∧ w' = W.alloc (.cells #[.map (some mb)] 60) :=
  (callsIn_wide (n := 5)).1 (Try.maps_Keys_i (some mb) W)
section
variable {W u u' : World} {H H' : List Nat} {tb mb : Nat} {pl : Int → Pl} {t : Tc}
theorem csorted_ok (h : Tz u H tb mb pl t) (hg : Gc t) :
    Calls Try.prog 34 #[.func (.func 69) #[] #[.pointer (some ⟨u.heap.size, 0, none⟩)]] (u.alloc (.cells #[.map (some mb)] 60)) fun e u' => ∃ A c, e = .returned (.slice A (alC t).length c) ∧ OI u' (u.alloc (.cells #[.map (some mb)] 60)).heap.size A c (alC t) ∧ Below (u.alloc (.cells #[.map (some mb)] 60)).heap.size (u.alloc (.cells #[.map (some mb)] 60)) u' := by
  obtain ⟨D, h3, hp, hsz⟩ := mn_keys h.mp
  rw [enC_keys] at hp
  have hf := hg.few
  have hl : (enC_ pl t.l).length = t.l.length := List.length_map _
  rw [hl] at hsz
  refine ((callsIn_wide (n := 5)).1 (Try.slices_Sorted_keys_i mb _ D cRP u h3 (by unfold maxLen; omega) (by omega))).mono fun e w' hh => ?_
  obtain ⟨v, ss, rfl, hss, hrow, hnil, hb⟩ := hh
  have hpp : ss.Perm (alC t) := hss.trans hp.symm
  have hsort := sorted_ints (l := alC t) hg.up hpp
  have hlen : ss.length = (alC t).length := hpp.length_eq
  rw [hsort, hlen] at hrow
  obtain ⟨L, hL⟩ : ∃ L, alC t = L := ⟨_, rfl⟩
  rw [hL] at hrow hlen ⊢
  by_cases hz : L = []
  · subst hz
    have hv : v = .slice none 0 0 := hnil.2 (List.eq_nil_of_length_eq_zero hlen)
    subst hv
    exact ⟨none, 0, rfl, hrow, hb⟩
  · have hpos : 0 < L.length := List.length_pos_iff.2 hz
    obtain ⟨q, cap, hv, hbb, hlq⟩ := World.ownsRow.form hrow hpos
    subst hv
    exact ⟨some ⟨q, 0, none⟩, cap, rfl, hrow, hb⟩
theorem OI.low {w : World} {B B' : Nat} {A : Option Addr} {c : Nat} {L : List Int} (h : OI w B A c L) (hB : B' ≤ B) : OI w B' A c L := by
  refine ⟨h.1, ?_⟩
  rcases h.2 with hn | ⟨g, cap, cur, hv, hg, r⟩
  · exact .inl hn
  · exact .inr ⟨g, cap, cur, hv, Nat.le_trans hB hg, r⟩
set_option maxRecDepth 100000 in
set_option maxHeartbeats 2000000 in
theorem c_all (h : Zc W u H tb t) (hg : Gc t) (n : Nat) (hn : (alC t).length = n) :
    Calls Try.prog 13 #[.pointer (some ⟨tb, 0, none⟩)] u fun e u' => ∃ A c, e = .returned (.slice A n c) ∧ OI u' u.heap.size A c (alC t) ∧ Below u.heap.size u u' := by
  obtain ⟨mb, pl, hz⟩ := h.ex
  have c0 : u.cell? ⟨tb, 0, none⟩ = some (.map (some mb)) := hz.tk.cell 0
  have HK := Lib.hid (ckeys_ok mb u)
  have HS := csorted_ok hz hg
  rw [hn] at HS
  have HS := Lib.hid HS
  clear h hz hg hn
  go_enter Try.func13, Try.ntmps13
  go_wp2_with (first | (go_at_call 35; (with_reducible refine HK.out.mono ?_); rintro e v1 ⟨rfl, hw⟩; rw [hw]; clear hw) | (go_at_call 34; (with_reducible refine HS.out.mono ?_); rintro e v2 ⟨A5, c5, rfl, j1, j2⟩; have J := Lib.hid (And.intro j1 j2); clear j1 j2))
  go_ret
  have h0 := (Below.refl u.heap.size u).alloc (Nat.le_refl _) (.cells #[.map (some mb)] 60)
  exact ⟨A5, c5, rfl, J.out.1.low h0.size, h0.trans (J.out.2.mono h0.size)⟩
end
end Go.Proofs.Ytndamiocmdnenaa
