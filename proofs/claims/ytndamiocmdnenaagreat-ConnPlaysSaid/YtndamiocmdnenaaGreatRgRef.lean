/- The document's own ring: its contracts. (Written by gen_rgref.py.) -/
import Derived.Test.YtndamiocmdnenaaGreatG8
namespace Go.Proofs.YtndamiocmdnenaaGreat
set_option linter.unusedVariables false
set_option maxRecDepth 100000
set_option linter.unusedSimpArgs false
open Go.RowKit

abbrev refcells (A : Option Addr) (k c m : Nat) : Array Value := #[.slice A k c, .int .i64 (m : Int)]
/-- At s lies the document's ring, of at most m bytes: the bytes q, in memory behind s. -/
structure Rs (u : World) (s m : Nat) (q : List UInt8) (A : Option Addr) (c : Nat) : Prop where
  bk : Bk u s 89 (refcells A q.length c m)
  rd : Rf u (List.range (s + 1)) A q
  cap : q.length ≤ c
  max : c ≤ 9223372036854775807
  nil_ : A = none → q.length = 0 ∧ c = 0
  fit : q.length ≤ m
  most : m ≤ 65536

theorem Rs.ke {u u' : World} {s m : Nat} {q : List UInt8} {A : Option Addr} {c : Nat} {L : List Nat} (h : Rs u s m q A c) (k : Ke L u u') (hL : ∀ x ∈ L, x < s) : Rs u' s m q A c :=
  ⟨h.bk.ke k (fun hx => by have := hL s hx; omega), h.rd.ke k (fun x hx => by have := hL x hx; simp; omega), h.cap, h.max, h.nil_, h.fit, h.most⟩
theorem ref_cells {u : World} {s k m c : Nat} {A : Option Addr} {t : TypeId} (h : Bk u s t (refcells A k c m)) : u.cell? ⟨s, 0, none⟩ = some (.slice A k c) ∧ u.cell? ⟨s, 1, none⟩ = some (.int .i64 (m : Int)) ∧ u.frozen? ⟨s, 0, none⟩ = false :=
  ⟨by rw [h.cell]; rfl, by rw [h.cell]; rfl, h.frozen 0⟩
theorem ref_set {u : World} {s k m c k' c' : Nat} {A A' : Option Addr} {t : TypeId} (h : Bk u s t (refcells A k c m)) : Bk (u.setCell ⟨s, 0, none⟩ (.slice A' k' c')) s t (refcells A' k' c' m) := h.set 0 _
theorem OB.rfR {w : World} {B : Nat} {e : TypeId} {A : Option Addr} {c : Nat} {l : List UInt8} {L : List Nat} (h : OB w B e A c l) (hL : ∀ x ∈ L, x < B) : Rf w L A l := by
  by_cases h0 : l = []
  · exact .inl h0
  · obtain ⟨g, rfl, hg, hl⟩ := h.form h0
    rcases h.rb with h1 | ⟨b, o, e1, _, hc⟩
    · exact absurd h1 h0
    · injection e1 with e1
      injection e1 with e2 e3
      subst e2; subst e3
      exact .inr ⟨g, 0, rfl, fun hx => by have := hL g hx; omega, hl, hc⟩

set_option maxRecDepth 100000 in
set_option maxHeartbeats 4000000 in
/-- New. -/
theorem rnew_ok (x : Int) (u : World) :
    Calls Tryz.prog 69 #[.int .i64 x] u fun e u' => e = .returned (.pointer (some ⟨u.heap.size, 0, none⟩)) ∧ Rs u' u.heap.size (mostM x) [] none 0 ∧ Ke [] u u' := by
  obtain ⟨X, hX⟩ : ∃ X, max x 0 = X := ⟨_, rfl⟩
  obtain ⟨m, hm⟩ : ∃ m, mostM x = m := ⟨_, rfl⟩
  have hm6 : m ≤ 65536 := by unfold mostM at hm; omega
  have HX := Lib.hid (show max x 0 = X ∧ min X 65536 = (m : Int) from ⟨hX, by subst hX; subst hm; unfold mostM; omega⟩)
  rw [hm]
  clear hX hm
  go_enter Tryz.func69, Tryz.ntmps69
  go_wp2_with (first
    | (refine wpList_max rfl (.tmp 3) (.const (.int .i64 0)) 3 rfl _ _ _ rfl rfl HX.out.1 ?_)
    | (refine wpList_min rfl (.tmp 4) (.const (.int .i64 65536)) 3 rfl _ _ _ rfl rfl HX.out.2 ?_))
  go_ret
  exact ⟨rfl, ⟨Bk.new _ _ _, .inl rfl, by simp, by omega, fun _ => ⟨rfl, rfl⟩, by simp, hm6⟩, Ke.one [] _ _⟩

set_option maxRecDepth 100000 in
set_option maxHeartbeats 8000000 in
/-- Take. -/
theorem rtake_ok (s m : Nat) (x : Int) (q : List UInt8) (A : Option Addr) (c : Nat) (u : World) (h : Rs u s m q A c) (k t : Nat) (hk : q.length = k) (ht : takeM x k = t) :
    Calls Tryz.prog 73 #[.pointer (some ⟨s, 0, none⟩), .int .i64 x] u fun e u' => ∃ A2 c2 A4 c4, e = .returned (.slice A2 t c2) ∧ Rb u' u'.heap.size A2 (q.take t) ∧ Rs u' s m (q.drop t) A4 c4 ∧ Ke [s] u u' := by
  have htk : t ≤ k := ht ▸ takeM_le _ _
  have hkm : k ≤ m := hk ▸ h.fit
  have hm6 := h.most
  have hkc : k ≤ c := hk ▸ h.cap
  have hcm := h.max
  obtain ⟨X, hX⟩ : ∃ X, max x 0 = X := ⟨_, rfl⟩
  have HX := Lib.hid (show max x 0 = X ∧ min X (k : Int) = (t : Int) from ⟨hX, take_min _ _ _ _ hX ht⟩)
  obtain ⟨c0, c1, hz⟩ := ref_cells h.bk
  rw [hk] at c0
  have c0' : ∀ ob, (u.alloc ob).cell? ⟨s, 0, none⟩ = some (.slice A k c) := fun ob => by
    have := (ref_cells (h.ke (Ke.one [] u ob) (by simp)).bk).1
    rw [hk] at this
    exact this
  have H := Lib.hid h
  have HK := Lib.hid hk
  obtain ⟨d, hd⟩ : ∃ d, k - t = d := ⟨_, rfl⟩
  have hdk : d ≤ k := by omega
  have hd6 : d ≤ 65536 := by omega
  have HSL := Lib.hid (fun v => slice_to A k c t htk hkc v)
  have hsf := (fun v => slice_fr A k c t htk hkc v)
  obtain ⟨TA, hTA⟩ : ∃ TA, tailA A c t = TA := ⟨_, rfl⟩
  have hnT : TA = none → d = 0 ∧ c - t = 0 := fun e => by
    rw [← hTA] at e
    have := h.nil_ (tailA_none A c t e)
    omega
  rw [hTA, hd] at hsf
  obtain ⟨F, hF⟩ : ∃ F, q.take t = F := ⟨_, rfl⟩
  obtain ⟨D, hD⟩ : ∃ D, q.drop t = D := ⟨_, rfl⟩
  have hFl : F.length = t := by rw [← hF, List.length_take, hk]; omega
  have hDl : D.length = d := by rw [← hD, List.length_drop, hk]; exact hd
  have HFD := Lib.hid (show F.length = t ∧ D.length = d ∧ Rf u (List.range (s + 1)) A F ∧ Rf u (List.range (s + 1)) TA D ∧ (A = none → t = 0 ∧ c = 0) ∧ (TA = none → d = 0 ∧ c - t = 0) from
    ⟨hFl, hDl, hF ▸ h.rd.front t, by rw [← hTA, ← hD]; exact h.rd.tail t (by rw [hk]; exact hkc), fun e => by have := h.nil_ e; omega, hnT⟩)
  have HSF := Lib.hid hsf
  rw [hF, hD]
  clear hX ht hk hsf hTA hnT hF hD hFl hDl hd
  go_enter Tryz.func73, Tryz.ntmps73
  go_upto_region 3 with (first
    | (refine wpList_max rfl (.tmp 6) (.const (.int .i64 0)) 3 rfl _ _ _ rfl rfl HX.out.1 ?_)
    | (refine wpList_min rfl (.tmp 7) (.tmp 12) 3 rfl _ _ _ rfl rfl HX.out.2 ?_)
    | (refine wpList_to rfl 30 (.tmp 18) (.tmp 19) rfl _ _ _ rfl rfl (HSL.out _) ?_)
    | (at_builtin; refine wp_app_n rfl (.tmp 14) (.tmp 20) 30 5 rfl Tryz.underlying30 bytesInfo u.heap.size [] (some ⟨u.heap.size, 0, none⟩) 0 0 rfl rfl (OB.new _ _ (Nat.le_refl _) (by simp)) F A t c _ rfl HFD.out.1 HFD.out.2.2.2.2.1 (HFD.out.2.2.1.ke (Ke.one [] _ _) (by simp)).rb (by omega) (by rw [World.size_alloc]; omega) t (by omega) ?_; intro A2 c2 w2 ho2 hg2 hb2))
  have K2 := Ke.of (((Below.refl u.heap.size u).alloc (Nat.le_refl _) _).trans hb2)
  rw [List.nil_append] at ho2
  have hsu := H.out.bk.lt
  have H2 := Lib.hid (show Rs w2 s m q A c ∧ Rf w2 [s] A2 F ∧ Ke [s] u w2 ∧ u.heap.size ≤ w2.heap.size from ⟨H.out.ke K2 (by simp), ho2.rfR (by simp; exact hsu), K2.nil, K2.size⟩)
  have HTD := Lib.hid (HFD.out.2.2.2.1.ke K2 (by simp))
  clear K2 ho2 hg2 hb2 c0 c0' c1 hz
  obtain ⟨c0, c1, hz⟩ := ref_cells H2.out.1.bk
  rw [HK.out] at c0
  have hz2 : ∀ v, Ke [] w2 v → v.cell? ⟨s, 0, none⟩ = some (.slice A k c) ∧ v.frozen? ⟨s, 0, none⟩ = false := fun v hv => by
    have := ref_cells (H2.out.1.ke hv (by simp)).bk
    rw [HK.out] at this
    exact ⟨this.1, this.2.2⟩
  have c0' : ∀ ob, (w2.alloc ob).cell? ⟨s, 0, none⟩ = some (.slice A k c) := fun ob => (hz2 _ (Ke.one [] w2 ob)).1
  have HZ2 := Lib.hid hz2
  clear hz2
  go_wp2_with (first
    | ((with_reducible refine wpList_here ?_); refine wpList_from rfl 30 (.tmp 27) (.tmp 28) rfl _ _ _ rfl rfl (HSF.out _) ?_)
    | (at_builtin; go_loud (refine wp_app_n rfl (.tmp 23) (.tmp 29) 30 5 rfl Tryz.underlying30 bytesInfo w2.heap.size [] (some ⟨w2.heap.size, 0, none⟩) 0 0 rfl rfl (OB.new _ _ (Nat.le_refl _) (by simp)) D TA d (c - t) _ rfl HFD.out.2.1 HFD.out.2.2.2.2.2 (HTD.out.ke (Ke.one [] _ _) (by simp)).rb (by omega) (by rw [World.size_alloc]; omega) d (by omega) ?_; intro A4 c4 w4 ho4 hg4 hb4; have K4 := Lib.hid (Ke.of (((Below.refl w2.heap.size w2).alloc (Nat.le_refl _) _).trans hb4)); have HO4 := Lib.hid ho4; obtain ⟨cz, hz⟩ := HZ2.out _ K4.out; clear ho4 hg4 hb4)))
  go_ret
  have ho4 := HO4.out
  rw [List.nil_append] at ho4
  have hlt := H2.out.1.bk.lt
  have K5 : Ke [s] w4 (w4.setCell ⟨s, 0, none⟩ (.slice A4 d c4)) := (Ke.refl _ _).set (p := ⟨s, 0, none⟩) (by simp) _
  refine ⟨A2, c2, A4, c4, rfl, ((H2.out.2.1.ke K4.out (by simp)).ke K5 (by simp)).rb, ⟨?_, ?_, ?_, ho4.cap.2, ?_, ?_, hm6⟩, (H2.out.2.2.1.trans K4.out.nil).trans K5⟩
  · rw [HFD.out.2.1]
    exact ref_set (H2.out.1.ke K4.out (by simp)).bk
  · exact (ho4.rfR (L := List.range (s + 1)) (by intro x hx; simp at hx; omega)).ke K5 (by simp)
  · exact ho4.cap.1
  · exact OB.nil_ ho4
  · rw [HFD.out.2.1]; omega

/-- What Add comes to. -/
def RaddP (s m x : Nat) (q : List UInt8) (u : World) (e : Ending) (u' : World) : Prop := ∃ A4 c4, e = .returned (.int .i64 (x : Int)) ∧ Rs u' s m q A4 c4 ∧ Ke [s] u u'

set_option maxRecDepth 100000 in
set_option maxHeartbeats 16000000 in
/-- Add. -/
theorem radd_ok (s m : Nat) (B : Option Addr) (n cb : Nat) (l q : List UInt8) (A : Option Addr) (c : Nat) (u : World) (h : Rs u s m q A c) (hl : l.length = n) (hcb : n ≤ cb) (hcm : cb ≤ 9223372036854775807) (hn0 : B = none → n = 0 ∧ cb = 0) (hR : Rf u [s] B l) (k z x : Nat) (hk : q.length = k) (hz : m - k = z) (hx : min n z = x) :
    Calls Tryz.prog 71 #[.pointer (some ⟨s, 0, none⟩), .slice B n cb] u fun e u' => RaddP s m x (q ++ l.take z) u e u' := by
  have hkm : k ≤ m := hk ▸ h.fit
  have hm6 := h.most
  have hkc : k ≤ c := hk ▸ h.cap
  have hcmx := h.max
  have hxn : x ≤ n := by omega
  have hx6 : x ≤ 65536 := by omega
  obtain ⟨z1, z2⟩ := iwrap ((m : Int) - (k : Int)) z (by omega) (by omega)
  have HMIN := Lib.hid (show min (n : Int) (z : Int) = (x : Int) by omega)
  have H := Lib.hid h
  have HK := Lib.hid hk
  have HSL := Lib.hid (fun v => slice_to B n cb x hxn hcb v)
  obtain ⟨C, hC⟩ : ∃ C, l.take z = C := ⟨_, rfl⟩
  have hCx : C = l.take x := by
    rw [← hC]
    rcases Nat.lt_or_ge n z with h1 | h1
    · rw [List.take_of_length_le (by omega), List.take_of_length_le (by omega)]
    · rw [show x = z by omega]
  have HC := Lib.hid (show C.length = x ∧ Rf u [s] B C ∧ (B = none → x = 0 ∧ cb = 0) from ⟨by rw [hCx, List.length_take, hl]; omega, hCx ▸ hR.front x, fun e => by have := hn0 e; omega⟩)
  have HCC := Lib.hid (show ∃ v, u.drew = v from ⟨_, rfl⟩)
  have HD := Lib.hid (ref_cells (h.ke (L := []) (Ke.refl _ _).drew (by simp)).bk)
  have HZ := Lib.hid hz
  rw [hC]
  clear HCC hC hCx hl hR hn0 h hk hz hx
  go_enter Tryz.func71, Tryz.ntmps71
  go_upto_region 1 with (fail)
  try simp only [List.cons_append, List.nil_append]
  refine wp_region_held_drew (S := fun v => v.cell? ⟨s, 0, none⟩ = some (.slice A k c) ∧ v.cell? ⟨s, 1, none⟩ = some (.int .i64 (m : Int))) (by kernel_rfl) (by have := HD.out; rw [HK.out] at this; exact ⟨this.1, this.2.1⟩) (fun hHeld => ?_)
  refine take_at (some 6) (i := 0) (v := ?_) rfl rfl (by kernel_rfl) (by kernel_rfl) (by kernel_rfl) (fun _ _ _ h => h) (Or.inl ⟨by kernel_rfl, ?_⟩) hHeld ?_
  rotate_left
  · intro wz hSw; obtain ⟨k0, k1⟩ := hSw; go_simp; try (with_reducible rfl)
  try simp only [Act.put, List.setIfInBounds_toArray, List.set_cons_zero, List.set_cons_succ, List.getElem_toArray, List.getElem_cons_succ, List.getElem_cons_zero]
  refine take_at (some 7) (i := 1) (v := ?_) rfl rfl (by kernel_rfl) (by kernel_rfl) (by kernel_rfl) (fun _ _ _ h => h) (Or.inl ⟨by kernel_rfl, ?_⟩) hHeld ?_
  rotate_left
  · intro wz hSw; obtain ⟨k0, k1⟩ := hSw; go_simp; try (with_reducible rfl)
  try simp only [Act.put, List.setIfInBounds_toArray, List.set_cons_zero, List.set_cons_succ, List.getElem_toArray, List.getElem_cons_succ, List.getElem_cons_zero]
  refine take_at (some 8) (i := 2) (v := ?_) rfl rfl (by kernel_rfl) (by kernel_rfl) (by kernel_rfl) (fun _ _ _ h => h) (Or.inl ⟨by kernel_rfl, ?_⟩) hHeld ?_
  rotate_left
  · intro wz hSw; obtain ⟨k0, k1⟩ := hSw; go_simp; try (with_reducible rfl)
  try simp only [Act.put, List.setIfInBounds_toArray, List.set_cons_zero, List.set_cons_succ, List.getElem_toArray, List.getElem_cons_succ, List.getElem_cons_zero]
  refine take_at (some 9) (i := 3) (v := ?_) rfl rfl (by kernel_rfl) (by kernel_rfl) (by kernel_rfl) (fun _ _ _ h => h) (Or.inl ⟨by kernel_rfl, ?_⟩) hHeld ?_
  rotate_left
  · intro wz hSw; obtain ⟨k0, k1⟩ := hSw; go_simp; try (with_reducible rfl)
  try simp only [Act.put, List.setIfInBounds_toArray, List.set_cons_zero, List.set_cons_succ, List.getElem_toArray, List.getElem_cons_succ, List.getElem_cons_zero]
  refine take_at (some 10) (i := 4) (v := ?_) rfl rfl (by kernel_rfl) (by kernel_rfl) (by kernel_rfl) (fun _ _ _ h => h) (Or.inl ⟨by kernel_rfl, ?_⟩) hHeld ?_
  rotate_left
  · intro wz hSw; obtain ⟨k0, k1⟩ := hSw; go_simp; try (with_reducible rfl)
  try simp only [Act.put, List.setIfInBounds_toArray, List.set_cons_zero, List.set_cons_succ, List.getElem_toArray, List.getElem_cons_succ, List.getElem_cons_zero]
  refine take_at (some 11) (i := 5) (v := ?_) rfl rfl (by kernel_rfl) (by kernel_rfl) (by kernel_rfl) (fun _ _ _ h => h) (Or.inl ⟨by kernel_rfl, ?_⟩) hHeld ?_
  rotate_left
  · intro wz hSw; obtain ⟨k0, k1⟩ := hSw; go_simp; try (with_reducible rfl)
  try simp only [Act.put, List.setIfInBounds_toArray, List.set_cons_zero, List.set_cons_succ, List.getElem_toArray, List.getElem_cons_succ, List.getElem_cons_zero]
  refine take_at (some 12) (i := 6) (v := ?_) rfl rfl (by kernel_rfl) (by kernel_rfl) (by kernel_rfl) (fun _ _ _ h => h) (Or.inl ⟨by kernel_rfl, ?_⟩) hHeld ?_
  rotate_left
  · intro wz hSw; obtain ⟨k0, k1⟩ := hSw; go_simp; try (with_reducible rfl)
  try simp only [Act.put, List.setIfInBounds_toArray, List.set_cons_zero, List.set_cons_succ, List.getElem_toArray, List.getElem_cons_succ, List.getElem_cons_zero]
  refine take_at (some 13) (i := 7) (v := ?_) rfl rfl (by kernel_rfl) (by kernel_rfl) (by kernel_rfl) (fun _ _ _ h => h) (Or.inl ⟨by kernel_rfl, ?_⟩) hHeld ?_
  rotate_left
  · intro wz hSw; obtain ⟨k0, k1⟩ := hSw; go_simp; try (with_reducible rfl)
  try simp only [Act.put, List.setIfInBounds_toArray, List.set_cons_zero, List.set_cons_succ, List.getElem_toArray, List.getElem_cons_succ, List.getElem_cons_zero]
  refine take_at (some 14) (i := 8) (v := ?_) rfl rfl (by kernel_rfl) (by kernel_rfl) (by kernel_rfl) (fun _ _ _ h => h) (Or.inl ⟨by kernel_rfl, ?_⟩) hHeld ?_
  rotate_left
  · intro wz hSw; obtain ⟨k0, k1⟩ := hSw; go_simp; try (with_reducible rfl)
  try simp only [Act.put, List.setIfInBounds_toArray, List.set_cons_zero, List.set_cons_succ, List.getElem_toArray, List.getElem_cons_succ, List.getElem_cons_zero]
  refine take_at (some 15) (i := 9) (v := ?_) rfl rfl (by kernel_rfl) (by kernel_rfl) (by kernel_rfl) (fun _ _ _ h => h) (Or.inl ⟨by kernel_rfl, ?_⟩) hHeld ?_
  rotate_left
  · intro wz hSw; obtain ⟨k0, k1⟩ := hSw; go_simp; try (with_reducible rfl)
  try simp only [Act.put, List.setIfInBounds_toArray, List.set_cons_zero, List.set_cons_succ, List.getElem_toArray, List.getElem_cons_succ, List.getElem_cons_zero]
  refine take_at (some 16) (i := 10) (v := ?_) rfl rfl (by kernel_rfl) (by kernel_rfl) (by kernel_rfl) (fun _ _ _ h => h) (Or.inl ⟨by kernel_rfl, ?_⟩) hHeld ?_
  rotate_left
  · intro wz hSw; obtain ⟨k0, k1⟩ := hSw; go_simp; try (with_reducible rfl)
  try simp only [Act.put, List.setIfInBounds_toArray, List.set_cons_zero, List.set_cons_succ, List.getElem_toArray, List.getElem_cons_succ, List.getElem_cons_zero]
  refine take_at (some 17) (i := 11) (v := ?_) rfl rfl (by kernel_rfl) (by kernel_rfl) (by kernel_rfl) (fun _ _ _ h => h) (Or.inl ⟨by kernel_rfl, ?_⟩) hHeld ?_
  rotate_left
  · intro wz hSw; obtain ⟨k0, k1⟩ := hSw; go_simp; try (with_reducible rfl)
  try simp only [Act.put, List.setIfInBounds_toArray, List.set_cons_zero, List.set_cons_succ, List.getElem_toArray, List.getElem_cons_succ, List.getElem_cons_zero]
  refine take_at (some 18) (i := 12) rfl rfl (by kernel_rfl) (by kernel_rfl) (by kernel_rfl) (fun _ _ _ h => h) (yieldsIf_min (by kernel_rfl) (.tmp 7) (.tmp 17) 3 rfl _ _ _ rfl rfl HMIN.out) hHeld ?_
  try simp only [Act.put, List.setIfInBounds_toArray, List.set_cons_zero, List.set_cons_succ, List.getElem_toArray, List.getElem_cons_succ, List.getElem_cons_zero]
  refine take_at (some 5) (i := 13) (v := ?_) rfl rfl (by kernel_rfl) (by kernel_rfl) (by kernel_rfl) (fun _ _ _ h => h) (Or.inl ⟨by kernel_rfl, ?_⟩) hHeld ?_
  rotate_left
  · intro wz hSw; obtain ⟨k0, k1⟩ := hSw; go_simp; try (with_reducible rfl)
  try simp only [Act.put, List.setIfInBounds_toArray, List.set_cons_zero, List.set_cons_succ, List.getElem_toArray, List.getElem_cons_succ, List.getElem_cons_zero]
  refine wpAnyH_done (by kernel_rfl) ?_ _
  clear hHeld HD
  have H1 := Lib.hid (show Rs u.drew.drew s m q A c ∧ Rf u.drew.drew [s] B C ∧ Ke [] u u.drew.drew from ⟨H.out.ke (L := []) (Ke.refl _ _).drew.drew (by simp), HC.out.2.1.ke (L' := []) (Ke.refl _ _).drew.drew (by simp), (Ke.refl _ _).drew.drew⟩)
  go_upto_region 2 with (fail)
  try simp only [List.cons_append, List.nil_append]
  refine wp_region_held_drew (S := fun _ => True) (by kernel_rfl) (trivial) (fun hHeld => ?_)
  clear hHeld
  generalize u.drew.drew = v1 at H1 ⊢
  have hHeld : (fun _ : World => True) v1 := trivial
  obtain ⟨c0, c1, hf⟩ := ref_cells H1.out.1.bk
  rw [HK.out] at c0
  have HF := Lib.hid hf
  have hlt := H1.out.1.bk.lt
  have c0' : ∀ ob, (v1.alloc ob).cell? ⟨s, 0, none⟩ = some (.slice A k c) := fun ob => by
    have := (ref_cells (H1.out.1.ke (Ke.one [] v1 ob) (by simp)).bk).1
    rw [HK.out] at this
    exact this
  clear hf c1
  refine take_at (some 19) (i := 0) (v := ?_) rfl rfl (by kernel_rfl) (by kernel_rfl) (by kernel_rfl) (fun _ _ _ h => h) (Or.inl ⟨by kernel_rfl, ?_⟩) hHeld ?_
  rotate_left
  · intro wz hSw; go_simp; try (with_reducible rfl)
  try simp only [Act.put, List.setIfInBounds_toArray, List.set_cons_zero, List.set_cons_succ, List.getElem_toArray, List.getElem_cons_succ, List.getElem_cons_zero]
  refine take_at (some 21) (i := 2) (v := ?_) rfl rfl (by kernel_rfl) (by kernel_rfl) (by kernel_rfl) (fun _ _ _ h => h) (Or.inl ⟨by kernel_rfl, ?_⟩) hHeld ?_
  rotate_left
  · intro wz hSw; go_simp; try (with_reducible rfl)
  try simp only [Act.put, List.setIfInBounds_toArray, List.set_cons_zero, List.set_cons_succ, List.getElem_toArray, List.getElem_cons_succ, List.getElem_cons_zero]
  refine take_at (some 22) (i := 3) (v := ?_) rfl rfl (by kernel_rfl) (by kernel_rfl) (by kernel_rfl) (fun _ _ _ h => h) (Or.inl ⟨by kernel_rfl, ?_⟩) hHeld ?_
  rotate_left
  · intro wz hSw; go_simp; try (with_reducible rfl)
  try simp only [Act.put, List.setIfInBounds_toArray, List.set_cons_zero, List.set_cons_succ, List.getElem_toArray, List.getElem_cons_succ, List.getElem_cons_zero]
  refine take_at (some 23) (i := 4) (v := ?_) rfl rfl (by kernel_rfl) (by kernel_rfl) (by kernel_rfl) (fun _ _ _ h => h) (Or.inl ⟨by kernel_rfl, ?_⟩) hHeld ?_
  rotate_left
  · intro wz hSw; go_simp; try (with_reducible rfl)
  try simp only [Act.put, List.setIfInBounds_toArray, List.set_cons_zero, List.set_cons_succ, List.getElem_toArray, List.getElem_cons_succ, List.getElem_cons_zero]
  refine take_at (some 26) (i := 7) (v := ?_) rfl rfl (by kernel_rfl) (by kernel_rfl) (by kernel_rfl) (fun _ _ _ h => h) (Or.inl ⟨by kernel_rfl, ?_⟩) hHeld ?_
  rotate_left
  · intro wz hSw; go_simp; try (with_reducible rfl)
  try simp only [Act.put, List.setIfInBounds_toArray, List.set_cons_zero, List.set_cons_succ, List.getElem_toArray, List.getElem_cons_succ, List.getElem_cons_zero]
  refine take_at (some 27) (i := 8) (v := ?_) rfl rfl (by kernel_rfl) (by kernel_rfl) (by kernel_rfl) (fun _ _ _ h => h) (Or.inl ⟨by kernel_rfl, ?_⟩) hHeld ?_
  rotate_left
  · intro wz hSw; go_simp; try (with_reducible rfl)
  try simp only [Act.put, List.setIfInBounds_toArray, List.set_cons_zero, List.set_cons_succ, List.getElem_toArray, List.getElem_cons_succ, List.getElem_cons_zero]
  refine take_at (some 28) (i := 9) rfl rfl (by kernel_rfl) (by kernel_rfl) (by kernel_rfl) (fun _ _ _ h => h) (yieldsIf_slice (by kernel_rfl) 30 (.tmp 26) none (some (.tmp 27)) rfl (.slice B x cb) HSL.out) hHeld ?_
  try simp only [Act.put, List.setIfInBounds_toArray, List.set_cons_zero, List.set_cons_succ, List.getElem_toArray, List.getElem_cons_succ, List.getElem_cons_zero]
  refine wpAnyH_ready (rs := [1, 5]) (by kernel_rfl) (by simp) (AllReadyH.cons rfl (fun K hK => ?_) (AllReadyH.cons rfl (fun K hK => ?_) AllReadyH.nil))
  · rw [if_pos (by kernel_rfl)]
    go_simp
    refine hK.out _ _ trivial (fun hHeld => ?_)
    try simp only [Act.put, List.setIfInBounds_toArray, List.set_cons_zero, List.set_cons_succ, List.getElem_toArray, List.getElem_cons_succ, List.getElem_cons_zero]
    refine wpAnyH_ready (rs := [5]) (by kernel_rfl) (by simp) (AllReadyH.cons rfl (fun K hK => ?_) AllReadyH.nil)
    rw [if_pos (by kernel_rfl)]
    go_simp
    refine hK.out _ _ trivial (fun hHeld => ?_)
    try simp only [Act.put, List.setIfInBounds_toArray, List.set_cons_zero, List.set_cons_succ, List.getElem_toArray, List.getElem_cons_succ, List.getElem_cons_zero]
    refine wpAnyH_ready (rs := [6]) (by kernel_rfl) (by simp) (AllReadyH.cons rfl (fun K hK => ?_) AllReadyH.nil)
    rw [if_pos (by kernel_rfl)]
    refine op_app_any (.tmp 20) (.tmp 24) 30 5 rfl Tryz.underlying30 bytesInfo v1.heap.size [] (some ⟨v1.heap.size, 0, none⟩) 0 0 rfl rfl (OB.new _ _ (Nat.le_refl _) (by simp)) q A k c _ rfl HK.out (HK.out ▸ H1.out.1.nil_) (H1.out.1.rd.ke (Ke.one [] _ _) (by simp)).rb (by rw [HK.out]; simp; omega) (by rw [World.size_alloc]; omega) ?_
    intro A2 c2 w2 ho2 hg2 hb2
    have K2 := Ke.of (((Below.refl v1.heap.size v1).alloc (Nat.le_refl _) _).trans hb2)
    rw [List.nil_append] at ho2 ⊢
    rw [HK.out]
    have H2 := Lib.hid (show OB w2 v1.heap.size 5 A2 c2 q ∧ Ke [] v1 w2 ∧ Rf w2 [s] B C from ⟨ho2, K2, H1.out.2.1.ke K2 (by simp)⟩)
    clear ho2 hg2 hb2 K2
    refine hK.out _ _ trivial (fun hHeld => ?_)
    try simp only [Act.put, List.setIfInBounds_toArray, List.set_cons_zero, List.set_cons_succ, List.getElem_toArray, List.getElem_cons_succ, List.getElem_cons_zero]
    refine wpAnyH_ready (rs := [10]) (by kernel_rfl) (by simp) (AllReadyH.cons rfl (fun K hK => ?_) AllReadyH.nil)
    rw [if_pos (by kernel_rfl)]
    refine op_app_any (.tmp 25) (.tmp 28) 30 5 rfl Tryz.underlying30 bytesInfo v1.heap.size q A2 k c2 rfl HK.out H2.out.1 C B x cb _ rfl HC.out.1 HC.out.2.2 H2.out.2.2.rb (by rw [HK.out, HC.out.1]; omega) H2.out.2.1.size ?_
    intro A4 c4 w4 ho4 hg4 hb4
    obtain ⟨kx, hkx⟩ : ∃ kx, (q ++ C).length = kx := ⟨_, rfl⟩
    rw [hkx]
    have HKX := Lib.hid hkx
    clear hkx
    have K4 : Ke [] v1 w4 := Ke.of ((H2.out.2.1.below (Nat.le_refl _) (by simp)).trans hb4)
    have H4 := Lib.hid (show OB w4 v1.heap.size 5 A4 c4 (q ++ C) ∧ Ke [] v1 w4 ∧ Rs w4 s m q A c from ⟨ho4, K4, H1.out.1.ke K4 (by simp)⟩)
    clear ho4 hg4 hb4 K4
    refine hK.out _ _ trivial (fun hHeld => ?_)
    try simp only [Act.put, List.setIfInBounds_toArray, List.set_cons_zero, List.set_cons_succ, List.getElem_toArray, List.getElem_cons_succ, List.getElem_cons_zero]
    refine take_at (some 30) (i := 11) (v := ?_) rfl rfl (by kernel_rfl) (by kernel_rfl) (by kernel_rfl) (fun _ _ _ h => h) (Or.inl ⟨by kernel_rfl, ?_⟩) hHeld ?_
    rotate_left
    · intro wz hSw; go_simp; try (with_reducible rfl)
    try simp only [Act.put, List.setIfInBounds_toArray, List.set_cons_zero, List.set_cons_succ, List.getElem_toArray, List.getElem_cons_succ, List.getElem_cons_zero]
    refine take_at (some 31) (i := 12) (v := ?_) rfl rfl (by kernel_rfl) (by kernel_rfl) (by kernel_rfl) (fun _ _ _ h => h) (Or.inl ⟨by kernel_rfl, ?_⟩) hHeld ?_
    rotate_left
    · intro wz hSw; go_simp; try (with_reducible rfl)
    try simp only [Act.put, List.setIfInBounds_toArray, List.set_cons_zero, List.set_cons_succ, List.getElem_toArray, List.getElem_cons_succ, List.getElem_cons_zero]
    refine wpAnyH_ready (rs := [13]) (by kernel_rfl) (by simp) (AllReadyH.cons rfl (fun K hK => ?_) AllReadyH.nil)
    rw [if_pos (by kernel_rfl)]
    obtain ⟨cz, _, hz4⟩ := ref_cells H4.out.2.2.bk
    go_simp
    refine hK.out _ _ trivial (fun hHeld => ?_)
    try simp only [Act.put, List.setIfInBounds_toArray, List.set_cons_zero, List.set_cons_succ, List.getElem_toArray, List.getElem_cons_succ, List.getElem_cons_zero]
    refine wpAnyH_done (by kernel_rfl) ?_ _
    clear hHeld
    go_wp2_with fail
    go_ret
    have ho4 := H4.out.1
    have K5 : Ke [s] w4 (w4.setCell ⟨s, 0, none⟩ (.slice A4 kx c4)) := (Ke.refl _ _).set (p := ⟨s, 0, none⟩) (by simp) _
    refine ⟨A4, c4, rfl, ⟨by rw [HKX.out]; exact ref_set H4.out.2.2.bk, (ho4.rfR (L := List.range (s + 1)) (by intro y hy; simp at hy; omega)).ke K5 (by simp), ho4.cap.1, ho4.cap.2, OB.nil_ ho4, ?_, hm6⟩, (H1.out.2.2.nil.trans H4.out.2.1.nil).trans K5⟩
    rw [List.length_append, HK.out, HC.out.1]
    have := HMIN.out; have := HZ.out; omega
  · rw [if_pos (by kernel_rfl)]
    go_simp
    refine hK.out _ _ trivial (fun hHeld => ?_)
    try simp only [Act.put, List.setIfInBounds_toArray, List.set_cons_zero, List.set_cons_succ, List.getElem_toArray, List.getElem_cons_succ, List.getElem_cons_zero]
    refine wpAnyH_ready (rs := [1]) (by kernel_rfl) (by simp) (AllReadyH.cons rfl (fun K hK => ?_) AllReadyH.nil)
    rw [if_pos (by kernel_rfl)]
    go_simp
    refine hK.out _ _ trivial (fun hHeld => ?_)
    try simp only [Act.put, List.setIfInBounds_toArray, List.set_cons_zero, List.set_cons_succ, List.getElem_toArray, List.getElem_cons_succ, List.getElem_cons_zero]
    refine wpAnyH_ready (rs := [6]) (by kernel_rfl) (by simp) (AllReadyH.cons rfl (fun K hK => ?_) AllReadyH.nil)
    rw [if_pos (by kernel_rfl)]
    refine op_app_any (.tmp 20) (.tmp 24) 30 5 rfl Tryz.underlying30 bytesInfo v1.heap.size [] (some ⟨v1.heap.size, 0, none⟩) 0 0 rfl rfl (OB.new _ _ (Nat.le_refl _) (by simp)) q A k c _ rfl HK.out (HK.out ▸ H1.out.1.nil_) (H1.out.1.rd.ke (Ke.one [] _ _) (by simp)).rb (by rw [HK.out]; simp; omega) (by rw [World.size_alloc]; omega) ?_
    intro A2 c2 w2 ho2 hg2 hb2
    have K2 := Ke.of (((Below.refl v1.heap.size v1).alloc (Nat.le_refl _) _).trans hb2)
    rw [List.nil_append] at ho2 ⊢
    rw [HK.out]
    have H2 := Lib.hid (show OB w2 v1.heap.size 5 A2 c2 q ∧ Ke [] v1 w2 ∧ Rf w2 [s] B C from ⟨ho2, K2, H1.out.2.1.ke K2 (by simp)⟩)
    clear ho2 hg2 hb2 K2
    refine hK.out _ _ trivial (fun hHeld => ?_)
    try simp only [Act.put, List.setIfInBounds_toArray, List.set_cons_zero, List.set_cons_succ, List.getElem_toArray, List.getElem_cons_succ, List.getElem_cons_zero]
    refine wpAnyH_ready (rs := [10]) (by kernel_rfl) (by simp) (AllReadyH.cons rfl (fun K hK => ?_) AllReadyH.nil)
    rw [if_pos (by kernel_rfl)]
    refine op_app_any (.tmp 25) (.tmp 28) 30 5 rfl Tryz.underlying30 bytesInfo v1.heap.size q A2 k c2 rfl HK.out H2.out.1 C B x cb _ rfl HC.out.1 HC.out.2.2 H2.out.2.2.rb (by rw [HK.out, HC.out.1]; omega) H2.out.2.1.size ?_
    intro A4 c4 w4 ho4 hg4 hb4
    obtain ⟨kx, hkx⟩ : ∃ kx, (q ++ C).length = kx := ⟨_, rfl⟩
    rw [hkx]
    have HKX := Lib.hid hkx
    clear hkx
    have K4 : Ke [] v1 w4 := Ke.of ((H2.out.2.1.below (Nat.le_refl _) (by simp)).trans hb4)
    have H4 := Lib.hid (show OB w4 v1.heap.size 5 A4 c4 (q ++ C) ∧ Ke [] v1 w4 ∧ Rs w4 s m q A c from ⟨ho4, K4, H1.out.1.ke K4 (by simp)⟩)
    clear ho4 hg4 hb4 K4
    refine hK.out _ _ trivial (fun hHeld => ?_)
    try simp only [Act.put, List.setIfInBounds_toArray, List.set_cons_zero, List.set_cons_succ, List.getElem_toArray, List.getElem_cons_succ, List.getElem_cons_zero]
    refine take_at (some 30) (i := 11) (v := ?_) rfl rfl (by kernel_rfl) (by kernel_rfl) (by kernel_rfl) (fun _ _ _ h => h) (Or.inl ⟨by kernel_rfl, ?_⟩) hHeld ?_
    rotate_left
    · intro wz hSw; go_simp; try (with_reducible rfl)
    try simp only [Act.put, List.setIfInBounds_toArray, List.set_cons_zero, List.set_cons_succ, List.getElem_toArray, List.getElem_cons_succ, List.getElem_cons_zero]
    refine take_at (some 31) (i := 12) (v := ?_) rfl rfl (by kernel_rfl) (by kernel_rfl) (by kernel_rfl) (fun _ _ _ h => h) (Or.inl ⟨by kernel_rfl, ?_⟩) hHeld ?_
    rotate_left
    · intro wz hSw; go_simp; try (with_reducible rfl)
    try simp only [Act.put, List.setIfInBounds_toArray, List.set_cons_zero, List.set_cons_succ, List.getElem_toArray, List.getElem_cons_succ, List.getElem_cons_zero]
    refine wpAnyH_ready (rs := [13]) (by kernel_rfl) (by simp) (AllReadyH.cons rfl (fun K hK => ?_) AllReadyH.nil)
    rw [if_pos (by kernel_rfl)]
    obtain ⟨cz, _, hz4⟩ := ref_cells H4.out.2.2.bk
    go_simp
    refine hK.out _ _ trivial (fun hHeld => ?_)
    try simp only [Act.put, List.setIfInBounds_toArray, List.set_cons_zero, List.set_cons_succ, List.getElem_toArray, List.getElem_cons_succ, List.getElem_cons_zero]
    refine wpAnyH_done (by kernel_rfl) ?_ _
    clear hHeld
    go_wp2_with fail
    go_ret
    have ho4 := H4.out.1
    have K5 : Ke [s] w4 (w4.setCell ⟨s, 0, none⟩ (.slice A4 kx c4)) := (Ke.refl _ _).set (p := ⟨s, 0, none⟩) (by simp) _
    refine ⟨A4, c4, rfl, ⟨by rw [HKX.out]; exact ref_set H4.out.2.2.bk, (ho4.rfR (L := List.range (s + 1)) (by intro y hy; simp at hy; omega)).ke K5 (by simp), ho4.cap.1, ho4.cap.2, OB.nil_ ho4, ?_, hm6⟩, (H1.out.2.2.nil.trans H4.out.2.1.nil).trans K5⟩
    rw [List.length_append, HK.out, HC.out.1]
    have := HMIN.out; have := HZ.out; omega
end Go.Proofs.YtndamiocmdnenaaGreat
