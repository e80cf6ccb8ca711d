/- vault.kept: its contract. (Written by gen_vt1.py.) -/
import Derived.Test.YtekobdmlgbffnaaGreatDoorG9
namespace Go.Proofs.YtekobdmlgbffnaaGreatDoor
set_option linter.unusedVariables false
set_option maxRecDepth 100000
set_option linter.unusedSimpArgs false
open Go.RowKit

theorem gen_anyL {P : Program} {md : Region.Mode} {ops : Array Oper} {Q : Exit → Act → World → Prop} {S' : World → Prop} {z fuel : Nat} {listed : Array Bool} {a : Act} {w : World} (S : World → Prop) (hS : S w) (h : ∀ u, S u → wpAnyL P md ops Q S' z fuel listed a u) : wpAnyL P md ops Q S' z fuel listed a w := h w hS
theorem gen_qL {Q : Exit → Act → World → Prop} {e : Exit} {a : Act} {w : World} (S : World → Prop) (hS : S w) (h : ∀ u, S u → Q e a u) : Q e a w := h w hS
theorem gen_wK {C : World → Prop} {w : World} (S : World → Prop) (hS : S w) (h : ∀ u, S u → C u) : C w := h w hS
theorem Fz.rt {u : World} {E : Nat} {y : Tv} (h : Fz u E y) (s : Sm y) : RT1 u y := ⟨h.n.rw_, h.k.rw_, h.fn, h.fk, s.lt, s.sz, s.szk⟩
theorem Fz.on {u u' : World} {E : Nat} {y : Tv} (h : Fz u E y) (hb : Below u.heap.size u u') : Fz u' E y :=
  ⟨h.n.keep (Nat.le_refl _) (fun g cs _ hk => hk.below hb hk.lt), h.k.keep (Nat.le_refl _) (fun g cs _ hk => hk.below hb hk.lt), h.fn, h.fk⟩
theorem Fz.far {u : World} {E : Nat} {y : Tv} (h : Fz u E y) {p : Addr} {cs : Array Value} (hp : Bk u p.block 24 cs) (v : Value) : Fz (u.setCell p v) E y :=
  ⟨h.n.keep (Nat.le_refl _) (fun g cs _ hk => hk.far (hk.ty hp (by decide)) v), h.k.keep (Nat.le_refl _) (fun g cs _ hk => hk.far (hk.ty hp (by decide)) v), h.fn, h.fk⟩
/-- What was kept so far. -/
def KpT (u : World) (T : List Tv) : Prop := ∀ y ∈ T, ∃ E, Fz u E y ∧ Sm y
theorem KpT.on {u u' : World} {T : List Tv} (h : KpT u T) (hb : Below u.heap.size u u') : KpT u' T := fun y hy => by
  obtain ⟨E, h1, h2⟩ := h y hy
  exact ⟨E, h1.on hb, h2⟩
theorem KpT.grown {u u' : World} {T : List Tv} {B' n c : Nat} {A : Option Addr} {l : List Tv} (h : KpT u T) (hg : u.grownBy u' (Value.slice A n c).ownBlock) (ho : Ow 33 5 tcs u B' A c l) : KpT u' T := fun y hy => by
  obtain ⟨E, h1, h2⟩ := h y hy
  exact ⟨E, ⟨h1.n.keep (Nat.le_refl _) (fun g cs _ hk => grown_ty hg ho hk (.inl (by decide))), h1.k.keep (Nat.le_refl _) (fun g cs _ hk => grown_ty hg ho hk (.inl (by decide))), h1.fn, h1.fk⟩, h2⟩
theorem KpT.far {u : World} {T : List Tv} (h : KpT u T) {p : Addr} {cs : Array Value} (hp : Bk u p.block 24 cs) (v : Value) : KpT (u.setCell p v) T := fun y hy => by
  obtain ⟨E, h1, h2⟩ := h y hy
  exact ⟨E, h1.far hp v, h2⟩
theorem KpT.rt {u : World} {T : List Tv} (h : KpT u T) : ∀ y ∈ T, RT1 u y := fun y hy => by
  obtain ⟨E, h1, h2⟩ := h y hy
  exact h1.rt h2
theorem KpT.snoc {u : World} {T : List Tv} (h : KpT u T) {y : Tv} {E : Nat} (h1 : Fz u E y) (h2 : Sm y) : KpT u (T ++ [y]) := fun z hz => by
  rcases List.mem_append.1 hz with hz | hz
  · exact h z hz
  · obtain rfl := List.mem_singleton.1 hz
    exact ⟨E, h1, h2⟩

set_option maxRecDepth 100000 in
set_option maxHeartbeats 8000000 in
theorem kept_ok (x : Cv) (w : World) (h : RC w x) (hf : x.ts.length ≤ 1099511626) (hfew : ∀ y ∈ x.ts, y.t.toks.length ≤ 1099511627776) :
    Calls Tryz.prog 60 #[.agg (ccs x)] w fun e w' => ∃ ts' A' c', e = .returned (.agg #[.int .i64 0, .int .i64 0, .int .i64 0, .int .i64 0, .slice A' x.ts.length c']) ∧ ts'.map (·.t) = x.ts.map (fun y => kpT y.t) ∧ RC w' ⟨0, 0, 0, 0, ts', A', c'⟩ ∧ (∀ y ∈ ts', y.t.nets.length ≤ 1099511627776 ∧ y.t.toks.length ≤ 1099511627776) ∧ Below w.heap.size w w' := by
  obtain ⟨a0, a1, a2, a3, ts, A, c⟩ := x
  dsimp only at hf hfew ⊢
  obtain ⟨n, hn⟩ : ∃ n, ts.length = n := ⟨_, rfl⟩
  have HRT := Lib.hid h.r
  have HN := Lib.hid hn
  have HFW := Lib.hid hfew
  have HF := Lib.hid (show n ≤ 1099511626 by rw [← hn]; exact hf)
  simp only [ccs, hn]
  have hn9 : n ≤ 9223372036854775807 := by have := HF.out; omega
  have H1 := Lib.hid (show Bk (((w.alloc (.cells #[.int .i64 a0, .int .i64 a1, .int .i64 a2, .int .i64 a3, .slice A n c] 24)).alloc (.cells #[.int .i64 0, .int .i64 0, .int .i64 0, .int .i64 0, .slice none 0 0] 24)).alloc (.cells #[.int .i64 0, .int .i64 0, .int .i64 0, .int .i64 0, .slice none 0 0] 24)) (w.heap.size + 1) 24 #[.int .i64 0, .int .i64 0, .int .i64 0, .int .i64 0, .slice none 0 0] by have := (Bk.new (w.alloc (.cells #[.int .i64 a0, .int .i64 a1, .int .i64 a2, .int .i64 a3, .slice A n c] 24)) 24 #[.int .i64 0, .int .i64 0, .int .i64 0, .int .i64 0, .slice none 0 0]).alloc (.cells #[.int .i64 0, .int .i64 0, .int .i64 0, .int .i64 0, .slice none 0 0] 24); rwa [World.size_alloc] at this)
  have H2 := Lib.hid (show Bk (((w.alloc (.cells #[.int .i64 a0, .int .i64 a1, .int .i64 a2, .int .i64 a3, .slice A n c] 24)).alloc (.cells #[.int .i64 0, .int .i64 0, .int .i64 0, .int .i64 0, .slice none 0 0] 24)).alloc (.cells #[.int .i64 0, .int .i64 0, .int .i64 0, .int .i64 0, .slice none 0 0] 24)) (w.heap.size + 2) 24 #[.int .i64 0, .int .i64 0, .int .i64 0, .int .i64 0, .slice none 0 0] by have := Bk.new ((w.alloc (.cells #[.int .i64 a0, .int .i64 a1, .int .i64 a2, .int .i64 a3, .slice A n c] 24)).alloc (.cells #[.int .i64 0, .int .i64 0, .int .i64 0, .int .i64 0, .slice none 0 0] 24)) 24 #[.int .i64 0, .int .i64 0, .int .i64 0, .int .i64 0, .slice none 0 0]; rwa [World.size_alloc, World.size_alloc] at this)
  have HS := Lib.hid (show w.heap.size + 3 ≤ (((w.alloc (.cells #[.int .i64 a0, .int .i64 a1, .int .i64 a2, .int .i64 a3, .slice A n c] 24)).alloc (.cells #[.int .i64 0, .int .i64 0, .int .i64 0, .int .i64 0, .slice none 0 0] 24)).alloc (.cells #[.int .i64 0, .int .i64 0, .int .i64 0, .int .i64 0, .slice none 0 0] 24)).heap.size by rw [World.size_alloc, World.size_alloc, World.size_alloc]; omega)
  have HL := Lib.hid (show Below w.heap.size w (((w.alloc (.cells #[.int .i64 a0, .int .i64 a1, .int .i64 a2, .int .i64 a3, .slice A n c] 24)).alloc (.cells #[.int .i64 0, .int .i64 0, .int .i64 0, .int .i64 0, .slice none 0 0] 24)).alloc (.cells #[.int .i64 0, .int .i64 0, .int .i64 0, .int .i64 0, .slice none 0 0] 24)) from (((Below.refl w.heap.size w).alloc (Nat.le_refl _) _).alloc (by rw [World.size_alloc]; omega) _).alloc (by rw [World.size_alloc, World.size_alloc]; omega) _)
  clear h hn hf hfew
  go_enter Tryz.func60, Tryz.ntmps60
  go_wp2
  obtain ⟨v0, hv0⟩ : ∃ v, ((w.alloc (.cells #[.int .i64 a0, .int .i64 a1, .int .i64 a2, .int .i64 a3, .slice A n c] 24)).alloc (.cells #[.int .i64 0, .int .i64 0, .int .i64 0, .int .i64 0, .slice none 0 0] 24)).alloc (.cells #[.int .i64 0, .int .i64 0, .int .i64 0, .int .i64 0, .slice none 0 0] 24) = v := ⟨_, rfl⟩
  rw [hv0] at H1 H2 HL HS
  try rw [hv0]
  clear hv0
  go_loopw [9] (fun v9 wr => ∃ (i : Nat) (T : List Tv) (A' : Option Addr) (c' : Nat), i ≤ n ∧ v9 = .int .i64 (i : Int) ∧ Hid (T.length = i ∧ T.map (·.t) = (ts.take i).map fun y => kpT y.t) ∧ Hid (Bk wr (w.heap.size + 2) 24 #[.int .i64 0, .int .i64 0, .int .i64 0, .int .i64 0, .slice A' i c']) ∧ Hid (Bk wr (w.heap.size + 1) 24 #[.int .i64 0, .int .i64 0, .int .i64 0, .int .i64 0, .slice none 0 0]) ∧ Hid (Ow 33 5 tcs wr (w.heap.size + 3) A' c' T) ∧ Hid (KpT wr T) ∧ Hid (Below w.heap.size w wr ∧ w.heap.size + 3 ≤ wr.heap.size)) (fun v9 _ => n - (intOf v9).toNat)
  case atStart => exact ⟨0, [], none, 0, by omega, rfl, Lib.hid ⟨rfl, rfl⟩, H2, H1, Lib.hid (Ow.nil _ _), Lib.hid (fun y hy => by cases hy), Lib.hid ⟨HL.out, HS.out⟩⟩
  case round =>
    obtain ⟨i, T, A', c', hi, rfl, HT, HO, HZ, HOW, HKP, HB⟩ := hrel
    by_cases hi1 : i < n
    · have hi2 : (i : Int) < (n : Int) := by omega
      obtain ⟨b, o, x, rfl, hx, hx1, hc⟩ := HRT.out.at5 i (by rw [HN.out]; exact hi1)
      obtain ⟨c0, c1, c2, c3, c4⟩ := hc wr HB.out.1
      have HX := Lib.hid hx
      have HX1 := Lib.hid hx1
      have hmem := List.mem_of_getElem? hx
      have HFX := Lib.hid (HFW.out x hmem)
      clear hc hx hx1 hmem
      obtain ⟨⟨xn, xa, xb, nl, kl⟩, An, cn, Ak, ck⟩ := x
      dsimp only at c0 c1 c2 c3 c4 HFX
      obtain ⟨m, hm⟩ : ∃ m, kl.length = m := ⟨_, rfl⟩
      have HM := Lib.hid hm
      simp only [hm] at c4
      rw [hm] at HFX
      clear hm
      go_upto_region 5 with fail
      try simp only [List.cons_append, List.nil_append]
      obtain ⟨v1, hv1⟩ : ∃ v, wr.alloc (.cells #[.string xn, .int .i64 xa, .int .i64 xb, .slice An nl.length cn, .slice Ak m ck] 33) = v := ⟨_, rfl⟩
      obtain ⟨g5, hg5⟩ : ∃ g, wr.heap.size = g := ⟨_, rfl⟩
      have HQ := Lib.hid (show Bk v1 g5 33 #[.string xn, .int .i64 xa, .int .i64 xb, .slice An nl.length cn, .slice Ak m ck] ∧ Bk v1 (w.heap.size + 2) 24 #[.int .i64 0, .int .i64 0, .int .i64 0, .int .i64 0, .slice A' i c'] ∧ Bk v1 (w.heap.size + 1) 24 #[.int .i64 0, .int .i64 0, .int .i64 0, .int .i64 0, .slice none 0 0] ∧ Ow 33 5 tcs v1 (w.heap.size + 3) A' c' T ∧ KpT v1 T ∧ Below w.heap.size w v1 ∧ w.heap.size + 3 ≤ g5 ∧ (∀ n g, (Value.slice A' n c').ownBlock = some g → g < g5) ∧ g5 < v1.heap.size from by
        rw [← hv1, ← hg5]
        have hb := (Below.refl wr.heap.size wr).alloc (Nat.le_refl _) (.cells #[.string xn, .int .i64 xa, .int .i64 xb, .slice An nl.length cn, .slice Ak m ck] 33)
        exact ⟨Bk.new _ _ _, HO.out.below hb HO.out.lt, HZ.out.below hb HZ.out.lt, HOW.out.on hb, HKP.out.on hb, HB.out.1.trans (hb.mono HB.out.1.size), HB.out.2, fun k g hg => (HOW.out.block k g hg).2.1, by rw [World.size_alloc]; omega⟩)
      rw [hv1] ; try rw [hg5]
      clear hv1 hg5 c0 c1 c2 c3 c4 HO HZ HOW HKP HB
      refine wp_region_L (S := fun u => Below w.heap.size w u ∧ Bk u (w.heap.size + 2) 24 #[.int .i64 0, .int .i64 0, .int .i64 0, .int .i64 0, .slice A' i c'] ∧ Bk u g5 33 #[.string xn, .int .i64 xa, .int .i64 xb, .slice An nl.length cn, .slice Ak m ck] ∧ w.heap.size + 3 ≤ u.heap.size) 11 (by kernel_rfl) ⟨HQ.out.2.2.2.2.2.1.drew, HQ.out.2.1.drew, HQ.out.1.drew, (by have := HQ.out.2.2.2.2.2.2.1; have := HQ.out.2.2.2.2.2.2.2.2; show w.heap.size + 3 ≤ v1.heap.size; omega)⟩ (fun hHeld => ?_)
      refine takeL (some 13) [11] (i := 0) (v := ?_) rfl rfl (by kernel_rfl) (by kernel_rfl) (by kernel_rfl) (by kernel_rfl) (fun _ _ _ h => h) (Or.inl ⟨by kernel_rfl, ?_⟩) hHeld ?_
      rotate_left
      · intro wz hSw; go_simp; try (with_reducible rfl)
      try simp only [Act.put, List.setIfInBounds_toArray, List.set_cons_zero, List.set_cons_succ, List.getElem_toArray, List.getElem_cons_succ, List.getElem_cons_zero]
      refine takeL (some 14) [11] (i := 1) (v := ?_) rfl rfl (by kernel_rfl) (by kernel_rfl) (by kernel_rfl) (by kernel_rfl) (fun _ _ _ h => h) (Or.inl ⟨by kernel_rfl, ?_⟩) hHeld ?_
      rotate_left
      · intro wz hSw; obtain ⟨_, s2, s5, _⟩ := hSw; have q4 : wz.cell? ⟨w.heap.size + 2, 4, none⟩ = some (.slice A' i c') := s2.cell 4; go_simp; try (with_reducible rfl)
      try simp only [Act.put, List.setIfInBounds_toArray, List.set_cons_zero, List.set_cons_succ, List.getElem_toArray, List.getElem_cons_succ, List.getElem_cons_zero]
      refine takeL (some 15) [11] (i := 2) (v := ?_) rfl rfl (by kernel_rfl) (by kernel_rfl) (by kernel_rfl) (by kernel_rfl) (fun _ _ _ h => h) (Or.inl ⟨by kernel_rfl, ?_⟩) hHeld ?_
      rotate_left
      · intro wz hSw; go_simp; try (with_reducible rfl)
      try simp only [Act.put, List.setIfInBounds_toArray, List.set_cons_zero, List.set_cons_succ, List.getElem_toArray, List.getElem_cons_succ, List.getElem_cons_zero]
      refine takeL (some 16) [11] (i := 3) (v := ?_) rfl rfl (by kernel_rfl) (by kernel_rfl) (by kernel_rfl) (by kernel_rfl) (fun _ _ _ h => h) (Or.inl ⟨by kernel_rfl, ?_⟩) hHeld ?_
      rotate_left
      · intro wz hSw; obtain ⟨_, s2, s5, _⟩ := hSw; have r0 : wz.cell? ⟨g5, 0, none⟩ = some (.string xn) := s5.cell 0; have r4 : wz.cell? ⟨g5, 4, none⟩ = some (.slice Ak m ck) := s5.cell 4; go_simp; try (with_reducible rfl)
      try simp only [Act.put, List.setIfInBounds_toArray, List.set_cons_zero, List.set_cons_succ, List.getElem_toArray, List.getElem_cons_succ, List.getElem_cons_zero]
      refine takeL (some 17) [11] (i := 4) (v := ?_) rfl rfl (by kernel_rfl) (by kernel_rfl) (by kernel_rfl) (by kernel_rfl) (fun _ _ _ h => h) (Or.inl ⟨by kernel_rfl, ?_⟩) hHeld ?_
      rotate_left
      · intro wz hSw; go_simp; try (with_reducible rfl)
      try simp only [Act.put, List.setIfInBounds_toArray, List.set_cons_zero, List.set_cons_succ, List.getElem_toArray, List.getElem_cons_succ, List.getElem_cons_zero]
      refine takeL (some 18) [11] (i := 5) (v := ?_) rfl rfl (by kernel_rfl) (by kernel_rfl) (by kernel_rfl) (by kernel_rfl) (fun _ _ _ h => h) (Or.inl ⟨by kernel_rfl, ?_⟩) hHeld ?_
      rotate_left
      · intro wz hSw; obtain ⟨_, s2, s5, _⟩ := hSw; have r0 : wz.cell? ⟨g5, 0, none⟩ = some (.string xn) := s5.cell 0; have r4 : wz.cell? ⟨g5, 4, none⟩ = some (.slice Ak m ck) := s5.cell 4; go_simp; try (with_reducible rfl)
      try simp only [Act.put, List.setIfInBounds_toArray, List.set_cons_zero, List.set_cons_succ, List.getElem_toArray, List.getElem_cons_succ, List.getElem_cons_zero]
      refine wpAnyL_ready (rs := [6]) (by kernel_rfl) (by simp) (AllReadyL.cons rfl (fun K hK => ?_) AllReadyL.nil)
      rw [if_pos (by kernel_rfl)]
      go_simp
      refine (cloneK_ok Ak kl m ck _ (HX1.out.k.on hHeld.1) (by have := HX1.out.fk; dsimp only at this; rwa [HM.out] at this) HM.out HFX.out).mono ?_
      rintro e u2 ⟨A2, c2, rfl, ho2, hb2⟩
      try dsimp only
      refine gen_wK (fun u => (Below w.heap.size w u ∧ Bk u (w.heap.size + 2) 24 #[.int .i64 0, .int .i64 0, .int .i64 0, .int .i64 0, .slice A' i c'] ∧ Bk u g5 33 #[.string xn, .int .i64 xa, .int .i64 xb, .slice An nl.length cn, .slice Ak m ck] ∧ w.heap.size + 3 ≤ u.heap.size) ∧ OK u v1.heap.size A2 c2 kl ∧ Ow 33 5 tcs u (w.heap.size + 3) A' c' T ∧ KpT u T ∧ Bk u (w.heap.size + 1) 24 #[.int .i64 0, .int .i64 0, .int .i64 0, .int .i64 0, .slice none 0 0] ∧ v1.heap.size ≤ u.heap.size) ⟨⟨hHeld.1.trans (hb2.mono hHeld.1.size), hHeld.2.1.below hb2 hHeld.2.1.lt, hHeld.2.2.1.below hb2 hHeld.2.2.1.lt, Nat.le_trans hHeld.2.2.2 hb2.size⟩, ho2, (Ow.on (w' := v1.drew) HQ.out.2.2.2.1 ((Below.refl _ _).drew)).on hb2, (KpT.on (u' := v1.drew) HQ.out.2.2.2.2.1 ((Below.refl _ _).drew)).on hb2, HQ.out.2.2.1.drew.below hb2 HQ.out.2.2.1.drew.lt, hb2.size⟩ (fun u3 h3 => ?_)
      clear hHeld ho2 hb2
      refine hK.out _ _ h3.1 (fun hHeld => ?_)
      try simp only [Act.put, List.setIfInBounds_toArray, List.set_cons_zero, List.set_cons_succ, List.getElem_toArray, List.getElem_cons_succ, List.getElem_cons_zero]
      refine takeL (some 20) [11] (i := 7) (v := ?_) rfl rfl (by kernel_rfl) (by kernel_rfl) (by kernel_rfl) (by kernel_rfl) (fun _ _ _ h => h) (Or.inl ⟨by kernel_rfl, ?_⟩) hHeld ?_
      rotate_left
      · intro wz hSw; go_simp; try (with_reducible rfl)
      try simp only [Act.put, List.setIfInBounds_toArray, List.set_cons_zero, List.set_cons_succ, List.getElem_toArray, List.getElem_cons_succ, List.getElem_cons_zero]
      refine wpAnyL_ready (rs := [8]) (by kernel_rfl) (by simp) (AllReadyL.cons rfl (fun K hK => ?_) AllReadyL.nil)
      rw [if_pos (by kernel_rfl)]
      go_simp
      refine hK.out _ _ ⟨hHeld.1.alloc hHeld.1.size _, hHeld.2.1.alloc _, hHeld.2.2.1.alloc _, by rw [World.size_alloc]; exact Nat.le_succ_of_le hHeld.2.2.2⟩ (fun hHeld => ?_)
      try simp only [Act.put, List.setIfInBounds_toArray, List.set_cons_zero, List.set_cons_succ, List.getElem_toArray, List.getElem_cons_succ, List.getElem_cons_zero]
      refine gen_anyL (fun u => (Below w.heap.size w u ∧ Bk u (w.heap.size + 2) 24 #[.int .i64 0, .int .i64 0, .int .i64 0, .int .i64 0, .slice A' i c'] ∧ Bk u g5 33 #[.string xn, .int .i64 xa, .int .i64 xb, .slice An nl.length cn, .slice Ak m ck] ∧ w.heap.size + 3 ≤ u.heap.size) ∧ OK u v1.heap.size A2 c2 kl ∧ Ow 33 5 tcs u (w.heap.size + 3) A' c' T ∧ KpT u T ∧ Bk u (w.heap.size + 1) 24 #[.int .i64 0, .int .i64 0, .int .i64 0, .int .i64 0, .slice none 0 0] ∧ v1.heap.size ≤ u.heap.size ∧ Bk u u3.heap.size 33 #[.string xn, .int .i64 0, .int .i64 0, .slice none 0 0, .slice A2 m c2]) ⟨hHeld, Ow.on h3.2.1 ((Below.refl _ _).alloc (Nat.le_refl _) _), Ow.on h3.2.2.1 ((Below.refl _ _).alloc (Nat.le_refl _) _), KpT.on h3.2.2.2.1 ((Below.refl _ _).alloc (Nat.le_refl _) _), h3.2.2.2.2.1.alloc _, by rw [World.size_alloc]; exact Nat.le_succ_of_le h3.2.2.2.2.2, Bk.new _ _ _⟩ (fun u4 h4 => ?_)
      clear hHeld
      refine wpAnyL_ready (rs := [9]) (by kernel_rfl) (by simp) (AllReadyL.cons rfl (fun K hK => ?_) AllReadyL.nil)
      rw [if_pos (by kernel_rfl)]
      refine op_rows roT (.tmp 14) (.tmp 21) rfl i rfl HT.out.1 h4.2.2.1 [(⟨⟨xn, 0, 0, [], kl⟩, none, 0, A2, c2⟩ : Tv)] (some ⟨u3.heap.size, 0, none⟩) 1 1 rfl rfl (fun h => by cases h) (Rw.bk (f := tcs) (by have := h4.2.2.2.2.2.2; rw [← HM.out] at this; exact this)) (by have := HF.out; omega) h4.1.2.2.2 (i + 1) rfl ?_
      intro A4 c4 u5 ho5 hg5 hb5
      have hne : Bk u5 g5 33 #[.string xn, .int .i64 xa, .int .i64 xb, .slice An nl.length cn, .slice Ak m ck] := (hg5.block g5 h4.1.2.2.1.lt (fun e => by have := HQ.out.2.2.2.2.2.2.2.1 _ _ e.symm; omega)).trans h4.1.2.2.1
      have hS5 : Below w.heap.size w u5 ∧ Bk u5 (w.heap.size + 2) 24 #[.int .i64 0, .int .i64 0, .int .i64 0, .int .i64 0, .slice A' i c'] ∧ Bk u5 g5 33 #[.string xn, .int .i64 xa, .int .i64 xb, .slice An nl.length cn, .slice Ak m ck] ∧ w.heap.size + 3 ≤ u5.heap.size := ⟨h4.1.1.trans (hb5.mono (by omega)), h4.1.2.1.below hb5 (by omega), hne, Nat.le_trans h4.1.2.2.2 hb5.size⟩
      have hz5 : Bk u5 (w.heap.size + 1) 24 #[.int .i64 0, .int .i64 0, .int .i64 0, .int .i64 0, .slice none 0 0] := h4.2.2.2.2.1.below hb5 (by omega)
      have hk5 : KpT u5 (T ++ [(⟨⟨xn, 0, 0, [], kl⟩, none, 0, A2, c2⟩ : Tv)]) := (h4.2.2.2.1.grown hg5 h4.2.2.1).snoc (E := u4.heap.size) ⟨.inl rfl, (Ow.ry kcs_size h4.2.1).keep (Nat.le_refl _) (fun g cs _ hk => grown_ty hg5 h4.2.2.1 hk (.inl (by decide))), ⟨Nat.le_refl _, Nat.zero_le _, fun _ => ⟨rfl, rfl⟩⟩, h4.2.1.fit⟩ ⟨(fun n hn => by cases hn), HX1.out.sz, HX1.out.szk⟩
      refine hK.out _ _ hS5 (fun hHeld => ?_)
      try simp only [Act.put, List.setIfInBounds_toArray, List.set_cons_zero, List.set_cons_succ, List.getElem_toArray, List.getElem_cons_succ, List.getElem_cons_zero]
      refine takeL (some 23) [11] (i := 10) (v := ?_) rfl rfl (by kernel_rfl) (by kernel_rfl) (by kernel_rfl) (by kernel_rfl) (fun _ _ _ h => h) (Or.inl ⟨by kernel_rfl, ?_⟩) hHeld ?_
      rotate_left
      · intro wz hSw; go_simp; try (with_reducible rfl)
      try simp only [Act.put, List.setIfInBounds_toArray, List.set_cons_zero, List.set_cons_succ, List.getElem_toArray, List.getElem_cons_succ, List.getElem_cons_zero]
      have d4 : u5.cell? ⟨w.heap.size + 2, 4, none⟩ = some (.slice A' i c') := hS5.2.1.cell 4
      have f4 := hS5.2.1.frozen 4
      refine wpAnyL_ready (rs := [11]) (by kernel_rfl) (by simp) (AllReadyL.last rfl (fun K hK => ?_))
      rw [if_pos (by kernel_rfl)]
      go_simp
      refine hK.out _ _ ?_
      try simp only [Act.put, List.setIfInBounds_toArray, List.set_cons_zero, List.set_cons_succ, List.getElem_toArray, List.getElem_cons_succ, List.getElem_cons_zero]
      refine wpAnyL_done (by kernel_rfl) ?_ _
      refine gen_qL (fun u => Bk u (w.heap.size + 1) 24 #[.int .i64 0, .int .i64 0, .int .i64 0, .int .i64 0, .slice none 0 0] ∧ Bk u (w.heap.size + 2) 24 #[.int .i64 0, .int .i64 0, .int .i64 0, .int .i64 0, .slice A4 (i + 1) c4] ∧ Ow 33 5 tcs u (w.heap.size + 3) A4 c4 (T ++ [(⟨⟨xn, 0, 0, [], kl⟩, none, 0, A2, c2⟩ : Tv)]) ∧ KpT u (T ++ [(⟨⟨xn, 0, 0, [], kl⟩, none, 0, A2, c2⟩ : Tv)]) ∧ Below w.heap.size w u ∧ w.heap.size + 3 ≤ u.heap.size) ⟨?_, ?_, ?_, ?_, ?_, ?_⟩ (fun y5 hy5 => ?_)
      · exact hz5.far (by show w.heap.size + 1 ≠ w.heap.size + 2; omega) _
      · have := hS5.2.1.set 4 (.slice A4 (i + 1) c4)
        simpa only [List.setIfInBounds_toArray, List.set_cons_zero, List.set_cons_succ] using this
      · exact ho5.set (p := ⟨w.heap.size + 2, 4, none⟩) (by show w.heap.size + 2 < w.heap.size + 3; omega) _
      · exact hk5.far (p := ⟨w.heap.size + 2, 4, none⟩) hS5.2.1 _
      · exact hS5.1.setCell (p := ⟨w.heap.size + 2, 4, none⟩) (by show w.heap.size ≤ w.heap.size + 2; omega) _
      · rw [World.size_setCell]; exact hS5.2.2.2
      clear hHeld hS5 hz5 hk5 ho5 hg5 hb5 d4 f4 h4 h3 hne HQ
      obtain ⟨q1, q2, q4, q5, q6, q7⟩ := hy5
      go_wp2
      go_roundw
      case rel =>
        refine ⟨i + 1, T ++ [(⟨⟨xn, 0, 0, [], kl⟩, none, 0, A2, c2⟩ : Tv)], A4, c4, by omega, by go_num, Lib.hid ⟨by rw [List.length_append, HT.out.1]; rfl, ?_⟩, Lib.hid q2, Lib.hid q1, Lib.hid q4, Lib.hid q5, Lib.hid ⟨q6, q7⟩⟩
        rw [List.map_append, HT.out.2, List.take_add_one, HX.out, List.map_append]
        rfl
      case measure => simp [intOf]; omega
    · have hi2 : ¬ (i : Int) < (n : Int) := by omega
      have hin : i = n := by omega
      subst hin
      have z0 : wr.cell? ⟨w.heap.size + 2, 0, none⟩ = some (.int .i64 0) := HO.out.cell 0
      have z1 : wr.cell? ⟨w.heap.size + 2, 1, none⟩ = some (.int .i64 0) := HO.out.cell 1
      have z2 : wr.cell? ⟨w.heap.size + 2, 2, none⟩ = some (.int .i64 0) := HO.out.cell 2
      have z3 : wr.cell? ⟨w.heap.size + 2, 3, none⟩ = some (.int .i64 0) := HO.out.cell 3
      have z4 : wr.cell? ⟨w.heap.size + 2, 4, none⟩ = some (.slice A' i c') := HO.out.cell 4
      have y0 : wr.cell? ⟨w.heap.size + 1, 0, none⟩ = some (.int .i64 0) := HZ.out.cell 0
      have y1 : wr.cell? ⟨w.heap.size + 1, 1, none⟩ = some (.int .i64 0) := HZ.out.cell 1
      have y2 : wr.cell? ⟨w.heap.size + 1, 2, none⟩ = some (.int .i64 0) := HZ.out.cell 2
      have y3 : wr.cell? ⟨w.heap.size + 1, 3, none⟩ = some (.int .i64 0) := HZ.out.cell 3
      have y4 : wr.cell? ⟨w.heap.size + 1, 4, none⟩ = some (.slice none 0 0) := HZ.out.cell 4
      have f0 := HZ.out.frozen 0
      have f1 := HZ.out.frozen 1
      have f2 := HZ.out.frozen 2
      have f3 := HZ.out.frozen 3
      have f4 := HZ.out.frozen 4
      go_wp2
      have kU := (((((HZ.out.set 0 (.int .i64 0)).set 1 (.int .i64 0)).set 2 (.int .i64 0)).set 3 (.int .i64 0)).set 4 (.slice A' i c'))
      simp only [List.setIfInBounds_toArray, List.set_cons_zero, List.set_cons_succ] at kU
      refine bodyPost_ret (v := .agg #[.int .i64 0, .int .i64 0, .int .i64 0, .int .i64 0, .slice A' i c']) ?_ rfl ⟨T, A', c', rfl, ?_, ?_, ?_, ?_⟩
      · have p0 := kU.cell 0; have p1 := kU.cell 1; have p2 := kU.cell 2; have p3 := kU.cell 3; have p4 := kU.cell 4
        simp [results, Tryz.f60, go_sem, p0, p1, p2, p3, p4]
      · rw [HT.out.2, List.take_of_length_le (by rw [HN.out]; exact Nat.le_refl _)]
      · have hp : ∀ j, j < 5 → (⟨w.heap.size + 1, j, none⟩ : Addr).block < w.heap.size + 3 := fun j _ => by show w.heap.size + 1 < w.heap.size + 3; omega
        have o5 := ((((HOW.out.set (p := ⟨w.heap.size + 1, 0, none⟩) (hp 0 (by omega)) (.int .i64 0)).set (p := ⟨w.heap.size + 1, 1, none⟩) (hp 1 (by omega)) (.int .i64 0)).set (p := ⟨w.heap.size + 1, 2, none⟩) (hp 2 (by omega)) (.int .i64 0)).set (p := ⟨w.heap.size + 1, 3, none⟩) (hp 3 (by omega)) (.int .i64 0)).set (p := ⟨w.heap.size + 1, 4, none⟩) (hp 4 (by omega)) (.slice A' i c')
        have k1 := HZ.out
        have m1 := HKP.out.far (p := ⟨w.heap.size + 1, 0, none⟩) k1 (.int .i64 0)
        have m2 := m1.far (p := ⟨w.heap.size + 1, 1, none⟩) (k1.set 0 _) (.int .i64 0)
        have m3 := m2.far (p := ⟨w.heap.size + 1, 2, none⟩) ((k1.set 0 _).set 1 _) (.int .i64 0)
        have m4 := m3.far (p := ⟨w.heap.size + 1, 3, none⟩) (((k1.set 0 _).set 1 _).set 2 _) (.int .i64 0)
        have m5 := m4.far (p := ⟨w.heap.size + 1, 4, none⟩) ((((k1.set 0 _).set 1 _).set 2 _).set 3 _) (.slice A' i c')
        exact ⟨⟨o5.rw_ tcs_size, m5.rt⟩, o5.fit⟩
      · intro y hy
        have h1 : y.t ∈ (ts.take i).map fun y => kpT y.t := by rw [← HT.out.2]; exact List.mem_map.2 ⟨y, hy, rfl⟩
        obtain ⟨z, hz, e⟩ := List.mem_map.1 h1
        have := HFW.out z (List.mem_of_mem_take hz)
        rw [← e]
        exact ⟨Nat.zero_le _, this⟩
      · have hl := HB.out.1
        exact (((((hl.setCell (p := ⟨w.heap.size + 1, 0, none⟩) (by show w.heap.size ≤ w.heap.size + 1; omega) _).setCell (p := ⟨w.heap.size + 1, 1, none⟩) (by show w.heap.size ≤ w.heap.size + 1; omega) _).setCell (p := ⟨w.heap.size + 1, 2, none⟩) (by show w.heap.size ≤ w.heap.size + 1; omega) _).setCell (p := ⟨w.heap.size + 1, 3, none⟩) (by show w.heap.size ≤ w.heap.size + 1; omega) _).setCell (p := ⟨w.heap.size + 1, 4, none⟩) (by show w.heap.size ≤ w.heap.size + 1; omega) _)
end Go.Proofs.YtekobdmlgbffnaaGreatDoor
