/- The program's table: New, Open, Close: their contracts. (Written by gen_cno.py.) -/
import Derived.Test.YtndamiocmdnenaaGreatG5
namespace Go.Proofs.YtndamiocmdnenaaGreat
set_option linter.unusedVariables false
set_option maxRecDepth 100000
set_option linter.unusedSimpArgs false
open Go.RowKit Go.Maps

section
variable {W u u' : World} {H H' : List Nat} {tb mb : Nat} {pl : Int → Pl} {t : Tc} {P : Pl}
set_option maxRecDepth 100000 in
set_option maxHeartbeats 1000000 in
theorem c_new (h : Below W.heap.size W u) : Calls Tryz.prog 5 #[] u fun e u' => ∃ H tb, e = .returned (.pointer (some ⟨tb, 0, none⟩)) ∧ Zc W u' H tb tc0 ∧ Below u.heap.size u u' ∧ ∀ y ∈ H, u.heap.size ≤ y := by
  have HB := Lib.hid h
  have hs := h.size
  have hP := Lib.hid (Mn.made (R := cRP) (en := cen) u)
  have hmm := @run_makeMap Tryz.prog
  clear h
  go_enter Tryz.func5, Tryz.ntmps5
  go_wp2
  go_ret
  have k1 : Below u.heap.size u (u.alloc (.map #[] 0)) := (Below.refl u.heap.size u).alloc (Nat.le_refl _) _
  have k2 := k1.alloc (by rw [World.size_alloc]; omega) (.cells #[.map (some u.heap.size), .int .i64 0] 51)
  have e1 : (u.alloc (.map #[] 0)).heap.size = u.heap.size + 1 := World.size_alloc _ _
  refine ⟨[u.heap.size + 1, u.heap.size], u.heap.size + 1, rfl, ⟨⟨u.heap.size, fun _ => ⟨0, 0, 0, 0, 0⟩, ⟨?_, ?_, (fun x hx => by cases hx), (fun x hx => by cases hx), (fun x hx => by cases hx), by omega, by simp, by simp⟩⟩, HB.out.trans (k2.mono hs), ?_, ?_⟩, k2, ?_⟩
  · have := Bk.new (u.alloc (.map #[] 0)) 51 #[.map (some u.heap.size), .int .i64 0]
    rw [e1] at this
    exact this
  · exact hP.out.ke ((Ke.refl [] _).alloc _) (by simp)
  · intro y hy
    simp only [List.mem_cons, List.not_mem_nil, or_false] at hy
    rcases hy with rfl | rfl <;> omega
  · intro y hy
    rw [World.size_alloc, e1]
    simp only [List.mem_cons, List.not_mem_nil, or_false] at hy
    rcases hy with rfl | rfl <;> omega
  · intro y hy
    simp only [List.mem_cons, List.not_mem_nil, or_false] at hy
    rcases hy with rfl | rfl <;> omega
set_option maxRecDepth 100000 in
set_option maxHeartbeats 1000000 in
theorem newpeer_ok (a : Int) (u : World) : Calls Tryz.prog 47 #[.int .u32 a] u fun e u' => ∃ P : Pl, e = .returned (.pointer (some ⟨P.p, 0, none⟩)) ∧ Pe u' P (cn0 a) ∧ Ke [] u u' ∧ ∀ x ∈ P.bs, u.heap.size ≤ x := by
  have H1 := Lib.hid (fun v => new_ok 512 v)
  have H2 := Lib.hid (fun v => new_ok 1024 v)
  go_enter Tryz.func47, Tryz.ntmps47
  go_wp2_with (first | (go_at_call 85; (with_reducible refine (H1.out _).mono ?_); rintro e v1 ⟨rfl, j1, j2⟩; have J1 := Lib.hid (And.intro j1 j2); clear j1 j2) | (go_at_call 85; (with_reducible refine (H2.out _).mono ?_); rintro e v2 ⟨rfl, j1, j2⟩; have J2 := Lib.hid (And.intro j1 j2); clear j1 j2))
  go_ret
  have r1 := J1.out.1
  have r2 := J2.out.1
  have l1 := r1.lt
  have l2 := r2.lt
  have s1 := J1.out.2.size
  have s2 := J2.out.2.size
  have k3 : Ke [] v2 (v2.alloc (.cells #[.int .u32 a, .pointer (some ⟨u.heap.size + 1, 0, none⟩), .pointer (some ⟨v1.heap.size + 1, 0, none⟩), .int .i64 0, .bool false] 82)) := (Ke.refl [] v2).alloc _
  refine ⟨⟨v2.heap.size, u.heap.size + 1, u.heap.size, v1.heap.size + 1, v1.heap.size⟩, rfl, ⟨Bk.new v2 _ _, (r1.ke J2.out.2 (by simp) (by simp)).ke k3 (by simp) (by simp), r2.ke k3 (by simp) (by simp), Dp.nd ⟨?_, ?_, ?_, ?_, ?_, ?_, ?_, ?_, ?_, ?_⟩⟩, (J1.out.2.trans J2.out.2).trans k3, ?_⟩
  all_goals first | omega | (show _ ≠ _; dsimp only; omega) | skip
  intro x hx
  simp only [Pl.bs, List.mem_cons, List.not_mem_nil, or_false] at hx
  rcases hx with rfl | rfl | rfl | rfl | rfl <;> omega
/-- One more connection. -/
theorem Tz.more (h : Tz u H tb mb pl t) (hg : Gc t) (hH : ∀ y ∈ H, y < u.heap.size) {a : Int} {v w : World} (k1 : Ke [tb] u v) (hp : Pe v P (cn0 a)) (hnew : ∀ x ∈ P.bs, u.heap.size ≤ x) (k2 : Ke [mb] v w)
    (htk : Bk v tb 51 #[.map (some mb), .int .i64 ((t.la + 1 : Nat) : Int)]) (hmp : MnC w mb ((((t.la + 1 : Nat) : Int), some P.p) :: enC_ pl t.l)) :
    Tz w (P.bs ++ H) tb mb (fun j => if j = ((t.la + 1 : Nat) : Int) then P else pl j) ⟨t.l ++ [(((t.la + 1 : Nat) : Int), cn0 a)], t.la + 1⟩ := by
  have hold : ∀ x ∈ t.l, x.1 ≠ ((t.la + 1 : Nat) : Int) := fun x hx e => by
    have := (hg.pos x.1 (List.mem_map.2 ⟨x, hx, rfl⟩)).2
    omega
  have hpl : ∀ x ∈ t.l, (if x.1 = ((t.la + 1 : Nat) : Int) then P else pl x.1) = pl x.1 := fun x hx => if_neg (hold x hx)
  have hmbH := h.mH
  have htbH := h.tH
  have hmw : mb ∉ P.bs := fun hx => by have h1 := hnew _ hx; have h2 := hH _ hmbH; omega
  have htw : tb ∉ P.bs := fun hx => by have h1 := hnew _ hx; have h2 := hH _ htbH; omega
  refine ⟨htk.ke k2 (by simpa using h.ne), ?_, ?_, ?_, ?_, h.ne, List.mem_append_right _ htbH, List.mem_append_right _ hmbH⟩
  · refine hmp.perm ?_
    have e1 : enC_ (fun j => if j = ((t.la + 1 : Nat) : Int) then P else pl j) (t.l ++ [(((t.la + 1 : Nat) : Int), cn0 a)]) = enC_ pl t.l ++ [(((t.la + 1 : Nat) : Int), some P.p)] := by
      unfold enC_
      rw [List.map_append]
      congr 1
      · exact List.map_congr_left fun x hx => by dsimp only; rw [if_neg (hold x hx)]
      · simp
    show List.Perm _ (enC_ _ (t.l ++ [(((t.la + 1 : Nat) : Int), cn0 a)]))
    rw [e1]
    exact List.perm_append_comm (l₁ := [(((t.la + 1 : Nat) : Int), some P.p)])
  · intro x hx
    rcases List.mem_append.1 hx with e | e
    · show Pe w (if x.1 = ((t.la + 1 : Nat) : Int) then P else pl x.1) x.2
      rw [hpl x e]
      exact ((h.at_ x e).ke k1 (fun b hb hx => (h.off x e b hb).1 (List.mem_singleton.1 hx))).ke k2 (fun b hb hx => (h.off x e b hb).2.1 (List.mem_singleton.1 hx))
    · rw [List.mem_singleton.1 e]
      show Pe w (if ((t.la + 1 : Nat) : Int) = ((t.la + 1 : Nat) : Int) then P else pl _) (cn0 a)
      rw [if_pos rfl]
      exact hp.ke k2 (fun b hb hx => hmw (by rw [← List.mem_singleton.1 hx]; exact hb))
  · intro x hx y hy hne
    show ∀ b ∈ (if x.1 = ((t.la + 1 : Nat) : Int) then P else pl x.1).bs, b ∉ (if y.1 = ((t.la + 1 : Nat) : Int) then P else pl y.1).bs
    rcases List.mem_append.1 hx with e | e <;> rcases List.mem_append.1 hy with e' | e'
    · rw [hpl x e, hpl y e']
      exact h.ap x e y e' hne
    · rw [hpl x e, List.mem_singleton.1 e', if_pos rfl]
      intro b hb hbP
      have h1 := hH _ (h.off x e b hb).2.2
      have h2 := hnew _ hbP
      omega
    · rw [hpl y e', List.mem_singleton.1 e, if_pos rfl]
      intro b hb hbP
      have h1 := hH _ (h.off y e' b hbP).2.2
      have h2 := hnew _ hb
      omega
    · rw [List.mem_singleton.1 e, List.mem_singleton.1 e'] at hne
      exact absurd rfl hne
  · intro x hx
    show ∀ b ∈ (if x.1 = ((t.la + 1 : Nat) : Int) then P else pl x.1).bs, b ≠ tb ∧ b ≠ mb ∧ b ∈ P.bs ++ H
    rcases List.mem_append.1 hx with e | e
    · rw [hpl x e]
      intro b hb
      obtain ⟨h1, h2, h3⟩ := h.off x e b hb
      exact ⟨h1, h2, List.mem_append_right _ h3⟩
    · rw [List.mem_singleton.1 e, if_pos rfl]
      intro b hb
      exact ⟨fun e => htw (e ▸ hb), fun e => hmw (e ▸ hb), List.mem_append_left _ hb⟩
set_option maxRecDepth 100000 in
set_option maxHeartbeats 4000000 in
theorem c_open (h : Zc W u H tb t) (hg : Gc t) (hla : t.la ≤ 1000000) (a : Int) (r er : Int) (t2 : Tc) (hE : opC t a = ((r, er), t2)) :
    Calls Tryz.prog 13 #[.pointer (some ⟨tb, 0, none⟩), .int .u32 a] u fun e u' => ∃ H', e = .returned (.tuple #[.int .i64 r, .int .i64 er]) ∧ Zc W u' H' tb t2 ∧ Sp u u' H H' := by
  have HZ := Lib.hid h
  have HG := Lib.hid hg
  obtain ⟨mb, pl, hz⟩ := h.ex
  have c0 : u.cell? ⟨tb, 0, none⟩ = some (.map (some mb)) := hz.tk.cell 0
  have c1 : u.cell? ⟨tb, 1, none⟩ = some (.int .i64 (t.la : Int)) := hz.tk.cell 1
  have g1 := hz.tk.frozen 1
  have hlen : ∀ ty, (Builtin.len_ #[49] ty #[.map (some mb)]).run Tryz.prog u = .ok (.int .i64 (t.l.length : Int)) u := fun ty => by
    have := hz.mp.len kinC ty
    have e1 : (enC_ pl t.l).length = t.l.length := List.length_map _
    rw [e1] at this
    exact this
  have hf := hg.few
  obtain ⟨m, hm⟩ : ∃ m, t.l.length = m := ⟨_, rfl⟩
  rw [hm] at hlen hf
  unfold opC at hE
  by_cases h64 : 64 ≤ m
  · rw [if_pos (by omega)] at hE
    injection hE with e1 e2
    injection e1 with e1 e3
    subst e1; subst e2; subst e3
    have hm64 : (64 : Int) ≤ (m : Int) := by omega
    clear h hz hg hm
    go_enter Tryz.func13, Tryz.ntmps13
    go_wp2_with fail
    go_ret2
    exact ⟨H, rfl, HZ.out, Sp.refl _ _⟩
  · rw [if_neg (by omega)] at hE
    injection hE with e1 e2
    injection e1 with e1 e3
    subst e1; subst e2; subst e3
    have hm64 : ¬ (64 : Int) ≤ (m : Int) := by omega
    obtain ⟨la, hlae⟩ : ∃ la, t.la = la := ⟨_, rfl⟩
    rw [hlae] at c1 hla
    have hw1 := (iwrap ((la : Int) + 1) (la + 1) (by omega) (by omega)).1
    obtain ⟨lb, hlb⟩ : ∃ lb, la + 1 = lb := ⟨_, rfl⟩
    rw [hlb] at hw1
    obtain ⟨u1, hu1⟩ : ∃ u1, u.setCell ⟨tb, 1, none⟩ (.int .i64 (lb : Int)) = u1 := ⟨_, rfl⟩
    have B1 := Lib.hid (show Bk u1 tb 51 #[.map (some mb), .int .i64 (lb : Int)] by rw [← hu1]; exact hz.tk.set 1 _)
    have K1 := Lib.hid (show Ke [tb] u u1 by rw [← hu1]; exact (Ke.refl [tb] u).set (p := ⟨tb, 1, none⟩) (by simp) _)
    have M1 := Lib.hid (hz.mp.ke K1.out (by simpa using hz.ne.symm))
    have HN := Lib.hid (fun v => newpeer_ok a v)
    have HWF := Lib.hid (show WfN (lb : Int) from wfN_of (by omega) (by omega))
    have HNO := Lib.hid (show ∀ x ∈ enC_ pl t.l, x.1 ≠ (lb : Int) from fun x hx e => by
      obtain ⟨y, hy, rfl⟩ := List.mem_map.1 hx
      have h1 := (hg.pos y.1 (List.mem_map.2 ⟨y, hy, rfl⟩)).2
      have h2 : y.1 = (lb : Int) := e
      omega)
    have HLL := Lib.hid (show (enC_ pl t.l).length ≤ 64 by have e1 : (enC_ pl t.l).length = t.l.length := List.length_map _; omega)
    have HTT := Lib.hid hz
    have HLA := Lib.hid (show t.la + 1 = lb by rw [hlae]; exact hlb)
    have HMT := Lib.hid (show mb < u.heap.size ∧ tb < u.heap.size from ⟨HZ.out.hi _ hz.mH, HZ.out.hi _ hz.tH⟩)
    clear h hz hg hm hf h64 hlae hlb hla
    go_enter Tryz.func13, Tryz.ntmps13
    go_upto_region 4 with fail
    try rw [hu1]
    clear hu1 c0 c1 g1 hlen hw1
    try simp only [List.cons_append, List.nil_append]
    refine wp_region_held_drew (S := fun v => v.cell? ⟨tb, 0, none⟩ = some (.map (some mb)) ∧ v.cell? ⟨tb, 1, none⟩ = some (.int .i64 (lb : Int))) (by kernel_rfl) (⟨B1.out.drew.cell 0, B1.out.drew.cell 1⟩) (fun hHeld => ?_)
    refine take_at (some 19) (i := 0) (v := ?_) rfl rfl (by kernel_rfl) (by kernel_rfl) (by kernel_rfl) (fun _ _ _ h => h) (Or.inl ⟨by kernel_rfl, ?_⟩) hHeld ?_
    rotate_left
    · intro wz hSw; go_simp; try (with_reducible rfl)
    try simp only [Act.put, List.setIfInBounds_toArray, List.set_cons_zero, List.set_cons_succ, List.getElem_toArray, List.getElem_cons_succ, List.getElem_cons_zero]
    refine take_at (some 20) (i := 1) (v := ?_) rfl rfl (by kernel_rfl) (by kernel_rfl) (by kernel_rfl) (fun _ _ _ h => h) (Or.inl ⟨by kernel_rfl, ?_⟩) hHeld ?_
    rotate_left
    · intro wz hSw; obtain ⟨k0, k1⟩ := hSw; go_simp; try (with_reducible rfl)
    try simp only [Act.put, List.setIfInBounds_toArray, List.set_cons_zero, List.set_cons_succ, List.getElem_toArray, List.getElem_cons_succ, List.getElem_cons_zero]
    refine take_at (some 21) (i := 2) (v := ?_) rfl rfl (by kernel_rfl) (by kernel_rfl) (by kernel_rfl) (fun _ _ _ h => h) (Or.inl ⟨by kernel_rfl, ?_⟩) hHeld ?_
    rotate_left
    · intro wz hSw; obtain ⟨k0, k1⟩ := hSw; go_simp; try (with_reducible rfl)
    try simp only [Act.put, List.setIfInBounds_toArray, List.set_cons_zero, List.set_cons_succ, List.getElem_toArray, List.getElem_cons_succ, List.getElem_cons_zero]
    refine take_at (some 22) (i := 3) (v := ?_) rfl rfl (by kernel_rfl) (by kernel_rfl) (by kernel_rfl) (fun _ _ _ h => h) (Or.inl ⟨by kernel_rfl, ?_⟩) hHeld ?_
    rotate_left
    · intro wz hSw; obtain ⟨k0, k1⟩ := hSw; go_simp; try (with_reducible rfl)
    try simp only [Act.put, List.setIfInBounds_toArray, List.set_cons_zero, List.set_cons_succ, List.getElem_toArray, List.getElem_cons_succ, List.getElem_cons_zero]
    refine take_at (some 23) (i := 4) (v := ?_) rfl rfl (by kernel_rfl) (by kernel_rfl) (by kernel_rfl) (fun _ _ _ h => h) (Or.inl ⟨by kernel_rfl, ?_⟩) hHeld ?_
    rotate_left
    · intro wz hSw; go_simp; try (with_reducible rfl)
    try simp only [Act.put, List.setIfInBounds_toArray, List.set_cons_zero, List.set_cons_succ, List.getElem_toArray, List.getElem_cons_succ, List.getElem_cons_zero]
    refine take_at (some 24) (i := 5) (v := ?_) rfl rfl (by kernel_rfl) (by kernel_rfl) (by kernel_rfl) (fun _ _ _ h => h) (Or.inl ⟨by kernel_rfl, ?_⟩) hHeld ?_
    rotate_left
    · intro wz hSw; obtain ⟨k0, k1⟩ := hSw; go_simp; try (with_reducible rfl)
    try simp only [Act.put, List.setIfInBounds_toArray, List.set_cons_zero, List.set_cons_succ, List.getElem_toArray, List.getElem_cons_succ, List.getElem_cons_zero]
    refine take_at (some 25) (i := 6) (v := ?_) rfl rfl (by kernel_rfl) (by kernel_rfl) (by kernel_rfl) (fun _ _ _ h => h) (Or.inl ⟨by kernel_rfl, ?_⟩) hHeld ?_
    rotate_left
    · intro wz hSw; obtain ⟨k0, k1⟩ := hSw; go_simp; try (with_reducible rfl)
    try simp only [Act.put, List.setIfInBounds_toArray, List.set_cons_zero, List.set_cons_succ, List.getElem_toArray, List.getElem_cons_succ, List.getElem_cons_zero]
    refine take_at (some 26) (i := 7) (v := ?_) rfl rfl (by kernel_rfl) (by kernel_rfl) (by kernel_rfl) (fun _ _ _ h => h) (Or.inl ⟨by kernel_rfl, ?_⟩) hHeld ?_
    rotate_left
    · intro wz hSw; obtain ⟨k0, k1⟩ := hSw; go_simp; try (with_reducible rfl)
    try simp only [Act.put, List.setIfInBounds_toArray, List.set_cons_zero, List.set_cons_succ, List.getElem_toArray, List.getElem_cons_succ, List.getElem_cons_zero]
    refine take_at (some 27) (i := 8) (v := ?_) rfl rfl (by kernel_rfl) (by kernel_rfl) (by kernel_rfl) (fun _ _ _ h => h) (Or.inl ⟨by kernel_rfl, ?_⟩) hHeld ?_
    rotate_left
    · intro wz hSw; go_simp; try (with_reducible rfl)
    try simp only [Act.put, List.setIfInBounds_toArray, List.set_cons_zero, List.set_cons_succ, List.getElem_toArray, List.getElem_cons_succ, List.getElem_cons_zero]
    refine wpAnyH_ready (rs := [9]) (by kernel_rfl) (by simp) (AllReadyH.cons rfl (fun K hK => ?_) AllReadyH.nil)
    rw [if_pos (by kernel_rfl)]
    go_simp
    refine (HN.out u1.drew).mono ?_
    rintro e v2 ⟨P, rfl, j1, j2, j3⟩
    try dsimp only
    refine hK.out _ _ (⟨(B1.out.ke ((Ke.refl [] u1).drew.trans j2) (by simp)).cell 0, (B1.out.ke ((Ke.refl [] u1).drew.trans j2) (by simp)).cell 1⟩) (fun hHeld => ?_)
    try simp only [Act.put, List.setIfInBounds_toArray, List.set_cons_zero, List.set_cons_succ, List.getElem_toArray, List.getElem_cons_succ, List.getElem_cons_zero]
    have J2 := Lib.hid (show Pe v2 P (cn0 a) ∧ Ke [] u1 v2 ∧ ∀ x ∈ P.bs, u1.heap.size ≤ x from ⟨j1, (Ke.refl [] u1).drew.trans j2, j3⟩)
    clear j1 j2 j3
    obtain ⟨v3, hrun, r1, r2⟩ := (M1.out.ke J2.out.2.1 (by simp)).store kinC (by have := HLL.out; omega) (lb : Int) (some P.p) HWF.out HNO.out
    have hrun : (Instr.mapUpdate 49 (.map (some mb)) (.int .i64 (lb : Int)) (.pointer (some ⟨P.p, 0, none⟩))).run Tryz.prog v2 = .ok () v3 := hrun
    have J3 := Lib.hid (And.intro r1 r2)
    clear r1 r2
    refine wpAnyH_ready (rs := [10]) (by kernel_rfl) (by simp) (AllReadyH.cons rfl (fun K hK => ?_) AllReadyH.nil)
    rw [if_pos (by kernel_rfl)]
    go_simp
    refine hK.out _ _ (⟨((B1.out.ke J2.out.2.1 (by simp)).ke J3.out.2 (by have := HTT.out.ne; simpa using this)).cell 0, ((B1.out.ke J2.out.2.1 (by simp)).ke J3.out.2 (by have := HTT.out.ne; simpa using this)).cell 1⟩) (fun hHeld => ?_)
    try simp only [Act.put, List.setIfInBounds_toArray, List.set_cons_zero, List.set_cons_succ, List.getElem_toArray, List.getElem_cons_succ, List.getElem_cons_zero]
    clear hrun
    refine wpAnyH_done (by kernel_rfl) ?_ _
    clear hHeld
    have c1 : v3.cell? ⟨tb, 1, none⟩ = some (.int .i64 (lb : Int)) := ((B1.out.ke J2.out.2.1 (by simp)).ke J3.out.2 (by have := HTT.out.ne; simpa using this)).cell 1
    go_wp2_with fail
    go_ret2
    have hsz : u.heap.size ≤ u1.heap.size := K1.out.size
    have k2 : Ke [tb] u v2 := K1.out.trans J2.out.2.1.nil
    have htm := HTT.out.more (P := P) HG.out HZ.out.hi (a := a) k2 J2.out.1 (fun x hx => Nat.le_trans hsz (J2.out.2.2 x hx)) J3.out.2 (by rw [HLA.out]; exact B1.out.ke J2.out.2.1 (by simp)) (by rw [HLA.out]; exact J3.out.1)
    have kH : Ke H u v3 := (k2.more (fun x hx => by rw [List.mem_singleton.1 hx]; exact HTT.out.tH)).trans (J3.out.2.more (fun x hx => by rw [List.mem_singleton.1 hx]; exact HTT.out.mH))
    have sp : Sp u v3 H (P.bs ++ H) := ⟨kH, fun y hy => by
      rcases List.mem_append.1 hy with e | e
      · exact .inr (Nat.le_trans hsz (J2.out.2.2 y e))
      · exact .inl e⟩
    have hzc := HZ.out.turn sp (fun y hy => by
      rcases List.mem_append.1 hy with e | e
      · exact Nat.lt_of_lt_of_le (J2.out.1.lt y e) J3.out.2.size
      · exact Nat.lt_of_lt_of_le (HZ.out.hi y e) kH.size) htm
    have e7 : (lb : Int) = (t.la : Int) + 1 := by have := HLA.out; omega
    refine ⟨?_, P.bs ++ H, hzc, sp⟩
    rw [← e7]
    rfl
theorem perm_rm {l : List (Int × Cn)} {i : Int} {c : Cn} (h : fnC l i = some c) (hu : (l.map (·.1)).Pairwise (· < ·)) : l.Perm ((i, c) :: rmC l i) := by
  induction l with
  | nil => cases h
  | cons p l ih =>
    rw [fn_cons] at h
    rw [List.map_cons, List.pairwise_cons] at hu
    by_cases hp : p.1 = i
    · rw [if_pos hp] at h
      injection h with h
      have e1 : rmC (p :: l) i = rmC l i := by unfold rmC; rw [List.filter_cons]; simp [hp]
      have e2 : rmC l i = l := rm_none (fn_none.2 (fun q hq he => by have := hu.1 q.1 (List.mem_map.2 ⟨q, hq, rfl⟩); omega))
      rw [e1, e2, ← h, ← hp]
    · rw [if_neg hp] at h
      have e1 : rmC (p :: l) i = p :: rmC l i := by unfold rmC; rw [List.filter_cons]; simp [hp]
      rw [e1]
      exact ((ih h hu.2).cons p).trans (List.Perm.swap _ _ _)
theorem mem_rm {l : List (Int × Cn)} {i : Int} {x : Int × Cn} (h : x ∈ rmC l i) : x ∈ l := (List.mem_filter.1 h).1
set_option maxRecDepth 100000 in
set_option maxHeartbeats 4000000 in
theorem c_close (h : Zc W u H tb t) (hg : Gc t) (i : Int) (r : Bool) (t2 : Tc) (hE : clC t i = (r, t2)) (hw : WfN i := by first | exact (by decide) | exact (Hid.out (by assumption))) :
    Calls Tryz.prog 19 #[.pointer (some ⟨tb, 0, none⟩), .int .i64 i] u fun e u' => e = .returned (.bool r) ∧ Zc W u' H tb t2 ∧ Sp u u' H H := by
  have HZ := Lib.hid h
  have HG := Lib.hid hg
  obtain ⟨mb, pl, hz⟩ := h.ex
  obtain ⟨ka, hka⟩ : ∃ ka, u.heap.size = ka := ⟨_, rfl⟩
  obtain ⟨v0, hv0⟩ : ∃ v0, (u.alloc (.cells #[.pointer (some ⟨tb, 0, none⟩)] 24)).alloc (.cells #[.int .i64 i] 3) = v0 := ⟨_, rfl⟩
  have kv0 : Ke [] u v0 := by rw [← hv0]; exact ((Ke.refl [] u).alloc _).alloc _
  have e1 : (u.alloc (.cells #[.pointer (some ⟨tb, 0, none⟩)] 24)).heap.size = ka + 1 := by rw [World.size_alloc, hka]
  have ba : Bk v0 ka 24 #[.pointer (some ⟨tb, 0, none⟩)] := by rw [← hv0, ← hka]; exact (Bk.new _ _ _).alloc _
  have bb : Bk v0 (ka + 1) 3 #[.int .i64 i] := by rw [← hv0, ← e1]; exact Bk.new _ _ _
  have d0 : v0.cell? ⟨ka, 0, none⟩ = some (.pointer (some ⟨tb, 0, none⟩)) := ba.cell 0
  have d1 : v0.cell? ⟨ka + 1, 0, none⟩ = some (.int .i64 i) := bb.cell 0
  have hz0 := hz.ke kv0 (fun _ _ hx => by cases hx)
  have c0 : v0.cell? ⟨tb, 0, none⟩ = some (.map (some mb)) := hz0.tk.cell 0
  have HKV := Lib.hid kv0
  cases he : t.f i with
  | none =>
    have hh : hsC t i = false := by unfold hsC; rw [he]; rfl
    unfold clC at hE
    rw [hh] at hE
    injection hE with e1 e2
    subst e1; subst e2
    have hlk : (Instr.lookup 49 (.map (some mb)) (.int .i64 i) true).run Tryz.prog v0 = .ok (.tuple #[.pointer none, .bool false]) v0 := hz0.mp.miss kinC hw (hz0.miss he)
    clear h hz hz0 hg hw he ba bb kv0 hh
    go_enter Tryz.func19, Tryz.ntmps19
    go_upto_region 1 with fail
    try rw [hv0]
    try rw [hka]
    clear hv0 e1
    go_wp2_with (go_at_call 54; go_enter Tryz.func54, Tryz.ntmps54)
    go_ret
    exact ⟨rfl, HZ.out.on (HKV.out.below (Nat.le_refl _) (by simp)), HKV.out.sp⟩
  | some c =>
    have hh : hsC t i = true := by unfold hsC; rw [he]; rfl
    unfold clC at hE
    rw [hh, if_pos rfl] at hE
    injection hE with e1 e2
    subst e1; subst e2
    have hlk : (Instr.lookup 49 (.map (some mb)) (.int .i64 i) true).run Tryz.prog v0 = .ok (.tuple #[.pointer (some ⟨(pl i).p, 0, none⟩), .bool true]) v0 := hz0.mp.hit kinC (hz0.hit he).2
    obtain ⟨P, hP⟩ : ∃ P, pl i = P := ⟨_, rfl⟩
    rw [hP] at hlk
    have HPM := Lib.hid (show List.Perm (enC_ pl t.l) ((i, some P.p) :: enC_ pl (rmC t.l i)) by
      have h1 := (perm_rm he hg.up).map fun x : Int × Cn => (x.1, some (pl x.1).p)
      rw [List.map_cons] at h1
      show List.Perm (t.l.map _) ((i, some P.p) :: (rmC t.l i).map _)
      rw [← hP]
      exact h1)
    have HMM := Lib.hid (fun v (kv : Ke [] v0 v) => (hz0.mp.ke kv (by simp)).perm HPM.out)
    have HC := Lib.hid (fun v (kv : Ke [mb] v0 v) => And.intro (ba.ke kv (by have := HZ.out.hi _ hz.mH; rw [List.mem_singleton]; omega)) (And.intro (bb.ke kv (by have := HZ.out.hi _ hz.mH; rw [List.mem_singleton]; omega)) (hz0.tk.ke kv (by simpa using hz.ne))))
    have HTT := Lib.hid hz
    have HE := Lib.hid he
    clear h hz hz0 hg hw he ba bb kv0 hh hP
    go_enter Tryz.func19, Tryz.ntmps19
    go_upto_region 1 with fail
    try rw [hv0]
    try rw [hka]
    clear hv0 e1
    go_wp2_with (first | (go_at_call 54; go_enter Tryz.func54, Tryz.ntmps54) | (go_at_call 62; go_enter Tryz.func62, Tryz.ntmps62))
    try simp only [List.cons_append, List.nil_append]
    refine wp_region_held_drew (S := fun v => v.cell? ⟨ka, 0, none⟩ = some (.pointer (some ⟨tb, 0, none⟩)) ∧ v.cell? ⟨ka + 1, 0, none⟩ = some (.int .i64 i) ∧ v.cell? ⟨tb, 0, none⟩ = some (.map (some mb))) (by kernel_rfl) (⟨(HC.out v0.drew (Ke.refl [mb] v0).drew).1.cell 0, (HC.out v0.drew (Ke.refl [mb] v0).drew).2.1.cell 0, (HC.out v0.drew (Ke.refl [mb] v0).drew).2.2.cell 0⟩) (fun hHeld => ?_)
    refine take_at (some 5) (i := 0) (v := ?_) rfl rfl (by kernel_rfl) (by kernel_rfl) (by kernel_rfl) (fun _ _ _ h => h) (Or.inl ⟨by kernel_rfl, ?_⟩) hHeld ?_
    rotate_left
    · intro wz hSw; obtain ⟨k0, k1, k2⟩ := hSw; go_simp; try (with_reducible rfl)
    try simp only [Act.put, List.setIfInBounds_toArray, List.set_cons_zero, List.set_cons_succ, List.getElem_toArray, List.getElem_cons_succ, List.getElem_cons_zero]
    refine take_at (some 6) (i := 1) (v := ?_) rfl rfl (by kernel_rfl) (by kernel_rfl) (by kernel_rfl) (fun _ _ _ h => h) (Or.inl ⟨by kernel_rfl, ?_⟩) hHeld ?_
    rotate_left
    · intro wz hSw; obtain ⟨k0, k1, k2⟩ := hSw; go_simp; try (with_reducible rfl)
    try simp only [Act.put, List.setIfInBounds_toArray, List.set_cons_zero, List.set_cons_succ, List.getElem_toArray, List.getElem_cons_succ, List.getElem_cons_zero]
    refine take_at (some 7) (i := 2) (v := ?_) rfl rfl (by kernel_rfl) (by kernel_rfl) (by kernel_rfl) (fun _ _ _ h => h) (Or.inl ⟨by kernel_rfl, ?_⟩) hHeld ?_
    rotate_left
    · intro wz hSw; obtain ⟨k0, k1, k2⟩ := hSw; go_simp; try (with_reducible rfl)
    try simp only [Act.put, List.setIfInBounds_toArray, List.set_cons_zero, List.set_cons_succ, List.getElem_toArray, List.getElem_cons_succ, List.getElem_cons_zero]
    refine take_at (some 8) (i := 3) (v := ?_) rfl rfl (by kernel_rfl) (by kernel_rfl) (by kernel_rfl) (fun _ _ _ h => h) (Or.inl ⟨by kernel_rfl, ?_⟩) hHeld ?_
    rotate_left
    · intro wz hSw; obtain ⟨k0, k1, k2⟩ := hSw; go_simp; try (with_reducible rfl)
    try simp only [Act.put, List.setIfInBounds_toArray, List.set_cons_zero, List.set_cons_succ, List.getElem_toArray, List.getElem_cons_succ, List.getElem_cons_zero]
    refine take_at (some 9) (i := 4) (v := ?_) rfl rfl (by kernel_rfl) (by kernel_rfl) (by kernel_rfl) (fun _ _ _ h => h) (Or.inl ⟨by kernel_rfl, ?_⟩) hHeld ?_
    rotate_left
    · intro wz hSw; obtain ⟨k0, k1, k2⟩ := hSw; go_simp; try (with_reducible rfl)
    try simp only [Act.put, List.setIfInBounds_toArray, List.set_cons_zero, List.set_cons_succ, List.getElem_toArray, List.getElem_cons_succ, List.getElem_cons_zero]
    obtain ⟨v3, hrun, r1, r2⟩ := (HMM.out v0.drew (Ke.refl [] v0).drew).drop kinC 0
    have J3 := Lib.hid (show MnC v3 mb (enC_ pl (rmC t.l i)) ∧ Ke [mb] v0 v3 from ⟨r1, (Ke.refl [mb] v0).drew.trans r2⟩)
    clear r1 r2
    refine wpAnyH_ready (rs := [5]) (by kernel_rfl) (by simp) (AllReadyH.cons rfl (fun K hK => ?_) AllReadyH.nil)
    rw [if_pos (by kernel_rfl)]
    go_simp
    refine hK.out _ _ (⟨(HC.out v3 J3.out.2).1.cell 0, (HC.out v3 J3.out.2).2.1.cell 0, (HC.out v3 J3.out.2).2.2.cell 0⟩) (fun hHeld => ?_)
    try simp only [Act.put, List.setIfInBounds_toArray, List.set_cons_zero, List.set_cons_succ, List.getElem_toArray, List.getElem_cons_succ, List.getElem_cons_zero]
    clear hrun
    refine wpAnyH_done (by kernel_rfl) ?_ _
    clear hHeld d0 d1 c0 hlk
    go_wp2_with fail
    go_ret
    have km : Ke [mb] u v3 := HKV.out.nil.trans J3.out.2
    have kH : Ke H u v3 := km.more (fun x hx => by rw [List.mem_singleton.1 hx]; exact HTT.out.mH)
    have hoff : ∀ x ∈ t.l, ∀ b ∈ (pl x.1).bs, b ∉ [mb] := fun x hx b hb => by rw [List.mem_singleton]; exact (HTT.out.off x hx b hb).2.1
    have hzc : Tz v3 H tb mb pl { t with l := rmC t.l i } := ⟨HTT.out.tk.ke km (by simpa using HTT.out.ne), J3.out.1, fun x hx => (HTT.out.at_ x (mem_rm hx)).ke km (hoff x (mem_rm hx)), fun x hx y hy => HTT.out.ap x (mem_rm hx) y (mem_rm hy), fun x hx => HTT.out.off x (mem_rm hx), HTT.out.ne, HTT.out.tH, HTT.out.mH⟩
    exact ⟨rfl, HZ.out.turn (Sp.of kH) (fun y hy => Nat.lt_of_lt_of_le (HZ.out.hi y hy) kH.size) hzc, Sp.of kH⟩
end
end Go.Proofs.YtndamiocmdnenaaGreat
