/- One connection of the program's: next: its contract. (Written by gen_cnn.py.) -/
import Derived.Test.YtndamiocmdnenaaCnP
namespace Go.Proofs.Ytndamiocmdnenaa
set_option linter.unusedVariables false
set_option maxRecDepth 100000
set_option linter.unusedSimpArgs false
open Go.RowKit

theorem fr3 {u : World} {q : Nat} {t : TypeId} {a b c : Value} (h : Bk u q t #[a, b, c]) : (u.cell? ⟨q, 0, none⟩ = some a ∧ u.cell? ⟨q, 1, none⟩ = some b ∧ u.cell? ⟨q, 2, none⟩ = some c) ∧ (u.frozen? ⟨q, 0, none⟩ = false ∧ u.frozen? ⟨q, 1, none⟩ = false ∧ u.frozen? ⟨q, 2, none⟩ = false) := ⟨⟨h.cell 0, h.cell 1, h.cell 2⟩, h.frozen 0, h.frozen 1, h.frozen 2⟩
/-- Behind what turned but in L a block has turned that is new. -/
theorem ke_new2 {L : List Nat} {u v w : World} {q : Nat} (h : Ke L u v) (k : Ke [q] v w) (hq : u.heap.size ≤ q) : Ke L u w :=
  ⟨k.os.trans h.os, k.tape.trans h.tape, k.output.trans h.output, Nat.le_trans h.size k.size, fun i hi hL => (k.block i (Nat.lt_of_lt_of_le hi h.size) (fun hx => by rw [List.mem_singleton] at hx; omega)).trans (h.block i hi hL)⟩
theorem st3 {u : World} {q : Nat} {t : TypeId} {a b c : Value} (h : Bk u q t #[a, b, c]) (a' b' c' : Value) : Bk (((u.setCell ⟨q, 0, none⟩ a').setCell ⟨q, 1, none⟩ b').setCell ⟨q, 2, none⟩ c') q t #[a', b', c'] ∧ Ke [q] u (((u.setCell ⟨q, 0, none⟩ a').setCell ⟨q, 1, none⟩ b').setCell ⟨q, 2, none⟩ c') :=
  ⟨((h.set 0 a').set 1 b').set 2 c', (((Ke.refl [q] u).set (p := ⟨q, 0, none⟩) (by simp) _).set (p := ⟨q, 1, none⟩) (by simp) _).set (p := ⟨q, 2, none⟩) (by simp) _⟩
section
variable {u u' : World} {P : Pl} {c : Cn}
set_option maxRecDepth 100000 in
set_option maxHeartbeats 4000000 in
theorem pe_next (h : Pe u P c) (l : List UInt8) (b : Bool) (er : Int) (c2 : Cn) (hE : ne1 c = ((l, b, er), c2)) (n : Nat) (hn : l.length = n) :
    Calls Try.prog 63 #[.pointer (some ⟨P.p, 0, none⟩)] u fun e u' => ∃ A cp, e = .returned (.agg #[.slice A n cp, .bool b, .int .i64 er]) ∧ Fs u' u.heap.size [] A n cp l ∧ Pe u' P c2 ∧ Ke P.bs u u' := by
  have HP := Lib.hid h
  obtain ⟨m, hm⟩ : ∃ m, c.q.length = m := ⟨_, rfl⟩
  have hm1 : m ≤ 512 := by rw [← hm]; exact h.a.fit
  obtain ⟨q0, hq0⟩ : ∃ q0, u.heap.size = q0 := ⟨_, rfl⟩
  obtain ⟨v0, hv0⟩ : ∃ v0, u.alloc (.cells #[.slice none 0 0, .bool false, .int .i64 0] 85) = v0 := ⟨_, rfl⟩
  have kv0 : Ke [] u v0 := by rw [← hv0]; exact (Ke.refl [] u).alloc _
  have sv0 : v0.heap.size = q0 + 1 := by rw [← hv0, World.size_alloc, hq0]
  have B0 := Lib.hid (show Bk v0 q0 85 #[.slice none 0 0, .bool false, .int .i64 0] by rw [← hv0, ← hq0]; exact Bk.new _ _ _)
  have HLK := look_ok P.r0 P.g0 512 c.q v0 (h.a.ke kv0 (by simp) (by simp))
  rw [hm] at HLK
  have HL := Lib.hid HLK
  have C1 := Lib.hid (fun v (kv : Ke [] u v) => (h.bk.ke kv (by simp)).cell 1)
  have c1 : v0.cell? ⟨P.p, 1, none⟩ = some (.pointer (some ⟨P.r0, 0, none⟩)) := C1.out v0 kv0
  have HQ := Lib.hid hm
  have HK0 := Lib.hid kv0
  have HS0 := Lib.hid sv0
  have HQ0 := Lib.hid hq0
  have HF := Lib.hid (fun v1 (j : Bk v1 (q0 + 1) 5 (bcells c.q)) => frfirst_ok (some ⟨q0 + 1, 0, none⟩) m m c.q v1 hm (Nat.le_refl _) (by omega) ((Rb.bk j).more (by have := j.lt; omega)))
  have HLT := Lib.hid h.lt
  unfold ne1 at hE
  cases hb : begB c.q with
  | false =>
    rw [if_pos hb] at hE
    injection hE with e1 e2
    injection e1 with e1 e3
    injection e3 with e3 e4
    subst e1; subst e2; subst e3; subst e4
    have hn0 : n = 0 := hn.symm
    subst hn0
    have hz := beg_none _ hb
    simp only [hz, part_nil _ hz, err_bad _ hb, List.length_nil] at HF
    clear h hm hq0 hm1 HLK sv0 kv0 hb hz hn
    go_enter Try.func63, Try.ntmps63
    go_upto_region 1 with fail
    try rw [hv0]
    try rw [HQ0.out]
    clear hv0
    go_upto_region 2 with (first | (go_at_call 75; (with_reducible refine HL.out.mono ?_); rintro e v1 ⟨rfl, j1, j2⟩; have J1 := Lib.hid (And.intro j1 j2); clear j1 j2; try rw [HS0.out]) | (go_at_call 74; (with_reducible refine (HF.out v1 (by have := J1.out.1; rw [HS0.out] at this; exact this)).mono ?_); rintro e v2 ⟨A2, c2, rfl, j1, j2, j3⟩; have J2 := Lib.hid (And.intro j1 (And.intro j2 j3)); clear j1 j2 j3))
    clear c1
    have K02b := Lib.hid (show Ke [] v0 v2 from J1.out.2.trans (Ke.of J2.out.2.2))
    have K02 := Lib.hid (HK0.out.trans K02b.out)
    obtain ⟨⟨z0, z1, z2⟩, y0, y1, y2⟩ := fr3 (B0.out.ke K02b.out (by simp))
    go_wp2_with fail
    have hst := st3 (B0.out.ke K02b.out (by simp)) (.slice none 0 0) (.bool false) (.int .i64 61)
    try simp only [Exit.inBlock, Exit.then]
    refine bodyPost_ret (results_cell_row rfl _ _ q0 85 _ (0, 0) _ rfl hst.1 Try.underlying85 rfl (by kernel_rfl)) rfl ?_
    exact ⟨none, 0, rfl, Fs.nil _ _ _, (HP.out.ke K02.out (by simp)).ke hst.2 (fun x hx => by have h1 := HLT.out x hx; have h2 := HQ0.out; rw [List.mem_singleton]; omega), (ke_new2 K02.out hst.2 (by have := HQ0.out; omega)).nil⟩
  | true =>
    rw [if_neg (by simp [hb])] at hE
    by_cases hz : lenF c.q = 0
    · rw [if_pos hz] at hE
      injection hE with e1 e2
      injection e1 with e1 e3
      injection e3 with e3 e4
      subst e1; subst e2; subst e3; subst e4
      have hn0 : n = 0 := hn.symm
      subst hn0
      simp only [hz, part_nil _ hz, err_ok _ hb, List.length_nil] at HF
      clear h hm hq0 hm1 HLK sv0 kv0 hb hz hn
      go_enter Try.func63, Try.ntmps63
      go_upto_region 1 with fail
      try rw [hv0]
      try rw [HQ0.out]
      clear hv0
      go_upto_region 2 with (first | (go_at_call 75; (with_reducible refine HL.out.mono ?_); rintro e v1 ⟨rfl, j1, j2⟩; have J1 := Lib.hid (And.intro j1 j2); clear j1 j2; try rw [HS0.out]) | (go_at_call 74; (with_reducible refine (HF.out v1 (by have := J1.out.1; rw [HS0.out] at this; exact this)).mono ?_); rintro e v2 ⟨A2, c2, rfl, j1, j2, j3⟩; have J2 := Lib.hid (And.intro j1 (And.intro j2 j3)); clear j1 j2 j3))
      clear c1
      have K02b := Lib.hid (show Ke [] v0 v2 from J1.out.2.trans (Ke.of J2.out.2.2))
      have K02 := Lib.hid (HK0.out.trans K02b.out)
      obtain ⟨⟨z0, z1, z2⟩, y0, y1, y2⟩ := fr3 (B0.out.ke K02b.out (by simp))
      go_wp2_with fail
      have hst := st3 (B0.out.ke K02b.out (by simp)) (.slice none 0 0) (.bool false) (.int .i64 0)
      try simp only [Exit.inBlock, Exit.then]
      refine bodyPost_ret (results_cell_row rfl _ _ q0 85 _ (0, 0) _ rfl hst.1 Try.underlying85 rfl (by kernel_rfl)) rfl ?_
      exact ⟨none, 0, rfl, Fs.nil _ _ _, (HP.out.ke K02.out (by simp)).ke hst.2 (fun x hx => by have h1 := HLT.out x hx; have h2 := HQ0.out; rw [List.mem_singleton]; omega), (ke_new2 K02.out hst.2 (by have := HQ0.out; omega)).nil⟩
    · rw [if_neg hz] at hE
      injection hE with e1 e2
      injection e1 with e1 e3
      injection e3 with e3 e4
      subst e1; subst e2; subst e3; subst e4
      have HTK := Lib.hid (fun v (kv : Ke [] u v) => take_ok P.r0 P.g0 512 ((lenF c.q : Nat) : Int) c.q v (h.a.ke kv (by simp) (by simp)))
      obtain ⟨k, hk⟩ : ∃ k, lenF c.q = k := ⟨_, rfl⟩
      have hkm : k ≤ m := by rw [← hk, ← hm]; exact len_le _
      have ht : takeM (k : Int) m = k := by unfold takeM; omega
      simp only [hk, hm, ht] at HTK
      simp only [hk, err_ok _ hb, hn] at HF
      rw [hk] at hz ⊢
      have hz2 : ((k : Int) == 0) = false := by rw [beq_eq_false_iff_ne]; omega
      have HN := Lib.hid hn
      clear h hm hq0 hm1 HLK sv0 kv0 hb hk hkm ht hn
      go_enter Try.func63, Try.ntmps63
      go_upto_region 1 with fail
      try rw [hv0]
      try rw [HQ0.out]
      clear hv0
      go_upto_region 2 with (first | (go_at_call 75; (with_reducible refine HL.out.mono ?_); rintro e v1 ⟨rfl, j1, j2⟩; have J1 := Lib.hid (And.intro j1 j2); clear j1 j2; try rw [HS0.out]) | (go_at_call 74; (with_reducible refine (HF.out v1 (by have := J1.out.1; rw [HS0.out] at this; exact this)).mono ?_); rintro e v2 ⟨A2, c2, rfl, j1, j2, j3⟩; have J2 := Lib.hid (And.intro j1 (And.intro j2 j3)); clear j1 j2 j3))
      clear c1
      have K02b := Lib.hid (show Ke [] v0 v2 from J1.out.2.trans (Ke.of J2.out.2.2))
      have K02 := Lib.hid (HK0.out.trans K02b.out)
      have c2 : v2.cell? ⟨P.p, 1, none⟩ = some (.pointer (some ⟨P.r0, 0, none⟩)) := C1.out v2 K02.out
      have hz3 : ¬ k = 0 := hz
      clear hz
      go_upto_region 5 with (go_at_call 44; (with_reducible refine (HTK.out v2 K02.out).mono ?_); rintro e v3 ⟨rfl, j1, j2, j3⟩; have J3 := Lib.hid (And.intro j2 j3); clear j1 j2 j3)
      clear c2
      have hq3 : q0 ∉ [P.r0] := by
        have h1 := HLT.out P.r0 (by simp [Pl.bs])
        have h2 := HQ0.out
        rw [List.mem_singleton]; omega
      have B3 := Lib.hid ((B0.out.ke K02b.out (by simp)).ke J3.out.2 hq3)
      obtain ⟨⟨z0, z1, z2⟩, y0, y1, y2⟩ := fr3 B3.out
      go_wp2_with fail
      have hst := st3 B3.out (.slice A2 n c2) (.bool true) (.int .i64 0)
      try simp only [Exit.inBlock, Exit.then]
      refine bodyPost_ret (results_cell_row rfl _ _ q0 85 _ (0, 0) _ rfl hst.1 Try.underlying85 rfl (by kernel_rfl)) rfl ?_
      have kk : Ke P.bs u v3 := K02.out.nil.trans (Pl.ka (.inr (.inr (.inl rfl))) J3.out.2)
      have hpe := (HP.out.ke K02.out (by simp)).ringA (J3.out.2.more (L' := [P.r0, P.g0]) (by simp)) J3.out.1
      have hfs : Fs v3 (q0 + 1) [] A2 n c2 (partF c.q) := ((OB.fs J2.out.1 J2.out.2.1 HN.out).low (by have h1 := HS0.out; have h2 := J1.out.2.size; omega)).ke J3.out.2 (fun x hx => by rw [List.mem_singleton.1 hx]; have h1 := HLT.out P.r0 (by simp [Pl.bs]); have h2 := HQ0.out; omega)
      have hq4 : ∀ x ∈ [q0], x < q0 + 1 := fun x hx => by rw [List.mem_singleton.1 hx]; omega
      have hq5 : ∀ x ∈ P.bs, x ∉ [q0] := fun x hx => by have h1 := HLT.out x hx; have h2 := HQ0.out; rw [List.mem_singleton]; omega
      have hku := ke_new2 kk hst.2 (by have := HQ0.out; omega)
      exact ⟨A2, c2, rfl, (hfs.ke hst.2 hq4).low (by have := HQ0.out; omega), hpe.ke hst.2 hq5, hku⟩
end
end Go.Proofs.Ytndamiocmdnenaa
