/- The program's table: Next: its contract. -/
import Derived.Test.YtndamiocmdnenaaGreatCnZ3
import Derived.BigQuiet
namespace Go.Proofs.YtndamiocmdnenaaGreat
set_option linter.unusedVariables false
set_option maxRecDepth 100000
set_option linter.unusedSimpArgs false
open Go.RowKit

section
variable {W u u' : World} {H H' : List Nat} {tb mb : Nat} {t : Tc} {P : Pl} {c : Cn} {pl : Int → Pl}
/-- A new block of three cells, filled behind what turned. -/
theorem fill3 {L : List Nat} {u v0 v1 : World} {q0 : Nat} {t : TypeId} {a b c : Value} (hq : u.heap.size = q0) (hv0 : u.alloc (.cells #[a, b, c] t) = v0) (k : Ke L v0 v1) (hL : ∀ x ∈ L, x < q0) : Bk v1 q0 t #[a, b, c] := by
  have B0 : Bk v0 q0 t #[a, b, c] := by rw [← hv0, ← hq]; exact Bk.new _ _ _
  exact B0.ke k (fun hx => by have := hL _ hx; omega)
set_option maxRecDepth 100000 in
set_option maxHeartbeats 2000000 in
theorem k_next (h : Pe u P c) (l : List UInt8) (b : Bool) (er : Int) (c2 : Cn) (hE : ne1 c = ((l, b, er), c2)) (n : Nat) (hn : l.length = n) :
    Calls Tryz.prog 52 #[.pointer (some ⟨P.p, 0, none⟩)] u fun e u' => ∃ A cp, e = .returned (.agg #[.slice A n cp, .bool b, .int .i64 er]) ∧ Fs u' u.heap.size [] A n cp l ∧ Pe u' P c2 ∧ Ke P.bs u u' := by
  obtain ⟨q0, hq0⟩ : ∃ q0, u.heap.size = q0 := ⟨_, rfl⟩
  obtain ⟨v0, hv0⟩ : ∃ v0, u.alloc (.cells #[.slice none 0 0, .bool false, .int .i64 0] 70) = v0 := ⟨_, rfl⟩
  have kv0 : Ke [] u v0 := by rw [← hv0]; exact (Ke.refl [] u).alloc _
  have HS0 := Lib.hid (show v0.heap.size = q0 + 1 by rw [← hv0, World.size_alloc, hq0])
  have HLT := Lib.hid (show ∀ x ∈ P.bs, x < q0 from fun x hx => by rw [← hq0]; exact h.lt x hx)
  have HPE := Lib.hid (pe_next (h.ke kv0 (by simp)) l b er c2 hE n hn)
  have HK0 := Lib.hid kv0
  have HB0 := Lib.hid (fun v1 (k : Ke P.bs v0 v1) => fill3 hq0 hv0 k HLT.out)
  have HQ0 := Lib.hid hq0
  clear h kv0 hE hn
  go_enter Tryz.func52, Tryz.ntmps52
  go_upto_region 1 with fail
  try rw [hv0]
  try rw [hq0]
  clear hv0 hq0
  go_upto_region 1 with fail
  go_wp2_with (go_at_call 53; (with_reducible refine HPE.out.mono ?_); rintro e v1 ⟨A5, cp5, rfl, j0, j1, j2⟩; have F5 := Lib.hid j0; have K5 := Lib.hid (And.intro j1 j2); obtain ⟨⟨z0, z1, z2⟩, y0, y1, y2⟩ := fr3 (HB0.out v1 K5.out.2); clear j0 j1 j2)
  have hst := st3 (HB0.out v1 K5.out.2) (.slice A5 n cp5) (.bool b) (.int .i64 er)
  try simp only [Exit.inBlock, Exit.then]
  refine bodyPost_ret (results_cell_row rfl _ _ q0 70 _ (0, 0) _ rfl hst.1 Tryz.underlying70 rfl (by kernel_rfl)) rfl ?_
  have hq5 : ∀ x ∈ P.bs, x ∉ [q0] := fun x hx => by have h1 := HLT.out x hx; rw [List.mem_singleton]; omega
  have hku := ke_new2 (HK0.out.nil.trans K5.out.2) hst.2 (by have := HQ0.out; omega)
  exact ⟨A5, cp5, rfl, (F5.out.ke hst.2 (fun x hx => by rw [List.mem_singleton.1 hx, HS0.out]; omega)).low (by rw [HS0.out]; have := HQ0.out; omega), K5.out.1.ke hst.2 hq5, hku⟩
set_option maxRecDepth 100000 in
set_option maxHeartbeats 2000000 in
theorem ask_next (h : Pe u P c) (c0 : u.cell? ⟨tb, 0, none⟩ = some (.map (some mb))) (i : Int) (hlk : ∀ v, Ke [] u v → (Instr.lookup 49 (.map (some mb)) (.int .i64 i) true).run Tryz.prog v = .ok (.tuple #[.pointer (some ⟨P.p, 0, none⟩), .bool true]) v) (l : List UInt8) (b : Bool) (er : Int) (c2 : Cn) (hE : ne1 c = ((l, b, er), c2)) (n : Nat) (hn : l.length = n) :
    Calls Tryz.prog 51 #[.pointer (some ⟨tb, 0, none⟩), .int .i64 i, .func (.func 52) #[] #[]] u fun e u' => ∃ A cp, e = .returned (.agg #[.slice A n cp, .bool b, .int .i64 er]) ∧ Fs u' u.heap.size [] A n cp l ∧ Pe u' P c2 ∧ Ke P.bs u u' := by
  obtain ⟨q0, hq0⟩ : ∃ q0, u.heap.size = q0 := ⟨_, rfl⟩
  obtain ⟨v0, hv0⟩ : ∃ v0, u.alloc (.cells #[.slice none 0 0, .bool false, .int .i64 0] 70) = v0 := ⟨_, rfl⟩
  have kv0 : Ke [] u v0 := by rw [← hv0]; exact (Ke.refl [] u).alloc _
  have HS0 := Lib.hid (show v0.heap.size = q0 + 1 by rw [← hv0, World.size_alloc, hq0])
  have HLT := Lib.hid (show ∀ x ∈ P.bs, x < q0 from fun x hx => by rw [← hq0]; exact h.lt x hx)
  have HPE := Lib.hid (k_next (h.ke kv0 (by simp)) l b er c2 hE n hn)
  have HK0 := Lib.hid kv0
  have HB0 := Lib.hid (fun v1 (k : Ke P.bs v0 v1) => fill3 hq0 hv0 k HLT.out)
  have HQ0 := Lib.hid hq0
  have d0 : v0.cell? ⟨tb, 0, none⟩ = some (.map (some mb)) := (World.cell?_of_block (w := u) (a := ⟨tb, 0, none⟩) (kv0.block tb (World.block_lt_of_cell? u _ c0) (by simp))).trans c0
  have hl0 := hlk v0 kv0
  clear h kv0 hE hn hlk c0
  go_enter Tryz.func51, Tryz.ntmps51
  go_upto_region 1 with fail
  try rw [hv0]
  try rw [hq0]
  clear hv0 hq0
  go_wp2_with (go_at_call 52; (with_reducible refine HPE.out.mono ?_); rintro e v1 ⟨A5, cp5, rfl, j0, j1, j2⟩; have F5 := Lib.hid j0; have K5 := Lib.hid (And.intro j1 j2); obtain ⟨⟨z0, z1, z2⟩, y0, y1, y2⟩ := fr3 (HB0.out v1 K5.out.2); clear j0 j1 j2)
  have hst := st3 (HB0.out v1 K5.out.2) (.slice A5 n cp5) (.bool b) (.int .i64 er)
  try simp only [Exit.inBlock, Exit.then]
  refine bodyPost_ret (results_cell_row rfl _ _ q0 70 _ (0, 0) _ rfl hst.1 Tryz.underlying70 rfl (by kernel_rfl)) rfl ?_
  have hq5 : ∀ x ∈ P.bs, x ∉ [q0] := fun x hx => by have h1 := HLT.out x hx; rw [List.mem_singleton]; omega
  have hku := ke_new2 (HK0.out.nil.trans K5.out.2) hst.2 (by have := HQ0.out; omega)
  exact ⟨A5, cp5, rfl, (F5.out.ke hst.2 (fun x hx => by rw [List.mem_singleton.1 hx, HS0.out]; omega)).low (by rw [HS0.out]; have := HQ0.out; omega), K5.out.1.ke hst.2 hq5, hku⟩
set_option maxRecDepth 100000 in
set_option maxHeartbeats 2000000 in
theorem ask_next0 (c0 : u.cell? ⟨tb, 0, none⟩ = some (.map (some mb))) (i : Int) (hlk : ∀ v, Ke [] u v → (Instr.lookup 49 (.map (some mb)) (.int .i64 i) true).run Tryz.prog v = .ok (.tuple #[.pointer none, .bool false]) v) :
    Calls Tryz.prog 51 #[.pointer (some ⟨tb, 0, none⟩), .int .i64 i, .func (.func 52) #[] #[]] u fun e u' => e = .returned (.agg #[.slice none 0 0, .bool false, .int .i64 0]) ∧ Ke [] u u' := by
  obtain ⟨q0, hq0⟩ : ∃ q0, u.heap.size = q0 := ⟨_, rfl⟩
  obtain ⟨v0, hv0⟩ : ∃ v0, u.alloc (.cells #[.slice none 0 0, .bool false, .int .i64 0] 70) = v0 := ⟨_, rfl⟩
  have kv0 : Ke [] u v0 := by rw [← hv0]; exact (Ke.refl [] u).alloc _
  have hs0 : v0.heap.size = q0 + 1 := by rw [← hv0, World.size_alloc, hq0]
  have HK0 := Lib.hid kv0
  have d0 : v0.cell? ⟨tb, 0, none⟩ = some (.map (some mb)) := (World.cell?_of_block (w := u) (a := ⟨tb, 0, none⟩) (kv0.block tb (World.block_lt_of_cell? u _ c0) (by simp))).trans c0
  have hl0 := hlk v0 kv0
  obtain ⟨v1, hv1⟩ : ∃ v1, v0.alloc (.cells #[.slice none 0 0, .bool false, .int .i64 0] 70) = v1 := ⟨_, rfl⟩
  have K1 := Lib.hid (show Ke [] v0 v1 by rw [← hv1]; exact (Ke.refl [] v0).alloc _)
  have B0 : Bk v0 q0 70 #[.slice none 0 0, .bool false, .int .i64 0] := by rw [← hv0, ← hq0]; exact Bk.new _ _ _
  have B1 : Bk v1 (q0 + 1) 70 #[.slice none 0 0, .bool false, .int .i64 0] := by rw [← hv1, ← hs0]; exact Bk.new _ _ _
  have HB := Lib.hid (And.intro (B0.ke K1.out (by simp)) B1)
  have HQ0 := Lib.hid hq0
  clear kv0 hlk c0 B0 B1
  go_enter Tryz.func51, Tryz.ntmps51
  go_upto_region 1 with fail
  try rw [hv0]
  try rw [hq0]
  clear hv0 hq0
  go_upto_region 4 with fail
  try rw [hv1]
  try rw [hs0]
  clear hv1 hs0 d0 hl0
  obtain ⟨⟨z0, z1, z2⟩, y0, y1, y2⟩ := fr3 HB.out.1
  obtain ⟨⟨w0, w1, w2⟩, -, -, -⟩ := fr3 HB.out.2
  go_wp2_with fail
  have hst := st3 HB.out.1 (.slice none 0 0) (.bool false) (.int .i64 0)
  try simp only [Exit.inBlock, Exit.then]
  refine bodyPost_ret (results_cell_row rfl _ _ q0 70 _ (0, 0) _ rfl hst.1 Tryz.underlying70 rfl (by kernel_rfl)) rfl ?_
  exact ⟨rfl, ke_new2 (HK0.out.trans K1.out) hst.2 (by have := HQ0.out; omega)⟩
set_option maxRecDepth 100000 in
set_option maxHeartbeats 2000000 in
theorem c_next (h : Zc W u H tb t) (hg : Gc t) (i : Int) (n : Nat) (l : List UInt8) (b : Bool) (er : Int) (t2 : Tc) (hE : neC t i = ((l, b, er), t2)) (hn : l.length = n) (hw : WfN i := by first | exact (by decide) | exact (Hid.out (by assumption))) :
    Calls Tryz.prog 15 #[.pointer (some ⟨tb, 0, none⟩), .int .i64 i] u fun e u' => ∃ A cp, e = .returned (.tuple #[.slice A n cp, .bool b, .int .i64 er]) ∧ Fs u' u.heap.size [] A n cp l ∧ Zc W u' H tb t2 ∧ Sp u u' H H := by
  have HZ := Lib.hid h
  obtain ⟨mb, pl, hz⟩ := h.ex
  have c0 : u.cell? ⟨tb, 0, none⟩ = some (.map (some mb)) := hz.tk.cell 0
  cases he : t.f i with
  | none =>
    unfold neC at hE
    rw [he] at hE
    injection hE with e1 e2
    injection e1 with e1 e3
    injection e3 with e3 e4
    subst e1; subst e2; subst e3; subst e4
    have hn : 0 = n := hn
    subst hn
    have HA := Lib.hid (ask_next0 c0 i (fun v kv => (hz.ke kv (fun _ _ hx => by cases hx)).mp.miss kinC hw (hz.miss he)))
    clear h hg hz hw he c0
    go_enter Tryz.func15, Tryz.ntmps15
    go_upto_region 2 with (go_at_call 51; (with_reducible refine HA.out.mono ?_); rintro e v1 ⟨rfl, j⟩; have K1 := Lib.hid j; clear j)
    obtain ⟨q, hq⟩ : ∃ q, v1.heap.size = q := ⟨_, rfl⟩
    obtain ⟨v2, hv2⟩ : ∃ v2, v1.alloc (.cells #[.slice none 0 0, .bool false, .int .i64 0] 70) = v2 := ⟨_, rfl⟩
    have K2 := Lib.hid (show Ke [] v1 v2 by rw [← hv2]; exact (Ke.refl [] v1).alloc _)
    have B2 := Lib.hid (show Bk v2 q 70 #[.slice none 0 0, .bool false, .int .i64 0] by rw [← hv2, ← hq]; exact Bk.new _ _ _)
    obtain ⟨⟨z0, z1, z2⟩, -, -, -⟩ := fr3 B2.out
    try rw [hv2]
    try rw [hq]
    clear hv2 hq
    go_quiet (fail)
    go_wp2_with fail
    go_ret3
    have kk : Ke [] u (v2.drewN nq) := (K1.out.trans K2.out).trans (Ke.of (below_dn nq))
    exact ⟨none, 0, rfl, Fs.nil _ _ _, HZ.out.on (kk.below (Nat.le_refl _) (by simp)), kk.sp⟩
  | some c =>
    have hp := hz.at_ _ (hz.hit he).1
    have HE := Lib.hid he
    have HT := Lib.hid hz
    obtain ⟨P, hP⟩ : ∃ P, pl i = P := ⟨_, rfl⟩
    rw [hP] at hp
    have HPP := Lib.hid hP
    rw [ne_hit hg he] at hE
    injection hE with e1 e2
    obtain ⟨c2, hc2⟩ : ∃ c2, (ne1 c).2 = c2 := ⟨_, rfl⟩
    rw [hc2] at e2
    subst e2
    have hE1 : ne1 c = ((l, b, er), c2) := Prod.ext e1 hc2
    have HA := Lib.hid (ask_next hp c0 i (fun v kv => by rw [← hP]; exact (hz.ke kv (fun _ _ hx => by cases hx)).mp.hit kinC (hz.hit he).2) l b er c2 hE1 n hn)
    clear h hg hz hw he hp hP c0 e1 hc2 hE1
    go_enter Tryz.func15, Tryz.ntmps15
    go_upto_region 2 with (go_at_call 51; (with_reducible refine HA.out.mono ?_); rintro e v1 ⟨A5, cp5, rfl, j0, j1, j2⟩; have F5 := Lib.hid j0; have K5 := Lib.hid (And.intro j1 j2); clear j0 j1 j2)
    obtain ⟨q, hq⟩ : ∃ q, v1.heap.size = q := ⟨_, rfl⟩
    obtain ⟨v2, hv2⟩ : ∃ v2, v1.alloc (.cells #[.slice A5 n cp5, .bool b, .int .i64 er] 70) = v2 := ⟨_, rfl⟩
    have K2 := Lib.hid (show Ke [] v1 v2 by rw [← hv2]; exact (Ke.refl [] v1).alloc _)
    have B2 := Lib.hid (show Bk v2 q 70 #[.slice A5 n cp5, .bool b, .int .i64 er] by rw [← hv2, ← hq]; exact Bk.new _ _ _)
    obtain ⟨⟨z0, z1, z2⟩, -, -, -⟩ := fr3 B2.out
    try rw [hv2]
    try rw [hq]
    clear hv2 hq
    go_quiet (fail)
    go_wp2_with fail
    go_ret3
    have k2 : Ke [] v1 (v2.drewN nq) := K2.out.trans (Ke.of (below_dn nq))
    have kk : Ke P.bs u (v2.drewN nq) := K5.out.2.trans k2.nil
    have hpe := K5.out.1.ke k2 (by simp)
    rw [← HPP.out] at kk hpe
    obtain ⟨w1, w2⟩ := HZ.out.one HT.out HE.out kk (fun x hx => hx) hpe
    exact ⟨A5, cp5, rfl, F5.out.ke k2 (by simp), w1, w2⟩
end
end Go.Proofs.YtndamiocmdnenaaGreat
