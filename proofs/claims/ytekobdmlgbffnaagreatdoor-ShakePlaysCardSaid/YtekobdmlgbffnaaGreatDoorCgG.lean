/- The law's question whether a configuration is too much: what it answers no to is small. (Written by gen_cgg.py.) -/
import Derived.Test.YtekobdmlgbffnaaGreatDoorG17
import Derived.Test.YtekobdmlgbffnaaGreatDoorCgT2
import Derived.Test.YtekobdmlgbffnaaGreatDoorG9
import Derived.Test.YtekobdmlgbffnaaGreatDoorG6
import Derived.BigRegion
namespace Go.Proofs.YtekobdmlgbffnaaGreatDoor
set_option linter.unusedVariables false
set_option maxRecDepth 100000
set_option linter.unusedSimpArgs false
open Go.RowKit

theorem yif_min {P : Program} {ops : Array Oper} {S : World → Prop} {oi : Oper} {a : Act} (hw : Region.wanted oi (yielded ops a.tmps) = true) (x y : Operand) (t : TypeId) (ho : oi.op = .call { callee := .builtin .min, args := #[x, y], argTypes := #[t, t] }) (u v m : Int) (hx : a.eval x = .int .i64 u) (hy : a.eval y = .int .i64 v) (hm : min u v = m) : YieldsIf P ops S oi (.int .i64 m) a :=
  Or.inl ⟨hw, fun w _ => by
    subst hm
    have e : (if v < u then v else u) = min u v := by split <;> omega
    have hr : (Builtin.min_ #[t, t] oi.type #[.int .i64 u, .int .i64 v]).run P w = .ok (.int .i64 (min u v)) w := by rw [← e]; simp [Builtin.min_, Builtin.min2]
    unfold execOp
    simp only [ho, resolve, invoke, builtin, Sem.run_bind, Sem.run_pure, Result.andThen_ok, List.map_toArray, List.map_cons, List.map_nil, hx, hy, hr]⟩

/-- A token, a tenant that is small. -/
def SmK (k : Tk) : Prop := k.name.size < 3000 ∧ k.sec.size < 3000
structure SmT (y : Tv) : Prop where
  nm : y.t.name.size < 3000
  nn : y.t.nets.length < 3000
  nk : y.t.toks.length < 3000
  k : ∀ k ∈ y.t.toks, SmK k
structure SmG (x : Cv) : Prop where
  n : x.ts.length < 3000
  t : ∀ y ∈ x.ts, SmT y
/-- What Great leaves. -/
def GrP (x : Cv) (w : World) (e : Ending) (w' : World) : Prop := ∃ g : Bool, e = .returned (.bool g) ∧ (g = false → SmG x) ∧ Below w.heap.size w w'
theorem take_succ_all {α : Type} {p : α → Prop} {l : List α} {i : Nat} {x : α} (h : ∀ y ∈ l.take i, p y) (hx : l[i]? = some x) (hp : p x) : ∀ y ∈ l.take (i + 1), p y := by
  intro y hy
  rw [List.take_add_one, hx, List.mem_append] at hy
  rcases hy with hy | hy
  · exact h y hy
  · simp at hy; rw [hy]; exact hp

set_option maxRecDepth 100000 in
set_option maxHeartbeats 8000000 in
theorem great_ok (x : Cv) (w : World) (h : InCf w x) : Calls Tryz.prog 6 #[.agg (ccs x)] w (GrP x w) := by
  have HIN := Lib.hid h
  have HR := Lib.hid h.rc.r
  have hnb := h.n
  obtain ⟨a0, a1, a2, a3, ts, A, c⟩ := x
  dsimp only at hnb
  obtain ⟨n, hn⟩ : ∃ n, ts.length = n := ⟨_, rfl⟩
  have HN := Lib.hid hn
  have HX := Lib.hid (show Bx w w.heap.size 24 #[.int .i64 a0, .int .i64 a1, .int .i64 a2, .int .i64 a3, .slice A n c] (w.alloc (.cells #[.int .i64 a0, .int .i64 a1, .int .i64 a2, .int .i64 a3, .slice A n c] 24)) from Bx.new w _ _)
  simp only [ccs, hn] at hnb ⊢
  clear h hn
  go_enter Tryz.func6, Tryz.ntmps6
  go_wp2
  go_loopw [3, 4] (fun v3 v4 wr => ∃ (i m : Nat), i ≤ n ∧ m ≤ 1125899906842624 ∧ v3 = .int .i64 (m : Int) ∧ v4 = .int .i64 (i : Int) ∧ Hid (m < 3000 → n ≤ m ∧ ∀ y ∈ ts.take i, SmT y) ∧ Hid (Bx w w.heap.size 24 #[.int .i64 a0, .int .i64 a1, .int .i64 a2, .int .i64 a3, .slice A n c] wr)) (fun _ v4 _ => n - (intOf v4).toNat)
  case atStart => exact ⟨0, n, by omega, by omega, rfl, rfl, Lib.hid (fun _ => ⟨Nat.le_refl _, fun y hy => by simp at hy⟩), HX⟩
  case round =>
    obtain ⟨i, m, hi, hm, rfl, rfl, HD, HB⟩ := hrel
    have e4 : wr.cell? ⟨w.heap.size, 4, none⟩ = some (.slice A n c) := HB.out.cell 4
    by_cases hi1 : i < n
    · have hi2 : (i : Int) < (n : Int) := by omega
      by_cases hm1 : m < 3000
      · have hm2 : (m : Int) < 3000 := by omega
        obtain ⟨b, o, y, rfl, hy, h1, hcl⟩ := HR.out.at5 i (by rw [HN.out]; exact hi1)
        obtain ⟨c0, c1, c2, c3, c4⟩ := hcl wr HB.out.l
        have hin := HIN.out.each y (List.mem_of_getElem? hy)
        have HY := Lib.hid hy
        have hsz := h1.sz
        have hnn := hin.nn
        have hnk := hin.nk
        have hfk := h1.fk.max
        have hfc := h1.fk.cap
        have HRK := Lib.hid h1.k
        have HSK := Lib.hid h1.szk
        obtain ⟨⟨yn, ya, yb, nl, kl⟩, An, cn, Ak, ck⟩ := y
        dsimp only at c0 c1 c2 c3 c4 hsz hnn hnk hfk hfc
        obtain ⟨p, hp⟩ : ∃ p, nl.length = p := ⟨_, rfl⟩
        obtain ⟨q, hq⟩ : ∃ q, kl.length = q := ⟨_, rfl⟩
        have HP := Lib.hid hp
        have HQ := Lib.hid hq
        rw [hp] at c3 hnn
        rw [hq] at c4 hnk hfc
        obtain ⟨mm, hmm⟩ : ∃ v, min yn.size 3000 = v := ⟨_, rfl⟩
        have HMM := Lib.hid hmm
        have HMIN := Lib.hid (show min (yn.size : Int) 3000 = (mm : Int) by omega)
        have hmm2 : mm ≤ 3000 := by omega
        have HDD := Lib.hid (HD.out hm1)
        obtain ⟨wo, hwo⟩ : ∃ wo, wr = wo := ⟨_, rfl⟩
        subst wr
        obtain ⟨G, hG⟩ : ∃ G, wo.heap.size = G := ⟨_, rfl⟩
        have HXt := Lib.hid (show Bx wo wo.heap.size 33 #[.string yn, .int .i64 ya, .int .i64 yb, .slice An p cn, .slice Ak q ck] (wo.alloc (.cells #[.string yn, .int .i64 ya, .int .i64 yb, .slice An p cn, .slice Ak q ck] 33)) from Bx.new wo _ _)
        rw [hG] at HXt
        have HBo := Lib.hid HB.out
        clear hcl hy h1 hin hp hq hmm HD HB
        go_upto_region 7 with (refine wpList_min rfl (.tmp 29) (.const (.int .i64 3000)) 3 rfl (yn.size : Int) 3000 (mm : Int) rfl rfl HMIN.out ?_)
        obtain ⟨m1, hm1s⟩ : ∃ m1 : Nat, (m : Int) + (mm : Int) + (p : Int) + (q : Int) = (m1 : Int) := ⟨m + mm + p + q, by omega⟩
        have HM1 := Lib.hid (show m1 = m + mm + p + q by omega)
        have hm1b : m1 ≤ 844424930131968 := by omega
        rw [hm1s]
        try rw [hG]
        clear hm1s hG hm2 hmm2
        go_wp2
        go_loopw [3, 6] (fun v3 v6 wr => ∃ (k m2 : Nat), k ≤ q ∧ m2 ≤ 1125899906842624 ∧ v3 = .int .i64 (m2 : Int) ∧ v6 = .int .i64 (k : Int) ∧ Hid (m1 ≤ m2) ∧ Hid (m2 < 3000 → ∀ kk ∈ kl.take k, SmK kk) ∧ Hid (Bx wo G 33 #[.string yn, .int .i64 ya, .int .i64 yb, .slice An p cn, .slice Ak q ck] wr)) (fun _ v6 _ => q - (intOf v6).toNat)
        case atStart => exact ⟨0, m1, by omega, by omega, rfl, rfl, Lib.hid (Nat.le_refl _), Lib.hid (fun _ kk hk => by simp at hk), HXt⟩
        case round =>
          obtain ⟨k, m2, hk, hm2, rfl, rfl, HM2, HD2, HXw⟩ := hrel
          have f4 : wr.cell? ⟨G, 4, none⟩ = some (.slice Ak q ck) := HXw.out.cell 4
          by_cases hk1 : k < q
          · have hk2 : (k : Int) < (q : Int) := by omega
            by_cases hm3 : m2 < 3000
            · have hm4 : (m2 : Int) < 3000 := by omega
              have hbw : Below w.heap.size w wr := HBo.out.l.trans (HXw.out.l.mono HBo.out.l.size)
              obtain ⟨b3, o3, z, rfl, hz, hcl⟩ := RK.at3 HRK.out k (by rw [HQ.out]; exact hk1)
              obtain ⟨z0, z1, z2⟩ := hcl wr hbw
              have HZ := Lib.hid hz
              have HCL := Lib.hid hcl
              have hzs := HSK.out z (List.mem_of_getElem? hz)
              obtain ⟨zn, zs, zt⟩ := z
              dsimp only at z0 z1 z2 hzs
              obtain ⟨n1, hn1⟩ : ∃ v, min zn.size 3000 = v := ⟨_, rfl⟩
              obtain ⟨n2, hn2⟩ : ∃ v, min zs.size 3000 = v := ⟨_, rfl⟩
              have HN1 := Lib.hid hn1
              have HN2 := Lib.hid hn2
              have HMI1 := Lib.hid (show min (zn.size : Int) 3000 = (n1 : Int) by omega)
              have HMI2 := Lib.hid (show min (zs.size : Int) 3000 = (n2 : Int) by omega)
              have hn13 : n1 ≤ 3000 := by omega
              have hn23 : n2 ≤ 3000 := by omega
              have HBW := Lib.hid hbw
              have HDK := Lib.hid (HD2.out hm3)
              clear hcl hz hn1 hn2 hbw z0 z1 z2 HD2
              go_upto_region 10 with fail
              try simp only [List.cons_append, List.nil_append]
              refine wp_region_held_drew (S := fun wz => Below wr.heap.size wr wz) (by kernel_rfl) ((Below.refl _ _).drew) (fun hHeld => ?_)
              refine take_at (some 51) (i := 0) (v := ?_) rfl rfl (by kernel_rfl) (by kernel_rfl) (by kernel_rfl) (fun _ _ _ h => h) (Or.inl ⟨by kernel_rfl, ?_⟩) hHeld ?_
              rotate_left
              · intro wz hSw; have k0 : wz.cell? ⟨G, 4, none⟩ = some (.slice (some ⟨b3, o3, none⟩) q ck) := HXw.out.on hSw |>.cell 4; have k1 := HCL.out wz (HBW.out.trans (hSw.mono HBW.out.size)); obtain ⟨k2, k3, k4⟩ := k1; go_simp; try (with_reducible rfl)
              try simp only [Act.put, List.setIfInBounds_toArray, List.set_cons_zero, List.set_cons_succ, List.getElem_toArray, List.getElem_cons_succ, List.getElem_cons_zero]
              refine take_at (some 52) (i := 1) (v := ?_) rfl rfl (by kernel_rfl) (by kernel_rfl) (by kernel_rfl) (fun _ _ _ h => h) (Or.inl ⟨by kernel_rfl, ?_⟩) hHeld ?_
              rotate_left
              · intro wz hSw; have k0 : wz.cell? ⟨G, 4, none⟩ = some (.slice (some ⟨b3, o3, none⟩) q ck) := HXw.out.on hSw |>.cell 4; have k1 := HCL.out wz (HBW.out.trans (hSw.mono HBW.out.size)); obtain ⟨k2, k3, k4⟩ := k1; go_simp; try (with_reducible rfl)
              try simp only [Act.put, List.setIfInBounds_toArray, List.set_cons_zero, List.set_cons_succ, List.getElem_toArray, List.getElem_cons_succ, List.getElem_cons_zero]
              refine take_at (some 53) (i := 2) (v := ?_) rfl rfl (by kernel_rfl) (by kernel_rfl) (by kernel_rfl) (fun _ _ _ h => h) (Or.inl ⟨by kernel_rfl, ?_⟩) hHeld ?_
              rotate_left
              · intro wz hSw; have k0 : wz.cell? ⟨G, 4, none⟩ = some (.slice (some ⟨b3, o3, none⟩) q ck) := HXw.out.on hSw |>.cell 4; have k1 := HCL.out wz (HBW.out.trans (hSw.mono HBW.out.size)); obtain ⟨k2, k3, k4⟩ := k1; go_simp; try (with_reducible rfl)
              try simp only [Act.put, List.setIfInBounds_toArray, List.set_cons_zero, List.set_cons_succ, List.getElem_toArray, List.getElem_cons_succ, List.getElem_cons_zero]
              refine take_at (some 54) (i := 3) (v := ?_) rfl rfl (by kernel_rfl) (by kernel_rfl) (by kernel_rfl) (fun _ _ _ h => h) (Or.inl ⟨by kernel_rfl, ?_⟩) hHeld ?_
              rotate_left
              · intro wz hSw; have k0 : wz.cell? ⟨G, 4, none⟩ = some (.slice (some ⟨b3, o3, none⟩) q ck) := HXw.out.on hSw |>.cell 4; have k1 := HCL.out wz (HBW.out.trans (hSw.mono HBW.out.size)); obtain ⟨k2, k3, k4⟩ := k1; go_simp; try (with_reducible rfl)
              try simp only [Act.put, List.setIfInBounds_toArray, List.set_cons_zero, List.set_cons_succ, List.getElem_toArray, List.getElem_cons_succ, List.getElem_cons_zero]
              refine take_at (some 55) (i := 4) (v := ?_) rfl rfl (by kernel_rfl) (by kernel_rfl) (by kernel_rfl) (fun _ _ _ h => h) (Or.inl ⟨by kernel_rfl, ?_⟩) hHeld ?_
              rotate_left
              · intro wz hSw; have k0 : wz.cell? ⟨G, 4, none⟩ = some (.slice (some ⟨b3, o3, none⟩) q ck) := HXw.out.on hSw |>.cell 4; have k1 := HCL.out wz (HBW.out.trans (hSw.mono HBW.out.size)); obtain ⟨k2, k3, k4⟩ := k1; go_simp; try (with_reducible rfl)
              try simp only [Act.put, List.setIfInBounds_toArray, List.set_cons_zero, List.set_cons_succ, List.getElem_toArray, List.getElem_cons_succ, List.getElem_cons_zero]
              refine take_at (some 56) (i := 5) (v := ?_) rfl rfl (by kernel_rfl) (by kernel_rfl) (by kernel_rfl) (fun _ _ _ h => h) (Or.inl ⟨by kernel_rfl, ?_⟩) hHeld ?_
              rotate_left
              · intro wz hSw; have k0 : wz.cell? ⟨G, 4, none⟩ = some (.slice (some ⟨b3, o3, none⟩) q ck) := HXw.out.on hSw |>.cell 4; have k1 := HCL.out wz (HBW.out.trans (hSw.mono HBW.out.size)); obtain ⟨k2, k3, k4⟩ := k1; go_simp; try (with_reducible rfl)
              try simp only [Act.put, List.setIfInBounds_toArray, List.set_cons_zero, List.set_cons_succ, List.getElem_toArray, List.getElem_cons_succ, List.getElem_cons_zero]
              refine take_at (some 57) (i := 6) (v := ?_) rfl rfl (by kernel_rfl) (by kernel_rfl) (by kernel_rfl) (fun _ _ _ h => h) (Or.inl ⟨by kernel_rfl, ?_⟩) hHeld ?_
              rotate_left
              · intro wz hSw; have k0 : wz.cell? ⟨G, 4, none⟩ = some (.slice (some ⟨b3, o3, none⟩) q ck) := HXw.out.on hSw |>.cell 4; have k1 := HCL.out wz (HBW.out.trans (hSw.mono HBW.out.size)); obtain ⟨k2, k3, k4⟩ := k1; go_simp; try (with_reducible rfl)
              try simp only [Act.put, List.setIfInBounds_toArray, List.set_cons_zero, List.set_cons_succ, List.getElem_toArray, List.getElem_cons_succ, List.getElem_cons_zero]
              refine take_at (some 58) (i := 7) (v := ?_) rfl rfl (by kernel_rfl) (by kernel_rfl) (by kernel_rfl) (fun _ _ _ h => h) (Or.inl ⟨by kernel_rfl, ?_⟩) hHeld ?_
              rotate_left
              · intro wz hSw; have k0 : wz.cell? ⟨G, 4, none⟩ = some (.slice (some ⟨b3, o3, none⟩) q ck) := HXw.out.on hSw |>.cell 4; have k1 := HCL.out wz (HBW.out.trans (hSw.mono HBW.out.size)); obtain ⟨k2, k3, k4⟩ := k1; go_simp; try (with_reducible rfl)
              try simp only [Act.put, List.setIfInBounds_toArray, List.set_cons_zero, List.set_cons_succ, List.getElem_toArray, List.getElem_cons_succ, List.getElem_cons_zero]
              refine take_at (some 59) (i := 8) rfl rfl (by kernel_rfl) (by kernel_rfl) (by kernel_rfl) (fun _ _ _ h => h) (yif_min (by kernel_rfl) (.tmp 58) (.const (.int .i64 3000)) 3 rfl _ _ _ rfl rfl HMI1.out) hHeld ?_
              try simp only [Act.put, List.setIfInBounds_toArray, List.set_cons_zero, List.set_cons_succ, List.getElem_toArray, List.getElem_cons_succ, List.getElem_cons_zero]
              refine take_at (some 60) (i := 9) (v := ?_) rfl rfl (by kernel_rfl) (by kernel_rfl) (by kernel_rfl) (fun _ _ _ h => h) (Or.inl ⟨by kernel_rfl, ?_⟩) hHeld ?_
              rotate_left
              · intro wz hSw; have k0 : wz.cell? ⟨G, 4, none⟩ = some (.slice (some ⟨b3, o3, none⟩) q ck) := HXw.out.on hSw |>.cell 4; have k1 := HCL.out wz (HBW.out.trans (hSw.mono HBW.out.size)); obtain ⟨k2, k3, k4⟩ := k1; go_simp; try (with_reducible rfl)
              try simp only [Act.put, List.setIfInBounds_toArray, List.set_cons_zero, List.set_cons_succ, List.getElem_toArray, List.getElem_cons_succ, List.getElem_cons_zero]
              refine take_at (some 61) (i := 10) (v := ?_) rfl rfl (by kernel_rfl) (by kernel_rfl) (by kernel_rfl) (fun _ _ _ h => h) (Or.inl ⟨by kernel_rfl, ?_⟩) hHeld ?_
              rotate_left
              · intro wz hSw; have k0 : wz.cell? ⟨G, 4, none⟩ = some (.slice (some ⟨b3, o3, none⟩) q ck) := HXw.out.on hSw |>.cell 4; have k1 := HCL.out wz (HBW.out.trans (hSw.mono HBW.out.size)); obtain ⟨k2, k3, k4⟩ := k1; go_simp; try (with_reducible rfl)
              try simp only [Act.put, List.setIfInBounds_toArray, List.set_cons_zero, List.set_cons_succ, List.getElem_toArray, List.getElem_cons_succ, List.getElem_cons_zero]
              refine take_at (some 62) (i := 11) (v := ?_) rfl rfl (by kernel_rfl) (by kernel_rfl) (by kernel_rfl) (fun _ _ _ h => h) (Or.inl ⟨by kernel_rfl, ?_⟩) hHeld ?_
              rotate_left
              · intro wz hSw; have k0 : wz.cell? ⟨G, 4, none⟩ = some (.slice (some ⟨b3, o3, none⟩) q ck) := HXw.out.on hSw |>.cell 4; have k1 := HCL.out wz (HBW.out.trans (hSw.mono HBW.out.size)); obtain ⟨k2, k3, k4⟩ := k1; go_simp; try (with_reducible rfl)
              try simp only [Act.put, List.setIfInBounds_toArray, List.set_cons_zero, List.set_cons_succ, List.getElem_toArray, List.getElem_cons_succ, List.getElem_cons_zero]
              refine take_at (some 63) (i := 12) (v := ?_) rfl rfl (by kernel_rfl) (by kernel_rfl) (by kernel_rfl) (fun _ _ _ h => h) (Or.inl ⟨by kernel_rfl, ?_⟩) hHeld ?_
              rotate_left
              · intro wz hSw; have k0 : wz.cell? ⟨G, 4, none⟩ = some (.slice (some ⟨b3, o3, none⟩) q ck) := HXw.out.on hSw |>.cell 4; have k1 := HCL.out wz (HBW.out.trans (hSw.mono HBW.out.size)); obtain ⟨k2, k3, k4⟩ := k1; go_simp; try (with_reducible rfl)
              try simp only [Act.put, List.setIfInBounds_toArray, List.set_cons_zero, List.set_cons_succ, List.getElem_toArray, List.getElem_cons_succ, List.getElem_cons_zero]
              refine take_at (some 64) (i := 13) (v := ?_) rfl rfl (by kernel_rfl) (by kernel_rfl) (by kernel_rfl) (fun _ _ _ h => h) (Or.inl ⟨by kernel_rfl, ?_⟩) hHeld ?_
              rotate_left
              · intro wz hSw; have k0 : wz.cell? ⟨G, 4, none⟩ = some (.slice (some ⟨b3, o3, none⟩) q ck) := HXw.out.on hSw |>.cell 4; have k1 := HCL.out wz (HBW.out.trans (hSw.mono HBW.out.size)); obtain ⟨k2, k3, k4⟩ := k1; go_simp; try (with_reducible rfl)
              try simp only [Act.put, List.setIfInBounds_toArray, List.set_cons_zero, List.set_cons_succ, List.getElem_toArray, List.getElem_cons_succ, List.getElem_cons_zero]
              refine take_at (some 65) (i := 14) (v := ?_) rfl rfl (by kernel_rfl) (by kernel_rfl) (by kernel_rfl) (fun _ _ _ h => h) (Or.inl ⟨by kernel_rfl, ?_⟩) hHeld ?_
              rotate_left
              · intro wz hSw; have k0 : wz.cell? ⟨G, 4, none⟩ = some (.slice (some ⟨b3, o3, none⟩) q ck) := HXw.out.on hSw |>.cell 4; have k1 := HCL.out wz (HBW.out.trans (hSw.mono HBW.out.size)); obtain ⟨k2, k3, k4⟩ := k1; go_simp; try (with_reducible rfl)
              try simp only [Act.put, List.setIfInBounds_toArray, List.set_cons_zero, List.set_cons_succ, List.getElem_toArray, List.getElem_cons_succ, List.getElem_cons_zero]
              refine take_at (some 66) (i := 15) (v := ?_) rfl rfl (by kernel_rfl) (by kernel_rfl) (by kernel_rfl) (fun _ _ _ h => h) (Or.inl ⟨by kernel_rfl, ?_⟩) hHeld ?_
              rotate_left
              · intro wz hSw; have k0 : wz.cell? ⟨G, 4, none⟩ = some (.slice (some ⟨b3, o3, none⟩) q ck) := HXw.out.on hSw |>.cell 4; have k1 := HCL.out wz (HBW.out.trans (hSw.mono HBW.out.size)); obtain ⟨k2, k3, k4⟩ := k1; go_simp; try (with_reducible rfl)
              try simp only [Act.put, List.setIfInBounds_toArray, List.set_cons_zero, List.set_cons_succ, List.getElem_toArray, List.getElem_cons_succ, List.getElem_cons_zero]
              refine take_at (some 67) (i := 16) (v := ?_) rfl rfl (by kernel_rfl) (by kernel_rfl) (by kernel_rfl) (fun _ _ _ h => h) (Or.inl ⟨by kernel_rfl, ?_⟩) hHeld ?_
              rotate_left
              · intro wz hSw; have k0 : wz.cell? ⟨G, 4, none⟩ = some (.slice (some ⟨b3, o3, none⟩) q ck) := HXw.out.on hSw |>.cell 4; have k1 := HCL.out wz (HBW.out.trans (hSw.mono HBW.out.size)); obtain ⟨k2, k3, k4⟩ := k1; go_simp; try (with_reducible rfl)
              try simp only [Act.put, List.setIfInBounds_toArray, List.set_cons_zero, List.set_cons_succ, List.getElem_toArray, List.getElem_cons_succ, List.getElem_cons_zero]
              refine take_at (some 68) (i := 17) rfl rfl (by kernel_rfl) (by kernel_rfl) (by kernel_rfl) (fun _ _ _ h => h) (yif_min (by kernel_rfl) (.tmp 67) (.const (.int .i64 3000)) 3 rfl _ _ _ rfl rfl HMI2.out) hHeld ?_
              try simp only [Act.put, List.setIfInBounds_toArray, List.set_cons_zero, List.set_cons_succ, List.getElem_toArray, List.getElem_cons_succ, List.getElem_cons_zero]
              refine take_at (some 69) (i := 18) (v := ?_) rfl rfl (by kernel_rfl) (by kernel_rfl) (by kernel_rfl) (fun _ _ _ h => h) (Or.inl ⟨by kernel_rfl, ?_⟩) hHeld ?_
              rotate_left
              · intro wz hSw; go_simp; try (with_reducible rfl)
              try simp only [Act.put, List.setIfInBounds_toArray, List.set_cons_zero, List.set_cons_succ, List.getElem_toArray, List.getElem_cons_succ, List.getElem_cons_zero]
              refine wpAnyH_ready (rs := [19]) (by kernel_rfl) (by simp) (AllReadyH.cons rfl (fun K hK => ?_) AllReadyH.nil)
              rw [if_pos (by kernel_rfl)]
              go_simp
              refine hK.out _ _ ((Below.refl _ _).drew) (fun hHeld => ?_)
              try simp only [Act.put, List.setIfInBounds_toArray, List.set_cons_zero, List.set_cons_succ, List.getElem_toArray, List.getElem_cons_succ, List.getElem_cons_zero]
              refine wpAnyH_done (by kernel_rfl) ?_ _
              clear hHeld
              obtain ⟨m3, hm3s⟩ : ∃ m3 : Nat, (m2 : Int) + (n1 : Int) + (n2 : Int) = (m3 : Int) := ⟨m2 + n1 + n2, by omega⟩
              have HM3 := Lib.hid (show m3 = m2 + n1 + n2 by omega)
              have hm3b : m3 ≤ 9000 := by omega
              have e1 : IntKind.i64.wrap (IntKind.i64.wrap ((m2 : Int) + (n1 : Int)) + (n2 : Int)) = (m3 : Int) := by
                rw [(iwrap ((m2 : Int) + (n1 : Int)) (m2 + n1) (by omega) (by omega)).1, (iwrap (((m2 + n1 : Nat) : Int) + (n2 : Int)) m3 (by omega) (by omega)).1]
              rw [e1]
              clear hm3s e1
              go_wp2
              go_roundw
              case rel => exact ⟨k + 1, m3, by omega, by omega, rfl, by go_num, Lib.hid (by have := HM2.out; have := HM3.out; omega), Lib.hid (fun hlt => take_succ_all HDK.out HZ.out (by
                have h1 := HM3.out
                have h2 := HN1.out
                have h3 := HN2.out
                constructor <;> (dsimp only; omega))), Lib.hid HXw.out.drew⟩
              case measure => simp [intOf]; omega
            · have hm4 : ¬ (m2 : Int) < 3000 := by omega
              go_wp2
              go_roundw
              case rel => exact ⟨i + 1, m2, by omega, hm2, rfl, by go_num, Lib.hid (fun hh => absurd hh hm3), Lib.hid (HBo.out.on (HXw.out.l))⟩
              case measure => simp [intOf]; omega
          · have hk2 : ¬ (k : Int) < (q : Int) := by omega
            have HFF := Lib.hid (show m2 < 3000 → n ≤ m2 ∧ ∀ y ∈ ts.take (i + 1), SmT y from fun hlt => by
              obtain ⟨d1, d2⟩ := HDD.out
              have h1 := HM2.out
              have h2 := HM1.out
              have h3 := HMM.out
              refine ⟨by omega, take_succ_all d2 HY.out ⟨by dsimp only; omega, by dsimp only; rw [HP.out]; omega, by dsimp only; rw [HQ.out]; omega, fun kk hkk => HD2.out hlt kk ?_⟩⟩
              rw [List.take_of_length_le (by rw [HQ.out]; omega)]
              exact hkk)
            clear HD2
            go_wp2
            go_roundw
            case rel => exact ⟨i + 1, m2, by omega, hm2, rfl, by go_num, HFF, Lib.hid (HBo.out.on (HXw.out.l))⟩
            case measure => simp [intOf]; omega
      · have hm2 : ¬ (m : Int) < 3000 := by omega
        go_wp2
        go_ret
        exact ⟨true, rfl, (fun hh => by cases hh), HB.out.l⟩
    · have hi2 : ¬ (i : Int) < (n : Int) := by omega
      obtain rfl : i = n := by omega
      have HFI := Lib.hid (show ∀ g : Bool, decide ((m : Int) ≥ 3000) = g → g = false → SmG ⟨a0, a1, a2, a3, ts, A, c⟩ from fun g hg h0 => by
        rw [h0] at hg
        have hm1 : m < 3000 := by simp at hg; omega
        obtain ⟨k1, k2⟩ := HD.out hm1
        refine ⟨by show ts.length < 3000; rw [HN.out]; omega, fun y hy => k2 y ?_⟩
        rw [List.take_of_length_le (by rw [HN.out]; exact Nat.le_refl _)]
        exact hy)
      obtain ⟨g, hg⟩ : ∃ g, decide ((m : Int) ≥ 3000) = g := ⟨_, rfl⟩
      have HGG := Lib.hid (HFI.out g hg)
      clear HFI
      go_wp2
      go_ret
      exact ⟨g, rfl, HGG.out, HB.out.l⟩
end Go.Proofs.YtekobdmlgbffnaaGreatDoor
