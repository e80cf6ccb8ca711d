/- VtIn, VtG, CgT0, Cat, CgT1: texts of this seat, one behind the other. -/
import Derived.Test.YtijboiepockmjaaDoorG14
import Derived.Test.YtijboiepockmjaaDoorG8
import Derived.BigRegion
import Derived.Deep.Cut
import Derived.Deep.CutRange
import Derived.Deep.RegionHeld3
import Derived.Test.YtijboiepockmjaaDoorG5
import Derived.Test.YtijboiepockmjaaDoorG11
import Derived.Laws.Concat
import Derived.Test.YtijboiepockmjaaDoorShelf
import Derived.Test.YtijboiepockmjaaDoorG1
import Derived.Test.YtijboiepockmjaaDoorG10
/- Calls of a vault that came in: a slice of structs of a number, four texts and a number; a text that came in, with its size out of the row's reach. -/
namespace Go.Proofs.YtijboiepockmjaaDoor
set_option linter.unusedVariables false
set_option maxRecDepth 100000
set_option linter.unusedSimpArgs false
open Go.ChangeShapes Go.WideShapes Go.ChangeAt Go.RowKit Go.Deep

structure Vo where
  what : Int
  tn : ByteArray
  tk : ByteArray
  nn : ByteArray
  pf : ByteArray
  now : Int
abbrev ocs (x : Vo) : Array Value := #[.int .i64 x.what, .string x.tn, .string x.tk, .string x.nn, .string x.pf, .int .i64 x.now]
def Vo.sm (x : Vo) : Prop := x.tn.size ≤ 140737488355328 ∧ x.tk.size ≤ 140737488355328 ∧ x.nn.size ≤ 140737488355328 ∧ x.pf.size ≤ 140737488355328
instance : Inhabited Vo := ⟨⟨0, ByteArray.empty, ByteArray.empty, ByteArray.empty, ByteArray.empty, 0⟩⟩
structure InOps (W : World) (A : Option Addr) (l : List Vo) (c : Nat) : Prop where
  r : Rw 6 ocs W A l
  f : Fit A l.length c
  n : l.length ≤ 140737488355328
  sm : ∀ x ∈ l, x.sm
theorem InOps.on {w w' : World} {A : Option Addr} {l : List Vo} {c : Nat} (h : InOps w A l c) (hb : Below w.heap.size w w') : InOps w' A l c := ⟨h.r.on hb, h.f, h.n, h.sm⟩
theorem InOps.at6 {w : World} {A : Option Addr} {l : List Vo} {c : Nat} (h : InOps w A l c) (i : Nat) (hi : i < l.length) :
    ∃ b o x, A = some ⟨b, o, none⟩ ∧ l[i]? = some x ∧ x.sm ∧ ∀ u, Below w.heap.size w u → u.cell? ⟨b, o + i * 6, none⟩ = some (.int .i64 x.what) ∧ u.cell? ⟨b, o + i * 6 + 1, none⟩ = some (.string x.tn) ∧ u.cell? ⟨b, o + i * 6 + 2, none⟩ = some (.string x.tk) ∧ u.cell? ⟨b, o + i * 6 + 3, none⟩ = some (.string x.nn) ∧ u.cell? ⟨b, o + i * 6 + 4, none⟩ = some (.string x.pf) ∧ u.cell? ⟨b, o + i * 6 + 5, none⟩ = some (.int .i64 x.now) := by
  obtain ⟨b, o, x, h1, h2, h3⟩ := Rw.at_ h.r i hi
  exact ⟨b, o, x, h1, h2, h.sm x (List.mem_of_getElem? h2), fun u hb => ⟨h3 u hb 0 (by omega), h3 u hb 1 (by omega), h3 u hb 2 (by omega), h3 u hb 3 (by omega), h3 u hb 4 (by omega), h3 u hb 5 (by omega)⟩⟩

theorem vop_fields : ∃ f0 f1 f2 f3 f4 f5, Tryd.prog.underlying 34 = some (.struct #[f0, f1, f2, f3, f4, f5]) ∧ f0.type = 3 ∧ f1.type = 9 ∧ f2.type = 9 ∧ f3.type = 9 ∧ f4.type = 9 ∧ f5.type = 2 ∧ oneCellFields Tryd.prog #[f0, f1, f2, f3, f4, f5] = true := ⟨_, _, _, _, _, _, Tryd.underlying34, rfl, rfl, rfl, rfl, rfl, rfl, by kernel_rfl⟩
theorem sixV {cs : List Value} (h : cs.length = 6) : ∃ a b c d e f, cs = [a, b, c, d, e, f] := by
  match cs, h with
  | [a, b, c, d, e, f], _ => exact ⟨a, b, c, d, e, f, rfl⟩
set_option maxRecDepth 100000 in
theorem open_vops {H : Type} {enc : TypeId × Value → H} {W : World} {r : Reach} {b0 : Nat} {v : Value} {d : DataW H} {p : List MemPlace} {ts : List TypeId} {ds : List (DataW H)} {j : Nat} (hv : Value.okWide Tryd.prog W r b0 25 v) (h : DataW.Trod enc Tryd.prog W 0 (fun _ => true) true 25 v d p)
    (hz : (DataW.weightsEach Tryd.prog ts ds).all (· ≤ reachBytes) = true) (hj : ts[j]? = some 25) (hd : ds[j]? = some d) : ∃ A c, ∃ l : List Vo, v = .slice A l.length c ∧ InOps W A l c := by
  obtain ⟨f0, f1, f2, f3, f4, f5, hu, t0, t1, t2, t3, t4, t5, hone⟩ := vop_fields
  obtain ⟨A0, n0, c0, rfl⟩ := okWide_slice Tryd.underlying25 hv
  obtain ⟨fuel, hfu⟩ := h
  have hw : Wt Tryd.prog 25 d := fun n hn => by
    have := List.all_eq_true.1 hz _ (DataW.weights_mem_each hj hd n hn)
    simpa using this
  have hfu' : DataW.trod enc Tryd.prog W 0 (fun _ => true) true fuel 25 [.slice A0 n0 c0] = some (d, p) := hfu
  have h0 := open_each Tryd.underlying25 hu (k := 6) (by kernel_rfl) (of_decide_eq_true (by kernel_rfl)) hfu' hw
  obtain ⟨l, hl, h1, h2, h3, h4⟩ := rw_of (β := Vo) (k := 6) (by omega) (f := ocs) (p := fun x => x.sm) (R := reachBytes) (W := W) (A := A0) (n := n0) (c := c0) (h0.imp id fun ⟨a, e, k1, k2, k3, k4⟩ => ⟨a, e, k1, k2, k3, fun i hi => by
    obtain ⟨cs, fuel', y, q1, q2, q3, q4⟩ := k4 i hi
    obtain ⟨v0, v1, v2, v3, v4, v5, rfl⟩ := sixV q1
    obtain ⟨n0, z0, r0, _⟩ := open_field hu hone q3 q4 0 f0 rfl v0 rfl
    obtain ⟨n1, z1, r1, y1⟩ := open_field hu hone q3 q4 1 f1 rfl v1 rfl
    obtain ⟨n2, z2, r2, y2⟩ := open_field hu hone q3 q4 2 f2 rfl v2 rfl
    obtain ⟨n3, z3, r3, y3⟩ := open_field hu hone q3 q4 3 f3 rfl v3 rfl
    obtain ⟨n4, z4, r4, y4⟩ := open_field hu hone q3 q4 4 f4 rfl v4 rfl
    obtain ⟨n5, z5, r5, _⟩ := open_field hu hone q3 q4 5 f5 rfl v5 rfl
    rw [t0] at r0
    rw [t1] at r1 y1
    rw [t2] at r2 y2
    rw [t3] at r3 y3
    rw [t4] at r4 y4
    rw [t5] at r5
    obtain ⟨x0, rfl, _⟩ := open_num Tryd.underlying3 r0
    obtain ⟨x1, rfl, w1⟩ := open_str Tryd.underlying9 r1 y1
    obtain ⟨x2, rfl, w2⟩ := open_str Tryd.underlying9 r2 y2
    obtain ⟨x3, rfl, w3⟩ := open_str Tryd.underlying9 r3 y3
    obtain ⟨x4, rfl, w4⟩ := open_str Tryd.underlying9 r4 y4
    obtain ⟨x5, rfl, _⟩ := open_num Tryd.underlying2 r5
    refine ⟨⟨x0, x1, x2, x3, x4, x5⟩, ⟨w1, w2, w3, w4⟩, fun j hj => ?_⟩
    have := q2 j hj
    rw [this]
    match j, hj with
    | 0, _ => rfl
    | 1, _ => rfl
    | 2, _ => rfl
    | 3, _ => rfl
    | 4, _ => rfl
    | 5, _ => rfl⟩) (fun _ => rfl)
  have h5 : reachBytes < 140737488355328 := reachBytes_lt
  exact ⟨A0, c0, l, by rw [hl], h1, h2, by omega, h4⟩
/-- A text that came in. -/
theorem open_ustr {H : Type} {enc : TypeId × Value → H} {W : World} {r : Reach} {b0 : Nat} {v : Value} {d : DataW H} {p : List MemPlace} {ts : List TypeId} {ds : List (DataW H)} {j : Nat} (hv : Value.okWide Tryd.prog W r b0 9 v) (h : DataW.Trod enc Tryd.prog W 0 (fun _ => true) true 9 v d p)
    (hz : (DataW.weightsEach Tryd.prog ts ds).all (· ≤ reachBytes) = true) (hj : ts[j]? = some 9) (hd : ds[j]? = some d) : ∃ s : ByteArray, v = .string s ∧ s.size ≤ 140737488355328 := by
  obtain ⟨a, rfl, rfl, rfl, w⟩ := Go.ChangeMaps.open_string Tryd.underlying9 hv h
  refine ⟨a, rfl, ?_⟩
  have := List.all_eq_true.1 hz _ (DataW.weights_mem_each hj hd a.data.toList.length (by simp [DataW.weights]))
  have h1 : a.data.toList.length ≤ reachBytes := by simpa using this
  have h2 : reachBytes < 140737488355328 := reachBytes_lt
  have h3 : a.data.toList.length = a.size := rfl
  omega
end Go.Proofs.YtijboiepockmjaaDoor

/- great of vault's laws: its contract. (Written by gen_vtg.py.) -/
namespace Go.Proofs.YtijboiepockmjaaDoor
set_option linter.unusedVariables false
set_option maxRecDepth 100000
set_option linter.unusedSimpArgs false
open Go.RowKit

def Vo.few (x : Vo) : Prop := x.tn.size + x.tk.size + x.nn.size + x.pf.size ≤ 2000
structure OpsB (l : List Vo) : Prop where
  n : l.length ≤ 100
  x : ∀ x ∈ l, x.few
theorem gen_qG {Q : Exit → Act → World → Prop} {e : Exit} {a : Act} {w : World} (S : World → Prop) (hS : S w) (h : ∀ u, S u → Q e a u) : Q e a w := h w hS
/-- What great leaves. -/
def VgP (l : List Vo) (w : World) (e : Ending) (w' : World) : Prop := ∃ g : Bool, e = .returned (.bool g) ∧ (g = false → OpsB l) ∧ Below w.heap.size w w'
set_option maxRecDepth 100000 in
set_option maxHeartbeats 4000000 in
theorem vgreat_ok (A : Option Addr) (l : List Vo) (c : Nat) (w : World) (h : InOps w A l c) :
    Calls Tryd.prog 11 #[.slice A l.length c] w (VgP l w) := by
  have HI := Lib.hid h
  have hnb := h.n
  obtain ⟨n, hn⟩ : ∃ n, l.length = n := ⟨_, rfl⟩
  have HN := Lib.hid hn
  rw [hn] at hnb
  rw [hn]
  clear h hn
  go_enter Tryd.func11, Tryd.ntmps11
  go_wp2
  go_loopw [3] (fun v3 wr => ∃ (i : Nat), i ≤ n ∧ i ≤ 200 ∧ v3 = .int .i64 (i : Int) ∧ Hid (∀ x ∈ l.take i, x.few) ∧ Hid (Below w.heap.size w wr)) (fun v3 _ => n - (intOf v3).toNat)
  case atStart => exact ⟨0, by omega, by omega, rfl, Lib.hid (fun x hx => by simp at hx), Lib.hid (Below.refl _ _)⟩
  case round =>
    obtain ⟨i, hi, hi200, rfl, HX, HB⟩ := hrel
    by_cases hi1 : i < n
    · have hi2 : (i : Int) < (n : Int) := by omega
      by_cases hj1 : i < 200
      · have hj2 : (i : Int) < 200 := by omega
        obtain ⟨b, o, x, rfl, hx, hsm, hc⟩ := HI.out.at6 i (by rw [HN.out]; exact hi1)
        have HC := Lib.hid (show ∀ wz, Below wr.heap.size wr wz → _ from fun wz hw => hc wz (HB.out.trans (hw.mono HB.out.size)))
        have HXI := Lib.hid hx
        obtain ⟨z1, z2, z3, z4⟩ := hsm
        obtain ⟨xw, xt, xk, xn, xp, xo⟩ := x
        dsimp only at HC z1 z2 z3 z4
        clear hc hx
        obtain ⟨m, hm⟩ : ∃ m : Nat, (xt.size : Int) + (xk.size : Int) + (xn.size : Int) + (xp.size : Int) = (m : Int) := ⟨xt.size + xk.size + xn.size + xp.size, by omega⟩
        have HM := Lib.hid (show m = xt.size + xk.size + xn.size + xp.size by omega)
        have HFE := Lib.hid (show Vo.few ⟨xw, xt, xk, xn, xp, xo⟩ ↔ m ≤ 2000 by rw [HM.out]; exact Iff.rfl)
        go_upto_region 4 with fail
        try simp only [List.cons_append, List.nil_append]
        obtain ⟨wo, hwo⟩ : ∃ wo, wr = wo := ⟨_, rfl⟩
        subst wr
        try simp only [List.cons_append, List.nil_append]
        refine wp_region_held_drew (S := fun wz => Below wo.heap.size wo wz) (by kernel_rfl) ((Below.refl _ _).drew) (fun hHeld => ?_)
        refine take_at (some 14) (i := 0) (v := ?_) rfl rfl (by kernel_rfl) (by kernel_rfl) (by kernel_rfl) (fun _ _ _ h => h) (Or.inl ⟨by kernel_rfl, ?_⟩) hHeld ?_
        rotate_left
        · intro wz hSw; obtain ⟨k0, k1, k2, k3, k4, k5⟩ := HC.out wz hSw; go_simp; try (with_reducible rfl)
        try simp only [Act.put, List.setIfInBounds_toArray, List.set_cons_zero, List.set_cons_succ, List.getElem_toArray, List.getElem_cons_succ, List.getElem_cons_zero]
        refine take_at (some 15) (i := 1) (v := ?_) rfl rfl (by kernel_rfl) (by kernel_rfl) (by kernel_rfl) (fun _ _ _ h => h) (Or.inl ⟨by kernel_rfl, ?_⟩) hHeld ?_
        rotate_left
        · intro wz hSw; obtain ⟨k0, k1, k2, k3, k4, k5⟩ := HC.out wz hSw; go_simp; try (with_reducible rfl)
        try simp only [Act.put, List.setIfInBounds_toArray, List.set_cons_zero, List.set_cons_succ, List.getElem_toArray, List.getElem_cons_succ, List.getElem_cons_zero]
        refine take_at (some 16) (i := 2) (v := ?_) rfl rfl (by kernel_rfl) (by kernel_rfl) (by kernel_rfl) (fun _ _ _ h => h) (Or.inl ⟨by kernel_rfl, ?_⟩) hHeld ?_
        rotate_left
        · intro wz hSw; obtain ⟨k0, k1, k2, k3, k4, k5⟩ := HC.out wz hSw; go_simp; try (with_reducible rfl)
        try simp only [Act.put, List.setIfInBounds_toArray, List.set_cons_zero, List.set_cons_succ, List.getElem_toArray, List.getElem_cons_succ, List.getElem_cons_zero]
        refine take_at (some 17) (i := 3) (v := ?_) rfl rfl (by kernel_rfl) (by kernel_rfl) (by kernel_rfl) (fun _ _ _ h => h) (Or.inl ⟨by kernel_rfl, ?_⟩) hHeld ?_
        rotate_left
        · intro wz hSw; obtain ⟨k0, k1, k2, k3, k4, k5⟩ := HC.out wz hSw; go_simp; try (with_reducible rfl)
        try simp only [Act.put, List.setIfInBounds_toArray, List.set_cons_zero, List.set_cons_succ, List.getElem_toArray, List.getElem_cons_succ, List.getElem_cons_zero]
        refine take_at (some 18) (i := 4) (v := ?_) rfl rfl (by kernel_rfl) (by kernel_rfl) (by kernel_rfl) (fun _ _ _ h => h) (Or.inl ⟨by kernel_rfl, ?_⟩) hHeld ?_
        rotate_left
        · intro wz hSw; obtain ⟨k0, k1, k2, k3, k4, k5⟩ := HC.out wz hSw; go_simp; try (with_reducible rfl)
        try simp only [Act.put, List.setIfInBounds_toArray, List.set_cons_zero, List.set_cons_succ, List.getElem_toArray, List.getElem_cons_succ, List.getElem_cons_zero]
        refine take_at (some 19) (i := 5) (v := ?_) rfl rfl (by kernel_rfl) (by kernel_rfl) (by kernel_rfl) (fun _ _ _ h => h) (Or.inl ⟨by kernel_rfl, ?_⟩) hHeld ?_
        rotate_left
        · intro wz hSw; obtain ⟨k0, k1, k2, k3, k4, k5⟩ := HC.out wz hSw; go_simp; try (with_reducible rfl)
        try simp only [Act.put, List.setIfInBounds_toArray, List.set_cons_zero, List.set_cons_succ, List.getElem_toArray, List.getElem_cons_succ, List.getElem_cons_zero]
        refine take_at (some 20) (i := 6) (v := ?_) rfl rfl (by kernel_rfl) (by kernel_rfl) (by kernel_rfl) (fun _ _ _ h => h) (Or.inl ⟨by kernel_rfl, ?_⟩) hHeld ?_
        rotate_left
        · intro wz hSw; obtain ⟨k0, k1, k2, k3, k4, k5⟩ := HC.out wz hSw; go_simp; try (with_reducible rfl)
        try simp only [Act.put, List.setIfInBounds_toArray, List.set_cons_zero, List.set_cons_succ, List.getElem_toArray, List.getElem_cons_succ, List.getElem_cons_zero]
        refine take_at (some 21) (i := 7) (v := ?_) rfl rfl (by kernel_rfl) (by kernel_rfl) (by kernel_rfl) (fun _ _ _ h => h) (Or.inl ⟨by kernel_rfl, ?_⟩) hHeld ?_
        rotate_left
        · intro wz hSw; obtain ⟨k0, k1, k2, k3, k4, k5⟩ := HC.out wz hSw; go_simp; try (with_reducible rfl)
        try simp only [Act.put, List.setIfInBounds_toArray, List.set_cons_zero, List.set_cons_succ, List.getElem_toArray, List.getElem_cons_succ, List.getElem_cons_zero]
        refine take_at (some 22) (i := 8) (v := ?_) rfl rfl (by kernel_rfl) (by kernel_rfl) (by kernel_rfl) (fun _ _ _ h => h) (Or.inl ⟨by kernel_rfl, ?_⟩) hHeld ?_
        rotate_left
        · intro wz hSw; obtain ⟨k0, k1, k2, k3, k4, k5⟩ := HC.out wz hSw; go_simp; try (with_reducible rfl)
        try simp only [Act.put, List.setIfInBounds_toArray, List.set_cons_zero, List.set_cons_succ, List.getElem_toArray, List.getElem_cons_succ, List.getElem_cons_zero]
        refine take_at (some 23) (i := 9) (v := ?_) rfl rfl (by kernel_rfl) (by kernel_rfl) (by kernel_rfl) (fun _ _ _ h => h) (Or.inl ⟨by kernel_rfl, ?_⟩) hHeld ?_
        rotate_left
        · intro wz hSw; obtain ⟨k0, k1, k2, k3, k4, k5⟩ := HC.out wz hSw; go_simp; try (with_reducible rfl)
        try simp only [Act.put, List.setIfInBounds_toArray, List.set_cons_zero, List.set_cons_succ, List.getElem_toArray, List.getElem_cons_succ, List.getElem_cons_zero]
        refine take_at (some 24) (i := 10) (v := ?_) rfl rfl (by kernel_rfl) (by kernel_rfl) (by kernel_rfl) (fun _ _ _ h => h) (Or.inl ⟨by kernel_rfl, ?_⟩) hHeld ?_
        rotate_left
        · intro wz hSw; obtain ⟨k0, k1, k2, k3, k4, k5⟩ := HC.out wz hSw; go_simp; try (with_reducible rfl)
        try simp only [Act.put, List.setIfInBounds_toArray, List.set_cons_zero, List.set_cons_succ, List.getElem_toArray, List.getElem_cons_succ, List.getElem_cons_zero]
        refine take_at (some 25) (i := 11) (v := ?_) rfl rfl (by kernel_rfl) (by kernel_rfl) (by kernel_rfl) (fun _ _ _ h => h) (Or.inl ⟨by kernel_rfl, ?_⟩) hHeld ?_
        rotate_left
        · intro wz hSw; obtain ⟨k0, k1, k2, k3, k4, k5⟩ := HC.out wz hSw; go_simp; try (with_reducible rfl)
        try simp only [Act.put, List.setIfInBounds_toArray, List.set_cons_zero, List.set_cons_succ, List.getElem_toArray, List.getElem_cons_succ, List.getElem_cons_zero]
        refine take_at (some 26) (i := 12) (v := ?_) rfl rfl (by kernel_rfl) (by kernel_rfl) (by kernel_rfl) (fun _ _ _ h => h) (Or.inl ⟨by kernel_rfl, ?_⟩) hHeld ?_
        rotate_left
        · intro wz hSw; obtain ⟨k0, k1, k2, k3, k4, k5⟩ := HC.out wz hSw; go_simp; try (with_reducible rfl)
        try simp only [Act.put, List.setIfInBounds_toArray, List.set_cons_zero, List.set_cons_succ, List.getElem_toArray, List.getElem_cons_succ, List.getElem_cons_zero]
        refine take_at (some 27) (i := 13) (v := ?_) rfl rfl (by kernel_rfl) (by kernel_rfl) (by kernel_rfl) (fun _ _ _ h => h) (Or.inl ⟨by kernel_rfl, ?_⟩) hHeld ?_
        rotate_left
        · intro wz hSw; obtain ⟨k0, k1, k2, k3, k4, k5⟩ := HC.out wz hSw; go_simp; try (with_reducible rfl)
        try simp only [Act.put, List.setIfInBounds_toArray, List.set_cons_zero, List.set_cons_succ, List.getElem_toArray, List.getElem_cons_succ, List.getElem_cons_zero]
        refine take_at (some 28) (i := 14) (v := ?_) rfl rfl (by kernel_rfl) (by kernel_rfl) (by kernel_rfl) (fun _ _ _ h => h) (Or.inl ⟨by kernel_rfl, ?_⟩) hHeld ?_
        rotate_left
        · intro wz hSw; obtain ⟨k0, k1, k2, k3, k4, k5⟩ := HC.out wz hSw; go_simp; try (with_reducible rfl)
        try simp only [Act.put, List.setIfInBounds_toArray, List.set_cons_zero, List.set_cons_succ, List.getElem_toArray, List.getElem_cons_succ, List.getElem_cons_zero]
        refine take_at (some 29) (i := 15) (v := ?_) rfl rfl (by kernel_rfl) (by kernel_rfl) (by kernel_rfl) (fun _ _ _ h => h) (Or.inl ⟨by kernel_rfl, ?_⟩) hHeld ?_
        rotate_left
        · intro wz hSw; obtain ⟨k0, k1, k2, k3, k4, k5⟩ := HC.out wz hSw; go_simp; try (with_reducible rfl)
        try simp only [Act.put, List.setIfInBounds_toArray, List.set_cons_zero, List.set_cons_succ, List.getElem_toArray, List.getElem_cons_succ, List.getElem_cons_zero]
        refine take_at (some 30) (i := 16) (v := ?_) rfl rfl (by kernel_rfl) (by kernel_rfl) (by kernel_rfl) (fun _ _ _ h => h) (Or.inl ⟨by kernel_rfl, ?_⟩) hHeld ?_
        rotate_left
        · intro wz hSw; obtain ⟨k0, k1, k2, k3, k4, k5⟩ := HC.out wz hSw; go_simp; try (with_reducible rfl)
        try simp only [Act.put, List.setIfInBounds_toArray, List.set_cons_zero, List.set_cons_succ, List.getElem_toArray, List.getElem_cons_succ, List.getElem_cons_zero]
        refine take_at (some 31) (i := 17) (v := ?_) rfl rfl (by kernel_rfl) (by kernel_rfl) (by kernel_rfl) (fun _ _ _ h => h) (Or.inl ⟨by kernel_rfl, ?_⟩) hHeld ?_
        rotate_left
        · intro wz hSw; obtain ⟨k0, k1, k2, k3, k4, k5⟩ := HC.out wz hSw; go_simp; try (with_reducible rfl)
        try simp only [Act.put, List.setIfInBounds_toArray, List.set_cons_zero, List.set_cons_succ, List.getElem_toArray, List.getElem_cons_succ, List.getElem_cons_zero]
        refine take_at (some 32) (i := 18) (v := ?_) rfl rfl (by kernel_rfl) (by kernel_rfl) (by kernel_rfl) (fun _ _ _ h => h) (Or.inl ⟨by kernel_rfl, ?_⟩) hHeld ?_
        rotate_left
        · intro wz hSw; obtain ⟨k0, k1, k2, k3, k4, k5⟩ := HC.out wz hSw; go_simp; try (with_reducible rfl)
        try simp only [Act.put, List.setIfInBounds_toArray, List.set_cons_zero, List.set_cons_succ, List.getElem_toArray, List.getElem_cons_succ, List.getElem_cons_zero]
        refine take_at (some 33) (i := 19) (v := ?_) rfl rfl (by kernel_rfl) (by kernel_rfl) (by kernel_rfl) (fun _ _ _ h => h) (Or.inl ⟨by kernel_rfl, ?_⟩) hHeld ?_
        rotate_left
        · intro wz hSw; obtain ⟨k0, k1, k2, k3, k4, k5⟩ := HC.out wz hSw; go_simp; try (with_reducible rfl)
        try simp only [Act.put, List.setIfInBounds_toArray, List.set_cons_zero, List.set_cons_succ, List.getElem_toArray, List.getElem_cons_succ, List.getElem_cons_zero]
        refine take_at (some 34) (i := 20) (v := ?_) rfl rfl (by kernel_rfl) (by kernel_rfl) (by kernel_rfl) (fun _ _ _ h => h) (Or.inl ⟨by kernel_rfl, ?_⟩) hHeld ?_
        rotate_left
        · intro wz hSw; obtain ⟨k0, k1, k2, k3, k4, k5⟩ := HC.out wz hSw; go_simp; try (with_reducible rfl)
        try simp only [Act.put, List.setIfInBounds_toArray, List.set_cons_zero, List.set_cons_succ, List.getElem_toArray, List.getElem_cons_succ, List.getElem_cons_zero]
        refine take_at (some 35) (i := 21) (v := ?_) rfl rfl (by kernel_rfl) (by kernel_rfl) (by kernel_rfl) (fun _ _ _ h => h) (Or.inl ⟨by kernel_rfl, ?_⟩) hHeld ?_
        rotate_left
        · intro wz hSw; obtain ⟨k0, k1, k2, k3, k4, k5⟩ := HC.out wz hSw; go_simp; try (with_reducible rfl)
        try simp only [Act.put, List.setIfInBounds_toArray, List.set_cons_zero, List.set_cons_succ, List.getElem_toArray, List.getElem_cons_succ, List.getElem_cons_zero]
        refine take_at (some 36) (i := 22) (v := ?_) rfl rfl (by kernel_rfl) (by kernel_rfl) (by kernel_rfl) (fun _ _ _ h => h) (Or.inl ⟨by kernel_rfl, ?_⟩) hHeld ?_
        rotate_left
        · intro wz hSw; obtain ⟨k0, k1, k2, k3, k4, k5⟩ := HC.out wz hSw; go_simp; try (with_reducible rfl)
        try simp only [Act.put, List.setIfInBounds_toArray, List.set_cons_zero, List.set_cons_succ, List.getElem_toArray, List.getElem_cons_succ, List.getElem_cons_zero]
        refine take_at (some 37) (i := 23) (v := ?_) rfl rfl (by kernel_rfl) (by kernel_rfl) (by kernel_rfl) (fun _ _ _ h => h) (Or.inl ⟨by kernel_rfl, ?_⟩) hHeld ?_
        rotate_left
        · intro wz hSw; obtain ⟨k0, k1, k2, k3, k4, k5⟩ := HC.out wz hSw; go_simp; try (with_reducible rfl)
        try simp only [Act.put, List.setIfInBounds_toArray, List.set_cons_zero, List.set_cons_succ, List.getElem_toArray, List.getElem_cons_succ, List.getElem_cons_zero]
        refine take_at (some 38) (i := 24) (v := ?_) rfl rfl (by kernel_rfl) (by kernel_rfl) (by kernel_rfl) (fun _ _ _ h => h) (Or.inl ⟨by kernel_rfl, ?_⟩) hHeld ?_
        rotate_left
        · intro wz hSw; obtain ⟨k0, k1, k2, k3, k4, k5⟩ := HC.out wz hSw; go_simp; try (with_reducible rfl)
        try simp only [Act.put, List.setIfInBounds_toArray, List.set_cons_zero, List.set_cons_succ, List.getElem_toArray, List.getElem_cons_succ, List.getElem_cons_zero]
        refine take_at (some 39) (i := 25) (v := ?_) rfl rfl (by kernel_rfl) (by kernel_rfl) (by kernel_rfl) (fun _ _ _ h => h) (Or.inl ⟨by kernel_rfl, ?_⟩) hHeld ?_
        rotate_left
        · intro wz hSw; obtain ⟨k0, k1, k2, k3, k4, k5⟩ := HC.out wz hSw; go_simp; try (with_reducible rfl)
        try simp only [Act.put, List.setIfInBounds_toArray, List.set_cons_zero, List.set_cons_succ, List.getElem_toArray, List.getElem_cons_succ, List.getElem_cons_zero]
        refine take_at (some 40) (i := 26) (v := ?_) rfl rfl (by kernel_rfl) (by kernel_rfl) (by kernel_rfl) (fun _ _ _ h => h) (Or.inl ⟨by kernel_rfl, ?_⟩) hHeld ?_
        rotate_left
        · intro wz hSw; obtain ⟨k0, k1, k2, k3, k4, k5⟩ := HC.out wz hSw; go_simp; try (with_reducible rfl)
        try simp only [Act.put, List.setIfInBounds_toArray, List.set_cons_zero, List.set_cons_succ, List.getElem_toArray, List.getElem_cons_succ, List.getElem_cons_zero]
        refine take_at (some 41) (i := 27) (v := ?_) rfl rfl (by kernel_rfl) (by kernel_rfl) (by kernel_rfl) (fun _ _ _ h => h) (Or.inl ⟨by kernel_rfl, ?_⟩) hHeld ?_
        rotate_left
        · intro wz hSw; obtain ⟨k0, k1, k2, k3, k4, k5⟩ := HC.out wz hSw; go_simp; try (with_reducible rfl)
        try simp only [Act.put, List.setIfInBounds_toArray, List.set_cons_zero, List.set_cons_succ, List.getElem_toArray, List.getElem_cons_succ, List.getElem_cons_zero]
        refine wpAnyH_done (by kernel_rfl) ?_ _
        refine gen_qG (fun y => Below wo.heap.size wo y) hHeld (fun yy hyy => ?_)
        clear hHeld
        have w1 := (iwrap ((xt.size : Int) + (xk.size : Int)) (xt.size + xk.size) (by omega) (by omega)).1
        have w2 := (iwrap (((xt.size + xk.size : Nat) : Int) + (xn.size : Int)) (xt.size + xk.size + xn.size) (by omega) (by omega)).1
        have w3 := (iwrap (((xt.size + xk.size + xn.size : Nat) : Int) + (xp.size : Int)) m (by omega) (by omega)).1
        rw [w1, w2, w3]
        clear w1 w2 w3
        by_cases hm1 : m ≤ 2000
        · have hm2 : ¬ (m : Int) > 2000 := by omega
          have hm3 : ¬ (2000 : Int) < (m : Int) := by omega
          try rw [hm]
          go_wp2
          go_roundw
          case rel =>
            refine ⟨i + 1, by omega, by omega, by go_num, Lib.hid (fun y hy => ?_), Lib.hid (HB.out.trans (hyy.mono HB.out.size))⟩
            rw [List.take_add_one, HXI.out, List.mem_append] at hy
            rcases hy with hy | hy
            · exact HX.out y hy
            · simp at hy; rw [hy]; exact HFE.out.2 hm1
          case measure => simp [intOf]; omega
        · have hm2 : (m : Int) > 2000 := by omega
          have hm3 : (2000 : Int) < (m : Int) := by omega
          try rw [hm]
          go_wp2
          go_ret
          exact ⟨true, rfl, (fun h => by cases h), HB.out.trans (hyy.mono HB.out.size)⟩
      · have hj2 : ¬ (i : Int) < 200 := by omega
        have hn1 : (100 : Int) < (n : Int) := by omega
        go_wp2
        go_ret
        exact ⟨true, rfl, (fun h => by cases h), HB.out⟩
    · have hi2 : ¬ (i : Int) < (n : Int) := by omega
      by_cases hn1 : (100 : Int) < (n : Int)
      · go_wp2
        go_ret
        exact ⟨true, rfl, (fun h => by cases h), HB.out⟩
      · go_wp2
        go_ret
        exact ⟨false, rfl, (fun _ => ⟨by rw [HN.out]; omega, fun x hx => HX.out x (by rw [List.take_of_length_le (by rw [HN.out]; omega)]; exact hx)⟩), HB.out⟩
end Go.Proofs.YtijboiepockmjaaDoor

/- How long a configuration's text is: plain mathematics. -/
namespace Go.Proofs.YtijboiepockmjaaDoor
set_option linter.unusedVariables false
set_option maxRecDepth 100000
set_option linter.unusedSimpArgs false

theorem dg10_le : ∀ (L n : Nat), n < 10 ^ (L + 1) → (dg 10 n).length ≤ L + 1
  | 0, n, h => by rw [dg_small (by omega)]; simp
  | L + 1, n, h => by
    by_cases h1 : n < 10
    · rw [dg_small h1]; simp
    · have h2 : n / 10 < 10 ^ (L + 1) := by
        rw [Nat.pow_succ] at h
        exact Nat.div_lt_of_lt_mul (by omega)
      have := dg10_le L (n / 10) h2
      rw [dg_big (by omega) h1, List.length_append, List.length_singleton]; omega
theorem dec13 (n : Nat) (h : n ≤ 1099511627776) : (decB n).length ≤ 13 := by
  have := dg10_le 12 n (by omega)
  unfold decB; rw [List.length_map]; omega
theorem slash20 (a : Nat) (b : Int) (h : b.toNat ≤ 1099511627776) : (slashL a b).length ≤ 29 := by
  unfold slashL
  split
  · rw [List.length_append, List.length_cons]
    have := dots_len a
    have := dec13 _ h
    omega
  · simp
theorem name20 {s : ByteArray} (h : nameB s = true) : s.data.toList.length ≤ 20 := by
  unfold nameB at h
  simp only [Bool.and_eq_true, decide_eq_true_eq] at h
  exact h.1.1.1.2
theorem joinL_len (c : UInt8) (k : Nat) : ∀ ws : List (List UInt8), (∀ w ∈ ws, w.length ≤ k) → (joinL c ws).length ≤ (k + 1) * ws.length
  | [], _ => by simp [joinL]
  | [p], h => by rw [joinL]; have := h p (by simp); simp; omega
  | p :: q :: ps, h => by
    have ih := joinL_len c k (q :: ps) (fun w hw => h w (List.mem_cons_of_mem _ hw))
    have := h p (by simp)
    rw [joinL, List.length_append, List.length_cons]
    simp only [List.length_cons] at ih ⊢
    rw [Nat.mul_add, Nat.mul_one]
    omega
theorem line_len {ws : List (List UInt8)} (h : ∀ w ∈ ws, w.length ≤ 64) (hn : ws.length ≤ 5) : (lineT ws).length ≤ 326 := by
  have := joinL_len 32 64 ws h
  unfold lineT
  rw [List.length_append, List.length_singleton]
  omega
theorem rightB_bits {a : Nat} {b : Int} (h : rightB a b = true) : b.toNat ≤ 32 := by
  unfold rightB at h
  simp only [Bool.and_eq_true, decide_eq_true_eq] at h
  omega
theorem cfg_short {c : Cg} (h : cfgB c = true) : (∀ ws ∈ cfgLs c, (lineT ws).length ≤ 326) ∧ (cfgLs c).length ≤ 73 := by
  obtain ⟨t1, t2, t3, t4, h5, h6, h7⟩ := cfgB_parts h
  have tt : ∀ n : Int, timB n = true → (decB n.toNat).length ≤ 64 := fun n hn => by
    have := tim_le hn
    have := dec13 n.toNat (by omega)
    omega
  have hten : ∀ t ∈ c.tens, (∀ ws ∈ tenLs t, (lineT ws).length ≤ 326) ∧ (tenLs t).length ≤ 9 := by
    intro t ht
    obtain ⟨a1, a2, a3, a4, a5, a6, a7⟩ := tenB_parts (h7 t ht)
    have hnm : nameB t.name = true := rise_names _ _ h6 _ (List.mem_map.2 ⟨t, ht, rfl⟩)
    constructor
    · intro ws hws
      rcases List.mem_cons.1 hws with rfl | hws
      · refine line_len (fun w hw => ?_) (by simp [tenW])
        simp only [tenW, List.mem_cons, List.not_mem_nil, or_false] at hw
        rcases hw with rfl | rfl | rfl | rfl
        · decide
        · have := name20 hnm; omega
        · have := quo_le a1; have := dec13 t.names.toNat (by omega); omega
        · have := quo_le a2; have := dec13 t.visitors.toNat (by omega); omega
      · rcases List.mem_append.1 hws with hws | hws
        · obtain ⟨n, hn, rfl⟩ := List.mem_map.1 hws
          refine line_len (fun w hw => ?_) (by simp [netW])
          simp only [netW, List.mem_cons, List.not_mem_nil, or_false] at hw
          rcases hw with rfl | rfl
          · decide
          · have := rightB_bits (a4 n hn)
            have := slash20 n.addr n.bits (by omega); omega
        · obtain ⟨k, hk, rfl⟩ := List.mem_map.1 hws
          have hkb := a7 k hk
          have hkn : nameB k.name = true := rise_names _ _ a6 _ (List.mem_map.2 ⟨k, hk, rfl⟩)
          unfold tokB at hkb
          simp only [Bool.and_eq_true, decide_eq_true_eq] at hkb
          obtain ⟨⟨⟨b1, b2⟩, b3⟩, b4⟩ := hkb
          refine line_len (fun w hw => ?_) (by simp [tokW])
          simp only [tokW, List.mem_cons, List.not_mem_nil, or_false] at hw
          rcases hw with rfl | rfl | rfl | rfl
          · decide
          · have := name20 hkn; omega
          · rw [hexB_len]; have : k.sec.data.toList.length = k.sec.size := rfl; omega
          · have := dec13 k.till.toNat (by omega); omega
    · simp only [tenLs, List.length_cons, List.length_append, List.length_map]; omega
  constructor
  · intro ws hws
    rcases List.mem_cons.1 hws with rfl | hws
    · refine line_len (fun w hw => ?_) (by simp [timesW])
      simp only [timesW, List.mem_cons, List.not_mem_nil, or_false] at hw
      rcases hw with rfl | rfl | rfl | rfl | rfl
      · decide
      · exact tt _ t1
      · exact tt _ t2
      · exact tt _ t3
      · exact tt _ t4
    · obtain ⟨t, ht, hm⟩ := List.mem_flatMap.1 hws
      exact (hten t ht).1 ws hm
  · have hl : ∀ l : List Tn, (∀ t ∈ l, (tenLs t).length ≤ 9) → (l.flatMap tenLs).length ≤ 9 * l.length := by
      intro l
      induction l with
      | nil => intro _; simp
      | cons t r ih =>
        intro hh
        have h1 := hh t (by simp)
        have h2 := ih (fun x hx => hh x (List.mem_cons_of_mem _ hx))
        rw [List.flatMap_cons, List.length_append, List.length_cons]; omega
    have := hl c.tens (fun t ht => (hten t ht).2)
    simp only [cfgLs, List.length_cons]; omega
theorem textT_len : ∀ ls : List (List (List UInt8)), (∀ ws ∈ ls, (lineT ws).length ≤ 326) → (textT ls).length ≤ 326 * ls.length
  | [], _ => by simp [textT]
  | ws :: r, h => by
    have h1 := h ws (by simp)
    have h2 := textT_len r (fun x hx => h x (List.mem_cons_of_mem _ hx))
    simp only [textT, List.flatMap_cons, List.length_append, List.length_cons] at h2 ⊢
    omega
theorem print_len (c : Cg) : (printT c).length ≤ 23798 := by
  unfold printT
  split
  · rename_i h
    obtain ⟨h1, h2⟩ := cfg_short h
    have := textT_len _ h1
    omega
  · simp
theorem textT_cons (ws : List (List UInt8)) (r : List (List (List UInt8))) : textT (ws :: r) = lineT ws ++ textT r := rfl
theorem textT_app (a b : List (List (List UInt8))) : textT (a ++ b) = textT a ++ textT b := List.flatMap_append
theorem joinT_len {ws : List (List UInt8)} {n : Nat} (h : (lineT ws).length ≤ n) : (joinL 32 ws).length + 1 ≤ n := by
  unfold lineT at h
  rw [List.length_append, List.length_singleton] at h
  exact h
theorem join_is (c : UInt8) : ∀ ws : List (List UInt8), Go.Lib.join ws [c] = joinL c ws
  | [] => by simp [Go.Lib.join, List.intercalate, joinL]
  | [p] => by simp [Go.Lib.join, List.intercalate, joinL]
  | p :: q :: ps => by
    have ih := join_is c (q :: ps)
    simp only [Go.Lib.join, List.intercalate, List.intersperse_cons_cons, List.flatten_cons] at ih ⊢
    rw [ih, joinL]; rfl
end Go.Proofs.YtijboiepockmjaaDoor

/- One text behind the other, as one operation. Nothing of the program is named here. -/
namespace Go.Proofs.YtijboiepockmjaaDoor
set_option linter.unusedVariables false
set_option maxRecDepth 100000
set_option linter.unusedSimpArgs false
open Go.RowKit

theorem bs_cat (a b : List UInt8) : bs a ++ bs b = bs (a ++ b) := ByteArray.mk_append_mk a b
theorem run_cat {P : Program} (w : World) (t : TypeId) (l k : List UInt8) (h : l.length + k.length ≤ 9223372036854775807) : (binOp .add t (.string (bs l)) (.string (bs k))).run P w = .ok (.string (bs (l ++ k))) w := by
  have h1 := run_string_add_sum (P := P) w (bs l) (bs k) (by rw [bs_size, bs_size]; exact h)
  rw [bs_cat] at h1
  simp [binOp, h1]

theorem op_cat {P : Program} {o : Oper} {a : Act} {K : Act → World → Prop} {Q : Exit → Act → World → Prop} {w : World} (x y : Operand) (t t2 : TypeId) (ho : o.op = .binOp .add t x y t2) (l k m : List UInt8) (hx : a.eval x = .string (bs l)) (hy : a.eval y = .string (bs k)) (hlen : l.length + k.length ≤ 9223372036854775807) (hm : l ++ k = m)
    (h : K (a.put o.dst (.string (bs m))) w) : o.wp P a w K Q := by
  subst hm
  have hr := run_cat (P := P) w t l k hlen
  unfold Oper.wp execOp
  simp only [ho, hx, hy, eqGuard, Bool.not_false, if_true, Sem.run_bind, Sem.run_pure, Result.andThen_ok, hr]
  exact h
theorem wpList_cat {P : Program} {ops : Array Oper} {Q : Exit → Act → World → Prop} {a : Act} {w : World} {rest : List Oper} {o : Oper} (hw : Region.wanted o (yielded ops a.tmps) = true) (x y : Operand) (t t2 : TypeId) (ho : o.op = .binOp .add t x y t2) (l k m : List UInt8) (hx : a.eval x = .string (bs l)) (hy : a.eval y = .string (bs k)) (hlen : l.length + k.length ≤ 9223372036854775807) (hm : l ++ k = m)
    (h : wpList P ops Q rest (a.put o.dst (.string (bs m))) w) : wpList P ops Q (o :: rest) a w :=
  wpList_wanted hw fun K hK => op_cat x y t t2 ho l k m hx hy hlen hm (hK _ _ h)
end Go.Proofs.YtijboiepockmjaaDoor

/- config.line: its contract. -/
namespace Go.Proofs.YtijboiepockmjaaDoor
set_option linter.unusedVariables false
set_option maxRecDepth 100000
set_option linter.unusedSimpArgs false
open Go.RowKit

/-- Words as a row of texts. -/
def wdc (ws : List (List UInt8)) : Array Value := (ws.map fun p => Value.string (bs p)).toArray
end Go.Proofs.YtijboiepockmjaaDoor
