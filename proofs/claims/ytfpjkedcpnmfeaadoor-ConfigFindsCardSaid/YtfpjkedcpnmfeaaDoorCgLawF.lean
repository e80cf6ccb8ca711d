/- ConfigFinds: the walk. (Written by gen_cgf.py.) -/
import Derived.Test.YtfpjkedcpnmfeaaDoorCgH
import Derived.Test.YtfpjkedcpnmfeaaDoorCgG
import Derived.Test.YtfpjkedcpnmfeaaDoorCgSame
import Derived.Test.YtfpjkedcpnmfeaaDoorCfgX
import Derived.Test.YtfpjkedcpnmfeaaDoorCgLawC
namespace Go.Proofs.YtfpjkedcpnmfeaaDoor
set_option linter.unusedVariables false
set_option linter.unusedSimpArgs false
open Go.RowKit

/-- What lies below is kept, under a word of its own. -/
def Bw (a b : World) : Prop := Below a.heap.size a b
theorem rise_all : ∀ (r : List ByteArray) (l : ByteArray), rise l r = true → ∀ x ∈ r, ltS l x = true
  | [], _, _, x, hx => by cases hx
  | a :: r, l, h, x, hx => by
    rw [rise, Bool.and_eq_true, Bool.and_eq_true] at h
    rcases List.mem_cons.1 hx with rfl | hx
    · exact h.1.2
    · exact ltS_trans h.1.2 (rise_all r a h.2 x hx)
theorem find_own {α : Type} (nm : α → ByteArray) : ∀ (l : List α) (z : ByteArray), rise z (l.map nm) = true → ∀ x ∈ l, l.find? (fun y => nmEq (nm y) (nm x)) = some x
  | [], _, _, x, hx => by cases hx
  | a :: r, z, h, x, hx => by
    rw [List.map_cons, rise, Bool.and_eq_true, Bool.and_eq_true] at h
    rw [List.find?_cons]
    rcases List.mem_cons.1 hx with rfl | hx
    · rw [nmEq_iff.2 rfl]
    · have hlt := rise_all _ _ h.2 (nm x) (List.mem_map.2 ⟨x, hx, rfl⟩)
      cases hq : nmEq (nm a) (nm x) with
      | true =>
        rw [nmEq_iff.1 hq, ltS_irrefl] at hlt
        cases hlt
      | false => exact find_own nm r (nm a) h.2 x hx
theorem any_find {α : Type} (p : α → Bool) (l : List α) : (l.find? p).isSome = l.any p := by
  induction l with
  | nil => rfl
  | cons a r ih =>
    rw [List.find?_cons, List.any_cons]
    cases p a with
    | true => rfl
    | false => simpa using ih
theorem rt1_five {u : World} {y : Tv} {B g : Nat} (h : RT1 u y) (hn : ON u B y.An y.cn y.t.nets) (hk : OK u B y.Ak y.ck y.t.toks) (hg : g < B) (v0 v1 v2 v3 v4 : Value) :
    RT1 (((((u.setCell ⟨g, 0, none⟩ v0).setCell ⟨g, 1, none⟩ v1).setCell ⟨g, 2, none⟩ v2).setCell ⟨g, 3, none⟩ v3).setCell ⟨g, 4, none⟩ v4) y := by
  have a := ((((hn.set (p := ⟨g, 0, none⟩) hg v0).set (p := ⟨g, 1, none⟩) hg v1).set (p := ⟨g, 2, none⟩) hg v2).set (p := ⟨g, 3, none⟩) hg v3).set (p := ⟨g, 4, none⟩) hg v4
  have b := ((((hk.set (p := ⟨g, 0, none⟩) hg v0).set (p := ⟨g, 1, none⟩) hg v1).set (p := ⟨g, 2, none⟩) hg v2).set (p := ⟨g, 3, none⟩) hg v3).set (p := ⟨g, 4, none⟩) hg v4
  exact ⟨a.rw_ (fun _ => rfl), b.rw_ (fun _ => rfl), h.fn, h.fk, h.lt, h.sz, h.szk⟩
theorem fT_own {c : Cg} {ts : List Tv} (hc : cfgB c = true) (ht : ts.map (·.t) = c.tens) {x : Tv} (hx : x ∈ ts) : fT x.t.name ts = some x := by
  obtain ⟨_, _, _, _, _, h6, _⟩ := cfgB_parts hc
  rw [← ht, List.map_map] at h6
  exact find_own (fun y : Tv => y.t.name) ts _ h6 x hx
theorem fK_own {c : Cg} {t : Tn} (hc : cfgB c = true) (ht : t ∈ c.tens) {x : Tk} (hx : x ∈ t.toks) : fK x.name t.toks = some x := by
  obtain ⟨_, _, _, _, _, _, h7⟩ := cfgB_parts hc
  obtain ⟨_, _, _, _, _, a6, _⟩ := tenB_parts (h7 t ht)
  exact find_own (fun y : Tk => y.name) t.toks _ a6 x hx

set_option maxRecDepth 100000 in
set_option maxHeartbeats 16000000 in
theorem walk_ConfigFinds (x : Cv) (name : ByteArray) (w : World) (h : InCf w x) (wn : name.size ≤ maxLen) (hG : True) :
    Calls Tryd.prog 6 #[.agg (ccs x), .string name] w fun e w' => e = .returned (.bool true) ∧ Below w.heap.size w w' := by
  unfold maxLen at wn
  have HGR := Lib.hid (fun u (hu : Below w.heap.size w u) => great_ok x u (h.on hu))
  have HRI := Lib.hid (fun u (hu : Below w.heap.size w u) => right_cfg x u (h.rc.on hu))
  have HFC := Lib.hid (fun (s : ByteArray) u (hu : Below w.heap.size w u) (hs : SmG x) => find_cfg2 x s u (h.rc.on hu) (fun y hy => by have := (hs.t y hy).nn; have := (hs.t y hy).nk; omega))
  have HRC := Lib.hid h.rc
  have hfit := h.rc.f
  obtain ⟨a0, a1, a2, a3, ts, A, c⟩ := x
  dsimp only at hfit
  obtain ⟨n, hn⟩ : ∃ n, ts.length = n := ⟨_, rfl⟩
  have HN := Lib.hid hn
  have hcap := hfit.cap
  have hmax := hfit.max
  rw [hn] at hcap
  obtain ⟨C, hC⟩ : ∃ C, cfgB (Cv.cg ⟨a0, a1, a2, a3, ts, A, c⟩) = C := ⟨_, rfl⟩
  simp only [hC] at HRI
  have HCC := Lib.hid hC
  simp only [ccs, hn] at HGR HRI HFC ⊢
  have HX := Lib.hid (show Bx w w.heap.size 24 #[.int .i64 a0, .int .i64 a1, .int .i64 a2, .int .i64 a3, .slice A n c] (w.alloc (.cells #[.int .i64 a0, .int .i64 a1, .int .i64 a2, .int .i64 a3, .slice A n c] 24)) from Bx.new w _ _)
  have hn9 : n ≤ 9223372036854775807 := by omega
  clear h hn hfit hC
  obtain ⟨nb, hnb⟩ : ∃ b, decide ((1000 : Int) < (name.size : Int)) = b := ⟨_, rfl⟩
  go_enter Tryd.func6, Tryd.ntmps6
  go_upto_region 2 with (go_at_call 8; refine (chead_ok _).mono ?_; rintro e u1 ⟨rfl, hb⟩; have HX1 := Lib.hid (HX.out.on hb); clear hb)
  obtain ⟨g0, hg0⟩ : ∃ g, w.heap.size = g := ⟨_, rfl⟩
  have HG0 := Lib.hid hg0
  rw [hg0] at HX1 ⊢
  clear hg0
  have e0 : u1.cell? ⟨g0, 0, none⟩ = some (.int .i64 a0) := HX1.out.b.cell 0
  have e1 : u1.cell? ⟨g0, 1, none⟩ = some (.int .i64 a1) := HX1.out.b.cell 1
  have e2 : u1.cell? ⟨g0, 2, none⟩ = some (.int .i64 a2) := HX1.out.b.cell 2
  have e3 : u1.cell? ⟨g0, 3, none⟩ = some (.int .i64 a3) := HX1.out.b.cell 3
  have e4 : u1.cell? ⟨g0, 4, none⟩ = some (.slice A n c) := HX1.out.b.cell 4
  cases C with
  | false =>
    cases nb
    all_goals
      go_wp2_with (first
        | (go_at_call 9; (with_reducible refine (HGR.out _ HX1.out.l).mono ?_); rintro e u2 ⟨g, rfl, _, hb⟩; have HX2 := Lib.hid (HX1.out.on hb); clear hb; clear e0 e1 e2 e3 e4; have e0 : u2.cell? ⟨g0, 0, none⟩ = some (.int .i64 a0) := HX2.out.b.cell 0; have e1 : u2.cell? ⟨g0, 1, none⟩ = some (.int .i64 a1) := HX2.out.b.cell 1; have e2 : u2.cell? ⟨g0, 2, none⟩ = some (.int .i64 a2) := HX2.out.b.cell 2; have e3 : u2.cell? ⟨g0, 3, none⟩ = some (.int .i64 a3) := HX2.out.b.cell 3; have e4 : u2.cell? ⟨g0, 4, none⟩ = some (.slice A n c) := HX2.out.b.cell 4; cases g)
        | (go_at_call 11; (with_reducible refine (HRI.out _ HX2.out.l).mono ?_); rintro e u3 ⟨rfl, hb⟩; have HX2 := Lib.hid (HX2.out.on hb); clear hb))
    all_goals go_ret
    all_goals exact ⟨rfl, HX2.out.l⟩
  | true =>
    cases nb with
    | true =>
      go_wp2_with (first
        | (go_at_call 9; (with_reducible refine (HGR.out _ HX1.out.l).mono ?_); rintro e u2 ⟨g, rfl, _, hb⟩; have HX2 := Lib.hid (HX1.out.on hb); clear hb; clear e0 e1 e2 e3 e4; have e0 : u2.cell? ⟨g0, 0, none⟩ = some (.int .i64 a0) := HX2.out.b.cell 0; have e1 : u2.cell? ⟨g0, 1, none⟩ = some (.int .i64 a1) := HX2.out.b.cell 1; have e2 : u2.cell? ⟨g0, 2, none⟩ = some (.int .i64 a2) := HX2.out.b.cell 2; have e3 : u2.cell? ⟨g0, 3, none⟩ = some (.int .i64 a3) := HX2.out.b.cell 3; have e4 : u2.cell? ⟨g0, 4, none⟩ = some (.slice A n c) := HX2.out.b.cell 4; cases g)
        | (go_at_call 11; (with_reducible refine (HRI.out _ HX2.out.l).mono ?_); rintro e u3 ⟨rfl, hb⟩; have HX2 := Lib.hid (HX2.out.on hb); clear hb))
      all_goals go_ret
      all_goals exact ⟨rfl, HX2.out.l⟩
    | false =>
    go_upto_region 6 with (first
      | (go_at_call 9; (with_reducible refine (HGR.out _ HX1.out.l).mono ?_); rintro e u2 ⟨g, rfl, hsm, hb⟩; have HX2 := Lib.hid (HX1.out.on hb); clear hb; clear e0 e1 e2 e3 e4; have e0 : u2.cell? ⟨g0, 0, none⟩ = some (.int .i64 a0) := HX2.out.b.cell 0; have e1 : u2.cell? ⟨g0, 1, none⟩ = some (.int .i64 a1) := HX2.out.b.cell 1; have e2 : u2.cell? ⟨g0, 2, none⟩ = some (.int .i64 a2) := HX2.out.b.cell 2; have e3 : u2.cell? ⟨g0, 3, none⟩ = some (.int .i64 a3) := HX2.out.b.cell 3; have e4 : u2.cell? ⟨g0, 4, none⟩ = some (.slice A n c) := HX2.out.b.cell 4; have HSM := Lib.hid hsm; clear hsm; cases g)
      | (go_at_call 11; (with_reducible refine (HRI.out _ HX2.out.l).mono ?_); rintro e u3 ⟨rfl, hb⟩; have HX3 := Lib.hid (HX2.out.on hb); clear hb; clear e0 e1 e2 e3 e4; have e0 : u3.cell? ⟨g0, 0, none⟩ = some (.int .i64 a0) := HX3.out.b.cell 0; have e1 : u3.cell? ⟨g0, 1, none⟩ = some (.int .i64 a1) := HX3.out.b.cell 1; have e2 : u3.cell? ⟨g0, 2, none⟩ = some (.int .i64 a2) := HX3.out.b.cell 2; have e3 : u3.cell? ⟨g0, 3, none⟩ = some (.int .i64 a3) := HX3.out.b.cell 3; have e4 : u3.cell? ⟨g0, 4, none⟩ = some (.slice A n c) := HX3.out.b.cell 4))
    any_goals (go_ret; exact ⟨rfl, HX2.out.l⟩)
    have HSG := Lib.hid (show SmG ⟨a0, a1, a2, a3, ts, A, c⟩ from by first | exact HSM.out trivial | exact HSM.out rfl)
    clear HSM HX2 e0 e1 e2 e3 e4
    try simp only [List.cons_append, List.nil_append]
    go_loopw [6, 7] (fun v6 v7 wr => ∃ (i : Nat) (th : Bool), i ≤ n ∧ v6 = .bool th ∧ v7 = .int .i64 (i : Int) ∧ Hid (th = (ts.take i).any fun y => nmEq y.t.name name) ∧ Hid (Bx w g0 24 #[.int .i64 a0, .int .i64 a1, .int .i64 a2, .int .i64 a3, .slice A n c] wr)) (fun _ v7 _ => n - (intOf v7).toNat)
    case atStart => exact ⟨0, false, by omega, rfl, rfl, Lib.hid (by simp), HX3⟩
    case round =>
      obtain ⟨i, th, hi, rfl, rfl, HTH, HB⟩ := hrel
      have e0 : wr.cell? ⟨g0, 0, none⟩ = some (.int .i64 a0) := HB.out.b.cell 0
      have e1 : wr.cell? ⟨g0, 1, none⟩ = some (.int .i64 a1) := HB.out.b.cell 1
      have e2 : wr.cell? ⟨g0, 2, none⟩ = some (.int .i64 a2) := HB.out.b.cell 2
      have e3 : wr.cell? ⟨g0, 3, none⟩ = some (.int .i64 a3) := HB.out.b.cell 3
      have e4 : wr.cell? ⟨g0, 4, none⟩ = some (.slice A n c) := HB.out.b.cell 4
      by_cases hi1 : i < n
      · have hi2 : (i : Int) < (n : Int) := by omega
        obtain ⟨b, o, y1, rfl, hy, h1, hcl⟩ := HRC.out.r.at5 i (by rw [HN.out]; exact hi1)
        have hmem := List.mem_of_getElem? hy
        have hfo := fT_own HCC.out rfl hmem
        have HFK := Lib.hid (fun (z : Tk) (hz : z ∈ y1.t.toks) => fK_own HCC.out (t := y1.t) (List.mem_map.2 ⟨y1, hmem, rfl⟩) hz)
        have HFD := Lib.hid (fun u (hu : Below w.heap.size w u) => HFC.out y1.t.name u hu HSG.out)
        simp only [hfo, Option.getD_some, Option.isSome_some] at HFD
        have HCL := Lib.hid hcl
        have HRT := Lib.hid h1
        obtain ⟨b1, hb1⟩ : ∃ b, nmEq y1.t.name name = b := ⟨_, rfl⟩
        have HTH2 := Lib.hid (show (th || b1) = (ts.take (i + 1)).any fun y => nmEq y.t.name name by
          rw [List.take_add_one, hy, List.any_append, ← HTH.out, ← hb1]; simp)
        have hfm := h1.fk.max
        have hfc := h1.fk.cap
        obtain ⟨⟨yn, ya, yb, nl, kl⟩, An, cn, Ak, ck⟩ := y1
        dsimp only at hfm hfc hb1 HFD HFK
        have hb1' : (yn.toList == name.toList) = b1 := hb1
        have hkl : kl.length ≤ 9223372036854775807 := by omega
        clear hcl hy h1 hmem hfo hb1 HTH hfm hfc
        obtain ⟨wo, hwo⟩ : ∃ wo, wr = wo := ⟨_, rfl⟩
        subst wr
        go_upto_region 8 with fail
        try simp only [List.cons_append, List.nil_append]
        refine wp_region_held_drew (S := fun wz => Below wo.heap.size wo wz) (by kernel_rfl) ((Below.refl _ _).drew) (fun hHeld => ?_)
        refine take_at (some 37) (i := 0) (v := ?_) rfl rfl (by kernel_rfl) (by kernel_rfl) (by kernel_rfl) (fun _ _ _ h => h) (Or.inl ⟨by kernel_rfl, ?_⟩) hHeld ?_
        rotate_left
        · intro wz hSw; have hbx := HB.out.on hSw; have q0 : wz.cell? ⟨g0, 0, none⟩ = some (.int .i64 a0) := hbx.b.cell 0; have q1 : wz.cell? ⟨g0, 1, none⟩ = some (.int .i64 a1) := hbx.b.cell 1; have q2 : wz.cell? ⟨g0, 2, none⟩ = some (.int .i64 a2) := hbx.b.cell 2; have q3 : wz.cell? ⟨g0, 3, none⟩ = some (.int .i64 a3) := hbx.b.cell 3; have q4 : wz.cell? ⟨g0, 4, none⟩ = some (.slice (some ⟨b, o, none⟩) n c) := hbx.b.cell 4; obtain ⟨t0, t1, t2, t3, t4⟩ := HCL.out wz hbx.l; (try dsimp only at t0 t1 t2 t3 t4); go_simp; try (with_reducible rfl)
        try simp only [Act.put, List.setIfInBounds_toArray, List.set_cons_zero, List.set_cons_succ, List.getElem_toArray, List.getElem_cons_succ, List.getElem_cons_zero]
        refine take_at (some 38) (i := 1) (v := ?_) rfl rfl (by kernel_rfl) (by kernel_rfl) (by kernel_rfl) (fun _ _ _ h => h) (Or.inl ⟨by kernel_rfl, ?_⟩) hHeld ?_
        rotate_left
        · intro wz hSw; have hbx := HB.out.on hSw; have q0 : wz.cell? ⟨g0, 0, none⟩ = some (.int .i64 a0) := hbx.b.cell 0; have q1 : wz.cell? ⟨g0, 1, none⟩ = some (.int .i64 a1) := hbx.b.cell 1; have q2 : wz.cell? ⟨g0, 2, none⟩ = some (.int .i64 a2) := hbx.b.cell 2; have q3 : wz.cell? ⟨g0, 3, none⟩ = some (.int .i64 a3) := hbx.b.cell 3; have q4 : wz.cell? ⟨g0, 4, none⟩ = some (.slice (some ⟨b, o, none⟩) n c) := hbx.b.cell 4; obtain ⟨t0, t1, t2, t3, t4⟩ := HCL.out wz hbx.l; (try dsimp only at t0 t1 t2 t3 t4); go_simp; try (with_reducible rfl)
        try simp only [Act.put, List.setIfInBounds_toArray, List.set_cons_zero, List.set_cons_succ, List.getElem_toArray, List.getElem_cons_succ, List.getElem_cons_zero]
        refine take_at (some 39) (i := 2) (v := ?_) rfl rfl (by kernel_rfl) (by kernel_rfl) (by kernel_rfl) (fun _ _ _ h => h) (Or.inl ⟨by kernel_rfl, ?_⟩) hHeld ?_
        rotate_left
        · intro wz hSw; have hbx := HB.out.on hSw; have q0 : wz.cell? ⟨g0, 0, none⟩ = some (.int .i64 a0) := hbx.b.cell 0; have q1 : wz.cell? ⟨g0, 1, none⟩ = some (.int .i64 a1) := hbx.b.cell 1; have q2 : wz.cell? ⟨g0, 2, none⟩ = some (.int .i64 a2) := hbx.b.cell 2; have q3 : wz.cell? ⟨g0, 3, none⟩ = some (.int .i64 a3) := hbx.b.cell 3; have q4 : wz.cell? ⟨g0, 4, none⟩ = some (.slice (some ⟨b, o, none⟩) n c) := hbx.b.cell 4; obtain ⟨t0, t1, t2, t3, t4⟩ := HCL.out wz hbx.l; (try dsimp only at t0 t1 t2 t3 t4); go_simp; try (with_reducible rfl)
        try simp only [Act.put, List.setIfInBounds_toArray, List.set_cons_zero, List.set_cons_succ, List.getElem_toArray, List.getElem_cons_succ, List.getElem_cons_zero]
        refine take_at (some 40) (i := 3) (v := ?_) rfl rfl (by kernel_rfl) (by kernel_rfl) (by kernel_rfl) (fun _ _ _ h => h) (Or.inl ⟨by kernel_rfl, ?_⟩) hHeld ?_
        rotate_left
        · intro wz hSw; have hbx := HB.out.on hSw; have q0 : wz.cell? ⟨g0, 0, none⟩ = some (.int .i64 a0) := hbx.b.cell 0; have q1 : wz.cell? ⟨g0, 1, none⟩ = some (.int .i64 a1) := hbx.b.cell 1; have q2 : wz.cell? ⟨g0, 2, none⟩ = some (.int .i64 a2) := hbx.b.cell 2; have q3 : wz.cell? ⟨g0, 3, none⟩ = some (.int .i64 a3) := hbx.b.cell 3; have q4 : wz.cell? ⟨g0, 4, none⟩ = some (.slice (some ⟨b, o, none⟩) n c) := hbx.b.cell 4; obtain ⟨t0, t1, t2, t3, t4⟩ := HCL.out wz hbx.l; (try dsimp only at t0 t1 t2 t3 t4); go_simp; try (with_reducible rfl)
        try simp only [Act.put, List.setIfInBounds_toArray, List.set_cons_zero, List.set_cons_succ, List.getElem_toArray, List.getElem_cons_succ, List.getElem_cons_zero]
        refine take_at (some 41) (i := 4) (v := ?_) rfl rfl (by kernel_rfl) (by kernel_rfl) (by kernel_rfl) (fun _ _ _ h => h) (Or.inl ⟨by kernel_rfl, ?_⟩) hHeld ?_
        rotate_left
        · intro wz hSw; have hbx := HB.out.on hSw; have q0 : wz.cell? ⟨g0, 0, none⟩ = some (.int .i64 a0) := hbx.b.cell 0; have q1 : wz.cell? ⟨g0, 1, none⟩ = some (.int .i64 a1) := hbx.b.cell 1; have q2 : wz.cell? ⟨g0, 2, none⟩ = some (.int .i64 a2) := hbx.b.cell 2; have q3 : wz.cell? ⟨g0, 3, none⟩ = some (.int .i64 a3) := hbx.b.cell 3; have q4 : wz.cell? ⟨g0, 4, none⟩ = some (.slice (some ⟨b, o, none⟩) n c) := hbx.b.cell 4; obtain ⟨t0, t1, t2, t3, t4⟩ := HCL.out wz hbx.l; (try dsimp only at t0 t1 t2 t3 t4); go_simp; try (with_reducible rfl)
        try simp only [Act.put, List.setIfInBounds_toArray, List.set_cons_zero, List.set_cons_succ, List.getElem_toArray, List.getElem_cons_succ, List.getElem_cons_zero]
        refine take_at (some 42) (i := 5) (v := ?_) rfl rfl (by kernel_rfl) (by kernel_rfl) (by kernel_rfl) (fun _ _ _ h => h) (Or.inl ⟨by kernel_rfl, ?_⟩) hHeld ?_
        rotate_left
        · intro wz hSw; have hbx := HB.out.on hSw; have q0 : wz.cell? ⟨g0, 0, none⟩ = some (.int .i64 a0) := hbx.b.cell 0; have q1 : wz.cell? ⟨g0, 1, none⟩ = some (.int .i64 a1) := hbx.b.cell 1; have q2 : wz.cell? ⟨g0, 2, none⟩ = some (.int .i64 a2) := hbx.b.cell 2; have q3 : wz.cell? ⟨g0, 3, none⟩ = some (.int .i64 a3) := hbx.b.cell 3; have q4 : wz.cell? ⟨g0, 4, none⟩ = some (.slice (some ⟨b, o, none⟩) n c) := hbx.b.cell 4; obtain ⟨t0, t1, t2, t3, t4⟩ := HCL.out wz hbx.l; (try dsimp only at t0 t1 t2 t3 t4); go_simp; try (with_reducible rfl)
        try simp only [Act.put, List.setIfInBounds_toArray, List.set_cons_zero, List.set_cons_succ, List.getElem_toArray, List.getElem_cons_succ, List.getElem_cons_zero]
        refine take_at (some 43) (i := 6) (v := ?_) rfl rfl (by kernel_rfl) (by kernel_rfl) (by kernel_rfl) (fun _ _ _ h => h) (Or.inl ⟨by kernel_rfl, ?_⟩) hHeld ?_
        rotate_left
        · intro wz hSw; have hbx := HB.out.on hSw; have q0 : wz.cell? ⟨g0, 0, none⟩ = some (.int .i64 a0) := hbx.b.cell 0; have q1 : wz.cell? ⟨g0, 1, none⟩ = some (.int .i64 a1) := hbx.b.cell 1; have q2 : wz.cell? ⟨g0, 2, none⟩ = some (.int .i64 a2) := hbx.b.cell 2; have q3 : wz.cell? ⟨g0, 3, none⟩ = some (.int .i64 a3) := hbx.b.cell 3; have q4 : wz.cell? ⟨g0, 4, none⟩ = some (.slice (some ⟨b, o, none⟩) n c) := hbx.b.cell 4; obtain ⟨t0, t1, t2, t3, t4⟩ := HCL.out wz hbx.l; (try dsimp only at t0 t1 t2 t3 t4); go_simp; try (with_reducible rfl)
        try simp only [Act.put, List.setIfInBounds_toArray, List.set_cons_zero, List.set_cons_succ, List.getElem_toArray, List.getElem_cons_succ, List.getElem_cons_zero]
        refine wpAnyH_ready (rs := [7, 11]) (by kernel_rfl) (by simp) (AllReadyH.cons rfl (fun K hK => ?_) (AllReadyH.cons rfl (fun K hK => ?_) AllReadyH.nil))
        · rw [if_pos (by kernel_rfl)]
          go_simp
          (with_reducible refine (HFD.out _ (HB.out.l.drew)).mono ?_)
          rintro e u1 ⟨⟨yt, An1, cn1, Ak1, ck1⟩, rfl, hyt, ⟨hrt, hon, hok⟩, hb⟩
          try dsimp only
          have hbl : Below wo.heap.size wo u1 := (Below.refl _ _).drew.trans (hb.mono (Nat.le_refl _))
          dsimp only at hyt
          subst hyt
          refine hK.out _ _ hbl (fun hHeld => ?_)
          try simp only [Act.put, List.setIfInBounds_toArray, List.set_cons_zero, List.set_cons_succ, List.getElem_toArray, List.getElem_cons_succ, List.getElem_cons_zero]
          refine take_at (some 36) (i := 8) (v := ?_) rfl rfl (by kernel_rfl) (by kernel_rfl) (by kernel_rfl) (fun _ _ _ h => h) (Or.inl ⟨by kernel_rfl, ?_⟩) hHeld ?_
          rotate_left
          · intro wz hSw; go_simp; try (with_reducible rfl)
          try simp only [Act.put, List.setIfInBounds_toArray, List.set_cons_zero, List.set_cons_succ, List.getElem_toArray, List.getElem_cons_succ, List.getElem_cons_zero]
          refine take_at (some 45) (i := 9) (v := ?_) rfl rfl (by kernel_rfl) (by kernel_rfl) (by kernel_rfl) (fun _ _ _ h => h) (Or.inl ⟨by kernel_rfl, ?_⟩) hHeld ?_
          rotate_left
          · intro wz hSw; go_simp; try (with_reducible rfl)
          try simp only [Act.put, List.setIfInBounds_toArray, List.set_cons_zero, List.set_cons_succ, List.getElem_toArray, List.getElem_cons_succ, List.getElem_cons_zero]
          refine take_at (some 46) (i := 10) (v := ?_) rfl rfl (by kernel_rfl) (by kernel_rfl) (by kernel_rfl) (fun _ _ _ h => h) (Or.inl ⟨by kernel_rfl, ?_⟩) hHeld ?_
          rotate_left
          · intro wz hSw; go_simp; try (with_reducible rfl)
          try simp only [Act.put, List.setIfInBounds_toArray, List.set_cons_zero, List.set_cons_succ, List.getElem_toArray, List.getElem_cons_succ, List.getElem_cons_zero]
          refine wpAnyH_ready (rs := [11]) (by kernel_rfl) (by simp) (AllReadyH.cons rfl (fun K hK => ?_) AllReadyH.nil)
          rw [if_pos (by kernel_rfl)]
          go_simp
          refine hK.out _ _ (hbl.alloc hbl.size _) (fun hHeld => ?_)
          try simp only [Act.put, List.setIfInBounds_toArray, List.set_cons_zero, List.set_cons_succ, List.getElem_toArray, List.getElem_cons_succ, List.getElem_cons_zero]
          refine wpAnyH_ready (rs := [12]) (by kernel_rfl) (by simp) (AllReadyH.cons rfl (fun K hK => ?_) AllReadyH.nil)
          rw [if_pos (by kernel_rfl)]
          go_simp
          refine hK.out _ _ (hbl.alloc hbl.size _) (fun hHeld => ?_)
          try simp only [Act.put, List.setIfInBounds_toArray, List.set_cons_zero, List.set_cons_succ, List.getElem_toArray, List.getElem_cons_succ, List.getElem_cons_zero]
          refine wpAnyH_ready (rs := [13]) (by kernel_rfl) (by simp) (AllReadyH.cons rfl (fun K hK => ?_) AllReadyH.nil)
          rw [if_pos (by kernel_rfl)]
          go_simp
          refine hK.out _ _ (hbl.alloc hbl.size _) (fun hHeld => ?_)
          try simp only [Act.put, List.setIfInBounds_toArray, List.set_cons_zero, List.set_cons_succ, List.getElem_toArray, List.getElem_cons_succ, List.getElem_cons_zero]
          refine wpAnyH_done (by kernel_rfl) ?_ _
          refine gen_qC (fun u => Bk u u1.heap.size 38 #[.string yn, .int .i64 ya, .int .i64 yb, .slice An1 nl.length cn1, .slice Ak1 kl.length ck1] ∧ (RT1 u (⟨⟨yn, ya, yb, nl, kl⟩, An1, cn1, Ak1, ck1⟩ : Tv) ∧ Bx w g0 24 #[.int .i64 a0, .int .i64 a1, .int .i64 a2, .int .i64 a3, .slice (some ⟨b, o, none⟩) n c] u)) ⟨Bk.new u1 _ _, hrt.on ((Below.refl _ _).alloc (Nat.le_refl _) _), ⟨(HB.out.on hbl).b.alloc _, (HB.out.on hbl).l.alloc (HB.out.on hbl).l.size _⟩⟩ (fun u8 h8 => ?_)
          obtain ⟨g8, hg8⟩ : ∃ g, u1.heap.size = g := ⟨_, rfl⟩
          rw [hg8] at h8 ⊢
          clear hHeld hg8
          clear hbl
          obtain ⟨hk8, hr8, hx8⟩ := h8
          have HK8 := Lib.hid hk8
          have HR8 := Lib.hid hr8
          have HX8 := Lib.hid hx8
          have HST := Lib.hid (fun u (hu : Below u8.heap.size u8 u) => same_t (⟨⟨yn, ya, yb, nl, kl⟩, An1, cn1, Ak1, ck1⟩ : Tv) (⟨⟨yn, ya, yb, nl, kl⟩, An, cn, Ak, ck⟩ : Tv) u (hr8.on hu) (HRT.out.on (hx8.l.trans (hu.mono hx8.l.size))) rfl)
          simp only [tcs] at HST
          clear hk8 hr8 hx8
          go_upto_region 9 with fail
          try simp only [List.cons_append, List.nil_append]
          refine wp_region_held_drew (S := fun wz => Below u8.heap.size u8 wz) (by kernel_rfl) ((Below.refl _ _).drew) (fun hHeld => ?_)
          refine take_at (some 47) (i := 0) (v := ?_) rfl rfl (by kernel_rfl) (by kernel_rfl) (by kernel_rfl) (fun _ _ _ h => h) (Or.inl ⟨by kernel_rfl, ?_⟩) hHeld ?_
          rotate_left
          · intro wz hSw; go_simp; try (with_reducible rfl)
          try simp only [Act.put, List.setIfInBounds_toArray, List.set_cons_zero, List.set_cons_succ, List.getElem_toArray, List.getElem_cons_succ, List.getElem_cons_zero]
          refine take_at (some 48) (i := 1) (v := ?_) rfl rfl (by kernel_rfl) (by kernel_rfl) (by kernel_rfl) (fun _ _ _ h => h) (Or.inl ⟨by kernel_rfl, ?_⟩) hHeld ?_
          rotate_left
          · intro wz hSw; go_simp; try (with_reducible rfl)
          try simp only [Act.put, List.setIfInBounds_toArray, List.set_cons_zero, List.set_cons_succ, List.getElem_toArray, List.getElem_cons_succ, List.getElem_cons_zero]
          refine take_at (some 49) (i := 2) (v := ?_) rfl rfl (by kernel_rfl) (by kernel_rfl) (by kernel_rfl) (fun _ _ _ h => h) (Or.inl ⟨by kernel_rfl, ?_⟩) hHeld ?_
          rotate_left
          · intro wz hSw; go_simp; try (with_reducible rfl)
          try simp only [Act.put, List.setIfInBounds_toArray, List.set_cons_zero, List.set_cons_succ, List.getElem_toArray, List.getElem_cons_succ, List.getElem_cons_zero]
          refine take_at (some 50) (i := 3) (v := ?_) rfl rfl (by kernel_rfl) (by kernel_rfl) (by kernel_rfl) (fun _ _ _ h => h) (Or.inl ⟨by kernel_rfl, ?_⟩) hHeld ?_
          rotate_left
          · intro wz hSw; have q4 : wz.cell? ⟨g0, 4, none⟩ = some (.slice (some ⟨b, o, none⟩) n c) := (HX8.out.b.below hSw HX8.out.b.lt).cell 4; have hky := HK8.out.below hSw HK8.out.lt; have m0 : wz.cell? ⟨g8, 0, none⟩ = some (.string yn) := hky.cell 0; have m1 : wz.cell? ⟨g8, 1, none⟩ = some (.int .i64 ya) := hky.cell 1; have m2 : wz.cell? ⟨g8, 2, none⟩ = some (.int .i64 yb) := hky.cell 2; have m3 : wz.cell? ⟨g8, 3, none⟩ = some (.slice An1 nl.length cn1) := hky.cell 3; have m4 : wz.cell? ⟨g8, 4, none⟩ = some (.slice Ak1 kl.length ck1) := hky.cell 4; obtain ⟨t0, t1, t2, t3, t4⟩ := HCL.out wz (HX8.out.l.trans (hSw.mono HX8.out.l.size)); (try dsimp only at t0 t1 t2 t3 t4); go_simp; try (with_reducible rfl)
          try simp only [Act.put, List.setIfInBounds_toArray, List.set_cons_zero, List.set_cons_succ, List.getElem_toArray, List.getElem_cons_succ, List.getElem_cons_zero]
          refine take_at (some 51) (i := 4) (v := ?_) rfl rfl (by kernel_rfl) (by kernel_rfl) (by kernel_rfl) (fun _ _ _ h => h) (Or.inl ⟨by kernel_rfl, ?_⟩) hHeld ?_
          rotate_left
          · intro wz hSw; have q4 : wz.cell? ⟨g0, 4, none⟩ = some (.slice (some ⟨b, o, none⟩) n c) := (HX8.out.b.below hSw HX8.out.b.lt).cell 4; have hky := HK8.out.below hSw HK8.out.lt; have m0 : wz.cell? ⟨g8, 0, none⟩ = some (.string yn) := hky.cell 0; have m1 : wz.cell? ⟨g8, 1, none⟩ = some (.int .i64 ya) := hky.cell 1; have m2 : wz.cell? ⟨g8, 2, none⟩ = some (.int .i64 yb) := hky.cell 2; have m3 : wz.cell? ⟨g8, 3, none⟩ = some (.slice An1 nl.length cn1) := hky.cell 3; have m4 : wz.cell? ⟨g8, 4, none⟩ = some (.slice Ak1 kl.length ck1) := hky.cell 4; obtain ⟨t0, t1, t2, t3, t4⟩ := HCL.out wz (HX8.out.l.trans (hSw.mono HX8.out.l.size)); (try dsimp only at t0 t1 t2 t3 t4); go_simp; try (with_reducible rfl)
          try simp only [Act.put, List.setIfInBounds_toArray, List.set_cons_zero, List.set_cons_succ, List.getElem_toArray, List.getElem_cons_succ, List.getElem_cons_zero]
          refine take_at (some 52) (i := 5) (v := ?_) rfl rfl (by kernel_rfl) (by kernel_rfl) (by kernel_rfl) (fun _ _ _ h => h) (Or.inl ⟨by kernel_rfl, ?_⟩) hHeld ?_
          rotate_left
          · intro wz hSw; have q4 : wz.cell? ⟨g0, 4, none⟩ = some (.slice (some ⟨b, o, none⟩) n c) := (HX8.out.b.below hSw HX8.out.b.lt).cell 4; have hky := HK8.out.below hSw HK8.out.lt; have m0 : wz.cell? ⟨g8, 0, none⟩ = some (.string yn) := hky.cell 0; have m1 : wz.cell? ⟨g8, 1, none⟩ = some (.int .i64 ya) := hky.cell 1; have m2 : wz.cell? ⟨g8, 2, none⟩ = some (.int .i64 yb) := hky.cell 2; have m3 : wz.cell? ⟨g8, 3, none⟩ = some (.slice An1 nl.length cn1) := hky.cell 3; have m4 : wz.cell? ⟨g8, 4, none⟩ = some (.slice Ak1 kl.length ck1) := hky.cell 4; obtain ⟨t0, t1, t2, t3, t4⟩ := HCL.out wz (HX8.out.l.trans (hSw.mono HX8.out.l.size)); (try dsimp only at t0 t1 t2 t3 t4); go_simp; try (with_reducible rfl)
          try simp only [Act.put, List.setIfInBounds_toArray, List.set_cons_zero, List.set_cons_succ, List.getElem_toArray, List.getElem_cons_succ, List.getElem_cons_zero]
          refine take_at (some 53) (i := 6) (v := ?_) rfl rfl (by kernel_rfl) (by kernel_rfl) (by kernel_rfl) (fun _ _ _ h => h) (Or.inl ⟨by kernel_rfl, ?_⟩) hHeld ?_
          rotate_left
          · intro wz hSw; have q4 : wz.cell? ⟨g0, 4, none⟩ = some (.slice (some ⟨b, o, none⟩) n c) := (HX8.out.b.below hSw HX8.out.b.lt).cell 4; have hky := HK8.out.below hSw HK8.out.lt; have m0 : wz.cell? ⟨g8, 0, none⟩ = some (.string yn) := hky.cell 0; have m1 : wz.cell? ⟨g8, 1, none⟩ = some (.int .i64 ya) := hky.cell 1; have m2 : wz.cell? ⟨g8, 2, none⟩ = some (.int .i64 yb) := hky.cell 2; have m3 : wz.cell? ⟨g8, 3, none⟩ = some (.slice An1 nl.length cn1) := hky.cell 3; have m4 : wz.cell? ⟨g8, 4, none⟩ = some (.slice Ak1 kl.length ck1) := hky.cell 4; obtain ⟨t0, t1, t2, t3, t4⟩ := HCL.out wz (HX8.out.l.trans (hSw.mono HX8.out.l.size)); (try dsimp only at t0 t1 t2 t3 t4); go_simp; try (with_reducible rfl)
          try simp only [Act.put, List.setIfInBounds_toArray, List.set_cons_zero, List.set_cons_succ, List.getElem_toArray, List.getElem_cons_succ, List.getElem_cons_zero]
          refine take_at (some 54) (i := 7) (v := ?_) rfl rfl (by kernel_rfl) (by kernel_rfl) (by kernel_rfl) (fun _ _ _ h => h) (Or.inl ⟨by kernel_rfl, ?_⟩) hHeld ?_
          rotate_left
          · intro wz hSw; have q4 : wz.cell? ⟨g0, 4, none⟩ = some (.slice (some ⟨b, o, none⟩) n c) := (HX8.out.b.below hSw HX8.out.b.lt).cell 4; have hky := HK8.out.below hSw HK8.out.lt; have m0 : wz.cell? ⟨g8, 0, none⟩ = some (.string yn) := hky.cell 0; have m1 : wz.cell? ⟨g8, 1, none⟩ = some (.int .i64 ya) := hky.cell 1; have m2 : wz.cell? ⟨g8, 2, none⟩ = some (.int .i64 yb) := hky.cell 2; have m3 : wz.cell? ⟨g8, 3, none⟩ = some (.slice An1 nl.length cn1) := hky.cell 3; have m4 : wz.cell? ⟨g8, 4, none⟩ = some (.slice Ak1 kl.length ck1) := hky.cell 4; obtain ⟨t0, t1, t2, t3, t4⟩ := HCL.out wz (HX8.out.l.trans (hSw.mono HX8.out.l.size)); (try dsimp only at t0 t1 t2 t3 t4); go_simp; try (with_reducible rfl)
          try simp only [Act.put, List.setIfInBounds_toArray, List.set_cons_zero, List.set_cons_succ, List.getElem_toArray, List.getElem_cons_succ, List.getElem_cons_zero]
          refine take_at (some 55) (i := 8) (v := ?_) rfl rfl (by kernel_rfl) (by kernel_rfl) (by kernel_rfl) (fun _ _ _ h => h) (Or.inl ⟨by kernel_rfl, ?_⟩) hHeld ?_
          rotate_left
          · intro wz hSw; have q4 : wz.cell? ⟨g0, 4, none⟩ = some (.slice (some ⟨b, o, none⟩) n c) := (HX8.out.b.below hSw HX8.out.b.lt).cell 4; have hky := HK8.out.below hSw HK8.out.lt; have m0 : wz.cell? ⟨g8, 0, none⟩ = some (.string yn) := hky.cell 0; have m1 : wz.cell? ⟨g8, 1, none⟩ = some (.int .i64 ya) := hky.cell 1; have m2 : wz.cell? ⟨g8, 2, none⟩ = some (.int .i64 yb) := hky.cell 2; have m3 : wz.cell? ⟨g8, 3, none⟩ = some (.slice An1 nl.length cn1) := hky.cell 3; have m4 : wz.cell? ⟨g8, 4, none⟩ = some (.slice Ak1 kl.length ck1) := hky.cell 4; obtain ⟨t0, t1, t2, t3, t4⟩ := HCL.out wz (HX8.out.l.trans (hSw.mono HX8.out.l.size)); (try dsimp only at t0 t1 t2 t3 t4); go_simp; try (with_reducible rfl)
          try simp only [Act.put, List.setIfInBounds_toArray, List.set_cons_zero, List.set_cons_succ, List.getElem_toArray, List.getElem_cons_succ, List.getElem_cons_zero]
          refine wpAnyH_ready (rs := [9]) (by kernel_rfl) (by simp) (AllReadyH.cons rfl (fun K hK => ?_) AllReadyH.nil)
          rw [if_pos (by kernel_rfl)]
          go_simp
          (with_reducible refine (HST.out _ (Below.refl _ _).drew).mono ?_)
          rintro e u9 ⟨rfl, hb⟩
          try dsimp only
          have hbl : Below u8.heap.size u8 u9 := (Below.refl _ _).drew.trans (hb.mono (Nat.le_refl _))
          refine hK.out _ _ hbl (fun hHeld => ?_)
          try simp only [Act.put, List.setIfInBounds_toArray, List.set_cons_zero, List.set_cons_succ, List.getElem_toArray, List.getElem_cons_succ, List.getElem_cons_zero]
          refine take_at (some 57) (i := 10) (v := ?_) rfl rfl (by kernel_rfl) (by kernel_rfl) (by kernel_rfl) (fun _ _ _ h => h) (Or.inl ⟨by kernel_rfl, ?_⟩) hHeld ?_
          rotate_left
          · intro wz hSw; go_simp; try (with_reducible rfl)
          try simp only [Act.put, List.setIfInBounds_toArray, List.set_cons_zero, List.set_cons_succ, List.getElem_toArray, List.getElem_cons_succ, List.getElem_cons_zero]
          refine take_at (some 58) (i := 11) (v := ?_) rfl rfl (by kernel_rfl) (by kernel_rfl) (by kernel_rfl) (fun _ _ _ h => h) (Or.inl ⟨by kernel_rfl, ?_⟩) hHeld ?_
          rotate_left
          · intro wz hSw; go_simp; try (with_reducible rfl)
          try simp only [Act.put, List.setIfInBounds_toArray, List.set_cons_zero, List.set_cons_succ, List.getElem_toArray, List.getElem_cons_succ, List.getElem_cons_zero]
          refine wpAnyH_done (by kernel_rfl) ?_ _
          clear hHeld
          have HK9 := Lib.hid (HK8.out.below hbl HK8.out.lt)
          have HX9 := Lib.hid (HX8.out.on hbl)
          have HR9 := Lib.hid (HR8.out.on hbl)
          have e4 : u9.cell? ⟨g0, 4, none⟩ = some (.slice (some ⟨b, o, none⟩) n c) := HX9.out.b.cell 4
          have hcl9 := HCL.out u9 HX9.out.l
          have t0 : u9.cell? ⟨b, o + i * 5, none⟩ = some (.string yn) := hcl9.1
          clear hcl9 hbl hb HX8 HK8 HR8 HST
          cases th
          all_goals
            go_wp2
            try clear t0 e4
            go_loopw [10] (fun v10 wr => ∃ (k : Nat), k ≤ kl.length ∧ v10 = .int .i64 (k : Int) ∧ Hid (Bx w g0 24 #[.int .i64 a0, .int .i64 a1, .int .i64 a2, .int .i64 a3, .slice (some ⟨b, o, none⟩) n c] wr) ∧ Hid (Bk wr g8 38 #[.string yn, .int .i64 ya, .int .i64 yb, .slice An1 nl.length cn1, .slice Ak1 kl.length ck1]) ∧ Hid (RT1 wr (⟨⟨yn, ya, yb, nl, kl⟩, An1, cn1, Ak1, ck1⟩ : Tv))) (fun v10 _ => kl.length - (intOf v10).toNat)
            case atStart => exact ⟨0, by omega, rfl, HX9, HK9, HR9⟩
            case round =>
              obtain ⟨k, hk, rfl, HXa, HKa, HRa⟩ := hrel
              have m4 : wr.cell? ⟨g8, 4, none⟩ = some (.slice Ak1 kl.length ck1) := HKa.out.cell 4
              by_cases hk1 : k < kl.length
              · have hk2 : (k : Int) < (kl.length : Int) := by omega
                obtain ⟨b2, o2, z, rfl, hz, hcz⟩ := HRa.out.k.at3 k hk1
                have hfz := HFK.out z (List.mem_of_getElem? hz)
                have HTO := Lib.hid (fun u (hu : Below wr.heap.size wr u) => token_ok (⟨⟨yn, ya, yb, nl, kl⟩, An1, cn1, some ⟨b2, o2, none⟩, ck1⟩ : Tv) z.name u (HRa.out.on hu))
                simp only [hfz, Option.getD_some, Option.isSome_some, tcs, kcs] at HTO
                have HCZ := Lib.hid hcz
                obtain ⟨zn, zs, zt⟩ := z
                dsimp only at HTO
                clear hz hfz hcz
                obtain ⟨wp, hwp⟩ : ∃ wp, wr = wp := ⟨_, rfl⟩
                subst wr
                go_upto_region 15 with fail
                try simp only [List.cons_append, List.nil_append]
                refine wp_region_held_drew (S := fun wz => Below wp.heap.size wp wz) (by kernel_rfl) ((Below.refl _ _).drew) (fun hHeld => ?_)
                refine take_at (some 78) (i := 0) (v := ?_) rfl rfl (by kernel_rfl) (by kernel_rfl) (by kernel_rfl) (fun _ _ _ h => h) (Or.inl ⟨by kernel_rfl, ?_⟩) hHeld ?_
                rotate_left
                · intro wz hSw; have hky := HKa.out.below hSw HKa.out.lt; have m0 : wz.cell? ⟨g8, 0, none⟩ = some (.string yn) := hky.cell 0; have m1 : wz.cell? ⟨g8, 1, none⟩ = some (.int .i64 ya) := hky.cell 1; have m2 : wz.cell? ⟨g8, 2, none⟩ = some (.int .i64 yb) := hky.cell 2; have m3 : wz.cell? ⟨g8, 3, none⟩ = some (.slice An1 nl.length cn1) := hky.cell 3; have m4 : wz.cell? ⟨g8, 4, none⟩ = some (.slice (some ⟨b2, o2, none⟩) kl.length ck1) := hky.cell 4; obtain ⟨t0, t1, t2⟩ := HCZ.out wz hSw; (try dsimp only at t0 t1 t2); go_simp; try (with_reducible rfl)
                try simp only [Act.put, List.setIfInBounds_toArray, List.set_cons_zero, List.set_cons_succ, List.getElem_toArray, List.getElem_cons_succ, List.getElem_cons_zero]
                refine take_at (some 79) (i := 1) (v := ?_) rfl rfl (by kernel_rfl) (by kernel_rfl) (by kernel_rfl) (fun _ _ _ h => h) (Or.inl ⟨by kernel_rfl, ?_⟩) hHeld ?_
                rotate_left
                · intro wz hSw; have hky := HKa.out.below hSw HKa.out.lt; have m0 : wz.cell? ⟨g8, 0, none⟩ = some (.string yn) := hky.cell 0; have m1 : wz.cell? ⟨g8, 1, none⟩ = some (.int .i64 ya) := hky.cell 1; have m2 : wz.cell? ⟨g8, 2, none⟩ = some (.int .i64 yb) := hky.cell 2; have m3 : wz.cell? ⟨g8, 3, none⟩ = some (.slice An1 nl.length cn1) := hky.cell 3; have m4 : wz.cell? ⟨g8, 4, none⟩ = some (.slice (some ⟨b2, o2, none⟩) kl.length ck1) := hky.cell 4; obtain ⟨t0, t1, t2⟩ := HCZ.out wz hSw; (try dsimp only at t0 t1 t2); go_simp; try (with_reducible rfl)
                try simp only [Act.put, List.setIfInBounds_toArray, List.set_cons_zero, List.set_cons_succ, List.getElem_toArray, List.getElem_cons_succ, List.getElem_cons_zero]
                refine take_at (some 80) (i := 2) (v := ?_) rfl rfl (by kernel_rfl) (by kernel_rfl) (by kernel_rfl) (fun _ _ _ h => h) (Or.inl ⟨by kernel_rfl, ?_⟩) hHeld ?_
                rotate_left
                · intro wz hSw; have hky := HKa.out.below hSw HKa.out.lt; have m0 : wz.cell? ⟨g8, 0, none⟩ = some (.string yn) := hky.cell 0; have m1 : wz.cell? ⟨g8, 1, none⟩ = some (.int .i64 ya) := hky.cell 1; have m2 : wz.cell? ⟨g8, 2, none⟩ = some (.int .i64 yb) := hky.cell 2; have m3 : wz.cell? ⟨g8, 3, none⟩ = some (.slice An1 nl.length cn1) := hky.cell 3; have m4 : wz.cell? ⟨g8, 4, none⟩ = some (.slice (some ⟨b2, o2, none⟩) kl.length ck1) := hky.cell 4; obtain ⟨t0, t1, t2⟩ := HCZ.out wz hSw; (try dsimp only at t0 t1 t2); go_simp; try (with_reducible rfl)
                try simp only [Act.put, List.setIfInBounds_toArray, List.set_cons_zero, List.set_cons_succ, List.getElem_toArray, List.getElem_cons_succ, List.getElem_cons_zero]
                refine take_at (some 81) (i := 3) (v := ?_) rfl rfl (by kernel_rfl) (by kernel_rfl) (by kernel_rfl) (fun _ _ _ h => h) (Or.inl ⟨by kernel_rfl, ?_⟩) hHeld ?_
                rotate_left
                · intro wz hSw; have hky := HKa.out.below hSw HKa.out.lt; have m0 : wz.cell? ⟨g8, 0, none⟩ = some (.string yn) := hky.cell 0; have m1 : wz.cell? ⟨g8, 1, none⟩ = some (.int .i64 ya) := hky.cell 1; have m2 : wz.cell? ⟨g8, 2, none⟩ = some (.int .i64 yb) := hky.cell 2; have m3 : wz.cell? ⟨g8, 3, none⟩ = some (.slice An1 nl.length cn1) := hky.cell 3; have m4 : wz.cell? ⟨g8, 4, none⟩ = some (.slice (some ⟨b2, o2, none⟩) kl.length ck1) := hky.cell 4; obtain ⟨t0, t1, t2⟩ := HCZ.out wz hSw; (try dsimp only at t0 t1 t2); go_simp; try (with_reducible rfl)
                try simp only [Act.put, List.setIfInBounds_toArray, List.set_cons_zero, List.set_cons_succ, List.getElem_toArray, List.getElem_cons_succ, List.getElem_cons_zero]
                refine take_at (some 82) (i := 4) (v := ?_) rfl rfl (by kernel_rfl) (by kernel_rfl) (by kernel_rfl) (fun _ _ _ h => h) (Or.inl ⟨by kernel_rfl, ?_⟩) hHeld ?_
                rotate_left
                · intro wz hSw; have hky := HKa.out.below hSw HKa.out.lt; have m0 : wz.cell? ⟨g8, 0, none⟩ = some (.string yn) := hky.cell 0; have m1 : wz.cell? ⟨g8, 1, none⟩ = some (.int .i64 ya) := hky.cell 1; have m2 : wz.cell? ⟨g8, 2, none⟩ = some (.int .i64 yb) := hky.cell 2; have m3 : wz.cell? ⟨g8, 3, none⟩ = some (.slice An1 nl.length cn1) := hky.cell 3; have m4 : wz.cell? ⟨g8, 4, none⟩ = some (.slice (some ⟨b2, o2, none⟩) kl.length ck1) := hky.cell 4; obtain ⟨t0, t1, t2⟩ := HCZ.out wz hSw; (try dsimp only at t0 t1 t2); go_simp; try (with_reducible rfl)
                try simp only [Act.put, List.setIfInBounds_toArray, List.set_cons_zero, List.set_cons_succ, List.getElem_toArray, List.getElem_cons_succ, List.getElem_cons_zero]
                refine take_at (some 83) (i := 5) (v := ?_) rfl rfl (by kernel_rfl) (by kernel_rfl) (by kernel_rfl) (fun _ _ _ h => h) (Or.inl ⟨by kernel_rfl, ?_⟩) hHeld ?_
                rotate_left
                · intro wz hSw; have hky := HKa.out.below hSw HKa.out.lt; have m0 : wz.cell? ⟨g8, 0, none⟩ = some (.string yn) := hky.cell 0; have m1 : wz.cell? ⟨g8, 1, none⟩ = some (.int .i64 ya) := hky.cell 1; have m2 : wz.cell? ⟨g8, 2, none⟩ = some (.int .i64 yb) := hky.cell 2; have m3 : wz.cell? ⟨g8, 3, none⟩ = some (.slice An1 nl.length cn1) := hky.cell 3; have m4 : wz.cell? ⟨g8, 4, none⟩ = some (.slice (some ⟨b2, o2, none⟩) kl.length ck1) := hky.cell 4; obtain ⟨t0, t1, t2⟩ := HCZ.out wz hSw; (try dsimp only at t0 t1 t2); go_simp; try (with_reducible rfl)
                try simp only [Act.put, List.setIfInBounds_toArray, List.set_cons_zero, List.set_cons_succ, List.getElem_toArray, List.getElem_cons_succ, List.getElem_cons_zero]
                refine take_at (some 84) (i := 6) (v := ?_) rfl rfl (by kernel_rfl) (by kernel_rfl) (by kernel_rfl) (fun _ _ _ h => h) (Or.inl ⟨by kernel_rfl, ?_⟩) hHeld ?_
                rotate_left
                · intro wz hSw; have hky := HKa.out.below hSw HKa.out.lt; have m0 : wz.cell? ⟨g8, 0, none⟩ = some (.string yn) := hky.cell 0; have m1 : wz.cell? ⟨g8, 1, none⟩ = some (.int .i64 ya) := hky.cell 1; have m2 : wz.cell? ⟨g8, 2, none⟩ = some (.int .i64 yb) := hky.cell 2; have m3 : wz.cell? ⟨g8, 3, none⟩ = some (.slice An1 nl.length cn1) := hky.cell 3; have m4 : wz.cell? ⟨g8, 4, none⟩ = some (.slice (some ⟨b2, o2, none⟩) kl.length ck1) := hky.cell 4; obtain ⟨t0, t1, t2⟩ := HCZ.out wz hSw; (try dsimp only at t0 t1 t2); go_simp; try (with_reducible rfl)
                try simp only [Act.put, List.setIfInBounds_toArray, List.set_cons_zero, List.set_cons_succ, List.getElem_toArray, List.getElem_cons_succ, List.getElem_cons_zero]
                refine wpAnyH_ready (rs := [7, 11]) (by kernel_rfl) (by simp) (AllReadyH.cons rfl (fun K hK => ?_) (AllReadyH.cons rfl (fun K hK => ?_) AllReadyH.nil))
                · rw [if_pos (by kernel_rfl)]
                  go_simp
                  (with_reducible refine (HTO.out _ ((Below.refl wp.heap.size wp).drew)).mono ?_)
                  rintro e u1 ⟨rfl, hb⟩
                  try dsimp only
                  have hbl : Below wp.heap.size wp u1 := (Below.refl _ _).drew.trans (hb.mono (Nat.le_refl _))
                  refine hK.out _ _ hbl (fun hHeld => ?_)
                  try simp only [Act.put, List.setIfInBounds_toArray, List.set_cons_zero, List.set_cons_succ, List.getElem_toArray, List.getElem_cons_succ, List.getElem_cons_zero]
                  refine take_at (some 77) (i := 8) (v := ?_) rfl rfl (by kernel_rfl) (by kernel_rfl) (by kernel_rfl) (fun _ _ _ h => h) (Or.inl ⟨by kernel_rfl, ?_⟩) hHeld ?_
                  rotate_left
                  · intro wz hSw; go_simp; try (with_reducible rfl)
                  try simp only [Act.put, List.setIfInBounds_toArray, List.set_cons_zero, List.set_cons_succ, List.getElem_toArray, List.getElem_cons_succ, List.getElem_cons_zero]
                  refine take_at (some 86) (i := 9) (v := ?_) rfl rfl (by kernel_rfl) (by kernel_rfl) (by kernel_rfl) (fun _ _ _ h => h) (Or.inl ⟨by kernel_rfl, ?_⟩) hHeld ?_
                  rotate_left
                  · intro wz hSw; go_simp; try (with_reducible rfl)
                  try simp only [Act.put, List.setIfInBounds_toArray, List.set_cons_zero, List.set_cons_succ, List.getElem_toArray, List.getElem_cons_succ, List.getElem_cons_zero]
                  refine take_at (some 87) (i := 10) (v := ?_) rfl rfl (by kernel_rfl) (by kernel_rfl) (by kernel_rfl) (fun _ _ _ h => h) (Or.inl ⟨by kernel_rfl, ?_⟩) hHeld ?_
                  rotate_left
                  · intro wz hSw; go_simp; try (with_reducible rfl)
                  try simp only [Act.put, List.setIfInBounds_toArray, List.set_cons_zero, List.set_cons_succ, List.getElem_toArray, List.getElem_cons_succ, List.getElem_cons_zero]
                  refine wpAnyH_ready (rs := [11]) (by kernel_rfl) (by simp) (AllReadyH.cons rfl (fun K hK => ?_) AllReadyH.nil)
                  rw [if_pos (by kernel_rfl)]
                  go_simp
                  refine hK.out _ _ (hbl.alloc hbl.size _) (fun hHeld => ?_)
                  try simp only [Act.put, List.setIfInBounds_toArray, List.set_cons_zero, List.set_cons_succ, List.getElem_toArray, List.getElem_cons_succ, List.getElem_cons_zero]
                  refine wpAnyH_ready (rs := [12]) (by kernel_rfl) (by simp) (AllReadyH.cons rfl (fun K hK => ?_) AllReadyH.nil)
                  rw [if_pos (by kernel_rfl)]
                  go_simp
                  refine hK.out _ _ (hbl.alloc hbl.size _) (fun hHeld => ?_)
                  try simp only [Act.put, List.setIfInBounds_toArray, List.set_cons_zero, List.set_cons_succ, List.getElem_toArray, List.getElem_cons_succ, List.getElem_cons_zero]
                  refine wpAnyH_ready (rs := [13]) (by kernel_rfl) (by simp) (AllReadyH.cons rfl (fun K hK => ?_) AllReadyH.nil)
                  rw [if_pos (by kernel_rfl)]
                  go_simp
                  refine hK.out _ _ (hbl.alloc hbl.size _) (fun hHeld => ?_)
                  try simp only [Act.put, List.setIfInBounds_toArray, List.set_cons_zero, List.set_cons_succ, List.getElem_toArray, List.getElem_cons_succ, List.getElem_cons_zero]
                  refine wpAnyH_done (by kernel_rfl) ?_ _
                  refine gen_qC (fun u => Bk u u1.heap.size 44 #[.string zn, .string zs, .int .i64 zt] ∧ (Bx w g0 24 #[.int .i64 a0, .int .i64 a1, .int .i64 a2, .int .i64 a3, .slice (some ⟨b, o, none⟩) n c] u ∧ Bk u g8 38 #[.string yn, .int .i64 ya, .int .i64 yb, .slice An1 nl.length cn1, .slice (some ⟨b2, o2, none⟩) kl.length ck1] ∧ RT1 u (⟨⟨yn, ya, yb, nl, kl⟩, An1, cn1, some ⟨b2, o2, none⟩, ck1⟩ : Tv) ∧ Bw wp u)) ⟨Bk.new u1 _ _, (HXa.out.on hbl).alloc1 _, (HKa.out.below hbl HKa.out.lt).alloc _, HRa.out.on (hbl.alloc hbl.size _), hbl.alloc hbl.size _⟩ (fun u8t h8t => ?_)
                  obtain ⟨g8t, hg8t⟩ : ∃ g, u1.heap.size = g := ⟨_, rfl⟩
                  rw [hg8t] at h8t ⊢
                  clear hHeld hg8t
                  clear hbl
                  obtain ⟨hkt, hxb, hkb, hrb, hbw⟩ := h8t
                  have HKt := Lib.hid hkt
                  have HXb := Lib.hid hxb
                  have HKb := Lib.hid hkb
                  have HRb := Lib.hid hrb
                  have HBWp := Lib.hid (show Below wp.heap.size wp u8t from hbw)
                  clear hkt hxb hkb hrb hbw
                  go_upto_region 16 with fail
                  try simp only [List.cons_append, List.nil_append]
                  refine wp_region_held_drew (S := fun wz => Below u8t.heap.size u8t wz) (by kernel_rfl) ((Below.refl _ _).drew) (fun hHeld => ?_)
                  refine take_at (some 88) (i := 0) (v := ?_) rfl rfl (by kernel_rfl) (by kernel_rfl) (by kernel_rfl) (fun _ _ _ h => h) (Or.inl ⟨by kernel_rfl, ?_⟩) hHeld ?_
                  rotate_left
                  · intro wz hSw; go_simp; try (with_reducible rfl)
                  try simp only [Act.put, List.setIfInBounds_toArray, List.set_cons_zero, List.set_cons_succ, List.getElem_toArray, List.getElem_cons_succ, List.getElem_cons_zero]
                  refine take_at (some 89) (i := 1) (v := ?_) rfl rfl (by kernel_rfl) (by kernel_rfl) (by kernel_rfl) (fun _ _ _ h => h) (Or.inl ⟨by kernel_rfl, ?_⟩) hHeld ?_
                  rotate_left
                  · intro wz hSw; go_simp; try (with_reducible rfl)
                  try simp only [Act.put, List.setIfInBounds_toArray, List.set_cons_zero, List.set_cons_succ, List.getElem_toArray, List.getElem_cons_succ, List.getElem_cons_zero]
                  refine take_at (some 90) (i := 2) (v := ?_) rfl rfl (by kernel_rfl) (by kernel_rfl) (by kernel_rfl) (fun _ _ _ h => h) (Or.inl ⟨by kernel_rfl, ?_⟩) hHeld ?_
                  rotate_left
                  · intro wz hSw; go_simp; try (with_reducible rfl)
                  try simp only [Act.put, List.setIfInBounds_toArray, List.set_cons_zero, List.set_cons_succ, List.getElem_toArray, List.getElem_cons_succ, List.getElem_cons_zero]
                  refine take_at (some 91) (i := 3) (v := ?_) rfl rfl (by kernel_rfl) (by kernel_rfl) (by kernel_rfl) (fun _ _ _ h => h) (Or.inl ⟨by kernel_rfl, ?_⟩) hHeld ?_
                  rotate_left
                  · intro wz hSw; have hkt := HKt.out.below hSw HKt.out.lt; have k0 : wz.cell? ⟨g8t, 0, none⟩ = some (.string zn) := hkt.cell 0; have k1 : wz.cell? ⟨g8t, 1, none⟩ = some (.string zs) := hkt.cell 1; have k2 : wz.cell? ⟨g8t, 2, none⟩ = some (.int .i64 zt) := hkt.cell 2; have m4 : wz.cell? ⟨g8, 4, none⟩ = some (.slice (some ⟨b2, o2, none⟩) kl.length ck1) := (HKb.out.below hSw HKb.out.lt).cell 4; obtain ⟨t0, t1, t2⟩ := HCZ.out wz (HBWp.out.trans (hSw.mono HBWp.out.size)); (try dsimp only at t0 t1 t2); go_simp; try (with_reducible rfl)
                  try simp only [Act.put, List.setIfInBounds_toArray, List.set_cons_zero, List.set_cons_succ, List.getElem_toArray, List.getElem_cons_succ, List.getElem_cons_zero]
                  refine take_at (some 92) (i := 4) (v := ?_) rfl rfl (by kernel_rfl) (by kernel_rfl) (by kernel_rfl) (fun _ _ _ h => h) (Or.inl ⟨by kernel_rfl, ?_⟩) hHeld ?_
                  rotate_left
                  · intro wz hSw; have hkt := HKt.out.below hSw HKt.out.lt; have k0 : wz.cell? ⟨g8t, 0, none⟩ = some (.string zn) := hkt.cell 0; have k1 : wz.cell? ⟨g8t, 1, none⟩ = some (.string zs) := hkt.cell 1; have k2 : wz.cell? ⟨g8t, 2, none⟩ = some (.int .i64 zt) := hkt.cell 2; have m4 : wz.cell? ⟨g8, 4, none⟩ = some (.slice (some ⟨b2, o2, none⟩) kl.length ck1) := (HKb.out.below hSw HKb.out.lt).cell 4; obtain ⟨t0, t1, t2⟩ := HCZ.out wz (HBWp.out.trans (hSw.mono HBWp.out.size)); (try dsimp only at t0 t1 t2); go_simp; try (with_reducible rfl)
                  try simp only [Act.put, List.setIfInBounds_toArray, List.set_cons_zero, List.set_cons_succ, List.getElem_toArray, List.getElem_cons_succ, List.getElem_cons_zero]
                  refine take_at (some 93) (i := 5) (v := ?_) rfl rfl (by kernel_rfl) (by kernel_rfl) (by kernel_rfl) (fun _ _ _ h => h) (Or.inl ⟨by kernel_rfl, ?_⟩) hHeld ?_
                  rotate_left
                  · intro wz hSw; have hkt := HKt.out.below hSw HKt.out.lt; have k0 : wz.cell? ⟨g8t, 0, none⟩ = some (.string zn) := hkt.cell 0; have k1 : wz.cell? ⟨g8t, 1, none⟩ = some (.string zs) := hkt.cell 1; have k2 : wz.cell? ⟨g8t, 2, none⟩ = some (.int .i64 zt) := hkt.cell 2; have m4 : wz.cell? ⟨g8, 4, none⟩ = some (.slice (some ⟨b2, o2, none⟩) kl.length ck1) := (HKb.out.below hSw HKb.out.lt).cell 4; obtain ⟨t0, t1, t2⟩ := HCZ.out wz (HBWp.out.trans (hSw.mono HBWp.out.size)); (try dsimp only at t0 t1 t2); go_simp; try (with_reducible rfl)
                  try simp only [Act.put, List.setIfInBounds_toArray, List.set_cons_zero, List.set_cons_succ, List.getElem_toArray, List.getElem_cons_succ, List.getElem_cons_zero]
                  refine take_at (some 94) (i := 6) (v := ?_) rfl rfl (by kernel_rfl) (by kernel_rfl) (by kernel_rfl) (fun _ _ _ h => h) (Or.inl ⟨by kernel_rfl, ?_⟩) hHeld ?_
                  rotate_left
                  · intro wz hSw; have hkt := HKt.out.below hSw HKt.out.lt; have k0 : wz.cell? ⟨g8t, 0, none⟩ = some (.string zn) := hkt.cell 0; have k1 : wz.cell? ⟨g8t, 1, none⟩ = some (.string zs) := hkt.cell 1; have k2 : wz.cell? ⟨g8t, 2, none⟩ = some (.int .i64 zt) := hkt.cell 2; have m4 : wz.cell? ⟨g8, 4, none⟩ = some (.slice (some ⟨b2, o2, none⟩) kl.length ck1) := (HKb.out.below hSw HKb.out.lt).cell 4; obtain ⟨t0, t1, t2⟩ := HCZ.out wz (HBWp.out.trans (hSw.mono HBWp.out.size)); (try dsimp only at t0 t1 t2); go_simp; try (with_reducible rfl)
                  try simp only [Act.put, List.setIfInBounds_toArray, List.set_cons_zero, List.set_cons_succ, List.getElem_toArray, List.getElem_cons_succ, List.getElem_cons_zero]
                  refine take_at (some 95) (i := 7) (v := ?_) rfl rfl (by kernel_rfl) (by kernel_rfl) (by kernel_rfl) (fun _ _ _ h => h) (Or.inl ⟨by kernel_rfl, ?_⟩) hHeld ?_
                  rotate_left
                  · intro wz hSw; have hkt := HKt.out.below hSw HKt.out.lt; have k0 : wz.cell? ⟨g8t, 0, none⟩ = some (.string zn) := hkt.cell 0; have k1 : wz.cell? ⟨g8t, 1, none⟩ = some (.string zs) := hkt.cell 1; have k2 : wz.cell? ⟨g8t, 2, none⟩ = some (.int .i64 zt) := hkt.cell 2; have m4 : wz.cell? ⟨g8, 4, none⟩ = some (.slice (some ⟨b2, o2, none⟩) kl.length ck1) := (HKb.out.below hSw HKb.out.lt).cell 4; obtain ⟨t0, t1, t2⟩ := HCZ.out wz (HBWp.out.trans (hSw.mono HBWp.out.size)); (try dsimp only at t0 t1 t2); go_simp; try (with_reducible rfl)
                  try simp only [Act.put, List.setIfInBounds_toArray, List.set_cons_zero, List.set_cons_succ, List.getElem_toArray, List.getElem_cons_succ, List.getElem_cons_zero]
                  refine take_at (some 96) (i := 8) (v := ?_) rfl rfl (by kernel_rfl) (by kernel_rfl) (by kernel_rfl) (fun _ _ _ h => h) (Or.inl ⟨by kernel_rfl, ?_⟩) hHeld ?_
                  rotate_left
                  · intro wz hSw; have hkt := HKt.out.below hSw HKt.out.lt; have k0 : wz.cell? ⟨g8t, 0, none⟩ = some (.string zn) := hkt.cell 0; have k1 : wz.cell? ⟨g8t, 1, none⟩ = some (.string zs) := hkt.cell 1; have k2 : wz.cell? ⟨g8t, 2, none⟩ = some (.int .i64 zt) := hkt.cell 2; have m4 : wz.cell? ⟨g8, 4, none⟩ = some (.slice (some ⟨b2, o2, none⟩) kl.length ck1) := (HKb.out.below hSw HKb.out.lt).cell 4; obtain ⟨t0, t1, t2⟩ := HCZ.out wz (HBWp.out.trans (hSw.mono HBWp.out.size)); (try dsimp only at t0 t1 t2); go_simp; try (with_reducible rfl)
                  try simp only [Act.put, List.setIfInBounds_toArray, List.set_cons_zero, List.set_cons_succ, List.getElem_toArray, List.getElem_cons_succ, List.getElem_cons_zero]
                  refine take_at (some 97) (i := 9) rfl rfl (by kernel_rfl) (by kernel_rfl) (by kernel_rfl) (fun _ _ _ h => h) (yif_nek (by kernel_rfl) (.tmp 91) (.tmp 96) _ rfl ⟨zn, zs, zt⟩ rfl rfl) hHeld ?_
                  try simp only [Act.put, List.setIfInBounds_toArray, List.set_cons_zero, List.set_cons_succ, List.getElem_toArray, List.getElem_cons_succ, List.getElem_cons_zero]
                  refine take_at (some 98) (i := 10) (v := ?_) rfl rfl (by kernel_rfl) (by kernel_rfl) (by kernel_rfl) (fun _ _ _ h => h) (Or.inl ⟨by kernel_rfl, ?_⟩) hHeld ?_
                  rotate_left
                  · intro wz hSw; go_simp; try (with_reducible rfl)
                  try simp only [Act.put, List.setIfInBounds_toArray, List.set_cons_zero, List.set_cons_succ, List.getElem_toArray, List.getElem_cons_succ, List.getElem_cons_zero]
                  refine wpAnyH_done (by kernel_rfl) ?_ _
                  clear hHeld
                  go_wp2
                  go_roundw
                  case rel => exact ⟨k + 1, by omega, by go_num, Lib.hid HXb.out.drew, Lib.hid HKb.out.drew, Lib.hid (HRb.out.on (Below.refl _ _).drew)⟩
                  case measure => simp [intOf]; omega
                · rw [if_pos (by kernel_rfl)]
                  go_simp
                  refine hK.out _ _ ((Below.refl _ _).drew.alloc (Nat.le_refl _) _) (fun hHeld => ?_)
                  try simp only [Act.put, List.setIfInBounds_toArray, List.set_cons_zero, List.set_cons_succ, List.getElem_toArray, List.getElem_cons_succ, List.getElem_cons_zero]
                  refine gen_anyC (fun u => Below wp.heap.size wp u ∧ ∃ z0 z1 z2, Bk u wp.heap.size 44 #[z0, z1, z2]) ⟨hHeld, _, _, _, Bk.new wp.drew _ _⟩ (fun uz hz => ?_)
                  obtain ⟨hzb, z0, z1, z2, hzk⟩ := hz
                  clear hHeld
                  refine wpAnyH_ready (rs := [7]) (by kernel_rfl) (by simp) (AllReadyH.cons rfl (fun K hK => ?_) AllReadyH.nil)
                  rw [if_pos (by kernel_rfl)]
                  go_simp
                  (with_reducible refine (HTO.out _ ((Below.refl wp.heap.size wp).trans (hzb.mono (Below.refl wp.heap.size wp).size))).mono ?_)
                  rintro e u1 ⟨rfl, hb⟩
                  try dsimp only
                  have hbl : Below wp.heap.size wp u1 := hzb.trans (hb.mono hzb.size)
                  have hzk1 := hzk.below hb hzk.lt
                  refine hK.out _ _ hbl (fun hHeld => ?_)
                  try simp only [Act.put, List.setIfInBounds_toArray, List.set_cons_zero, List.set_cons_succ, List.getElem_toArray, List.getElem_cons_succ, List.getElem_cons_zero]
                  refine take_at (some 77) (i := 8) (v := ?_) rfl rfl (by kernel_rfl) (by kernel_rfl) (by kernel_rfl) (fun _ _ _ h => h) (Or.inl ⟨by kernel_rfl, ?_⟩) hHeld ?_
                  rotate_left
                  · intro wz hSw; go_simp; try (with_reducible rfl)
                  try simp only [Act.put, List.setIfInBounds_toArray, List.set_cons_zero, List.set_cons_succ, List.getElem_toArray, List.getElem_cons_succ, List.getElem_cons_zero]
                  refine take_at (some 86) (i := 9) (v := ?_) rfl rfl (by kernel_rfl) (by kernel_rfl) (by kernel_rfl) (fun _ _ _ h => h) (Or.inl ⟨by kernel_rfl, ?_⟩) hHeld ?_
                  rotate_left
                  · intro wz hSw; go_simp; try (with_reducible rfl)
                  try simp only [Act.put, List.setIfInBounds_toArray, List.set_cons_zero, List.set_cons_succ, List.getElem_toArray, List.getElem_cons_succ, List.getElem_cons_zero]
                  refine take_at (some 87) (i := 10) (v := ?_) rfl rfl (by kernel_rfl) (by kernel_rfl) (by kernel_rfl) (fun _ _ _ h => h) (Or.inl ⟨by kernel_rfl, ?_⟩) hHeld ?_
                  rotate_left
                  · intro wz hSw; go_simp; try (with_reducible rfl)
                  try simp only [Act.put, List.setIfInBounds_toArray, List.set_cons_zero, List.set_cons_succ, List.getElem_toArray, List.getElem_cons_succ, List.getElem_cons_zero]
                  have zc0 : u1.cell? ⟨wp.heap.size, 0, none⟩ = some z0 := hzk1.cell 0
                  have zf0 := hzk1.frozen 0
                  have zc1 : u1.cell? ⟨wp.heap.size, 1, none⟩ = some z1 := hzk1.cell 1
                  have zf1 := hzk1.frozen 1
                  have zc2 : u1.cell? ⟨wp.heap.size, 2, none⟩ = some z2 := hzk1.cell 2
                  have zf2 := hzk1.frozen 2
                  refine wpAnyH_ready (rs := [12]) (by kernel_rfl) (by simp) (AllReadyH.cons rfl (fun K hK => ?_) AllReadyH.nil)
                  rw [if_pos (by kernel_rfl)]
                  go_simp
                  refine hK.out _ _ (((hbl.setCell (p := ⟨wp.heap.size, 0, none⟩) (Nat.le_refl _) _).setCell (p := ⟨wp.heap.size, 1, none⟩) (Nat.le_refl _) _).setCell (p := ⟨wp.heap.size, 2, none⟩) (Nat.le_refl _) _) (fun hHeld => ?_)
                  try simp only [Act.put, List.setIfInBounds_toArray, List.set_cons_zero, List.set_cons_succ, List.getElem_toArray, List.getElem_cons_succ, List.getElem_cons_zero]
                  refine wpAnyH_ready (rs := [13]) (by kernel_rfl) (by simp) (AllReadyH.cons rfl (fun K hK => ?_) AllReadyH.nil)
                  rw [if_pos (by kernel_rfl)]
                  go_simp
                  refine hK.out _ _ (((hbl.setCell (p := ⟨wp.heap.size, 0, none⟩) (Nat.le_refl _) _).setCell (p := ⟨wp.heap.size, 1, none⟩) (Nat.le_refl _) _).setCell (p := ⟨wp.heap.size, 2, none⟩) (Nat.le_refl _) _) (fun hHeld => ?_)
                  try simp only [Act.put, List.setIfInBounds_toArray, List.set_cons_zero, List.set_cons_succ, List.getElem_toArray, List.getElem_cons_succ, List.getElem_cons_zero]
                  refine wpAnyH_done (by kernel_rfl) ?_ _
                  have hset := (((hzk1.set 0 (.string zn)).set 1 (.string zs)).set 2 (.int .i64 zt))
                  simp only [List.setIfInBounds_toArray, List.set_cons_zero, List.set_cons_succ] at hset
                  refine gen_qC (fun u => Bk u wp.heap.size 44 #[.string zn, .string zs, .int .i64 zt] ∧ (Bx w g0 24 #[.int .i64 a0, .int .i64 a1, .int .i64 a2, .int .i64 a3, .slice (some ⟨b, o, none⟩) n c] u ∧ Bk u g8 38 #[.string yn, .int .i64 ya, .int .i64 yb, .slice An1 nl.length cn1, .slice (some ⟨b2, o2, none⟩) kl.length ck1] ∧ RT1 u (⟨⟨yn, ya, yb, nl, kl⟩, An1, cn1, some ⟨b2, o2, none⟩, ck1⟩ : Tv) ∧ Bw wp u)) ⟨hset, HXa.out.on (((hbl.setCell (p := ⟨wp.heap.size, 0, none⟩) (Nat.le_refl _) _).setCell (p := ⟨wp.heap.size, 1, none⟩) (Nat.le_refl _) _).setCell (p := ⟨wp.heap.size, 2, none⟩) (Nat.le_refl _) _), HKa.out.below (((hbl.setCell (p := ⟨wp.heap.size, 0, none⟩) (Nat.le_refl _) _).setCell (p := ⟨wp.heap.size, 1, none⟩) (Nat.le_refl _) _).setCell (p := ⟨wp.heap.size, 2, none⟩) (Nat.le_refl _) _) HKa.out.lt, HRa.out.on (((hbl.setCell (p := ⟨wp.heap.size, 0, none⟩) (Nat.le_refl _) _).setCell (p := ⟨wp.heap.size, 1, none⟩) (Nat.le_refl _) _).setCell (p := ⟨wp.heap.size, 2, none⟩) (Nat.le_refl _) _), (((hbl.setCell (p := ⟨wp.heap.size, 0, none⟩) (Nat.le_refl _) _).setCell (p := ⟨wp.heap.size, 1, none⟩) (Nat.le_refl _) _).setCell (p := ⟨wp.heap.size, 2, none⟩) (Nat.le_refl _) _)⟩ (fun u8t h8t => ?_)
                  obtain ⟨g8t, hg8t⟩ : ∃ g, wp.heap.size = g := ⟨_, rfl⟩
                  rw [hg8t] at h8t ⊢
                  clear hHeld hg8t
                  clear hbl hzk hzk1 hset zc0 zf0 zc1 zf1 zc2 zf2
                  obtain ⟨hkt, hxb, hkb, hrb, hbw⟩ := h8t
                  have HKt := Lib.hid hkt
                  have HXb := Lib.hid hxb
                  have HKb := Lib.hid hkb
                  have HRb := Lib.hid hrb
                  have HBWp := Lib.hid (show Below wp.heap.size wp u8t from hbw)
                  clear hkt hxb hkb hrb hbw
                  go_upto_region 16 with fail
                  try simp only [List.cons_append, List.nil_append]
                  refine wp_region_held_drew (S := fun wz => Below u8t.heap.size u8t wz) (by kernel_rfl) ((Below.refl _ _).drew) (fun hHeld => ?_)
                  refine take_at (some 88) (i := 0) (v := ?_) rfl rfl (by kernel_rfl) (by kernel_rfl) (by kernel_rfl) (fun _ _ _ h => h) (Or.inl ⟨by kernel_rfl, ?_⟩) hHeld ?_
                  rotate_left
                  · intro wz hSw; go_simp; try (with_reducible rfl)
                  try simp only [Act.put, List.setIfInBounds_toArray, List.set_cons_zero, List.set_cons_succ, List.getElem_toArray, List.getElem_cons_succ, List.getElem_cons_zero]
                  refine take_at (some 89) (i := 1) (v := ?_) rfl rfl (by kernel_rfl) (by kernel_rfl) (by kernel_rfl) (fun _ _ _ h => h) (Or.inl ⟨by kernel_rfl, ?_⟩) hHeld ?_
                  rotate_left
                  · intro wz hSw; go_simp; try (with_reducible rfl)
                  try simp only [Act.put, List.setIfInBounds_toArray, List.set_cons_zero, List.set_cons_succ, List.getElem_toArray, List.getElem_cons_succ, List.getElem_cons_zero]
                  refine take_at (some 90) (i := 2) (v := ?_) rfl rfl (by kernel_rfl) (by kernel_rfl) (by kernel_rfl) (fun _ _ _ h => h) (Or.inl ⟨by kernel_rfl, ?_⟩) hHeld ?_
                  rotate_left
                  · intro wz hSw; go_simp; try (with_reducible rfl)
                  try simp only [Act.put, List.setIfInBounds_toArray, List.set_cons_zero, List.set_cons_succ, List.getElem_toArray, List.getElem_cons_succ, List.getElem_cons_zero]
                  refine take_at (some 91) (i := 3) (v := ?_) rfl rfl (by kernel_rfl) (by kernel_rfl) (by kernel_rfl) (fun _ _ _ h => h) (Or.inl ⟨by kernel_rfl, ?_⟩) hHeld ?_
                  rotate_left
                  · intro wz hSw; have hkt := HKt.out.below hSw HKt.out.lt; have k0 : wz.cell? ⟨g8t, 0, none⟩ = some (.string zn) := hkt.cell 0; have k1 : wz.cell? ⟨g8t, 1, none⟩ = some (.string zs) := hkt.cell 1; have k2 : wz.cell? ⟨g8t, 2, none⟩ = some (.int .i64 zt) := hkt.cell 2; have m4 : wz.cell? ⟨g8, 4, none⟩ = some (.slice (some ⟨b2, o2, none⟩) kl.length ck1) := (HKb.out.below hSw HKb.out.lt).cell 4; obtain ⟨t0, t1, t2⟩ := HCZ.out wz (HBWp.out.trans (hSw.mono HBWp.out.size)); (try dsimp only at t0 t1 t2); go_simp; try (with_reducible rfl)
                  try simp only [Act.put, List.setIfInBounds_toArray, List.set_cons_zero, List.set_cons_succ, List.getElem_toArray, List.getElem_cons_succ, List.getElem_cons_zero]
                  refine take_at (some 92) (i := 4) (v := ?_) rfl rfl (by kernel_rfl) (by kernel_rfl) (by kernel_rfl) (fun _ _ _ h => h) (Or.inl ⟨by kernel_rfl, ?_⟩) hHeld ?_
                  rotate_left
                  · intro wz hSw; have hkt := HKt.out.below hSw HKt.out.lt; have k0 : wz.cell? ⟨g8t, 0, none⟩ = some (.string zn) := hkt.cell 0; have k1 : wz.cell? ⟨g8t, 1, none⟩ = some (.string zs) := hkt.cell 1; have k2 : wz.cell? ⟨g8t, 2, none⟩ = some (.int .i64 zt) := hkt.cell 2; have m4 : wz.cell? ⟨g8, 4, none⟩ = some (.slice (some ⟨b2, o2, none⟩) kl.length ck1) := (HKb.out.below hSw HKb.out.lt).cell 4; obtain ⟨t0, t1, t2⟩ := HCZ.out wz (HBWp.out.trans (hSw.mono HBWp.out.size)); (try dsimp only at t0 t1 t2); go_simp; try (with_reducible rfl)
                  try simp only [Act.put, List.setIfInBounds_toArray, List.set_cons_zero, List.set_cons_succ, List.getElem_toArray, List.getElem_cons_succ, List.getElem_cons_zero]
                  refine take_at (some 93) (i := 5) (v := ?_) rfl rfl (by kernel_rfl) (by kernel_rfl) (by kernel_rfl) (fun _ _ _ h => h) (Or.inl ⟨by kernel_rfl, ?_⟩) hHeld ?_
                  rotate_left
                  · intro wz hSw; have hkt := HKt.out.below hSw HKt.out.lt; have k0 : wz.cell? ⟨g8t, 0, none⟩ = some (.string zn) := hkt.cell 0; have k1 : wz.cell? ⟨g8t, 1, none⟩ = some (.string zs) := hkt.cell 1; have k2 : wz.cell? ⟨g8t, 2, none⟩ = some (.int .i64 zt) := hkt.cell 2; have m4 : wz.cell? ⟨g8, 4, none⟩ = some (.slice (some ⟨b2, o2, none⟩) kl.length ck1) := (HKb.out.below hSw HKb.out.lt).cell 4; obtain ⟨t0, t1, t2⟩ := HCZ.out wz (HBWp.out.trans (hSw.mono HBWp.out.size)); (try dsimp only at t0 t1 t2); go_simp; try (with_reducible rfl)
                  try simp only [Act.put, List.setIfInBounds_toArray, List.set_cons_zero, List.set_cons_succ, List.getElem_toArray, List.getElem_cons_succ, List.getElem_cons_zero]
                  refine take_at (some 94) (i := 6) (v := ?_) rfl rfl (by kernel_rfl) (by kernel_rfl) (by kernel_rfl) (fun _ _ _ h => h) (Or.inl ⟨by kernel_rfl, ?_⟩) hHeld ?_
                  rotate_left
                  · intro wz hSw; have hkt := HKt.out.below hSw HKt.out.lt; have k0 : wz.cell? ⟨g8t, 0, none⟩ = some (.string zn) := hkt.cell 0; have k1 : wz.cell? ⟨g8t, 1, none⟩ = some (.string zs) := hkt.cell 1; have k2 : wz.cell? ⟨g8t, 2, none⟩ = some (.int .i64 zt) := hkt.cell 2; have m4 : wz.cell? ⟨g8, 4, none⟩ = some (.slice (some ⟨b2, o2, none⟩) kl.length ck1) := (HKb.out.below hSw HKb.out.lt).cell 4; obtain ⟨t0, t1, t2⟩ := HCZ.out wz (HBWp.out.trans (hSw.mono HBWp.out.size)); (try dsimp only at t0 t1 t2); go_simp; try (with_reducible rfl)
                  try simp only [Act.put, List.setIfInBounds_toArray, List.set_cons_zero, List.set_cons_succ, List.getElem_toArray, List.getElem_cons_succ, List.getElem_cons_zero]
                  refine take_at (some 95) (i := 7) (v := ?_) rfl rfl (by kernel_rfl) (by kernel_rfl) (by kernel_rfl) (fun _ _ _ h => h) (Or.inl ⟨by kernel_rfl, ?_⟩) hHeld ?_
                  rotate_left
                  · intro wz hSw; have hkt := HKt.out.below hSw HKt.out.lt; have k0 : wz.cell? ⟨g8t, 0, none⟩ = some (.string zn) := hkt.cell 0; have k1 : wz.cell? ⟨g8t, 1, none⟩ = some (.string zs) := hkt.cell 1; have k2 : wz.cell? ⟨g8t, 2, none⟩ = some (.int .i64 zt) := hkt.cell 2; have m4 : wz.cell? ⟨g8, 4, none⟩ = some (.slice (some ⟨b2, o2, none⟩) kl.length ck1) := (HKb.out.below hSw HKb.out.lt).cell 4; obtain ⟨t0, t1, t2⟩ := HCZ.out wz (HBWp.out.trans (hSw.mono HBWp.out.size)); (try dsimp only at t0 t1 t2); go_simp; try (with_reducible rfl)
                  try simp only [Act.put, List.setIfInBounds_toArray, List.set_cons_zero, List.set_cons_succ, List.getElem_toArray, List.getElem_cons_succ, List.getElem_cons_zero]
                  refine take_at (some 96) (i := 8) (v := ?_) rfl rfl (by kernel_rfl) (by kernel_rfl) (by kernel_rfl) (fun _ _ _ h => h) (Or.inl ⟨by kernel_rfl, ?_⟩) hHeld ?_
                  rotate_left
                  · intro wz hSw; have hkt := HKt.out.below hSw HKt.out.lt; have k0 : wz.cell? ⟨g8t, 0, none⟩ = some (.string zn) := hkt.cell 0; have k1 : wz.cell? ⟨g8t, 1, none⟩ = some (.string zs) := hkt.cell 1; have k2 : wz.cell? ⟨g8t, 2, none⟩ = some (.int .i64 zt) := hkt.cell 2; have m4 : wz.cell? ⟨g8, 4, none⟩ = some (.slice (some ⟨b2, o2, none⟩) kl.length ck1) := (HKb.out.below hSw HKb.out.lt).cell 4; obtain ⟨t0, t1, t2⟩ := HCZ.out wz (HBWp.out.trans (hSw.mono HBWp.out.size)); (try dsimp only at t0 t1 t2); go_simp; try (with_reducible rfl)
                  try simp only [Act.put, List.setIfInBounds_toArray, List.set_cons_zero, List.set_cons_succ, List.getElem_toArray, List.getElem_cons_succ, List.getElem_cons_zero]
                  refine take_at (some 97) (i := 9) rfl rfl (by kernel_rfl) (by kernel_rfl) (by kernel_rfl) (fun _ _ _ h => h) (yif_nek (by kernel_rfl) (.tmp 91) (.tmp 96) _ rfl ⟨zn, zs, zt⟩ rfl rfl) hHeld ?_
                  try simp only [Act.put, List.setIfInBounds_toArray, List.set_cons_zero, List.set_cons_succ, List.getElem_toArray, List.getElem_cons_succ, List.getElem_cons_zero]
                  refine take_at (some 98) (i := 10) (v := ?_) rfl rfl (by kernel_rfl) (by kernel_rfl) (by kernel_rfl) (fun _ _ _ h => h) (Or.inl ⟨by kernel_rfl, ?_⟩) hHeld ?_
                  rotate_left
                  · intro wz hSw; go_simp; try (with_reducible rfl)
                  try simp only [Act.put, List.setIfInBounds_toArray, List.set_cons_zero, List.set_cons_succ, List.getElem_toArray, List.getElem_cons_succ, List.getElem_cons_zero]
                  refine wpAnyH_done (by kernel_rfl) ?_ _
                  clear hHeld
                  go_wp2
                  go_roundw
                  case rel => exact ⟨k + 1, by omega, by go_num, Lib.hid HXb.out.drew, Lib.hid HKb.out.drew, Lib.hid (HRb.out.on (Below.refl _ _).drew)⟩
                  case measure => simp [intOf]; omega
              · have hk2 : ¬ (k : Int) < (kl.length : Int) := by omega
                go_wp2
                go_roundw
                case rel => exact ⟨i + 1, _, by omega, rfl, by go_num, HTH2, HXa⟩
                case measure => simp [intOf]; omega
        · rw [if_pos (by kernel_rfl)]
          go_simp
          refine hK.out _ _ ((Below.refl _ _).drew.alloc (Nat.le_refl _) _) (fun hHeld => ?_)
          try simp only [Act.put, List.setIfInBounds_toArray, List.set_cons_zero, List.set_cons_succ, List.getElem_toArray, List.getElem_cons_succ, List.getElem_cons_zero]
          refine gen_anyC (fun u => Below wo.heap.size wo u ∧ ∃ z0 z1 z2 z3 z4, Bk u wo.heap.size 38 #[z0, z1, z2, z3, z4]) ⟨hHeld, _, _, _, _, _, Bk.new wo.drew _ _⟩ (fun uz hz => ?_)
          obtain ⟨hzb, z0, z1, z2, z3, z4, hzk⟩ := hz
          clear hHeld
          refine wpAnyH_ready (rs := [7]) (by kernel_rfl) (by simp) (AllReadyH.cons rfl (fun K hK => ?_) AllReadyH.nil)
          rw [if_pos (by kernel_rfl)]
          go_simp
          (with_reducible refine (HFD.out _ (HB.out.l.trans (hzb.mono HB.out.l.size))).mono ?_)
          rintro e u1 ⟨⟨yt, An1, cn1, Ak1, ck1⟩, rfl, hyt, ⟨hrt, hon, hok⟩, hb⟩
          try dsimp only
          have hbl : Below wo.heap.size wo u1 := hzb.trans (hb.mono hzb.size)
          have hzk1 := hzk.below hb hzk.lt
          dsimp only at hyt
          subst hyt
          refine hK.out _ _ hbl (fun hHeld => ?_)
          try simp only [Act.put, List.setIfInBounds_toArray, List.set_cons_zero, List.set_cons_succ, List.getElem_toArray, List.getElem_cons_succ, List.getElem_cons_zero]
          refine take_at (some 36) (i := 8) (v := ?_) rfl rfl (by kernel_rfl) (by kernel_rfl) (by kernel_rfl) (fun _ _ _ h => h) (Or.inl ⟨by kernel_rfl, ?_⟩) hHeld ?_
          rotate_left
          · intro wz hSw; go_simp; try (with_reducible rfl)
          try simp only [Act.put, List.setIfInBounds_toArray, List.set_cons_zero, List.set_cons_succ, List.getElem_toArray, List.getElem_cons_succ, List.getElem_cons_zero]
          refine take_at (some 45) (i := 9) (v := ?_) rfl rfl (by kernel_rfl) (by kernel_rfl) (by kernel_rfl) (fun _ _ _ h => h) (Or.inl ⟨by kernel_rfl, ?_⟩) hHeld ?_
          rotate_left
          · intro wz hSw; go_simp; try (with_reducible rfl)
          try simp only [Act.put, List.setIfInBounds_toArray, List.set_cons_zero, List.set_cons_succ, List.getElem_toArray, List.getElem_cons_succ, List.getElem_cons_zero]
          refine take_at (some 46) (i := 10) (v := ?_) rfl rfl (by kernel_rfl) (by kernel_rfl) (by kernel_rfl) (fun _ _ _ h => h) (Or.inl ⟨by kernel_rfl, ?_⟩) hHeld ?_
          rotate_left
          · intro wz hSw; go_simp; try (with_reducible rfl)
          try simp only [Act.put, List.setIfInBounds_toArray, List.set_cons_zero, List.set_cons_succ, List.getElem_toArray, List.getElem_cons_succ, List.getElem_cons_zero]
          have zc0 : u1.cell? ⟨wo.heap.size, 0, none⟩ = some z0 := hzk1.cell 0
          have zf0 := hzk1.frozen 0
          have zc1 : u1.cell? ⟨wo.heap.size, 1, none⟩ = some z1 := hzk1.cell 1
          have zf1 := hzk1.frozen 1
          have zc2 : u1.cell? ⟨wo.heap.size, 2, none⟩ = some z2 := hzk1.cell 2
          have zf2 := hzk1.frozen 2
          have zc3 : u1.cell? ⟨wo.heap.size, 3, none⟩ = some z3 := hzk1.cell 3
          have zf3 := hzk1.frozen 3
          have zc4 : u1.cell? ⟨wo.heap.size, 4, none⟩ = some z4 := hzk1.cell 4
          have zf4 := hzk1.frozen 4
          refine wpAnyH_ready (rs := [12]) (by kernel_rfl) (by simp) (AllReadyH.cons rfl (fun K hK => ?_) AllReadyH.nil)
          rw [if_pos (by kernel_rfl)]
          go_simp
          refine hK.out _ _ (((((hbl.setCell (p := ⟨wo.heap.size, 0, none⟩) (Nat.le_refl _) _).setCell (p := ⟨wo.heap.size, 1, none⟩) (Nat.le_refl _) _).setCell (p := ⟨wo.heap.size, 2, none⟩) (Nat.le_refl _) _).setCell (p := ⟨wo.heap.size, 3, none⟩) (Nat.le_refl _) _).setCell (p := ⟨wo.heap.size, 4, none⟩) (Nat.le_refl _) _) (fun hHeld => ?_)
          try simp only [Act.put, List.setIfInBounds_toArray, List.set_cons_zero, List.set_cons_succ, List.getElem_toArray, List.getElem_cons_succ, List.getElem_cons_zero]
          refine wpAnyH_ready (rs := [13]) (by kernel_rfl) (by simp) (AllReadyH.cons rfl (fun K hK => ?_) AllReadyH.nil)
          rw [if_pos (by kernel_rfl)]
          go_simp
          refine hK.out _ _ (((((hbl.setCell (p := ⟨wo.heap.size, 0, none⟩) (Nat.le_refl _) _).setCell (p := ⟨wo.heap.size, 1, none⟩) (Nat.le_refl _) _).setCell (p := ⟨wo.heap.size, 2, none⟩) (Nat.le_refl _) _).setCell (p := ⟨wo.heap.size, 3, none⟩) (Nat.le_refl _) _).setCell (p := ⟨wo.heap.size, 4, none⟩) (Nat.le_refl _) _) (fun hHeld => ?_)
          try simp only [Act.put, List.setIfInBounds_toArray, List.set_cons_zero, List.set_cons_succ, List.getElem_toArray, List.getElem_cons_succ, List.getElem_cons_zero]
          refine wpAnyH_done (by kernel_rfl) ?_ _
          have hset := (((((hzk1.set 0 (.string yn)).set 1 (.int .i64 ya)).set 2 (.int .i64 yb)).set 3 (.slice An1 nl.length cn1)).set 4 (.slice Ak1 kl.length ck1))
          simp only [List.setIfInBounds_toArray, List.set_cons_zero, List.set_cons_succ] at hset
          refine gen_qC (fun u => Bk u wo.heap.size 38 #[.string yn, .int .i64 ya, .int .i64 yb, .slice An1 nl.length cn1, .slice Ak1 kl.length ck1] ∧ (RT1 u (⟨⟨yn, ya, yb, nl, kl⟩, An1, cn1, Ak1, ck1⟩ : Tv) ∧ Bx w g0 24 #[.int .i64 a0, .int .i64 a1, .int .i64 a2, .int .i64 a3, .slice (some ⟨b, o, none⟩) n c] u)) ⟨hset, rt1_five hrt hon hok hzk.lt _ _ _ _ _, ⟨((((((HB.out.on hbl).b.far (p := ⟨wo.heap.size, 0, none⟩) (Nat.ne_of_lt HB.out.b.lt) _).far (p := ⟨wo.heap.size, 1, none⟩) (Nat.ne_of_lt HB.out.b.lt) _).far (p := ⟨wo.heap.size, 2, none⟩) (Nat.ne_of_lt HB.out.b.lt) _).far (p := ⟨wo.heap.size, 3, none⟩) (Nat.ne_of_lt HB.out.b.lt) _).far (p := ⟨wo.heap.size, 4, none⟩) (Nat.ne_of_lt HB.out.b.lt) _), ((((((HB.out.on hbl).l.setCell (p := ⟨wo.heap.size, 0, none⟩) HB.out.l.size _).setCell (p := ⟨wo.heap.size, 1, none⟩) HB.out.l.size _).setCell (p := ⟨wo.heap.size, 2, none⟩) HB.out.l.size _).setCell (p := ⟨wo.heap.size, 3, none⟩) HB.out.l.size _).setCell (p := ⟨wo.heap.size, 4, none⟩) HB.out.l.size _)⟩⟩ (fun u8 h8 => ?_)
          obtain ⟨g8, hg8⟩ : ∃ g, wo.heap.size = g := ⟨_, rfl⟩
          rw [hg8] at h8 ⊢
          clear hHeld hg8
          clear hbl hzk hzk1 hset zc0 zf0 zc1 zf1 zc2 zf2 zc3 zf3 zc4 zf4
          obtain ⟨hk8, hr8, hx8⟩ := h8
          have HK8 := Lib.hid hk8
          have HR8 := Lib.hid hr8
          have HX8 := Lib.hid hx8
          have HST := Lib.hid (fun u (hu : Below u8.heap.size u8 u) => same_t (⟨⟨yn, ya, yb, nl, kl⟩, An1, cn1, Ak1, ck1⟩ : Tv) (⟨⟨yn, ya, yb, nl, kl⟩, An, cn, Ak, ck⟩ : Tv) u (hr8.on hu) (HRT.out.on (hx8.l.trans (hu.mono hx8.l.size))) rfl)
          simp only [tcs] at HST
          clear hk8 hr8 hx8
          go_upto_region 9 with fail
          try simp only [List.cons_append, List.nil_append]
          refine wp_region_held_drew (S := fun wz => Below u8.heap.size u8 wz) (by kernel_rfl) ((Below.refl _ _).drew) (fun hHeld => ?_)
          refine take_at (some 47) (i := 0) (v := ?_) rfl rfl (by kernel_rfl) (by kernel_rfl) (by kernel_rfl) (fun _ _ _ h => h) (Or.inl ⟨by kernel_rfl, ?_⟩) hHeld ?_
          rotate_left
          · intro wz hSw; go_simp; try (with_reducible rfl)
          try simp only [Act.put, List.setIfInBounds_toArray, List.set_cons_zero, List.set_cons_succ, List.getElem_toArray, List.getElem_cons_succ, List.getElem_cons_zero]
          refine take_at (some 48) (i := 1) (v := ?_) rfl rfl (by kernel_rfl) (by kernel_rfl) (by kernel_rfl) (fun _ _ _ h => h) (Or.inl ⟨by kernel_rfl, ?_⟩) hHeld ?_
          rotate_left
          · intro wz hSw; go_simp; try (with_reducible rfl)
          try simp only [Act.put, List.setIfInBounds_toArray, List.set_cons_zero, List.set_cons_succ, List.getElem_toArray, List.getElem_cons_succ, List.getElem_cons_zero]
          refine take_at (some 49) (i := 2) (v := ?_) rfl rfl (by kernel_rfl) (by kernel_rfl) (by kernel_rfl) (fun _ _ _ h => h) (Or.inl ⟨by kernel_rfl, ?_⟩) hHeld ?_
          rotate_left
          · intro wz hSw; go_simp; try (with_reducible rfl)
          try simp only [Act.put, List.setIfInBounds_toArray, List.set_cons_zero, List.set_cons_succ, List.getElem_toArray, List.getElem_cons_succ, List.getElem_cons_zero]
          refine take_at (some 50) (i := 3) (v := ?_) rfl rfl (by kernel_rfl) (by kernel_rfl) (by kernel_rfl) (fun _ _ _ h => h) (Or.inl ⟨by kernel_rfl, ?_⟩) hHeld ?_
          rotate_left
          · intro wz hSw; have q4 : wz.cell? ⟨g0, 4, none⟩ = some (.slice (some ⟨b, o, none⟩) n c) := (HX8.out.b.below hSw HX8.out.b.lt).cell 4; have hky := HK8.out.below hSw HK8.out.lt; have m0 : wz.cell? ⟨g8, 0, none⟩ = some (.string yn) := hky.cell 0; have m1 : wz.cell? ⟨g8, 1, none⟩ = some (.int .i64 ya) := hky.cell 1; have m2 : wz.cell? ⟨g8, 2, none⟩ = some (.int .i64 yb) := hky.cell 2; have m3 : wz.cell? ⟨g8, 3, none⟩ = some (.slice An1 nl.length cn1) := hky.cell 3; have m4 : wz.cell? ⟨g8, 4, none⟩ = some (.slice Ak1 kl.length ck1) := hky.cell 4; obtain ⟨t0, t1, t2, t3, t4⟩ := HCL.out wz (HX8.out.l.trans (hSw.mono HX8.out.l.size)); (try dsimp only at t0 t1 t2 t3 t4); go_simp; try (with_reducible rfl)
          try simp only [Act.put, List.setIfInBounds_toArray, List.set_cons_zero, List.set_cons_succ, List.getElem_toArray, List.getElem_cons_succ, List.getElem_cons_zero]
          refine take_at (some 51) (i := 4) (v := ?_) rfl rfl (by kernel_rfl) (by kernel_rfl) (by kernel_rfl) (fun _ _ _ h => h) (Or.inl ⟨by kernel_rfl, ?_⟩) hHeld ?_
          rotate_left
          · intro wz hSw; have q4 : wz.cell? ⟨g0, 4, none⟩ = some (.slice (some ⟨b, o, none⟩) n c) := (HX8.out.b.below hSw HX8.out.b.lt).cell 4; have hky := HK8.out.below hSw HK8.out.lt; have m0 : wz.cell? ⟨g8, 0, none⟩ = some (.string yn) := hky.cell 0; have m1 : wz.cell? ⟨g8, 1, none⟩ = some (.int .i64 ya) := hky.cell 1; have m2 : wz.cell? ⟨g8, 2, none⟩ = some (.int .i64 yb) := hky.cell 2; have m3 : wz.cell? ⟨g8, 3, none⟩ = some (.slice An1 nl.length cn1) := hky.cell 3; have m4 : wz.cell? ⟨g8, 4, none⟩ = some (.slice Ak1 kl.length ck1) := hky.cell 4; obtain ⟨t0, t1, t2, t3, t4⟩ := HCL.out wz (HX8.out.l.trans (hSw.mono HX8.out.l.size)); (try dsimp only at t0 t1 t2 t3 t4); go_simp; try (with_reducible rfl)
          try simp only [Act.put, List.setIfInBounds_toArray, List.set_cons_zero, List.set_cons_succ, List.getElem_toArray, List.getElem_cons_succ, List.getElem_cons_zero]
          refine take_at (some 52) (i := 5) (v := ?_) rfl rfl (by kernel_rfl) (by kernel_rfl) (by kernel_rfl) (fun _ _ _ h => h) (Or.inl ⟨by kernel_rfl, ?_⟩) hHeld ?_
          rotate_left
          · intro wz hSw; have q4 : wz.cell? ⟨g0, 4, none⟩ = some (.slice (some ⟨b, o, none⟩) n c) := (HX8.out.b.below hSw HX8.out.b.lt).cell 4; have hky := HK8.out.below hSw HK8.out.lt; have m0 : wz.cell? ⟨g8, 0, none⟩ = some (.string yn) := hky.cell 0; have m1 : wz.cell? ⟨g8, 1, none⟩ = some (.int .i64 ya) := hky.cell 1; have m2 : wz.cell? ⟨g8, 2, none⟩ = some (.int .i64 yb) := hky.cell 2; have m3 : wz.cell? ⟨g8, 3, none⟩ = some (.slice An1 nl.length cn1) := hky.cell 3; have m4 : wz.cell? ⟨g8, 4, none⟩ = some (.slice Ak1 kl.length ck1) := hky.cell 4; obtain ⟨t0, t1, t2, t3, t4⟩ := HCL.out wz (HX8.out.l.trans (hSw.mono HX8.out.l.size)); (try dsimp only at t0 t1 t2 t3 t4); go_simp; try (with_reducible rfl)
          try simp only [Act.put, List.setIfInBounds_toArray, List.set_cons_zero, List.set_cons_succ, List.getElem_toArray, List.getElem_cons_succ, List.getElem_cons_zero]
          refine take_at (some 53) (i := 6) (v := ?_) rfl rfl (by kernel_rfl) (by kernel_rfl) (by kernel_rfl) (fun _ _ _ h => h) (Or.inl ⟨by kernel_rfl, ?_⟩) hHeld ?_
          rotate_left
          · intro wz hSw; have q4 : wz.cell? ⟨g0, 4, none⟩ = some (.slice (some ⟨b, o, none⟩) n c) := (HX8.out.b.below hSw HX8.out.b.lt).cell 4; have hky := HK8.out.below hSw HK8.out.lt; have m0 : wz.cell? ⟨g8, 0, none⟩ = some (.string yn) := hky.cell 0; have m1 : wz.cell? ⟨g8, 1, none⟩ = some (.int .i64 ya) := hky.cell 1; have m2 : wz.cell? ⟨g8, 2, none⟩ = some (.int .i64 yb) := hky.cell 2; have m3 : wz.cell? ⟨g8, 3, none⟩ = some (.slice An1 nl.length cn1) := hky.cell 3; have m4 : wz.cell? ⟨g8, 4, none⟩ = some (.slice Ak1 kl.length ck1) := hky.cell 4; obtain ⟨t0, t1, t2, t3, t4⟩ := HCL.out wz (HX8.out.l.trans (hSw.mono HX8.out.l.size)); (try dsimp only at t0 t1 t2 t3 t4); go_simp; try (with_reducible rfl)
          try simp only [Act.put, List.setIfInBounds_toArray, List.set_cons_zero, List.set_cons_succ, List.getElem_toArray, List.getElem_cons_succ, List.getElem_cons_zero]
          refine take_at (some 54) (i := 7) (v := ?_) rfl rfl (by kernel_rfl) (by kernel_rfl) (by kernel_rfl) (fun _ _ _ h => h) (Or.inl ⟨by kernel_rfl, ?_⟩) hHeld ?_
          rotate_left
          · intro wz hSw; have q4 : wz.cell? ⟨g0, 4, none⟩ = some (.slice (some ⟨b, o, none⟩) n c) := (HX8.out.b.below hSw HX8.out.b.lt).cell 4; have hky := HK8.out.below hSw HK8.out.lt; have m0 : wz.cell? ⟨g8, 0, none⟩ = some (.string yn) := hky.cell 0; have m1 : wz.cell? ⟨g8, 1, none⟩ = some (.int .i64 ya) := hky.cell 1; have m2 : wz.cell? ⟨g8, 2, none⟩ = some (.int .i64 yb) := hky.cell 2; have m3 : wz.cell? ⟨g8, 3, none⟩ = some (.slice An1 nl.length cn1) := hky.cell 3; have m4 : wz.cell? ⟨g8, 4, none⟩ = some (.slice Ak1 kl.length ck1) := hky.cell 4; obtain ⟨t0, t1, t2, t3, t4⟩ := HCL.out wz (HX8.out.l.trans (hSw.mono HX8.out.l.size)); (try dsimp only at t0 t1 t2 t3 t4); go_simp; try (with_reducible rfl)
          try simp only [Act.put, List.setIfInBounds_toArray, List.set_cons_zero, List.set_cons_succ, List.getElem_toArray, List.getElem_cons_succ, List.getElem_cons_zero]
          refine take_at (some 55) (i := 8) (v := ?_) rfl rfl (by kernel_rfl) (by kernel_rfl) (by kernel_rfl) (fun _ _ _ h => h) (Or.inl ⟨by kernel_rfl, ?_⟩) hHeld ?_
          rotate_left
          · intro wz hSw; have q4 : wz.cell? ⟨g0, 4, none⟩ = some (.slice (some ⟨b, o, none⟩) n c) := (HX8.out.b.below hSw HX8.out.b.lt).cell 4; have hky := HK8.out.below hSw HK8.out.lt; have m0 : wz.cell? ⟨g8, 0, none⟩ = some (.string yn) := hky.cell 0; have m1 : wz.cell? ⟨g8, 1, none⟩ = some (.int .i64 ya) := hky.cell 1; have m2 : wz.cell? ⟨g8, 2, none⟩ = some (.int .i64 yb) := hky.cell 2; have m3 : wz.cell? ⟨g8, 3, none⟩ = some (.slice An1 nl.length cn1) := hky.cell 3; have m4 : wz.cell? ⟨g8, 4, none⟩ = some (.slice Ak1 kl.length ck1) := hky.cell 4; obtain ⟨t0, t1, t2, t3, t4⟩ := HCL.out wz (HX8.out.l.trans (hSw.mono HX8.out.l.size)); (try dsimp only at t0 t1 t2 t3 t4); go_simp; try (with_reducible rfl)
          try simp only [Act.put, List.setIfInBounds_toArray, List.set_cons_zero, List.set_cons_succ, List.getElem_toArray, List.getElem_cons_succ, List.getElem_cons_zero]
          refine wpAnyH_ready (rs := [9]) (by kernel_rfl) (by simp) (AllReadyH.cons rfl (fun K hK => ?_) AllReadyH.nil)
          rw [if_pos (by kernel_rfl)]
          go_simp
          (with_reducible refine (HST.out _ (Below.refl _ _).drew).mono ?_)
          rintro e u9 ⟨rfl, hb⟩
          try dsimp only
          have hbl : Below u8.heap.size u8 u9 := (Below.refl _ _).drew.trans (hb.mono (Nat.le_refl _))
          refine hK.out _ _ hbl (fun hHeld => ?_)
          try simp only [Act.put, List.setIfInBounds_toArray, List.set_cons_zero, List.set_cons_succ, List.getElem_toArray, List.getElem_cons_succ, List.getElem_cons_zero]
          refine take_at (some 57) (i := 10) (v := ?_) rfl rfl (by kernel_rfl) (by kernel_rfl) (by kernel_rfl) (fun _ _ _ h => h) (Or.inl ⟨by kernel_rfl, ?_⟩) hHeld ?_
          rotate_left
          · intro wz hSw; go_simp; try (with_reducible rfl)
          try simp only [Act.put, List.setIfInBounds_toArray, List.set_cons_zero, List.set_cons_succ, List.getElem_toArray, List.getElem_cons_succ, List.getElem_cons_zero]
          refine take_at (some 58) (i := 11) (v := ?_) rfl rfl (by kernel_rfl) (by kernel_rfl) (by kernel_rfl) (fun _ _ _ h => h) (Or.inl ⟨by kernel_rfl, ?_⟩) hHeld ?_
          rotate_left
          · intro wz hSw; go_simp; try (with_reducible rfl)
          try simp only [Act.put, List.setIfInBounds_toArray, List.set_cons_zero, List.set_cons_succ, List.getElem_toArray, List.getElem_cons_succ, List.getElem_cons_zero]
          refine wpAnyH_done (by kernel_rfl) ?_ _
          clear hHeld
          have HK9 := Lib.hid (HK8.out.below hbl HK8.out.lt)
          have HX9 := Lib.hid (HX8.out.on hbl)
          have HR9 := Lib.hid (HR8.out.on hbl)
          have e4 : u9.cell? ⟨g0, 4, none⟩ = some (.slice (some ⟨b, o, none⟩) n c) := HX9.out.b.cell 4
          have hcl9 := HCL.out u9 HX9.out.l
          have t0 : u9.cell? ⟨b, o + i * 5, none⟩ = some (.string yn) := hcl9.1
          clear hcl9 hbl hb HX8 HK8 HR8 HST
          cases th
          all_goals
            go_wp2
            try clear t0 e4
            go_loopw [10] (fun v10 wr => ∃ (k : Nat), k ≤ kl.length ∧ v10 = .int .i64 (k : Int) ∧ Hid (Bx w g0 24 #[.int .i64 a0, .int .i64 a1, .int .i64 a2, .int .i64 a3, .slice (some ⟨b, o, none⟩) n c] wr) ∧ Hid (Bk wr g8 38 #[.string yn, .int .i64 ya, .int .i64 yb, .slice An1 nl.length cn1, .slice Ak1 kl.length ck1]) ∧ Hid (RT1 wr (⟨⟨yn, ya, yb, nl, kl⟩, An1, cn1, Ak1, ck1⟩ : Tv))) (fun v10 _ => kl.length - (intOf v10).toNat)
            case atStart => exact ⟨0, by omega, rfl, HX9, HK9, HR9⟩
            case round =>
              obtain ⟨k, hk, rfl, HXa, HKa, HRa⟩ := hrel
              have m4 : wr.cell? ⟨g8, 4, none⟩ = some (.slice Ak1 kl.length ck1) := HKa.out.cell 4
              by_cases hk1 : k < kl.length
              · have hk2 : (k : Int) < (kl.length : Int) := by omega
                obtain ⟨b2, o2, z, rfl, hz, hcz⟩ := HRa.out.k.at3 k hk1
                have hfz := HFK.out z (List.mem_of_getElem? hz)
                have HTO := Lib.hid (fun u (hu : Below wr.heap.size wr u) => token_ok (⟨⟨yn, ya, yb, nl, kl⟩, An1, cn1, some ⟨b2, o2, none⟩, ck1⟩ : Tv) z.name u (HRa.out.on hu))
                simp only [hfz, Option.getD_some, Option.isSome_some, tcs, kcs] at HTO
                have HCZ := Lib.hid hcz
                obtain ⟨zn, zs, zt⟩ := z
                dsimp only at HTO
                clear hz hfz hcz
                obtain ⟨wp, hwp⟩ : ∃ wp, wr = wp := ⟨_, rfl⟩
                subst wr
                go_upto_region 15 with fail
                try simp only [List.cons_append, List.nil_append]
                refine wp_region_held_drew (S := fun wz => Below wp.heap.size wp wz) (by kernel_rfl) ((Below.refl _ _).drew) (fun hHeld => ?_)
                refine take_at (some 78) (i := 0) (v := ?_) rfl rfl (by kernel_rfl) (by kernel_rfl) (by kernel_rfl) (fun _ _ _ h => h) (Or.inl ⟨by kernel_rfl, ?_⟩) hHeld ?_
                rotate_left
                · intro wz hSw; have hky := HKa.out.below hSw HKa.out.lt; have m0 : wz.cell? ⟨g8, 0, none⟩ = some (.string yn) := hky.cell 0; have m1 : wz.cell? ⟨g8, 1, none⟩ = some (.int .i64 ya) := hky.cell 1; have m2 : wz.cell? ⟨g8, 2, none⟩ = some (.int .i64 yb) := hky.cell 2; have m3 : wz.cell? ⟨g8, 3, none⟩ = some (.slice An1 nl.length cn1) := hky.cell 3; have m4 : wz.cell? ⟨g8, 4, none⟩ = some (.slice (some ⟨b2, o2, none⟩) kl.length ck1) := hky.cell 4; obtain ⟨t0, t1, t2⟩ := HCZ.out wz hSw; (try dsimp only at t0 t1 t2); go_simp; try (with_reducible rfl)
                try simp only [Act.put, List.setIfInBounds_toArray, List.set_cons_zero, List.set_cons_succ, List.getElem_toArray, List.getElem_cons_succ, List.getElem_cons_zero]
                refine take_at (some 79) (i := 1) (v := ?_) rfl rfl (by kernel_rfl) (by kernel_rfl) (by kernel_rfl) (fun _ _ _ h => h) (Or.inl ⟨by kernel_rfl, ?_⟩) hHeld ?_
                rotate_left
                · intro wz hSw; have hky := HKa.out.below hSw HKa.out.lt; have m0 : wz.cell? ⟨g8, 0, none⟩ = some (.string yn) := hky.cell 0; have m1 : wz.cell? ⟨g8, 1, none⟩ = some (.int .i64 ya) := hky.cell 1; have m2 : wz.cell? ⟨g8, 2, none⟩ = some (.int .i64 yb) := hky.cell 2; have m3 : wz.cell? ⟨g8, 3, none⟩ = some (.slice An1 nl.length cn1) := hky.cell 3; have m4 : wz.cell? ⟨g8, 4, none⟩ = some (.slice (some ⟨b2, o2, none⟩) kl.length ck1) := hky.cell 4; obtain ⟨t0, t1, t2⟩ := HCZ.out wz hSw; (try dsimp only at t0 t1 t2); go_simp; try (with_reducible rfl)
                try simp only [Act.put, List.setIfInBounds_toArray, List.set_cons_zero, List.set_cons_succ, List.getElem_toArray, List.getElem_cons_succ, List.getElem_cons_zero]
                refine take_at (some 80) (i := 2) (v := ?_) rfl rfl (by kernel_rfl) (by kernel_rfl) (by kernel_rfl) (fun _ _ _ h => h) (Or.inl ⟨by kernel_rfl, ?_⟩) hHeld ?_
                rotate_left
                · intro wz hSw; have hky := HKa.out.below hSw HKa.out.lt; have m0 : wz.cell? ⟨g8, 0, none⟩ = some (.string yn) := hky.cell 0; have m1 : wz.cell? ⟨g8, 1, none⟩ = some (.int .i64 ya) := hky.cell 1; have m2 : wz.cell? ⟨g8, 2, none⟩ = some (.int .i64 yb) := hky.cell 2; have m3 : wz.cell? ⟨g8, 3, none⟩ = some (.slice An1 nl.length cn1) := hky.cell 3; have m4 : wz.cell? ⟨g8, 4, none⟩ = some (.slice (some ⟨b2, o2, none⟩) kl.length ck1) := hky.cell 4; obtain ⟨t0, t1, t2⟩ := HCZ.out wz hSw; (try dsimp only at t0 t1 t2); go_simp; try (with_reducible rfl)
                try simp only [Act.put, List.setIfInBounds_toArray, List.set_cons_zero, List.set_cons_succ, List.getElem_toArray, List.getElem_cons_succ, List.getElem_cons_zero]
                refine take_at (some 81) (i := 3) (v := ?_) rfl rfl (by kernel_rfl) (by kernel_rfl) (by kernel_rfl) (fun _ _ _ h => h) (Or.inl ⟨by kernel_rfl, ?_⟩) hHeld ?_
                rotate_left
                · intro wz hSw; have hky := HKa.out.below hSw HKa.out.lt; have m0 : wz.cell? ⟨g8, 0, none⟩ = some (.string yn) := hky.cell 0; have m1 : wz.cell? ⟨g8, 1, none⟩ = some (.int .i64 ya) := hky.cell 1; have m2 : wz.cell? ⟨g8, 2, none⟩ = some (.int .i64 yb) := hky.cell 2; have m3 : wz.cell? ⟨g8, 3, none⟩ = some (.slice An1 nl.length cn1) := hky.cell 3; have m4 : wz.cell? ⟨g8, 4, none⟩ = some (.slice (some ⟨b2, o2, none⟩) kl.length ck1) := hky.cell 4; obtain ⟨t0, t1, t2⟩ := HCZ.out wz hSw; (try dsimp only at t0 t1 t2); go_simp; try (with_reducible rfl)
                try simp only [Act.put, List.setIfInBounds_toArray, List.set_cons_zero, List.set_cons_succ, List.getElem_toArray, List.getElem_cons_succ, List.getElem_cons_zero]
                refine take_at (some 82) (i := 4) (v := ?_) rfl rfl (by kernel_rfl) (by kernel_rfl) (by kernel_rfl) (fun _ _ _ h => h) (Or.inl ⟨by kernel_rfl, ?_⟩) hHeld ?_
                rotate_left
                · intro wz hSw; have hky := HKa.out.below hSw HKa.out.lt; have m0 : wz.cell? ⟨g8, 0, none⟩ = some (.string yn) := hky.cell 0; have m1 : wz.cell? ⟨g8, 1, none⟩ = some (.int .i64 ya) := hky.cell 1; have m2 : wz.cell? ⟨g8, 2, none⟩ = some (.int .i64 yb) := hky.cell 2; have m3 : wz.cell? ⟨g8, 3, none⟩ = some (.slice An1 nl.length cn1) := hky.cell 3; have m4 : wz.cell? ⟨g8, 4, none⟩ = some (.slice (some ⟨b2, o2, none⟩) kl.length ck1) := hky.cell 4; obtain ⟨t0, t1, t2⟩ := HCZ.out wz hSw; (try dsimp only at t0 t1 t2); go_simp; try (with_reducible rfl)
                try simp only [Act.put, List.setIfInBounds_toArray, List.set_cons_zero, List.set_cons_succ, List.getElem_toArray, List.getElem_cons_succ, List.getElem_cons_zero]
                refine take_at (some 83) (i := 5) (v := ?_) rfl rfl (by kernel_rfl) (by kernel_rfl) (by kernel_rfl) (fun _ _ _ h => h) (Or.inl ⟨by kernel_rfl, ?_⟩) hHeld ?_
                rotate_left
                · intro wz hSw; have hky := HKa.out.below hSw HKa.out.lt; have m0 : wz.cell? ⟨g8, 0, none⟩ = some (.string yn) := hky.cell 0; have m1 : wz.cell? ⟨g8, 1, none⟩ = some (.int .i64 ya) := hky.cell 1; have m2 : wz.cell? ⟨g8, 2, none⟩ = some (.int .i64 yb) := hky.cell 2; have m3 : wz.cell? ⟨g8, 3, none⟩ = some (.slice An1 nl.length cn1) := hky.cell 3; have m4 : wz.cell? ⟨g8, 4, none⟩ = some (.slice (some ⟨b2, o2, none⟩) kl.length ck1) := hky.cell 4; obtain ⟨t0, t1, t2⟩ := HCZ.out wz hSw; (try dsimp only at t0 t1 t2); go_simp; try (with_reducible rfl)
                try simp only [Act.put, List.setIfInBounds_toArray, List.set_cons_zero, List.set_cons_succ, List.getElem_toArray, List.getElem_cons_succ, List.getElem_cons_zero]
                refine take_at (some 84) (i := 6) (v := ?_) rfl rfl (by kernel_rfl) (by kernel_rfl) (by kernel_rfl) (fun _ _ _ h => h) (Or.inl ⟨by kernel_rfl, ?_⟩) hHeld ?_
                rotate_left
                · intro wz hSw; have hky := HKa.out.below hSw HKa.out.lt; have m0 : wz.cell? ⟨g8, 0, none⟩ = some (.string yn) := hky.cell 0; have m1 : wz.cell? ⟨g8, 1, none⟩ = some (.int .i64 ya) := hky.cell 1; have m2 : wz.cell? ⟨g8, 2, none⟩ = some (.int .i64 yb) := hky.cell 2; have m3 : wz.cell? ⟨g8, 3, none⟩ = some (.slice An1 nl.length cn1) := hky.cell 3; have m4 : wz.cell? ⟨g8, 4, none⟩ = some (.slice (some ⟨b2, o2, none⟩) kl.length ck1) := hky.cell 4; obtain ⟨t0, t1, t2⟩ := HCZ.out wz hSw; (try dsimp only at t0 t1 t2); go_simp; try (with_reducible rfl)
                try simp only [Act.put, List.setIfInBounds_toArray, List.set_cons_zero, List.set_cons_succ, List.getElem_toArray, List.getElem_cons_succ, List.getElem_cons_zero]
                refine wpAnyH_ready (rs := [7, 11]) (by kernel_rfl) (by simp) (AllReadyH.cons rfl (fun K hK => ?_) (AllReadyH.cons rfl (fun K hK => ?_) AllReadyH.nil))
                · rw [if_pos (by kernel_rfl)]
                  go_simp
                  (with_reducible refine (HTO.out _ ((Below.refl wp.heap.size wp).drew)).mono ?_)
                  rintro e u1 ⟨rfl, hb⟩
                  try dsimp only
                  have hbl : Below wp.heap.size wp u1 := (Below.refl _ _).drew.trans (hb.mono (Nat.le_refl _))
                  refine hK.out _ _ hbl (fun hHeld => ?_)
                  try simp only [Act.put, List.setIfInBounds_toArray, List.set_cons_zero, List.set_cons_succ, List.getElem_toArray, List.getElem_cons_succ, List.getElem_cons_zero]
                  refine take_at (some 77) (i := 8) (v := ?_) rfl rfl (by kernel_rfl) (by kernel_rfl) (by kernel_rfl) (fun _ _ _ h => h) (Or.inl ⟨by kernel_rfl, ?_⟩) hHeld ?_
                  rotate_left
                  · intro wz hSw; go_simp; try (with_reducible rfl)
                  try simp only [Act.put, List.setIfInBounds_toArray, List.set_cons_zero, List.set_cons_succ, List.getElem_toArray, List.getElem_cons_succ, List.getElem_cons_zero]
                  refine take_at (some 86) (i := 9) (v := ?_) rfl rfl (by kernel_rfl) (by kernel_rfl) (by kernel_rfl) (fun _ _ _ h => h) (Or.inl ⟨by kernel_rfl, ?_⟩) hHeld ?_
                  rotate_left
                  · intro wz hSw; go_simp; try (with_reducible rfl)
                  try simp only [Act.put, List.setIfInBounds_toArray, List.set_cons_zero, List.set_cons_succ, List.getElem_toArray, List.getElem_cons_succ, List.getElem_cons_zero]
                  refine take_at (some 87) (i := 10) (v := ?_) rfl rfl (by kernel_rfl) (by kernel_rfl) (by kernel_rfl) (fun _ _ _ h => h) (Or.inl ⟨by kernel_rfl, ?_⟩) hHeld ?_
                  rotate_left
                  · intro wz hSw; go_simp; try (with_reducible rfl)
                  try simp only [Act.put, List.setIfInBounds_toArray, List.set_cons_zero, List.set_cons_succ, List.getElem_toArray, List.getElem_cons_succ, List.getElem_cons_zero]
                  refine wpAnyH_ready (rs := [11]) (by kernel_rfl) (by simp) (AllReadyH.cons rfl (fun K hK => ?_) AllReadyH.nil)
                  rw [if_pos (by kernel_rfl)]
                  go_simp
                  refine hK.out _ _ (hbl.alloc hbl.size _) (fun hHeld => ?_)
                  try simp only [Act.put, List.setIfInBounds_toArray, List.set_cons_zero, List.set_cons_succ, List.getElem_toArray, List.getElem_cons_succ, List.getElem_cons_zero]
                  refine wpAnyH_ready (rs := [12]) (by kernel_rfl) (by simp) (AllReadyH.cons rfl (fun K hK => ?_) AllReadyH.nil)
                  rw [if_pos (by kernel_rfl)]
                  go_simp
                  refine hK.out _ _ (hbl.alloc hbl.size _) (fun hHeld => ?_)
                  try simp only [Act.put, List.setIfInBounds_toArray, List.set_cons_zero, List.set_cons_succ, List.getElem_toArray, List.getElem_cons_succ, List.getElem_cons_zero]
                  refine wpAnyH_ready (rs := [13]) (by kernel_rfl) (by simp) (AllReadyH.cons rfl (fun K hK => ?_) AllReadyH.nil)
                  rw [if_pos (by kernel_rfl)]
                  go_simp
                  refine hK.out _ _ (hbl.alloc hbl.size _) (fun hHeld => ?_)
                  try simp only [Act.put, List.setIfInBounds_toArray, List.set_cons_zero, List.set_cons_succ, List.getElem_toArray, List.getElem_cons_succ, List.getElem_cons_zero]
                  refine wpAnyH_done (by kernel_rfl) ?_ _
                  refine gen_qC (fun u => Bk u u1.heap.size 44 #[.string zn, .string zs, .int .i64 zt] ∧ (Bx w g0 24 #[.int .i64 a0, .int .i64 a1, .int .i64 a2, .int .i64 a3, .slice (some ⟨b, o, none⟩) n c] u ∧ Bk u g8 38 #[.string yn, .int .i64 ya, .int .i64 yb, .slice An1 nl.length cn1, .slice (some ⟨b2, o2, none⟩) kl.length ck1] ∧ RT1 u (⟨⟨yn, ya, yb, nl, kl⟩, An1, cn1, some ⟨b2, o2, none⟩, ck1⟩ : Tv) ∧ Bw wp u)) ⟨Bk.new u1 _ _, (HXa.out.on hbl).alloc1 _, (HKa.out.below hbl HKa.out.lt).alloc _, HRa.out.on (hbl.alloc hbl.size _), hbl.alloc hbl.size _⟩ (fun u8t h8t => ?_)
                  obtain ⟨g8t, hg8t⟩ : ∃ g, u1.heap.size = g := ⟨_, rfl⟩
                  rw [hg8t] at h8t ⊢
                  clear hHeld hg8t
                  clear hbl
                  obtain ⟨hkt, hxb, hkb, hrb, hbw⟩ := h8t
                  have HKt := Lib.hid hkt
                  have HXb := Lib.hid hxb
                  have HKb := Lib.hid hkb
                  have HRb := Lib.hid hrb
                  have HBWp := Lib.hid (show Below wp.heap.size wp u8t from hbw)
                  clear hkt hxb hkb hrb hbw
                  go_upto_region 16 with fail
                  try simp only [List.cons_append, List.nil_append]
                  refine wp_region_held_drew (S := fun wz => Below u8t.heap.size u8t wz) (by kernel_rfl) ((Below.refl _ _).drew) (fun hHeld => ?_)
                  refine take_at (some 88) (i := 0) (v := ?_) rfl rfl (by kernel_rfl) (by kernel_rfl) (by kernel_rfl) (fun _ _ _ h => h) (Or.inl ⟨by kernel_rfl, ?_⟩) hHeld ?_
                  rotate_left
                  · intro wz hSw; go_simp; try (with_reducible rfl)
                  try simp only [Act.put, List.setIfInBounds_toArray, List.set_cons_zero, List.set_cons_succ, List.getElem_toArray, List.getElem_cons_succ, List.getElem_cons_zero]
                  refine take_at (some 89) (i := 1) (v := ?_) rfl rfl (by kernel_rfl) (by kernel_rfl) (by kernel_rfl) (fun _ _ _ h => h) (Or.inl ⟨by kernel_rfl, ?_⟩) hHeld ?_
                  rotate_left
                  · intro wz hSw; go_simp; try (with_reducible rfl)
                  try simp only [Act.put, List.setIfInBounds_toArray, List.set_cons_zero, List.set_cons_succ, List.getElem_toArray, List.getElem_cons_succ, List.getElem_cons_zero]
                  refine take_at (some 90) (i := 2) (v := ?_) rfl rfl (by kernel_rfl) (by kernel_rfl) (by kernel_rfl) (fun _ _ _ h => h) (Or.inl ⟨by kernel_rfl, ?_⟩) hHeld ?_
                  rotate_left
                  · intro wz hSw; go_simp; try (with_reducible rfl)
                  try simp only [Act.put, List.setIfInBounds_toArray, List.set_cons_zero, List.set_cons_succ, List.getElem_toArray, List.getElem_cons_succ, List.getElem_cons_zero]
                  refine take_at (some 91) (i := 3) (v := ?_) rfl rfl (by kernel_rfl) (by kernel_rfl) (by kernel_rfl) (fun _ _ _ h => h) (Or.inl ⟨by kernel_rfl, ?_⟩) hHeld ?_
                  rotate_left
                  · intro wz hSw; have hkt := HKt.out.below hSw HKt.out.lt; have k0 : wz.cell? ⟨g8t, 0, none⟩ = some (.string zn) := hkt.cell 0; have k1 : wz.cell? ⟨g8t, 1, none⟩ = some (.string zs) := hkt.cell 1; have k2 : wz.cell? ⟨g8t, 2, none⟩ = some (.int .i64 zt) := hkt.cell 2; have m4 : wz.cell? ⟨g8, 4, none⟩ = some (.slice (some ⟨b2, o2, none⟩) kl.length ck1) := (HKb.out.below hSw HKb.out.lt).cell 4; obtain ⟨t0, t1, t2⟩ := HCZ.out wz (HBWp.out.trans (hSw.mono HBWp.out.size)); (try dsimp only at t0 t1 t2); go_simp; try (with_reducible rfl)
                  try simp only [Act.put, List.setIfInBounds_toArray, List.set_cons_zero, List.set_cons_succ, List.getElem_toArray, List.getElem_cons_succ, List.getElem_cons_zero]
                  refine take_at (some 92) (i := 4) (v := ?_) rfl rfl (by kernel_rfl) (by kernel_rfl) (by kernel_rfl) (fun _ _ _ h => h) (Or.inl ⟨by kernel_rfl, ?_⟩) hHeld ?_
                  rotate_left
                  · intro wz hSw; have hkt := HKt.out.below hSw HKt.out.lt; have k0 : wz.cell? ⟨g8t, 0, none⟩ = some (.string zn) := hkt.cell 0; have k1 : wz.cell? ⟨g8t, 1, none⟩ = some (.string zs) := hkt.cell 1; have k2 : wz.cell? ⟨g8t, 2, none⟩ = some (.int .i64 zt) := hkt.cell 2; have m4 : wz.cell? ⟨g8, 4, none⟩ = some (.slice (some ⟨b2, o2, none⟩) kl.length ck1) := (HKb.out.below hSw HKb.out.lt).cell 4; obtain ⟨t0, t1, t2⟩ := HCZ.out wz (HBWp.out.trans (hSw.mono HBWp.out.size)); (try dsimp only at t0 t1 t2); go_simp; try (with_reducible rfl)
                  try simp only [Act.put, List.setIfInBounds_toArray, List.set_cons_zero, List.set_cons_succ, List.getElem_toArray, List.getElem_cons_succ, List.getElem_cons_zero]
                  refine take_at (some 93) (i := 5) (v := ?_) rfl rfl (by kernel_rfl) (by kernel_rfl) (by kernel_rfl) (fun _ _ _ h => h) (Or.inl ⟨by kernel_rfl, ?_⟩) hHeld ?_
                  rotate_left
                  · intro wz hSw; have hkt := HKt.out.below hSw HKt.out.lt; have k0 : wz.cell? ⟨g8t, 0, none⟩ = some (.string zn) := hkt.cell 0; have k1 : wz.cell? ⟨g8t, 1, none⟩ = some (.string zs) := hkt.cell 1; have k2 : wz.cell? ⟨g8t, 2, none⟩ = some (.int .i64 zt) := hkt.cell 2; have m4 : wz.cell? ⟨g8, 4, none⟩ = some (.slice (some ⟨b2, o2, none⟩) kl.length ck1) := (HKb.out.below hSw HKb.out.lt).cell 4; obtain ⟨t0, t1, t2⟩ := HCZ.out wz (HBWp.out.trans (hSw.mono HBWp.out.size)); (try dsimp only at t0 t1 t2); go_simp; try (with_reducible rfl)
                  try simp only [Act.put, List.setIfInBounds_toArray, List.set_cons_zero, List.set_cons_succ, List.getElem_toArray, List.getElem_cons_succ, List.getElem_cons_zero]
                  refine take_at (some 94) (i := 6) (v := ?_) rfl rfl (by kernel_rfl) (by kernel_rfl) (by kernel_rfl) (fun _ _ _ h => h) (Or.inl ⟨by kernel_rfl, ?_⟩) hHeld ?_
                  rotate_left
                  · intro wz hSw; have hkt := HKt.out.below hSw HKt.out.lt; have k0 : wz.cell? ⟨g8t, 0, none⟩ = some (.string zn) := hkt.cell 0; have k1 : wz.cell? ⟨g8t, 1, none⟩ = some (.string zs) := hkt.cell 1; have k2 : wz.cell? ⟨g8t, 2, none⟩ = some (.int .i64 zt) := hkt.cell 2; have m4 : wz.cell? ⟨g8, 4, none⟩ = some (.slice (some ⟨b2, o2, none⟩) kl.length ck1) := (HKb.out.below hSw HKb.out.lt).cell 4; obtain ⟨t0, t1, t2⟩ := HCZ.out wz (HBWp.out.trans (hSw.mono HBWp.out.size)); (try dsimp only at t0 t1 t2); go_simp; try (with_reducible rfl)
                  try simp only [Act.put, List.setIfInBounds_toArray, List.set_cons_zero, List.set_cons_succ, List.getElem_toArray, List.getElem_cons_succ, List.getElem_cons_zero]
                  refine take_at (some 95) (i := 7) (v := ?_) rfl rfl (by kernel_rfl) (by kernel_rfl) (by kernel_rfl) (fun _ _ _ h => h) (Or.inl ⟨by kernel_rfl, ?_⟩) hHeld ?_
                  rotate_left
                  · intro wz hSw; have hkt := HKt.out.below hSw HKt.out.lt; have k0 : wz.cell? ⟨g8t, 0, none⟩ = some (.string zn) := hkt.cell 0; have k1 : wz.cell? ⟨g8t, 1, none⟩ = some (.string zs) := hkt.cell 1; have k2 : wz.cell? ⟨g8t, 2, none⟩ = some (.int .i64 zt) := hkt.cell 2; have m4 : wz.cell? ⟨g8, 4, none⟩ = some (.slice (some ⟨b2, o2, none⟩) kl.length ck1) := (HKb.out.below hSw HKb.out.lt).cell 4; obtain ⟨t0, t1, t2⟩ := HCZ.out wz (HBWp.out.trans (hSw.mono HBWp.out.size)); (try dsimp only at t0 t1 t2); go_simp; try (with_reducible rfl)
                  try simp only [Act.put, List.setIfInBounds_toArray, List.set_cons_zero, List.set_cons_succ, List.getElem_toArray, List.getElem_cons_succ, List.getElem_cons_zero]
                  refine take_at (some 96) (i := 8) (v := ?_) rfl rfl (by kernel_rfl) (by kernel_rfl) (by kernel_rfl) (fun _ _ _ h => h) (Or.inl ⟨by kernel_rfl, ?_⟩) hHeld ?_
                  rotate_left
                  · intro wz hSw; have hkt := HKt.out.below hSw HKt.out.lt; have k0 : wz.cell? ⟨g8t, 0, none⟩ = some (.string zn) := hkt.cell 0; have k1 : wz.cell? ⟨g8t, 1, none⟩ = some (.string zs) := hkt.cell 1; have k2 : wz.cell? ⟨g8t, 2, none⟩ = some (.int .i64 zt) := hkt.cell 2; have m4 : wz.cell? ⟨g8, 4, none⟩ = some (.slice (some ⟨b2, o2, none⟩) kl.length ck1) := (HKb.out.below hSw HKb.out.lt).cell 4; obtain ⟨t0, t1, t2⟩ := HCZ.out wz (HBWp.out.trans (hSw.mono HBWp.out.size)); (try dsimp only at t0 t1 t2); go_simp; try (with_reducible rfl)
                  try simp only [Act.put, List.setIfInBounds_toArray, List.set_cons_zero, List.set_cons_succ, List.getElem_toArray, List.getElem_cons_succ, List.getElem_cons_zero]
                  refine take_at (some 97) (i := 9) rfl rfl (by kernel_rfl) (by kernel_rfl) (by kernel_rfl) (fun _ _ _ h => h) (yif_nek (by kernel_rfl) (.tmp 91) (.tmp 96) _ rfl ⟨zn, zs, zt⟩ rfl rfl) hHeld ?_
                  try simp only [Act.put, List.setIfInBounds_toArray, List.set_cons_zero, List.set_cons_succ, List.getElem_toArray, List.getElem_cons_succ, List.getElem_cons_zero]
                  refine take_at (some 98) (i := 10) (v := ?_) rfl rfl (by kernel_rfl) (by kernel_rfl) (by kernel_rfl) (fun _ _ _ h => h) (Or.inl ⟨by kernel_rfl, ?_⟩) hHeld ?_
                  rotate_left
                  · intro wz hSw; go_simp; try (with_reducible rfl)
                  try simp only [Act.put, List.setIfInBounds_toArray, List.set_cons_zero, List.set_cons_succ, List.getElem_toArray, List.getElem_cons_succ, List.getElem_cons_zero]
                  refine wpAnyH_done (by kernel_rfl) ?_ _
                  clear hHeld
                  go_wp2
                  go_roundw
                  case rel => exact ⟨k + 1, by omega, by go_num, Lib.hid HXb.out.drew, Lib.hid HKb.out.drew, Lib.hid (HRb.out.on (Below.refl _ _).drew)⟩
                  case measure => simp [intOf]; omega
                · rw [if_pos (by kernel_rfl)]
                  go_simp
                  refine hK.out _ _ ((Below.refl _ _).drew.alloc (Nat.le_refl _) _) (fun hHeld => ?_)
                  try simp only [Act.put, List.setIfInBounds_toArray, List.set_cons_zero, List.set_cons_succ, List.getElem_toArray, List.getElem_cons_succ, List.getElem_cons_zero]
                  refine gen_anyC (fun u => Below wp.heap.size wp u ∧ ∃ z0 z1 z2, Bk u wp.heap.size 44 #[z0, z1, z2]) ⟨hHeld, _, _, _, Bk.new wp.drew _ _⟩ (fun uz hz => ?_)
                  obtain ⟨hzb, z0, z1, z2, hzk⟩ := hz
                  clear hHeld
                  refine wpAnyH_ready (rs := [7]) (by kernel_rfl) (by simp) (AllReadyH.cons rfl (fun K hK => ?_) AllReadyH.nil)
                  rw [if_pos (by kernel_rfl)]
                  go_simp
                  (with_reducible refine (HTO.out _ ((Below.refl wp.heap.size wp).trans (hzb.mono (Below.refl wp.heap.size wp).size))).mono ?_)
                  rintro e u1 ⟨rfl, hb⟩
                  try dsimp only
                  have hbl : Below wp.heap.size wp u1 := hzb.trans (hb.mono hzb.size)
                  have hzk1 := hzk.below hb hzk.lt
                  refine hK.out _ _ hbl (fun hHeld => ?_)
                  try simp only [Act.put, List.setIfInBounds_toArray, List.set_cons_zero, List.set_cons_succ, List.getElem_toArray, List.getElem_cons_succ, List.getElem_cons_zero]
                  refine take_at (some 77) (i := 8) (v := ?_) rfl rfl (by kernel_rfl) (by kernel_rfl) (by kernel_rfl) (fun _ _ _ h => h) (Or.inl ⟨by kernel_rfl, ?_⟩) hHeld ?_
                  rotate_left
                  · intro wz hSw; go_simp; try (with_reducible rfl)
                  try simp only [Act.put, List.setIfInBounds_toArray, List.set_cons_zero, List.set_cons_succ, List.getElem_toArray, List.getElem_cons_succ, List.getElem_cons_zero]
                  refine take_at (some 86) (i := 9) (v := ?_) rfl rfl (by kernel_rfl) (by kernel_rfl) (by kernel_rfl) (fun _ _ _ h => h) (Or.inl ⟨by kernel_rfl, ?_⟩) hHeld ?_
                  rotate_left
                  · intro wz hSw; go_simp; try (with_reducible rfl)
                  try simp only [Act.put, List.setIfInBounds_toArray, List.set_cons_zero, List.set_cons_succ, List.getElem_toArray, List.getElem_cons_succ, List.getElem_cons_zero]
                  refine take_at (some 87) (i := 10) (v := ?_) rfl rfl (by kernel_rfl) (by kernel_rfl) (by kernel_rfl) (fun _ _ _ h => h) (Or.inl ⟨by kernel_rfl, ?_⟩) hHeld ?_
                  rotate_left
                  · intro wz hSw; go_simp; try (with_reducible rfl)
                  try simp only [Act.put, List.setIfInBounds_toArray, List.set_cons_zero, List.set_cons_succ, List.getElem_toArray, List.getElem_cons_succ, List.getElem_cons_zero]
                  have zc0 : u1.cell? ⟨wp.heap.size, 0, none⟩ = some z0 := hzk1.cell 0
                  have zf0 := hzk1.frozen 0
                  have zc1 : u1.cell? ⟨wp.heap.size, 1, none⟩ = some z1 := hzk1.cell 1
                  have zf1 := hzk1.frozen 1
                  have zc2 : u1.cell? ⟨wp.heap.size, 2, none⟩ = some z2 := hzk1.cell 2
                  have zf2 := hzk1.frozen 2
                  refine wpAnyH_ready (rs := [12]) (by kernel_rfl) (by simp) (AllReadyH.cons rfl (fun K hK => ?_) AllReadyH.nil)
                  rw [if_pos (by kernel_rfl)]
                  go_simp
                  refine hK.out _ _ (((hbl.setCell (p := ⟨wp.heap.size, 0, none⟩) (Nat.le_refl _) _).setCell (p := ⟨wp.heap.size, 1, none⟩) (Nat.le_refl _) _).setCell (p := ⟨wp.heap.size, 2, none⟩) (Nat.le_refl _) _) (fun hHeld => ?_)
                  try simp only [Act.put, List.setIfInBounds_toArray, List.set_cons_zero, List.set_cons_succ, List.getElem_toArray, List.getElem_cons_succ, List.getElem_cons_zero]
                  refine wpAnyH_ready (rs := [13]) (by kernel_rfl) (by simp) (AllReadyH.cons rfl (fun K hK => ?_) AllReadyH.nil)
                  rw [if_pos (by kernel_rfl)]
                  go_simp
                  refine hK.out _ _ (((hbl.setCell (p := ⟨wp.heap.size, 0, none⟩) (Nat.le_refl _) _).setCell (p := ⟨wp.heap.size, 1, none⟩) (Nat.le_refl _) _).setCell (p := ⟨wp.heap.size, 2, none⟩) (Nat.le_refl _) _) (fun hHeld => ?_)
                  try simp only [Act.put, List.setIfInBounds_toArray, List.set_cons_zero, List.set_cons_succ, List.getElem_toArray, List.getElem_cons_succ, List.getElem_cons_zero]
                  refine wpAnyH_done (by kernel_rfl) ?_ _
                  have hset := (((hzk1.set 0 (.string zn)).set 1 (.string zs)).set 2 (.int .i64 zt))
                  simp only [List.setIfInBounds_toArray, List.set_cons_zero, List.set_cons_succ] at hset
                  refine gen_qC (fun u => Bk u wp.heap.size 44 #[.string zn, .string zs, .int .i64 zt] ∧ (Bx w g0 24 #[.int .i64 a0, .int .i64 a1, .int .i64 a2, .int .i64 a3, .slice (some ⟨b, o, none⟩) n c] u ∧ Bk u g8 38 #[.string yn, .int .i64 ya, .int .i64 yb, .slice An1 nl.length cn1, .slice (some ⟨b2, o2, none⟩) kl.length ck1] ∧ RT1 u (⟨⟨yn, ya, yb, nl, kl⟩, An1, cn1, some ⟨b2, o2, none⟩, ck1⟩ : Tv) ∧ Bw wp u)) ⟨hset, HXa.out.on (((hbl.setCell (p := ⟨wp.heap.size, 0, none⟩) (Nat.le_refl _) _).setCell (p := ⟨wp.heap.size, 1, none⟩) (Nat.le_refl _) _).setCell (p := ⟨wp.heap.size, 2, none⟩) (Nat.le_refl _) _), HKa.out.below (((hbl.setCell (p := ⟨wp.heap.size, 0, none⟩) (Nat.le_refl _) _).setCell (p := ⟨wp.heap.size, 1, none⟩) (Nat.le_refl _) _).setCell (p := ⟨wp.heap.size, 2, none⟩) (Nat.le_refl _) _) HKa.out.lt, HRa.out.on (((hbl.setCell (p := ⟨wp.heap.size, 0, none⟩) (Nat.le_refl _) _).setCell (p := ⟨wp.heap.size, 1, none⟩) (Nat.le_refl _) _).setCell (p := ⟨wp.heap.size, 2, none⟩) (Nat.le_refl _) _), (((hbl.setCell (p := ⟨wp.heap.size, 0, none⟩) (Nat.le_refl _) _).setCell (p := ⟨wp.heap.size, 1, none⟩) (Nat.le_refl _) _).setCell (p := ⟨wp.heap.size, 2, none⟩) (Nat.le_refl _) _)⟩ (fun u8t h8t => ?_)
                  obtain ⟨g8t, hg8t⟩ : ∃ g, wp.heap.size = g := ⟨_, rfl⟩
                  rw [hg8t] at h8t ⊢
                  clear hHeld hg8t
                  clear hbl hzk hzk1 hset zc0 zf0 zc1 zf1 zc2 zf2
                  obtain ⟨hkt, hxb, hkb, hrb, hbw⟩ := h8t
                  have HKt := Lib.hid hkt
                  have HXb := Lib.hid hxb
                  have HKb := Lib.hid hkb
                  have HRb := Lib.hid hrb
                  have HBWp := Lib.hid (show Below wp.heap.size wp u8t from hbw)
                  clear hkt hxb hkb hrb hbw
                  go_upto_region 16 with fail
                  try simp only [List.cons_append, List.nil_append]
                  refine wp_region_held_drew (S := fun wz => Below u8t.heap.size u8t wz) (by kernel_rfl) ((Below.refl _ _).drew) (fun hHeld => ?_)
                  refine take_at (some 88) (i := 0) (v := ?_) rfl rfl (by kernel_rfl) (by kernel_rfl) (by kernel_rfl) (fun _ _ _ h => h) (Or.inl ⟨by kernel_rfl, ?_⟩) hHeld ?_
                  rotate_left
                  · intro wz hSw; go_simp; try (with_reducible rfl)
                  try simp only [Act.put, List.setIfInBounds_toArray, List.set_cons_zero, List.set_cons_succ, List.getElem_toArray, List.getElem_cons_succ, List.getElem_cons_zero]
                  refine take_at (some 89) (i := 1) (v := ?_) rfl rfl (by kernel_rfl) (by kernel_rfl) (by kernel_rfl) (fun _ _ _ h => h) (Or.inl ⟨by kernel_rfl, ?_⟩) hHeld ?_
                  rotate_left
                  · intro wz hSw; go_simp; try (with_reducible rfl)
                  try simp only [Act.put, List.setIfInBounds_toArray, List.set_cons_zero, List.set_cons_succ, List.getElem_toArray, List.getElem_cons_succ, List.getElem_cons_zero]
                  refine take_at (some 90) (i := 2) (v := ?_) rfl rfl (by kernel_rfl) (by kernel_rfl) (by kernel_rfl) (fun _ _ _ h => h) (Or.inl ⟨by kernel_rfl, ?_⟩) hHeld ?_
                  rotate_left
                  · intro wz hSw; go_simp; try (with_reducible rfl)
                  try simp only [Act.put, List.setIfInBounds_toArray, List.set_cons_zero, List.set_cons_succ, List.getElem_toArray, List.getElem_cons_succ, List.getElem_cons_zero]
                  refine take_at (some 91) (i := 3) (v := ?_) rfl rfl (by kernel_rfl) (by kernel_rfl) (by kernel_rfl) (fun _ _ _ h => h) (Or.inl ⟨by kernel_rfl, ?_⟩) hHeld ?_
                  rotate_left
                  · intro wz hSw; have hkt := HKt.out.below hSw HKt.out.lt; have k0 : wz.cell? ⟨g8t, 0, none⟩ = some (.string zn) := hkt.cell 0; have k1 : wz.cell? ⟨g8t, 1, none⟩ = some (.string zs) := hkt.cell 1; have k2 : wz.cell? ⟨g8t, 2, none⟩ = some (.int .i64 zt) := hkt.cell 2; have m4 : wz.cell? ⟨g8, 4, none⟩ = some (.slice (some ⟨b2, o2, none⟩) kl.length ck1) := (HKb.out.below hSw HKb.out.lt).cell 4; obtain ⟨t0, t1, t2⟩ := HCZ.out wz (HBWp.out.trans (hSw.mono HBWp.out.size)); (try dsimp only at t0 t1 t2); go_simp; try (with_reducible rfl)
                  try simp only [Act.put, List.setIfInBounds_toArray, List.set_cons_zero, List.set_cons_succ, List.getElem_toArray, List.getElem_cons_succ, List.getElem_cons_zero]
                  refine take_at (some 92) (i := 4) (v := ?_) rfl rfl (by kernel_rfl) (by kernel_rfl) (by kernel_rfl) (fun _ _ _ h => h) (Or.inl ⟨by kernel_rfl, ?_⟩) hHeld ?_
                  rotate_left
                  · intro wz hSw; have hkt := HKt.out.below hSw HKt.out.lt; have k0 : wz.cell? ⟨g8t, 0, none⟩ = some (.string zn) := hkt.cell 0; have k1 : wz.cell? ⟨g8t, 1, none⟩ = some (.string zs) := hkt.cell 1; have k2 : wz.cell? ⟨g8t, 2, none⟩ = some (.int .i64 zt) := hkt.cell 2; have m4 : wz.cell? ⟨g8, 4, none⟩ = some (.slice (some ⟨b2, o2, none⟩) kl.length ck1) := (HKb.out.below hSw HKb.out.lt).cell 4; obtain ⟨t0, t1, t2⟩ := HCZ.out wz (HBWp.out.trans (hSw.mono HBWp.out.size)); (try dsimp only at t0 t1 t2); go_simp; try (with_reducible rfl)
                  try simp only [Act.put, List.setIfInBounds_toArray, List.set_cons_zero, List.set_cons_succ, List.getElem_toArray, List.getElem_cons_succ, List.getElem_cons_zero]
                  refine take_at (some 93) (i := 5) (v := ?_) rfl rfl (by kernel_rfl) (by kernel_rfl) (by kernel_rfl) (fun _ _ _ h => h) (Or.inl ⟨by kernel_rfl, ?_⟩) hHeld ?_
                  rotate_left
                  · intro wz hSw; have hkt := HKt.out.below hSw HKt.out.lt; have k0 : wz.cell? ⟨g8t, 0, none⟩ = some (.string zn) := hkt.cell 0; have k1 : wz.cell? ⟨g8t, 1, none⟩ = some (.string zs) := hkt.cell 1; have k2 : wz.cell? ⟨g8t, 2, none⟩ = some (.int .i64 zt) := hkt.cell 2; have m4 : wz.cell? ⟨g8, 4, none⟩ = some (.slice (some ⟨b2, o2, none⟩) kl.length ck1) := (HKb.out.below hSw HKb.out.lt).cell 4; obtain ⟨t0, t1, t2⟩ := HCZ.out wz (HBWp.out.trans (hSw.mono HBWp.out.size)); (try dsimp only at t0 t1 t2); go_simp; try (with_reducible rfl)
                  try simp only [Act.put, List.setIfInBounds_toArray, List.set_cons_zero, List.set_cons_succ, List.getElem_toArray, List.getElem_cons_succ, List.getElem_cons_zero]
                  refine take_at (some 94) (i := 6) (v := ?_) rfl rfl (by kernel_rfl) (by kernel_rfl) (by kernel_rfl) (fun _ _ _ h => h) (Or.inl ⟨by kernel_rfl, ?_⟩) hHeld ?_
                  rotate_left
                  · intro wz hSw; have hkt := HKt.out.below hSw HKt.out.lt; have k0 : wz.cell? ⟨g8t, 0, none⟩ = some (.string zn) := hkt.cell 0; have k1 : wz.cell? ⟨g8t, 1, none⟩ = some (.string zs) := hkt.cell 1; have k2 : wz.cell? ⟨g8t, 2, none⟩ = some (.int .i64 zt) := hkt.cell 2; have m4 : wz.cell? ⟨g8, 4, none⟩ = some (.slice (some ⟨b2, o2, none⟩) kl.length ck1) := (HKb.out.below hSw HKb.out.lt).cell 4; obtain ⟨t0, t1, t2⟩ := HCZ.out wz (HBWp.out.trans (hSw.mono HBWp.out.size)); (try dsimp only at t0 t1 t2); go_simp; try (with_reducible rfl)
                  try simp only [Act.put, List.setIfInBounds_toArray, List.set_cons_zero, List.set_cons_succ, List.getElem_toArray, List.getElem_cons_succ, List.getElem_cons_zero]
                  refine take_at (some 95) (i := 7) (v := ?_) rfl rfl (by kernel_rfl) (by kernel_rfl) (by kernel_rfl) (fun _ _ _ h => h) (Or.inl ⟨by kernel_rfl, ?_⟩) hHeld ?_
                  rotate_left
                  · intro wz hSw; have hkt := HKt.out.below hSw HKt.out.lt; have k0 : wz.cell? ⟨g8t, 0, none⟩ = some (.string zn) := hkt.cell 0; have k1 : wz.cell? ⟨g8t, 1, none⟩ = some (.string zs) := hkt.cell 1; have k2 : wz.cell? ⟨g8t, 2, none⟩ = some (.int .i64 zt) := hkt.cell 2; have m4 : wz.cell? ⟨g8, 4, none⟩ = some (.slice (some ⟨b2, o2, none⟩) kl.length ck1) := (HKb.out.below hSw HKb.out.lt).cell 4; obtain ⟨t0, t1, t2⟩ := HCZ.out wz (HBWp.out.trans (hSw.mono HBWp.out.size)); (try dsimp only at t0 t1 t2); go_simp; try (with_reducible rfl)
                  try simp only [Act.put, List.setIfInBounds_toArray, List.set_cons_zero, List.set_cons_succ, List.getElem_toArray, List.getElem_cons_succ, List.getElem_cons_zero]
                  refine take_at (some 96) (i := 8) (v := ?_) rfl rfl (by kernel_rfl) (by kernel_rfl) (by kernel_rfl) (fun _ _ _ h => h) (Or.inl ⟨by kernel_rfl, ?_⟩) hHeld ?_
                  rotate_left
                  · intro wz hSw; have hkt := HKt.out.below hSw HKt.out.lt; have k0 : wz.cell? ⟨g8t, 0, none⟩ = some (.string zn) := hkt.cell 0; have k1 : wz.cell? ⟨g8t, 1, none⟩ = some (.string zs) := hkt.cell 1; have k2 : wz.cell? ⟨g8t, 2, none⟩ = some (.int .i64 zt) := hkt.cell 2; have m4 : wz.cell? ⟨g8, 4, none⟩ = some (.slice (some ⟨b2, o2, none⟩) kl.length ck1) := (HKb.out.below hSw HKb.out.lt).cell 4; obtain ⟨t0, t1, t2⟩ := HCZ.out wz (HBWp.out.trans (hSw.mono HBWp.out.size)); (try dsimp only at t0 t1 t2); go_simp; try (with_reducible rfl)
                  try simp only [Act.put, List.setIfInBounds_toArray, List.set_cons_zero, List.set_cons_succ, List.getElem_toArray, List.getElem_cons_succ, List.getElem_cons_zero]
                  refine take_at (some 97) (i := 9) rfl rfl (by kernel_rfl) (by kernel_rfl) (by kernel_rfl) (fun _ _ _ h => h) (yif_nek (by kernel_rfl) (.tmp 91) (.tmp 96) _ rfl ⟨zn, zs, zt⟩ rfl rfl) hHeld ?_
                  try simp only [Act.put, List.setIfInBounds_toArray, List.set_cons_zero, List.set_cons_succ, List.getElem_toArray, List.getElem_cons_succ, List.getElem_cons_zero]
                  refine take_at (some 98) (i := 10) (v := ?_) rfl rfl (by kernel_rfl) (by kernel_rfl) (by kernel_rfl) (fun _ _ _ h => h) (Or.inl ⟨by kernel_rfl, ?_⟩) hHeld ?_
                  rotate_left
                  · intro wz hSw; go_simp; try (with_reducible rfl)
                  try simp only [Act.put, List.setIfInBounds_toArray, List.set_cons_zero, List.set_cons_succ, List.getElem_toArray, List.getElem_cons_succ, List.getElem_cons_zero]
                  refine wpAnyH_done (by kernel_rfl) ?_ _
                  clear hHeld
                  go_wp2
                  go_roundw
                  case rel => exact ⟨k + 1, by omega, by go_num, Lib.hid HXb.out.drew, Lib.hid HKb.out.drew, Lib.hid (HRb.out.on (Below.refl _ _).drew)⟩
                  case measure => simp [intOf]; omega
              · have hk2 : ¬ (k : Int) < (kl.length : Int) := by omega
                go_wp2
                go_roundw
                case rel => exact ⟨i + 1, _, by omega, rfl, by go_num, HTH2, HXa⟩
                case measure => simp [intOf]; omega
      · have hi2 : ¬ (i : Int) < (n : Int) := by omega
        have HTF := Lib.hid (show th = (fT name ts).isSome by
          rw [HTH.out, List.take_of_length_le (by rw [HN.out]; omega)]
          unfold fT
          rw [any_find])
        cases hf : fT name ts with
        | some z =>
          have hth : th = true := by rw [HTF.out, hf]; rfl
          subst hth
          have HFE := Lib.hid (fun u (hu : Below w.heap.size w u) => HFC.out name u hu HSG.out)
          simp only [hf, Option.getD_some, Option.isSome_some] at HFE
          clear hf HTF HTH
          go_wp2_with (go_at_call 14; (with_reducible refine (HFE.out _ HB.out.l).mono ?_); rintro e v1 ⟨⟨⟨yn, ya, yb, nl, kl⟩, An1, cn1, Ak1, ck1⟩, rfl, hyt, ⟨hrt, _, _⟩, hb⟩; have HXB := Lib.hid (HB.out.on hb); clear hb hyt hrt)
          go_ret
          exact ⟨rfl, HXB.out.l.alloc HXB.out.l.size _⟩
        | none =>
          have hth : th = false := by rw [HTF.out, hf]; rfl
          subst hth
          have HFE := Lib.hid (fun u (hu : Below w.heap.size w u) => HFC.out name u hu HSG.out)
          simp only [hf, Option.getD_none, Option.isSome_none] at HFE
          clear hf HTF HTH
          go_upto_region 19 with (go_at_call 14; (with_reducible refine (HFE.out _ HB.out.l).mono ?_); rintro e v1 ⟨⟨yt, An1, cn1, Ak1, ck1⟩, rfl, hyt, ⟨hrt, _, _⟩, hb⟩; have HXB := Lib.hid (HB.out.on hb); have HRZ := Lib.hid hrt; have HYT := Lib.hid hyt; clear hb hyt hrt)
          obtain ⟨yn, ya, yb, nl, kl⟩ := yt
          have hyt := HYT.out
          unfold zeroTv zeroTn at hyt
          dsimp only at hyt
          injection hyt with y0 y1 y2 y3 y4
          subst y0; subst y1; subst y2; subst y3; subst y4
          have HSZ := Lib.hid (fun u (hu : Below v1.heap.size v1 u) => same_t ⟨⟨ByteArray.empty, 0, 0, [], []⟩, An1, cn1, Ak1, ck1⟩ zeroTv u (HRZ.out.on hu) (RT1.zero u) rfl)
          simp only [tcs, zeroTv, zeroTn, List.length_nil] at HSZ
          have HZB := Lib.hid (show Below v1.heap.size v1 (v1.alloc (.cells #[.string ByteArray.empty, .int .i64 0, .int .i64 0, .slice An1 0 cn1, .slice Ak1 0 ck1] 38)) from (Below.refl _ _).alloc (Nat.le_refl _) _)
          go_wp2_with (go_at_call 15; refine (HSZ.out _ HZB.out).mono ?_; rintro e v2 ⟨rfl, hb⟩; have HBB := Lib.hid (HZB.out.trans (hb.mono HZB.out.size)); clear hb)
          go_ret
          exact ⟨rfl, HXB.out.l.trans (HBB.out.mono HXB.out.l.size)⟩
end Go.Proofs.YtfpjkedcpnmfeaaDoor
