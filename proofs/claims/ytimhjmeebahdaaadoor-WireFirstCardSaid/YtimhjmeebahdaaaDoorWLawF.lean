/- The walk of WireFirst. -/
import Derived.Test.YtimhjmeebahdaaaDoorWHead
import Derived.Test.YtimhjmeebahdaaaDoorOpen
import Derived.BigQuiet
import Derived.Deep.QuietTactic
namespace Go.Proofs.YtimhjmeebahdaaaDoor
set_option linter.unusedVariables false
set_option linter.unusedSimpArgs false
open Go.RowKit

/-- What Get answers, by letters. -/
theorem getE_any (r : Option Mg) : ∃ (k n m : Int) (a b : ByteArray) (is : Bool), r.isSome = is ∧ (is = true → r = some ⟨k, a, b, n, m⟩) ∧ (is = false → r = none ∧ k = 0 ∧ a = bs [] ∧ b = bs [] ∧ n = 0 ∧ m = 0) ∧ getE r = .returned (.tuple #[.agg #[.int .i64 k, .string a, .string b, .int .i64 n, .int .i64 m], .bool is]) := by
  cases r with
  | none => exact ⟨0, 0, 0, bs [], bs [], false, rfl, (fun h => by cases h), fun _ => ⟨rfl, rfl, rfl, rfl, rfl, rfl⟩, rfl⟩
  | some x => exact ⟨x.k, x.n, x.m, x.a, x.b, true, rfl, fun _ => rfl, (fun h => by cases h), rfl⟩

set_option maxRecDepth 100000 in
set_option maxHeartbeats 4000000 in
theorem walk_WireFirst (x : Mg) (A : Option Addr) (l : List UInt8) (n c : Nat) (W : World) (wa : x.a.size ≤ 140737488355328) (wb : x.b.size ≤ 140737488355328) (wl : InB W A l n c) (hG : Gw W) :
    Calls Tryd.prog 8 #[.agg x.cells, .slice A n c] W fun e w' => e = .returned (.bool true) ∧ Below W.heap.size W w' := by
  have hmx := wl.max
  have hcn := wl.cap
  unfold maxLen at hmx
  have H0 := Lib.hid (MgAt.new (B := W.heap.size) (w := W) (x := x) hG rfl)
  have HGR := Lib.hid (fun u => great_ok x u (by omega) (by omega))
  have HPUT := Lib.hid (fun u (h : Gw u) => wput_ok x u h (by omega) (by omega))
  have HL := Lib.hid wl.len
  have HRB := Lib.hid wl.rb
  obtain ⟨gr, hgr⟩ : ∃ gr, decide (9000 < x.a.size + x.b.size) = gr := ⟨_, rfl⟩
  rw [hgr] at HGR
  clear wa wb hgr hG wl
  have HXK := Lib.hid (show rightM x = true → 1 ≤ x.k.toNat ∧ x.k.toNat ≤ 14 ∧ (x.k.toNat : Int) = x.k from fun h => known_lt x (right_parts x h).1)
  obtain ⟨P, hP⟩ : ∃ P, putW x = P := ⟨_, rfl⟩
  have HPN := Lib.hid (show rightM x = false → P = [] from fun h => by rw [← hP]; exact putW_none x h)
  have HPR := Lib.hid (show rightM x = true → ∃ r, P = UInt8.ofNat x.k.toNat :: r from fun h => ⟨_, by rw [← hP]; exact put_right x h⟩)
  rw [hP] at HPUT
  clear hP
  obtain ⟨rt, hrt⟩ : ∃ rt, rightM x = rt := ⟨_, rfl⟩
  rw [hrt] at HXK HPN HPR
  clear hrt
  obtain ⟨k, a, b, n0, m⟩ := x
  go_enter Tryd.func8, Tryd.ntmps8
  go_wp2_with fail
  refine (whead_ok _ H0.out.glob).mono ?_
  rintro e w1 ⟨rfl, hb1⟩
  have H1 := Lib.hid (H0.out.on hb1 (Nat.le_refl _))
  clear hb1 H0
  have cs := H1.out.c
  go_wp2_with fail
  clear cs
  refine (HGR.out _).mono ?_
  rintro e w2 ⟨rfl, hb2⟩
  have H2 := Lib.hid (H1.out.on hb2 (Nat.le_refl _))
  clear hb2 H1
  cases gr with
  | true =>
    have HB := H2.out.b
    go_wp2_with fail
    go_ret
    exact ⟨rfl, HB⟩
  | false =>
  by_cases hg : 9000 < n
  · have HB := H2.out.b
    have hg2 : (9000 : Int) < (n : Int) := by omega
    go_wp2_with fail
    go_ret
    exact ⟨rfl, HB⟩
  have hg2 : ¬ (9000 : Int) < (n : Int) := by omega
  have cs := H2.out.c
  go_wp2_with fail
  clear cs
  refine (HPUT.out _ H2.out.glob).mono ?_
  rintro e w3 ⟨A2, c2, rfl, hO, hb3⟩
  have HO := Lib.hid hO
  have H3 := Lib.hid (H2.out.on hb3 (Nat.le_refl _))
  clear hb3 hO H2
  obtain ⟨yk, yn, ym, ya, yb, is, his, hyes, hno, hE⟩ := getE_any (getW l)
  have hget := wget_ok A l n c w3 H3.out.glob ((HRB.out.below H3.out.b (Nat.le_refl _)).more H3.out.b.size) (by have := HL.out; omega) HL.out hcn (by omega)
  rw [hE] at hget
  have HGET := Lib.hid hget
  have HYES := Lib.hid (show is = true → ∃ c0 r, l = c0 :: r ∧ 1 ≤ c0.toNat ∧ c0.toNat ≤ 14 from fun h => by
    obtain ⟨c0, r, h1, _, h2, h3⟩ := getW_kind l _ (hyes h)
    exact ⟨c0, r, h1, h2, h3⟩)
  clear hget hE hyes hno his
  go_wp2_with fail
  refine HGET.out.mono ?_
  rintro e w4 ⟨rfl, hb4⟩
  have HP4 := Lib.hid (HO.out.rb.below hb4 (Nat.le_refl _))
  have H4 := Lib.hid (H3.out.on hb4 (Nat.le_refl _))
  have hs4 := hb4.size
  clear hb4 HO H3 HGET
  go_upto_region 6 with (fail)
  have hba : Below w4.heap.size w4 (w4.alloc (.cells #[.int .i64 yk, .string ya, .string yb, .int .i64 yn, .int .i64 ym] 23)) := (Below.refl w4.heap.size w4).alloc (Nat.le_refl _) _
  have H5 := Lib.hid (H4.out.on hba (Nat.le_refl _))
  have HP5 := Lib.hid (HP4.out.below hba hs4)
  generalize w4.alloc (.cells #[.int .i64 yk, .string ya, .string yb, .int .i64 yn, .int .i64 ym] 23) = w5 at H5 HP5 ⊢
  clear hba hs4 HP4 H4
  have HL5 := Lib.hid (HRB.out.below H5.out.b (Nat.le_refl _))
  have HBF := Lib.hid H5.out.b
  have hWn : (n : Int) = ((l.length : Nat) : Int) := by rw [HL.out]
  have HIS := Lib.hid (fun (h : is = true → False) => show is = false by cases is with | false => rfl | true => exact (h rfl).elim)
  obtain ⟨x0, x1, x2, x3, x4⟩ := H5.out.c
  clear x1 x2 x3 x4 hWn
  cases rt with
  | false =>
    obtain rfl : P = [] := HPN.out rfl
    simp only [List.length_nil]
    clear HPN HPR HXK HP5
    cases hl : l with
    | nil =>
      obtain rfl : is = false := HIS.out (fun h => by obtain ⟨c0, r, h1, _⟩ := HYES.out h; rw [hl] at h1; cases h1)
      obtain rfl : n = 0 := by rw [← HL.out, hl]; rfl
      clear hl
      go_wp2_with fail
      go_quiet (fail)
      go_wp2
      go_ret
      exact ⟨rfl, below_drewN HBF.out _⟩
    | cons c0 r =>
      obtain ⟨g, o, rfl, ca⟩ : ∃ g o, A = some ⟨g, o, none⟩ ∧ w5.cell? ⟨g, o, none⟩ = some (.int .u8 (c0.toNat : Int)) := by
        rcases HL5.out with h | ⟨g, o, e, _, hcell⟩
        · rw [hl] at h; cases h
        · exact ⟨g, o, e, by have := hcell 0 (by rw [hl]; simp); simp only [hl] at this; simpa using this⟩
      have hn0 : 0 < n := by rw [← HL.out, hl]; simp
      have hn1 : (0 : Int) < (n : Int) := by omega
      obtain ⟨v, hv⟩ : ∃ v, c0.toNat = v := ⟨_, rfl⟩
      have HV := Lib.hid (show is = true → 1 ≤ v ∧ v ≤ 14 from fun h => by obtain ⟨c1, r1, h1, h2⟩ := HYES.out h; rw [hl] at h1; injection h1 with h1 _; rw [← hv, h1]; exact h2)
      rw [hv] at ca
      clear hv hl
      by_cases v1 : 1 ≤ v
      · have v1' : (1 : Int) ≤ (v : Int) := by omega
        by_cases v2 : v ≤ 14
        · have v2' : (v : Int) ≤ 14 := by omega
          cases is with
          | false =>
            go_wp2_with fail
            go_quiet (fail)
            go_wp2
            go_ret
            exact ⟨rfl, below_drewN HBF.out _⟩
          | true =>
            go_wp2_with fail
            go_quiet (fail)
            go_wp2
            go_ret
            exact ⟨rfl, below_drewN HBF.out _⟩
        · have v2' : ¬ (v : Int) ≤ 14 := by omega
          obtain rfl : is = false := HIS.out (fun h => by have := HV.out h; omega)
          go_wp2_with fail
          go_quiet (fail)
          go_wp2
          go_ret
          exact ⟨rfl, below_drewN HBF.out _⟩
      · have v1' : ¬ (1 : Int) ≤ (v : Int) := by omega
        obtain rfl : is = false := HIS.out (fun h => by have := HV.out h; omega)
        go_wp2_with fail
        go_quiet (fail)
        go_wp2
        go_ret
        exact ⟨rfl, below_drewN HBF.out _⟩
  | true =>
    obtain ⟨r2, hr2⟩ := HPR.out rfl
    obtain ⟨k1, k2, k3⟩ := HXK.out rfl
    obtain ⟨q, rfl⟩ : ∃ q : Nat, k = (q : Int) := ⟨k.toNat, k3.symm⟩
    obtain ⟨gp, op, rfl, cp⟩ : ∃ gp op, A2 = some ⟨gp, op, none⟩ ∧ w5.cell? ⟨gp, op, none⟩ = some (.int .u8 (q : Int)) := by
      rcases HP5.out with h | ⟨g, o, e, _, hcell⟩
      · rw [hr2] at h; cases h
      · refine ⟨g, o, e, ?_⟩
        have := hcell 0 (by rw [hr2]; simp)
        simp only [hr2] at this
        have e8 : (UInt8.ofNat q).toNat = q := u8_ofNat _ (by omega)
        simpa [e8] using this
    obtain ⟨L, hL⟩ : ∃ L, P.length = L := ⟨_, rfl⟩
    have hL0 : 0 < L := by rw [← hL, hr2]; simp
    have hL1 : ((L : Int) == 0) = false := by rw [beq_eq_false_iff_ne]; omega
    have hL2 : (0 : Int) < (L : Int) := by omega
    have hq14 : q ≤ 14 := by simpa using k2
    have hwq : IntKind.i64.wrap (q : Int) = (q : Int) := by simp (disch := omega) only [IntWalk.i64_in]
    rw [hL]
    clear HPN HPR HXK HP5 hr2 hL k1 k2 k3
    cases hl : l with
    | nil =>
      obtain rfl : is = false := HIS.out (fun h => by obtain ⟨c0, r, h1, _⟩ := HYES.out h; rw [hl] at h1; cases h1)
      obtain rfl : n = 0 := by rw [← HL.out, hl]; rfl
      clear hl
      go_wp2_with fail
      go_quiet (fail)
      go_wp2
      go_ret
      exact ⟨rfl, below_drewN HBF.out _⟩
    | cons c0 r =>
      obtain ⟨g, o, rfl, ca⟩ : ∃ g o, A = some ⟨g, o, none⟩ ∧ w5.cell? ⟨g, o, none⟩ = some (.int .u8 (c0.toNat : Int)) := by
        rcases HL5.out with h | ⟨g, o, e, _, hcell⟩
        · rw [hl] at h; cases h
        · exact ⟨g, o, e, by have := hcell 0 (by rw [hl]; simp); simp only [hl] at this; simpa using this⟩
      have hn0 : 0 < n := by rw [← HL.out, hl]; simp
      have hn1 : (0 : Int) < (n : Int) := by omega
      obtain ⟨v, hv⟩ : ∃ v, c0.toNat = v := ⟨_, rfl⟩
      have HV := Lib.hid (show is = true → 1 ≤ v ∧ v ≤ 14 from fun h => by obtain ⟨c1, r1, h1, h2⟩ := HYES.out h; rw [hl] at h1; injection h1 with h1 _; rw [← hv, h1]; exact h2)
      rw [hv] at ca
      clear hv hl
      by_cases v1 : 1 ≤ v
      · have v1' : (1 : Int) ≤ (v : Int) := by omega
        by_cases v2 : v ≤ 14
        · have v2' : (v : Int) ≤ 14 := by omega
          cases is with
          | false =>
            go_wp2_with fail
            go_quiet (fail)
            go_wp2
            go_ret
            exact ⟨rfl, below_drewN HBF.out _⟩
          | true =>
            go_wp2_with fail
            go_quiet (fail)
            go_wp2
            go_ret
            exact ⟨rfl, below_drewN HBF.out _⟩
        · have v2' : ¬ (v : Int) ≤ 14 := by omega
          obtain rfl : is = false := HIS.out (fun h => by have := HV.out h; omega)
          go_wp2_with fail
          go_quiet (fail)
          go_wp2
          go_ret
          exact ⟨rfl, below_drewN HBF.out _⟩
      · have v1' : ¬ (1 : Int) ≤ (v : Int) := by omega
        obtain rfl : is = false := HIS.out (fun h => by have := HV.out h; omega)
        go_wp2_with fail
        go_quiet (fail)
        go_wp2
        go_ret
        exact ⟨rfl, below_drewN HBF.out _⟩
end Go.Proofs.YtimhjmeebahdaaaDoor
