/- (*reading).take: its contract. (Written by gen_cgp7.py.) -/
import Derived.Test.YtekobdmlgbffnaaGreatDoorG18
import Derived.BigRegion
namespace Go.Proofs.YtekobdmlgbffnaaGreatDoor
set_option linter.unusedVariables false
set_option maxRecDepth 100000
set_option linter.unusedSimpArgs false
open Go.RowKit

/-- What was read so far is small. -/
def SmC (x : Cv) : Prop := x.ts.length ≤ 8 ∧ ∀ y ∈ x.ts, y.t.nets.length ≤ 4 ∧ y.t.toks.length ≤ 4
theorem smC_of {x : Cv} (h : cfgB x.cg = true) : SmC x := by
  obtain ⟨_, _, _, _, h1, _, h2⟩ := cfgB_parts h
  refine ⟨by simpa [Cv.cg] using h1, fun y hy => ?_⟩
  have := tenB_parts (h2 y.t (List.mem_map.2 ⟨y, hy, rfl⟩))
  exact ⟨this.2.2.1, this.2.2.2.2.1⟩
theorem smC_nil {x : Cv} (h : x.ts = []) : SmC x := ⟨by rw [h]; simp, fun y hy => by rw [h] at hy; cases hy⟩
/-- What take leaves. -/
structure Tp (u : World) (B r : Nat) (o : Option Cg) (e : Ending) (u' : World) : Prop where
  ex : ∃ v, e = .returned (.bool v) ∧ v = (okC o).isSome ∧ (v = true → ∃ E' x', Sc u' B r E' x' ∧ okC o = some x'.cg)
  ch : Ch B r u u'
theorem rv_ways {u u' : World} {B r : Nat} {o : Option Cg} {e : Ending} (h : Rv u B r o e u') : (e = .returned (.bool false) ∧ okC o = none ∧ Ch B r u u') ∨ (e = .returned (.bool true) ∧ ∃ E' b0 b1 b2 b3 ts' A' c', Sc u' B r E' ⟨b0, b1, b2, b3, ts', A', c'⟩ ∧ o = some (Cv.cg ⟨b0, b1, b2, b3, ts', A', c'⟩) ∧ Ch B r u u') := by
  obtain ⟨⟨v, rfl, h1, h2⟩, h3⟩ := h
  cases v with
  | false => exact .inl ⟨rfl, h2 rfl, h3⟩
  | true =>
    obtain ⟨E', ⟨b0, b1, b2, b3, ts', A', c'⟩, k1, k2⟩ := h1 rfl
    exact .inr ⟨rfl, E', b0, b1, b2, b3, ts', A', c', k1, k2, h3⟩
theorem rv_net {u : World} {B r E : Nat} {x : Cv} {b o cw : Nat} {l0 : List UInt8} (h : Sc u B r E x) (hs : SmC x) (hw : Wd u B b o [bs l0]) (z0 : l0.length ≤ 4096) :
    Calls Tryz.prog 70 #[.pointer (some ⟨r, 0, none⟩), .slice (some ⟨b, o, none⟩) 1 cw] u (Rv u B r (readNet x.cg [l0])) := by
  rcases List.eq_nil_or_concat x.ts with h0 | ⟨T, y, h0⟩
  · exact netl_none u B r E x _ l0 h h0
  · rw [List.concat_eq_append] at h0
    obtain ⟨a0, a1, a2, a3, ts, A, c⟩ := x
    dsimp only at h0
    subst h0
    obtain ⟨g, rfl⟩ := h.form
    obtain ⟨h1, h2⟩ := hs
    simp only [List.length_append, List.length_singleton] at h1
    exact netl_some u B r E g T.length a0 a1 a2 a3 T y c b o cw l0 h rfl (by omega) (h2 y (List.mem_append.2 (.inr (List.mem_singleton.2 rfl)))).1 hw (by omega)
theorem rv_tok {u : World} {B r E : Nat} {x : Cv} {b o cw : Nat} {l0 l1 l2 : List UInt8} (h : Sc u B r E x) (hs : SmC x) (hw : Wd u B b o [bs l0, bs l1, bs l2]) (z0 : l0.length ≤ 4096) (z1 : l1.length ≤ 4096) (z2 : l2.length ≤ 4096) :
    Calls Tryz.prog 71 #[.pointer (some ⟨r, 0, none⟩), .slice (some ⟨b, o, none⟩) 3 cw] u (Rv u B r (readToken x.cg [l0, l1, l2])) := by
  rcases List.eq_nil_or_concat x.ts with h0 | ⟨T, y, h0⟩
  · exact tokl_none u B r E x _ l0 l1 l2 h h0
  · rw [List.concat_eq_append] at h0
    obtain ⟨a0, a1, a2, a3, ts, A, c⟩ := x
    dsimp only at h0
    subst h0
    obtain ⟨g, rfl⟩ := h.form
    obtain ⟨h1, h2⟩ := hs
    simp only [List.length_append, List.length_singleton] at h1
    exact tokl_some u B r E g T.length a0 a1 a2 a3 T y c b o cw l0 l1 l2 h rfl (by omega) (h2 y (List.mem_append.2 (.inr (List.mem_singleton.2 rfl)))).2 hw (by omega) (by omega) (by omega)

theorem mis_times {c : Cg} {L : List (List UInt8)} (h : L.length ≠ 4) : okC (readTimes c L) = none := by
  match L, h with
  | [], _ => rfl
  | [_], _ => rfl
  | [_, _], _ => rfl
  | [_, _, _], _ => rfl
  | [_, _, _, _], h => exact absurd rfl h
  | _ :: _ :: _ :: _ :: _ :: _, _ => rfl
set_option maxRecDepth 100000 in
set_option maxHeartbeats 4000000 in
theorem take_times (u : World) (B r E : Nat) (x : Cv) (b o n cw : Nat) (L : List (List UInt8)) (h : Sc u B r E x) (hs : SmC x) (hw : Wd u B b o (L.map bs)) (hn : L.length = n) (hz : ∀ l ∈ L, l.length ≤ 4096) (hn9 : n ≤ 9223372036854775807) :
    Calls Tryz.prog 35 #[.pointer (some ⟨r, 0, none⟩), .agg #[.int .i64 4, .func (.func 68) #[] #[]], .slice (some ⟨b, o, none⟩) n cw] u (Tp u B r (readTimes x.cg L)) := by
  by_cases hq : n = 4
  · subst hq
    match L, hn with
    | [l0, l1, l2, l3], _ =>
      have z0 := hz l0 (by simp)
      have z1 := hz l1 (by simp)
      have z2 := hz l2 (by simp)
      have z3 := hz l3 (by simp)
      have hS : Sc (u.alloc (.cells #[.int .i64 4, .func (.func 68) #[] #[]] 74)) B r E x := h.on ((Below.refl _ _).alloc (Nat.le_refl _) _)
      have hW : Wd (u.alloc (.cells #[.int .i64 4, .func (.func 68) #[] #[]] 74)) B b o [bs l0, bs l1, bs l2, bs l3] := hw.on ((Below.refl _ _).alloc (Nat.le_refl _) _)
      have HR := Lib.hid (times_ok _ B r E x b o cw l0 l1 l2 l3 hS hW (by omega) (by omega) (by omega) (by omega))
      obtain ⟨O, hO⟩ : ∃ O, readTimes x.cg [l0, l1, l2, l3] = O := ⟨_, rfl⟩
      rw [hO] at HR ⊢
      have hCh : Ch B r u (u.alloc (.cells #[.int .i64 4, .func (.func 68) #[] #[]] 74)) := Ch.alloc _ _
      have HC := Lib.hid hCh
      clear h hs hw hz hS hW hO hCh z0 z1 z2 z3
      go_enter Tryz.func35, Tryz.ntmps35
      go_wp2_with (first
        | (go_at_call 68; refine HR.out.mono ?_; rintro e u2 hrv; rcases rv_ways hrv with ⟨rfl, hno, hch⟩ | ⟨rfl, E', b0, b1, b2, b3, ts', A', c', hS', ho, hch⟩; all_goals (first | (have HV := Lib.hid hno; have HC2 := Lib.hid (HC.out.trans hch); clear hno hch hrv) | (have HS' := Lib.hid hS'; have HC2 := Lib.hid (HC.out.trans hch); have HRC := Lib.hid (right_cfg ⟨b0, b1, b2, b3, ts', A', c'⟩ u2 hS'.rc); have HOK := Lib.hid ho; have d0 : u2.cell? ⟨r, 0, none⟩ = some (.int .i64 b0) := hS'.blk.cell 0; have d1 : u2.cell? ⟨r, 1, none⟩ = some (.int .i64 b1) := hS'.blk.cell 1; have d2 : u2.cell? ⟨r, 2, none⟩ = some (.int .i64 b2) := hS'.blk.cell 2; have d3 : u2.cell? ⟨r, 3, none⟩ = some (.int .i64 b3) := hS'.blk.cell 3; have d4 : u2.cell? ⟨r, 4, none⟩ = some (.slice A' ts'.length c') := hS'.blk.cell 4; clear hS' ho hch hrv)))
        | (go_at_call 13; refine HRC.out.mono ?_; rintro e u3 ⟨rfl, hb3⟩; have HS3 := Lib.hid (HS'.out.on hb3); have HC3 := Lib.hid (HC2.out.trans (Ch.of hb3)); clear hb3))
      · go_ret
        exact ⟨⟨false, rfl, by rw [HV.out]; rfl, fun hh => by cases hh⟩, HC2.out⟩
      · go_ret
        refine ⟨⟨_, rfl, ?_, fun hh => ⟨E', _, HS3.out, ?_⟩⟩, HC3.out⟩
        · rw [HOK.out]
          unfold okC
          by_cases hc : cfgB (Cv.cg ⟨b0, b1, b2, b3, ts', A', c'⟩) = true
          · simp only [if_pos hc]; exact hc
          · simp only [if_neg hc]; exact Bool.eq_false_iff.2 hc
        · rw [HOK.out]
          have hc : cfgB (Cv.cg ⟨b0, b1, b2, b3, ts', A', c'⟩) = true := hh
          unfold okC
          simp only [if_pos hc]
  · have hne : ((n : Int) == 4) = false := by rw [beq_eq_false_iff_ne]; omega
    have HN := Lib.hid (mis_times (c := x.cg) (L := L) (by rw [hn]; exact hq))
    have HC := Lib.hid (show Ch B r u (u.alloc (.cells #[.int .i64 4, .func (.func 68) #[] #[]] 74)) from Ch.alloc _ _)
    clear h hs hw hz hn hq
    go_enter Tryz.func35, Tryz.ntmps35
    go_wp2_with fail
    go_ret
    exact ⟨⟨false, rfl, by rw [HN.out]; rfl, fun hh => by cases hh⟩, HC.out⟩

theorem mis_tenant {c : Cg} {L : List (List UInt8)} (h : L.length ≠ 3) : okC (readTenant c L) = none := by
  match L, h with
  | [], _ => rfl
  | [_], _ => rfl
  | [_, _], _ => rfl
  | [_, _, _], h => exact absurd rfl h
  | _ :: _ :: _ :: _ :: _, _ => rfl
set_option maxRecDepth 100000 in
set_option maxHeartbeats 4000000 in
theorem take_tenant (u : World) (B r E : Nat) (x : Cv) (b o n cw : Nat) (L : List (List UInt8)) (h : Sc u B r E x) (hs : SmC x) (hw : Wd u B b o (L.map bs)) (hn : L.length = n) (hz : ∀ l ∈ L, l.length ≤ 4096) (hn9 : n ≤ 9223372036854775807) :
    Calls Tryz.prog 35 #[.pointer (some ⟨r, 0, none⟩), .agg #[.int .i64 3, .func (.func 69) #[] #[]], .slice (some ⟨b, o, none⟩) n cw] u (Tp u B r (readTenant x.cg L)) := by
  by_cases hq : n = 3
  · subst hq
    match L, hn with
    | [l0, l1, l2], _ =>
      have z0 := hz l0 (by simp)
      have z1 := hz l1 (by simp)
      have z2 := hz l2 (by simp)
      have hS : Sc (u.alloc (.cells #[.int .i64 3, .func (.func 69) #[] #[]] 74)) B r E x := h.on ((Below.refl _ _).alloc (Nat.le_refl _) _)
      have hW : Wd (u.alloc (.cells #[.int .i64 3, .func (.func 69) #[] #[]] 74)) B b o [bs l0, bs l1, bs l2] := hw.on ((Below.refl _ _).alloc (Nat.le_refl _) _)
      have HR := Lib.hid (tenant_ok _ B r E x b o cw l0 l1 l2 hS hs.1 hW (by omega) (by omega) (by omega))
      obtain ⟨O, hO⟩ : ∃ O, readTenant x.cg [l0, l1, l2] = O := ⟨_, rfl⟩
      rw [hO] at HR ⊢
      have hCh : Ch B r u (u.alloc (.cells #[.int .i64 3, .func (.func 69) #[] #[]] 74)) := Ch.alloc _ _
      have HC := Lib.hid hCh
      clear h hs hw hz hS hW hO hCh z0 z1 z2
      go_enter Tryz.func35, Tryz.ntmps35
      go_wp2_with (first
        | (go_at_call 69; refine HR.out.mono ?_; rintro e u2 hrv; rcases rv_ways hrv with ⟨rfl, hno, hch⟩ | ⟨rfl, E', b0, b1, b2, b3, ts', A', c', hS', ho, hch⟩; all_goals (first | (have HV := Lib.hid hno; have HC2 := Lib.hid (HC.out.trans hch); clear hno hch hrv) | (have HS' := Lib.hid hS'; have HC2 := Lib.hid (HC.out.trans hch); have HRC := Lib.hid (right_cfg ⟨b0, b1, b2, b3, ts', A', c'⟩ u2 hS'.rc); have HOK := Lib.hid ho; have d0 : u2.cell? ⟨r, 0, none⟩ = some (.int .i64 b0) := hS'.blk.cell 0; have d1 : u2.cell? ⟨r, 1, none⟩ = some (.int .i64 b1) := hS'.blk.cell 1; have d2 : u2.cell? ⟨r, 2, none⟩ = some (.int .i64 b2) := hS'.blk.cell 2; have d3 : u2.cell? ⟨r, 3, none⟩ = some (.int .i64 b3) := hS'.blk.cell 3; have d4 : u2.cell? ⟨r, 4, none⟩ = some (.slice A' ts'.length c') := hS'.blk.cell 4; clear hS' ho hch hrv)))
        | (go_at_call 13; refine HRC.out.mono ?_; rintro e u3 ⟨rfl, hb3⟩; have HS3 := Lib.hid (HS'.out.on hb3); have HC3 := Lib.hid (HC2.out.trans (Ch.of hb3)); clear hb3))
      · go_ret
        exact ⟨⟨false, rfl, by rw [HV.out]; rfl, fun hh => by cases hh⟩, HC2.out⟩
      · go_ret
        refine ⟨⟨_, rfl, ?_, fun hh => ⟨E', _, HS3.out, ?_⟩⟩, HC3.out⟩
        · rw [HOK.out]
          unfold okC
          by_cases hc : cfgB (Cv.cg ⟨b0, b1, b2, b3, ts', A', c'⟩) = true
          · simp only [if_pos hc]; exact hc
          · simp only [if_neg hc]; exact Bool.eq_false_iff.2 hc
        · rw [HOK.out]
          have hc : cfgB (Cv.cg ⟨b0, b1, b2, b3, ts', A', c'⟩) = true := hh
          unfold okC
          simp only [if_pos hc]
  · have hne : ((n : Int) == 3) = false := by rw [beq_eq_false_iff_ne]; omega
    have HN := Lib.hid (mis_tenant (c := x.cg) (L := L) (by rw [hn]; exact hq))
    have HC := Lib.hid (show Ch B r u (u.alloc (.cells #[.int .i64 3, .func (.func 69) #[] #[]] 74)) from Ch.alloc _ _)
    clear h hs hw hz hn hq
    go_enter Tryz.func35, Tryz.ntmps35
    go_wp2_with fail
    go_ret
    exact ⟨⟨false, rfl, by rw [HN.out]; rfl, fun hh => by cases hh⟩, HC.out⟩

theorem mis_net {c : Cg} {L : List (List UInt8)} (h : L.length ≠ 1) : okC (readNet c L) = none := by
  match L, h with
  | [], _ => rfl
  | [_], h => exact absurd rfl h
  | _ :: _ :: _, _ => rfl
set_option maxRecDepth 100000 in
set_option maxHeartbeats 4000000 in
theorem take_net (u : World) (B r E : Nat) (x : Cv) (b o n cw : Nat) (L : List (List UInt8)) (h : Sc u B r E x) (hs : SmC x) (hw : Wd u B b o (L.map bs)) (hn : L.length = n) (hz : ∀ l ∈ L, l.length ≤ 4096) (hn9 : n ≤ 9223372036854775807) :
    Calls Tryz.prog 35 #[.pointer (some ⟨r, 0, none⟩), .agg #[.int .i64 1, .func (.func 70) #[] #[]], .slice (some ⟨b, o, none⟩) n cw] u (Tp u B r (readNet x.cg L)) := by
  by_cases hq : n = 1
  · subst hq
    match L, hn with
    | [l0], _ =>
      have z0 := hz l0 (by simp)
      have hS : Sc (u.alloc (.cells #[.int .i64 1, .func (.func 70) #[] #[]] 74)) B r E x := h.on ((Below.refl _ _).alloc (Nat.le_refl _) _)
      have hW : Wd (u.alloc (.cells #[.int .i64 1, .func (.func 70) #[] #[]] 74)) B b o [bs l0] := hw.on ((Below.refl _ _).alloc (Nat.le_refl _) _)
      have HR := Lib.hid (rv_net (cw := cw) hS hs hW (by omega))
      obtain ⟨O, hO⟩ : ∃ O, readNet x.cg [l0] = O := ⟨_, rfl⟩
      rw [hO] at HR ⊢
      have hCh : Ch B r u (u.alloc (.cells #[.int .i64 1, .func (.func 70) #[] #[]] 74)) := Ch.alloc _ _
      have HC := Lib.hid hCh
      clear h hs hw hz hS hW hO hCh z0
      go_enter Tryz.func35, Tryz.ntmps35
      go_wp2_with (first
        | (go_at_call 70; refine HR.out.mono ?_; rintro e u2 hrv; rcases rv_ways hrv with ⟨rfl, hno, hch⟩ | ⟨rfl, E', b0, b1, b2, b3, ts', A', c', hS', ho, hch⟩; all_goals (first | (have HV := Lib.hid hno; have HC2 := Lib.hid (HC.out.trans hch); clear hno hch hrv) | (have HS' := Lib.hid hS'; have HC2 := Lib.hid (HC.out.trans hch); have HRC := Lib.hid (right_cfg ⟨b0, b1, b2, b3, ts', A', c'⟩ u2 hS'.rc); have HOK := Lib.hid ho; have d0 : u2.cell? ⟨r, 0, none⟩ = some (.int .i64 b0) := hS'.blk.cell 0; have d1 : u2.cell? ⟨r, 1, none⟩ = some (.int .i64 b1) := hS'.blk.cell 1; have d2 : u2.cell? ⟨r, 2, none⟩ = some (.int .i64 b2) := hS'.blk.cell 2; have d3 : u2.cell? ⟨r, 3, none⟩ = some (.int .i64 b3) := hS'.blk.cell 3; have d4 : u2.cell? ⟨r, 4, none⟩ = some (.slice A' ts'.length c') := hS'.blk.cell 4; clear hS' ho hch hrv)))
        | (go_at_call 13; refine HRC.out.mono ?_; rintro e u3 ⟨rfl, hb3⟩; have HS3 := Lib.hid (HS'.out.on hb3); have HC3 := Lib.hid (HC2.out.trans (Ch.of hb3)); clear hb3))
      · go_ret
        exact ⟨⟨false, rfl, by rw [HV.out]; rfl, fun hh => by cases hh⟩, HC2.out⟩
      · go_ret
        refine ⟨⟨_, rfl, ?_, fun hh => ⟨E', _, HS3.out, ?_⟩⟩, HC3.out⟩
        · rw [HOK.out]
          unfold okC
          by_cases hc : cfgB (Cv.cg ⟨b0, b1, b2, b3, ts', A', c'⟩) = true
          · simp only [if_pos hc]; exact hc
          · simp only [if_neg hc]; exact Bool.eq_false_iff.2 hc
        · rw [HOK.out]
          have hc : cfgB (Cv.cg ⟨b0, b1, b2, b3, ts', A', c'⟩) = true := hh
          unfold okC
          simp only [if_pos hc]
  · have hne : ((n : Int) == 1) = false := by rw [beq_eq_false_iff_ne]; omega
    have HN := Lib.hid (mis_net (c := x.cg) (L := L) (by rw [hn]; exact hq))
    have HC := Lib.hid (show Ch B r u (u.alloc (.cells #[.int .i64 1, .func (.func 70) #[] #[]] 74)) from Ch.alloc _ _)
    clear h hs hw hz hn hq
    go_enter Tryz.func35, Tryz.ntmps35
    go_wp2_with fail
    go_ret
    exact ⟨⟨false, rfl, by rw [HN.out]; rfl, fun hh => by cases hh⟩, HC.out⟩

theorem mis_token {c : Cg} {L : List (List UInt8)} (h : L.length ≠ 3) : okC (readToken c L) = none := by
  match L, h with
  | [], _ => rfl
  | [_], _ => rfl
  | [_, _], _ => rfl
  | [_, _, _], h => exact absurd rfl h
  | _ :: _ :: _ :: _ :: _, _ => rfl
set_option maxRecDepth 100000 in
set_option maxHeartbeats 4000000 in
theorem take_token (u : World) (B r E : Nat) (x : Cv) (b o n cw : Nat) (L : List (List UInt8)) (h : Sc u B r E x) (hs : SmC x) (hw : Wd u B b o (L.map bs)) (hn : L.length = n) (hz : ∀ l ∈ L, l.length ≤ 4096) (hn9 : n ≤ 9223372036854775807) :
    Calls Tryz.prog 35 #[.pointer (some ⟨r, 0, none⟩), .agg #[.int .i64 3, .func (.func 71) #[] #[]], .slice (some ⟨b, o, none⟩) n cw] u (Tp u B r (readToken x.cg L)) := by
  by_cases hq : n = 3
  · subst hq
    match L, hn with
    | [l0, l1, l2], _ =>
      have z0 := hz l0 (by simp)
      have z1 := hz l1 (by simp)
      have z2 := hz l2 (by simp)
      have hS : Sc (u.alloc (.cells #[.int .i64 3, .func (.func 71) #[] #[]] 74)) B r E x := h.on ((Below.refl _ _).alloc (Nat.le_refl _) _)
      have hW : Wd (u.alloc (.cells #[.int .i64 3, .func (.func 71) #[] #[]] 74)) B b o [bs l0, bs l1, bs l2] := hw.on ((Below.refl _ _).alloc (Nat.le_refl _) _)
      have HR := Lib.hid (rv_tok (cw := cw) hS hs hW (by omega) (by omega) (by omega))
      obtain ⟨O, hO⟩ : ∃ O, readToken x.cg [l0, l1, l2] = O := ⟨_, rfl⟩
      rw [hO] at HR ⊢
      have hCh : Ch B r u (u.alloc (.cells #[.int .i64 3, .func (.func 71) #[] #[]] 74)) := Ch.alloc _ _
      have HC := Lib.hid hCh
      clear h hs hw hz hS hW hO hCh z0 z1 z2
      go_enter Tryz.func35, Tryz.ntmps35
      go_wp2_with (first
        | (go_at_call 71; refine HR.out.mono ?_; rintro e u2 hrv; rcases rv_ways hrv with ⟨rfl, hno, hch⟩ | ⟨rfl, E', b0, b1, b2, b3, ts', A', c', hS', ho, hch⟩; all_goals (first | (have HV := Lib.hid hno; have HC2 := Lib.hid (HC.out.trans hch); clear hno hch hrv) | (have HS' := Lib.hid hS'; have HC2 := Lib.hid (HC.out.trans hch); have HRC := Lib.hid (right_cfg ⟨b0, b1, b2, b3, ts', A', c'⟩ u2 hS'.rc); have HOK := Lib.hid ho; have d0 : u2.cell? ⟨r, 0, none⟩ = some (.int .i64 b0) := hS'.blk.cell 0; have d1 : u2.cell? ⟨r, 1, none⟩ = some (.int .i64 b1) := hS'.blk.cell 1; have d2 : u2.cell? ⟨r, 2, none⟩ = some (.int .i64 b2) := hS'.blk.cell 2; have d3 : u2.cell? ⟨r, 3, none⟩ = some (.int .i64 b3) := hS'.blk.cell 3; have d4 : u2.cell? ⟨r, 4, none⟩ = some (.slice A' ts'.length c') := hS'.blk.cell 4; clear hS' ho hch hrv)))
        | (go_at_call 13; refine HRC.out.mono ?_; rintro e u3 ⟨rfl, hb3⟩; have HS3 := Lib.hid (HS'.out.on hb3); have HC3 := Lib.hid (HC2.out.trans (Ch.of hb3)); clear hb3))
      · go_ret
        exact ⟨⟨false, rfl, by rw [HV.out]; rfl, fun hh => by cases hh⟩, HC2.out⟩
      · go_ret
        refine ⟨⟨_, rfl, ?_, fun hh => ⟨E', _, HS3.out, ?_⟩⟩, HC3.out⟩
        · rw [HOK.out]
          unfold okC
          by_cases hc : cfgB (Cv.cg ⟨b0, b1, b2, b3, ts', A', c'⟩) = true
          · simp only [if_pos hc]; exact hc
          · simp only [if_neg hc]; exact Bool.eq_false_iff.2 hc
        · rw [HOK.out]
          have hc : cfgB (Cv.cg ⟨b0, b1, b2, b3, ts', A', c'⟩) = true := hh
          unfold okC
          simp only [if_pos hc]
  · have hne : ((n : Int) == 3) = false := by rw [beq_eq_false_iff_ne]; omega
    have HN := Lib.hid (mis_token (c := x.cg) (L := L) (by rw [hn]; exact hq))
    have HC := Lib.hid (show Ch B r u (u.alloc (.cells #[.int .i64 3, .func (.func 71) #[] #[]] 74)) from Ch.alloc _ _)
    clear h hs hw hz hn hq
    go_enter Tryz.func35, Tryz.ntmps35
    go_wp2_with fail
    go_ret
    exact ⟨⟨false, rfl, by rw [HN.out]; rfl, fun hh => by cases hh⟩, HC.out⟩
end Go.Proofs.YtekobdmlgbffnaaGreatDoor
