/- config.Find: its contract. -/
import Derived.Test.YtekobdmlgbffnaaGreatDoorCg5
import Derived.BigRegion
import Derived.Deep.Cut
import Derived.Deep.CutRange
namespace Go.Proofs.YtekobdmlgbffnaaGreatDoor
set_option linter.unusedVariables false
set_option maxRecDepth 100000
set_option linter.unusedSimpArgs false
open Go.RowKit

theorem RT1.zero (w : World) : RT1 w zeroTv := ⟨.inl rfl, .inl rfl, ⟨Nat.le_refl _, by simp [zeroTv], fun _ => ⟨rfl, rfl⟩⟩, ⟨Nat.le_refl _, by simp [zeroTv], fun _ => ⟨rfl, rfl⟩⟩, (fun n hn => by cases hn), by decide, fun k hk => by cases hk⟩
theorem fT_mem {s : ByteArray} {l : List Tv} {x : Tv} (h : fT s l = some x) : x ∈ l ∧ nmEq x.t.name s = true := ⟨List.mem_of_find?_eq_some h, by have := List.find?_some h; exact this⟩
/-- What Find's own region keeps. -/
structure FdSt (w : World) (g : Nat) (nm : ByteArray) (a b : Int) (A3 A4 : Value) (u : World) : Prop where
  b : Bk u g 33 #[.string nm, .int .i64 a, .int .i64 b, A3, A4]
  r : Bk u (w.heap.size + 1) 33 #[.string ⟨#[]⟩, .int .i64 0, .int .i64 0, .slice none 0 0, .slice none 0 0]
  l : Below w.heap.size w u
  lt : w.heap.size + 2 ≤ g
theorem FdSt.on {w u u' : World} {g : Nat} {nm : ByteArray} {a b : Int} {A3 A4 : Value} (h : FdSt w g nm a b A3 A4 u) (hb : Below u.heap.size u u') : FdSt w g nm a b A3 A4 u' := ⟨h.b.below hb h.b.lt, h.r.below hb h.r.lt, h.l.trans (hb.mono h.l.size), h.lt⟩

theorem Ow.base {β : Type} {e : TypeId} {k : Nat} {f : β → Array Value} {w : World} {B B' : Nat} {A : Option Addr} {c : Nat} {l : List β} (h : Ow e k f w B A c l) (hB : B' ≤ B) : Ow e k f w B' A c l :=
  ⟨h.1, h.2.imp id fun ⟨g, cap, cur, hv, hg, r⟩ => ⟨g, cap, cur, hv, Nat.le_trans hB hg, r⟩⟩
set_option maxRecDepth 100000 in
set_option maxHeartbeats 8000000 in
theorem find_cfg2 (x : Cv) (s : ByteArray) (w : World) (h : RC w x) (hfew : ∀ y ∈ x.ts, y.t.nets.length ≤ 1099511627776 ∧ y.t.toks.length ≤ 1099511627776) :
    Calls Tryz.prog 9 #[.agg (ccs x), .string s] w fun e w' => ∃ y : Tv, e = .returned (.tuple #[.agg (tcs y), .bool (fT s x.ts).isSome]) ∧ y.t = ((fT s x.ts).getD zeroTv).t ∧ (RT1 w' y ∧ ON w' w.heap.size y.An y.cn y.t.nets ∧ OK w' w.heap.size y.Ak y.ck y.t.toks) ∧ Below w.heap.size w w' := by
  obtain ⟨a0, a1, a2, a3, ts, A, c⟩ := x
  show Calls Tryz.prog 9 #[.agg #[.int .i64 a0, .int .i64 a1, .int .i64 a2, .int .i64 a3, .slice A ts.length c], .string s] w _
  dsimp only at hfew ⊢
  obtain ⟨k, hk⟩ : ∃ k, ts.length = k := ⟨_, rfl⟩
  have g1 := h.f.cap
  have g2 := h.f.max
  dsimp only at g1 g2
  have HF := Lib.hid (fun u (hu : Below w.heap.size w u) => findT_ok A ts k c s u (h.r.on hu) hk (by omega))
  obtain ⟨z, hz⟩ : ∃ z, (fT s ts).getD zeroTv = z := ⟨_, rfl⟩
  have hz1 : RT1 w z ∧ z.t.nets.length ≤ 1099511627776 ∧ z.t.toks.length ≤ 1099511627776 := by
    cases hq : fT s ts with
    | none => rw [hq] at hz; subst hz; exact ⟨RT1.zero w, by simp [zeroTv, zeroTn], by simp [zeroTv, zeroTn]⟩
    | some y => rw [hq] at hz; subst hz; exact ⟨h.r.each y (fT_mem hq).1, hfew y (fT_mem hq).1⟩
  rw [hz] at HF ⊢
  obtain ⟨is, his⟩ : ∃ is, (fT s ts).isSome = is := ⟨_, rfl⟩
  rw [his] at HF ⊢
  rw [hk]
  clear his hz hfew h hk
  obtain ⟨⟨nm, a, b, nl, kl⟩, An, cn, Ak, ck⟩ := z
  obtain ⟨hr, l1, l2⟩ := hz1
  dsimp only at l1 l2
  obtain ⟨n, hn⟩ : ∃ n, nl.length = n := ⟨_, rfl⟩
  obtain ⟨m, hm⟩ : ∃ m, kl.length = m := ⟨_, rfl⟩
  have HR := Lib.hid hr
  have HNM := Lib.hid (And.intro hn hm)
  have HCN := Lib.hid (fun u (hu : Below w.heap.size w u) => cloneN_ok An nl n cn u (hr.n.on hu) (hn ▸ hr.fn) hn (by omega))
  have HCK := Lib.hid (fun u (hu : Below w.heap.size w u) => cloneK_ok Ak kl m ck u (hr.k.on hu) (hm ▸ hr.fk) hm (by omega))
  have HF2 := Lib.hid (show ∀ u (hu : Below w.heap.size w u), Calls Tryz.prog 38 #[.slice A k c, .func (.func 39) #[] #[], .string s] u fun e w' => e = .returned (.tuple #[.agg #[.string nm, .int .i64 a, .int .i64 b, .slice An n cn, .slice Ak m ck], .bool is]) ∧ Below u.heap.size u w' from fun u hu => by
    have := HF.out u hu
    simp only [tcs, hn, hm] at this
    exact this)
  have HB0 := Lib.hid ((Bx.new w 24 #[.int .i64 a0, .int .i64 a1, .int .i64 a2, .int .i64 a3, .slice A k c]).alloc (.cells #[.string ⟨#[]⟩, .int .i64 0, .int .i64 0, .slice none 0 0, .slice none 0 0] 33))
  have HB1 := Lib.hid (Bk.new (w.alloc (.cells #[.int .i64 a0, .int .i64 a1, .int .i64 a2, .int .i64 a3, .slice A k c] 24)) 33 #[.string ⟨#[]⟩, .int .i64 0, .int .i64 0, .slice none 0 0, .slice none 0 0])
  rw [World.size_alloc] at HB1
  clear HF hr hn hm l1 l2 g1
  go_enter Tryz.func9, Tryz.ntmps9
  go_upto_region 2 with (go_at_call 38; refine (HF2.out _ HB0.out.l).mono ?_; rintro e u2 ⟨rfl, hb⟩; have HS := Lib.hid (show FdSt w u2.heap.size nm a b (.slice An n cn) (.slice Ak m ck) (u2.alloc (.cells #[.string nm, .int .i64 a, .int .i64 b, .slice An n cn, .slice Ak m ck] 33)) from ⟨Bk.new _ _ _, (HB1.out.below hb HB1.out.lt).alloc _, (HB0.out.l.trans (hb.mono HB0.out.l.size)).alloc (Nat.le_trans HB0.out.l.size (by first | exact hb.size | (have := hb.size; omega))) _, by have := hb.size; rw [World.size_alloc, World.size_alloc] at this; omega⟩); clear hb)
  obtain ⟨W2, hW2⟩ : ∃ W2, u2.alloc (.cells #[.string nm, .int .i64 a, .int .i64 b, .slice An n cn, .slice Ak m ck] 33) = W2 := ⟨_, rfl⟩
  obtain ⟨g, hg⟩ : ∃ g, u2.heap.size = g := ⟨_, rfl⟩
  rw [hW2, hg] at HS
  try rw [hW2]
  try rw [hg]
  clear hW2 hg HB0 HB1
  have e3 : W2.cell? ⟨g, 3, none⟩ = some (.slice An n cn) := HS.out.b.cell 3
  have e4 : W2.cell? ⟨g, 4, none⟩ = some (.slice Ak m ck) := HS.out.b.cell 4
  have HSD := Lib.hid (show FdSt w g nm a b (.slice An n cn) (.slice Ak m ck) W2.drew from ⟨HS.out.b.drew, HS.out.r.drew, HS.out.l.drew, HS.out.lt⟩)
  go_region_with (first
    | (go_at_call 40; refine (HCN.out _ HSD.out.l).mono ?_; rintro e v1 ⟨A5, c5, rfl, hr5, hb5⟩; have H1 := Lib.hid (And.intro (HSD.out.on hb5) (And.intro (show g < W2.drew.heap.size from HSD.out.b.lt) hr5)); have k4 : v1.cell? ⟨g, 4, none⟩ = some (.slice Ak m ck) := H1.out.1.b.cell 4; clear hr5 hb5)
    | (go_at_call 41; refine (HCK.out _ H1.out.1.l).mono ?_; rintro e v2 ⟨A6, c6, rfl, hr6, hb6⟩; have H2 := Lib.hid (And.intro (H1.out.1.on hb6) (And.intro (Ow.on H1.out.2.2 hb6) (And.intro (show g < v1.heap.size from H1.out.1.b.lt) hr6))); have k3 : v2.cell? ⟨g, 3, none⟩ = some (.slice An n cn) := H2.out.1.b.cell 3; have k5 : v2.cell? ⟨g, 4, none⟩ = some (.slice Ak m ck) := H2.out.1.b.cell 4; have f3 := H2.out.1.b.frozen 3; have f4 := H2.out.1.b.frozen 4; clear hr6 hb6))
  all_goals
    have hgl := H1.out.2.1
    have hgl2 := H2.out.2.2.1
    have hlt := H2.out.1.lt
    have hU : ∃ U, (v2.setCell ⟨g, 3, none⟩ (.slice A5 n c5)).setCell ⟨g, 4, none⟩ (.slice A6 m c6) = U := ⟨_, rfl⟩
    obtain ⟨U, hU⟩ := hU
    have HFS := Lib.hid (show FdSt w g nm a b (.slice A5 n c5) (.slice A6 m c6) U ∧ ON U W2.drew.heap.size A5 c5 nl ∧ OK U v1.heap.size A6 c6 kl from by
      rw [← hU]
      have kU := ((H2.out.1.b.set 3 (.slice A5 n c5)).set 4 (.slice A6 m c6))
      simp only [List.setIfInBounds_toArray, List.set_cons_zero, List.set_cons_succ] at kU
      exact ⟨⟨kU, (H2.out.1.r.far (p := ⟨g, 3, none⟩) (by show w.heap.size + 1 ≠ g; omega) _).far (p := ⟨g, 4, none⟩) (by show w.heap.size + 1 ≠ g; omega) _, (H2.out.1.l.setCell (p := ⟨g, 3, none⟩) (by show w.heap.size ≤ g; omega) _).setCell (p := ⟨g, 4, none⟩) (by show w.heap.size ≤ g; omega) _, hlt⟩, (H2.out.2.1.set (p := ⟨g, 3, none⟩) hgl _).set (p := ⟨g, 4, none⟩) hgl _, (H2.out.2.2.2.set (p := ⟨g, 3, none⟩) hgl2 _).set (p := ⟨g, 4, none⟩) hgl2 _⟩)
    rw [hU]
    have p0 : U.cell? ⟨g, 0, none⟩ = some (.string nm) := HFS.out.1.b.cell 0
    have p1 : U.cell? ⟨g, 1, none⟩ = some (.int .i64 a) := HFS.out.1.b.cell 1
    have p2 : U.cell? ⟨g, 2, none⟩ = some (.int .i64 b) := HFS.out.1.b.cell 2
    have p3 : U.cell? ⟨g, 3, none⟩ = some (.slice A5 n c5) := HFS.out.1.b.cell 3
    have p4 : U.cell? ⟨g, 4, none⟩ = some (.slice A6 m c6) := HFS.out.1.b.cell 4
    have z0 : U.cell? ⟨w.heap.size + 1, 0, none⟩ = some (.string ⟨#[]⟩) := HFS.out.1.r.cell 0
    have z1 : U.cell? ⟨w.heap.size + 1, 1, none⟩ = some (.int .i64 0) := HFS.out.1.r.cell 1
    have z2 : U.cell? ⟨w.heap.size + 1, 2, none⟩ = some (.int .i64 0) := HFS.out.1.r.cell 2
    have z3 : U.cell? ⟨w.heap.size + 1, 3, none⟩ = some (.slice none 0 0) := HFS.out.1.r.cell 3
    have z4 : U.cell? ⟨w.heap.size + 1, 4, none⟩ = some (.slice none 0 0) := HFS.out.1.r.cell 4
    have y0 := HFS.out.1.r.frozen 0
    have y1 := HFS.out.1.r.frozen 1
    have y2 := HFS.out.1.r.frozen 2
    have y3 := HFS.out.1.r.frozen 3
    have y4 := HFS.out.1.r.frozen 4
    have HLT := Lib.hid (And.intro hgl (And.intro hgl2 hlt))
    clear hU k3 k4 k5 f3 f4 e3 e4 H1 H2 HS HSD hgl hgl2 hlt
    go_wp2_with fail
    have kV := (((((HFS.out.1.r.set 0 (.string nm)).set 1 (.int .i64 a)).set 2 (.int .i64 b)).set 3 (.slice A5 n c5)).set 4 (.slice A6 m c6))
    simp only [List.setIfInBounds_toArray, List.set_cons_zero, List.set_cons_succ] at kV
    have hl := HFS.out.1.l
    obtain ⟨q1, q2, q3⟩ := HLT.out
    have oN := HFS.out.2.1
    have oK := HFS.out.2.2
    refine bodyPost_ret (v := .tuple #[.agg #[.string nm, .int .i64 a, .int .i64 b, .slice A5 n c5, .slice A6 m c6], .bool is]) ?_ rfl ⟨⟨⟨nm, a, b, nl, kl⟩, A5, c5, A6, c6⟩, ?_, rfl, ?_, ?_⟩
    · have p0 := kV.cell 0; have p1 := kV.cell 1; have p2 := kV.cell 2; have p3 := kV.cell 3; have p4 := kV.cell 4
      simp [results, Tryz.f9, go_sem, p0, p1, p2, p3, p4]
    · simp only [tcs, HNM.out.1, HNM.out.2]
    · have hN := ((((oN.set (p := ⟨w.heap.size + 1, 0, none⟩) (by show w.heap.size + 1 < _; omega) (.string nm)).set (p := ⟨w.heap.size + 1, 1, none⟩) (by show w.heap.size + 1 < _; omega) (.int .i64 a)).set (p := ⟨w.heap.size + 1, 2, none⟩) (by show w.heap.size + 1 < _; omega) (.int .i64 b)).set (p := ⟨w.heap.size + 1, 3, none⟩) (by show w.heap.size + 1 < _; omega) (.slice A5 n c5)).set (p := ⟨w.heap.size + 1, 4, none⟩) (by show w.heap.size + 1 < _; omega) (.slice A6 m c6)
      have hK := ((((oK.set (p := ⟨w.heap.size + 1, 0, none⟩) (by show w.heap.size + 1 < _; omega) (.string nm)).set (p := ⟨w.heap.size + 1, 1, none⟩) (by show w.heap.size + 1 < _; omega) (.int .i64 a)).set (p := ⟨w.heap.size + 1, 2, none⟩) (by show w.heap.size + 1 < _; omega) (.int .i64 b)).set (p := ⟨w.heap.size + 1, 3, none⟩) (by show w.heap.size + 1 < _; omega) (.slice A5 n c5)).set (p := ⟨w.heap.size + 1, 4, none⟩) (by show w.heap.size + 1 < _; omega) (.slice A6 m c6)
      have hq1 := hl.size
      exact ⟨⟨hN.rw_ (fun _ => rfl), hK.rw_ (fun _ => rfl), hN.fit, hK.fit, HR.out.lt, HR.out.sz, HR.out.szk⟩, hN.base (by omega), hK.base (by omega)⟩
    · exact ((((hl.setCell (p := ⟨w.heap.size + 1, 0, none⟩) (by show w.heap.size ≤ w.heap.size + 1; omega) _).setCell (p := ⟨w.heap.size + 1, 1, none⟩) (by show w.heap.size ≤ w.heap.size + 1; omega) _).setCell (p := ⟨w.heap.size + 1, 2, none⟩) (by show w.heap.size ≤ w.heap.size + 1; omega) _).setCell (p := ⟨w.heap.size + 1, 3, none⟩) (by show w.heap.size ≤ w.heap.size + 1; omega) _).setCell (p := ⟨w.heap.size + 1, 4, none⟩) (by show w.heap.size ≤ w.heap.size + 1; omega) _
end Go.Proofs.YtekobdmlgbffnaaGreatDoor
