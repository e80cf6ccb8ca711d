/- Cz1, VtL, Sk1, MinY: texts of this seat, one behind the other. -/
import Derived.Test.YtekobdmlgbffnaaGreatDoorCg4
import Derived.Test.YtekobdmlgbffnaaGreatDoorG16
import Derived.Test.YtekobdmlgbffnaaGreatDoorG17
import Derived.Test.YtekobdmlgbffnaaGreatDoorCgG
import Derived.Test.YtekobdmlgbffnaaGreatDoorG6
import Derived.BigQuiet
import Derived.Test.YtekobdmlgbffnaaGreatDoorG1
import Derived.WalkKit
import Derived.Lib.Hide
/- The document's own: Find, Token: their contracts. (Written by gen_cgz1.py.) -/
namespace Go.Proofs.YtekobdmlgbffnaaGreatDoor
set_option linter.unusedVariables false
set_option maxRecDepth 100000
set_option linter.unusedSimpArgs false
open Go.RowKit

theorem Ali.size {w : World} {o p : Obj} : ((w.alloc o).alloc p).heap.size = w.heap.size + 2 := by rw [World.size_alloc, World.size_alloc]

set_option maxRecDepth 100000 in
set_option maxHeartbeats 4000000 in
theorem rtoken_ok (q0 q1 q2 q3 : Value) (A : Option Addr) (l : List Tk) (n c : Nat) (s : ByteArray) (w : World) (h : RK w A l) (hn : l.length = n) (hf : n ≤ 9223372036854775807) :
    Calls Tryz.prog 12 #[.agg #[q0, q1, q2, q3, .slice A n c], .string s] w fun e w' => e = .returned (.tuple #[.agg (kcs ((fK s l).getD zeroTk)), .bool (fK s l).isSome]) ∧ Below w.heap.size w w' := by
  have HR := Lib.hid h
  have HN := Lib.hid hn
  obtain ⟨R, hR⟩ : ∃ R, fK s l = R := ⟨_, rfl⟩
  rw [hR]
  have HA := Lib.hid hR
  have HX1 := Lib.hid (show Bx w w.heap.size 33 #[q0, q1, q2, q3, .slice A n c] ((w.alloc (.cells #[q0, q1, q2, q3, .slice A n c] 33)).alloc (.cells #[.string ⟨#[]⟩, .string ⟨#[]⟩, .int .i64 0] 37)) from (Bx.new w _ _).alloc _)
  have HX2 := Lib.hid (show Bx w (w.heap.size + 1) 37 #[.string ⟨#[]⟩, .string ⟨#[]⟩, .int .i64 0] ((w.alloc (.cells #[q0, q1, q2, q3, .slice A n c] 33)).alloc (.cells #[.string ⟨#[]⟩, .string ⟨#[]⟩, .int .i64 0] 37)) from ⟨by have := Bk.new (w.alloc (.cells #[q0, q1, q2, q3, .slice A n c] 33)) 37 #[.string ⟨#[]⟩, .string ⟨#[]⟩, .int .i64 0]; rwa [World.size_alloc] at this, HX1.out.l⟩)
  clear h hn hR
  go_enter Tryz.func12, Tryz.ntmps12
  go_wp2
  obtain ⟨v0, hv0⟩ : ∃ v, (w.alloc (.cells #[q0, q1, q2, q3, .slice A n c] 33)).alloc (.cells #[.string ⟨#[]⟩, .string ⟨#[]⟩, .int .i64 0] 37) = v := ⟨_, rfl⟩
  rw [hv0] at HX1 HX2
  try rw [hv0]
  clear hv0
  go_loopw [6] (fun v6 wr => ∃ (i : Nat), i ≤ n ∧ v6 = .int .i64 (i : Int) ∧ Hid (R = fK s (l.drop i)) ∧ Hid (Bx w w.heap.size 33 #[q0, q1, q2, q3, .slice A n c] wr) ∧ Hid (Bx w (w.heap.size + 1) 37 #[.string ⟨#[]⟩, .string ⟨#[]⟩, .int .i64 0] wr)) (fun v6 _ => n - (intOf v6).toNat)
  case atStart => exact ⟨0, by omega, rfl, Lib.hid (by rw [List.drop_zero]; exact HA.out.symm), HX1, HX2⟩
  case round =>
    obtain ⟨i, hi, rfl, HD, HY, HB⟩ := hrel
    have e4 : wr.cell? ⟨w.heap.size, 4, none⟩ = some (.slice A n c) := HY.out.b.cell 4
    have z0 : wr.cell? ⟨w.heap.size + 1, 0, none⟩ = some (.string ⟨#[]⟩) := HB.out.b.cell 0
    have fz0 := HB.out.b.frozen 0
    have z1 : wr.cell? ⟨w.heap.size + 1, 1, none⟩ = some (.string ⟨#[]⟩) := HB.out.b.cell 1
    have fz1 := HB.out.b.frozen 1
    have z2 : wr.cell? ⟨w.heap.size + 1, 2, none⟩ = some (.int .i64 0) := HB.out.b.cell 2
    have fz2 := HB.out.b.frozen 2
    by_cases hi1 : i < n
    · have hi2 : (i : Int) < (n : Int) := by omega
      obtain ⟨b, o, x, rfl, hx, hc⟩ := HR.out.at3 i (by rw [HN.out]; exact hi1)
      obtain ⟨c0, c1, c2⟩ := hc wr HB.out.l
      have HST := Lib.hid (show fK s (l.drop i) = if nmEq (x.name) s = true then some x else fK s (l.drop (i + 1)) by
        rw [List.drop_eq_getElem_cons (by rw [HN.out]; exact hi1), (List.getElem?_eq_some_iff.1 hx).2]
        unfold fK
        rw [List.find?_cons]
        cases nmEq (x.name) s <;> rfl)
      obtain ⟨xn, xs, xu⟩ := x
      dsimp only at HST c0 c1 c2
      clear hc hx
      cases hq : nmEq xn s with
      | false =>
        rw [hq] at HST
        have hq2 : (xn.toList == s.toList) = false := hq
        clear hq
        go_wp2
        go_roundw
        case rel => exact ⟨i + 1, by omega, by go_num, Lib.hid (by rw [HD.out, HST.out]; rfl), HY, HB⟩
        case measure => simp [intOf]; omega
      | true =>
        rw [hq] at HST
        have hq2 : (xn.toList == s.toList) = true := hq
        clear hq
        go_wp2
        have kU := (((HB.out.b.set 0 (.string xn)).set 1 (.string xs)).set 2 (.int .i64 xu))
        simp only [List.setIfInBounds_toArray, List.set_cons_zero, List.set_cons_succ] at kU
        have hlow := HB.out.l
        refine bodyPost_ret (v := .tuple #[.agg #[.string xn, .string xs, .int .i64 xu], .bool true]) ?_ rfl ⟨?_, ?_⟩
        · have p0 := kU.cell 0; have p1 := kU.cell 1; have p2 := kU.cell 2
          simp [results, Tryz.f12, go_sem, p0, p1, p2]
        · rw [HD.out, HST.out]; rfl
        · exact (((hlow.setCell (p := ⟨w.heap.size + 1, 0, none⟩) (by show w.heap.size ≤ w.heap.size + 1; omega) _).setCell (p := ⟨w.heap.size + 1, 1, none⟩) (by show w.heap.size ≤ w.heap.size + 1; omega) _).setCell (p := ⟨w.heap.size + 1, 2, none⟩) (by show w.heap.size ≤ w.heap.size + 1; omega) _)
    · have hi2 : ¬ (i : Int) < (n : Int) := by omega
      have hnone : R = none := by rw [HD.out, List.drop_eq_nil_of_le (by rw [HN.out]; omega)]; rfl
      subst hnone
      go_wp2
      have kU := (((HB.out.b.set 0 (.string ⟨#[]⟩)).set 1 (.string ⟨#[]⟩)).set 2 (.int .i64 0))
      simp only [List.setIfInBounds_toArray, List.set_cons_zero, List.set_cons_succ] at kU
      have hlow := HB.out.l
      refine bodyPost_ret (v := .tuple #[.agg #[.string ⟨#[]⟩, .string ⟨#[]⟩, .int .i64 0], .bool false]) ?_ rfl ⟨?_, ?_⟩
      · have p0 := kU.cell 0; have p1 := kU.cell 1; have p2 := kU.cell 2
        simp [results, Tryz.f12, go_sem, p0, p1, p2]
      · rfl
      · exact (((hlow.setCell (p := ⟨w.heap.size + 1, 0, none⟩) (by show w.heap.size ≤ w.heap.size + 1; omega) _).setCell (p := ⟨w.heap.size + 1, 1, none⟩) (by show w.heap.size ≤ w.heap.size + 1; omega) _).setCell (p := ⟨w.heap.size + 1, 2, none⟩) (by show w.heap.size ≤ w.heap.size + 1; omega) _)

set_option maxRecDepth 100000 in
set_option maxHeartbeats 4000000 in
theorem rfind_ok (q0 q1 q2 q3 : Value) (A : Option Addr) (l : List Tv) (n c : Nat) (s : ByteArray) (w : World) (h : RT w A l) (hn : l.length = n) (hf : n ≤ 9223372036854775807) :
    Calls Tryz.prog 10 #[.agg #[q0, q1, q2, q3, .slice A n c], .string s] w fun e w' => e = .returned (.tuple #[.agg (tcs ((fT s l).getD zeroTv)), .bool (fT s l).isSome]) ∧ Below w.heap.size w w' := by
  have HR := Lib.hid h
  have HN := Lib.hid hn
  obtain ⟨R, hR⟩ : ∃ R, fT s l = R := ⟨_, rfl⟩
  rw [hR]
  have HA := Lib.hid hR
  have HX1 := Lib.hid (show Bx w w.heap.size 24 #[q0, q1, q2, q3, .slice A n c] ((w.alloc (.cells #[q0, q1, q2, q3, .slice A n c] 24)).alloc (.cells #[.string ⟨#[]⟩, .int .i64 0, .int .i64 0, .slice none 0 0, .slice none 0 0] 33)) from (Bx.new w _ _).alloc _)
  have HX2 := Lib.hid (show Bx w (w.heap.size + 1) 33 #[.string ⟨#[]⟩, .int .i64 0, .int .i64 0, .slice none 0 0, .slice none 0 0] ((w.alloc (.cells #[q0, q1, q2, q3, .slice A n c] 24)).alloc (.cells #[.string ⟨#[]⟩, .int .i64 0, .int .i64 0, .slice none 0 0, .slice none 0 0] 33)) from ⟨by have := Bk.new (w.alloc (.cells #[q0, q1, q2, q3, .slice A n c] 24)) 33 #[.string ⟨#[]⟩, .int .i64 0, .int .i64 0, .slice none 0 0, .slice none 0 0]; rwa [World.size_alloc] at this, HX1.out.l⟩)
  clear h hn hR
  go_enter Tryz.func10, Tryz.ntmps10
  go_wp2
  obtain ⟨v0, hv0⟩ : ∃ v, (w.alloc (.cells #[q0, q1, q2, q3, .slice A n c] 24)).alloc (.cells #[.string ⟨#[]⟩, .int .i64 0, .int .i64 0, .slice none 0 0, .slice none 0 0] 33) = v := ⟨_, rfl⟩
  rw [hv0] at HX1 HX2
  try rw [hv0]
  clear hv0
  go_loopw [6] (fun v6 wr => ∃ (i : Nat), i ≤ n ∧ v6 = .int .i64 (i : Int) ∧ Hid (R = fT s (l.drop i)) ∧ Hid (Bx w w.heap.size 24 #[q0, q1, q2, q3, .slice A n c] wr) ∧ Hid (Bx w (w.heap.size + 1) 33 #[.string ⟨#[]⟩, .int .i64 0, .int .i64 0, .slice none 0 0, .slice none 0 0] wr)) (fun v6 _ => n - (intOf v6).toNat)
  case atStart => exact ⟨0, by omega, rfl, Lib.hid (by rw [List.drop_zero]; exact HA.out.symm), HX1, HX2⟩
  case round =>
    obtain ⟨i, hi, rfl, HD, HY, HB⟩ := hrel
    have e4 : wr.cell? ⟨w.heap.size, 4, none⟩ = some (.slice A n c) := HY.out.b.cell 4
    have z0 : wr.cell? ⟨w.heap.size + 1, 0, none⟩ = some (.string ⟨#[]⟩) := HB.out.b.cell 0
    have fz0 := HB.out.b.frozen 0
    have z1 : wr.cell? ⟨w.heap.size + 1, 1, none⟩ = some (.int .i64 0) := HB.out.b.cell 1
    have fz1 := HB.out.b.frozen 1
    have z2 : wr.cell? ⟨w.heap.size + 1, 2, none⟩ = some (.int .i64 0) := HB.out.b.cell 2
    have fz2 := HB.out.b.frozen 2
    have z3 : wr.cell? ⟨w.heap.size + 1, 3, none⟩ = some (.slice none 0 0) := HB.out.b.cell 3
    have fz3 := HB.out.b.frozen 3
    have z4 : wr.cell? ⟨w.heap.size + 1, 4, none⟩ = some (.slice none 0 0) := HB.out.b.cell 4
    have fz4 := HB.out.b.frozen 4
    by_cases hi1 : i < n
    · have hi2 : (i : Int) < (n : Int) := by omega
      obtain ⟨b, o, x, rfl, hx, h1, hc⟩ := HR.out.at5 i (by rw [HN.out]; exact hi1)
      obtain ⟨c0, c1, c2, c3, c4⟩ := hc wr HB.out.l
      have HST := Lib.hid (show fT s (l.drop i) = if nmEq (x.t.name) s = true then some x else fT s (l.drop (i + 1)) by
        rw [List.drop_eq_getElem_cons (by rw [HN.out]; exact hi1), (List.getElem?_eq_some_iff.1 hx).2]
        unfold fT
        rw [List.find?_cons]
        cases nmEq (x.t.name) s <;> rfl)
      obtain ⟨⟨xn, xa, xb, xl, xk⟩, An, cn, Ak, ck⟩ := x
      dsimp only at HST c0 c1 c2 c3 c4
      clear hc hx
      cases hq : nmEq xn s with
      | false =>
        rw [hq] at HST
        have hq2 : (xn.toList == s.toList) = false := hq
        clear hq
        go_wp2
        go_roundw
        case rel => exact ⟨i + 1, by omega, by go_num, Lib.hid (by rw [HD.out, HST.out]; rfl), HY, HB⟩
        case measure => simp [intOf]; omega
      | true =>
        rw [hq] at HST
        have hq2 : (xn.toList == s.toList) = true := hq
        clear hq
        go_wp2
        have kU := (((((HB.out.b.set 0 (.string xn)).set 1 (.int .i64 xa)).set 2 (.int .i64 xb)).set 3 (.slice An xl.length cn)).set 4 (.slice Ak xk.length ck))
        simp only [List.setIfInBounds_toArray, List.set_cons_zero, List.set_cons_succ] at kU
        have hlow := HB.out.l
        refine bodyPost_ret (v := .tuple #[.agg #[.string xn, .int .i64 xa, .int .i64 xb, .slice An xl.length cn, .slice Ak xk.length ck], .bool true]) ?_ rfl ⟨?_, ?_⟩
        · have p0 := kU.cell 0; have p1 := kU.cell 1; have p2 := kU.cell 2; have p3 := kU.cell 3; have p4 := kU.cell 4
          simp [results, Tryz.f10, go_sem, p0, p1, p2, p3, p4]
        · rw [HD.out, HST.out]; rfl
        · exact (((((hlow.setCell (p := ⟨w.heap.size + 1, 0, none⟩) (by show w.heap.size ≤ w.heap.size + 1; omega) _).setCell (p := ⟨w.heap.size + 1, 1, none⟩) (by show w.heap.size ≤ w.heap.size + 1; omega) _).setCell (p := ⟨w.heap.size + 1, 2, none⟩) (by show w.heap.size ≤ w.heap.size + 1; omega) _).setCell (p := ⟨w.heap.size + 1, 3, none⟩) (by show w.heap.size ≤ w.heap.size + 1; omega) _).setCell (p := ⟨w.heap.size + 1, 4, none⟩) (by show w.heap.size ≤ w.heap.size + 1; omega) _)
    · have hi2 : ¬ (i : Int) < (n : Int) := by omega
      have hnone : R = none := by rw [HD.out, List.drop_eq_nil_of_le (by rw [HN.out]; omega)]; rfl
      subst hnone
      go_wp2
      have kU := (((((HB.out.b.set 0 (.string ⟨#[]⟩)).set 1 (.int .i64 0)).set 2 (.int .i64 0)).set 3 (.slice none 0 0)).set 4 (.slice none 0 0))
      simp only [List.setIfInBounds_toArray, List.set_cons_zero, List.set_cons_succ] at kU
      have hlow := HB.out.l
      refine bodyPost_ret (v := .tuple #[.agg #[.string ⟨#[]⟩, .int .i64 0, .int .i64 0, .slice none 0 0, .slice none 0 0], .bool false]) ?_ rfl ⟨?_, ?_⟩
      · have p0 := kU.cell 0; have p1 := kU.cell 1; have p2 := kU.cell 2; have p3 := kU.cell 3; have p4 := kU.cell 4
        simp [results, Tryz.f10, go_sem, p0, p1, p2, p3, p4]
      · rfl
      · exact (((((hlow.setCell (p := ⟨w.heap.size + 1, 0, none⟩) (by show w.heap.size ≤ w.heap.size + 1; omega) _).setCell (p := ⟨w.heap.size + 1, 1, none⟩) (by show w.heap.size ≤ w.heap.size + 1; omega) _).setCell (p := ⟨w.heap.size + 1, 2, none⟩) (by show w.heap.size ≤ w.heap.size + 1; omega) _).setCell (p := ⟨w.heap.size + 1, 3, none⟩) (by show w.heap.size ≤ w.heap.size + 1; omega) _).setCell (p := ⟨w.heap.size + 1, 4, none⟩) (by show w.heap.size ≤ w.heap.size + 1; omega) _)

end Go.Proofs.YtekobdmlgbffnaaGreatDoor

/- What vault's laws share: a vault that is kept together with the blocks around it. -/
namespace Go.Proofs.YtekobdmlgbffnaaGreatDoor
set_option linter.unusedVariables false
set_option maxRecDepth 100000
set_option linter.unusedSimpArgs false
open Go.RowKit

theorem InCf.on {w u : World} {x : Cv} (h : InCf w x) (hb : Below w.heap.size w u) : InCf u x := ⟨h.rc.on hb, h.n, fun y hy => ⟨(h.each y hy).r.on hb, (h.each y hy).nn, (h.each y hy).nk⟩⟩
/-- A vault at v (its map at mb), the blocks of L, and what was there when the law began. -/
structure Lv (w : World) (v mb : Nat) (c : List Tn) (g : Rev) (L : List (Nat × TypeId × Array Value)) (u : World) : Prop where
  va : Va u v mb c g
  kb : ∀ b ∈ L, Bk u b.1 b.2.1 b.2.2
  l : Below w.heap.size w u
  lv : w.heap.size ≤ mb
section
variable {w u u' : World} {v mb : Nat} {c : List Tn} {g g' : Rev} {L L' : List (Nat × TypeId × Array Value)}
theorem Lv.on (h : Lv w v mb c g L u) (hb : Below u.heap.size u u') : Lv w v mb c g L u' := ⟨h.va.on hb, fun b hL => (h.kb b hL).below hb (h.kb b hL).lt, h.l.trans (hb.mono h.l.size), h.lv⟩
theorem Lv.turn (h : Lv w v mb c g L u) (h' : Va u' v mb c g') (k : Ke [mb] u u') : Lv w v mb c g' L u' := by
  obtain ⟨es, ck, he⟩ := h.va.mp.block
  exact ⟨h', fun b hL => (h.kb b hL).keM k he, h.l.trans (k.below h.l.size (fun x hx => by obtain rfl := List.mem_singleton.1 hx; exact h.lv)), h.lv⟩
theorem Lv.less (h : Lv w v mb c g L u) (hL : ∀ b ∈ L', b ∈ L) : Lv w v mb c g L' u := ⟨h.va, fun b hb => h.kb b (hL b hb), h.l, h.lv⟩
theorem Lv.new (h : Lv w v mb c g L u) (t : TypeId) (cs : Array Value) : Lv w v mb c g ((u.heap.size, t, cs) :: L) (u.alloc (.cells cs t)) := by
  have hb := (Below.refl u.heap.size u).alloc (Nat.le_refl _) (.cells cs t)
  refine ⟨h.va.on hb, fun b hL => ?_, h.l.trans (hb.mono h.l.size), h.lv⟩
  rcases List.mem_cons.1 hL with rfl | hL
  · exact Bk.new u t cs
  · exact (h.kb b hL).below hb (h.kb b hL).lt
theorem Lv.bk (h : Lv w v mb c g L u) {b : Nat} {t : TypeId} {cs : Array Value} (hL : (b, t, cs) ∈ L) : Bk u b t cs := h.kb _ hL
theorem Lv.head {b : Nat} {t : TypeId} {cs : Array Value} (h : Lv w v mb c g ((b, t, cs) :: L) u) : Bk u b t cs := h.kb _ (List.mem_cons_self ..)
end
theorem vnew_no {x : Cv} {w : World} (h : RC w x) (hc : cfgB x.cg = false) : ∀ u, Below w.heap.size w u → Calls Tryz.prog 21 #[.agg (ccs x)] u fun e u' => e = .returned (.pointer none) ∧ Below u.heap.size u u' := fun u hu =>
  (vnew_ok x u (h.on hu)).mono fun e u' hh => by
    obtain ⟨⟨_, h1⟩ | ⟨h1, _⟩, hb⟩ := hh
    · exact ⟨h1, hb⟩
    · rw [hc] at h1; cases h1
theorem vnew_yes {x : Cv} {w : World} (h : RC w x) (hc : cfgB x.cg = true) : ∀ u, Below w.heap.size w u → ∀ L : List (Nat × TypeId × Array Value), (∀ b ∈ L, Bk u b.1 b.2.1 b.2.2) → Calls Tryz.prog 21 #[.agg (ccs x)] u fun e u' => ∃ v mb, e = .returned (.pointer (some ⟨v, 0, none⟩)) ∧ Lv w v mb x.cg.tens [] L u' ∧ u.heap.size ≤ v ∧ u.heap.size ≤ mb ∧ Below u.heap.size u u' := fun u hu L hL =>
  (vnew_ok x u (h.on hu)).mono fun e u' hh => by
    obtain ⟨⟨h1, _⟩ | ⟨_, v, mb, h1, h2, h3, h4, h5⟩, hb⟩ := hh
    · rw [hc] at h1; cases h1
    · exact ⟨v, mb, h1, ⟨h2, fun b hb' => (hL b hb').below hb (hL b hb').lt, hu.trans (hb.mono hu.size), Nat.le_trans hu.size h4⟩, h3, h4, hb⟩
end Go.Proofs.YtekobdmlgbffnaaGreatDoor

/- A hand-shake's memory; New, Who, Over, refused: their contracts. -/
namespace Go.Proofs.YtekobdmlgbffnaaGreatDoor
set_option linter.unusedVariables false
set_option maxRecDepth 100000
set_option linter.unusedSimpArgs false
open Go.RowKit

/-- What lies at a hand-shake, of a vault at v. -/
abbrev shc (v : Nat) : Sk → Array Value
  | .new => #[.func (.func 61) #[.agg #[.pointer (some ⟨v, 0, none⟩)]] #[], .string ⟨#[]⟩]
  | .ask a b n => #[.func (.func 103) #[.agg #[.pointer (some ⟨v, 0, none⟩), .string a, .string b, .string n]] #[], .string ⟨#[]⟩]
  | .known a => #[.nilFunc, .string a]
  | .no => #[.nilFunc, .string ⟨#[]⟩]
abbrev mz : Array Value := #[.int .i64 0, .string ⟨#[]⟩, .string ⟨#[]⟩, .int .i64 0, .int .i64 0]
abbrev set5 (w : World) (g : Nat) (a b c d e : Value) : World := ((((w.setCell ⟨g, 0, none⟩ a).setCell ⟨g, 1, none⟩ b).setCell ⟨g, 2, none⟩ c).setCell ⟨g, 3, none⟩ d).setCell ⟨g, 4, none⟩ e
abbrev set2 (w : World) (g : Nat) (a b : Value) : World := (w.setCell ⟨g, 0, none⟩ a).setCell ⟨g, 1, none⟩ b
theorem Bk.set5 {w : World} {g : Nat} {t : TypeId} {x0 x1 x2 x3 x4 : Value} (h : Bk w g t #[x0, x1, x2, x3, x4]) (a b c d e : Value) : Bk (set5 w g a b c d e) g t #[a, b, c, d, e] := by
  have k := ((((h.set 0 a).set 1 b).set 2 c).set 3 d).set 4 e
  simpa only [List.setIfInBounds_toArray, List.set_cons_zero, List.set_cons_succ] using k
theorem Bk.set2 {w : World} {g : Nat} {t : TypeId} {x0 x1 : Value} (h : Bk w g t #[x0, x1]) (a b : Value) : Bk (set2 w g a b) g t #[a, b] := by
  have k := (h.set 0 a).set 1 b
  simpa only [List.setIfInBounds_toArray, List.set_cons_zero, List.set_cons_succ] using k
theorem Bk.far5 {w : World} {g k : Nat} {t : TypeId} {cs : Array Value} (h : Bk w k t cs) (hn : k ≠ g) (a b c d e : Value) : Bk (Proofs.YtekobdmlgbffnaaGreatDoor.set5 w g a b c d e) k t cs :=
  ((((h.far (p := ⟨g, 0, none⟩) hn a).far (p := ⟨g, 1, none⟩) hn b).far (p := ⟨g, 2, none⟩) hn c).far (p := ⟨g, 3, none⟩) hn d).far (p := ⟨g, 4, none⟩) hn e
theorem Bk.far2 {w : World} {g k : Nat} {t : TypeId} {cs : Array Value} (h : Bk w k t cs) (hn : k ≠ g) (a b : Value) : Bk (Proofs.YtekobdmlgbffnaaGreatDoor.set2 w g a b) k t cs :=
  (h.far (p := ⟨g, 0, none⟩) hn a).far (p := ⟨g, 1, none⟩) hn b
theorem below_set5 {w u : World} {B g : Nat} (h : Below B w u) (hg : B ≤ g) (a b c d e : Value) : Below B w (set5 u g a b c d e) :=
  ((((h.setCell (p := ⟨g, 0, none⟩) hg a).setCell (p := ⟨g, 1, none⟩) hg b).setCell (p := ⟨g, 2, none⟩) hg c).setCell (p := ⟨g, 3, none⟩) hg d).setCell (p := ⟨g, 4, none⟩) hg e
theorem below_set2 {w u : World} {B g : Nat} (h : Below B w u) (hg : B ≤ g) (a b : Value) : Below B w (set2 u g a b) :=
  (h.setCell (p := ⟨g, 0, none⟩) hg a).setCell (p := ⟨g, 1, none⟩) hg b
/-- Where what a step says, and what comes next, is laid: behind all that was there. -/
structure Two (B g : Nat) (w u : World) (m s : Array Value) : Prop where
  lo : B ≤ g
  m : Bk u g 55 m
  s : Bk u (g + 1) 114 s
  l : Below B w u
theorem Two.new (w u : World) (B : Nat) (h : Below B w u) (hB : B ≤ u.heap.size) (s : Array Value) : Two B u.heap.size w ((u.alloc (.cells mz 55)).alloc (.cells s 114)) mz s := by
  refine ⟨hB, (Bk.new u _ _).alloc _, ?_, (h.alloc hB _).alloc (by rw [World.size_alloc]; omega) _⟩
  have := Bk.new (u.alloc (.cells mz 55)) 114 s
  rwa [World.size_alloc] at this
theorem Two.on {B g : Nat} {w u v : World} {m s : Array Value} (h : Two B g w u m s) (hb : Below u.heap.size u v) : Two B g w v m s :=
  ⟨h.lo, h.m.below hb h.m.lt, h.s.below hb h.s.lt, h.l.trans (hb.mono (by have := h.m.lt; have := h.lo; omega))⟩
theorem Two.set {B g : Nat} {w u : World} {x0 x1 x2 x3 x4 y0 y1 : Value} (h : Two B g w u #[x0, x1, x2, x3, x4] #[y0, y1]) (a b c d e p q : Value) : Two B g w (set2 (set5 u g a b c d e) (g + 1) p q) #[a, b, c, d, e] #[p, q] :=
  ⟨h.lo, (h.m.set5 a b c d e).far2 (by omega) p q, (h.s.far5 (by omega) a b c d e).set2 p q, below_set2 (below_set5 h.l h.lo a b c d e) (by have := h.lo; omega) p q⟩
theorem Two.setM {B g : Nat} {w u : World} {x0 x1 x2 x3 x4 : Value} {s : Array Value} (h : Two B g w u #[x0, x1, x2, x3, x4] s) (a b c d e : Value) : Two B g w (set5 u g a b c d e) #[a, b, c, d, e] s :=
  ⟨h.lo, h.m.set5 a b c d e, h.s.far5 (by omega) a b c d e, below_set5 h.l h.lo a b c d e⟩
theorem Two.setS {B g : Nat} {w u : World} {y0 y1 : Value} {m : Array Value} (h : Two B g w u m #[y0, y1]) (p q : Value) : Two B g w (set2 u (g + 1) p q) m #[p, q] :=
  ⟨h.lo, h.m.far2 (by omega) p q, h.s.set2 p q, below_set2 h.l (by have := h.lo; omega) p q⟩

set_option maxRecDepth 100000 in
set_option maxHeartbeats 1000000 in
theorem refused_ok (n : Int) (w : World) : Calls Tryz.prog 101 #[.int .i64 n] w fun e u' => e = .returned (.tuple #[.agg #[.int .i64 5, .string ⟨#[]⟩, .string ⟨#[]⟩, .int .i64 n, .int .i64 0], .agg #[.nilFunc, .string ⟨#[]⟩]]) ∧ Below w.heap.size w u' := by
  obtain ⟨w3, hw3⟩ : ∃ w3, (w.alloc (.cells mz 55)).alloc (.cells #[.nilFunc, .string ⟨#[]⟩] 114) = w3 := ⟨_, rfl⟩
  have HT := Lib.hid (show Two w.heap.size w.heap.size w w3 mz #[.nilFunc, .string ⟨#[]⟩] by rw [← hw3]; exact Two.new w w _ (Below.refl _ _) (Nat.le_refl _) _)
  have z0 : w3.cell? ⟨w.heap.size, 0, none⟩ = some (.int .i64 0) := HT.out.m.cell 0
  have z1 : w3.cell? ⟨w.heap.size, 1, none⟩ = some (.string ⟨#[]⟩) := HT.out.m.cell 1
  have z2 : w3.cell? ⟨w.heap.size, 2, none⟩ = some (.string ⟨#[]⟩) := HT.out.m.cell 2
  have z3 : w3.cell? ⟨w.heap.size, 3, none⟩ = some (.int .i64 0) := HT.out.m.cell 3
  have z4 : w3.cell? ⟨w.heap.size, 4, none⟩ = some (.int .i64 0) := HT.out.m.cell 4
  have y0 : w3.cell? ⟨w.heap.size + 1, 0, none⟩ = some .nilFunc := HT.out.s.cell 0
  have y1 : w3.cell? ⟨w.heap.size + 1, 1, none⟩ = some (.string ⟨#[]⟩) := HT.out.s.cell 1
  have f0 := HT.out.m.frozen 0
  have f1 := HT.out.m.frozen 1
  have f2 := HT.out.m.frozen 2
  have f3 := HT.out.m.frozen 3
  have f4 := HT.out.m.frozen 4
  have d0 := HT.out.s.frozen 0
  have d1 := HT.out.s.frozen 1
  go_enter Tryz.func101, Tryz.ntmps101
  go_wp2
  have HU := HT.out.set (.int .i64 5) (.string ⟨#[]⟩) (.string ⟨#[]⟩) (.int .i64 n) (.int .i64 0) .nilFunc (.string ⟨#[]⟩)
  refine bodyPost_ret (v := .tuple #[.agg #[.int .i64 5, .string ⟨#[]⟩, .string ⟨#[]⟩, .int .i64 n, .int .i64 0], .agg #[.nilFunc, .string ⟨#[]⟩]]) ?_ rfl ⟨rfl, HU.l⟩
  have p0 := HU.m.cell 0; have p1 := HU.m.cell 1; have p2 := HU.m.cell 2; have p3 := HU.m.cell 3; have p4 := HU.m.cell 4
  have q0 := HU.s.cell 0; have q1 := HU.s.cell 1
  simp [results, Tryz.f101, go_sem, p0, p1, p2, p3, p4, q0, q1]

set_option maxHeartbeats 400000 in
theorem snew_ok (v : Nat) (w : World) : Calls Tryz.prog 23 #[.pointer (some ⟨v, 0, none⟩)] w fun e u' => e = .returned (.pointer (some ⟨w.heap.size, 0, none⟩)) ∧ Bk u' w.heap.size 114 (shc v .new) ∧ Below w.heap.size w u' := by
  have hmf : ∀ (fn : Fn) (first cap : Array Value) (w : World), (Instr.makeFunc fn first cap).run Tryz.prog w = .ok (.func fn first cap) w := fun _ _ _ _ => rfl
  go_enter Tryz.func23, Tryz.ntmps23
  go_wp2
  go_ret
  exact ⟨rfl, Bk.new w _ _, (Below.refl _ _).alloc (Nat.le_refl _) _⟩

theorem shc_over (v : Nat) (s : Sk) (h : ovS s = true) : ∃ a, shc v s = #[.nilFunc, .string a] ∧ whS s = a := by
  cases s with
  | new => cases h
  | ask a b n => cases h
  | known a => exact ⟨a, rfl, rfl⟩
  | no => exact ⟨_, rfl, rfl⟩
theorem shc_on (v : Nat) (s : Sk) (h : ovS s = false) : ∃ f r, shc v s = #[.func f r #[], .string ⟨#[]⟩] ∧ whS s = ⟨#[]⟩ := by
  cases s with
  | new => exact ⟨_, _, rfl, rfl⟩
  | ask a b n => exact ⟨_, _, rfl, rfl⟩
  | known a => cases h
  | no => cases h
theorem kn_who (s : Sk) (h : skB s) : knS s = !(whS s).toList.isEmpty := by
  have h0 : (false = !(⟨#[]⟩ : ByteArray).toList.isEmpty) := by rw [ByteArray.toList_eq]; rfl
  cases s with
  | new => exact h0
  | ask a b n => exact h0
  | no => exact h0
  | known a =>
    show true = !a.toList.isEmpty
    have h1 : 1 ≤ a.size := h
    have h2 : a.toList ≠ [] := by
      intro e
      rw [ByteArray.toList_eq] at e
      have h3 : a.data.toList.length = a.size := rfl
      rw [e] at h3
      simp at h3
      omega
    cases hq : a.toList with
    | nil => exact absurd hq h2
    | cons x r => rfl

theorem nil_eq (w : World) : (binOp BinOp.eql 112 .nilFunc .nilFunc).run Tryz.prog w = .ok (.bool true) w := by kernel_rfl
theorem func_ne (f : Fn) (r : Array Value) (w : World) : (binOp BinOp.eql 112 (.func f r #[]) .nilFunc).run Tryz.prog w = .ok (.bool false) w := by kernel_rfl
set_option maxHeartbeats 400000 in
theorem over_nil (sb : Nat) (a : ByteArray) (w : World) (h : Bk w sb 114 #[.nilFunc, .string a]) : Calls Tryz.prog 31 #[.pointer (some ⟨sb, 0, none⟩)] w fun e u' => e = .returned (.bool true) ∧ u' = w := by
  have e0 : w.cell? ⟨sb, 0, none⟩ = some (.nilFunc) := h.cell 0
  have hq := nil_eq
  clear h
  go_enter Tryz.func31, Tryz.ntmps31
  go_wp2
  go_ret
  exact ⟨rfl, rfl⟩
set_option maxHeartbeats 400000 in
theorem over_func (sb : Nat) (f : Fn) (r : Array Value) (a : ByteArray) (w : World) (h : Bk w sb 114 #[.func f r #[], .string a]) : Calls Tryz.prog 31 #[.pointer (some ⟨sb, 0, none⟩)] w fun e u' => e = .returned (.bool false) ∧ u' = w := by
  have e0 : w.cell? ⟨sb, 0, none⟩ = some (.func f r #[]) := h.cell 0
  have hq := func_ne f r
  clear h
  go_enter Tryz.func31, Tryz.ntmps31
  go_wp2
  go_ret
  exact ⟨rfl, rfl⟩
theorem sover_ok (sb v : Nat) (s : Sk) (w : World) (h : Bk w sb 114 (shc v s)) : Calls Tryz.prog 31 #[.pointer (some ⟨sb, 0, none⟩)] w fun e u' => e = .returned (.bool (ovS s)) ∧ Below w.heap.size w u' := by
  cases ho : ovS s with
  | true =>
    obtain ⟨a, e1, _⟩ := shc_over v s ho
    rw [e1] at h
    exact (over_nil sb a w h).mono fun e u hh => ⟨hh.1, by rw [hh.2]; exact Below.refl _ _⟩
  | false =>
    obtain ⟨f, r, e1, _⟩ := shc_on v s ho
    rw [e1] at h
    exact (over_func sb f r _ w h).mono fun e u hh => ⟨hh.1, by rw [hh.2]; exact Below.refl _ _⟩
set_option maxHeartbeats 400000 in
theorem swho_ok (sb v : Nat) (s : Sk) (w : World) (h : Bk w sb 114 (shc v s)) (hs : skB s) : Calls Tryz.prog 29 #[.pointer (some ⟨sb, 0, none⟩)] w fun e u' => e = .returned (.tuple #[.string (whS s), .bool (knS s)]) ∧ Below w.heap.size w u' := by
  have e1 : w.cell? ⟨sb, 1, none⟩ = some (.string (whS s)) := by
    have := h.cell 1
    cases s <;> exact this
  rw [kn_who s hs]
  obtain ⟨a, ha⟩ : ∃ a, whS s = a := ⟨_, rfl⟩
  rw [ha] at e1 ⊢
  clear h ha hs
  go_enter Tryz.func29, Tryz.ntmps29
  go_upto_region 1 with fail
  go_quiet (fail)
  go_wp2
  all_goals go_ret2
  all_goals exact ⟨rfl, by first | exact Below.refl _ _ | exact Below.drewN' (Below.refl _ _) _⟩
end Go.Proofs.YtekobdmlgbffnaaGreatDoor

/- min as one operation of a region that draws its order. -/
namespace Go.Proofs.YtekobdmlgbffnaaGreatDoor
set_option linter.unusedVariables false
set_option maxRecDepth 100000
set_option linter.unusedSimpArgs false
open Go.RowKit

theorem yieldsIf_min {P : Program} {ops : Array Oper} {S : World → Prop} {oi : Oper} {a : Act} (hw : Region.wanted oi (yielded ops a.tmps) = true) (x y : Operand) (t : TypeId) (ho : oi.op = .call { callee := .builtin .min, args := #[x, y], argTypes := #[t, t] }) (u v m : Int) (hx : a.eval x = .int .i64 u) (hy : a.eval y = .int .i64 v) (hm : min u v = m) : YieldsIf P ops S oi (.int .i64 m) a :=
  .inl ⟨hw, fun w _ => by
    have e : (if v < u then v else u) = min u v := by split <;> omega
    have hr : (Builtin.min_ #[t, t] oi.type #[.int .i64 u, .int .i64 v]).run P w = .ok (.int .i64 (min u v)) w := by rw [← e]; simp [Builtin.min_, Builtin.min2]
    unfold execOp
    simp only [ho, resolve, invoke, builtin, Sem.run_bind, Sem.run_pure, Result.andThen_ok, List.map_toArray, List.map_cons, List.map_nil, hx, hy, hr, hm]⟩
end Go.Proofs.YtekobdmlgbffnaaGreatDoor
