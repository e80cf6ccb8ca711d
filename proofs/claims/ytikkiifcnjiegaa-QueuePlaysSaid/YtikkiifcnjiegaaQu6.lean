/- A queue's Put: its contract. -/
import Derived.Test.YtikkiifcnjiegaaG7
namespace Go.Proofs.Ytikkiifcnjiegaa
set_option linter.unusedVariables false
set_option maxRecDepth 100000
set_option linter.unusedSimpArgs false
open Go.RowKit

section
variable {u u' : World} {qb mr mw : Nat} {ns : List ByteArray} {ad ar cp : ByteArray → Nat} {q : List Qn}
theorem Ke.grown {w w' : World} {a : Nat} (h : w.grownBy w' (some a)) : Ke [a] w w' := ⟨h.os, h.tape, h.output, h.size, fun k hk hn => h.block k hk (fun e => hn (by injection e with e; simp [e]))⟩
theorem Ke.grown0 {w w' : World} (h : w.grownBy w' none) : Ke [] w w' := ⟨h.os, h.tape, h.output, h.size, fun k hk _ => h.block k hk (by simp)⟩
/-- What Put leaves. -/
structure PutPostQ (u : World) (qb mr mw : Nat) (ns : List ByteArray) (ad ar cp : ByteArray → Nat) (q : List Qn) (s : ByteArray) (id : Int) (e : Ending) (u' : World) : Prop where
  e : e = .returned (.int .i64 (puQ q s id).1)
  z : ∃ ns' ad' ar' cp', Zq u' qb mr mw ns' ad' ar' cp' (puQ q s id).2 ∧ ∀ y ∈ ftQ qb mr mw ns' ad' ar', y ∈ ftQ qb mr mw ns ad ar ∨ u.heap.size ≤ y
  k : Ke (ftQ qb mr mw ns ad ar) u u'
theorem Zq.put_no (h : Zq u qb mr mw ns ad ar cp q) {s : ByteArray} {id x : Int} (hp : puQ q s id = (x, q)) (hb : Below u.heap.size u u') : PutPostQ u qb mr mw ns ad ar cp q s id (.returned (.int .i64 x)) u' :=
  ⟨by rw [hp], ⟨ns, ad, ar, cp, by rw [hp]; exact h.on hb, fun y hy => .inl hy⟩, (Ke.of hb).nil⟩
set_option maxRecDepth 100000 in
set_option maxHeartbeats 8000000 in
theorem qput_ok (h : Zq u qb mr mw ns ad ar cp q) (s : ByteArray) (id : Int) (hs : s.size ≤ 140737488355328) (hid : WfI id) :
    Calls Try.prog 17 #[.pointer (some ⟨qb, 0, none⟩), .string s, .int .i64 id] u (PutPostQ u qb mr mw ns ad ar cp q s id) := by
  have c1 : u.cell? ⟨qb, 1, none⟩ = some (.map (some mw)) := h.blk.cell 1
  have c0 : u.cell? ⟨qb, 0, none⟩ = some (.map (some mr)) := h.blk.cell 0
  have HMA := Lib.hid (qmany_ok h)
  obtain ⟨m, hm⟩ : ∃ m, q.length = m := ⟨_, rfl⟩
  have hm64 : m ≤ 64 := by rw [← hm]; exact h.ok.few
  rw [hm] at HMA
  rcases pu_cases q s id with ⟨hw, hp⟩ | ⟨hw, hfull, hp⟩ | ⟨hw, h8, h64, hp⟩
  · obtain ⟨x, hx, rfl⟩ := wh_isSome.1 hw
    have hl := h.mw_.hit (x := (x.id, ad x.nm)) (List.mem_map.2 ⟨x, hx, rfl⟩)
    have HP := Lib.hid (h.put_no hp (Below.refl _ _))
    dsimp only at hl
    clear h hw hp hx hm
    go_enter Try.func17, Try.ntmps17
    go_wp2_with fail
    go_ret
    exact HP.out
  · have hl := h.mw_.miss hid (by
      intro x hx e
      obtain ⟨y, hy, rfl⟩ := List.mem_map.1 hx
      rw [wh_isSome.2 ⟨y, hy, e⟩] at hw
      cases hw)
    have HP := Lib.hid (fun u' (hb : Below u.heap.size u u') => h.put_no hp hb)
    by_cases hn : s ∈ ns
    · have hl2 := h.mr_.hit (s := s) (b := ad s) (List.mem_map.2 ⟨s, hn, rfl⟩)
      have r1 : u.cell? ⟨ad s, 1, none⟩ = some (.slice (some ⟨ar s, 0, none⟩) (liQ q s).length (cp s)) := (h.row s hn).1.cell 1
      obtain ⟨n, hn0⟩ : ∃ n, (liQ q s).length = n := ⟨_, rfl⟩
      rw [hn0] at r1 hfull
      rw [hm] at hfull
      clear h hw hp hn0 hm hn
      by_cases h8 : n ≥ 8
      · have e8 : (n : Int) ≥ 8 := by omega
        go_enter Try.func17, Try.ntmps17
        go_wp2_with fail
        go_ret
        exact HP.out _ (Below.refl _ _)
      · have e8 : ¬ (n : Int) ≥ 8 := by omega
        have e8b : decide ((n : Int) ≥ 8) = false := decide_eq_false e8
        have e8c : decide ((8 : Int) ≤ (n : Int)) = false := decide_eq_false e8
        have e64 : (m : Int) ≥ 64 := by omega
        go_enter Try.func17, Try.ntmps17
        go_wp2_with (go_at_call 21; (with_reducible refine HMA.out.mono ?_); rintro e u2 ⟨rfl, h2⟩; have HB2 := Lib.hid h2; clear h2)
        go_ret
        exact HP.out _ HB2.out
    · have hl2 := h.mr_.miss hs (by
        intro x hx e
        obtain ⟨y, hy, rfl⟩ := List.mem_map.1 hx
        exact hn (by rw [← show y = s from e]; exact hy))
      have e0 : liQ q s = [] := by
        cases hq : liQ q s with
        | nil => rfl
        | cons a r => exact absurd ((h.nm s).2 (by rw [hq]; exact List.cons_ne_nil _ _)) hn
      rw [e0, hm] at hfull
      have e64 : (m : Int) ≥ 64 := by simp at hfull; omega
      clear h hw hp e0 hm hn
      go_enter Try.func17, Try.ntmps17
      go_wp2_with (go_at_call 21; (with_reducible refine HMA.out.mono ?_); rintro e u2 ⟨rfl, h2⟩; have HB2 := Lib.hid h2; clear h2)
      go_ret
      exact HP.out _ HB2.out
  · have hno : ∀ x ∈ q, x.id ≠ id := fun x hx e => by
      rw [wh_isSome.2 ⟨x, hx, e⟩] at hw
      cases hw
    have hno2 : ∀ x ∈ (q.map fun x => (x.id, ad x.nm)), x.1 ≠ id := by
      intro x hx e
      obtain ⟨y, hy, rfl⟩ := List.mem_map.1 hx
      exact hno y hy e
    have hl := h.mw_.miss hid hno2
    rw [hm] at h64
    have e64 : ¬ (m : Int) ≥ 64 := by omega
    have e64b : decide ((m : Int) ≥ 64) = false := decide_eq_false e64
    have e64c : decide ((64 : Int) ≤ (m : Int)) = false := decide_eq_false e64
    have HZ := Lib.hid h
    have HP := Lib.hid hp
    have HNO := Lib.hid hno2
    have HID := Lib.hid hid
    have HS := Lib.hid hs
    have HM := Lib.hid hm
    by_cases hn : s ∈ ns
    · have hl2 := h.mr_.hit (s := s) (b := ad s) (List.mem_map.2 ⟨s, hn, rfl⟩)
      have r1 : u.cell? ⟨ad s, 1, none⟩ = some (.slice (some ⟨ar s, 0, none⟩) (liQ q s).length (cp s)) := (h.row s hn).1.cell 1
      obtain ⟨n, hn0⟩ : ∃ n, (liQ q s).length = n := ⟨_, rfl⟩
      have HNS := Lib.hid hn
      have HN := Lib.hid hn0
      rw [hn0] at r1 h8
      have e8 : ¬ (n : Int) ≥ 8 := by omega
      have e8b : decide ((n : Int) ≥ 8) = false := decide_eq_false e8
      have e8c : decide ((8 : Int) ≤ (n : Int)) = false := decide_eq_false e8
      clear h hw hp hn0 hm hn hno hno2 hid hs
      go_enter Try.func17, Try.ntmps17
      go_upto_region 10 with (go_at_call 21; (with_reducible refine HMA.out.mono ?_); rintro e u2 ⟨rfl, h2⟩; have HB2 := Lib.hid h2; clear h2)
      have r2 : u2.cell? ⟨ad s, 1, none⟩ = some (.slice (some ⟨ar s, 0, none⟩) n (cp s)) := by rw [← HN.out]; exact ((HZ.out.row s HNS.out).1.below HB2.out (HZ.out.row s HNS.out).1.lt).cell 1
      have HZ2 := Lib.hid (HZ.out.on HB2.out)
      have HO3 := Lib.hid (((HZ2.out.row s HNS.out).2.keep (w' := u2.alloc (.cells #[.int .i64 id] 3)) fun g cs _ hh => hh.alloc _))
      have HC3 := Lib.hid (show (u2.alloc (.cells #[.int .i64 id] 3)).cell? ⟨u2.heap.size, 0, none⟩ = some (.int .i64 id) from (Bk.new u2 3 #[.int .i64 id]).cell 0)
      clear c0 c1 r1 hl hl2
      go_upto_region 11 with (at_builtin; refine wp_int_at rfl (.tmp 61) (.tmp 63) rfl (liQ q s) (some ⟨ar s, 0, none⟩) n (cp s) rfl HN.out HO3.out id u2.heap.size 1 rfl HC3.out (by omega) (n + 1) rfl ?_; intro g c2 w4 HA; have HK4 := Lib.hid (show Ke [ar s] u2 w4 from ((Ke.refl [ar s] u2).alloc _).trans (Ke.grown HA.out.2.1)); have HR4 := Lib.hid ((HZ2.out.row s HNS.out).1.ke HK4.out (by obtain ⟨cs, hc⟩ := (HZ2.out.row s HNS.out).2.bk; simpa using bk_ne (HZ2.out.row s HNS.out).1 hc (by decide))); have f4 := HR4.out.frozen 1; have r4 : w4.cell? ⟨ad s, 1, none⟩ = some (.slice (some ⟨ar s, 0, none⟩) (liQ q s).length (cp s)) := HR4.out.cell 1)
      obtain ⟨w5, hw5⟩ : ∃ w5, w4.setCell ⟨ad s, 1, none⟩ (.slice (some ⟨g, 0, none⟩) (n + 1) c2) = w5 := ⟨_, rfl⟩
      have HK5 := Lib.hid (show Ke [ad s, ar s] u2 w5 by rw [← hw5]; exact (HK4.out.more (by simp)).set (p := ⟨ad s, 1, none⟩) (by simp) _)
      have HR5 := Lib.hid (show Bk w5 (ad s) 55 (qrc s (some ⟨g, 0, none⟩) (n + 1) c2) by rw [← hw5]; exact HR4.out.set 1 _)
      have HO5 := Lib.hid (show OI w5 0 (some ⟨g, 0, none⟩) c2 (liQ q s ++ [id]) by
        rw [← hw5]
        refine HA.out.1.keep fun g2 cs hg hh => hh.far ?_ _
        exact (bk_ne HR4.out hh (by decide)).symm)
      have HGG := Lib.hid (show g = ar s ∨ u.heap.size ≤ g by
        rcases HA.out.2.2 with e | e
        · simp [Value.ownBlock] at e; exact .inl e.symm
        · rw [e, World.size_alloc]; have := HB2.out.size; exact .inr (by omega))
      have HMR := Lib.hid (show (mr ∉ [ad s, ar s] ∧ mw ∉ [ad s, ar s] ∧ qb ∉ [ad s, ar s]) ∧ mr ∉ [mw] ∧ qb ∉ [mw] ∧ ad s ∉ [mw] ∧ g ≠ mw by
        obtain ⟨cs, hc⟩ := (HZ2.out.row s HNS.out).2.bk
        obtain ⟨cs5, hc5⟩ := HO5.out.bk
        have hrow := (HZ2.out.row s HNS.out).1
        have n1 := bk_map hrow HZ2.out.mw_.block
        have n2 := bk_map hc HZ2.out.mw_.block
        have n3 := bk_map HZ2.out.blk HZ2.out.mw_.block
        have n4 := bk_map hrow HZ2.out.mr_.block
        have n5 := bk_map hc HZ2.out.mr_.block
        have n7 := bk_ne HZ2.out.blk hrow (by decide)
        have n8 := bk_ne HZ2.out.blk hc (by decide)
        refine ⟨⟨by simp [n4.symm, n5.symm], by simp [n1.symm, n2.symm], by simp [n7, n8]⟩, by simpa using HZ2.out.two, by simpa using n3, by simpa using n1, ?_⟩
        rcases HGG.out with e | e
        · rw [e]; exact n2
        · have := HZ.out.mw_.lt; omega)
      obtain ⟨w6, hst, hm6, hk6⟩ := (HZ2.out.mw_.ke HK5.out HMR.out.1.2.1).store (by rw [List.length_map, HM.out]; omega) (id, ad s) HID.out HNO.out
      dsimp only at hst
      have HM6 := Lib.hid hm6
      have HK6 := Lib.hid hk6
      have q5 : w5.cell? ⟨qb, 1, none⟩ = some (.map (some mw)) := (HZ2.out.blk.ke HK5.out HMR.out.1.2.2).cell 1
      rw [hw5]
      clear hw5 f4 r4 r2 hm6 hk6
      go_wp2_with fail
      go_ret
      obtain ⟨z1, z2, z3⟩ := HZ.out.more HP.out (L := [mw, ad s, ar s]) (b := ad s) (g := g) (c := c2) (ns' := ns) (((Ke.of HB2.out).nil.trans (HK5.out.more (by simp))).trans (HK6.out.more (by simp))) (by simp [HNS.out])
        (by
          have e : (ns.map fun t => (t, fup ad s (ad s) t)) = ns.map fun t => (t, ad t) := List.map_congr_left fun t _ => by
            by_cases e : t = s
            · rw [e, fup_same]
            · rw [fup_far e]
          rw [e]
          exact (HZ2.out.mr_.ke HK5.out HMR.out.1.1).ke HK6.out HMR.out.2.1)
        HM6.out (by
          rw [List.length_append, HN.out]
          exact HR5.out.ke HK6.out HMR.out.2.2.2.1) (HO5.out.keep fun g2 cs hg hh => hh.ke HK6.out (by simp [Value.ownBlock] at hg; subst hg; simpa using HMR.out.2.2.2.2))
        (fun t => ⟨fun hh => .inl hh, fun hh => hh.elim (fun x => x) (fun e => e ▸ HNS.out)⟩) (.inl ⟨HNS.out, rfl⟩) (HGG.out.imp (fun e => ⟨HNS.out, e⟩) (fun x => x))
      exact ⟨by rw [HP.out]; rfl, ⟨_, _, _, _, by rw [HP.out]; exact z1, z3⟩, z2⟩
    · have hl2 := h.mr_.miss hs (by
        intro x hx e
        obtain ⟨y, hy, rfl⟩ := List.mem_map.1 hx
        exact hn (by rw [← show y = s from e]; exact hy))
      have e0 : liQ q s = [] := by
        cases hq : liQ q s with
        | nil => rfl
        | cons a r => exact absurd ((h.nm s).2 (by rw [hq]; exact List.cons_ne_nil _ _)) hn
      have HNS := Lib.hid hn
      have HE0 := Lib.hid e0
      have HNR := Lib.hid (fun u2 => newRow_ok s u2 hs)
      clear h hw hp e0 hm hn hno hno2 hid hs
      go_enter Try.func17, Try.ntmps17
      go_upto_region 9 with (first
        | (go_at_call 21; (with_reducible refine HMA.out.mono ?_); rintro e u2 ⟨rfl, h2⟩; have HB2 := Lib.hid h2; clear h2)
        | (go_at_call 27; (with_reducible refine (HNR.out _).mono ?_); rintro e u3 ⟨b, rfl, h1, h2, h3⟩; have HBN := Lib.hid h1; have HR3 := Lib.hid h2; have HB3 := Lib.hid (HB2.out.trans (h3.mono HB2.out.size)); clear h1 h2 h3))
      have HZ3 := Lib.hid (HZ.out.on HB3.out)
      have HBL := Lib.hid (show u.heap.size ≤ b from Nat.le_trans HB2.out.size HBN.out)
      have hlen : (outM s (ns.map fun t => (t, ad t))).length ≤ 1024 := by
        refine Nat.le_trans (List.length_filter_le _ _) ?_
        rw [List.length_map]
        have := HZ.out.few
        rw [HM.out] at this
        omega
      obtain ⟨w4, hst, hm4, hk4⟩ := (HZ3.out.mr_.ke (L := []) (Ke.refl _ _).drew (by simp)).store (s := s) hlen b HS.out
      have HM4 := Lib.hid hm4
      have HK4 := Lib.hid hk4
      have q3 : u3.cell? ⟨qb, 0, none⟩ = some (.map (some mr)) := HZ3.out.blk.cell 0
      have r3 : u3.cell? ⟨b, 0, none⟩ = some (.string s) := HR3.out.cell 0
      have HMR := Lib.hid (show (b ∉ [mr] ∧ mw ∉ [mr] ∧ qb ∉ [mr]) ∧ b ≠ mw ∧ b ≠ qb ∧ b ≠ mr by
        have h1 := HZ.out.mr_.lt
        have h2 := HZ.out.mw_.lt
        have h3 := HZ.out.blk.lt
        have h4 := HBL.out
        have h5 := HZ.out.two
        have h6 := bk_map HZ.out.blk HZ.out.mr_.block
        exact ⟨⟨by simp; omega, by simpa using h5.symm, by simpa using h6⟩, by omega, by omega, by omega⟩)
      clear c0 c1 hl hl2 hm4 hk4 hlen
      go_upto_region 9 with fail
      go_region
      have HK4' := Lib.hid (show Ke [mr] u3 w4 from ((Ke.refl [mr] u3).drew).trans HK4.out)
      have HR4 := Lib.hid (HR3.out.ke HK4'.out HMR.out.1.1)
      have r4 : w4.cell? ⟨b, 1, none⟩ = some (.slice none 0 0) := HR4.out.cell 1
      clear hst q3 r3
      have HO5 := Lib.hid (OI.nil (w4.alloc (.cells #[.int .i64 id] 3)) 0)
      have HC5 := Lib.hid (show (w4.alloc (.cells #[.int .i64 id] 3)).cell? ⟨w4.heap.size, 0, none⟩ = some (.int .i64 id) from (Bk.new w4 3 #[.int .i64 id]).cell 0)
      go_upto_region 11 with (at_builtin; refine wp_int_at rfl (.tmp 61) (.tmp 63) rfl [] none 0 0 rfl rfl HO5.out id w4.heap.size 1 rfl HC5.out (by omega) 1 rfl ?_; intro g c2 w6 HA; have HK6 := Lib.hid (show Ke [] w4 w6 from ((Ke.refl [] w4).alloc _).trans (Ke.grown0 HA.out.2.1)); have HR6 := Lib.hid (HR4.out.ke HK6.out (by simp)); have f6 := HR6.out.frozen 1; have r6 : w6.cell? ⟨b, 1, none⟩ = some (.slice none 0 0) := HR6.out.cell 1)
      obtain ⟨w7, hw7⟩ : ∃ w7, w6.setCell ⟨b, 1, none⟩ (.slice (some ⟨g, 0, none⟩) 1 c2) = w7 := ⟨_, rfl⟩
      have HG := Lib.hid (show u3.heap.size ≤ g by
        rcases HA.out.2.2 with e | e
        · cases e
        · rw [e, World.size_alloc]; have := HK4'.out.size; omega)
      have HK7 := Lib.hid (show Ke [b] w4 w7 by rw [← hw7]; exact (HK6.out.nil).set (p := ⟨b, 1, none⟩) (by simp) _)
      have HR7 := Lib.hid (show Bk w7 b 55 (qrc s (some ⟨g, 0, none⟩) 1 c2) by rw [← hw7]; exact HR6.out.set 1 _)
      have HO7 := Lib.hid (show OI w7 0 (some ⟨g, 0, none⟩) c2 [id] by
        rw [← hw7]
        refine HA.out.1.keep fun g2 cs hg hh => hh.far ?_ _
        exact (bk_ne HR6.out hh (by decide)).symm)
      obtain ⟨w8, hst, hm8, hk8⟩ := ((HZ3.out.mw_.ke HK4'.out HMR.out.1.2.1).ke HK7.out (by simpa using HMR.out.2.1.symm)).store (by rw [List.length_map, HM.out]; omega) (id, b) HID.out HNO.out
      dsimp only at hst
      have HM8 := Lib.hid hm8
      have HK8 := Lib.hid hk8
      have q7 : w7.cell? ⟨qb, 1, none⟩ = some (.map (some mw)) := ((HZ3.out.blk.ke HK4'.out HMR.out.1.2.2).ke HK7.out (by simpa using HMR.out.2.2.1.symm)).cell 1
      rw [hw7]
      clear hw7 f6 r6 r4 hm8 hk8
      go_wp2_with fail
      go_ret
      have kb : Ke [mr, mw] u w8 := Ke.new (g := b) (((((Ke.of HB3.out).nil (L := [b, mr, mw])).trans (HK4'.out.more (by simp))).trans (HK7.out.more (by simp))).trans (HK8.out.more (by simp))) HBL.out
      have hm : (s :: ns).map (fun t => (t, fup ad s b t)) = (s, b) :: outM s (ns.map fun t => (t, ad t)) := by
        rw [List.map_cons, fup_same, outM_self (fun x hx e => by
          obtain ⟨y, hy, rfl⟩ := List.mem_map.1 hx
          exact HNS.out (by rw [← show y = s from e]; exact hy))]
        congr 1
        exact List.map_congr_left fun t ht => by
          have hts : t ≠ s := fun e => HNS.out (by rw [← e]; exact ht)
          rw [fup_far hts]
      have hgb := HG.out
      have hu3 := HB3.out.size
      have hgm : g ≠ mw := by have := HZ.out.mw_.lt; omega
      obtain ⟨z1, z2, z3⟩ := HZ.out.more HP.out (L := [mr, mw]) (b := b) (g := g) (c := c2) (ns' := s :: ns) kb (by simp)
        (by rw [hm]; exact (HM4.out.ke HK7.out (by simpa using HMR.out.2.2.2.symm)).ke HK8.out (by simpa using HZ.out.two))
        HM8.out (by rw [HE0.out]; exact HR7.out.ke HK8.out (by simpa using HMR.out.2.1))
        (by rw [HE0.out]; exact HO7.out.keep fun g2 cs hg hh => hh.ke HK8.out (by simp [Value.ownBlock] at hg; subst hg; simpa using hgm))
        (fun t => by rw [List.mem_cons, or_comm]) (.inr ⟨HNS.out, HBL.out⟩) (.inr (by omega))
      exact ⟨by rw [HP.out]; rfl, ⟨_, _, _, _, by rw [HP.out]; exact z1, z3⟩, z2⟩
end
end Go.Proofs.Ytikkiifcnjiegaa
