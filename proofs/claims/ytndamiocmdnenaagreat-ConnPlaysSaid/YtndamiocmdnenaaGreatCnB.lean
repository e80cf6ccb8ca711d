/- Both tables of connections side by side: the program's and the document's own; sameOne, both. (Written by gen_cnplays.py.) -/
import Derived.Test.YtndamiocmdnenaaGreatCnH
import Derived.Test.YtndamiocmdnenaaGreatCdR4
import Derived.Test.YtndamiocmdnenaaGreatG7
import Derived.Test.YtndamiocmdnenaaGreatG1
namespace Go.Proofs.YtndamiocmdnenaaGreat
set_option linter.unusedVariables false
set_option maxRecDepth 100000
set_option linter.unusedSimpArgs false
open Go.RowKit

structure Wd (W u : World) (G : List Nat) (tb : Nat) (t : Tc) (H : List Nat) (rb : Nat) (d : Tc) : Prop where
  z : Zc W u G tb t
  d : Cdt W u H rb d
  ne : ∀ y ∈ G, y ∉ H
section
variable {W u u' : World} {G G' H H' : List Nat} {tb rb : Nat} {t d t' d' : Tc}
theorem Wd.left (h : Wd W u G tb t H rb d) (s : Sp u u' G G') (k : Zc W u' G' tb t') : Wd W u' G' tb t' H rb d :=
  ⟨k, h.d.ke s.k (fun y hy hG => h.ne y hG hy) k.l, fun y hy hH => by
    rcases s.g y hy with e | e
    · exact h.ne y e hH
    · have := h.d.hi y hH; omega⟩
theorem Wd.right (h : Wd W u G tb t H rb d) (s : Sp u u' H H') (k : Cdt W u' H' rb d') : Wd W u' G tb t H' rb d' :=
  ⟨h.z.ke s.k (fun y hy hH => h.ne y hy hH) k.l, k, fun y hy hH => by
    rcases s.g y hH with e | e
    · exact h.ne y hy e
    · have := h.z.hi y hy; omega⟩
theorem Wd.on (h : Wd W u G tb t H rb d) (hb : Below u.heap.size u u') : Wd W u' G tb t H rb d := ⟨h.z.on hb, h.d.on hb, h.ne⟩
theorem Wd.hi (h : Wd W u G tb t H rb d) : ∀ y ∈ G ++ H, y < u.heap.size := fun y hy => by
  rcases List.mem_append.1 hy with e | e
  · exact h.z.hi y e
  · exact h.d.hi y e
theorem Wd.l (h : Wd W u G tb t H rb d) : Below W.heap.size W u := h.z.l
set_option maxRecDepth 100000 in
set_option maxHeartbeats 8000000 in
theorem sameone_ok (h : Wd W u G tb t H rb t) (hg : Gc t) (id : Int) (hw : WfN id) :
    Calls Tryz.prog 9 #[.pointer (some ⟨tb, 0, none⟩), .pointer (some ⟨rb, 0, none⟩), .int .i64 id] u fun e u' => e = .returned (.bool true) ∧ Below u.heap.size u u' := by
  have HV0 := Lib.hid h
  have HWF := Lib.hid hw
  have HFE := Lib.hid (show t.l.length ≤ 1000000 by have := hg.few; omega)
  have HB0 := Lib.hid (Below.refl u.heap.size u)
  obtain ⟨b1, hq0⟩ : ∃ r, hsC t id = r := ⟨_, rfl⟩
  have HQ0 := Lib.hid hq0
  have m0 : ((b1) == b1) = true := by simp
  obtain ⟨a1, hq1⟩ : ∃ r, adC t id = r := ⟨_, rfl⟩
  have HQ1 := Lib.hid hq1
  have m1 : ((a1) == a1) = true := by simp
  obtain ⟨n1, hq2⟩ : ∃ r, caC t id = r := ⟨_, rfl⟩
  have HQ2 := Lib.hid hq2
  have m2 : ((n1 : Int) == (n1 : Int)) = true := by simp
  obtain ⟨n2, hq3⟩ : ∃ r, waC t id = r := ⟨_, rfl⟩
  have HQ3 := Lib.hid hq3
  have m3 : ((n2 : Int) == (n2 : Int)) = true := by simp
  obtain ⟨n3, hq4⟩ : ∃ r, roC t id = r := ⟨_, rfl⟩
  have HQ4 := Lib.hid hq4
  have m4 : ((n3 : Int) == (n3 : Int)) = true := by simp
  obtain ⟨n4, hq5⟩ : ∃ r, crC t id = r := ⟨_, rfl⟩
  have HQ5 := Lib.hid hq5
  have m5 : ((n4 : Int) == (n4 : Int)) = true := by simp
  obtain ⟨b2, hq6⟩ : ∃ r, enC t id = r := ⟨_, rfl⟩
  have HQ6 := Lib.hid hq6
  have m6 : ((b2) == b2) = true := by simp
  clear h hg hw hq0 hq1 hq2 hq3 hq4 hq5 hq6
  go_enter Tryz.func9, Tryz.ntmps9
  go_wp2_with (first
    | (go_at_call 23; (with_reducible refine (c_has HV0.out.z id b1 HQ0.out HWF.out).mono ?_); rintro e y0 ⟨rfl, h1⟩; have HV1 := Lib.hid (HV0.out.on h1); have HB1 := Lib.hid (HB0.out.trans (h1.mono HB0.out.size)); clear h1)
    | (go_at_call 34; (with_reducible refine (d_has HV1.out.d HFE.out id b1 HQ0.out).mono ?_); rintro e z0 ⟨rfl, hw⟩; rw [hw]; clear hw)
    | (go_at_call 22; (with_reducible refine (c_addr HV1.out.z id a1 HQ1.out HWF.out).mono ?_); rintro e y1 ⟨rfl, h1⟩; have HV2 := Lib.hid (HV1.out.on h1); have HB2 := Lib.hid (HB1.out.trans (h1.mono HB1.out.size)); clear h1)
    | (go_at_call 35; (with_reducible refine (d_addr HV2.out.d HFE.out id a1 HQ1.out).mono ?_); rintro e z1 ⟨rfl, hw⟩; rw [hw]; clear hw)
    | (go_at_call 36; (with_reducible refine (c_came HV2.out.z id n1 HQ2.out HWF.out).mono ?_); rintro e y2 ⟨rfl, h1⟩; have HV3 := Lib.hid (HV2.out.on h1); have HB3 := Lib.hid (HB2.out.trans (h1.mono HB2.out.size)); clear h1)
    | (go_at_call 37; (with_reducible refine (d_came HV3.out.d HFE.out id n1 HQ2.out).mono ?_); rintro e z2 ⟨rfl, hw⟩; rw [hw]; clear hw)
    | (go_at_call 38; (with_reducible refine (c_waits HV3.out.z id n2 HQ3.out HWF.out).mono ?_); rintro e y3 ⟨rfl, h1⟩; have HV4 := Lib.hid (HV3.out.on h1); have HB4 := Lib.hid (HB3.out.trans (h1.mono HB3.out.size)); clear h1)
    | (go_at_call 39; (with_reducible refine (d_waits HV4.out.d HFE.out id n2 HQ3.out).mono ?_); rintro e z3 ⟨rfl, hw⟩; rw [hw]; clear hw)
    | (go_at_call 40; (with_reducible refine (c_room HV4.out.z id n3 HQ4.out HWF.out).mono ?_); rintro e y4 ⟨rfl, h1⟩; have HV5 := Lib.hid (HV4.out.on h1); have HB5 := Lib.hid (HB4.out.trans (h1.mono HB4.out.size)); clear h1)
    | (go_at_call 41; (with_reducible refine (d_room HV5.out.d HFE.out id n3 HQ4.out).mono ?_); rintro e z4 ⟨rfl, hw⟩; rw [hw]; clear hw)
    | (go_at_call 42; (with_reducible refine (c_credit HV5.out.z id n4 HQ5.out HWF.out).mono ?_); rintro e y5 ⟨rfl, h1⟩; have HV6 := Lib.hid (HV5.out.on h1); have HB6 := Lib.hid (HB5.out.trans (h1.mono HB5.out.size)); clear h1)
    | (go_at_call 43; (with_reducible refine (d_credit HV6.out.d HFE.out id n4 HQ5.out).mono ?_); rintro e z5 ⟨rfl, hw⟩; rw [hw]; clear hw)
    | (go_at_call 21; (with_reducible refine (c_ended HV6.out.z id b2 HQ6.out HWF.out).mono ?_); rintro e y6 ⟨rfl, h1⟩; have HV7 := Lib.hid (HV6.out.on h1); have HB7 := Lib.hid (HB6.out.trans (h1.mono HB6.out.size)); clear h1)
    | (go_at_call 44; (with_reducible refine (d_ended HV7.out.d HFE.out id b2 HQ6.out).mono ?_); rintro e z6 ⟨rfl, hw⟩; rw [hw]; clear hw))
  go_ret
  exact ⟨rfl, HB7.out⟩
set_option maxRecDepth 100000 in
set_option maxHeartbeats 16000000 in
theorem both_ok (h : Wd W u G tb t H rb t) (hg : Gc t) (hla : t.la ≤ 1000000) (o : OpC) (n : Nat) (hn : o.l.length = n) (hw : WfN o.id) (ho : ∀ v, Below W.heap.size W v → OcOk v W.heap.size o) :
    Calls Tryz.prog 8 #[.pointer (some ⟨tb, 0, none⟩), .pointer (some ⟨rb, 0, none⟩), .agg #[.int .i64 o.what, .int .i64 o.id, .int .i64 o.x, .slice o.A n o.c]] u fun e u' => e = .returned (.bool true) ∧ ∃ G' H', Wd W u' G' tb (doC t o) H' rb (doC t o) := by
  obtain ⟨ow, oi, ox, oA, oc, ol⟩ := o
  dsimp only at hn hw ho ⊢
  have hcap : n ≤ oc := hn ▸ (ho u h.l).cap
  have hmax : oc ≤ 9223372036854775807 := (ho u h.l).max
  have hnil : oA = none → n = 0 ∧ oc = 0 := fun e => hn ▸ (ho u h.l).nil_ e
  obtain ⟨kb, hkb⟩ : ∃ kb, u.heap.size = kb := ⟨_, rfl⟩
  obtain ⟨v0, hv0⟩ : ∃ v0, u.alloc (.cells #[.int .i64 ow, .int .i64 oi, .int .i64 ox, .slice oA n oc] 32) = v0 := ⟨_, rfl⟩
  have hbv : Below u.heap.size u v0 := by rw [← hv0]; exact (Below.refl _ _).alloc (Nat.le_refl _) _
  have HB := Lib.hid (show Bz v0 (G ++ H) kb 32 #[.int .i64 ow, .int .i64 oi, .int .i64 ox, .slice oA n oc] by rw [← hv0, ← hkb]; exact Bz.new h.hi _ _)
  have e0 : v0.cell? ⟨kb, 0, none⟩ = some (.int .i64 ow) := HB.out.b.cell 0
  have e1 : v0.cell? ⟨kb, 1, none⟩ = some (.int .i64 oi) := HB.out.b.cell 1
  have e2 : v0.cell? ⟨kb, 2, none⟩ = some (.int .i64 ox) := HB.out.b.cell 2
  have e3 : v0.cell? ⟨kb, 3, none⟩ = some (.slice oA n oc) := HB.out.b.cell 3
  have HV := Lib.hid (h.on hbv)
  have HG := Lib.hid (And.intro hg hla)
  have HW := Lib.hid hw
  have HR := Lib.hid (show ∀ v (K : List Nat), Below W.heap.size W v → (∀ y ∈ K, W.heap.size ≤ y) → Rf v K oA ol from fun v K hv hK => (ho v hv).rb.rf hK)
  have HN := Lib.hid hn
  have HC := Lib.hid (And.intro hcap (And.intro hmax hnil))
  clear h hg hla hw ho hn hbv hcap hmax hnil
  by_cases hk : ow = 0
  · subst hk
    obtain ⟨⟨⟨r, er⟩, t2⟩, hE⟩ : ∃ R, opC t (ox % 4294967296) = R := ⟨_, rfl⟩
    have HE := Lib.hid hE
    have HD : doC t ⟨0, oi, ox, oA, oc, ol⟩ = t2 := by unfold doC; simp [hE]
    rw [HD]
    clear hE HD
    have m0 : (r == r) = true := by simp
    have m1 : (er == er) = true := by simp
    go_enter Tryz.func8, Tryz.ntmps8
    go_upto_region 1 with fail
    try rw [hv0]
    try rw [hkb]
    clear hv0 hkb
    go_upto_region 4 with (go_at_call 13; (with_reducible refine (c_open HV.out.z HG.out.1 HG.out.2 _ r er t2 HE.out).mono ?_); rintro e u4 ⟨G4, rfl, h1, h2⟩; have HV4 := Lib.hid (HV.out.left h2 h1); have HB4 := Lib.hid (HB.out.step (h2.left H)); clear h1 h2)
    clear e0 e1 e2 e3
    have e0 : u4.cell? ⟨kb, 0, none⟩ = some (.int .i64 0) := HB4.out.b.cell 0
    have e1 : u4.cell? ⟨kb, 1, none⟩ = some (.int .i64 oi) := HB4.out.b.cell 1
    have e2 : u4.cell? ⟨kb, 2, none⟩ = some (.int .i64 ox) := HB4.out.b.cell 2
    have e3 : u4.cell? ⟨kb, 3, none⟩ = some (.slice oA n oc) := HB4.out.b.cell 3
    go_wp2_with (go_at_call 24; (with_reducible refine (d_open HV4.out.d HG.out.1 HG.out.2 _ r er t2 HE.out).mono ?_); rintro e u5 ⟨H5, rfl, h1, h2⟩; have HV5 := Lib.hid (HV4.out.right h2 h1); clear h1 h2)
    go_ret
    exact ⟨rfl, G4, H5, HV5.out⟩
  · have hk0 : (ow == 0) = false := by simp [hk]
    have hn0 := hk
    clear hk
    by_cases hk : ow = 1
    · subst hk
      obtain ⟨⟨r, t2⟩, hE⟩ : ∃ R, clC t oi = R := ⟨_, rfl⟩
      have HE := Lib.hid hE
      have HD : doC t ⟨1, oi, ox, oA, oc, ol⟩ = t2 := by unfold doC; simp [hE]
      rw [HD]
      clear hE HD
      have m0 : (r == r) = true := by simp
      go_enter Tryz.func8, Tryz.ntmps8
      go_upto_region 1 with fail
      try rw [hv0]
      try rw [hkb]
      clear hv0 hkb
      go_upto_region 8 with (go_at_call 19; (with_reducible refine (c_close HV.out.z HG.out.1 oi r t2 HE.out HW.out).mono ?_); rintro e u4 ⟨rfl, h1, h2⟩; have HV4 := Lib.hid (HV.out.left h2 h1); have HB4 := Lib.hid (HB.out.step (h2.left H)); clear h1 h2)
      clear e0 e1 e2 e3
      have e0 : u4.cell? ⟨kb, 0, none⟩ = some (.int .i64 1) := HB4.out.b.cell 0
      have e1 : u4.cell? ⟨kb, 1, none⟩ = some (.int .i64 oi) := HB4.out.b.cell 1
      have e2 : u4.cell? ⟨kb, 2, none⟩ = some (.int .i64 ox) := HB4.out.b.cell 2
      have e3 : u4.cell? ⟨kb, 3, none⟩ = some (.slice oA n oc) := HB4.out.b.cell 3
      go_wp2_with (go_at_call 25; (with_reducible refine (d_close HV4.out.d HG.out.1 oi r t2 HE.out).mono ?_); rintro e u5 ⟨H5, rfl, h1, h2⟩; have HV5 := Lib.hid (HV4.out.right h2 h1); clear h1 h2)
      go_ret
      exact ⟨rfl, G, H5, HV5.out⟩
    · have hk1 : (ow == 1) = false := by simp [hk]
      have hn1 := hk
      clear hk
      by_cases hk : ow = 2
      · subst hk
        obtain ⟨⟨r, t2⟩, hE⟩ : ∃ R, feC t oi ol = R := ⟨_, rfl⟩
        have HE := Lib.hid hE
        have HD : doC t ⟨2, oi, ox, oA, oc, ol⟩ = t2 := by unfold doC; simp [hE]
        rw [HD]
        clear hE HD
        have m0 : ((r : Int) == (r : Int)) = true := by simp
        go_enter Tryz.func8, Tryz.ntmps8
        go_upto_region 1 with fail
        try rw [hv0]
        try rw [hkb]
        clear hv0 hkb
        go_upto_region 12 with (go_at_call 14; (with_reducible refine (c_feed HV.out.z HG.out.1 oi oA n oc ol HN.out HC.out.1 HC.out.2.1 (HR.out v0 G HV.out.l HV.out.z.lo) r t2 HE.out HW.out).mono ?_); rintro e u4 ⟨rfl, h1, h2⟩; have HV4 := Lib.hid (HV.out.left h2 h1); have HB4 := Lib.hid (HB.out.step (h2.left H)); clear h1 h2)
        clear e0 e1 e2 e3
        have e0 : u4.cell? ⟨kb, 0, none⟩ = some (.int .i64 2) := HB4.out.b.cell 0
        have e1 : u4.cell? ⟨kb, 1, none⟩ = some (.int .i64 oi) := HB4.out.b.cell 1
        have e2 : u4.cell? ⟨kb, 2, none⟩ = some (.int .i64 ox) := HB4.out.b.cell 2
        have e3 : u4.cell? ⟨kb, 3, none⟩ = some (.slice oA n oc) := HB4.out.b.cell 3
        go_wp2_with (go_at_call 26; (with_reducible refine (d_feed HV4.out.d HG.out.1 oi oA n oc ol HN.out HC.out.1 HC.out.2.1 HC.out.2.2 (HR.out u4 H HV4.out.l HV4.out.d.lo) r t2 HE.out).mono ?_); rintro e u5 ⟨H5, rfl, h1, h2⟩; have HV5 := Lib.hid (HV4.out.right h2 h1); clear h1 h2)
        go_ret
        exact ⟨rfl, G, H5, HV5.out⟩
      · have hk2 : (ow == 2) = false := by simp [hk]
        have hn2 := hk
        clear hk
        by_cases hk : ow = 3
        · subst hk
          obtain ⟨⟨r, t2⟩, hE⟩ : ∃ R, feC t oi ol = R := ⟨_, rfl⟩
          have HE := Lib.hid hE
          have HD : doC t ⟨3, oi, ox, oA, oc, ol⟩ = t2 := by unfold doC; simp [hE]
          rw [HD]
          clear hE HD
          have m0 : ((r : Int) == (r : Int)) = true := by simp
          go_enter Tryz.func8, Tryz.ntmps8
          go_upto_region 1 with fail
          try rw [hv0]
          try rw [hkb]
          clear hv0 hkb
          go_upto_region 12 with (go_at_call 14; (with_reducible refine (c_feed HV.out.z HG.out.1 oi oA n oc ol HN.out HC.out.1 HC.out.2.1 (HR.out v0 G HV.out.l HV.out.z.lo) r t2 HE.out HW.out).mono ?_); rintro e u4 ⟨rfl, h1, h2⟩; have HV4 := Lib.hid (HV.out.left h2 h1); have HB4 := Lib.hid (HB.out.step (h2.left H)); clear h1 h2)
          clear e0 e1 e2 e3
          have e0 : u4.cell? ⟨kb, 0, none⟩ = some (.int .i64 3) := HB4.out.b.cell 0
          have e1 : u4.cell? ⟨kb, 1, none⟩ = some (.int .i64 oi) := HB4.out.b.cell 1
          have e2 : u4.cell? ⟨kb, 2, none⟩ = some (.int .i64 ox) := HB4.out.b.cell 2
          have e3 : u4.cell? ⟨kb, 3, none⟩ = some (.slice oA n oc) := HB4.out.b.cell 3
          go_wp2_with (go_at_call 26; (with_reducible refine (d_feed HV4.out.d HG.out.1 oi oA n oc ol HN.out HC.out.1 HC.out.2.1 HC.out.2.2 (HR.out u4 H HV4.out.l HV4.out.d.lo) r t2 HE.out).mono ?_); rintro e u5 ⟨H5, rfl, h1, h2⟩; have HV5 := Lib.hid (HV4.out.right h2 h1); clear h1 h2)
          go_ret
          exact ⟨rfl, G, H5, HV5.out⟩
        · have hk3 : (ow == 3) = false := by simp [hk]
          have hn3 := hk
          clear hk
          by_cases hk : ow = 4
          · subst hk
            obtain ⟨⟨⟨l, b, er⟩, t2⟩, hE⟩ : ∃ R, neC t oi = R := ⟨_, rfl⟩
            have HE := Lib.hid hE
            have HD : doC t ⟨4, oi, ox, oA, oc, ol⟩ = t2 := by unfold doC; simp [hE]
            rw [HD]
            clear hE HD
            have m0 : (b == b) = true := by simp
            have m1 : (er == er) = true := by simp
            obtain ⟨ln, hln⟩ : ∃ ln, l.length = ln := ⟨_, rfl⟩
            have HLN := Lib.hid hln
            obtain ⟨S, hS⟩ : ∃ S : ByteArray, (⟨l.toArray⟩ : ByteArray) = S := ⟨_, rfl⟩
            have HS9 := Lib.hid hS
            have ms : (S.toList == S.toList) = true := by simp
            clear hln hS
            go_enter Tryz.func8, Tryz.ntmps8
            go_upto_region 1 with fail
            try rw [hv0]
            try rw [hkb]
            clear hv0 hkb
            go_upto_region 15 with (go_at_call 15; (with_reducible refine (c_next HV.out.z HG.out.1 oi ln l b er t2 HE.out HLN.out HW.out).mono ?_); rintro e u4 ⟨A4, c4, rfl, h0, h1, h2⟩; have HV4 := Lib.hid (HV.out.left h2 h1); have HB4 := Lib.hid (HB.out.step (h2.left H)); have HX4 := Lib.hid (h0.rf (G := G ++ H) (fun y hy => .inr (HV.out.hi y hy))); clear h0 h1 h2)
            clear e0 e1 e2 e3
            have e0 : u4.cell? ⟨kb, 0, none⟩ = some (.int .i64 4) := HB4.out.b.cell 0
            have e1 : u4.cell? ⟨kb, 1, none⟩ = some (.int .i64 oi) := HB4.out.b.cell 1
            have e2 : u4.cell? ⟨kb, 2, none⟩ = some (.int .i64 ox) := HB4.out.b.cell 2
            have e3 : u4.cell? ⟨kb, 3, none⟩ = some (.slice oA n oc) := HB4.out.b.cell 3
            go_upto_region 16 with (go_at_call 27; (with_reducible refine (d_next HV4.out.d HG.out.1 oi ln l b er HLN.out t2 HE.out).mono ?_); rintro e u5 ⟨H5, ⟨A5, c5, rfl, h0⟩, h1, h2⟩; have HX5 := Lib.hid (HX4.out.step (h2.right G)); have HY5 := Lib.hid h0; have HV5 := Lib.hid (HV4.out.right h2 h1); clear h0 h1 h2)
            clear e0 e1 e2 e3
            have q4 := str_of (P := Tryz.prog) HX5.out.rb 30 5 9 Tryz.underlying30 Tryz.underlying5 Tryz.underlying9 ln c4 HLN.out
            have q5 := str_of (P := Tryz.prog) HY5.out 30 5 9 Tryz.underlying30 Tryz.underlying5 Tryz.underlying9 ln c5 HLN.out
            rw [HS9.out] at q4 q5
            go_wp2_with fail
            go_ret
            exact ⟨rfl, G, H5, HV5.out⟩
          · have hk4 : (ow == 4) = false := by simp [hk]
            have hn4 := hk
            clear hk
            by_cases hk : ow = 5
            · subst hk
              obtain ⟨⟨l, t2⟩, hE⟩ : ∃ R, reC t oi ox = R := ⟨_, rfl⟩
              have HE := Lib.hid hE
              have HD : doC t ⟨5, oi, ox, oA, oc, ol⟩ = t2 := by unfold doC; simp [hE]
              rw [HD]
              clear hE HD
              obtain ⟨ln, hln⟩ : ∃ ln, l.length = ln := ⟨_, rfl⟩
              have HLN := Lib.hid hln
              clear hln
              go_enter Tryz.func8, Tryz.ntmps8
              go_upto_region 1 with fail
              try rw [hv0]
              try rw [hkb]
              clear hv0 hkb
              go_upto_region 19 with (go_at_call 28; (with_reducible refine (c_rest HV.out.z HG.out.1 oi ox ln l t2 HE.out HLN.out HW.out).mono ?_); rintro e u4 ⟨A4, c4, rfl, h0, h1, h2⟩; have HV4 := Lib.hid (HV.out.left h2 h1); have HB4 := Lib.hid (HB.out.step (h2.left H)); have HX4 := Lib.hid (h0.rf (G := G ++ H) (fun y hy => .inr (HV.out.hi y hy))); clear h0 h1 h2)
              clear e0 e1 e2 e3
              have HBd := Lib.hid (show Bz u4.drew (G ++ H) kb 32 #[.int .i64 5, .int .i64 oi, .int .i64 ox, .slice oA n oc] from ⟨HB4.out.b.drew, HB4.out.n⟩)
              have HXd := Lib.hid (show Rf u4.drew (G ++ H) A4 l from HX4.out.on ((Below.refl _ _).drew))
              have HVd := Lib.hid (HV4.out.on ((Below.refl _ _).drew))
              try simp only [List.cons_append, List.nil_append]
              refine wp_region_held_drew (S := fun wz => Bk wz kb 32 #[.int .i64 5, .int .i64 oi, .int .i64 ox, .slice oA n oc] ∧ Rb wz wz.heap.size A4 l) (by kernel_rfl) (⟨HBd.out.b, HXd.out.rb⟩) (fun hHeld => ?_)
              refine take_at (some 122) (i := 0) (v := ?_) rfl rfl (by kernel_rfl) (by kernel_rfl) (by kernel_rfl) (fun _ _ _ h => h) (Or.inl ⟨by kernel_rfl, ?_⟩) hHeld ?_
              rotate_left
              · intro wz hSw; go_simp; try (with_reducible rfl)
              try simp only [Act.put, List.setIfInBounds_toArray, List.set_cons_zero, List.set_cons_succ, List.getElem_toArray, List.getElem_cons_succ, List.getElem_cons_zero]
              refine take_at (some 124) (i := 2) (v := ?_) rfl rfl (by kernel_rfl) (by kernel_rfl) (by kernel_rfl) (fun _ _ _ h => h) (Or.inl ⟨by kernel_rfl, ?_⟩) hHeld ?_
              rotate_left
              · intro wz hSw; go_simp; try (with_reducible rfl)
              try simp only [Act.put, List.setIfInBounds_toArray, List.set_cons_zero, List.set_cons_succ, List.getElem_toArray, List.getElem_cons_succ, List.getElem_cons_zero]
              refine take_at (some 125) (i := 3) (v := ?_) rfl rfl (by kernel_rfl) (by kernel_rfl) (by kernel_rfl) (fun _ _ _ h => h) (Or.inl ⟨by kernel_rfl, ?_⟩) hHeld ?_
              rotate_left
              · intro wz hSw; go_simp; try (with_reducible rfl)
              try simp only [Act.put, List.setIfInBounds_toArray, List.set_cons_zero, List.set_cons_succ, List.getElem_toArray, List.getElem_cons_succ, List.getElem_cons_zero]
              refine take_at (some 126) (i := 4) (v := ?_) rfl rfl (by kernel_rfl) (by kernel_rfl) (by kernel_rfl) (fun _ _ _ h => h) (Or.inl ⟨by kernel_rfl, ?_⟩) hHeld ?_
              rotate_left
              · intro wz hSw; have e1 := hSw.1.cell 1; go_simp; try (with_reducible rfl)
              try simp only [Act.put, List.setIfInBounds_toArray, List.set_cons_zero, List.set_cons_succ, List.getElem_toArray, List.getElem_cons_succ, List.getElem_cons_zero]
              refine take_at (some 127) (i := 5) (v := ?_) rfl rfl (by kernel_rfl) (by kernel_rfl) (by kernel_rfl) (fun _ _ _ h => h) (Or.inl ⟨by kernel_rfl, ?_⟩) hHeld ?_
              rotate_left
              · intro wz hSw; go_simp; try (with_reducible rfl)
              try simp only [Act.put, List.setIfInBounds_toArray, List.set_cons_zero, List.set_cons_succ, List.getElem_toArray, List.getElem_cons_succ, List.getElem_cons_zero]
              refine take_at (some 128) (i := 6) (v := ?_) rfl rfl (by kernel_rfl) (by kernel_rfl) (by kernel_rfl) (fun _ _ _ h => h) (Or.inl ⟨by kernel_rfl, ?_⟩) hHeld ?_
              rotate_left
              · intro wz hSw; have e2 := hSw.1.cell 2; go_simp; try (with_reducible rfl)
              try simp only [Act.put, List.setIfInBounds_toArray, List.set_cons_zero, List.set_cons_succ, List.getElem_toArray, List.getElem_cons_succ, List.getElem_cons_zero]
              refine take_at (some 123) (i := 1) rfl rfl (by kernel_rfl) (by kernel_rfl) (by kernel_rfl) (fun _ _ _ h => h) (yieldsIf_conv (by kernel_rfl) 30 5 9 (.tmp 122) rfl A4 ln c4 l rfl HLN.out (B := fun w => w.heap.size) (fun w hw => hw.2) Tryz.underlying30 Tryz.underlying5 Tryz.underlying9) hHeld ?_
              try simp only [Act.put, List.setIfInBounds_toArray, List.set_cons_zero, List.set_cons_succ, List.getElem_toArray, List.getElem_cons_succ, List.getElem_cons_zero]
              refine wpAnyH_ready (rs := [7]) (by kernel_rfl) (by simp) (AllReadyH.cons rfl (fun K hK => ?_) AllReadyH.nil)
              rw [if_pos (by kernel_rfl)]
              go_simp
              refine (d_rest (HV4.out.d.on ((Below.refl _ _).drew)) HG.out.1 oi ox ln l HLN.out t2 HE.out).mono ?_
              rintro e u5 ⟨H5, ⟨A5, c5, rfl, h0⟩, h1, h2⟩
              try dsimp only
              have HV5 := Lib.hid (HVd.out.right h2 h1)
              have HB5 := Lib.hid (HBd.out.step (h2.right G))
              have HX5 := Lib.hid (HXd.out.step (h2.right G))
              have HY5 := Lib.hid h0
              clear h0 h1 h2
              refine hK.out _ _ ⟨HB5.out.b, HX5.out.rb⟩ (fun hHeld => ?_)
              try simp only [Act.put, List.setIfInBounds_toArray, List.set_cons_zero, List.set_cons_succ, List.getElem_toArray, List.getElem_cons_succ, List.getElem_cons_zero]
              refine wpAnyH_ready (rs := [8]) (by kernel_rfl) (by simp) (AllReadyH.cons rfl (fun K hK => ?_) AllReadyH.nil)
              rw [if_pos (by kernel_rfl)]
              have qq : (convert 30 9 (.slice A5 ln c5)).run Tryz.prog u5 = .ok (.string (bs l)) u5 := str_of (P := Tryz.prog) HY5.out 30 5 9 Tryz.underlying30 Tryz.underlying5 Tryz.underlying9 ln c5 HLN.out
              go_simp
              refine hK.out _ _ (⟨HB5.out.b, HX5.out.rb⟩) (fun hHeld => ?_)
              try simp only [Act.put, List.setIfInBounds_toArray, List.set_cons_zero, List.set_cons_succ, List.getElem_toArray, List.getElem_cons_succ, List.getElem_cons_zero]
              refine take_at (some 131) (i := 9) (v := ?_) rfl rfl (by kernel_rfl) (by kernel_rfl) (by kernel_rfl) (fun _ _ _ h => h) (Or.inl ⟨by kernel_rfl, ?_⟩) hHeld ?_
              rotate_left
              · intro wz hSw; go_simp; try (with_reducible rfl)
              try simp only [Act.put, List.setIfInBounds_toArray, List.set_cons_zero, List.set_cons_succ, List.getElem_toArray, List.getElem_cons_succ, List.getElem_cons_zero]
              refine take_at (some 6) (i := 10) (v := ?_) rfl rfl (by kernel_rfl) (by kernel_rfl) (by kernel_rfl) (fun _ _ _ h => h) (Or.inl ⟨by kernel_rfl, ?_⟩) hHeld ?_
              rotate_left
              · intro wz hSw; go_simp; try (with_reducible rfl)
              try simp only [Act.put, List.setIfInBounds_toArray, List.set_cons_zero, List.set_cons_succ, List.getElem_toArray, List.getElem_cons_succ, List.getElem_cons_zero]
              refine wpAnyH_done (by kernel_rfl) ?_ _
              clear hHeld
              go_wp2_with fail
              go_ret
              exact ⟨rfl, G, H5, HV5.out⟩
            · have hk5 : (ow == 5) = false := by simp [hk]
              have hn5 := hk
              clear hk
              by_cases hk : ow = 6
              · subst hk
                obtain ⟨⟨r, t2⟩, hE⟩ : ∃ R, saC t oi ol = R := ⟨_, rfl⟩
                have HE := Lib.hid hE
                have HD : doC t ⟨6, oi, ox, oA, oc, ol⟩ = t2 := by unfold doC; simp [hE]
                rw [HD]
                clear hE HD
                have m0 : (r == r) = true := by simp
                go_enter Tryz.func8, Tryz.ntmps8
                go_upto_region 1 with fail
                try rw [hv0]
                try rw [hkb]
                clear hv0 hkb
                go_upto_region 23 with (go_at_call 16; (with_reducible refine (c_say HV.out.z HG.out.1 oi oA n oc ol HN.out HC.out.1 HC.out.2.1 (HR.out v0 G HV.out.l HV.out.z.lo) r t2 HE.out HW.out).mono ?_); rintro e u4 ⟨rfl, h1, h2⟩; have HV4 := Lib.hid (HV.out.left h2 h1); have HB4 := Lib.hid (HB.out.step (h2.left H)); clear h1 h2)
                clear e0 e1 e2 e3
                have e0 : u4.cell? ⟨kb, 0, none⟩ = some (.int .i64 6) := HB4.out.b.cell 0
                have e1 : u4.cell? ⟨kb, 1, none⟩ = some (.int .i64 oi) := HB4.out.b.cell 1
                have e2 : u4.cell? ⟨kb, 2, none⟩ = some (.int .i64 ox) := HB4.out.b.cell 2
                have e3 : u4.cell? ⟨kb, 3, none⟩ = some (.slice oA n oc) := HB4.out.b.cell 3
                go_wp2_with (go_at_call 30; (with_reducible refine (d_say HV4.out.d HG.out.1 oi oA n oc ol HN.out HC.out.1 HC.out.2.1 HC.out.2.2 (HR.out u4 H HV4.out.l HV4.out.d.lo) r t2 HE.out).mono ?_); rintro e u5 ⟨H5, rfl, h1, h2⟩; have HV5 := Lib.hid (HV4.out.right h2 h1); clear h1 h2)
                go_ret
                exact ⟨rfl, G, H5, HV5.out⟩
              · have hk6 : (ow == 6) = false := by simp [hk]
                have hn6 := hk
                clear hk
                by_cases hk : ow = 7
                · subst hk
                  obtain ⟨⟨r, t2⟩, hE⟩ : ∃ R, saC t oi ol = R := ⟨_, rfl⟩
                  have HE := Lib.hid hE
                  have HD : doC t ⟨7, oi, ox, oA, oc, ol⟩ = t2 := by unfold doC; simp [hE]
                  rw [HD]
                  clear hE HD
                  have m0 : (r == r) = true := by simp
                  go_enter Tryz.func8, Tryz.ntmps8
                  go_upto_region 1 with fail
                  try rw [hv0]
                  try rw [hkb]
                  clear hv0 hkb
                  go_upto_region 23 with (go_at_call 16; (with_reducible refine (c_say HV.out.z HG.out.1 oi oA n oc ol HN.out HC.out.1 HC.out.2.1 (HR.out v0 G HV.out.l HV.out.z.lo) r t2 HE.out HW.out).mono ?_); rintro e u4 ⟨rfl, h1, h2⟩; have HV4 := Lib.hid (HV.out.left h2 h1); have HB4 := Lib.hid (HB.out.step (h2.left H)); clear h1 h2)
                  clear e0 e1 e2 e3
                  have e0 : u4.cell? ⟨kb, 0, none⟩ = some (.int .i64 7) := HB4.out.b.cell 0
                  have e1 : u4.cell? ⟨kb, 1, none⟩ = some (.int .i64 oi) := HB4.out.b.cell 1
                  have e2 : u4.cell? ⟨kb, 2, none⟩ = some (.int .i64 ox) := HB4.out.b.cell 2
                  have e3 : u4.cell? ⟨kb, 3, none⟩ = some (.slice oA n oc) := HB4.out.b.cell 3
                  go_wp2_with (go_at_call 30; (with_reducible refine (d_say HV4.out.d HG.out.1 oi oA n oc ol HN.out HC.out.1 HC.out.2.1 HC.out.2.2 (HR.out u4 H HV4.out.l HV4.out.d.lo) r t2 HE.out).mono ?_); rintro e u5 ⟨H5, rfl, h1, h2⟩; have HV5 := Lib.hid (HV4.out.right h2 h1); clear h1 h2)
                  go_ret
                  exact ⟨rfl, G, H5, HV5.out⟩
                · have hk7 : (ow == 7) = false := by simp [hk]
                  have hn7 := hk
                  clear hk
                  by_cases hk : ow = 8
                  · subst hk
                    obtain ⟨⟨r, t2⟩, hE⟩ : ∃ R, buC t oi ox = R := ⟨_, rfl⟩
                    have HE := Lib.hid hE
                    have HD : doC t ⟨8, oi, ox, oA, oc, ol⟩ = t2 := by unfold doC; simp [hE]
                    rw [HD]
                    clear hE HD
                    have m0 : (r == r) = true := by simp
                    go_enter Tryz.func8, Tryz.ntmps8
                    go_upto_region 1 with fail
                    try rw [hv0]
                    try rw [hkb]
                    clear hv0 hkb
                    go_upto_region 26 with (go_at_call 17; (with_reducible refine (c_budget HV.out.z HG.out.1 oi ox r t2 HE.out HW.out).mono ?_); rintro e u4 ⟨rfl, h1, h2⟩; have HV4 := Lib.hid (HV.out.left h2 h1); have HB4 := Lib.hid (HB.out.step (h2.left H)); clear h1 h2)
                    clear e0 e1 e2 e3
                    have e0 : u4.cell? ⟨kb, 0, none⟩ = some (.int .i64 8) := HB4.out.b.cell 0
                    have e1 : u4.cell? ⟨kb, 1, none⟩ = some (.int .i64 oi) := HB4.out.b.cell 1
                    have e2 : u4.cell? ⟨kb, 2, none⟩ = some (.int .i64 ox) := HB4.out.b.cell 2
                    have e3 : u4.cell? ⟨kb, 3, none⟩ = some (.slice oA n oc) := HB4.out.b.cell 3
                    go_wp2_with (go_at_call 31; (with_reducible refine (d_budget HV4.out.d HG.out.1 oi ox r t2 HE.out).mono ?_); rintro e u5 ⟨H5, rfl, h1, h2⟩; have HV5 := Lib.hid (HV4.out.right h2 h1); clear h1 h2)
                    go_ret
                    exact ⟨rfl, G, H5, HV5.out⟩
                  · have hk8 : (ow == 8) = false := by simp [hk]
                    have hn8 := hk
                    clear hk
                    by_cases hk : ow = 9
                    · subst hk
                      obtain ⟨⟨l, t2⟩, hE⟩ : ∃ R, flC t oi = R := ⟨_, rfl⟩
                      have HE := Lib.hid hE
                      have HD : doC t ⟨9, oi, ox, oA, oc, ol⟩ = t2 := by unfold doC; simp [hE]
                      rw [HD]
                      clear hE HD
                      obtain ⟨ln, hln⟩ : ∃ ln, l.length = ln := ⟨_, rfl⟩
                      have HLN := Lib.hid hln
                      clear hln
                      go_enter Tryz.func8, Tryz.ntmps8
                      go_upto_region 1 with fail
                      try rw [hv0]
                      try rw [hkb]
                      clear hv0 hkb
                      go_upto_region 29 with (go_at_call 18; (with_reducible refine (c_flush HV.out.z HG.out.1 oi ln l t2 HE.out HLN.out HW.out).mono ?_); rintro e u4 ⟨A4, c4, rfl, h0, h1, h2⟩; have HV4 := Lib.hid (HV.out.left h2 h1); have HB4 := Lib.hid (HB.out.step (h2.left H)); have HX4 := Lib.hid (h0.rf (G := G ++ H) (fun y hy => .inr (HV.out.hi y hy))); clear h0 h1 h2)
                      clear e0 e1 e2 e3
                      have HBd := Lib.hid (show Bz u4.drew (G ++ H) kb 32 #[.int .i64 9, .int .i64 oi, .int .i64 ox, .slice oA n oc] from ⟨HB4.out.b.drew, HB4.out.n⟩)
                      have HXd := Lib.hid (show Rf u4.drew (G ++ H) A4 l from HX4.out.on ((Below.refl _ _).drew))
                      have HVd := Lib.hid (HV4.out.on ((Below.refl _ _).drew))
                      try simp only [List.cons_append, List.nil_append]
                      refine wp_region_held_drew (S := fun wz => Bk wz kb 32 #[.int .i64 9, .int .i64 oi, .int .i64 ox, .slice oA n oc] ∧ Rb wz wz.heap.size A4 l) (by kernel_rfl) (⟨HBd.out.b, HXd.out.rb⟩) (fun hHeld => ?_)
                      refine take_at (some 171) (i := 0) (v := ?_) rfl rfl (by kernel_rfl) (by kernel_rfl) (by kernel_rfl) (fun _ _ _ h => h) (Or.inl ⟨by kernel_rfl, ?_⟩) hHeld ?_
                      rotate_left
                      · intro wz hSw; go_simp; try (with_reducible rfl)
                      try simp only [Act.put, List.setIfInBounds_toArray, List.set_cons_zero, List.set_cons_succ, List.getElem_toArray, List.getElem_cons_succ, List.getElem_cons_zero]
                      refine take_at (some 173) (i := 2) (v := ?_) rfl rfl (by kernel_rfl) (by kernel_rfl) (by kernel_rfl) (fun _ _ _ h => h) (Or.inl ⟨by kernel_rfl, ?_⟩) hHeld ?_
                      rotate_left
                      · intro wz hSw; go_simp; try (with_reducible rfl)
                      try simp only [Act.put, List.setIfInBounds_toArray, List.set_cons_zero, List.set_cons_succ, List.getElem_toArray, List.getElem_cons_succ, List.getElem_cons_zero]
                      refine take_at (some 174) (i := 3) (v := ?_) rfl rfl (by kernel_rfl) (by kernel_rfl) (by kernel_rfl) (fun _ _ _ h => h) (Or.inl ⟨by kernel_rfl, ?_⟩) hHeld ?_
                      rotate_left
                      · intro wz hSw; go_simp; try (with_reducible rfl)
                      try simp only [Act.put, List.setIfInBounds_toArray, List.set_cons_zero, List.set_cons_succ, List.getElem_toArray, List.getElem_cons_succ, List.getElem_cons_zero]
                      refine take_at (some 175) (i := 4) (v := ?_) rfl rfl (by kernel_rfl) (by kernel_rfl) (by kernel_rfl) (fun _ _ _ h => h) (Or.inl ⟨by kernel_rfl, ?_⟩) hHeld ?_
                      rotate_left
                      · intro wz hSw; have e1 := hSw.1.cell 1; go_simp; try (with_reducible rfl)
                      try simp only [Act.put, List.setIfInBounds_toArray, List.set_cons_zero, List.set_cons_succ, List.getElem_toArray, List.getElem_cons_succ, List.getElem_cons_zero]
                      refine take_at (some 172) (i := 1) rfl rfl (by kernel_rfl) (by kernel_rfl) (by kernel_rfl) (fun _ _ _ h => h) (yieldsIf_conv (by kernel_rfl) 30 5 9 (.tmp 171) rfl A4 ln c4 l rfl HLN.out (B := fun w => w.heap.size) (fun w hw => hw.2) Tryz.underlying30 Tryz.underlying5 Tryz.underlying9) hHeld ?_
                      try simp only [Act.put, List.setIfInBounds_toArray, List.set_cons_zero, List.set_cons_succ, List.getElem_toArray, List.getElem_cons_succ, List.getElem_cons_zero]
                      refine wpAnyH_ready (rs := [5]) (by kernel_rfl) (by simp) (AllReadyH.cons rfl (fun K hK => ?_) AllReadyH.nil)
                      rw [if_pos (by kernel_rfl)]
                      go_simp
                      refine (d_flush (HV4.out.d.on ((Below.refl _ _).drew)) HG.out.1 oi ln l HLN.out t2 HE.out).mono ?_
                      rintro e u5 ⟨H5, ⟨A5, c5, rfl, h0⟩, h1, h2⟩
                      try dsimp only
                      have HV5 := Lib.hid (HVd.out.right h2 h1)
                      have HB5 := Lib.hid (HBd.out.step (h2.right G))
                      have HX5 := Lib.hid (HXd.out.step (h2.right G))
                      have HY5 := Lib.hid h0
                      clear h0 h1 h2
                      refine hK.out _ _ ⟨HB5.out.b, HX5.out.rb⟩ (fun hHeld => ?_)
                      try simp only [Act.put, List.setIfInBounds_toArray, List.set_cons_zero, List.set_cons_succ, List.getElem_toArray, List.getElem_cons_succ, List.getElem_cons_zero]
                      refine wpAnyH_ready (rs := [6]) (by kernel_rfl) (by simp) (AllReadyH.cons rfl (fun K hK => ?_) AllReadyH.nil)
                      rw [if_pos (by kernel_rfl)]
                      have qq : (convert 30 9 (.slice A5 ln c5)).run Tryz.prog u5 = .ok (.string (bs l)) u5 := str_of (P := Tryz.prog) HY5.out 30 5 9 Tryz.underlying30 Tryz.underlying5 Tryz.underlying9 ln c5 HLN.out
                      go_simp
                      refine hK.out _ _ (⟨HB5.out.b, HX5.out.rb⟩) (fun hHeld => ?_)
                      try simp only [Act.put, List.setIfInBounds_toArray, List.set_cons_zero, List.set_cons_succ, List.getElem_toArray, List.getElem_cons_succ, List.getElem_cons_zero]
                      refine take_at (some 178) (i := 7) (v := ?_) rfl rfl (by kernel_rfl) (by kernel_rfl) (by kernel_rfl) (fun _ _ _ h => h) (Or.inl ⟨by kernel_rfl, ?_⟩) hHeld ?_
                      rotate_left
                      · intro wz hSw; go_simp; try (with_reducible rfl)
                      try simp only [Act.put, List.setIfInBounds_toArray, List.set_cons_zero, List.set_cons_succ, List.getElem_toArray, List.getElem_cons_succ, List.getElem_cons_zero]
                      refine take_at (some 6) (i := 8) (v := ?_) rfl rfl (by kernel_rfl) (by kernel_rfl) (by kernel_rfl) (fun _ _ _ h => h) (Or.inl ⟨by kernel_rfl, ?_⟩) hHeld ?_
                      rotate_left
                      · intro wz hSw; go_simp; try (with_reducible rfl)
                      try simp only [Act.put, List.setIfInBounds_toArray, List.set_cons_zero, List.set_cons_succ, List.getElem_toArray, List.getElem_cons_succ, List.getElem_cons_zero]
                      refine wpAnyH_done (by kernel_rfl) ?_ _
                      clear hHeld
                      go_wp2_with fail
                      go_ret
                      exact ⟨rfl, G, H5, HV5.out⟩
                    · have hk9 : (ow == 9) = false := by simp [hk]
                      have hn9 := hk
                      clear hk
                      obtain ⟨⟨r, t2⟩, hE⟩ : ∃ R, haC t oi = R := ⟨_, rfl⟩
                      have HE := Lib.hid hE
                      have HD : doC t ⟨ow, oi, ox, oA, oc, ol⟩ = t2 := by unfold doC; simp [hE, hn0, hn1, hn2, hn3, hn4, hn5, hn6, hn7, hn8, hn9]
                      rw [HD]
                      clear hE HD
                      clear hn0 hn1 hn2 hn3 hn4 hn5 hn6 hn7 hn8 hn9
                      have m0 : (r == r) = true := by simp
                      go_enter Tryz.func8, Tryz.ntmps8
                      go_upto_region 1 with fail
                      try rw [hv0]
                      try rw [hkb]
                      clear hv0 hkb
                      go_upto_region 31 with (go_at_call 20; (with_reducible refine (c_half HV.out.z HG.out.1 oi r t2 HE.out HW.out).mono ?_); rintro e u4 ⟨rfl, h1, h2⟩; have HV4 := Lib.hid (HV.out.left h2 h1); have HB4 := Lib.hid (HB.out.step (h2.left H)); clear h1 h2)
                      clear e0 e1 e2 e3
                      have e0 : u4.cell? ⟨kb, 0, none⟩ = some (.int .i64 ow) := HB4.out.b.cell 0
                      have e1 : u4.cell? ⟨kb, 1, none⟩ = some (.int .i64 oi) := HB4.out.b.cell 1
                      have e2 : u4.cell? ⟨kb, 2, none⟩ = some (.int .i64 ox) := HB4.out.b.cell 2
                      have e3 : u4.cell? ⟨kb, 3, none⟩ = some (.slice oA n oc) := HB4.out.b.cell 3
                      go_wp2_with (go_at_call 33; (with_reducible refine (d_half HV4.out.d HG.out.1 oi r t2 HE.out).mono ?_); rintro e u5 ⟨H5, rfl, h1, h2⟩; have HV5 := Lib.hid (HV4.out.right h2 h1); clear h1 h2)
                      go_ret
                      exact ⟨rfl, G, H5, HV5.out⟩
end
end Go.Proofs.YtndamiocmdnenaaGreat
