/- TicketHeld: a ticket that another tenant shows, or that is none, changes nothing: the walk. (Written by gen_tcheld.py.) -/
import Derived.Test.YtinbegnojfpeiaaDoorTcH
namespace Go.Proofs.YtinbegnojfpeiaaDoor
set_option linter.unusedVariables false
set_option maxRecDepth 100000
set_option linter.unusedSimpArgs false
open Go.RowKit

theorem one_iss (p : Ps) (t : Int → ByteArray) : issT ⟨0, []⟩ p t = (t 1, 0, ⟨1, [⟨t 1, p⟩]⟩) := rfl
theorem one_gk (T : ByteArray) (p : Ps) : Gk ⟨1, [⟨T, p⟩]⟩ := ⟨by simp, by simp, by show (0 : Int) ≤ 1; omega⟩
theorem one_no (T s ten : ByteArray) (p : Ps) (h : s ≠ T) : redT ⟨1, [⟨T, p⟩]⟩ s ten = (zeroPs, 151, ⟨1, [⟨T, p⟩]⟩) := by
  unfold redT
  have h1 : texT s ⟨T, p⟩ = false := by
    cases hq : texT s ⟨T, p⟩ with
    | false => rfl
    | true => exact absurd ((nmQ_iff _ _).1 hq).symm h
  rw [List.find?_cons, h1]
  rfl
theorem one_held (T ten : ByteArray) (p : Ps) (h : ten ≠ p.ten) : redT ⟨1, [⟨T, p⟩]⟩ T ten = (zeroPs, 131, ⟨1, [⟨T, p⟩]⟩) := by
  unfold redT
  rw [List.find?_cons, show texT T ⟨T, p⟩ = true from nmQ_same T]
  have h1 : nmQ p.ten ten = false := by
    cases hq : nmQ p.ten ten with
    | false => rfl
    | true => exact absurd ((nmQ_iff _ _).1 hq).symm h
  dsimp only
  rw [if_neg (by rw [h1]; simp)]
theorem one_ok (T : ByteArray) (p : Ps) : redT ⟨1, [⟨T, p⟩]⟩ T p.ten = (p, 0, ⟨1, []⟩) := by
  unfold redT
  rw [List.find?_cons, show texT T ⟨T, p⟩ = true from nmQ_same T]
  dsimp only
  rw [if_pos (nmQ_same _), List.eraseP_cons, show texT T ⟨T, p⟩ = true from nmQ_same T]
  rfl
theorem app_ne (a : ByteArray) : a ++ (⟨#[120]⟩ : ByteArray) ≠ a := fun h => by
  have h1 := congrArg ByteArray.size h
  rw [ByteArray.size_append, show (⟨#[120]⟩ : ByteArray).size = 1 from rfl] at h1
  omega
theorem ne_toList {a b : ByteArray} (h : a ≠ b) : (a.toList == b.toList) = false := by
  cases hq : a.toList == b.toList with
  | false => rfl
  | true => exact absurd ((nmQ_iff a b).1 hq) h
set_option maxRecDepth 100000 in
set_option maxHeartbeats 16000000 in
theorem walk_TicketHeld (key : ByteArray) (p : Ps) (d t x : ByteArray) (W : World) (hk : key.size ≤ 140737488355328) (hp1 : p.nm.size ≤ 140737488355328) (hp2 : p.ten.size ≤ 140737488355328) (hd : d.size ≤ 140737488355328) (ht : t.size ≤ 140737488355328) (hx : x.size ≤ 140737488355328) (hG : Gl W) :
    Calls Tryd.prog 5 #[.string key, .agg #[.int .i64 p.vis, .string p.nm, .string p.ten, .int .i64 p.ep], .string d, .string t, .string x] W fun e w' => e = .returned (.bool true) ∧ Below W.heap.size W w' := by
  have HG := Lib.hid hG
  clear hG
  obtain ⟨pv, pn, pt, pe⟩ := p
  dsimp only at hp1 hp2 ⊢
  obtain ⟨k1, hk1⟩ : ∃ k1 : Nat, key.size + d.size = k1 := ⟨_, rfl⟩
  obtain ⟨k2, hk2⟩ : ∃ k2 : Nat, k1 + t.size = k2 := ⟨_, rfl⟩
  obtain ⟨k3, hk3⟩ : ∃ k3 : Nat, k2 + x.size = k3 := ⟨_, rfl⟩
  obtain ⟨s, hs⟩ : ∃ s : Nat, k3 + pt.size = s := ⟨_, rfl⟩
  have hw1 : IntKind.i64.wrap ((key.size : Int) + (d.size : Int)) = (k1 : Int) := (iwrap _ k1 (by omega) (by omega)).1
  have hw2 : IntKind.i64.wrap ((k1 : Int) + (t.size : Int)) = (k2 : Int) := (iwrap _ k2 (by omega) (by omega)).1
  have hw3 : IntKind.i64.wrap ((k2 : Int) + (x.size : Int)) = (k3 : Int) := (iwrap _ k3 (by omega) (by omega)).1
  have hw4 : IntKind.i64.wrap ((k3 : Int) + (pt.size : Int)) = (s : Int) := (iwrap _ s (by omega) (by omega)).1
  have HSM := Lib.hid (show s ≤ 3000 → key.size ≤ 3000 ∧ d.size ≤ 3000 ∧ x.size ≤ 3000 from fun h => by omega)
  have HSZ := Lib.hid (And.intro hk (And.intro hp1 hp2))
  obtain ⟨u0, hu0⟩ : ∃ u0, W.alloc (.cells #[.int .i64 pv, .string pn, .string pt, .int .i64 pe] 31) = u0 := ⟨_, rfl⟩
  obtain ⟨gp, hgp⟩ : ∃ gp, W.heap.size = gp := ⟨_, rfl⟩
  have HB0 := Lib.hid (show Below W.heap.size W u0 by rw [← hu0]; exact (Below.refl _ _).alloc (Nat.le_refl _) _)
  have HP0 := Lib.hid (show Bk u0 gp 31 #[.int .i64 pv, .string pn, .string pt, .int .i64 pe] by rw [← hu0, ← hgp]; exact Bk.new _ _ _)
  clear hk hp1 hp2 hd ht hx hk1 hk2 hk3 hs
  go_enter Tryd.func5, Tryd.ntmps5
  go_upto_region 1 with fail
  try rw [hu0]
  try rw [hgp]
  clear hu0 hgp
  go_upto_region 2 with (go_at_call 9; (with_reducible refine (thead_ok _ (HG.out.below HB0.out HG.out.size)).mono ?_); rintro e u1 ⟨rfl, hb⟩; have HB1 := Lib.hid (HB0.out.trans (hb.mono HB0.out.size)); have HP1 := Lib.hid (HP0.out.below hb HP0.out.lt); clear hb)
  go_upto_region 3 with (go_at_call 10; (with_reducible refine (z_new HB1.out key HSZ.out.1).mono ?_); rintro e u2 ⟨H2, tb, rfl, h1, h2, h3⟩; have HZ2 := Lib.hid h1; have HP2 := Lib.hid (HP1.out.below h2 HP1.out.lt); have HPN := Lib.hid (show gp ∉ H2 from fun hm => absurd (h3 _ hm) (by have := HP1.out.lt; omega)); clear h1 h2 h3)
  have HPB2 := Lib.hid (show Bz u2 H2 gp 31 #[.int .i64 pv, .string pn, .string pt, .int .i64 pe] from ⟨HP2.out, HPN.out⟩)
  have a0 : u2.cell? ⟨gp, 0, none⟩ = some (.int .i64 pv) := HP2.out.cell 0
  have a1 : u2.cell? ⟨gp, 1, none⟩ = some (.string pn) := HP2.out.cell 1
  have a2 : u2.cell? ⟨gp, 2, none⟩ = some (.string pt) := HP2.out.cell 2
  have a3 : u2.cell? ⟨gp, 3, none⟩ = some (.int .i64 pe) := HP2.out.cell 3
  by_cases hgt : s > 3000
  · have hg2 : (s : Int) > 3000 := by omega
    have hg3 : decide ((3000 : Int) < (s : Int)) = true := decide_eq_true (by omega)
    go_wp2
    go_ret
    exact ⟨rfl, HZ2.out.l⟩
  · have hg2 : ¬ (s : Int) > 3000 := by omega
    have hg3 : decide ((3000 : Int) < (s : Int)) = false := decide_eq_false (by omega)
    have HS3 := Lib.hid (HSM.out (by omega))
    clear hgt
    obtain ⟨T, hT⟩ : ∃ T, tixT key d 1 = T := ⟨_, rfl⟩
    have hts : T.size = 32 := by rw [← hT]; exact tix_size _ _ _ (by decide)
    have HT := Lib.hid hT
    have HTS := Lib.hid hts
    clear hT
    go_upto_region 6 with (go_at_call 18; (with_reducible refine (z_issue HZ2.out gk_nil ⟨pv, pn, pt, pe⟩ d T 0 ⟨1, [⟨T, ⟨pv, pn, pt, pe⟩⟩]⟩ (by rw [one_iss, HT.out]) HS3.out.1 (Nat.le_trans HS3.out.2.1 (by decide)) (by show (0 : Int) ≤ _; omega) HSZ.out.2.1 HSZ.out.2.2 HG.out).mono ?_); rintro e u3 ⟨H3, rfl, h1, h2⟩; have HZ3 := Lib.hid h1; have HP3 := Lib.hid (HPB2.out.step h2); clear h1 h2)
    clear a0 a1 a2 a3
    have a0 : u3.cell? ⟨gp, 0, none⟩ = some (.int .i64 pv) := HP3.out.b.cell 0
    have a1 : u3.cell? ⟨gp, 1, none⟩ = some (.string pn) := HP3.out.b.cell 1
    have a2 : u3.cell? ⟨gp, 2, none⟩ = some (.string pt) := HP3.out.b.cell 2
    have a3 : u3.cell? ⟨gp, 3, none⟩ = some (.int .i64 pe) := HP3.out.b.cell 3
    have hxs : x.size ≤ 1099511627776 := Nat.le_trans HS3.out.2.2 (by decide)
    have htx : T.size ≤ 1099511627776 := by omega
    by_cases hx : x = T
    · subst hx
      have hxx : (x.toList == x.toList) = true := by simp
      by_cases ht : t = pt
      · subst ht
        have htt : (t.toList == t.toList) = true := by simp
        go_upto_region 9 with (go_at_call 13; (with_reducible refine (z_redeem HZ3.out (one_gk x _) x (t) ⟨pv, pn, t, pe⟩ 0 ⟨1, []⟩ (one_ok x ⟨pv, pn, t, pe⟩) (hxs)).mono ?_); rintro e u4 ⟨H4, rfl, h1, h2⟩; have HZ4 := Lib.hid h1; have HP4 := Lib.hid (HP3.out.step h2); clear h1 h2)
        clear a0 a1 a2 a3
        obtain ⟨u5, hq⟩ : ∃ q, u4.alloc (.cells #[.int .i64 pv, .string pn, .string t, .int .i64 pe] 31) = q := ⟨_, rfl⟩
        have HZ5 := Lib.hid (show Tz W u5 H4 tb key ⟨1, []⟩ by rw [← hq]; exact HZ4.out.on ((Below.refl _ _).alloc (Nat.le_refl _) _))
        have HP5 := Lib.hid (show Bz u5 H4 gp 31 #[.int .i64 pv, .string pn, .string t, .int .i64 pe] by rw [← hq]; exact HP4.out.alloc _)
        try rw [hq]
        clear hq
        have a0 : u5.cell? ⟨gp, 0, none⟩ = some (.int .i64 pv) := HP5.out.b.cell 0
        have a1 : u5.cell? ⟨gp, 1, none⟩ = some (.string pn) := HP5.out.b.cell 1
        have a2 : u5.cell? ⟨gp, 2, none⟩ = some (.string t) := HP5.out.b.cell 2
        have a3 : u5.cell? ⟨gp, 3, none⟩ = some (.int .i64 pe) := HP5.out.b.cell 3
        go_wp2_with (go_at_call 20; (with_reducible refine (z_many HZ5.out 0 rfl).mono ?_); rintro e u6 ⟨rfl, hb⟩; have HZ6 := Lib.hid (HZ5.out.on hb); clear hb)
        go_ret
        exact ⟨rfl, HZ6.out.l⟩
      · have htf : (t.toList == pt.toList) = false := ne_toList ht
        go_upto_region 9 with (go_at_call 13; (with_reducible refine (z_redeem HZ3.out (one_gk x _) x (t) zeroPs 131 ⟨1, [⟨x, ⟨pv, pn, pt, pe⟩⟩]⟩ (one_held x t ⟨pv, pn, pt, pe⟩ ht) (hxs)).mono ?_); rintro e u4 ⟨H4, rfl, h1, h2⟩; have HZ4 := Lib.hid h1; have HP4 := Lib.hid (HP3.out.step h2); clear h1 h2)
        try simp only [zeroPs]
        clear a0 a1 a2 a3
        obtain ⟨u5, hq⟩ : ∃ q, u4.alloc (.cells #[.int .i64 0, .string ⟨#[]⟩, .string ⟨#[]⟩, .int .i64 0] 31) = q := ⟨_, rfl⟩
        have HZ5 := Lib.hid (show Tz W u5 H4 tb key ⟨1, [⟨x, ⟨pv, pn, pt, pe⟩⟩]⟩ by rw [← hq]; exact HZ4.out.on ((Below.refl _ _).alloc (Nat.le_refl _) _))
        have HP5 := Lib.hid (show Bz u5 H4 gp 31 #[.int .i64 pv, .string pn, .string pt, .int .i64 pe] by rw [← hq]; exact HP4.out.alloc _)
        try rw [hq]
        clear hq
        have a0 : u5.cell? ⟨gp, 0, none⟩ = some (.int .i64 pv) := HP5.out.b.cell 0
        have a1 : u5.cell? ⟨gp, 1, none⟩ = some (.string pn) := HP5.out.b.cell 1
        have a2 : u5.cell? ⟨gp, 2, none⟩ = some (.string pt) := HP5.out.b.cell 2
        have a3 : u5.cell? ⟨gp, 3, none⟩ = some (.int .i64 pe) := HP5.out.b.cell 3
        have hpt : pt.size ≤ 140737488355328 := HSZ.out.2.2
        have hcat1 : ¬ ((((pt.size + (⟨#[120]⟩ : ByteArray).size : Nat)) : Int) > IntKind.i64.max) := by rw [show (⟨#[120]⟩ : ByteArray).size = 1 from rfl, show IntKind.i64.max = 9223372036854775807 from rfl]; omega
        have hcat2 : ¬ ((9223372036854775807 : Int) < (pt.size : Int) + 1) := by omega
        have hcat3 : (pt.size : Int) + 1 ≤ 9223372036854775807 := by omega
        have hpe := Lib.hid (eqP_same ⟨pv, pn, pt, pe⟩)
        have hne : (131 : Int) ≠ 0 := by decide
        go_upto_region 12 with (go_at_call 13; (with_reducible refine (z_redeem HZ5.out (one_gk x _) x (pt ++ ⟨#[120]⟩) zeroPs 131 ⟨1, [⟨x, ⟨pv, pn, pt, pe⟩⟩]⟩ (one_held x _ ⟨pv, pn, pt, pe⟩ (app_ne pt)) (htx)).mono ?_); rintro e u6 ⟨H6, rfl, h1, h2⟩; have HZ6 := Lib.hid h1; have HP6 := Lib.hid (HP5.out.step h2); clear h1 h2)
        try simp only [zeroPs]
        clear a0 a1 a2 a3
        obtain ⟨u7, hq⟩ : ∃ q, u6.alloc (.cells #[.int .i64 0, .string ⟨#[]⟩, .string ⟨#[]⟩, .int .i64 0] 31) = q := ⟨_, rfl⟩
        have HZ7 := Lib.hid (show Tz W u7 H6 tb key ⟨1, [⟨x, ⟨pv, pn, pt, pe⟩⟩]⟩ by rw [← hq]; exact HZ6.out.on ((Below.refl _ _).alloc (Nat.le_refl _) _))
        have HP7 := Lib.hid (show Bz u7 H6 gp 31 #[.int .i64 pv, .string pn, .string pt, .int .i64 pe] by rw [← hq]; exact HP6.out.alloc _)
        try rw [hq]
        clear hq
        have a0 : u7.cell? ⟨gp, 0, none⟩ = some (.int .i64 pv) := HP7.out.b.cell 0
        have a1 : u7.cell? ⟨gp, 1, none⟩ = some (.string pn) := HP7.out.b.cell 1
        have a2 : u7.cell? ⟨gp, 2, none⟩ = some (.string pt) := HP7.out.b.cell 2
        have a3 : u7.cell? ⟨gp, 3, none⟩ = some (.int .i64 pe) := HP7.out.b.cell 3
        go_upto_region 13 with (go_at_call 13; (with_reducible refine (z_redeem HZ7.out (one_gk x _) x (pt) ⟨pv, pn, pt, pe⟩ 0 ⟨1, []⟩ (one_ok x ⟨pv, pn, pt, pe⟩) (htx)).mono ?_); rintro e u8 ⟨H8, rfl, h1, h2⟩; have HZ8 := Lib.hid h1; have HP8 := Lib.hid (HP7.out.step h2); clear h1 h2)
        clear a0 a1 a2 a3
        obtain ⟨u9, hq⟩ : ∃ q, u8.alloc (.cells #[.int .i64 pv, .string pn, .string pt, .int .i64 pe] 31) = q := ⟨_, rfl⟩
        obtain ⟨gx, hqg⟩ : ∃ q, u8.heap.size = q := ⟨_, rfl⟩
        have HZ9 := Lib.hid (show Tz W u9 H8 tb key ⟨1, []⟩ by rw [← hq]; exact HZ8.out.on ((Below.refl _ _).alloc (Nat.le_refl _) _))
        have HP9 := Lib.hid (show Bz u9 H8 gp 31 #[.int .i64 pv, .string pn, .string pt, .int .i64 pe] by rw [← hq]; exact HP8.out.alloc _)
        have HNu9 := Lib.hid (show Bz u9 H8 gx 31 #[.int .i64 pv, .string pn, .string pt, .int .i64 pe] by rw [← hq, ← hqg]; exact Bz.new HZ8.out.hi _ _)
        try rw [hq]
        try rw [hqg]
        clear hq hqg
        have a0 : u9.cell? ⟨gp, 0, none⟩ = some (.int .i64 pv) := HP9.out.b.cell 0
        have a1 : u9.cell? ⟨gp, 1, none⟩ = some (.string pn) := HP9.out.b.cell 1
        have a2 : u9.cell? ⟨gp, 2, none⟩ = some (.string pt) := HP9.out.b.cell 2
        have a3 : u9.cell? ⟨gp, 3, none⟩ = some (.int .i64 pe) := HP9.out.b.cell 3
        have b0 : u9.cell? ⟨gx, 0, none⟩ = some (.int .i64 pv) := HNu9.out.b.cell 0
        have b1 : u9.cell? ⟨gx, 1, none⟩ = some (.string pn) := HNu9.out.b.cell 1
        have b2 : u9.cell? ⟨gx, 2, none⟩ = some (.string pt) := HNu9.out.b.cell 2
        have b3 : u9.cell? ⟨gx, 3, none⟩ = some (.int .i64 pe) := HNu9.out.b.cell 3
        go_wp2_with (first
          | (refine wpList_eqp (by kernel_rfl) (.tmp 116) (.tmp 117) _ rfl ⟨pv, pn, pt, pe⟩ ⟨pv, pn, pt, pe⟩ rfl rfl ?_; rw [hpe.out])
          | (go_at_call 20; (with_reducible refine (z_many HZ9.out 0 rfl).mono ?_); rintro e v ⟨rfl, hb⟩; have HZv := Lib.hid (HZ9.out.on hb); clear hb))
        go_ret
        exact ⟨rfl, HZv.out.l⟩
    · have hxf : (x.toList == T.toList) = false := ne_toList hx
      go_upto_region 9 with (go_at_call 13; (with_reducible refine (z_redeem HZ3.out (one_gk T _) x (t) zeroPs 151 ⟨1, [⟨T, ⟨pv, pn, pt, pe⟩⟩]⟩ (one_no T x t ⟨pv, pn, pt, pe⟩ hx) (hxs)).mono ?_); rintro e u4 ⟨H4, rfl, h1, h2⟩; have HZ4 := Lib.hid h1; have HP4 := Lib.hid (HP3.out.step h2); clear h1 h2)
      try simp only [zeroPs]
      clear a0 a1 a2 a3
      obtain ⟨u5, hq⟩ : ∃ q, u4.alloc (.cells #[.int .i64 0, .string ⟨#[]⟩, .string ⟨#[]⟩, .int .i64 0] 31) = q := ⟨_, rfl⟩
      have HZ5 := Lib.hid (show Tz W u5 H4 tb key ⟨1, [⟨T, ⟨pv, pn, pt, pe⟩⟩]⟩ by rw [← hq]; exact HZ4.out.on ((Below.refl _ _).alloc (Nat.le_refl _) _))
      have HP5 := Lib.hid (show Bz u5 H4 gp 31 #[.int .i64 pv, .string pn, .string pt, .int .i64 pe] by rw [← hq]; exact HP4.out.alloc _)
      try rw [hq]
      clear hq
      have a0 : u5.cell? ⟨gp, 0, none⟩ = some (.int .i64 pv) := HP5.out.b.cell 0
      have a1 : u5.cell? ⟨gp, 1, none⟩ = some (.string pn) := HP5.out.b.cell 1
      have a2 : u5.cell? ⟨gp, 2, none⟩ = some (.string pt) := HP5.out.b.cell 2
      have a3 : u5.cell? ⟨gp, 3, none⟩ = some (.int .i64 pe) := HP5.out.b.cell 3
      have hpt : pt.size ≤ 140737488355328 := HSZ.out.2.2
      have hcat1 : ¬ ((((pt.size + (⟨#[120]⟩ : ByteArray).size : Nat)) : Int) > IntKind.i64.max) := by rw [show (⟨#[120]⟩ : ByteArray).size = 1 from rfl, show IntKind.i64.max = 9223372036854775807 from rfl]; omega
      have hcat2 : ¬ ((9223372036854775807 : Int) < (pt.size : Int) + 1) := by omega
      have hcat3 : (pt.size : Int) + 1 ≤ 9223372036854775807 := by omega
      have hpe := Lib.hid (eqP_same ⟨pv, pn, pt, pe⟩)
      have hne : (151 : Int) ≠ 0 := by decide
      go_upto_region 12 with (go_at_call 13; (with_reducible refine (z_redeem HZ5.out (one_gk T _) T (pt ++ ⟨#[120]⟩) zeroPs 131 ⟨1, [⟨T, ⟨pv, pn, pt, pe⟩⟩]⟩ (one_held T _ ⟨pv, pn, pt, pe⟩ (app_ne pt)) (htx)).mono ?_); rintro e u6 ⟨H6, rfl, h1, h2⟩; have HZ6 := Lib.hid h1; have HP6 := Lib.hid (HP5.out.step h2); clear h1 h2)
      try simp only [zeroPs]
      clear a0 a1 a2 a3
      obtain ⟨u7, hq⟩ : ∃ q, u6.alloc (.cells #[.int .i64 0, .string ⟨#[]⟩, .string ⟨#[]⟩, .int .i64 0] 31) = q := ⟨_, rfl⟩
      have HZ7 := Lib.hid (show Tz W u7 H6 tb key ⟨1, [⟨T, ⟨pv, pn, pt, pe⟩⟩]⟩ by rw [← hq]; exact HZ6.out.on ((Below.refl _ _).alloc (Nat.le_refl _) _))
      have HP7 := Lib.hid (show Bz u7 H6 gp 31 #[.int .i64 pv, .string pn, .string pt, .int .i64 pe] by rw [← hq]; exact HP6.out.alloc _)
      try rw [hq]
      clear hq
      have a0 : u7.cell? ⟨gp, 0, none⟩ = some (.int .i64 pv) := HP7.out.b.cell 0
      have a1 : u7.cell? ⟨gp, 1, none⟩ = some (.string pn) := HP7.out.b.cell 1
      have a2 : u7.cell? ⟨gp, 2, none⟩ = some (.string pt) := HP7.out.b.cell 2
      have a3 : u7.cell? ⟨gp, 3, none⟩ = some (.int .i64 pe) := HP7.out.b.cell 3
      go_upto_region 13 with (go_at_call 13; (with_reducible refine (z_redeem HZ7.out (one_gk T _) T (pt) ⟨pv, pn, pt, pe⟩ 0 ⟨1, []⟩ (one_ok T ⟨pv, pn, pt, pe⟩) (htx)).mono ?_); rintro e u8 ⟨H8, rfl, h1, h2⟩; have HZ8 := Lib.hid h1; have HP8 := Lib.hid (HP7.out.step h2); clear h1 h2)
      clear a0 a1 a2 a3
      obtain ⟨u9, hq⟩ : ∃ q, u8.alloc (.cells #[.int .i64 pv, .string pn, .string pt, .int .i64 pe] 31) = q := ⟨_, rfl⟩
      obtain ⟨gx, hqg⟩ : ∃ q, u8.heap.size = q := ⟨_, rfl⟩
      have HZ9 := Lib.hid (show Tz W u9 H8 tb key ⟨1, []⟩ by rw [← hq]; exact HZ8.out.on ((Below.refl _ _).alloc (Nat.le_refl _) _))
      have HP9 := Lib.hid (show Bz u9 H8 gp 31 #[.int .i64 pv, .string pn, .string pt, .int .i64 pe] by rw [← hq]; exact HP8.out.alloc _)
      have HNu9 := Lib.hid (show Bz u9 H8 gx 31 #[.int .i64 pv, .string pn, .string pt, .int .i64 pe] by rw [← hq, ← hqg]; exact Bz.new HZ8.out.hi _ _)
      try rw [hq]
      try rw [hqg]
      clear hq hqg
      have a0 : u9.cell? ⟨gp, 0, none⟩ = some (.int .i64 pv) := HP9.out.b.cell 0
      have a1 : u9.cell? ⟨gp, 1, none⟩ = some (.string pn) := HP9.out.b.cell 1
      have a2 : u9.cell? ⟨gp, 2, none⟩ = some (.string pt) := HP9.out.b.cell 2
      have a3 : u9.cell? ⟨gp, 3, none⟩ = some (.int .i64 pe) := HP9.out.b.cell 3
      have b0 : u9.cell? ⟨gx, 0, none⟩ = some (.int .i64 pv) := HNu9.out.b.cell 0
      have b1 : u9.cell? ⟨gx, 1, none⟩ = some (.string pn) := HNu9.out.b.cell 1
      have b2 : u9.cell? ⟨gx, 2, none⟩ = some (.string pt) := HNu9.out.b.cell 2
      have b3 : u9.cell? ⟨gx, 3, none⟩ = some (.int .i64 pe) := HNu9.out.b.cell 3
      go_wp2_with (first
        | (refine wpList_eqp (by kernel_rfl) (.tmp 116) (.tmp 117) _ rfl ⟨pv, pn, pt, pe⟩ ⟨pv, pn, pt, pe⟩ rfl rfl ?_; rw [hpe.out])
        | (go_at_call 20; (with_reducible refine (z_many HZ9.out 0 rfl).mono ?_); rintro e v ⟨rfl, hb⟩; have HZv := Lib.hid (HZ9.out.on hb); clear hb))
      go_ret
      exact ⟨rfl, HZv.out.l⟩
end Go.Proofs.YtinbegnojfpeiaaDoor
