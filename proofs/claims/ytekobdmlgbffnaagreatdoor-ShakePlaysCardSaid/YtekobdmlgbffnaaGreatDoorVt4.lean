/- A vault's methods: their contracts. (Written by gen_vt4.py.) -/
import Derived.Test.YtekobdmlgbffnaaGreatDoorVt3
import Derived.Test.YtekobdmlgbffnaaGreatDoorSame
namespace Go.Proofs.YtekobdmlgbffnaaGreatDoor
set_option linter.unusedVariables false
set_option maxRecDepth 100000
set_option linter.unusedSimpArgs false
open Go.RowKit

theorem vt_none {ts : List Tv} {a b : ByteArray} {y : Tv} (hy : y.t = ((fT a ts).getD zeroTv).t) (h : tkT ts a b = none) : fK b y.t.toks = none := by rw [hy]; exact h
theorem vt_some {ts : List Tv} {a b : ByteArray} {y : Tv} {k : Tk} (hy : y.t = ((fT a ts).getD zeroTv).t) (h : tkT ts a b = some k) : fK b y.t.toks = some k ∧ y.t.name = a ∧ k.name = b := ⟨by rw [hy]; exact h, by rw [hy]; exact (tkT_name h).1, (tkT_name h).2⟩
/-- What ask's calls come to, if there is no such token. -/
theorem vt_tok0 {w : World} {y : Tv} {b : ByteArray} (hr : RT1 w y) (h : fK b y.t.toks = none) : ∀ u, Below w.heap.size w u → Calls Tryz.prog 11 #[.agg (tcs y), .string b] u fun e w' => e = .returned (.tuple #[.agg #[.string ⟨#[]⟩, .string ⟨#[]⟩, .int .i64 0], .bool false]) ∧ Below u.heap.size u w' := fun u hu => by
  have := token_ok y b u (hr.on hu)
  rw [h] at this
  exact this
theorem vt_tok1 {w : World} {y : Tv} {b : ByteArray} {k : Tk} (hr : RT1 w y) (h : fK b y.t.toks = some k) : ∀ u, Below w.heap.size w u → Calls Tryz.prog 11 #[.agg (tcs y), .string b] u fun e w' => e = .returned (.tuple #[.agg #[.string k.name, .string k.sec, .int .i64 k.till], .bool true]) ∧ Below u.heap.size u w' := fun u hu => by
  have := token_ok y b u (hr.on hu)
  rw [h] at this
  exact this

set_option maxRecDepth 100000 in
set_option maxHeartbeats 4000000 in
theorem ask_good (u : World) (v mb : Nat) (c : List Tn) (g : Rev) (hv : Va u v mb c g) (p q : Nat) (a b : ByteArray) (now : Int) (cp : u.cell? ⟨p, 0, none⟩ = some (.pointer (some ⟨v, 0, none⟩))) (cq : u.cell? ⟨q, 0, none⟩ = some (.int .i64 now)) (hpl : p < u.heap.size) (hql : q < u.heap.size) :
    Calls Tryz.prog 62 #[.pointer (some ⟨v, 0, none⟩), .string a, .string b, .func (.func 159) #[] #[.pointer (some ⟨p, 0, none⟩), .pointer (some ⟨q, 0, none⟩)]] u fun e u' => e = .returned (.bool (gdB (tkN c a b) (inR g a b) now)) ∧ Below u.heap.size u u' := by
  obtain ⟨x, hz⟩ := hv
  have HFC := Lib.hid (find_cfg2 x a u hz.rc hz.few)
  have HTK := Lib.hid (hz.tk a b)
  have HSC := Lib.hid (hz.sec a b)
  have HMV := Lib.hid hz.mp
  have HKC := Lib.hid (show ∀ (k : Tk), tkN c a b = some k → a.size ≤ 140737488355328 → b.size ≤ 140737488355328 → ∀ u', Below u.heap.size u u' → Calls Tryz.prog 159 #[nk a b, .agg #[.string k.name, .string k.sec, .int .i64 k.till], .pointer (some ⟨p, 0, none⟩), .pointer (some ⟨q, 0, none⟩)] u' fun e w' => e = .returned (.bool (!inR g a b && decide (now < k.till))) ∧ Below u'.heap.size u' w' from fun k hk ha hb u' hu => by
    have HSC := Lib.hid (show ∀ k', some k = some k' → k'.sec.size ≤ 32 from fun k' e => hz.sec a b k' (hk.trans e))
    exact good1_ok u' v mb c g ⟨_, hz.on hu⟩ p q a b k.name k.sec k.till now ((hu.cell (p := ⟨p, 0, none⟩) hpl).trans cp) ((hu.cell (p := ⟨q, 0, none⟩) hql).trans cq) (Nat.lt_of_lt_of_le hpl hu.size) (Nat.lt_of_lt_of_le hql hu.size) ha hb)
  have e0 := hz.blk.cell 0
  have e1 := hz.blk.cell 1
  have e2 := hz.blk.cell 2
  have e3 := hz.blk.cell 3
  have e4 := hz.blk.cell 4
  obtain ⟨a0, a1, a2, a3, ts, A, cc⟩ := x
  obtain ⟨n, hn⟩ : ∃ n, ts.length = n := ⟨_, rfl⟩
  obtain ⟨is, his⟩ : ∃ is, (fT a ts).isSome = is := ⟨_, rfl⟩
  simp only [ccs, hn, his] at HFC
  simp only [hn] at e0 e1 e2 e3 e4
  clear hz hn his cp cq hpl hql
  go_enter Tryz.func62, Tryz.ntmps62
  cases hR : tkN c a b with
  | none =>
    have HN := Lib.hid (HTK.out.trans hR)
    clear hR HKC
    go_wp2_with (first
      | (go_at_call 9; (with_reducible refine HFC.out.mono ?_); rintro e u2 ⟨y, rfl, hy, ⟨hr, _, _⟩, hb⟩; have HT := Lib.hid (vt_tok0 hr (vt_none hy HN.out)); clear hy hr; obtain ⟨⟨yn, ya, yb, ynl, ykl⟩, yAn, ycn, yAk, yck⟩ := y; dsimp only [tcs] at HT ⊢)
      | (go_at_call 11; (with_reducible refine (HT.out _ ((Below.refl _ _).alloc (Nat.le_refl _) _)).mono ?_); rintro e u3 ⟨rfl, hb3⟩; have HB := Lib.hid (show Below u.heap.size u u3 from (hb.alloc hb.size _).trans (hb3.mono (by rw [World.size_alloc]; exact Nat.le_succ_of_le hb.size)))))
    go_ret
    exact ⟨rfl, HB.out.alloc HB.out.size _⟩
  | some k =>
    have HN := Lib.hid (HTK.out.trans hR)
    have HK2 := Lib.hid (HKC.out k hR)
    clear hR HKC HTK HSC
    go_wp2_with (first
      | (go_at_call 9; (with_reducible refine HFC.out.mono ?_); rintro e u2 ⟨y, rfl, hy, ⟨hr, _, _⟩, hb⟩; obtain ⟨s1, s2, s3⟩ := vt_some hy HN.out; have HT := Lib.hid (vt_tok1 hr s1); have HSZ := Lib.hid (And.intro hr.sz (hr.szk k (fK_name s1).2).1); clear hy hr; obtain ⟨⟨yn, ya, yb, ynl, ykl⟩, yAn, ycn, yAk, yck⟩ := y; dsimp only [tcs] at HT s1 s2 s3 HSZ ⊢; subst s2; subst s3)
      | (go_at_call 11; (with_reducible refine (HT.out _ ((Below.refl _ _).alloc (Nat.le_refl _) _)).mono ?_); rintro e u3 ⟨rfl, hb3⟩; have HB := Lib.hid (show Below u.heap.size u u3 from (hb.alloc hb.size _).trans (hb3.mono (by rw [World.size_alloc]; exact Nat.le_succ_of_le hb.size))); have HT2 := Lib.hid (Bk.new u2 33 #[.string yn, .int .i64 ya, .int .i64 yb, .slice yAn ynl.length ycn, .slice yAk ykl.length yck]); have q0 : u3.cell? ⟨u2.heap.size, 0, none⟩ = some (.string yn) := (HT2.out.below hb3 HT2.out.lt).cell 0; have q1 : (u3.alloc (.cells #[.string k.name, .string k.sec, .int .i64 k.till] 37)).cell? ⟨u2.heap.size, 0, none⟩ = some (.string yn) := ((HT2.out.below hb3 HT2.out.lt).alloc _).cell 0)
      | (go_at_call 159; (with_reducible refine (HK2.out HSZ.out.1 HSZ.out.2 _ (HB.out.alloc HB.out.size _)).mono ?_); rintro e u4 hh; obtain ⟨rfl, hh⟩ := hh))
    go_ret
    exact ⟨rfl, (HB.out.alloc HB.out.size _).trans (hh.mono (by rw [World.size_alloc]; exact Nat.le_succ_of_le HB.out.size))⟩

set_option maxRecDepth 100000 in
set_option maxHeartbeats 4000000 in
theorem ask_rev (u : World) (v mb : Nat) (c : List Tn) (g : Rev) (hv : Va u v mb c g) (hg : g.length ≤ 1099511627776) (p : Nat) (a b : ByteArray) (cp : u.cell? ⟨p, 0, none⟩ = some (.pointer (some ⟨v, 0, none⟩))) (hpl : p < u.heap.size) :
    Calls Tryz.prog 62 #[.pointer (some ⟨v, 0, none⟩), .string a, .string b, .func (.func 63) #[] #[.pointer (some ⟨p, 0, none⟩)]] u fun e u' => e = .returned (.bool (rvB (tkN c a b) (inR g a b))) ∧ Mv u' mb (rvG (tkN c a b) g a b) ∧ Ke [mb] u u' := by
  obtain ⟨x, hz⟩ := hv
  have HFC := Lib.hid (find_cfg2 x a u hz.rc hz.few)
  have HTK := Lib.hid (hz.tk a b)
  have HSC := Lib.hid (hz.sec a b)
  have HMV := Lib.hid hz.mp
  have HKC := Lib.hid (show ∀ (k : Tk), tkN c a b = some k → a.size ≤ 140737488355328 → b.size ≤ 140737488355328 → ∀ u', Below u.heap.size u u' → Calls Tryz.prog 63 #[nk a b, .agg #[.string k.name, .string k.sec, .int .i64 k.till], .pointer (some ⟨p, 0, none⟩)] u' fun e w' => e = .returned (.bool (!inR g a b)) ∧ Mv w' mb ((a, b) :: g) ∧ Ke [mb] u' w' from fun k hk ha hb u' hu => by
    have HSC := Lib.hid (show ∀ k', some k = some k' → k'.sec.size ≤ 32 from fun k' e => hz.sec a b k' (hk.trans e))
    exact revoke1_ok u' v mb c g ⟨_, hz.on hu⟩ hg p a b k.name k.sec k.till ((hu.cell (p := ⟨p, 0, none⟩) hpl).trans cp) (Nat.lt_of_lt_of_le hpl hu.size) ha hb)
  have e0 := hz.blk.cell 0
  have e1 := hz.blk.cell 1
  have e2 := hz.blk.cell 2
  have e3 := hz.blk.cell 3
  have e4 := hz.blk.cell 4
  obtain ⟨a0, a1, a2, a3, ts, A, cc⟩ := x
  obtain ⟨n, hn⟩ : ∃ n, ts.length = n := ⟨_, rfl⟩
  obtain ⟨is, his⟩ : ∃ is, (fT a ts).isSome = is := ⟨_, rfl⟩
  simp only [ccs, hn, his] at HFC
  simp only [hn] at e0 e1 e2 e3 e4
  clear hz hn his cp hpl
  go_enter Tryz.func62, Tryz.ntmps62
  cases hR : tkN c a b with
  | none =>
    have HN := Lib.hid (HTK.out.trans hR)
    clear hR HKC
    go_wp2_with (first
      | (go_at_call 9; (with_reducible refine HFC.out.mono ?_); rintro e u2 ⟨y, rfl, hy, ⟨hr, _, _⟩, hb⟩; have HT := Lib.hid (vt_tok0 hr (vt_none hy HN.out)); clear hy hr; obtain ⟨⟨yn, ya, yb, ynl, ykl⟩, yAn, ycn, yAk, yck⟩ := y; dsimp only [tcs] at HT ⊢)
      | (go_at_call 11; (with_reducible refine (HT.out _ ((Below.refl _ _).alloc (Nat.le_refl _) _)).mono ?_); rintro e u3 ⟨rfl, hb3⟩; have HB := Lib.hid (show Below u.heap.size u u3 from (hb.alloc hb.size _).trans (hb3.mono (by rw [World.size_alloc]; exact Nat.le_succ_of_le hb.size)))))
    go_ret
    exact ⟨rfl, HMV.out.ke (Ke.of (HB.out.alloc HB.out.size _)) (by simp), (Ke.of (HB.out.alloc HB.out.size _)).nil⟩
  | some k =>
    have HN := Lib.hid (HTK.out.trans hR)
    have HK2 := Lib.hid (HKC.out k hR)
    clear hR HKC HTK HSC
    go_wp2_with (first
      | (go_at_call 9; (with_reducible refine HFC.out.mono ?_); rintro e u2 ⟨y, rfl, hy, ⟨hr, _, _⟩, hb⟩; obtain ⟨s1, s2, s3⟩ := vt_some hy HN.out; have HT := Lib.hid (vt_tok1 hr s1); have HSZ := Lib.hid (And.intro hr.sz (hr.szk k (fK_name s1).2).1); clear hy hr; obtain ⟨⟨yn, ya, yb, ynl, ykl⟩, yAn, ycn, yAk, yck⟩ := y; dsimp only [tcs] at HT s1 s2 s3 HSZ ⊢; subst s2; subst s3)
      | (go_at_call 11; (with_reducible refine (HT.out _ ((Below.refl _ _).alloc (Nat.le_refl _) _)).mono ?_); rintro e u3 ⟨rfl, hb3⟩; have HB := Lib.hid (show Below u.heap.size u u3 from (hb.alloc hb.size _).trans (hb3.mono (by rw [World.size_alloc]; exact Nat.le_succ_of_le hb.size))); have HT2 := Lib.hid (Bk.new u2 33 #[.string yn, .int .i64 ya, .int .i64 yb, .slice yAn ynl.length ycn, .slice yAk ykl.length yck]); have q0 : u3.cell? ⟨u2.heap.size, 0, none⟩ = some (.string yn) := (HT2.out.below hb3 HT2.out.lt).cell 0; have q1 : (u3.alloc (.cells #[.string k.name, .string k.sec, .int .i64 k.till] 37)).cell? ⟨u2.heap.size, 0, none⟩ = some (.string yn) := ((HT2.out.below hb3 HT2.out.lt).alloc _).cell 0)
      | (go_at_call 63; (with_reducible refine (HK2.out HSZ.out.1 HSZ.out.2 _ (HB.out.alloc HB.out.size _)).mono ?_); rintro e u4 hh; obtain ⟨rfl, hh⟩ := hh))
    go_ret
    exact ⟨rfl, hh.1, (Ke.of (HB.out.alloc HB.out.size _)).nil.trans hh.2⟩

set_option maxRecDepth 100000 in
set_option maxHeartbeats 4000000 in
theorem ask_want (u : World) (v mb : Nat) (c : List Tn) (g : Rev) (hv : Va u v mb c g) (hG : Gl u) (q : Nat) (a b nn : ByteArray) (cq : u.cell? ⟨q, 0, none⟩ = some (.string nn)) (hql : q < u.heap.size) (hn : nn.size ≤ 140737488355328) :
    Calls Tryz.prog 98 #[.pointer (some ⟨v, 0, none⟩), .string a, .string b, .func (.func 99) #[] #[.pointer (some ⟨q, 0, none⟩)]] u fun e u' => e = .returned (.string ⟨(wnB (tkN c a b) a b nn).toArray⟩) ∧ Below u.heap.size u u' := by
  obtain ⟨x, hz⟩ := hv
  have HFC := Lib.hid (find_cfg2 x a u hz.rc hz.few)
  have HTK := Lib.hid (hz.tk a b)
  have HSC := Lib.hid (hz.sec a b)
  have HMV := Lib.hid hz.mp
  have HKC := Lib.hid (show ∀ (k : Tk), tkN c a b = some k → a.size ≤ 140737488355328 → b.size ≤ 140737488355328 → ∀ u', Below u.heap.size u u' → Calls Tryz.prog 99 #[nk a b, .agg #[.string k.name, .string k.sec, .int .i64 k.till], .pointer (some ⟨q, 0, none⟩)] u' fun e w' => e = .returned (.string ⟨(proofB k.sec.data.toList [a, b, nn]).toArray⟩) ∧ Below u'.heap.size u' w' from fun k hk ha hb u' hu => by
    have HSC := Lib.hid (show ∀ k', some k = some k' → k'.sec.size ≤ 32 from fun k' e => hz.sec a b k' (hk.trans e))
    exact want1_ok u' (hG.below hu hG.size) q a b k.name k.sec nn k.till ((hu.cell (p := ⟨q, 0, none⟩) hql).trans cq) (Nat.lt_of_lt_of_le hql hu.size) (HSC.out k rfl) ha hb hn)
  have e0 := hz.blk.cell 0
  have e1 := hz.blk.cell 1
  have e2 := hz.blk.cell 2
  have e3 := hz.blk.cell 3
  have e4 := hz.blk.cell 4
  obtain ⟨a0, a1, a2, a3, ts, A, cc⟩ := x
  obtain ⟨n, hn⟩ : ∃ n, ts.length = n := ⟨_, rfl⟩
  obtain ⟨is, his⟩ : ∃ is, (fT a ts).isSome = is := ⟨_, rfl⟩
  simp only [ccs, hn, his] at HFC
  simp only [hn] at e0 e1 e2 e3 e4
  clear hz hn his cq hql hG
  go_enter Tryz.func98, Tryz.ntmps98
  cases hR : tkN c a b with
  | none =>
    have HN := Lib.hid (HTK.out.trans hR)
    clear hR HKC
    go_wp2_with (first
      | (go_at_call 9; (with_reducible refine HFC.out.mono ?_); rintro e u2 ⟨y, rfl, hy, ⟨hr, _, _⟩, hb⟩; have HT := Lib.hid (vt_tok0 hr (vt_none hy HN.out)); clear hy hr; obtain ⟨⟨yn, ya, yb, ynl, ykl⟩, yAn, ycn, yAk, yck⟩ := y; dsimp only [tcs] at HT ⊢)
      | (go_at_call 11; (with_reducible refine (HT.out _ ((Below.refl _ _).alloc (Nat.le_refl _) _)).mono ?_); rintro e u3 ⟨rfl, hb3⟩; have HB := Lib.hid (show Below u.heap.size u u3 from (hb.alloc hb.size _).trans (hb3.mono (by rw [World.size_alloc]; exact Nat.le_succ_of_le hb.size)))))
    go_ret
    exact ⟨rfl, HB.out.alloc HB.out.size _⟩
  | some k =>
    have HN := Lib.hid (HTK.out.trans hR)
    have HK2 := Lib.hid (HKC.out k hR)
    clear hR HKC HTK HSC
    go_wp2_with (first
      | (go_at_call 9; (with_reducible refine HFC.out.mono ?_); rintro e u2 ⟨y, rfl, hy, ⟨hr, _, _⟩, hb⟩; obtain ⟨s1, s2, s3⟩ := vt_some hy HN.out; have HT := Lib.hid (vt_tok1 hr s1); have HSZ := Lib.hid (And.intro hr.sz (hr.szk k (fK_name s1).2).1); clear hy hr; obtain ⟨⟨yn, ya, yb, ynl, ykl⟩, yAn, ycn, yAk, yck⟩ := y; dsimp only [tcs] at HT s1 s2 s3 HSZ ⊢; subst s2; subst s3)
      | (go_at_call 11; (with_reducible refine (HT.out _ ((Below.refl _ _).alloc (Nat.le_refl _) _)).mono ?_); rintro e u3 ⟨rfl, hb3⟩; have HB := Lib.hid (show Below u.heap.size u u3 from (hb.alloc hb.size _).trans (hb3.mono (by rw [World.size_alloc]; exact Nat.le_succ_of_le hb.size))); have HT2 := Lib.hid (Bk.new u2 33 #[.string yn, .int .i64 ya, .int .i64 yb, .slice yAn ynl.length ycn, .slice yAk ykl.length yck]); have q0 : u3.cell? ⟨u2.heap.size, 0, none⟩ = some (.string yn) := (HT2.out.below hb3 HT2.out.lt).cell 0; have q1 : (u3.alloc (.cells #[.string k.name, .string k.sec, .int .i64 k.till] 37)).cell? ⟨u2.heap.size, 0, none⟩ = some (.string yn) := ((HT2.out.below hb3 HT2.out.lt).alloc _).cell 0)
      | (go_at_call 99; (with_reducible refine (HK2.out HSZ.out.1 HSZ.out.2 _ (HB.out.alloc HB.out.size _)).mono ?_); rintro e u4 hh; obtain ⟨rfl, hh⟩ := hh))
    go_ret
    exact ⟨rfl, (HB.out.alloc HB.out.size _).trans (hh.mono (by rw [World.size_alloc]; exact Nat.le_succ_of_le HB.out.size))⟩

set_option maxHeartbeats 1000000 in
theorem vgood_ok (u : World) (v mb : Nat) (c : List Tn) (g : Rev) (hv : Va u v mb c g) (a b : ByteArray) (now : Int) :
    Calls Tryz.prog 143 #[.pointer (some ⟨v, 0, none⟩), .string a, .string b, .int .i64 now] u fun e u' => e = .returned (.bool (gdB (tkN c a b) (inR g a b) now)) ∧ Below u.heap.size u u' := by
  have hb := ((Below.refl u.heap.size u).alloc (Nat.le_refl _) (.cells #[.pointer (some ⟨v, 0, none⟩)] 46)).alloc (by rw [World.size_alloc]; omega) (.cells #[.int .i64 now] 2)
  have k1 : Bk ((u.alloc (.cells #[.pointer (some ⟨v, 0, none⟩)] 46)).alloc (.cells #[.int .i64 now] 2)) u.heap.size 46 #[.pointer (some ⟨v, 0, none⟩)] := (Bk.new u _ _).alloc _
  have k2 : Bk ((u.alloc (.cells #[.pointer (some ⟨v, 0, none⟩)] 46)).alloc (.cells #[.int .i64 now] 2)) (u.heap.size + 1) 2 #[.int .i64 now] := by
    have := Bk.new (u.alloc (.cells #[.pointer (some ⟨v, 0, none⟩)] 46)) 2 #[.int .i64 now]
    rwa [World.size_alloc] at this
  have HA := Lib.hid (ask_good _ v mb c g (hv.on hb) u.heap.size (u.heap.size + 1) a b now (k1.cell 0) (k2.cell 0) k1.lt k2.lt)
  have HB := Lib.hid hb
  clear hb k1 k2 hv
  go_enter Tryz.func143, Tryz.ntmps143
  go_wp2_with (go_at_call 62; (with_reducible refine HA.out.mono ?_); rintro e u2 ⟨rfl, hb2⟩)
  go_ret
  exact ⟨rfl, HB.out.trans (hb2.mono HB.out.size)⟩
set_option maxHeartbeats 1000000 in
theorem vwant_ok (u : World) (v mb : Nat) (c : List Tn) (g : Rev) (hv : Va u v mb c g) (hG : Gl u) (a b nn : ByteArray) (hn : nn.size ≤ 140737488355328) :
    Calls Tryz.prog 58 #[.pointer (some ⟨v, 0, none⟩), .string a, .string b, .string nn] u fun e u' => e = .returned (.string ⟨(wnB (tkN c a b) a b nn).toArray⟩) ∧ Below u.heap.size u u' := by
  have hb := (Below.refl u.heap.size u).alloc (Nat.le_refl _) (.cells #[.string nn] 9)
  have k1 := Bk.new u 9 #[.string nn]
  have HA := Lib.hid (ask_want _ v mb c g (hv.on hb) (hG.below hb hG.size) u.heap.size a b nn (k1.cell 0) k1.lt hn)
  have HB := Lib.hid hb
  clear hb k1 hv hG
  go_enter Tryz.func58, Tryz.ntmps58
  go_wp2_with (go_at_call 98; (with_reducible refine HA.out.mono ?_); rintro e u2 ⟨rfl, hb2⟩)
  go_ret
  exact ⟨rfl, HB.out.trans (hb2.mono HB.out.size)⟩
set_option maxHeartbeats 1000000 in
theorem vrev_ok (u : World) (v mb : Nat) (c : List Tn) (g : Rev) (hv : Va u v mb c g) (hg : g.length ≤ 1099511627776) (a b : ByteArray) :
    Calls Tryz.prog 25 #[.pointer (some ⟨v, 0, none⟩), .string a, .string b] u fun e u' => e = .returned (.bool (rvB (tkN c a b) (inR g a b))) ∧ Va u' v mb c (rvG (tkN c a b) g a b) ∧ Ke [mb] u u' := by
  have hb := (Below.refl u.heap.size u).alloc (Nat.le_refl _) (.cells #[.pointer (some ⟨v, 0, none⟩)] 46)
  have k1 := Bk.new u 46 #[.pointer (some ⟨v, 0, none⟩)]
  obtain ⟨x, hz⟩ := hv
  have HA := Lib.hid (ask_rev _ v mb c g ⟨x, hz.on hb⟩ hg u.heap.size a b (k1.cell 0) k1.lt)
  have HB := Lib.hid hb
  have HZ := Lib.hid hz
  clear hb k1 hz
  go_enter Tryz.func25, Tryz.ntmps25
  go_wp2_with (go_at_call 62; (with_reducible refine HA.out.mono ?_); rintro e u2 ⟨rfl, hm2, hk2⟩)
  go_ret
  exact ⟨rfl, ⟨x, (HZ.out.on HB.out).own hk2 hm2⟩, (Ke.of HB.out).nil.trans hk2⟩

theorem ck_bad {w : List UInt8} {p : ByteArray} (h : w = []) : ckI true w p = 101 := by unfold ckI; rw [if_neg (by simp), if_pos (.inl h)]
theorem ck_other {w : List UInt8} {p : ByteArray} (h : w ≠ p.data.toList) : ckI true w p = 101 := by unfold ckI; rw [if_neg (by simp), if_pos (.inr h)]
theorem ck_ok {w : List UInt8} {p : ByteArray} (h0 : w ≠ []) (h : w = p.data.toList) : ckI true w p = 0 := by unfold ckI; rw [if_neg (by simp), if_neg (fun h' => h'.elim h0 (fun h2 => h2 h))]
theorem wnB_len (o : Option Tk) (a b n : ByteArray) : (wnB o a b n).length ≤ 64 := by
  unfold wnB
  split
  · simp
  · unfold proofB
    split
    · rw [hexB_len, macB_len]; decide
    · simp

set_option maxRecDepth 100000 in
set_option maxHeartbeats 4000000 in
theorem vcheck_ok (u : World) (v mb : Nat) (c : List Tn) (g : Rev) (hv : Va u v mb c g) (hG : Gl u) (a b nn pf : ByteArray) (now : Int) (hn : nn.size ≤ 140737488355328) (hp : pf.size ≤ 1099511627776) :
    Calls Tryz.prog 125 #[.pointer (some ⟨v, 0, none⟩), .string a, .string b, .string nn, .string pf, .int .i64 now] u fun e u' => e = .returned (.int .i64 (ckI (gdB (tkN c a b) (inR g a b) now) (wnB (tkN c a b) a b nn) pf)) ∧ Below u.heap.size u u' := by
  have HGD := Lib.hid (vgood_ok u v mb c g hv a b now)
  have HWN := Lib.hid (fun u' (hu : Below u.heap.size u u') => vwant_ok u' v mb c g (hv.on hu) (hG.below hu hG.size) a b nn hn)
  have HLN := Lib.hid (wnB_len (tkN c a b) a b nn)
  have HPF := Lib.hid hp
  obtain ⟨G, hGd⟩ : ∃ G, gdB (tkN c a b) (inR g a b) now = G := ⟨_, rfl⟩
  obtain ⟨W, hW⟩ : ∃ W, wnB (tkN c a b) a b nn = W := ⟨_, rfl⟩
  rw [hGd] at HGD ⊢
  rw [hW] at HWN HLN ⊢
  clear hGd hW hv hG hn hp
  go_enter Tryz.func125, Tryz.ntmps125
  cases G with
  | false =>
    go_wp2_with (go_at_call 143; (with_reducible refine HGD.out.mono ?_); rintro e u2 ⟨rfl, hb2⟩)
    go_ret
    exact ⟨rfl, hb2⟩
  | true =>
    obtain ⟨WB, hWB⟩ : ∃ WB : ByteArray, (⟨W.toArray⟩ : ByteArray) = WB := ⟨_, rfl⟩
    have HWD := Lib.hid (show WB.data.toList = W by rw [← hWB])
    have HWZ := Lib.hid (show WB.size ≤ 64 by rw [← hWB]; have := HLN.out; show W.toArray.size ≤ 64; rw [List.size_toArray]; exact this)
    rw [hWB] at HWN
    clear hWB
    go_upto_region 4 with (first
      | (go_at_call 143; (with_reducible refine HGD.out.mono ?_); rintro e u2 ⟨rfl, hb2⟩)
      | (go_at_call 58; (with_reducible refine (HWN.out _ hb2).mono ?_); rintro e u3 ⟨rfl, hb3⟩; have HB3 := Lib.hid (hb2.trans (hb3.mono hb2.size))))
    by_cases h0 : W = []
    · have hq1 : (WB.toList == []) = true := by rw [ByteArray.toList_eq, HWD.out, h0]; rfl
      have HR := Lib.hid (ck_bad (p := pf) h0)
      go_wp2
      go_ret
      exact ⟨by rw [HR.out]; rfl, HB3.out⟩
    · have hq1 : (WB.toList == []) = false := by rw [ByteArray.toList_eq, HWD.out]; cases hw : W with
        | nil => exact absurd hw h0
        | cons x l => rfl
      obtain ⟨cap, ob, hcb, hcap1, hcap2, hRB⟩ := conv_back WB (by have := HWZ.out; omega) u3
      have hbo : Below u3.heap.size u3 (u3.drew.alloc ob) := (Below.refl _ _).drew.alloc (Nat.le_refl _) _
      have hz0 : (u3.drew.alloc ob).heap.size = u3.heap.size + 1 := World.size_alloc ..
      obtain ⟨v1, hv1⟩ : ∃ v1, u3.drew.alloc ob = v1 := ⟨_, rfl⟩
      rw [hv1] at hcb hRB hbo hz0
      clear hv1
      obtain ⟨cap2, ob2, hcb2, hcap3, hcap4, hRB2⟩ := conv_back pf HPF.out v1
      have hbo2 : Below v1.heap.size v1 (v1.drew.alloc ob2) := (Below.refl _ _).drew.alloc (Nat.le_refl _) _
      obtain ⟨v2, hv2⟩ : ∃ v2, v1.drew.alloc ob2 = v2 := ⟨_, rfl⟩
      rw [hv2] at hcb2 hRB2 hbo2
      clear hv2
      have HSM := Lib.hid (same_ok (some ⟨u3.heap.size, 0, none⟩) WB.size cap WB.data.toList (some ⟨v1.heap.size, 0, none⟩) pf.size cap2 pf.data.toList (decide (WB.data.toList = pf.data.toList)) v2 rfl rfl (by have := HWZ.out; omega) HPF.out ((hRB.below hbo2 (Nat.le_refl _)).more hbo2.size) hRB2 rfl)
      have HB5 := Lib.hid (show Below u.heap.size u v2 from (HB3.out.trans (hbo.mono HB3.out.size)).trans (hbo2.mono (Nat.le_trans HB3.out.size hbo.size)))
      have HRR := Lib.hid (show (if decide (WB.data.toList = pf.data.toList) = true then (0 : Int) else 101) = ckI true W pf by
        rw [HWD.out]
        by_cases hp : W = pf.data.toList
        · rw [ck_ok h0 hp, if_pos (by simpa using hp)]
        · rw [ck_other hp, if_neg (by simpa using hp)])
      clear hRB hRB2 hbo hbo2 h0 hz0
      obtain ⟨sm, hsm⟩ : ∃ sm, decide (WB.data.toList = pf.data.toList) = sm := ⟨_, rfl⟩
      rw [hsm] at HSM HRR
      clear hsm
      cases sm with
      | false =>
        go_wp2_with (go_at_call 144; (with_reducible refine HSM.out.mono ?_); rintro e u6 ⟨rfl, hb6⟩)
        go_ret
        exact ⟨by rw [← HRR.out]; rfl, HB5.out.trans (hb6.mono HB5.out.size)⟩
      | true =>
        go_wp2_with (go_at_call 144; (with_reducible refine HSM.out.mono ?_); rintro e u6 ⟨rfl, hb6⟩)
        go_ret
        exact ⟨by rw [← HRR.out]; rfl, HB5.out.trans (hb6.mono HB5.out.size)⟩
end Go.Proofs.YtekobdmlgbffnaaGreatDoor
