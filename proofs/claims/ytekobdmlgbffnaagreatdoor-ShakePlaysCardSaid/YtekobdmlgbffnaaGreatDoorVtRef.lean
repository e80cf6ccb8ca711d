/- The document's own vault: its contracts. (Written by gen_vtref.py.) -/
import Derived.Test.YtekobdmlgbffnaaGreatDoorVtS
namespace Go.Proofs.YtekobdmlgbffnaaGreatDoor
set_option linter.unusedVariables false
set_option maxRecDepth 100000
set_option linter.unusedSimpArgs false
open Go.RowKit

theorem two_rowR (w : World) (a b : ByteArray) (t : TypeId) : Rw 1 scs (w.alloc (.cells #[.string a, .string b] t)) (some ⟨w.heap.size, 0, none⟩) [a, b] := by
  have hk := Bk.new w t #[.string a, .string b]
  refine .inr ⟨w.heap.size, 0, rfl, hk.lt, fun i hi j hj => ?_⟩
  rw [hk.cell]
  match i, hi, j, hj with
  | 0, _, 0, _ => rfl
  | 1, _, 0, _ => rfl
/-- What the document's vault is of: where its configuration's tenants lie. -/
structure Rcf where
  a0 : Int
  a1 : Int
  a2 : Int
  a3 : Int
  A : Option Addr
  n : Nat
  c : Nat
  ts : List Tv
abbrev Rcf.cs (x : Rcf) (ag : Value) : Array Value := #[.int .i64 x.a0, .int .i64 x.a1, .int .i64 x.a2, .int .i64 x.a3, .slice x.A x.n x.c, ag]
structure RcfB (w : World) (x : Rcf) : Prop where
  r : RT w x.A x.ts
  n : x.ts.length = x.n
  m : x.n ≤ 9223372036854775807
theorem RcfB.on {w u : World} {x : Rcf} (h : RcfB w x) (hb : Below w.heap.size w u) : RcfB u x := ⟨h.r.on hb, h.n, h.m⟩
/-- At rb lies the document's vault; those pairs were revoked. -/
structure Rz (u : World) (rb B : Nat) (x : Rcf) (P : Rev) : Prop where
  ex : ∃ Ag cg, Bk u rb 108 (x.cs (.slice Ag (2 * P.length) cg)) ∧ OS u B Ag cg P
  lt : rb < B
  bs : B ≤ u.heap.size
theorem Rz.on {u u' : World} {rb B : Nat} {x : Rcf} {P : Rev} (h : Rz u rb B x P) (hb : Below u.heap.size u u') : Rz u' rb B x P := by
  obtain ⟨⟨Ag, cg, h1, h2⟩, h3, h4⟩ := h
  exact ⟨⟨Ag, cg, h1.below hb h1.lt, h2.on hb⟩, h3, Nat.le_trans h4 hb.size⟩
theorem Rz.keM {u u' : World} {rb B mb : Nat} {x : Rcf} {P g : Rev} (h : Rz u rb B x P) (k : Ke [mb] u u') (hm : Mv u mb g) : Rz u' rb B x P := by
  obtain ⟨⟨Ag, cg, h1, h2⟩, h3, h4⟩ := h
  obtain ⟨es, ck, he⟩ := hm.block
  exact ⟨⟨Ag, cg, h1.keM k he, h2.keM k hm⟩, h3, Nat.le_trans h4 k.size⟩
/-- What stays when the document's vault turns: what is below B, but for its own block; blocks that bear no texts. -/
structure Kt (B rb : Nat) (u u' : World) : Prop where
  os : u'.os = u.os
  tape : u'.tape = u.tape
  output : u'.output = u.output
  size : u.heap.size ≤ u'.heap.size
  low : ∀ k, k < B → k ≠ rb → u'.heap[k]? = u.heap[k]?
  ty : ∀ k t cs, t ≠ 9 → k ≠ rb → Bk u k t cs → Bk u' k t cs
theorem Kt.of {B rb : Nat} {u u' : World} (h : Below u.heap.size u u') (hB : B ≤ u.heap.size) : Kt B rb u u' :=
  ⟨h.os, h.tape, h.output, h.size, fun k hk _ => h.block k (by omega), fun k t cs _ _ hb => hb.below h hb.lt⟩
theorem Kt.trans {B rb : Nat} {a b c : World} (h : Kt B rb a b) (k : Kt B rb b c) : Kt B rb a c :=
  ⟨k.os.trans h.os, k.tape.trans h.tape, k.output.trans h.output, Nat.le_trans h.size k.size, fun i hi hr => (k.low i hi hr).trans (h.low i hi hr), fun i t cs h1 h2 hb => k.ty i t cs h1 h2 (h.ty i t cs h1 h2 hb)⟩
def rvP (o : Option Tk) (P : Rev) (a b : ByteArray) : Rev := if rvB o (inR P a b) = true then P ++ [(a, b)] else P
theorem rvP_in {o : Option Tk} {g P : Rev} (h : ∀ x y, inR g x y = inR P x y) (a b : ByteArray) : ∀ x y, inR (rvG o g a b) x y = inR (rvP o P a b) x y := fun x y => by
  unfold rvP
  rw [inR_rvS, h x y]
  cases o with
  | none => simp [rvB]
  | some k =>
    simp only [rvB, Option.isSome_some, Bool.true_and]
    cases hq : inR P a b with
    | false => simp only [Bool.not_false, if_true]; rw [inR_snoc, Bool.or_comm]
    | true =>
      simp only [Bool.not_true, Bool.false_eq_true, if_false]
      cases hp : (nmEq a x && nmEq b y) with
      | false => rfl
      | true =>
        rw [Bool.and_eq_true, nmEq_iff, nmEq_iff] at hp
        obtain ⟨rfl, rfl⟩ := hp
        rw [hq]; rfl
theorem rvP_len {o : Option Tk} {P : Rev} {a b : ByteArray} : (rvP o P a b).length ≤ P.length + 1 := by
  unfold rvP
  split
  · rw [List.length_append]; exact Nat.le_refl _
  · omega

set_option maxRecDepth 100000 in
set_option maxHeartbeats 4000000 in
theorem rvfind_ok (x : Rcf) (ag : Value) (rb : Nat) (s t : ByteArray) (u : World) (hx : RcfB u x) (hb : Bk u rb 108 (x.cs ag)) :
    Calls Tryz.prog 64 #[.pointer (some ⟨rb, 0, none⟩), .string s, .string t] u fun e u' => e = .returned (.tuple #[.agg (kcs ((tkT x.ts s t).getD zeroTk)), .bool (tkT x.ts s t).isSome]) ∧ Below u.heap.size u u' := by
  obtain ⟨a0, a1, a2, a3, A, n, c, ts⟩ := x
  obtain ⟨hr, hn, hn9⟩ := hx
  dsimp only [Rcf.cs] at hr hn hn9 hb ⊢
  have HR := Lib.hid hr
  obtain ⟨⟨⟨yn, ya, yb, ynl, ykl⟩, yAn, ycn, yAk, yck⟩, hy⟩ : ∃ y, (fT s ts).getD zeroTv = y := ⟨_, rfl⟩
  obtain ⟨is1, his1⟩ : ∃ is1, (fT s ts).isSome = is1 := ⟨_, rfl⟩
  have HRY := Lib.hid (show RT1 u ⟨⟨yn, ya, yb, ynl, ykl⟩, yAn, ycn, yAk, yck⟩ by
    rw [← hy]
    cases hq : fT s ts with
    | none => exact RT1.zero u
    | some y => exact hr.each y (fT_mem hq).1)
  have hkf : fK t ykl = tkT ts s t := by unfold tkT; rw [hy]
  have HFI := Lib.hid (fun u' (hu : Below u.heap.size u u') => rfind_ok (.int .i64 a0) (.int .i64 a1) (.int .i64 a2) (.int .i64 a3) A ts n c s u' (HR.out.on hu) hn hn9)
  rw [hy, his1] at HFI
  have HTO := Lib.hid (fun u' (hu : Below u.heap.size u u') => rtoken_ok (.string yn) (.int .i64 ya) (.int .i64 yb) (.slice yAn ynl.length ycn) yAk ykl ykl.length yck t u' (HRY.out.k.on hu) rfl (by have h1 := HRY.out.fk.max; have h2 := HRY.out.fk.cap; dsimp only at h1 h2; omega))
  rw [hkf] at HTO
  obtain ⟨is, his⟩ : ∃ is, (tkT ts s t).isSome = is := ⟨_, rfl⟩
  obtain ⟨⟨kn, ks, ku⟩, hkd⟩ : ∃ k, (tkT ts s t).getD zeroTk = k := ⟨_, rfl⟩
  rw [his, hkd] at HTO
  rw [his, hkd]
  simp only [tcs] at HFI
  simp only [kcs] at HTO ⊢
  have HB0 := Lib.hid (show Bx u u.heap.size 37 #[.string ⟨#[]⟩, .string ⟨#[]⟩, .int .i64 0] (u.alloc (.cells #[.string ⟨#[]⟩, .string ⟨#[]⟩, .int .i64 0] 37)) from Bx.new _ _ _)
  have HRB := Lib.hid (hb.alloc (.cells #[.string ⟨#[]⟩, .string ⟨#[]⟩, .int .i64 0] 37))
  clear hr hn hn9 hb hy his1 hkf his hkd
  obtain ⟨v0, hv0⟩ : ∃ v0, u.alloc (.cells #[.string ⟨#[]⟩, .string ⟨#[]⟩, .int .i64 0] 37) = v0 := ⟨_, rfl⟩
  have e0 : v0.cell? ⟨rb, 0, none⟩ = some (.int .i64 a0) := by rw [← hv0]; exact HRB.out.cell 0
  have e1 : v0.cell? ⟨rb, 1, none⟩ = some (.int .i64 a1) := by rw [← hv0]; exact HRB.out.cell 1
  have e2 : v0.cell? ⟨rb, 2, none⟩ = some (.int .i64 a2) := by rw [← hv0]; exact HRB.out.cell 2
  have e3 : v0.cell? ⟨rb, 3, none⟩ = some (.int .i64 a3) := by rw [← hv0]; exact HRB.out.cell 3
  have e4 : v0.cell? ⟨rb, 4, none⟩ = some (.slice A n c) := by rw [← hv0]; exact HRB.out.cell 4
  rw [hv0] at HB0
  go_enter Tryz.func64, Tryz.ntmps64
  go_upto_region 1 with fail
  try rw [hv0]
  clear hv0 HRB
  go_wp2_with (first
    | (go_at_call 10; (with_reducible refine (HFI.out _ HB0.out.l).mono ?_); rintro e u2 ⟨rfl, hb⟩; have HB1 := Lib.hid ((HB0.out.on hb).alloc (.cells #[.string yn, .int .i64 ya, .int .i64 yb, .slice yAn ynl.length ycn, .slice yAk ykl.length yck] 33)); clear hb)
    | (go_at_call 12; (with_reducible refine (HTO.out _ HB1.out.l).mono ?_); rintro e u3 ⟨rfl, hb⟩; have HB2 := Lib.hid (HB1.out.on hb); clear hb; have z0 : u3.cell? ⟨u.heap.size, 0, none⟩ = some (.string ⟨#[]⟩) := HB2.out.cell 0; have z1 : u3.cell? ⟨u.heap.size, 1, none⟩ = some (.string ⟨#[]⟩) := HB2.out.cell 1; have z2 : u3.cell? ⟨u.heap.size, 2, none⟩ = some (.int .i64 0) := HB2.out.cell 2; have f0 := HB2.out.b.frozen 0; have f1 := HB2.out.b.frozen 1; have f2 := HB2.out.b.frozen 2))
  have kU := (((HB2.out.b.set 0 (.string kn)).set 1 (.string ks)).set 2 (.int .i64 ku))
  simp only [List.setIfInBounds_toArray, List.set_cons_zero, List.set_cons_succ] at kU
  have hlow := HB2.out.l
  refine bodyPost_ret (v := .tuple #[.agg #[.string kn, .string ks, .int .i64 ku], .bool is]) ?_ rfl ⟨rfl, ?_⟩
  · have p0 := kU.cell 0; have p1 := kU.cell 1; have p2 := kU.cell 2
    simp [results, Tryz.f64, go_sem, p0, p1, p2]
  · exact (((hlow.setCell (p := ⟨u.heap.size, 0, none⟩) (Nat.le_refl _) _).setCell (p := ⟨u.heap.size, 1, none⟩) (Nat.le_refl _) _).setCell (p := ⟨u.heap.size, 2, none⟩) (Nat.le_refl _) _)

theorem inR_drop (P : Rev) (j : Nat) (a b x y : ByteArray) (h : P[j]? = some (a, b)) : inR (P.drop j) x y = ((nmEq a x && nmEq b y) || inR (P.drop (j + 1)) x y) := by
  have hj : j < P.length := (List.getElem?_eq_some_iff.1 h).1
  rw [List.drop_eq_getElem_cons hj, (List.getElem?_eq_some_iff.1 h).2, inR_cons]
set_option maxRecDepth 100000 in
set_option maxHeartbeats 4000000 in
theorem rvrevd_ok (x : Rcf) (rb B : Nat) (P : Rev) (s t : ByteArray) (u : World) (h : Rz u rb B x P) (hl : P.length ≤ 1000) :
    Calls Tryz.prog 65 #[.pointer (some ⟨rb, 0, none⟩), .string s, .string t] u fun e u' => e = .returned (.bool (inR P s t)) ∧ Below u.heap.size u u' := by
  obtain ⟨⟨Ag, cg, hb, ho⟩, _, _⟩ := h
  obtain ⟨n6, hn6⟩ : ∃ n6, 2 * P.length = n6 := ⟨_, rfl⟩
  rw [hn6] at hb
  have HO := Lib.hid ho
  have HB := Lib.hid hb
  have HN6 := Lib.hid hn6
  have hn67 : n6 ≤ 2000 := by omega
  obtain ⟨np, hnp⟩ : ∃ np, P.length = np := ⟨_, rfl⟩
  have HNP := Lib.hid hnp
  obtain ⟨R, hR⟩ : ∃ R, inR P s t = R := ⟨_, rfl⟩
  rw [hR]
  have HR := Lib.hid hR
  clear hb ho hn6 hnp hR hl
  go_enter Tryz.func65, Tryz.ntmps65
  go_wp2
  go_loopw [7] (fun v7 wr => ∃ (j kk : Nat), j ≤ np ∧ v7 = .int .i64 (kk : Int) ∧ Hid (kk = 2 * j) ∧ Hid (R = inR (P.drop j) s t) ∧ Hid (Below u.heap.size u wr)) (fun v7 _ => n6 + 2 - (intOf v7).toNat)
  case atStart => exact ⟨0, 0, by omega, rfl, Lib.hid rfl, Lib.hid (by rw [List.drop_zero]; exact HR.out.symm), Lib.hid (Below.refl _ _)⟩
  case round =>
    obtain ⟨j, kk, hj, rfl, HKK, HD, HBW⟩ := hrel
    have hbk := HB.out.below HBW.out HB.out.lt
    have e5 : wr.cell? ⟨rb, 5, none⟩ = some (.slice Ag n6 cg) := hbk.cell 5
    clear hbk
    by_cases hj1 : j < np
    · have h1 := HKK.out
      have h2 := HN6.out
      have h3 := HNP.out
      have hk1 : (kk : Int) + 1 < (n6 : Int) := by omega
      have hk2 : kk + 1 < n6 := by omega
      have hk3 : (kk : Int) < (n6 : Int) := by omega
      have hk4 : kk < n6 := by omega
      have hk5 : (0 : Int) ≤ (kk : Int) + 1 := by omega
      have hwr : IntKind.i64.wrap ((kk : Int) + 1) = (kk : Int) + 1 := by rw [IntKind.wrap_i64]; omega
      have htn : ((kk : Int) + 1).toNat = kk + 1 := by omega
      have hk9 : kk ≤ 2000 := by omega
      obtain ⟨b7, o7, pa, pb, rfl, hp, hcl⟩ := HO.out.at2 j (by omega)
      rw [← h1] at hcl
      obtain ⟨z1, z2⟩ := hcl wr HBW.out
      have HST := Lib.hid (inR_drop P j pa pb s t hp)
      clear h1 h2 h3 hp hcl
      cases hq1 : (pa.toList == s.toList) with
      | false =>
        go_wp2
        go_roundw
        case rel => exact ⟨j + 1, kk + 2, by omega, by go_num, Lib.hid (by have := HKK.out; omega), Lib.hid (by rw [HD.out, HST.out, show nmEq pa s = false from hq1]; simp), HBW⟩
        case measure => simp [intOf]; omega
      | true =>
        cases hq2 : (pb.toList == t.toList) with
        | false =>
          go_wp2
          go_roundw
          case rel => exact ⟨j + 1, kk + 2, by omega, by go_num, Lib.hid (by have := HKK.out; omega), Lib.hid (by rw [HD.out, HST.out, show nmEq pb t = false from hq2]; simp), HBW⟩
          case measure => simp [intOf]; omega
        | true =>
          go_wp2
          go_ret
          exact ⟨by rw [HD.out, HST.out, show nmEq pa s = true from hq1, show nmEq pb t = true from hq2]; rfl, HBW.out⟩
    · have h1 := HKK.out
      have h2 := HN6.out
      have h3 := HNP.out
      have hk1 : ¬ (kk : Int) + 1 < (n6 : Int) := by omega
      have hk2 : ¬ kk + 1 < n6 := by omega
      have hk9 : kk ≤ 2000 := by omega
      have HE := Lib.hid (show R = false by rw [HD.out, List.drop_eq_nil_of_le (by omega)]; rfl)
      clear h1 h2 h3
      go_wp2
      go_ret
      exact ⟨by rw [HE.out]; rfl, HBW.out⟩

theorem rv_kd (o : Option Tk) : o = none ∨ ∃ k, o = some k := by cases o; exact .inl rfl; exact .inr ⟨_, rfl⟩
theorem Rz.find {x : Rcf} {rb B : Nat} {P : Rev} {u : World} (h : Rz u rb B x P) (hx : RcfB u x) (s t : ByteArray) :
    Calls Tryz.prog 64 #[.pointer (some ⟨rb, 0, none⟩), .string s, .string t] u fun e u' => e = .returned (.tuple #[.agg (kcs ((tkT x.ts s t).getD zeroTk)), .bool (tkT x.ts s t).isSome]) ∧ Below u.heap.size u u' := by
  obtain ⟨⟨Ag, cg, hb, _⟩, _, _⟩ := h
  exact rvfind_ok x _ rb s t u hx hb

set_option maxRecDepth 100000 in
set_option maxHeartbeats 4000000 in
theorem rvgood_ok (x : Rcf) (rb B : Nat) (P : Rev) (s t : ByteArray) (now : Int) (u : World) (h : Rz u rb B x P) (hx : RcfB u x) (hl : P.length ≤ 1000) :
    Calls Tryz.prog 104 #[.pointer (some ⟨rb, 0, none⟩), .string s, .string t, .int .i64 now] u fun e u' => e = .returned (.bool (gdB (tkT x.ts s t) (inR P s t) now)) ∧ Below u.heap.size u u' := by
  have HFD := Lib.hid (h.find hx s t)
  have HRD := Lib.hid (fun u' (hu : Below u.heap.size u u') => rvrevd_ok x rb B P s t u' (h.on hu) hl)
  obtain ⟨R, hR⟩ : ∃ R, inR P s t = R := ⟨_, rfl⟩
  rw [hR] at HRD ⊢
  obtain ⟨K, hK⟩ : ∃ K, tkT x.ts s t = K := ⟨_, rfl⟩
  rw [hK] at HFD ⊢
  clear h hx hl hR hK
  go_enter Tryz.func104, Tryz.ntmps104
  rcases rv_kd K with rfl | ⟨⟨kn, ks, ku⟩, rfl⟩
  · simp only [Option.getD_none, Option.isSome_none, kcs, zeroTk] at HFD
    go_wp2_with (go_at_call 64; (with_reducible refine HFD.out.mono ?_); rintro e u2 ⟨rfl, hb⟩)
    go_ret
    exact ⟨rfl, hb.alloc hb.size _⟩
  · simp only [Option.getD_some, Option.isSome_some, kcs] at HFD
    cases R with
    | true =>
      go_wp2_with (first
        | (go_at_call 64; (with_reducible refine HFD.out.mono ?_); rintro e u2 ⟨rfl, hb⟩; have HB2 := Lib.hid (hb.alloc hb.size (.cells #[.string kn, .string ks, .int .i64 ku] 37)); have HK2 := Lib.hid (Bk.new u2 37 #[.string kn, .string ks, .int .i64 ku]); clear hb)
        | (go_at_call 65; (with_reducible refine (HRD.out _ HB2.out).mono ?_); rintro e u3 ⟨rfl, hb⟩; have HB3 := Lib.hid (HB2.out.trans (hb.mono HB2.out.size)); clear hb))
      go_ret
      exact ⟨rfl, HB3.out⟩
    | false =>
      go_wp2_with (first
        | (go_at_call 64; (with_reducible refine HFD.out.mono ?_); rintro e u2 ⟨rfl, hb⟩; have HB2 := Lib.hid (hb.alloc hb.size (.cells #[.string kn, .string ks, .int .i64 ku] 37)); have HK2 := Lib.hid (Bk.new u2 37 #[.string kn, .string ks, .int .i64 ku]); clear hb)
        | (go_at_call 65; (with_reducible refine (HRD.out _ HB2.out).mono ?_); rintro e u3 ⟨rfl, hb⟩; have HB3 := Lib.hid (HB2.out.trans (hb.mono HB2.out.size)); have q2 : u3.cell? ⟨u2.heap.size, 2, none⟩ = some (.int .i64 ku) := (HK2.out.below hb HK2.out.lt).cell 2; clear hb))
      go_ret
      exact ⟨by first | rfl | simp [gdB], HB3.out⟩

set_option maxRecDepth 100000 in
set_option maxHeartbeats 4000000 in
theorem rvwant_ok (x : Rcf) (rb B : Nat) (P : Rev) (s t nn : ByteArray) (u : World) (h : Rz u rb B x P) (hx : RcfB u x) (hs : s.size ≤ 140737488355328) (ht : t.size ≤ 140737488355328) (hn : nn.size ≤ 140737488355328) (hsec : ∀ k, tkT x.ts s t = some k → k.sec.size ≤ 32) :
    Calls Tryz.prog 105 #[.pointer (some ⟨rb, 0, none⟩), .string s, .string t, .string nn] u fun e u' => e = .returned (.string ⟨(wnB (tkT x.ts s t) s t nn).toArray⟩) ∧ Below u.heap.size u u' := by
  have HFD := Lib.hid (h.find hx s t)
  have HSM := Lib.hid (show ∀ y ∈ [s, t, nn], y.size ≤ 140737488355328 from fun y hy => by
    simp only [List.mem_cons, List.not_mem_nil, or_false] at hy
    rcases hy with rfl | rfl | rfl <;> assumption)
  obtain ⟨K, hK⟩ : ∃ K, tkT x.ts s t = K := ⟨_, rfl⟩
  rw [hK] at HFD hsec ⊢
  have HSC := Lib.hid hsec
  clear h hx hs ht hn hK hsec
  go_enter Tryz.func105, Tryz.ntmps105
  rcases rv_kd K with rfl | ⟨⟨kn, ks, ku⟩, rfl⟩
  · simp only [Option.getD_none, Option.isSome_none, kcs, zeroTk] at HFD
    go_wp2_with (go_at_call 64; (with_reducible refine HFD.out.mono ?_); rintro e u2 ⟨rfl, hb⟩)
    go_ret
    exact ⟨rfl, hb.alloc hb.size _⟩
  · simp only [Option.getD_some, Option.isSome_some, kcs] at HFD
    have HKS := Lib.hid (show ks.size ≤ 32 from HSC.out _ rfl)
    go_upto_region 4 with (go_at_call 64; (with_reducible refine HFD.out.mono ?_); rintro e u2 ⟨rfl, hb⟩; have HB2 := Lib.hid (hb.alloc hb.size (.cells #[.string kn, .string ks, .int .i64 ku] 37)); have HK2 := Lib.hid (Bk.new u2 37 #[.string kn, .string ks, .int .i64 ku]); clear hb)
    obtain ⟨v6, hv6⟩ : ∃ v6, u2.alloc (.cells #[.string kn, .string ks, .int .i64 ku] 37) = v6 := ⟨_, rfl⟩
    rw [hv6] at HB2 HK2 ⊢
    obtain ⟨g5, hg5⟩ : ∃ g, u2.heap.size = g := ⟨_, rfl⟩
    rw [hg5] at HK2 ⊢
    clear hv6 hg5
    obtain ⟨cap, ob, hcb, hcap1, hcap2, hRB⟩ := conv_back ks (by have := HKS.out; omega) v6
    have hbo : Below v6.heap.size v6 (v6.drew.alloc ob) := (Below.refl _ _).drew.alloc (Nat.le_refl _) _
    have hz0 : (v6.drew.alloc ob).heap.size = v6.heap.size + 1 := World.size_alloc ..
    obtain ⟨v7, hv7⟩ : ∃ v7, v6.drew.alloc ob = v7 := ⟨_, rfl⟩
    rw [hv7] at hcb hRB hbo hz0
    clear hv7
    have e1 : v6.cell? ⟨g5, 1, none⟩ = some (.string ks) := HK2.out.cell 1
    have HPR := Lib.hid (show Calls Tryz.prog 126 #[.slice (some ⟨v6.heap.size, 0, none⟩) ks.size cap, .slice (some ⟨v6.heap.size + 1, 0, none⟩) 3 3] (v7.alloc (.cells #[.string s, .string t, .string nn] 9)) fun e w' => e = .returned (.string ⟨(proofB ks.data.toList [s, t, nn]).toArray⟩) ∧ Below u.heap.size u w' from by
      have hb2 := (Below.refl v7.heap.size v7).alloc (Nat.le_refl _) (.cells #[.string s, .string t, .string nn] 9)
      have hbk : Bk (v7.alloc (.cells #[.string s, .string t, .string nn] 9)) (v6.heap.size + 1) 9 #[.string s, .string t, .string nn] := by
        have := Bk.new v7 9 #[.string s, .string t, .string nn]
        rwa [hz0] at this
      have hbb : Below v6.heap.size v6 (v7.alloc (.cells #[.string s, .string t, .string nn] 9)) := hbo.trans (hb2.mono hbo.size)
      refine (rproof_ok (some ⟨v6.heap.size, 0, none⟩) ks.size cap ks.data.toList (some ⟨v6.heap.size + 1, 0, none⟩) 3 3 [s, t, nn] _ rfl hcap1 hcap2 (by have := HKS.out; omega) ((hRB.below hb2 (Nat.le_refl _)).more hb2.size) (fun h => by cases h) rfl (by omega) ?_ HSM.out (texts3 _ _ _)).mono fun e w' hh => ⟨hh.1, (HB2.out.trans (hbb.mono HB2.out.size)).trans (hh.2.mono (Nat.le_trans HB2.out.size hbb.size))⟩
      refine .inr ⟨v6.heap.size + 1, 0, rfl, hbk.lt, fun i hi => ?_⟩
      rw [hbk.cell]
      match i, hi with
      | 0, _ => rfl
      | 1, _ => rfl
      | 2, _ => rfl)
    clear hRB hbo
    go_wp2_with (go_at_call 126; (with_reducible refine HPR.out.mono ?_); rintro e u9 ⟨rfl, hb⟩)
    go_ret
    exact ⟨rfl, hb⟩

set_option maxRecDepth 100000 in
set_option maxHeartbeats 4000000 in
theorem rvcheck_ok (x : Rcf) (rb B : Nat) (P : Rev) (s t nn pf : ByteArray) (now : Int) (u : World) (h : Rz u rb B x P) (hx : RcfB u x) (hl : P.length ≤ 1000) (hs : s.size ≤ 140737488355328) (ht : t.size ≤ 140737488355328) (hn : nn.size ≤ 140737488355328) (hsec : ∀ k, tkT x.ts s t = some k → k.sec.size ≤ 32) :
    Calls Tryz.prog 66 #[.pointer (some ⟨rb, 0, none⟩), .string s, .string t, .string nn, .string pf, .int .i64 now] u fun e u' => e = .returned (.int .i64 (ckI (gdB (tkT x.ts s t) (inR P s t) now) (wnB (tkT x.ts s t) s t nn) pf)) ∧ Below u.heap.size u u' := by
  have HGD := Lib.hid (rvgood_ok x rb B P s t now u h hx hl)
  have HWN := Lib.hid (fun u' (hu : Below u.heap.size u u') => rvwant_ok x rb B P s t nn u' (h.on hu) (hx.on hu) hs ht hn hsec)
  obtain ⟨G, hGd⟩ : ∃ G, gdB (tkT x.ts s t) (inR P s t) now = G := ⟨_, rfl⟩
  obtain ⟨W, hW⟩ : ∃ W, wnB (tkT x.ts s t) s t nn = W := ⟨_, rfl⟩
  rw [hGd] at HGD ⊢
  rw [hW] at HWN ⊢
  clear hGd hW h hx hl hs ht hn hsec
  go_enter Tryz.func66, Tryz.ntmps66
  cases G with
  | false =>
    go_wp2_with (go_at_call 104; (with_reducible refine HGD.out.mono ?_); rintro e u2 ⟨rfl, hb2⟩)
    go_ret
    exact ⟨rfl, hb2⟩
  | true =>
    obtain ⟨WB, hWB⟩ : ∃ WB : ByteArray, (⟨W.toArray⟩ : ByteArray) = WB := ⟨_, rfl⟩
    have HWD := Lib.hid (show WB.data.toList = W by rw [← hWB])
    rw [hWB] at HWN
    clear hWB
    go_upto_region 4 with (first
      | (go_at_call 104; (with_reducible refine HGD.out.mono ?_); rintro e u2 ⟨rfl, hb2⟩)
      | (go_at_call 105; (with_reducible refine (HWN.out _ hb2).mono ?_); rintro e u3 ⟨rfl, hb3⟩; have HB3 := Lib.hid (hb2.trans (hb3.mono hb2.size))))
    by_cases h0 : W = []
    · have hq1 : (WB.toList == []) = true := by rw [ByteArray.toList_eq, HWD.out, h0]; rfl
      have HR := Lib.hid (ck_bad (p := pf) h0)
      go_wp2
      go_ret
      exact ⟨by rw [HR.out]; rfl, HB3.out⟩
    · have hq1 : (WB.toList == []) = false := by rw [ByteArray.toList_eq, HWD.out]; cases hw : W with
        | nil => exact absurd hw h0
        | cons x l => rfl
      by_cases hp : W = pf.data.toList
      · have hq2 : (pf.toList == WB.toList) = true := by rw [ByteArray.toList_eq, ByteArray.toList_eq, HWD.out, hp]; exact beq_self_eq_true _
        have HR := Lib.hid (ck_ok h0 hp)
        clear h0 hp
        go_wp2
        go_ret
        exact ⟨by rw [HR.out]; rfl, HB3.out⟩
      · have hq2 : (pf.toList == WB.toList) = false := by rw [ByteArray.toList_eq, ByteArray.toList_eq, HWD.out, beq_eq_false_iff_ne]; exact fun h => hp h.symm
        have HR := Lib.hid (ck_other hp)
        clear h0 hp
        go_wp2
        go_ret
        exact ⟨by rw [HR.out]; rfl, HB3.out⟩

/-- What an append to the pairs leaves. -/
theorem rv_app {u u3 w9 : World} {rb B n6 cg c9 : Nat} {Ag A9 : Option Addr} {P : Rev} {cs : Array Value} {l : List ByteArray} (hb : Below u.heap.size u u3) (hB : B ≤ u.heap.size) (hk : Bk u3 rb 108 cs) (ho : OS u3 B Ag cg P) (hlt : rb < B) (hbs : B ≤ u3.heap.size) (o : Obj)
    (h1 : Ow 9 1 scs w9 B A9 c9 l) (h2 : (u3.alloc o).grownBy w9 (Value.slice Ag n6 cg).ownBlock) (h3 : Below B (u3.alloc o) w9) :
    Bk w9 rb 108 cs ∧ Ow 9 1 scs w9 B A9 c9 l ∧ Kt B rb u w9 := by
  have ha := (Below.refl u3.heap.size u3).alloc (Nat.le_refl _) o
  refine ⟨(hk.below ha hk.lt).below h3 hlt, h1, (Kt.of hb hB).trans ((Kt.of ha hbs).trans ⟨h3.os, h3.tape, h3.output, h3.size, fun k hk _ => h3.block k hk, fun k t cs ht hr hbk => ?_⟩)⟩
  exact grown_ty h2 (Ow.on ho ha) hbk (.inl ht)
theorem Kt.set {B rb j : Nat} {u u' : World} {v : Value} (h : Kt B rb u u') : Kt B rb u (u'.setCell ⟨rb, j, none⟩ v) :=
  h.trans ⟨rfl, rfl, rfl, by rw [World.size_setCell]; exact Nat.le_refl _, fun k _ hr => Below.heap_setCell _ _ _ _ hr, fun k t cs _ hr hb => hb.far (p := ⟨rb, j, none⟩) hr v⟩
/-- What Revoke leaves. -/
structure RvQ (K : Option Tk) (x : Rcf) (rb B : Nat) (P : Rev) (s t : ByteArray) (u : World) (e : Ending) (u' : World) : Prop where
  e : e = .returned (.bool (rvB K (inR P s t)))
  z : Rz u' rb B x (rvP K P s t)
  k : Kt B rb u u'
set_option maxRecDepth 100000 in
set_option maxHeartbeats 4000000 in
theorem rvrev_ok (x : Rcf) (rb B : Nat) (P : Rev) (s t : ByteArray) (u : World) (h : Rz u rb B x P) (hx : RcfB u x) (hl : P.length ≤ 1000) :
    Calls Tryz.prog 26 #[.pointer (some ⟨rb, 0, none⟩), .string s, .string t] u (RvQ (tkT x.ts s t) x rb B P s t u) := by
  have HFD := Lib.hid (h.find hx s t)
  have HRD := Lib.hid (fun u' (hu : Below u.heap.size u u') => rvrevd_ok x rb B P s t u' (h.on hu) hl)
  have HZ := Lib.hid h
  have HL := Lib.hid hl
  obtain ⟨K, hK⟩ : ∃ K, tkT x.ts s t = K := ⟨_, rfl⟩
  rw [hK] at HFD ⊢
  have HBS := Lib.hid h.bs
  have HRP := Lib.hid (show ∀ R, inR P s t = R → rvP K P s t = if rvB K R = true then P ++ [(s, t)] else P from fun R hR => by unfold rvP; rw [hR])
  obtain ⟨R, hR⟩ : ∃ R, inR P s t = R := ⟨_, rfl⟩
  have HRP2 := Lib.hid (HRP.out R hR)
  have HRE := Lib.hid hR
  rw [hR] at HRD
  clear h hx hl hK hR HRP
  go_enter Tryz.func26, Tryz.ntmps26
  rcases rv_kd K with rfl | ⟨⟨kn, ks, ku⟩, rfl⟩
  · simp only [Option.getD_none, Option.isSome_none, kcs, zeroTk] at HFD
    go_wp2_with (go_at_call 64; (with_reducible refine HFD.out.mono ?_); rintro e u2 ⟨rfl, hb⟩; have HB2 := Lib.hid (hb.alloc hb.size (.cells #[.string ⟨#[]⟩, .string ⟨#[]⟩, .int .i64 0] 37)))
    go_ret
    exact ⟨rfl, HZ.out.on HB2.out, Kt.of HB2.out HBS.out⟩
  · simp only [Option.getD_some, Option.isSome_some, kcs] at HFD
    cases R with
    | true =>
      go_wp2_with (first
        | (go_at_call 64; (with_reducible refine HFD.out.mono ?_); rintro e u2 ⟨rfl, hb⟩; have HB2 := Lib.hid (hb.alloc hb.size (.cells #[.string kn, .string ks, .int .i64 ku] 37)); have HK2 := Lib.hid (Bk.new u2 37 #[.string kn, .string ks, .int .i64 ku]); clear hb)
        | (go_at_call 65; (with_reducible refine (HRD.out _ HB2.out).mono ?_); rintro e u3 ⟨rfl, hb⟩; have HB3 := Lib.hid (HB2.out.trans (hb.mono HB2.out.size)); clear hb))
      go_ret
      refine ⟨by rw [HRE.out]; rfl, ?_, Kt.of HB3.out HBS.out⟩
      rw [HRP2.out]
      exact HZ.out.on HB3.out
    | false =>
      go_upto_region 4 with (first
        | (go_at_call 64; (with_reducible refine HFD.out.mono ?_); rintro e u2 ⟨rfl, hb⟩; have HB2 := Lib.hid (hb.alloc hb.size (.cells #[.string kn, .string ks, .int .i64 ku] 37)); have HK2 := Lib.hid (Bk.new u2 37 #[.string kn, .string ks, .int .i64 ku]); clear hb)
        | (go_at_call 65; (with_reducible refine (HRD.out _ HB2.out).mono ?_); rintro e u3 ⟨rfl, hb⟩; have HB3 := Lib.hid (HB2.out.trans (hb.mono HB2.out.size)); clear hb))
      obtain ⟨⟨Ag, cg, hb, ho⟩, hlt, hbs⟩ := HZ.out.on HB3.out
      obtain ⟨n6, hn6⟩ : ∃ n6, 2 * P.length = n6 := ⟨_, rfl⟩
      rw [hn6] at hb
      have HBK := Lib.hid hb
      have HO := Lib.hid ho
      have HLT := Lib.hid (And.intro hlt hbs)
      have hn67 : n6 ≤ 2000 := by have := HL.out; omega
      have HN6 := Lib.hid (show (flatP P).length = n6 by rw [flatP_len, hn6])
      have HN7 := Lib.hid hn6
      have e5 : u3.cell? ⟨rb, 5, none⟩ = some (.slice Ag n6 cg) := hb.cell 5
      clear hb ho hlt hbs hn6
      go_wp2_with (at_builtin; refine wp_rows0 roS rfl (.tmp 28) (.tmp 31) rfl n6 rfl HN6.out (Ow.on HO.out ((Below.refl u3.heap.size u3).alloc (Nat.le_refl _) _)) [s, t] (some ⟨u3.heap.size, 0, none⟩) 2 2 rfl rfl (fun h => by cases h) (two_rowR _ _ _ _) (by omega) (by have := HLT.out.2; rw [World.size_alloc]; omega) (n6 + 2) rfl ?_; intro A9 c9 w9 ho9 hg9 hb9; have HA := Lib.hid (rv_app HB3.out HBS.out HBK.out HO.out HLT.out.1 HLT.out.2 (.cells #[.string s, .string t] 9) ho9 hg9 hb9); have HW9 := Lib.hid HA.out.1; clear ho9 hg9 hb9; have g5 : w9.cell? ⟨rb, 5, none⟩ = some (.slice Ag n6 cg) := HW9.out.cell 5; have gf := HW9.out.frozen 5)
      go_ret
      have hset := HW9.out.set 5 (.slice A9 (n6 + 2) c9)
      refine ⟨by rw [HRE.out]; rfl, ?_, HA.out.2.2.set⟩
      rw [HRP2.out]
      refine ⟨⟨A9, c9, ?_, ?_⟩, HLT.out.1, ?_⟩
      · have e : 2 * (P ++ [(s, t)]).length = n6 + 2 := by rw [List.length_append, ← HN7.out]; simp; omega
        show Bk _ rb 108 (x.cs (.slice A9 (2 * (P ++ [(s, t)]).length) c9))
        rw [e]
        simpa only [Rcf.cs, List.setIfInBounds_toArray, List.set_cons_zero, List.set_cons_succ] using hset
      · show OS _ B A9 c9 (P ++ [(s, t)])
        have := HA.out.2.1
        unfold OS
        rw [flatP_snoc]
        exact this.set (p := ⟨rb, 5, none⟩) HLT.out.1 _
      · rw [World.size_setCell]; exact Nat.le_trans HBS.out HA.out.2.2.size
end Go.Proofs.YtekobdmlgbffnaaGreatDoor
