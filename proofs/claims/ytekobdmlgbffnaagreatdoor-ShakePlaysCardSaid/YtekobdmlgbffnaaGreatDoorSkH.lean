/- The head of shake's laws: its live question is always answered yes. (Written by gen_skh.py.) -/
import Derived.Test.YtekobdmlgbffnaaGreatDoorG16
import Derived.Test.YtekobdmlgbffnaaGreatDoorG19
namespace Go.Proofs.YtekobdmlgbffnaaGreatDoor
set_option linter.unusedVariables false
set_option maxRecDepth 100000
set_option linter.unusedSimpArgs false
open Go.RowKit

theorem gen_c {P : Program} {c : Code} {Q : Exit → Act → World → Prop} {a : Act} {w : World} (S : World → Prop) (hS : S w) (h : ∀ u, S u → c.wp P Q a u) : c.wp P Q a w := h w hS
section
variable {w ub u u' : World} {v mb sb : Nat} {g : Rev} {s : Sk} {L : List (Nat × TypeId × Array Value)}
theorem Ss.add (h : Ss ub mb g sb v s L u) {gb : Nat} {t : TypeId} {cs : Array Value} (hb : Bk u gb t cs) (hn : gb ≠ sb) : Ss ub mb g sb v s ((gb, t, cs) :: L) u :=
  ⟨h.k, h.m, h.b, h.lo, h.sk, fun b hL => by
    rcases List.mem_cons.1 hL with rfl | hL
    · exact hb
    · exact h.kb b hL, fun b hL => by
    rcases List.mem_cons.1 hL with rfl | hL
    · exact hn
    · exact h.ne b hL⟩
theorem Ss.perm {L' : List (Nat × TypeId × Array Value)} (h : Ss ub mb g sb v s L u) (hL : ∀ b ∈ L', b ∈ L) : Ss ub mb g sb v s L' u := h.less hL
/-- A message is laid down. -/
theorem Ss.made (h : Ss ub mb g sb v s L u) (a b c d e : Value) : Ss ub mb g sb v s ((u.heap.size, 55, #[a, b, c, d, e]) :: L) (set5 (u.alloc (.cells mz 55)) u.heap.size a b c d e) :=
  (h.new 55 mz).turn ((Bk.new u _ _).set5 a b c d e) (((((Ke.refl _ _).set (p := ⟨u.heap.size, 0, none⟩) (List.mem_singleton.2 rfl) a).set (p := ⟨u.heap.size, 1, none⟩) (List.mem_singleton.2 rfl) b).set (p := ⟨u.heap.size, 2, none⟩) (List.mem_singleton.2 rfl) c).set (p := ⟨u.heap.size, 3, none⟩) (List.mem_singleton.2 rfl) d |>.set (p := ⟨u.heap.size, 4, none⟩) (List.mem_singleton.2 rfl) e) h.k.size (fun b hb => by have := (h.kb b hb).lt; omega)
end
set_option maxRecDepth 100000 in
set_option maxHeartbeats 1000000 in
theorem skone_ok (w : World) : Calls Tryz.prog 57 #[] w fun e w' => ∃ b d, e = .returned (.agg #[.int .i64 9, .int .i64 9, .int .i64 9, .int .i64 9, .slice (some ⟨b, 0, none⟩) 1 1]) ∧ RC w' (oneC b d) ∧ Below w.heap.size w w' := by
  obtain ⟨w3, hw3⟩ : ∃ w3, ((w.alloc (.cells #[.int .i64 0, .int .i64 0, .int .i64 0, .int .i64 0, .slice none 0 0] 24)).alloc (.cells #[.string ⟨#[107]⟩, .string ⟨#[115]⟩, .int .i64 5] 37)).alloc (.cells #[.string ⟨#[97, 110, 110]⟩, .int .i64 0, .int .i64 0, .slice none 0 0, .slice (some ⟨w.heap.size + 1, 0, none⟩) 1 1] 33) = w3 := ⟨_, rfl⟩
  have H0 := Lib.hid (show Bk w3 w.heap.size 24 #[.int .i64 0, .int .i64 0, .int .i64 0, .int .i64 0, .slice none 0 0] by rw [← hw3]; exact ((Bk.new w _ _).alloc _).alloc _)
  have H1 := Lib.hid (show Bk w3 (w.heap.size + 1) 37 (kcs ⟨kS, ⟨#[115]⟩, 5⟩) by
    rw [← hw3]
    have := (Bk.new (w.alloc (.cells #[.int .i64 0, .int .i64 0, .int .i64 0, .int .i64 0, .slice none 0 0] 24)) 37 #[.string ⟨#[107]⟩, .string ⟨#[115]⟩, .int .i64 5]).alloc (.cells #[.string ⟨#[97, 110, 110]⟩, .int .i64 0, .int .i64 0, .slice none 0 0, .slice (some ⟨w.heap.size + 1, 0, none⟩) 1 1] 33)
    rwa [World.size_alloc] at this)
  have H2 := Lib.hid (show Bk w3 (w.heap.size + 2) 33 (tcs (oneT (w.heap.size + 1))) by
    rw [← hw3]
    have := Bk.new ((w.alloc (.cells #[.int .i64 0, .int .i64 0, .int .i64 0, .int .i64 0, .slice none 0 0] 24)).alloc (.cells #[.string ⟨#[107]⟩, .string ⟨#[115]⟩, .int .i64 5] 37)) 33 #[.string ⟨#[97, 110, 110]⟩, .int .i64 0, .int .i64 0, .slice none 0 0, .slice (some ⟨w.heap.size + 1, 0, none⟩) 1 1]
    rwa [World.size_alloc, World.size_alloc] at this)
  have HL := Lib.hid (show Below w.heap.size w w3 by
    rw [← hw3]
    exact (((Below.refl w.heap.size w).alloc (Nat.le_refl _) _).alloc (by rw [World.size_alloc]; omega) _).alloc (by rw [World.size_alloc, World.size_alloc]; omega) _)
  have z0 : w3.cell? ⟨w.heap.size, 0, none⟩ = some (.int .i64 0) := H0.out.cell 0
  have z1 : w3.cell? ⟨w.heap.size, 1, none⟩ = some (.int .i64 0) := H0.out.cell 1
  have z2 : w3.cell? ⟨w.heap.size, 2, none⟩ = some (.int .i64 0) := H0.out.cell 2
  have z3 : w3.cell? ⟨w.heap.size, 3, none⟩ = some (.int .i64 0) := H0.out.cell 3
  have z4 : w3.cell? ⟨w.heap.size, 4, none⟩ = some (.slice none 0 0) := H0.out.cell 4
  have f0 := H0.out.frozen 0
  have f1 := H0.out.frozen 1
  have f2 := H0.out.frozen 2
  have f3 := H0.out.frozen 3
  have f4 := H0.out.frozen 4
  go_enter Tryz.func57, Tryz.ntmps57
  go_wp2
  have kU := (((((H0.out.set 0 (.int .i64 9)).set 1 (.int .i64 9)).set 2 (.int .i64 9)).set 3 (.int .i64 9)).set 4 (.slice (some ⟨w.heap.size + 1 + 1, 0, none⟩) 1 1))
  simp only [List.setIfInBounds_toArray, List.set_cons_zero, List.set_cons_succ] at kU
  have hl := HL.out
  have far1 := (((((H1.out.far (p := ⟨w.heap.size, 0, none⟩) (by show w.heap.size + 1 ≠ w.heap.size; omega) (.int .i64 9)).far (p := ⟨w.heap.size, 1, none⟩) (by show w.heap.size + 1 ≠ w.heap.size; omega) (.int .i64 9)).far (p := ⟨w.heap.size, 2, none⟩) (by show w.heap.size + 1 ≠ w.heap.size; omega) (.int .i64 9)).far (p := ⟨w.heap.size, 3, none⟩) (by show w.heap.size + 1 ≠ w.heap.size; omega) (.int .i64 9)).far (p := ⟨w.heap.size, 4, none⟩) (by show w.heap.size + 1 ≠ w.heap.size; omega) (.slice (some ⟨w.heap.size + 1 + 1, 0, none⟩) 1 1))
  have far2 := (((((H2.out.far (p := ⟨w.heap.size, 0, none⟩) (by show w.heap.size + 2 ≠ w.heap.size; omega) (.int .i64 9)).far (p := ⟨w.heap.size, 1, none⟩) (by show w.heap.size + 2 ≠ w.heap.size; omega) (.int .i64 9)).far (p := ⟨w.heap.size, 2, none⟩) (by show w.heap.size + 2 ≠ w.heap.size; omega) (.int .i64 9)).far (p := ⟨w.heap.size, 3, none⟩) (by show w.heap.size + 2 ≠ w.heap.size; omega) (.int .i64 9)).far (p := ⟨w.heap.size, 4, none⟩) (by show w.heap.size + 2 ≠ w.heap.size; omega) (.slice (some ⟨w.heap.size + 1 + 1, 0, none⟩) 1 1))
  refine bodyPost_ret (v := .agg #[.int .i64 9, .int .i64 9, .int .i64 9, .int .i64 9, .slice (some ⟨w.heap.size + 1 + 1, 0, none⟩) 1 1]) ?_ rfl ⟨w.heap.size + 1 + 1, w.heap.size + 1, rfl, ⟨⟨Rw.bk far2, fun x hx => ?_⟩, ⟨Nat.le_refl _, (show (1 : Nat) ≤ 9223372036854775807 by decide), fun h => by cases h⟩⟩, ?_⟩
  · have p0 := kU.cell 0; have p1 := kU.cell 1; have p2 := kU.cell 2; have p3 := kU.cell 3; have p4 := kU.cell 4
    simp [results, Tryz.f57, go_sem, p0, p1, p2, p3, p4]
  · obtain rfl := List.mem_singleton.1 hx
    exact ⟨.inl rfl, Rw.bk far1, ⟨Nat.le_refl _, (show (0 : Nat) ≤ 9223372036854775807 by decide), fun _ => ⟨rfl, rfl⟩⟩, ⟨Nat.le_refl _, (show (1 : Nat) ≤ 9223372036854775807 by decide), fun h => by cases h⟩, (fun n hn => by cases hn), (show annS.size ≤ 140737488355328 by decide), fun k hk => by obtain rfl := List.mem_singleton.1 hk; decide⟩
  · exact (((((hl.setCell (p := ⟨w.heap.size, 0, none⟩) (Nat.le_refl _) _).setCell (p := ⟨w.heap.size, 1, none⟩) (Nat.le_refl _) _).setCell (p := ⟨w.heap.size, 2, none⟩) (Nat.le_refl _) _).setCell (p := ⟨w.heap.size, 3, none⟩) (Nat.le_refl _) _).setCell (p := ⟨w.heap.size, 4, none⟩) (Nat.le_refl _) _)

theorem sk_k2 : ckF [oneTn] [] annS kS nS pS 2 = 0 := by
  show ckI (gdB (tkN [oneTn] annS kS) (inR [] annS kS) 2) (wnB (tkN [oneTn] annS kS) annS kS nS) pS = 0
  rw [one_tk]
  show ckI true pB pS = 0
  exact ck_ok pB_some pS_list.symm
theorem sk_cut : cutN nS = nS := cutN_all (by decide)
set_option maxRecDepth 100000 in
set_option maxHeartbeats 8000000 in
theorem shead_ok (w : World) (hG : Gl w) : Calls Tryz.prog 19 #[] w fun e w' => e = .returned (.bool true) ∧ Below w.heap.size w w' := by
  obtain ⟨P, hP⟩ : ∃ P, pS = P := ⟨_, rfl⟩
  have HPZ := Lib.hid (show P.size ≤ 1099511627776 by rw [← hP]; have := pS_size; omega)
  have HN1 := Lib.hid (show ∀ u b d, Below w.heap.size w u → RC u (oneC b d) → Calls Tryz.prog 21 #[.agg #[.int .i64 9, .int .i64 9, .int .i64 9, .int .i64 9, .slice (some ⟨b, 0, none⟩) 1 1]] u fun e u' => ∃ v mb, e = .returned (.pointer (some ⟨v, 0, none⟩)) ∧ Sb w u' v mb [oneTn] ∧ Mv u' mb [] from fun u b d hu hr => (vnew_ok (oneC b d) u hr).mono fun e u' hh => by
    obtain ⟨h | ⟨_, v, mb, h1, h2, h3, h4, h5⟩, hb⟩ := hh
    · rw [one_right] at h; cases h.1
    · exact ⟨v, mb, h1, ⟨⟨h2, (fun b hb => by cases hb), hu.trans (hb.mono hu.size), Nat.le_trans hu.size h4⟩, ⟨_, one_right b d, rfl⟩⟩, h2.mp⟩)
  have HH1 := Lib.hid (show ∀ ub v mb sb L u, Sb w ub v mb [oneTn] → Ss ub mb [] sb v .new L u → Calls Tryz.prog 27 #[.pointer (some ⟨sb, 0, none⟩), .agg #[.int .i64 1, .string ⟨#[97, 110, 110]⟩, .string ⟨#[107]⟩, .int .i64 0, .int .i64 0], .int .i64 1, .string ⟨#[110]⟩] u fun e u' => e = .returned (.tuple #[.agg #[.int .i64 2, .string ⟨#[110]⟩, .string ⟨#[]⟩, .int .i64 0, .int .i64 0], .bool true]) ∧ Ss ub mb [] sb v (.ask annS kS nS) L u' from fun ub v mb sb L u b h => (ss_hear b hG h ⟨1, annS, kS, 0, 0⟩ 1 nS (by decide) (by decide)).mono fun e u' hh => by
    have e1 : hsM (ckF [oneTn] []) .new ⟨1, annS, kS, 0, 0⟩ 1 nS = ⟨2, nS, eS, 0, 0⟩ := by show (⟨2, cutN nS, eS, 0, 0⟩ : Mg) = _; rw [sk_cut]
    have e2 : hsS (ckF [oneTn] []) .new ⟨1, annS, kS, 0, 0⟩ 1 nS = .ask annS kS nS := by show Sk.ask annS kS (cutN nS) = _; rw [sk_cut]
    rw [e1, e2] at hh
    exact hh)
  have HW := Lib.hid (show ∀ ub v mb sb L u, Sb w ub v mb [oneTn] → Ss ub mb [] sb v (.ask annS kS nS) L u → Calls Tryz.prog 58 #[.pointer (some ⟨v, 0, none⟩), .string ⟨#[97, 110, 110]⟩, .string ⟨#[107]⟩, .string ⟨#[110]⟩] u fun e u' => e = .returned (.string P) ∧ Ss ub mb [] sb v (.ask annS kS nS) L u' from fun ub v mb sb L u b h => (ss_want b hG h annS kS nS (by decide)).mono fun e u' hh => ⟨by rw [hh.1, one_tk, ← hP]; rfl, hh.2⟩)
  have HH2 := Lib.hid (show ∀ ub v mb sb L u, Sb w ub v mb [oneTn] → Ss ub mb [] sb v (.ask annS kS nS) L u → Calls Tryz.prog 27 #[.pointer (some ⟨sb, 0, none⟩), .agg #[.int .i64 3, .string P, .string ⟨#[]⟩, .int .i64 0, .int .i64 0], .int .i64 2, .string ⟨#[109]⟩] u fun e u' => e = .returned (.tuple #[.agg #[.int .i64 4, .string ⟨#[]⟩, .string ⟨#[]⟩, .int .i64 0, .int .i64 0], .bool true]) ∧ Ss ub mb [] sb v (.known annS) L u' from fun ub v mb sb L u b h => (ss_hear b hG h ⟨3, P, eS, 0, 0⟩ 2 mS HPZ.out (show eS.size ≤ 140737488355328 by decide)).mono fun e u' hh => by
    have e1 : hsM (ckF [oneTn] []) (.ask annS kS nS) ⟨3, P, eS, 0, 0⟩ 2 mS = ⟨4, eS, eS, 0, 0⟩ := if_pos (by rw [← hP]; exact sk_k2)
    have e2 : hsS (ckF [oneTn] []) (.ask annS kS nS) ⟨3, P, eS, 0, 0⟩ 2 mS = .known annS := if_pos (by rw [← hP]; exact sk_k2)
    rw [e1, e2] at hh
    exact hh)
  have HWH := Lib.hid (show ∀ ub v mb sb L u, Ss ub mb [] sb v (.known annS) L u → Calls Tryz.prog 29 #[.pointer (some ⟨sb, 0, none⟩)] u fun e u' => e = .returned (.tuple #[.string ⟨#[97, 110, 110]⟩, .bool true]) ∧ Ss ub mb [] sb v (.known annS) L u' from fun ub v mb sb L u h => ss_who h)
  have HH3 := Lib.hid (show ∀ ub v mb sb L u, Sb w ub v mb [oneTn] → Ss ub mb [] sb v (.known annS) L u → Calls Tryz.prog 27 #[.pointer (some ⟨sb, 0, none⟩), .agg #[.int .i64 13, .string ⟨#[]⟩, .string ⟨#[]⟩, .int .i64 0, .int .i64 0], .int .i64 3, .string ⟨#[]⟩] u fun e u' => e = .returned (.tuple #[.agg #[.int .i64 0, .string ⟨#[]⟩, .string ⟨#[]⟩, .int .i64 0, .int .i64 0], .bool false]) ∧ Ss ub mb [] sb v (.known annS) L u' from fun ub v mb sb L u b h => ss_hear b hG h ⟨13, eS, eS, 0, 0⟩ 3 eS (by decide) (by decide))
  have HH4 := Lib.hid (show ∀ ub v mb tb L u, Sb w ub v mb [oneTn] → Ss ub mb [] tb v .new L u → Calls Tryz.prog 27 #[.pointer (some ⟨tb, 0, none⟩), .agg #[.int .i64 3, .string ⟨#[]⟩, .string ⟨#[]⟩, .int .i64 0, .int .i64 0], .int .i64 1, .string ⟨#[110]⟩] u fun e u' => e = .returned (.tuple #[.agg #[.int .i64 5, .string ⟨#[]⟩, .string ⟨#[]⟩, .int .i64 1, .int .i64 0], .bool true]) ∧ Ss ub mb [] tb v .no L u' from fun ub v mb sb L u b h => ss_hear b hG h ⟨3, eS, eS, 0, 0⟩ 1 nS (by decide) (by decide))
  have HWT := Lib.hid (show ∀ ub v mb tb L u, Ss ub mb [] tb v .no L u → Calls Tryz.prog 29 #[.pointer (some ⟨tb, 0, none⟩)] u fun e u' => e = .returned (.tuple #[.string ⟨#[]⟩, .bool false]) ∧ Ss ub mb [] tb v .no L u' from fun ub v mb sb L u h => ss_who h)
  have HOT := Lib.hid (show ∀ ub v mb tb L u, Ss ub mb [] tb v .no L u → Calls Tryz.prog 31 #[.pointer (some ⟨tb, 0, none⟩)] u fun e u' => e = .returned (.bool true) ∧ Ss ub mb [] tb v .no L u' from fun ub v mb sb L u h => ss_over h)
  have HOS := Lib.hid (show ∀ ub v mb sb L u, Ss ub mb [] sb v (.known annS) L u → Calls Tryz.prog 31 #[.pointer (some ⟨sb, 0, none⟩)] u fun e u' => e = .returned (.bool true) ∧ Ss ub mb [] sb v (.known annS) L u' from fun ub v mb sb L u h => ss_over h)
  have HNE := Lib.hid (show Gl w from hG)
  clear hG hP
  go_enter Tryz.func19, Tryz.ntmps19
  go_upto_region 4 with (first
    | (go_at_call 57; refine (skone_ok _).mono ?_; rintro e u1 ⟨b, d, rfl, hrc, hb⟩; have HRC := Lib.hid hrc; have HB1 := Lib.hid hb; clear hrc hb)
    | (go_at_call 21; (with_reducible refine (HN1.out _ b d HB1.out HRC.out).mono ?_); rintro e ub ⟨v, mb, rfl, hsb, hmv⟩; have HSB := Lib.hid hsb; have HMV := Lib.hid hmv; clear hsb hmv HRC HB1))
  go_upto_region 5 with (go_at_call 23; (with_reducible refine (ss_new HSB.out [] (Ke.refl _ _) HMV.out (fun y hy => absurd hy List.not_mem_nil)).mono ?_); rintro e u3 ⟨rfl, hs⟩; have HS3 := Lib.hid hs; clear hs HMV)
  obtain ⟨sb, hsb⟩ : ∃ sb, ub.heap.size = sb := ⟨_, rfl⟩
  rw [hsb] at HS3 ⊢
  clear hsb
  go_upto_region 6 with (go_at_call 23; (with_reducible refine (snew_ok v _).mono ?_); rintro e u4 ⟨rfl, hbt, hb⟩; have HS4 := Lib.hid ((HS3.out.on hb).add hbt (by have := HS3.out.b.lt; omega)); have HTL := Lib.hid (show ub.heap.size ≤ u3.heap.size from HS3.out.k.size); clear hb hbt)
  have HSLO := Lib.hid (show ub.heap.size ≤ sb from HS3.out.lo)
  obtain ⟨tb, htb⟩ : ∃ tb, u3.heap.size = tb := ⟨_, rfl⟩
  rw [htb] at HS4 HTL ⊢
  clear htb HS3
  go_upto_region 8 with fail
  go_upto_region 9 with (go_at_call 27; (with_reducible refine (HH1.out _ _ _ _ _ _ HSB.out HS4.out).mono ?_); rintro e u5 ⟨rfl, hs⟩; have HS5 := Lib.hid hs; clear hs HS4)
  have HY5 := Lib.hid (HS5.out.new 55 #[.int .i64 2, .string ⟨#[110]⟩, .string ⟨#[]⟩, .int .i64 0, .int .i64 0])
  obtain ⟨y5, hy⟩ : ∃ y, u5.alloc (.cells #[.int .i64 2, .string ⟨#[110]⟩, .string ⟨#[]⟩, .int .i64 0, .int .i64 0] 55) = y := ⟨_, rfl⟩
  obtain ⟨g5, hg⟩ : ∃ g, u5.heap.size = g := ⟨_, rfl⟩
  rw [hy, hg] at HY5
  rw [hy] ; rw [hg]
  have HL5 := Lib.hid (show g5 ≠ tb from by have h1 := HS5.out.bk (b := tb) (t := 114) (cs := shc v .new) (by simp); have h2 := h1.lt; omega)
  clear hy hg HS5
  go_upto_region 10 with (first
    | (go_at_call 58; (with_reducible refine (HW.out _ _ _ _ _ _ HSB.out HY5.out).mono ?_); rintro e u6 ⟨rfl, hs⟩; have HS6 := Lib.hid hs; clear hs HY5)
    | (go_at_call 27; (with_reducible refine (HH2.out _ _ _ _ _ _ HSB.out HS6.out).mono ?_); rintro e u7 ⟨rfl, hs⟩; have HS7 := Lib.hid hs; clear hs HS6))
  have HY7 := Lib.hid (HS7.out.new 55 #[.int .i64 4, .string ⟨#[]⟩, .string ⟨#[]⟩, .int .i64 0, .int .i64 0])
  obtain ⟨y7, hy⟩ : ∃ y, u7.alloc (.cells #[.int .i64 4, .string ⟨#[]⟩, .string ⟨#[]⟩, .int .i64 0, .int .i64 0] 55) = y := ⟨_, rfl⟩
  obtain ⟨g7, hg⟩ : ∃ g, u7.heap.size = g := ⟨_, rfl⟩
  rw [hy, hg] at HY7
  rw [hy] ; rw [hg]
  have HL7 := Lib.hid (show g7 ≠ tb from by have h1 := HS7.out.bk (b := tb) (t := 114) (cs := shc v .new) (by simp); have h2 := h1.lt; omega)
  clear hy hg HS7
  go_upto_region 11 with (go_at_call 29; (with_reducible refine (HWH.out _ _ _ _ _ _ HY7.out).mono ?_); rintro e u8 ⟨rfl, hs⟩; have HS8 := Lib.hid hs; clear hs HY7)
  go_upto_region 12 with (go_at_call 27; (with_reducible refine (HH3.out _ _ _ _ _ _ HSB.out HS8.out).mono ?_); rintro e u9 ⟨rfl, hs⟩; have HS9 := Lib.hid hs; clear hs HS8)
  have HY9 := Lib.hid (HS9.out.new 55 #[.int .i64 0, .string ⟨#[]⟩, .string ⟨#[]⟩, .int .i64 0, .int .i64 0])
  obtain ⟨y9, hy⟩ : ∃ y, u9.alloc (.cells #[.int .i64 0, .string ⟨#[]⟩, .string ⟨#[]⟩, .int .i64 0, .int .i64 0] 55) = y := ⟨_, rfl⟩
  obtain ⟨g9, hg⟩ : ∃ g, u9.heap.size = g := ⟨_, rfl⟩
  rw [hy, hg] at HY9
  rw [hy] ; rw [hg]
  have HL9 := Lib.hid (show g9 ≠ tb from by have h1 := HS9.out.bk (b := tb) (t := 114) (cs := shc v .new) (by simp); have h2 := h1.lt; omega)
  clear hy hg HS9
  have HT9 := Lib.hid (Ss.swap (t := .new) (L := [(g9, 55, #[.int .i64 0, .string ⟨#[]⟩, .string ⟨#[]⟩, .int .i64 0, .int .i64 0]), (g7, 55, #[.int .i64 4, .string ⟨#[]⟩, .string ⟨#[]⟩, .int .i64 0, .int .i64 0]), (g5, 55, #[.int .i64 2, .string ⟨#[110]⟩, .string ⟨#[]⟩, .int .i64 0, .int .i64 0])]) (HY9.out.perm (by intro b hb; simp only [List.mem_cons, List.not_mem_nil, or_false] at hb ⊢; rcases hb with h | h | h | h <;> simp [h])) HTL.out trivial (fun b hb => by
    simp only [List.mem_cons, List.not_mem_nil, or_false] at hb
    rcases hb with rfl | rfl | rfl
    · exact HL9.out
    · exact HL7.out
    · exact HL5.out))
  clear HY9
  go_upto_region 13 with (go_at_call 27; (with_reducible refine (HH4.out _ _ _ _ _ _ HSB.out HT9.out).mono ?_); rintro e u10 ⟨rfl, hs⟩; have HS10 := Lib.hid hs; clear hs HT9)
  have HY10 := Lib.hid (HS10.out.new 55 #[.int .i64 5, .string ⟨#[]⟩, .string ⟨#[]⟩, .int .i64 1, .int .i64 0])
  obtain ⟨y10, hy⟩ : ∃ y, u10.alloc (.cells #[.int .i64 5, .string ⟨#[]⟩, .string ⟨#[]⟩, .int .i64 1, .int .i64 0] 55) = y := ⟨_, rfl⟩
  obtain ⟨g10, hg⟩ : ∃ g, u10.heap.size = g := ⟨_, rfl⟩
  rw [hy, hg] at HY10
  rw [hy] ; rw [hg]
  clear hy hg HS10
  go_upto_region 14 with (go_at_call 29; (with_reducible refine (HWT.out _ _ _ _ _ _ HY10.out).mono ?_); rintro e u11 ⟨rfl, hs⟩; have HS11 := Lib.hid hs; clear hs HY10)
  have a5_0 : u11.cell? ⟨g5, 0, none⟩ = some (.int .i64 2) := (HS11.out.bk (b := g5) (t := 55) (cs := #[.int .i64 2, .string ⟨#[110]⟩, .string ⟨#[]⟩, .int .i64 0, .int .i64 0]) (by simp)).cell 0
  have a5_1 : u11.cell? ⟨g5, 1, none⟩ = some (.string ⟨#[110]⟩) := (HS11.out.bk (b := g5) (t := 55) (cs := #[.int .i64 2, .string ⟨#[110]⟩, .string ⟨#[]⟩, .int .i64 0, .int .i64 0]) (by simp)).cell 1
  have a5_2 : u11.cell? ⟨g5, 2, none⟩ = some (.string ⟨#[]⟩) := (HS11.out.bk (b := g5) (t := 55) (cs := #[.int .i64 2, .string ⟨#[110]⟩, .string ⟨#[]⟩, .int .i64 0, .int .i64 0]) (by simp)).cell 2
  have a5_3 : u11.cell? ⟨g5, 3, none⟩ = some (.int .i64 0) := (HS11.out.bk (b := g5) (t := 55) (cs := #[.int .i64 2, .string ⟨#[110]⟩, .string ⟨#[]⟩, .int .i64 0, .int .i64 0]) (by simp)).cell 3
  have a5_4 : u11.cell? ⟨g5, 4, none⟩ = some (.int .i64 0) := (HS11.out.bk (b := g5) (t := 55) (cs := #[.int .i64 2, .string ⟨#[110]⟩, .string ⟨#[]⟩, .int .i64 0, .int .i64 0]) (by simp)).cell 4
  have a7_0 : u11.cell? ⟨g7, 0, none⟩ = some (.int .i64 4) := (HS11.out.bk (b := g7) (t := 55) (cs := #[.int .i64 4, .string ⟨#[]⟩, .string ⟨#[]⟩, .int .i64 0, .int .i64 0]) (by simp)).cell 0
  have a10_0 : u11.cell? ⟨g10, 0, none⟩ = some (.int .i64 5) := (HS11.out.bk (b := g10) (t := 55) (cs := #[.int .i64 5, .string ⟨#[]⟩, .string ⟨#[]⟩, .int .i64 1, .int .i64 0]) (by simp)).cell 0
  have a10_1 : u11.cell? ⟨g10, 1, none⟩ = some (.string ⟨#[]⟩) := (HS11.out.bk (b := g10) (t := 55) (cs := #[.int .i64 5, .string ⟨#[]⟩, .string ⟨#[]⟩, .int .i64 1, .int .i64 0]) (by simp)).cell 1
  have a10_2 : u11.cell? ⟨g10, 2, none⟩ = some (.string ⟨#[]⟩) := (HS11.out.bk (b := g10) (t := 55) (cs := #[.int .i64 5, .string ⟨#[]⟩, .string ⟨#[]⟩, .int .i64 1, .int .i64 0]) (by simp)).cell 2
  have a10_3 : u11.cell? ⟨g10, 3, none⟩ = some (.int .i64 1) := (HS11.out.bk (b := g10) (t := 55) (cs := #[.int .i64 5, .string ⟨#[]⟩, .string ⟨#[]⟩, .int .i64 1, .int .i64 0]) (by simp)).cell 3
  have a10_4 : u11.cell? ⟨g10, 4, none⟩ = some (.int .i64 0) := (HS11.out.bk (b := g10) (t := 55) (cs := #[.int .i64 5, .string ⟨#[]⟩, .string ⟨#[]⟩, .int .i64 1, .int .i64 0]) (by simp)).cell 4
  have HEQ1 := Lib.hid (eqM_same ⟨2, nS, eS, 0, 0⟩)
  have HEQ2 := Lib.hid (eqM_same ⟨5, eS, eS, 1, 0⟩)
  have HSW := Lib.hid (show Ss ub mb [] sb v (.known annS) [(tb, 114, shc v .no)] u11 from Ss.swap (t := .known annS) (L := []) (HS11.out.less (by intro b hb; simp only [List.mem_cons, List.not_mem_nil, or_false] at hb ⊢; simp [hb])) HSLO.out (show 1 ≤ annS.size by decide) (fun b hb => absurd hb List.not_mem_nil))
  have hann : ((⟨#[97, 110, 110]⟩ : ByteArray).toList == (⟨#[97, 110, 110]⟩ : ByteArray).toList) = true := beq_self_eq_true _
  go_wp2_with (first
    | (refine wpList_eqm (by kernel_rfl) (.tmp 66) (.tmp 67) _ rfl ⟨2, nS, eS, 0, 0⟩ ⟨2, nS, eS, 0, 0⟩ rfl rfl ?_; rw [HEQ1.out])
    | (refine wpList_eqm (by kernel_rfl) (.tmp 92) (.tmp 93) _ rfl ⟨5, eS, eS, 1, 0⟩ ⟨5, eS, eS, 1, 0⟩ rfl rfl ?_; rw [HEQ2.out])
    | (go_at_call 31; (with_reducible refine (HOS.out _ _ _ _ _ _ HSW.out).mono ?_); rintro e u12 ⟨rfl, hs⟩; have HS12 := Lib.hid (Ss.swap (t := .no) (L := []) hs HTL.out trivial (fun b hb => absurd hb List.not_mem_nil)); clear hs HSW)
    | (go_at_call 31; (with_reducible refine (HOT.out _ _ _ _ _ _ HS12.out).mono ?_); rintro e u13 ⟨rfl, hs⟩; have HS13 := Lib.hid hs; clear hs))
  go_ret
  exact ⟨rfl, HSB.out.low HS13.out⟩
end Go.Proofs.YtekobdmlgbffnaaGreatDoor
