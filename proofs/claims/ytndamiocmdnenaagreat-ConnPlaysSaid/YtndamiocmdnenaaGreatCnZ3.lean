/- The program's table: what turns one connection: their contracts. (Written by gen_cnz.py.) -/
import Derived.Test.YtndamiocmdnenaaGreatG5
import Derived.BigQuiet
namespace Go.Proofs.YtndamiocmdnenaaGreat
set_option linter.unusedVariables false
set_option maxRecDepth 100000
set_option linter.unusedSimpArgs false
open Go.RowKit

theorem up_same {t : Tc} (hg : Gc t) {i : Int} {c : Cn} (e : t.f i = some c) : t = t.up i c := (up_self e hg).symm
theorem fe_hit {t : Tc} (hg : Gc t) {i : Int} {c : Cn} (e : t.f i = some c) (B : List UInt8) : feC t i B = ((fe1 c B).1, t.up i (fe1 c B).2) := by
  unfold feC fe1; rw [e]; dsimp only; split
  · exact Prod.ext rfl (up_same hg e)
  · rfl
theorem ne_hit {t : Tc} (hg : Gc t) {i : Int} {c : Cn} (e : t.f i = some c) : neC t i = ((ne1 c).1, t.up i (ne1 c).2) := by
  unfold neC ne1; rw [e]; dsimp only; split
  · exact Prod.ext rfl (up_same hg e)
  · split
    · exact Prod.ext rfl (up_same hg e)
    · rfl
theorem re_hit {t : Tc} {i : Int} {c : Cn} (e : t.f i = some c) (n : Int) : reC t i n = ((re1 c n).1, t.up i (re1 c n).2) := by
  unfold reC re1; rw [e]
theorem sa_hit {t : Tc} (hg : Gc t) {i : Int} {c : Cn} (e : t.f i = some c) (B : List UInt8) : saC t i B = ((sa1 c B).1, t.up i (sa1 c B).2) := by
  unfold saC sa1; rw [e]; dsimp only; split
  · exact Prod.ext rfl (up_same hg e)
  · rfl
theorem bu_hit {t : Tc} (hg : Gc t) {i : Int} {c : Cn} (e : t.f i = some c) (n : Int) : buC t i n = ((bu1 c n).1, t.up i (bu1 c n).2) := by
  unfold buC bu1; rw [e]; dsimp only; split
  · exact Prod.ext rfl (up_same hg e)
  · rfl
theorem fl_hit {t : Tc} {i : Int} {c : Cn} (e : t.f i = some c) : flC t i = ((fl1 c).1, t.up i (fl1 c).2) := by
  unfold flC fl1; rw [e]
theorem ha_hit {t : Tc} (hg : Gc t) {i : Int} {c : Cn} (e : t.f i = some c) : haC t i = ((ha1 c).1, t.up i (ha1 c).2) := by
  unfold haC ha1; rw [e]; dsimp only; split
  · exact Prod.ext rfl (up_same hg e)
  · rfl
section
variable {W u u' : World} {H H' : List Nat} {tb : Nat} {t : Tc}
set_option maxRecDepth 100000 in
set_option maxHeartbeats 2000000 in
theorem c_feed (h : Zc W u H tb t) (hg : Gc t) (i : Int) (A : Option Addr) (n cp : Nat) (l : List UInt8) (hl : l.length = n) (hc : n ≤ cp) (hcm : cp ≤ 9223372036854775807) (hR : Rf u H A l) (r : Nat) (t2 : Tc) (hE : feC t i l = (r, t2)) (hw : WfN i := by first | exact (by decide) | exact (Hid.out (by assumption))) :
    Calls Tryz.prog 14 #[.pointer (some ⟨tb, 0, none⟩), .int .i64 i, .slice A n cp] u fun e u' => e = .returned (.int .i64 (r : Int)) ∧ Zc W u' H tb t2 ∧ Sp u u' H H := by
  have HZ := Lib.hid h
  have HG := Lib.hid hg
  obtain ⟨mb, pl, hz⟩ := h.ex
  obtain ⟨kb, hkb⟩ : ∃ kb, u.heap.size = kb := ⟨_, rfl⟩
  obtain ⟨v0, hv0⟩ : ∃ v0, u.alloc (.cells #[.slice A n cp] 30) = v0 := ⟨_, rfl⟩
  have kv0 : Ke [] u v0 := by rw [← hv0]; exact (Ke.refl [] u).alloc _
  have bk0 : Bk v0 kb 30 #[.slice A n cp] := by rw [← hv0, ← hkb]; exact Bk.new _ _ _
  have b0 : v0.cell? ⟨kb, 0, none⟩ = some (.slice A n cp) := bk0.cell 0
  have HKV := Lib.hid kv0
  have HKB := Lib.hid (And.intro hkb bk0)
  have hz0 := hz.ke kv0 (fun _ _ hx => by cases hx)
  have c0 : v0.cell? ⟨tb, 0, none⟩ = some (.map (some mb)) := hz0.tk.cell 0
  cases he : t.f i with
  | none =>
    unfold feC at hE
    rw [he] at hE
    injection hE with e1 e2
    subst e2
    have e1 : 0 = r := e1
    subst e1
    clear hl hc hcm hR
    have hlk : (Instr.lookup 49 (.map (some mb)) (.int .i64 i) true).run Tryz.prog v0 = .ok (.tuple #[.pointer none, .bool false]) v0 := hz0.mp.miss kinC hw (hz0.miss he)
    clear h hg hz hz0 hw he kv0 bk0
    go_enter Tryz.func14, Tryz.ntmps14
    go_upto_region 1 with fail
    try rw [hv0]
    try rw [hkb]
    clear hv0
    go_wp2_with (go_at_call 48; go_enter Tryz.func48, Tryz.ntmps48)
    go_ret
    exact ⟨rfl, HZ.out.on (HKV.out.below (Nat.le_refl _) (by simp)), (HKV.out).sp⟩
  | some c =>
    have hin := hz0.hit he
    have hp := hz0.at_ _ hin.1
    have HE := Lib.hid he
    have HT := Lib.hid hz
    obtain ⟨P, hP⟩ : ∃ P, pl i = P := ⟨_, rfl⟩
    have hlk : (Instr.lookup 49 (.map (some mb)) (.int .i64 i) true).run Tryz.prog v0 = .ok (.tuple #[.pointer (some ⟨P.p, 0, none⟩), .bool true]) v0 := by rw [← hP]; exact hz0.mp.hit kinC hin.2
    rw [hP] at hp
    have HPP := Lib.hid hP
    rw [fe_hit hg he l] at hE
    injection hE with e1 e2
    obtain ⟨c2, hc2⟩ : ∃ c2, (fe1 c l).2 = c2 := ⟨_, rfl⟩
    rw [hc2] at e2
    subst e2
    have hE1 : fe1 c l = (r, c2) := Prod.ext e1 hc2
    have hat := hg.at_ he
    have HPE := Lib.hid (pe_feed hp A n cp l hl hc hcm ((hR.less (fun x hx => hz.bsH he x (by rw [hP]; exact hx))).ke kv0 (by simp)) r c2 hE1)
    clear h hg hz hz0 hw he hp hP hin e1 hc2 hE1 hat kv0 bk0
    go_enter Tryz.func14, Tryz.ntmps14
    go_upto_region 1 with fail
    try rw [hv0]
    try rw [hkb]
    clear hv0
    go_wp2_with (first | (go_at_call 48; go_enter Tryz.func48, Tryz.ntmps48) | (go_at_call 49; go_enter Tryz.func49, Tryz.ntmps49) | (go_at_call 50; (with_reducible refine HPE.out.mono ?_); rintro e w5 ⟨rfl, j1, j2⟩; have K5 := Lib.hid (And.intro j1 j2); clear j1 j2))
    go_ret
    have kk : Ke P.bs u w5 := HKV.out.nil.trans K5.out.2
    rw [← HPP.out] at kk
    have hpe := K5.out.1
    rw [← HPP.out] at hpe
    obtain ⟨z1, z2⟩ := HZ.out.one HT.out HE.out kk (fun x hx => hx) hpe
    exact ⟨rfl, z1, z2⟩
set_option maxRecDepth 100000 in
set_option maxHeartbeats 2000000 in
theorem c_say (h : Zc W u H tb t) (hg : Gc t) (i : Int) (A : Option Addr) (n cp : Nat) (l : List UInt8) (hl : l.length = n) (hc : n ≤ cp) (hcm : cp ≤ 9223372036854775807) (hR : Rf u H A l) (r : Bool) (t2 : Tc) (hE : saC t i l = (r, t2)) (hw : WfN i := by first | exact (by decide) | exact (Hid.out (by assumption))) :
    Calls Tryz.prog 16 #[.pointer (some ⟨tb, 0, none⟩), .int .i64 i, .slice A n cp] u fun e u' => e = .returned (.bool r) ∧ Zc W u' H tb t2 ∧ Sp u u' H H := by
  have HZ := Lib.hid h
  have HG := Lib.hid hg
  obtain ⟨mb, pl, hz⟩ := h.ex
  obtain ⟨kb, hkb⟩ : ∃ kb, u.heap.size = kb := ⟨_, rfl⟩
  obtain ⟨v0, hv0⟩ : ∃ v0, u.alloc (.cells #[.slice A n cp] 30) = v0 := ⟨_, rfl⟩
  have kv0 : Ke [] u v0 := by rw [← hv0]; exact (Ke.refl [] u).alloc _
  have bk0 : Bk v0 kb 30 #[.slice A n cp] := by rw [← hv0, ← hkb]; exact Bk.new _ _ _
  have b0 : v0.cell? ⟨kb, 0, none⟩ = some (.slice A n cp) := bk0.cell 0
  have HKV := Lib.hid kv0
  have HKB := Lib.hid (And.intro hkb bk0)
  have hz0 := hz.ke kv0 (fun _ _ hx => by cases hx)
  have c0 : v0.cell? ⟨tb, 0, none⟩ = some (.map (some mb)) := hz0.tk.cell 0
  cases he : t.f i with
  | none =>
    unfold saC at hE
    rw [he] at hE
    injection hE with e1 e2
    subst e2
    have e1 : false = r := e1
    subst e1
    clear hl hc hcm hR
    have hlk : (Instr.lookup 49 (.map (some mb)) (.int .i64 i) true).run Tryz.prog v0 = .ok (.tuple #[.pointer none, .bool false]) v0 := hz0.mp.miss kinC hw (hz0.miss he)
    clear h hg hz hz0 hw he kv0 bk0
    go_enter Tryz.func16, Tryz.ntmps16
    go_upto_region 1 with fail
    try rw [hv0]
    try rw [hkb]
    clear hv0
    go_wp2_with (go_at_call 54; go_enter Tryz.func54, Tryz.ntmps54)
    go_ret
    exact ⟨rfl, HZ.out.on (HKV.out.below (Nat.le_refl _) (by simp)), (HKV.out).sp⟩
  | some c =>
    have hin := hz0.hit he
    have hp := hz0.at_ _ hin.1
    have HE := Lib.hid he
    have HT := Lib.hid hz
    obtain ⟨P, hP⟩ : ∃ P, pl i = P := ⟨_, rfl⟩
    have hlk : (Instr.lookup 49 (.map (some mb)) (.int .i64 i) true).run Tryz.prog v0 = .ok (.tuple #[.pointer (some ⟨P.p, 0, none⟩), .bool true]) v0 := by rw [← hP]; exact hz0.mp.hit kinC hin.2
    rw [hP] at hp
    have HPP := Lib.hid hP
    rw [sa_hit hg he l] at hE
    injection hE with e1 e2
    obtain ⟨c2, hc2⟩ : ∃ c2, (sa1 c l).2 = c2 := ⟨_, rfl⟩
    rw [hc2] at e2
    subst e2
    have hE1 : sa1 c l = (r, c2) := Prod.ext e1 hc2
    have hat := hg.at_ he
    have HPE := Lib.hid (pe_say hp A n cp l hl hc hcm ((hR.less (fun x hx => hz.bsH he x (by rw [hP]; exact hx))).ke kv0 (by simp)) r c2 hE1)
    clear h hg hz hz0 hw he hp hP hin e1 hc2 hE1 hat kv0 bk0
    go_enter Tryz.func16, Tryz.ntmps16
    go_upto_region 1 with fail
    try rw [hv0]
    try rw [hkb]
    clear hv0
    go_wp2_with (first | (go_at_call 54; go_enter Tryz.func54, Tryz.ntmps54) | (go_at_call 55; go_enter Tryz.func55, Tryz.ntmps55) | (go_at_call 56; (with_reducible refine HPE.out.mono ?_); rintro e w5 ⟨rfl, j1, j2⟩; have K5 := Lib.hid (And.intro j1 j2); clear j1 j2))
    go_ret
    have kk : Ke P.bs u w5 := HKV.out.nil.trans K5.out.2
    rw [← HPP.out] at kk
    have hpe := K5.out.1
    rw [← HPP.out] at hpe
    obtain ⟨z1, z2⟩ := HZ.out.one HT.out HE.out kk (fun x hx => hx) hpe
    exact ⟨rfl, z1, z2⟩
set_option maxRecDepth 100000 in
set_option maxHeartbeats 2000000 in
theorem c_budget (h : Zc W u H tb t) (hg : Gc t) (i : Int) (n : Int) (r : Bool) (t2 : Tc) (hE : buC t i n = (r, t2)) (hw : WfN i := by first | exact (by decide) | exact (Hid.out (by assumption))) :
    Calls Tryz.prog 17 #[.pointer (some ⟨tb, 0, none⟩), .int .i64 i, .int .i64 n] u fun e u' => e = .returned (.bool r) ∧ Zc W u' H tb t2 ∧ Sp u u' H H := by
  have HZ := Lib.hid h
  have HG := Lib.hid hg
  obtain ⟨mb, pl, hz⟩ := h.ex
  obtain ⟨kb, hkb⟩ : ∃ kb, u.heap.size = kb := ⟨_, rfl⟩
  obtain ⟨v0, hv0⟩ : ∃ v0, u.alloc (.cells #[.int .i64 n] 3) = v0 := ⟨_, rfl⟩
  have kv0 : Ke [] u v0 := by rw [← hv0]; exact (Ke.refl [] u).alloc _
  have bk0 : Bk v0 kb 3 #[.int .i64 n] := by rw [← hv0, ← hkb]; exact Bk.new _ _ _
  have b0 : v0.cell? ⟨kb, 0, none⟩ = some (.int .i64 n) := bk0.cell 0
  have HKV := Lib.hid kv0
  have HKB := Lib.hid (And.intro hkb bk0)
  have hz0 := hz.ke kv0 (fun _ _ hx => by cases hx)
  have c0 : v0.cell? ⟨tb, 0, none⟩ = some (.map (some mb)) := hz0.tk.cell 0
  cases he : t.f i with
  | none =>
    unfold buC at hE
    rw [he] at hE
    injection hE with e1 e2
    subst e2
    have e1 : false = r := e1
    subst e1
    have hlk : (Instr.lookup 49 (.map (some mb)) (.int .i64 i) true).run Tryz.prog v0 = .ok (.tuple #[.pointer none, .bool false]) v0 := hz0.mp.miss kinC hw (hz0.miss he)
    clear h hg hz hz0 hw he kv0 bk0
    go_enter Tryz.func17, Tryz.ntmps17
    go_upto_region 1 with fail
    try rw [hv0]
    try rw [hkb]
    clear hv0
    go_wp2_with (go_at_call 54; go_enter Tryz.func54, Tryz.ntmps54)
    go_ret
    exact ⟨rfl, HZ.out.on (HKV.out.below (Nat.le_refl _) (by simp)), (HKV.out).sp⟩
  | some c =>
    have hin := hz0.hit he
    have hp := hz0.at_ _ hin.1
    have HE := Lib.hid he
    have HT := Lib.hid hz
    obtain ⟨P, hP⟩ : ∃ P, pl i = P := ⟨_, rfl⟩
    have hlk : (Instr.lookup 49 (.map (some mb)) (.int .i64 i) true).run Tryz.prog v0 = .ok (.tuple #[.pointer (some ⟨P.p, 0, none⟩), .bool true]) v0 := by rw [← hP]; exact hz0.mp.hit kinC hin.2
    rw [hP] at hp
    have HPP := Lib.hid hP
    rw [bu_hit hg he n] at hE
    injection hE with e1 e2
    obtain ⟨c2, hc2⟩ : ∃ c2, (bu1 c n).2 = c2 := ⟨_, rfl⟩
    rw [hc2] at e2
    subst e2
    have hE1 : bu1 c n = (r, c2) := Prod.ext e1 hc2
    have hat := hg.at_ he
    have HPE := Lib.hid (pe_budget hp hat.2.2 n r c2 hE1)
    clear h hg hz hz0 hw he hp hP hin e1 hc2 hE1 hat kv0 bk0
    go_enter Tryz.func17, Tryz.ntmps17
    go_upto_region 1 with fail
    try rw [hv0]
    try rw [hkb]
    clear hv0
    go_wp2_with (first | (go_at_call 54; go_enter Tryz.func54, Tryz.ntmps54) | (go_at_call 57; go_enter Tryz.func57, Tryz.ntmps57) | (go_at_call 58; (with_reducible refine HPE.out.mono ?_); rintro e w5 ⟨rfl, j1, j2⟩; have K5 := Lib.hid (And.intro j1 j2); clear j1 j2))
    go_ret
    have kk : Ke P.bs u w5 := HKV.out.nil.trans K5.out.2
    rw [← HPP.out] at kk
    have hpe := K5.out.1
    rw [← HPP.out] at hpe
    obtain ⟨z1, z2⟩ := HZ.out.one HT.out HE.out kk (fun x hx => hx) hpe
    exact ⟨rfl, z1, z2⟩
set_option maxRecDepth 100000 in
set_option maxHeartbeats 2000000 in
theorem c_half (h : Zc W u H tb t) (hg : Gc t) (i : Int) (r : Bool) (t2 : Tc) (hE : haC t i = (r, t2)) (hw : WfN i := by first | exact (by decide) | exact (Hid.out (by assumption))) :
    Calls Tryz.prog 20 #[.pointer (some ⟨tb, 0, none⟩), .int .i64 i] u fun e u' => e = .returned (.bool r) ∧ Zc W u' H tb t2 ∧ Sp u u' H H := by
  have HZ := Lib.hid h
  have HG := Lib.hid hg
  obtain ⟨mb, pl, hz⟩ := h.ex
  have kv0 : Ke [] u u := Ke.refl [] u
  have HKV := Lib.hid kv0
  have hz0 := hz.ke kv0 (fun _ _ hx => by cases hx)
  have c0 : u.cell? ⟨tb, 0, none⟩ = some (.map (some mb)) := hz0.tk.cell 0
  cases he : t.f i with
  | none =>
    unfold haC at hE
    rw [he] at hE
    injection hE with e1 e2
    subst e2
    have e1 : false = r := e1
    subst e1
    have hlk : (Instr.lookup 49 (.map (some mb)) (.int .i64 i) true).run Tryz.prog u = .ok (.tuple #[.pointer none, .bool false]) u := hz0.mp.miss kinC hw (hz0.miss he)
    clear h hg hz hz0 hw he kv0
    go_enter Tryz.func20, Tryz.ntmps20
    go_wp2_with (go_at_call 54; go_enter Tryz.func54, Tryz.ntmps54)
    go_ret
    exact ⟨rfl, HZ.out.on (HKV.out.below (Nat.le_refl _) (by simp)), (HKV.out).sp⟩
  | some c =>
    have hin := hz0.hit he
    have hp := hz0.at_ _ hin.1
    have HE := Lib.hid he
    have HT := Lib.hid hz
    obtain ⟨P, hP⟩ : ∃ P, pl i = P := ⟨_, rfl⟩
    have hlk : (Instr.lookup 49 (.map (some mb)) (.int .i64 i) true).run Tryz.prog u = .ok (.tuple #[.pointer (some ⟨P.p, 0, none⟩), .bool true]) u := by rw [← hP]; exact hz0.mp.hit kinC hin.2
    rw [hP] at hp
    have HPP := Lib.hid hP
    rw [ha_hit hg he] at hE
    injection hE with e1 e2
    obtain ⟨c2, hc2⟩ : ∃ c2, (ha1 c).2 = c2 := ⟨_, rfl⟩
    rw [hc2] at e2
    subst e2
    have hE1 : ha1 c = (r, c2) := Prod.ext e1 hc2
    have hat := hg.at_ he
    have HPE := Lib.hid (pe_half hp r c2 hE1)
    clear h hg hz hz0 hw he hp hP hin e1 hc2 hE1 hat kv0
    go_enter Tryz.func20, Tryz.ntmps20
    go_wp2_with (first | (go_at_call 54; go_enter Tryz.func54, Tryz.ntmps54) | (go_at_call 63; go_enter Tryz.func63, Tryz.ntmps63) | (go_at_call 64; (with_reducible refine HPE.out.mono ?_); rintro e w5 ⟨rfl, j1, j2⟩; have K5 := Lib.hid (And.intro j1 j2); clear j1 j2))
    go_ret
    have kk : Ke P.bs u w5 := HKV.out.nil.trans K5.out.2
    rw [← HPP.out] at kk
    have hpe := K5.out.1
    rw [← HPP.out] at hpe
    obtain ⟨z1, z2⟩ := HZ.out.one HT.out HE.out kk (fun x hx => hx) hpe
    exact ⟨rfl, z1, z2⟩
set_option maxRecDepth 100000 in
set_option maxHeartbeats 2000000 in
theorem c_flush (h : Zc W u H tb t) (hg : Gc t) (i : Int) (n : Nat) (l : List UInt8) (t2 : Tc) (hE : flC t i = (l, t2)) (hn : l.length = n) (hw : WfN i := by first | exact (by decide) | exact (Hid.out (by assumption))) :
    Calls Tryz.prog 18 #[.pointer (some ⟨tb, 0, none⟩), .int .i64 i] u fun e u' => ∃ A cp, e = .returned (.slice A n cp) ∧ Fs u' u.heap.size [] A n cp l ∧ Zc W u' H tb t2 ∧ Sp u u' H H := by
  have HZ := Lib.hid h
  have HG := Lib.hid hg
  obtain ⟨mb, pl, hz⟩ := h.ex
  have kv0 : Ke [] u u := Ke.refl [] u
  have HKV := Lib.hid kv0
  have hz0 := hz.ke kv0 (fun _ _ hx => by cases hx)
  have c0 : u.cell? ⟨tb, 0, none⟩ = some (.map (some mb)) := hz0.tk.cell 0
  cases he : t.f i with
  | none =>
    unfold flC at hE
    rw [he] at hE
    injection hE with e1 e2
    subst e2
    have e1 : [] = l := e1
    subst e1
    have hn : 0 = n := hn
    subst hn
    have hlk : (Instr.lookup 49 (.map (some mb)) (.int .i64 i) true).run Tryz.prog u = .ok (.tuple #[.pointer none, .bool false]) u := hz0.mp.miss kinC hw (hz0.miss he)
    clear h hg hz hz0 hw he kv0
    go_enter Tryz.func18, Tryz.ntmps18
    go_wp2_with (go_at_call 59; go_enter Tryz.func59, Tryz.ntmps59)
    go_ret
    exact ⟨none, 0, rfl, Fs.nil _ _ _, HZ.out, Sp.refl _ _⟩
  | some c =>
    have hin := hz0.hit he
    have hp := hz0.at_ _ hin.1
    have HE := Lib.hid he
    have HT := Lib.hid hz
    obtain ⟨P, hP⟩ : ∃ P, pl i = P := ⟨_, rfl⟩
    have hlk : (Instr.lookup 49 (.map (some mb)) (.int .i64 i) true).run Tryz.prog u = .ok (.tuple #[.pointer (some ⟨P.p, 0, none⟩), .bool true]) u := by rw [← hP]; exact hz0.mp.hit kinC hin.2
    rw [hP] at hp
    have HPP := Lib.hid hP
    rw [fl_hit he] at hE
    injection hE with e1 e2
    obtain ⟨c2, hc2⟩ : ∃ c2, (fl1 c).2 = c2 := ⟨_, rfl⟩
    rw [hc2] at e2
    subst e2
    have hE1 : fl1 c = (l, c2) := Prod.ext e1 hc2
    have hat := hg.at_ he
    have HPE := Lib.hid (pe_flush hp hat.2.2 l c2 hE1 n hn)
    clear h hg hz hz0 hw he hp hP hin e1 hc2 hE1 hat kv0
    go_enter Tryz.func18, Tryz.ntmps18
    go_wp2_with (first | (go_at_call 59; go_enter Tryz.func59, Tryz.ntmps59) | (go_at_call 60; go_enter Tryz.func60, Tryz.ntmps60) | (go_at_call 61; (with_reducible refine HPE.out.mono ?_); rintro e w5 ⟨A5, cp5, rfl, j0, j1, j2⟩; have F5 := Lib.hid j0; have K5 := Lib.hid (And.intro j1 j2); clear j0 j1 j2))
    go_ret
    have kk := K5.out.2
    rw [← HPP.out] at kk
    have hpe := K5.out.1
    rw [← HPP.out] at hpe
    obtain ⟨z1, z2⟩ := HZ.out.one HT.out HE.out kk (fun x hx => hx) hpe
    exact ⟨A5, cp5, rfl, F5.out, z1, z2⟩
set_option maxRecDepth 100000 in
set_option maxHeartbeats 2000000 in
theorem c_rest (h : Zc W u H tb t) (hg : Gc t) (i : Int) (x : Int) (n : Nat) (l : List UInt8) (t2 : Tc) (hE : reC t i x = (l, t2)) (hn : l.length = n) (hw : WfN i := by first | exact (by decide) | exact (Hid.out (by assumption))) :
    Calls Tryz.prog 28 #[.pointer (some ⟨tb, 0, none⟩), .int .i64 i, .int .i64 x] u fun e u' => ∃ A cp, e = .returned (.slice A n cp) ∧ Fs u' u.heap.size [] A n cp l ∧ Zc W u' H tb t2 ∧ Sp u u' H H := by
  have HZ := Lib.hid h
  have HG := Lib.hid hg
  obtain ⟨mb, pl, hz⟩ := h.ex
  obtain ⟨kb, hkb⟩ : ∃ kb, u.heap.size = kb := ⟨_, rfl⟩
  obtain ⟨v0, hv0⟩ : ∃ v0, u.alloc (.cells #[.int .i64 x] 3) = v0 := ⟨_, rfl⟩
  have kv0 : Ke [] u v0 := by rw [← hv0]; exact (Ke.refl [] u).alloc _
  have bk0 : Bk v0 kb 3 #[.int .i64 x] := by rw [← hv0, ← hkb]; exact Bk.new _ _ _
  have b0 : v0.cell? ⟨kb, 0, none⟩ = some (.int .i64 x) := bk0.cell 0
  have HKV := Lib.hid kv0
  have HKB := Lib.hid (And.intro hkb bk0)
  have hz0 := hz.ke kv0 (fun _ _ hx => by cases hx)
  have c0 : v0.cell? ⟨tb, 0, none⟩ = some (.map (some mb)) := hz0.tk.cell 0
  cases he : t.f i with
  | none =>
    unfold reC at hE
    rw [he] at hE
    injection hE with e1 e2
    subst e2
    have e1 : [] = l := e1
    subst e1
    have hn : 0 = n := hn
    subst hn
    have hlk : (Instr.lookup 49 (.map (some mb)) (.int .i64 i) true).run Tryz.prog v0 = .ok (.tuple #[.pointer none, .bool false]) v0 := hz0.mp.miss kinC hw (hz0.miss he)
    clear h hg hz hz0 hw he kv0 bk0
    go_enter Tryz.func28, Tryz.ntmps28
    go_upto_region 1 with fail
    try rw [hv0]
    try rw [hkb]
    clear hv0
    go_wp2_with (go_at_call 59; go_enter Tryz.func59, Tryz.ntmps59)
    go_ret
    exact ⟨none, 0, rfl, Fs.nil _ _ _, HZ.out.on (HKV.out.below (Nat.le_refl _) (by simp)), (HKV.out).sp⟩
  | some c =>
    have hin := hz0.hit he
    have hp := hz0.at_ _ hin.1
    have HE := Lib.hid he
    have HT := Lib.hid hz
    obtain ⟨P, hP⟩ : ∃ P, pl i = P := ⟨_, rfl⟩
    have hlk : (Instr.lookup 49 (.map (some mb)) (.int .i64 i) true).run Tryz.prog v0 = .ok (.tuple #[.pointer (some ⟨P.p, 0, none⟩), .bool true]) v0 := by rw [← hP]; exact hz0.mp.hit kinC hin.2
    rw [hP] at hp
    have HPP := Lib.hid hP
    rw [re_hit he x] at hE
    injection hE with e1 e2
    obtain ⟨c2, hc2⟩ : ∃ c2, (re1 c x).2 = c2 := ⟨_, rfl⟩
    rw [hc2] at e2
    subst e2
    have hE1 : re1 c x = (l, c2) := Prod.ext e1 hc2
    have hat := hg.at_ he
    have HPE := Lib.hid (fun v (kv : Ke [] v0 v) => take_ok P.r0 P.g0 512 x c.q v (hp.a.ke kv (by simp) (by simp)))
    obtain ⟨m, hm⟩ : ∃ m, c.q.length = m := ⟨_, rfl⟩
    have ht : takeM x m = n := by rw [← hn, ← e1]; show _ = (c.q.take _).length; rw [List.length_take, hm]; have := takeM_le x m; omega
    simp only [hm, ht] at HPE
    have HCD := Lib.hid (show l = c.q.take n ∧ c2 = { c with q := c.q.drop n } ∧ n ≤ 512 from ⟨by rw [← e1]; show c.q.take _ = _; rw [hm, ht], by rw [← hc2]; show ({ c with q := c.q.drop _ } : Cn) = _; rw [hm, ht], by have h1 := hp.a.fit; have h2 := takeM_le x m; omega⟩)
    have HN := Lib.hid hn
    have HPA := Lib.hid hp
    have HC := Lib.hid (fun v (kv : Ke [P.r0] v0 v) => And.intro (show v.cell? ⟨P.p, 1, none⟩ = some (.pointer (some ⟨P.r0, 0, none⟩)) from (hp.bk.ke kv (by simpa using (dp_of hp.nd).a)).cell 1) (show v.cell? ⟨kb, 0, none⟩ = some (.int .i64 x) from (bk0.ke kv (by have h1 := hz.bsH he P.r0 (by rw [hP]; simp [Pl.bs]); have h2 := HZ.out.hi _ h1; rw [List.mem_singleton]; omega)).cell 0))
    have HLT := Lib.hid (show P.r0 < u.heap.size from HZ.out.hi _ (hz.bsH he P.r0 (by rw [hP]; simp [Pl.bs])))
    clear hm ht
    clear h hg hz hz0 hw he hp hP hin e1 hc2 hE1 hat kv0 bk0
    go_enter Tryz.func28, Tryz.ntmps28
    go_upto_region 1 with fail
    try rw [hv0]
    try rw [hkb]
    clear hv0
    go_wp2_with (first | (go_at_call 59; go_enter Tryz.func59, Tryz.ntmps59) | (go_at_call 74; go_enter Tryz.func74, Tryz.ntmps74))
    try simp only [List.cons_append, List.nil_append]
    refine wp_region_held_drew (S := fun v => v.cell? ⟨P.p, 1, none⟩ = some (.pointer (some ⟨P.r0, 0, none⟩)) ∧ v.cell? ⟨kb, 0, none⟩ = some (.int .i64 x)) (by kernel_rfl) (⟨(HC.out v0.drew (Ke.refl [P.r0] v0).drew).1, (HC.out v0.drew (Ke.refl [P.r0] v0).drew).2⟩) (fun hHeld => ?_)
    refine take_at (some 4) (i := 0) (v := ?_) rfl rfl (by kernel_rfl) (by kernel_rfl) (by kernel_rfl) (fun _ _ _ h => h) (Or.inl ⟨by kernel_rfl, ?_⟩) hHeld ?_
    rotate_left
    · intro wz hSw; go_simp; try (with_reducible rfl)
    try simp only [Act.put, List.setIfInBounds_toArray, List.set_cons_zero, List.set_cons_succ, List.getElem_toArray, List.getElem_cons_succ, List.getElem_cons_zero]
    refine take_at (some 5) (i := 1) (v := ?_) rfl rfl (by kernel_rfl) (by kernel_rfl) (by kernel_rfl) (fun _ _ _ h => h) (Or.inl ⟨by kernel_rfl, ?_⟩) hHeld ?_
    rotate_left
    · intro wz hSw; obtain ⟨k0, k1⟩ := hSw; go_simp; try (with_reducible rfl)
    try simp only [Act.put, List.setIfInBounds_toArray, List.set_cons_zero, List.set_cons_succ, List.getElem_toArray, List.getElem_cons_succ, List.getElem_cons_zero]
    refine take_at (some 6) (i := 2) (v := ?_) rfl rfl (by kernel_rfl) (by kernel_rfl) (by kernel_rfl) (fun _ _ _ h => h) (Or.inl ⟨by kernel_rfl, ?_⟩) hHeld ?_
    rotate_left
    · intro wz hSw; obtain ⟨k0, k1⟩ := hSw; go_simp; try (with_reducible rfl)
    try simp only [Act.put, List.setIfInBounds_toArray, List.set_cons_zero, List.set_cons_succ, List.getElem_toArray, List.getElem_cons_succ, List.getElem_cons_zero]
    refine take_at (some 7) (i := 3) (v := ?_) rfl rfl (by kernel_rfl) (by kernel_rfl) (by kernel_rfl) (fun _ _ _ h => h) (Or.inl ⟨by kernel_rfl, ?_⟩) hHeld ?_
    rotate_left
    · intro wz hSw; obtain ⟨k0, k1⟩ := hSw; go_simp; try (with_reducible rfl)
    try simp only [Act.put, List.setIfInBounds_toArray, List.set_cons_zero, List.set_cons_succ, List.getElem_toArray, List.getElem_cons_succ, List.getElem_cons_zero]
    refine take_at (some 8) (i := 4) (v := ?_) rfl rfl (by kernel_rfl) (by kernel_rfl) (by kernel_rfl) (fun _ _ _ h => h) (Or.inl ⟨by kernel_rfl, ?_⟩) hHeld ?_
    rotate_left
    · intro wz hSw; obtain ⟨k0, k1⟩ := hSw; go_simp; try (with_reducible rfl)
    try simp only [Act.put, List.setIfInBounds_toArray, List.set_cons_zero, List.set_cons_succ, List.getElem_toArray, List.getElem_cons_succ, List.getElem_cons_zero]
    refine wpAnyH_ready (rs := [5]) (by kernel_rfl) (by simp) (AllReadyH.cons rfl (fun K hK => ?_) AllReadyH.nil)
    rw [if_pos (by kernel_rfl)]
    go_simp
    refine (HPE.out v0.drew (Ke.refl [] v0).drew).mono ?_
    rintro e w5 ⟨rfl, j1, j2, j3⟩
    try dsimp only
    refine hK.out _ _ (⟨(HC.out w5 ((Ke.refl [P.r0] v0).drew.trans j3)).1, (HC.out w5 ((Ke.refl [P.r0] v0).drew.trans j3)).2⟩) (fun hHeld => ?_)
    try simp only [Act.put, List.setIfInBounds_toArray, List.set_cons_zero, List.set_cons_succ, List.getElem_toArray, List.getElem_cons_succ, List.getElem_cons_zero]
    have J := Lib.hid (show Bk w5 v0.heap.size 5 (bcells (c.q.take n)) ∧ Rg w5 P.r0 P.g0 512 (c.q.drop n) ∧ Ke [P.r0] v0 w5 from ⟨j1, j2, (Ke.refl [P.r0] v0).drew.trans j3⟩)
    clear j1 j2 j3
    refine take_at (some 3) (i := 6) (v := ?_) rfl rfl (by kernel_rfl) (by kernel_rfl) (by kernel_rfl) (fun _ _ _ h => h) (Or.inl ⟨by kernel_rfl, ?_⟩) hHeld ?_
    rotate_left
    · intro wz hSw; go_simp; try (with_reducible rfl)
    try simp only [Act.put, List.setIfInBounds_toArray, List.set_cons_zero, List.set_cons_succ, List.getElem_toArray, List.getElem_cons_succ, List.getElem_cons_zero]
    refine wpAnyH_done (by kernel_rfl) ?_ _
    clear hHeld
    go_wp2_with fail
    go_ret
    have kk : Ke P.bs u w5 := HKV.out.nil.trans (Pl.ka (.inr (.inr (.inl rfl))) J.out.2.2)
    rw [← HPP.out] at kk
    have hpe := HPA.out.ringA (J.out.2.2.more (L' := [P.r0, P.g0]) (by simp)) J.out.2.1
    rw [← HPP.out, ← HCD.out.2.1] at hpe
    obtain ⟨z1, z2⟩ := HZ.out.one HT.out HE.out kk (fun x hx => hx) hpe
    have hfs := Fs.bk (B := v0.heap.size) (l := c.q.take n) (t := n) J.out.1 (Nat.le_refl _) (by rw [← HCD.out.1]; exact HN.out) (by have := HCD.out.2.2; omega)
    rw [← HCD.out.1] at hfs
    exact ⟨_, _, rfl, hfs.low HKV.out.size, z1, z2⟩
end
end Go.Proofs.YtndamiocmdnenaaGreat
