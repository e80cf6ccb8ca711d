/- The program's table: what only asks: their contracts. (Written by gen_cnz.py.) -/
import Derived.Test.YtndamiocmdnenaaGreatG5
import Derived.BigQuiet
namespace Go.Proofs.YtndamiocmdnenaaGreat
set_option linter.unusedVariables false
set_option maxRecDepth 100000
set_option linter.unusedSimpArgs false
open Go.RowKit

section
variable {W u u' : World} {H H' : List Nat} {tb : Nat} {t : Tc}
set_option maxRecDepth 100000 in
set_option maxHeartbeats 2000000 in
theorem c_came (h : Zc W u H tb t) (i : Int) (r : Nat) (hE : caC t i = r) (hw : WfN i := by first | exact (by decide) | exact (Hid.out (by assumption))) :
    Calls Tryz.prog 36 #[.pointer (some ⟨tb, 0, none⟩), .int .i64 i] u fun e u' => e = .returned (.int .i64 (r : Int)) ∧ Below u.heap.size u u' := by
  obtain ⟨mb, pl, hz⟩ := h.ex
  have c0 : u.cell? ⟨tb, 0, none⟩ = some (.map (some mb)) := hz.tk.cell 0
  cases he : t.f i with
  | none =>
    have hr : r = 0 := by rw [← hE]; unfold caC; rw [he]
    subst hr
    have hlk : (Instr.lookup 49 (.map (some mb)) (.int .i64 i) true).run Tryz.prog u = .ok (.tuple #[.pointer none, .bool false]) u := hz.mp.miss kinC hw (hz.miss he)
    clear h hz hE hw he
    go_enter Tryz.func36, Tryz.ntmps36
    go_wp2_with (go_at_call 48; go_enter Tryz.func48, Tryz.ntmps48)
    go_ret
    exact ⟨rfl, Below.refl _ _⟩
  | some c =>
    have hp := hz.at_ _ (hz.hit he).1
    obtain ⟨P, hP⟩ : ∃ P, pl i = P := ⟨_, rfl⟩
    have hlk : (Instr.lookup 49 (.map (some mb)) (.int .i64 i) true).run Tryz.prog u = .ok (.tuple #[.pointer (some ⟨P.p, 0, none⟩), .bool true]) u := by rw [← hP]; exact hz.mp.hit kinC (hz.hit he).2
    rw [hP] at hp
    unfold caC at hE
    rw [he] at hE
    have hE : c.q.length = r := hE
    have HM := many_ok P.r0 P.g0 512 c.q u hp.a
    rw [hE] at HM
    have HMM := Lib.hid HM
    have d1 : u.cell? ⟨P.p, 1, none⟩ = some (.pointer (some ⟨P.r0, 0, none⟩)) := hp.bk.cell 1
    clear HM hE
    clear h hz hw he hp hP
    go_enter Tryz.func36, Tryz.ntmps36
    go_wp2_with (first | (go_at_call 48; go_enter Tryz.func48, Tryz.ntmps48) | (go_at_call 76; go_enter Tryz.func76, Tryz.ntmps76) | (go_at_call 77; (with_reducible refine HMM.out.mono ?_); rintro e w3 ⟨rfl, hw⟩; rw [hw]; clear hw))
    go_ret
    exact ⟨rfl, Below.refl _ _⟩
set_option maxRecDepth 100000 in
set_option maxHeartbeats 2000000 in
theorem c_waits (h : Zc W u H tb t) (i : Int) (r : Nat) (hE : waC t i = r) (hw : WfN i := by first | exact (by decide) | exact (Hid.out (by assumption))) :
    Calls Tryz.prog 38 #[.pointer (some ⟨tb, 0, none⟩), .int .i64 i] u fun e u' => e = .returned (.int .i64 (r : Int)) ∧ Below u.heap.size u u' := by
  obtain ⟨mb, pl, hz⟩ := h.ex
  have c0 : u.cell? ⟨tb, 0, none⟩ = some (.map (some mb)) := hz.tk.cell 0
  cases he : t.f i with
  | none =>
    have hr : r = 0 := by rw [← hE]; unfold waC; rw [he]
    subst hr
    have hlk : (Instr.lookup 49 (.map (some mb)) (.int .i64 i) true).run Tryz.prog u = .ok (.tuple #[.pointer none, .bool false]) u := hz.mp.miss kinC hw (hz.miss he)
    clear h hz hE hw he
    go_enter Tryz.func38, Tryz.ntmps38
    go_wp2_with (go_at_call 48; go_enter Tryz.func48, Tryz.ntmps48)
    go_ret
    exact ⟨rfl, Below.refl _ _⟩
  | some c =>
    have hp := hz.at_ _ (hz.hit he).1
    obtain ⟨P, hP⟩ : ∃ P, pl i = P := ⟨_, rfl⟩
    have hlk : (Instr.lookup 49 (.map (some mb)) (.int .i64 i) true).run Tryz.prog u = .ok (.tuple #[.pointer (some ⟨P.p, 0, none⟩), .bool true]) u := by rw [← hP]; exact hz.mp.hit kinC (hz.hit he).2
    rw [hP] at hp
    unfold waC at hE
    rw [he] at hE
    have hE : c.w.length = r := hE
    have HM := many_ok P.r1 P.g1 1024 c.w u hp.b
    rw [hE] at HM
    have HMM := Lib.hid HM
    have d1 : u.cell? ⟨P.p, 2, none⟩ = some (.pointer (some ⟨P.r1, 0, none⟩)) := hp.bk.cell 2
    clear HM hE
    clear h hz hw he hp hP
    go_enter Tryz.func38, Tryz.ntmps38
    go_wp2_with (first | (go_at_call 48; go_enter Tryz.func48, Tryz.ntmps48) | (go_at_call 78; go_enter Tryz.func78, Tryz.ntmps78) | (go_at_call 77; (with_reducible refine HMM.out.mono ?_); rintro e w3 ⟨rfl, hw⟩; rw [hw]; clear hw))
    go_ret
    exact ⟨rfl, Below.refl _ _⟩
set_option maxRecDepth 100000 in
set_option maxHeartbeats 2000000 in
theorem c_room (h : Zc W u H tb t) (i : Int) (r : Nat) (hE : roC t i = r) (hw : WfN i := by first | exact (by decide) | exact (Hid.out (by assumption))) :
    Calls Tryz.prog 40 #[.pointer (some ⟨tb, 0, none⟩), .int .i64 i] u fun e u' => e = .returned (.int .i64 (r : Int)) ∧ Below u.heap.size u u' := by
  obtain ⟨mb, pl, hz⟩ := h.ex
  have c0 : u.cell? ⟨tb, 0, none⟩ = some (.map (some mb)) := hz.tk.cell 0
  cases he : t.f i with
  | none =>
    have hr : r = 0 := by rw [← hE]; unfold roC; rw [he]
    subst hr
    have hlk : (Instr.lookup 49 (.map (some mb)) (.int .i64 i) true).run Tryz.prog u = .ok (.tuple #[.pointer none, .bool false]) u := hz.mp.miss kinC hw (hz.miss he)
    clear h hz hE hw he
    go_enter Tryz.func40, Tryz.ntmps40
    go_wp2_with (go_at_call 48; go_enter Tryz.func48, Tryz.ntmps48)
    go_ret
    exact ⟨rfl, Below.refl _ _⟩
  | some c =>
    have hp := hz.at_ _ (hz.hit he).1
    obtain ⟨P, hP⟩ : ∃ P, pl i = P := ⟨_, rfl⟩
    have hlk : (Instr.lookup 49 (.map (some mb)) (.int .i64 i) true).run Tryz.prog u = .ok (.tuple #[.pointer (some ⟨P.p, 0, none⟩), .bool true]) u := by rw [← hP]; exact hz.mp.hit kinC (hz.hit he).2
    rw [hP] at hp
    unfold roC at hE
    rw [he] at hE
    have hE : 1024 - c.w.length = r := hE
    have HM := room_ok P.r1 P.g1 1024 c.w u hp.b
    rw [hE] at HM
    have HMM := Lib.hid HM
    have d1 : u.cell? ⟨P.p, 2, none⟩ = some (.pointer (some ⟨P.r1, 0, none⟩)) := hp.bk.cell 2
    clear HM hE
    clear h hz hw he hp hP
    go_enter Tryz.func40, Tryz.ntmps40
    go_wp2_with (first | (go_at_call 48; go_enter Tryz.func48, Tryz.ntmps48) | (go_at_call 79; go_enter Tryz.func79, Tryz.ntmps79) | (go_at_call 80; (with_reducible refine HMM.out.mono ?_); rintro e w3 ⟨rfl, hw⟩; have K3 := Lib.hid hw; clear hw))
    go_ret
    exact ⟨rfl, K3.out.below (Nat.le_refl _) (by simp)⟩
set_option maxRecDepth 100000 in
set_option maxHeartbeats 2000000 in
theorem c_credit (h : Zc W u H tb t) (i : Int) (r : Nat) (hE : crC t i = r) (hw : WfN i := by first | exact (by decide) | exact (Hid.out (by assumption))) :
    Calls Tryz.prog 42 #[.pointer (some ⟨tb, 0, none⟩), .int .i64 i] u fun e u' => e = .returned (.int .i64 (r : Int)) ∧ Below u.heap.size u u' := by
  obtain ⟨mb, pl, hz⟩ := h.ex
  have c0 : u.cell? ⟨tb, 0, none⟩ = some (.map (some mb)) := hz.tk.cell 0
  cases he : t.f i with
  | none =>
    have hr : r = 0 := by rw [← hE]; unfold crC; rw [he]
    subst hr
    have hlk : (Instr.lookup 49 (.map (some mb)) (.int .i64 i) true).run Tryz.prog u = .ok (.tuple #[.pointer none, .bool false]) u := hz.mp.miss kinC hw (hz.miss he)
    clear h hz hE hw he
    go_enter Tryz.func42, Tryz.ntmps42
    go_wp2_with (go_at_call 48; go_enter Tryz.func48, Tryz.ntmps48)
    go_ret
    exact ⟨rfl, Below.refl _ _⟩
  | some c =>
    have hp := hz.at_ _ (hz.hit he).1
    obtain ⟨P, hP⟩ : ∃ P, pl i = P := ⟨_, rfl⟩
    have hlk : (Instr.lookup 49 (.map (some mb)) (.int .i64 i) true).run Tryz.prog u = .ok (.tuple #[.pointer (some ⟨P.p, 0, none⟩), .bool true]) u := by rw [← hP]; exact hz.mp.hit kinC (hz.hit he).2
    rw [hP] at hp
    unfold crC at hE
    rw [he] at hE
    have hE : c.cr = r := hE
    have d1 : u.cell? ⟨P.p, 3, none⟩ = some (.int .i64 (c.cr : Int)) := hp.bk.cell 3
    rw [hE] at d1
    clear hE
    clear h hz hw he hp hP
    go_enter Tryz.func42, Tryz.ntmps42
    go_wp2_with (first | (go_at_call 48; go_enter Tryz.func48, Tryz.ntmps48) | (go_at_call 81; go_enter Tryz.func81, Tryz.ntmps81))
    go_ret
    exact ⟨rfl, Below.refl _ _⟩
set_option maxRecDepth 100000 in
set_option maxHeartbeats 2000000 in
theorem c_addr (h : Zc W u H tb t) (i : Int) (r : Int) (hE : adC t i = r) (hw : WfN i := by first | exact (by decide) | exact (Hid.out (by assumption))) :
    Calls Tryz.prog 22 #[.pointer (some ⟨tb, 0, none⟩), .int .i64 i] u fun e u' => e = .returned (.int .u32 r) ∧ Below u.heap.size u u' := by
  obtain ⟨mb, pl, hz⟩ := h.ex
  have c0 : u.cell? ⟨tb, 0, none⟩ = some (.map (some mb)) := hz.tk.cell 0
  cases he : t.f i with
  | none =>
    have hr : r = 0 := by rw [← hE]; unfold adC; rw [he]
    subst hr
    have hlk : (Instr.lookup 49 (.map (some mb)) (.int .i64 i) true).run Tryz.prog u = .ok (.tuple #[.pointer none, .bool false]) u := hz.mp.miss kinC hw (hz.miss he)
    clear h hz hE hw he
    go_enter Tryz.func22, Tryz.ntmps22
    go_wp2_with (go_at_call 66; go_enter Tryz.func66, Tryz.ntmps66)
    go_ret
    exact ⟨rfl, Below.refl _ _⟩
  | some c =>
    have hp := hz.at_ _ (hz.hit he).1
    obtain ⟨P, hP⟩ : ∃ P, pl i = P := ⟨_, rfl⟩
    have hlk : (Instr.lookup 49 (.map (some mb)) (.int .i64 i) true).run Tryz.prog u = .ok (.tuple #[.pointer (some ⟨P.p, 0, none⟩), .bool true]) u := by rw [← hP]; exact hz.mp.hit kinC (hz.hit he).2
    rw [hP] at hp
    unfold adC at hE
    rw [he] at hE
    have hE : c.ad = r := hE
    have d1 : u.cell? ⟨P.p, 0, none⟩ = some (.int .u32 c.ad) := hp.bk.cell 0
    rw [hE] at d1
    clear hE
    clear h hz hw he hp hP
    go_enter Tryz.func22, Tryz.ntmps22
    go_wp2_with (first | (go_at_call 66; go_enter Tryz.func66, Tryz.ntmps66) | (go_at_call 67; go_enter Tryz.func67, Tryz.ntmps67))
    go_ret
    exact ⟨rfl, Below.refl _ _⟩
set_option maxRecDepth 100000 in
set_option maxHeartbeats 2000000 in
theorem c_ended (h : Zc W u H tb t) (i : Int) (r : Bool) (hE : enC t i = r) (hw : WfN i := by first | exact (by decide) | exact (Hid.out (by assumption))) :
    Calls Tryz.prog 21 #[.pointer (some ⟨tb, 0, none⟩), .int .i64 i] u fun e u' => e = .returned (.bool r) ∧ Below u.heap.size u u' := by
  obtain ⟨mb, pl, hz⟩ := h.ex
  have c0 : u.cell? ⟨tb, 0, none⟩ = some (.map (some mb)) := hz.tk.cell 0
  cases he : t.f i with
  | none =>
    have hr : r = false := by rw [← hE]; unfold enC; rw [he]
    subst hr
    have hlk : (Instr.lookup 49 (.map (some mb)) (.int .i64 i) true).run Tryz.prog u = .ok (.tuple #[.pointer none, .bool false]) u := hz.mp.miss kinC hw (hz.miss he)
    clear h hz hE hw he
    go_enter Tryz.func21, Tryz.ntmps21
    go_wp2_with (go_at_call 54; go_enter Tryz.func54, Tryz.ntmps54)
    go_ret
    exact ⟨rfl, Below.refl _ _⟩
  | some c =>
    have hp := hz.at_ _ (hz.hit he).1
    obtain ⟨P, hP⟩ : ∃ P, pl i = P := ⟨_, rfl⟩
    have hlk : (Instr.lookup 49 (.map (some mb)) (.int .i64 i) true).run Tryz.prog u = .ok (.tuple #[.pointer (some ⟨P.p, 0, none⟩), .bool true]) u := by rw [← hP]; exact hz.mp.hit kinC (hz.hit he).2
    rw [hP] at hp
    unfold enC at hE
    rw [he] at hE
    have hE : c.en = r := hE
    have d1 : u.cell? ⟨P.p, 4, none⟩ = some (.bool c.en) := hp.bk.cell 4
    rw [hE] at d1
    clear hE
    clear h hz hw he hp hP
    go_enter Tryz.func21, Tryz.ntmps21
    go_wp2_with (first | (go_at_call 54; go_enter Tryz.func54, Tryz.ntmps54) | (go_at_call 65; go_enter Tryz.func65, Tryz.ntmps65))
    go_ret
    exact ⟨rfl, Below.refl _ _⟩
set_option maxRecDepth 100000 in
set_option maxHeartbeats 2000000 in
theorem c_has (h : Zc W u H tb t) (i : Int) (r : Bool) (hE : hsC t i = r) (hw : WfN i := by first | exact (by decide) | exact (Hid.out (by assumption))) :
    Calls Tryz.prog 23 #[.pointer (some ⟨tb, 0, none⟩), .int .i64 i] u fun e u' => e = .returned (.bool r) ∧ Below u.heap.size u u' := by
  obtain ⟨mb, pl, hz⟩ := h.ex
  have c0 : u.cell? ⟨tb, 0, none⟩ = some (.map (some mb)) := hz.tk.cell 0
  cases he : t.f i with
  | none =>
    have hr : r = false := by rw [← hE]; unfold hsC; rw [he]; rfl
    subst hr
    have hlk : (Instr.lookup 49 (.map (some mb)) (.int .i64 i) true).run Tryz.prog u = .ok (.tuple #[.pointer none, .bool false]) u := hz.mp.miss kinC hw (hz.miss he)
    clear h hz hE hw he
    go_enter Tryz.func23, Tryz.ntmps23
    go_wp2_with (go_at_call 54; go_enter Tryz.func54, Tryz.ntmps54)
    go_ret
    exact ⟨rfl, Below.refl _ _⟩
  | some c =>
    have hp := hz.at_ _ (hz.hit he).1
    obtain ⟨P, hP⟩ : ∃ P, pl i = P := ⟨_, rfl⟩
    have hlk : (Instr.lookup 49 (.map (some mb)) (.int .i64 i) true).run Tryz.prog u = .ok (.tuple #[.pointer (some ⟨P.p, 0, none⟩), .bool true]) u := by rw [← hP]; exact hz.mp.hit kinC (hz.hit he).2
    rw [hP] at hp
    unfold hsC at hE
    rw [he] at hE
    have hE : true = r := hE
    subst hE
    clear h hz hw he hp hP
    go_enter Tryz.func23, Tryz.ntmps23
    go_wp2_with (first | (go_at_call 54; go_enter Tryz.func54, Tryz.ntmps54) | (go_at_call 68; go_enter Tryz.func68, Tryz.ntmps68))
    go_ret
    exact ⟨rfl, Below.refl _ _⟩
end
end Go.Proofs.YtndamiocmdnenaaGreat
