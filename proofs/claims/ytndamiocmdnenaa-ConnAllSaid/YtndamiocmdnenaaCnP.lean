/- One connection of the program's: contracts of peer's methods. (Written by gen_cnp.py.) -/
import Derived.Test.YtndamiocmdnenaaCnZ
import Derived.Test.YtndamiocmdnenaaFr2
import Derived.Test.YtndamiocmdnenaaRegion
namespace Go.Proofs.Ytndamiocmdnenaa
set_option linter.unusedVariables false
set_option maxRecDepth 100000
set_option linter.unusedSimpArgs false
open Go.RowKit

def fe1 (c : Cn) (B : List UInt8) : Nat × Cn := if c.en = true then (0, c) else (min B.length (512 - c.q.length), { c with q := c.q ++ B.take (512 - c.q.length) })
def ne1 (c : Cn) : (List UInt8 × Bool × Int) × Cn := if begB c.q = false then (([], false, 61), c) else if lenF c.q = 0 then (([], false, 0), c) else ((partF c.q, true, 0), { c with q := c.q.drop (lenF c.q) })
def re1 (c : Cn) (n : Int) : List UInt8 × Cn := (c.q.take (takeM n c.q.length), { c with q := c.q.drop (takeM n c.q.length) })
def sa1 (c : Cn) (B : List UInt8) : Bool × Cn := if 1024 - c.w.length < B.length then (false, c) else (true, { c with w := c.w ++ B })
def bu1 (c : Cn) (n : Int) : Bool × Cn := if n < 0 ∨ 1073741824 < n then (false, c) else (true, { c with cr := min (c.cr + n.toNat) 1073741824 })
def fl1 (c : Cn) : List UInt8 × Cn := (c.w.take c.cr, { c with w := c.w.drop c.cr, cr := c.cr - c.w.length })
def ha1 (c : Cn) : Bool × Cn := if c.en = true then (false, c) else (true, { c with en := true })
theorem Fs.ke {u u' : World} {B : Nat} {H L : List Nat} {A : Option Addr} {t c : Nat} {l : List UInt8} (h : Fs u B H A t c l) (k : Ke L u u') (hL : ∀ x ∈ L, x < B) : Fs u' B H A t c l := by
  refine ⟨h.len, h.cap, h.max, h.nil_, ?_⟩
  rcases h.rb with h0 | ⟨g, o, e, h1, h2, h3, h4⟩
  · exact .inl h0
  · exact .inr ⟨g, o, e, h1, h2, Nat.lt_of_lt_of_le h3 k.size, fun i hi => (World.cell?_of_block (w := u) (a := ⟨g, o + i, none⟩) (k.block g h3 (fun hx => by have := hL g hx; omega))).trans (h4 i hi)⟩
theorem Fs.low {u : World} {B B' : Nat} {H : List Nat} {A : Option Addr} {t c : Nat} {l : List UInt8} (h : Fs u B H A t c l) (hB : B' ≤ B) : Fs u B' H A t c l := by
  refine ⟨h.len, h.cap, h.max, h.nil_, ?_⟩
  rcases h.rb with h0 | ⟨g, o, e, h1, h2⟩
  · exact .inl h0
  · exact .inr ⟨g, o, e, Nat.le_trans hB h1, h2⟩
theorem Fs.nil (u : World) (B : Nat) (H : List Nat) : Fs u B H none 0 0 [] := ⟨rfl, Nat.le_refl _, by omega, fun _ => ⟨rfl, rfl⟩, .inl rfl⟩
theorem Fs.bk {u : World} {B : Nat} {g : Nat} {ty : TypeId} {l : List UInt8} {t : Nat} (h : Bk u g ty (bcells l)) (hB : B ≤ g) (ht : l.length = t) (hm : t ≤ 9223372036854775807) : Fs u B [] (some ⟨g, 0, none⟩) t t l :=
  ⟨ht, Nat.le_refl _, hm, (fun e => by cases e), .inr ⟨g, 0, rfl, hB, (fun e => by cases e), h.lt, fun i hi => by rw [h.cell, Nat.zero_add, bcells_at l i hi]⟩⟩
theorem OB.fs {u : World} {B : Nat} {e : TypeId} {A : Option Addr} {c t : Nat} {l : List UInt8} (h : OB u B e A c l) (hn : A = none → c = 0) (ht : l.length = t) : Fs u B [] A t c l := by
  obtain ⟨h1, h2⟩ := h.cap
  subst ht
  refine ⟨rfl, h1, h2, fun e => ?_, ?_⟩
  · have := hn e
    omega
  · by_cases h0 : l = []
    · exact .inl h0
    · obtain ⟨g, hA, hB, hl⟩ := h.form h0
      rcases h.rb with h3 | ⟨b, o, eA, hb, hc⟩
      · exact .inl h3
      · rw [hA] at eA
        injection eA with eA
        injection eA with e1 e2
        subst e1; subst e2
        exact .inr ⟨g, 0, hA, hB, (fun e => by cases e), hl, hc⟩
section
variable {u u' : World} {P : Pl} {c : Cn}
theorem Pe.ringA (h : Pe u P c) {q' : List UInt8} (k : Ke [P.r0, P.g0] u u') (r : Rg u' P.r0 P.g0 512 q') : Pe u' P { c with q := q' } := by
  have D := dp_of h.nd
  exact ⟨h.bk.ke k (by simp only [List.mem_cons, List.not_mem_nil, or_false, not_or]; exact ⟨D.a, D.b⟩), r, h.b.ke k (by simp only [List.mem_cons, List.not_mem_nil, or_false, not_or]; exact ⟨D.f.symm, D.h.symm⟩) (by simp only [List.mem_cons, List.not_mem_nil, or_false, not_or]; exact ⟨D.g.symm, D.i.symm⟩), h.nd⟩
theorem Pe.ringB (h : Pe u P c) {q' : List UInt8} (k : Ke [P.r1, P.g1] u u') (r : Rg u' P.r1 P.g1 1024 q') : Pe u' P { c with w := q' } := by
  have D := dp_of h.nd
  exact ⟨h.bk.ke k (by simp only [List.mem_cons, List.not_mem_nil, or_false, not_or]; exact ⟨D.c, D.d⟩), h.a.ke k (by simp only [List.mem_cons, List.not_mem_nil, or_false, not_or]; exact ⟨D.f, D.g⟩) (by simp only [List.mem_cons, List.not_mem_nil, or_false, not_or]; exact ⟨D.h, D.i⟩), r, h.nd⟩
theorem Pe.set_ (h : Pe u P c) {c' : Cn} (j : Nat) (v : Value) (hq : c'.q = c.q) (hw : c'.w = c.w) (hv : (pecells P c).setIfInBounds j v = pecells P c') : Pe (u.setCell ⟨P.p, j, none⟩ v) P c' := by
  have D := dp_of h.nd
  have k : Ke [P.p] u (u.setCell ⟨P.p, j, none⟩ v) := (Ke.refl [P.p] u).set (p := ⟨P.p, j, none⟩) (by simp) _
  refine ⟨hv ▸ h.bk.set j v, hq ▸ h.a.ke k (by simpa using D.a.symm) (by simpa using D.b.symm), hw ▸ h.b.ke k (by simpa using D.c.symm) (by simpa using D.d.symm), h.nd⟩
theorem Pe.cred (h : Pe u P c) (n : Nat) : Pe (u.setCell ⟨P.p, 3, none⟩ (.int .i64 (n : Int))) P { c with cr := n } := h.set_ 3 _ rfl rfl rfl
theorem Pe.end_ (h : Pe u P c) : Pe (u.setCell ⟨P.p, 4, none⟩ (.bool true)) P { c with en := true } := h.set_ 4 _ rfl rfl rfl
theorem Pl.kp (P : Pl) (u : World) (j : Nat) (v : Value) : Ke P.bs u (u.setCell ⟨P.p, j, none⟩ v) := (Ke.refl P.bs u).set (p := ⟨P.p, j, none⟩) (by simp [Pl.bs]) _
theorem Pl.ka {L : List Nat} (h : L = [P.r0, P.g0] ∨ L = [P.r1, P.g1] ∨ L = [P.r0] ∨ L = [P.r1] ∨ L = []) (k : Ke L u u') : Ke P.bs u u' := k.more (fun x hx => by
  rcases h with rfl | rfl | rfl | rfl | rfl <;> simp only [List.mem_cons, List.not_mem_nil, or_false] at hx <;> simp only [Pl.bs, List.mem_cons, List.not_mem_nil, or_false]
  · rcases hx with rfl | rfl <;> simp
  · rcases hx with rfl | rfl <;> simp
  · simp [hx]
  · simp [hx])
set_option maxRecDepth 100000 in
set_option maxHeartbeats 2000000 in
theorem pe_feed (h : Pe u P c) (A : Option Addr) (n cp : Nat) (l : List UInt8) (hl : l.length = n) (hc : n ≤ cp) (hcm : cp ≤ 9223372036854775807) (hR : Rf u P.bs A l) (r : Nat) (c2 : Cn) (hE : fe1 c l = (r, c2)) :
    Calls Try.prog 60 #[.pointer (some ⟨P.p, 0, none⟩), .slice A n cp] u fun e u' => e = .returned (.int .i64 (r : Int)) ∧ Pe u' P c2 ∧ Ke P.bs u u' := by
  have HP := Lib.hid h
  have d1 : u.cell? ⟨P.p, 1, none⟩ = some (.pointer (some ⟨P.r0, 0, none⟩)) := h.bk.cell 1
  have d4 : u.cell? ⟨P.p, 4, none⟩ = some (.bool c.en) := h.bk.cell 4
  have HA := Lib.hid (add_ok P.r0 P.g0 512 A n cp l c.q u h.a hl hc hcm (hR.less (by simp [Pl.bs])))
  obtain ⟨en, hen⟩ : ∃ en, c.en = en := ⟨_, rfl⟩
  have hen2 := hen
  unfold fe1 at hE
  rw [hen] at d4 hE
  have HE := Lib.hid hE
  have HL := Lib.hid hl
  clear h hl hc hcm hR hen hE
  cases en with
  | true =>
    have e1 := HE.out
    injection e1 with e1 e2
    subst e1; subst e2
    clear hen2
    go_enter Try.func60, Try.ntmps60
    go_wp2_with fail
    go_ret
    exact ⟨rfl, HP.out, Ke.refl _ _⟩
  | false =>
    obtain ⟨x, hx⟩ : ∃ x, min n (512 - c.q.length) = x := ⟨_, rfl⟩
    rw [hx] at HA
    have HX := Lib.hid hx
    clear hx
    have HEN := Lib.hid (show c.en = false from hen2)
    clear hen2
    go_enter Try.func60, Try.ntmps60
    go_wp2_with (go_at_call 73; (with_reducible refine HA.out.mono ?_); rintro e u3 ⟨rfl, j1, j2⟩; have R3 := Lib.hid (And.intro j1 j2); clear j1 j2)
    go_ret
    have e1 := HE.out
    rw [if_neg (by simp)] at e1
    injection e1 with e1 e2
    rw [HL.out, HX.out] at e1
    subst e1; subst e2
    have hf := HP.out.ringA R3.out.2 R3.out.1
    rw [HEN.out] at hf
    exact ⟨rfl, hf, Pl.ka (.inl rfl) R3.out.2⟩
set_option maxRecDepth 100000 in
set_option maxHeartbeats 2000000 in
theorem pe_say (h : Pe u P c) (A : Option Addr) (n cp : Nat) (l : List UInt8) (hl : l.length = n) (hc : n ≤ cp) (hcm : cp ≤ 9223372036854775807) (hR : Rf u P.bs A l) (r : Bool) (c2 : Cn) (hE : sa1 c l = (r, c2)) :
    Calls Try.prog 56 #[.pointer (some ⟨P.p, 0, none⟩), .slice A n cp] u fun e u' => e = .returned (.bool r) ∧ Pe u' P c2 ∧ Ke P.bs u u' := by
  have HP := Lib.hid h
  have d2 : u.cell? ⟨P.p, 2, none⟩ = some (.pointer (some ⟨P.r1, 0, none⟩)) := h.bk.cell 2
  have HRM := Lib.hid (room_ok P.r1 P.g1 1024 c.w u h.b)
  have HA := Lib.hid (fun u1 (k : Ke [] u u1) => add_ok P.r1 P.g1 1024 A n cp l c.w u1 (h.b.ke k (by simp) (by simp)) hl hc hcm ((hR.ke k (by simp)).less (by simp [Pl.bs])))
  have D2 := Lib.hid (fun u1 (k : Ke [] u u1) => (h.bk.ke k (by simp)).cell 2)
  obtain ⟨x, hx⟩ : ∃ x, 1024 - c.w.length = x := ⟨_, rfl⟩
  unfold sa1 at hE
  rw [hx, hl] at hE
  rw [hx] at HRM HA
  have HE := Lib.hid hE
  have HX := Lib.hid hx
  have HL := Lib.hid hl
  clear h hl hc hcm hR hE hx
  by_cases hxn : x < n
  · have h1 : (x : Int) < (n : Int) := by omega
    have HN := Lib.hid hxn
    clear hxn HA
    go_enter Try.func56, Try.ntmps56
    go_wp2_with (go_at_call 54; (with_reducible refine HRM.out.mono ?_); rintro e u3 ⟨rfl, j1⟩; have K3 := Lib.hid j1; clear j1)
    go_ret
    have e1 := HE.out
    rw [if_pos HN.out] at e1
    injection e1 with e1 e2
    subst e1; subst e2
    exact ⟨rfl, HP.out.ke K3.out (by simp), K3.out.nil⟩
  · have h1 : ¬ (x : Int) < (n : Int) := by omega
    have HN := Lib.hid hxn
    clear hxn
    obtain ⟨y, hy⟩ : ∃ y, min n x = y := ⟨_, rfl⟩
    rw [hy] at HA
    go_enter Try.func56, Try.ntmps56
    go_wp2_with (first | (go_at_call 54; (with_reducible refine HRM.out.mono ?_); rintro e u3 ⟨rfl, j1⟩; have K3 := Lib.hid j1; have d3 : u3.cell? ⟨P.p, 2, none⟩ = some (.pointer (some ⟨P.r1, 0, none⟩)) := D2.out u3 K3.out; clear j1) | (go_at_call 73; (with_reducible refine (HA.out _ K3.out).mono ?_); rintro e u4 ⟨rfl, j1, j2⟩; have R4 := Lib.hid (And.intro j1 j2); clear j1 j2))
    go_ret
    have e1 := HE.out
    rw [if_neg HN.out] at e1
    injection e1 with e1 e2
    subst e1; subst e2
    have r4 := R4.out.1
    rw [List.take_of_length_le (by have h2 := HL.out; have h3 := HN.out; omega)] at r4
    exact ⟨rfl, (HP.out.ke K3.out (by simp)).ringB R4.out.2 r4, K3.out.nil.trans (Pl.ka (.inr (.inl rfl)) R4.out.2)⟩
set_option maxRecDepth 100000 in
set_option maxHeartbeats 2000000 in
theorem pe_half (h : Pe u P c) (r : Bool) (c2 : Cn) (hE : ha1 c = (r, c2)) :
    Calls Try.prog 66 #[.pointer (some ⟨P.p, 0, none⟩)] u fun e u' => e = .returned (.bool r) ∧ Pe u' P c2 ∧ Ke P.bs u u' := by
  have HP := Lib.hid h
  have d4 : u.cell? ⟨P.p, 4, none⟩ = some (.bool c.en) := h.bk.cell 4
  have f4 := h.bk.frozen 4
  obtain ⟨en, hen⟩ : ∃ en, c.en = en := ⟨_, rfl⟩
  unfold ha1 at hE
  rw [hen] at d4 hE
  have HE := Lib.hid hE
  clear h hen hE
  cases en with
  | true =>
    have e1 := HE.out
    injection e1 with e1 e2
    subst e1; subst e2
    go_enter Try.func66, Try.ntmps66
    go_wp2_with fail
    go_ret
    exact ⟨rfl, HP.out, Ke.refl _ _⟩
  | false =>
    have e1 := HE.out
    rw [if_neg (by simp)] at e1
    injection e1 with e1 e2
    subst e1; subst e2
    have HF := Lib.hid (And.intro HP.out.end_ (P.kp u 4 (.bool true)))
    go_enter Try.func66, Try.ntmps66
    go_wp2_with fail
    go_ret
    exact ⟨rfl, HF.out⟩
set_option maxRecDepth 100000 in
set_option maxHeartbeats 2000000 in
theorem pe_budget (h : Pe u P c) (hcr : c.cr ≤ 1073741824) (n : Int) (r : Bool) (c2 : Cn) (hE : bu1 c n = (r, c2)) :
    Calls Try.prog 58 #[.pointer (some ⟨P.p, 0, none⟩), .int .i64 n] u fun e u' => e = .returned (.bool r) ∧ Pe u' P c2 ∧ Ke P.bs u u' := by
  have HP := Lib.hid h
  obtain ⟨k, hk⟩ : ∃ k, c.cr = k := ⟨_, rfl⟩
  have d3 : u.cell? ⟨P.p, 3, none⟩ = some (.int .i64 (c.cr : Int)) := h.bk.cell 3
  have f3 := h.bk.frozen 3
  unfold bu1 at hE
  rw [hk] at d3 hE hcr
  have HE := Lib.hid hE
  clear h hE hk
  by_cases h0 : n < 0
  · have e1 := HE.out
    rw [if_pos (.inl h0)] at e1
    injection e1 with e1 e2
    subst e1; subst e2
    have h1 : decide (n < 0) = true := decide_eq_true h0
    clear h0
    go_enter Try.func58, Try.ntmps58
    go_wp2_with fail
    go_ret
    exact ⟨rfl, HP.out, Ke.refl _ _⟩
  · have h1 : decide (n < 0) = false := decide_eq_false h0
    by_cases h2 : 1073741824 < n
    · have e1 := HE.out
      rw [if_pos (.inr h2)] at e1
      injection e1 with e1 e2
      subst e1; subst e2
      have h3 : decide (1073741824 < n) = true := decide_eq_true h2
      clear h0 h2
      go_enter Try.func58, Try.ntmps58
      go_wp2_with fail
      go_ret
      exact ⟨rfl, HP.out, Ke.refl _ _⟩
    · have e1 := HE.out
      rw [if_neg (by omega)] at e1
      injection e1 with e1 e2
      subst e1; subst e2
      have h3 : decide (1073741824 < n) = false := decide_eq_false h2
      obtain ⟨m, rfl⟩ : ∃ m : Nat, n = (m : Int) := ⟨n.toNat, by omega⟩
      obtain ⟨z, hz⟩ : ∃ z, min (k + m) 1073741824 = z := ⟨_, rfl⟩
      obtain ⟨y, hy⟩ : ∃ y, min m (1073741824 - k) = y := ⟨_, rfl⟩
      obtain ⟨x, hx⟩ : ∃ x, 1073741824 - k = x := ⟨_, rfl⟩
      have hmin := Lib.hid (show min (m : Int) (x : Int) = (y : Int) by omega)
      have hw1 := (iwrap ((1073741824 : Int) - (k : Int)) x (by omega) (by omega)).1
      obtain ⟨hw2, hw2b⟩ := iwrap ((k : Int) + (y : Int)) z (by omega) (by omega)
      have HF := Lib.hid (And.intro ((HP.out.cred z).ke (Ke.refl [] _).drew (by simp)) ((P.kp u 3 (.int .i64 (z : Int))).trans (Ke.refl P.bs _).drew))
      have e5 : min (k + (m : Int).toNat) 1073741824 = z := by rw [← hz]; rfl
      rw [e5]
      have HC := Lib.hid d3
      have HFZ := Lib.hid f3
      clear hz hy hx h0 h2 e5 HE hcr
      go_enter Try.func58, Try.ntmps58
      go_upto_region 3 with fail
      go_region
      all_goals
        go_wp2_with fail
        go_ret
        rw [hmin.out]
        first | rw [hw2] | rw [hw2b]
        exact ⟨rfl, HF.out⟩
set_option maxRecDepth 100000 in
set_option maxHeartbeats 2000000 in
theorem pe_flush (h : Pe u P c) (hcr : c.cr ≤ 1073741824) (l : List UInt8) (c2 : Cn) (hE : fl1 c = (l, c2)) (n : Nat) (hn : l.length = n) :
    Calls Try.prog 42 #[.pointer (some ⟨P.p, 0, none⟩)] u fun e u' => ∃ A cp, e = .returned (.slice A n cp) ∧ Fs u' u.heap.size [] A n cp l ∧ Pe u' P c2 ∧ Ke P.bs u u' := by
  have HP := Lib.hid h
  obtain ⟨k, hk⟩ : ∃ k, c.cr = k := ⟨_, rfl⟩
  obtain ⟨m, hm⟩ : ∃ m, c.w.length = m := ⟨_, rfl⟩
  have hm1 : m ≤ 1024 := by rw [← hm]; exact h.b.fit
  unfold fl1 at hE
  rw [hk, hm] at hE
  injection hE with e1 e2
  subst e1; subst e2
  rw [List.length_take, hm] at hn
  have hmn : min k m = n := hn
  have HT := Lib.hid (fun v (kv : Ke [] u v) => take_ok P.r1 P.g1 1024 (k : Int) c.w v (h.b.ke kv (by simp) (by simp)))
  have ht : takeM (k : Int) m = n := by unfold takeM; omega
  simp only [hm, ht] at HT
  have hd : c.w.drop n = c.w.drop k := by
    by_cases hkm : k ≤ m
    · rw [show n = k by omega]
    · rw [List.drop_of_length_le (by omega), List.drop_of_length_le (by omega)]
  have htk : c.w.take n = c.w.take k := by
    by_cases hkm : k ≤ m
    · rw [show n = k by omega]
    · rw [List.take_of_length_le (by omega), List.take_of_length_le (by omega)]
  rw [hd, htk] at HT
  have HL := Lib.hid (show (c.w.take k).length = n ∧ n ≤ 1024 ∧ k - m = k - n from ⟨by rw [List.length_take, hm]; exact hmn, by omega, by omega⟩)
  have hw1 := (iwrap ((k : Int) - (n : Int)) (k - n) (by omega) (by omega)).1
  obtain ⟨z, hz⟩ : ∃ z, k - n = z := ⟨_, rfl⟩
  rw [hz] at hw1 HL
  rw [HL.out.2.2]
  have hB := h.bk
  have HC := Lib.hid (fun v (kv : Ke [P.r1] u v) => And.intro ((h.bk.ke kv (by simpa using (dp_of h.nd).c)).cell 2) (And.intro ((h.bk.ke kv (by simpa using (dp_of h.nd).c)).cell 3) ((h.bk.ke kv (by simpa using (dp_of h.nd).c)).frozen 3)))
  have HLT := Lib.hid h.lt
  have HK := Lib.hid hk
  clear h hm hk hm1 hn hmn ht hd htk hz hB hcr
  go_enter Try.func42, Try.ntmps42
  go_upto_region 1 with fail
  try simp only [List.cons_append, List.nil_append]
  refine wp_region_held_drew (S := fun v => v.cell? ⟨P.p, 2, none⟩ = some (.pointer (some ⟨P.r1, 0, none⟩)) ∧ v.cell? ⟨P.p, 3, none⟩ = some (.int .i64 (k : Int))) (by kernel_rfl) ((⟨(HC.out u.drew (Ke.refl [P.r1] u).drew).1, by rw [← HK.out]; exact (HC.out u.drew (Ke.refl [P.r1] u).drew).2.1⟩)) (fun hHeld => ?_)
  refine take_at (some 4) (i := 0) (v := ?_) rfl rfl (by kernel_rfl) (by kernel_rfl) (by kernel_rfl) (fun _ _ _ h => h) (Or.inl ⟨by kernel_rfl, ?_⟩) hHeld ?_
  rotate_left
  · intro wz hSw; go_simp; try (with_reducible rfl)
  try simp only [Act.put, List.setIfInBounds_toArray, List.set_cons_zero, List.set_cons_succ, List.getElem_toArray, List.getElem_cons_succ, List.getElem_cons_zero]
  refine take_at (some 5) (i := 1) (v := ?_) rfl rfl (by kernel_rfl) (by kernel_rfl) (by kernel_rfl) (fun _ _ _ h => h) (Or.inl ⟨by kernel_rfl, ?_⟩) hHeld ?_
  rotate_left
  · intro wz hSw; obtain ⟨k0, k1⟩ := hSw; go_simp; try (with_reducible rfl)
  try simp only [Act.put, List.setIfInBounds_toArray, List.set_cons_zero, List.set_cons_succ, List.getElem_toArray, List.getElem_cons_succ, List.getElem_cons_zero]
  refine take_at (some 6) (i := 2) (v := ?_) rfl rfl (by kernel_rfl) (by kernel_rfl) (by kernel_rfl) (fun _ _ _ h => h) (Or.inl ⟨by kernel_rfl, ?_⟩) hHeld ?_
  rotate_left
  · intro wz hSw; obtain ⟨k0, k1⟩ := hSw; go_simp; try (with_reducible rfl)
  try simp only [Act.put, List.setIfInBounds_toArray, List.set_cons_zero, List.set_cons_succ, List.getElem_toArray, List.getElem_cons_succ, List.getElem_cons_zero]
  refine take_at (some 7) (i := 3) (v := ?_) rfl rfl (by kernel_rfl) (by kernel_rfl) (by kernel_rfl) (fun _ _ _ h => h) (Or.inl ⟨by kernel_rfl, ?_⟩) hHeld ?_
  rotate_left
  · intro wz hSw; obtain ⟨k0, k1⟩ := hSw; go_simp; try (with_reducible rfl)
  try simp only [Act.put, List.setIfInBounds_toArray, List.set_cons_zero, List.set_cons_succ, List.getElem_toArray, List.getElem_cons_succ, List.getElem_cons_zero]
  refine take_at (some 8) (i := 4) (v := ?_) rfl rfl (by kernel_rfl) (by kernel_rfl) (by kernel_rfl) (fun _ _ _ h => h) (Or.inl ⟨by kernel_rfl, ?_⟩) hHeld ?_
  rotate_left
  · intro wz hSw; go_simp; try (with_reducible rfl)
  try simp only [Act.put, List.setIfInBounds_toArray, List.set_cons_zero, List.set_cons_succ, List.getElem_toArray, List.getElem_cons_succ, List.getElem_cons_zero]
  refine take_at (some 9) (i := 5) (v := ?_) rfl rfl (by kernel_rfl) (by kernel_rfl) (by kernel_rfl) (fun _ _ _ h => h) (Or.inl ⟨by kernel_rfl, ?_⟩) hHeld ?_
  rotate_left
  · intro wz hSw; obtain ⟨k0, k1⟩ := hSw; go_simp; try (with_reducible rfl)
  try simp only [Act.put, List.setIfInBounds_toArray, List.set_cons_zero, List.set_cons_succ, List.getElem_toArray, List.getElem_cons_succ, List.getElem_cons_zero]
  refine take_at (some 10) (i := 6) (v := ?_) rfl rfl (by kernel_rfl) (by kernel_rfl) (by kernel_rfl) (fun _ _ _ h => h) (Or.inl ⟨by kernel_rfl, ?_⟩) hHeld ?_
  rotate_left
  · intro wz hSw; obtain ⟨k0, k1⟩ := hSw; go_simp; try (with_reducible rfl)
  try simp only [Act.put, List.setIfInBounds_toArray, List.set_cons_zero, List.set_cons_succ, List.getElem_toArray, List.getElem_cons_succ, List.getElem_cons_zero]
  refine take_at (some 11) (i := 7) (v := ?_) rfl rfl (by kernel_rfl) (by kernel_rfl) (by kernel_rfl) (fun _ _ _ h => h) (Or.inl ⟨by kernel_rfl, ?_⟩) hHeld ?_
  rotate_left
  · intro wz hSw; obtain ⟨k0, k1⟩ := hSw; go_simp; try (with_reducible rfl)
  try simp only [Act.put, List.setIfInBounds_toArray, List.set_cons_zero, List.set_cons_succ, List.getElem_toArray, List.getElem_cons_succ, List.getElem_cons_zero]
  refine wpAnyH_ready (rs := [8]) (by kernel_rfl) (by simp) (AllReadyH.cons rfl (fun K hK => ?_) AllReadyH.nil)
  rw [if_pos (by kernel_rfl)]
  go_simp
  refine (HT.out u.drew (Ke.refl [] u).drew).mono ?_
  rintro e v1 ⟨rfl, j1, j2, j3⟩
  try dsimp only
  refine hK.out _ _ (⟨(HC.out v1 ((Ke.refl [P.r1] u).drew.trans j3)).1, by rw [← HK.out]; exact (HC.out v1 ((Ke.refl [P.r1] u).drew.trans j3)).2.1⟩) (fun hHeld => ?_)
  try simp only [Act.put, List.setIfInBounds_toArray, List.set_cons_zero, List.set_cons_succ, List.getElem_toArray, List.getElem_cons_succ, List.getElem_cons_zero]
  have J := Lib.hid (show Bk v1 u.heap.size 5 (bcells (c.w.take k)) ∧ Rg v1 P.r1 P.g1 1024 (c.w.drop k) ∧ Ke [P.r1] u v1 from ⟨j1, j2, (Ke.refl [P.r1] u).drew.trans j3⟩)
  clear j1 j2 j3
  refine take_at (some 3) (i := 9) (v := ?_) rfl rfl (by kernel_rfl) (by kernel_rfl) (by kernel_rfl) (fun _ _ _ h => h) (Or.inl ⟨by kernel_rfl, ?_⟩) hHeld ?_
  rotate_left
  · intro wz hSw; go_simp; try (with_reducible rfl)
  try simp only [Act.put, List.setIfInBounds_toArray, List.set_cons_zero, List.set_cons_succ, List.getElem_toArray, List.getElem_cons_succ, List.getElem_cons_zero]
  refine wpAnyH_done (by kernel_rfl) ?_ _
  clear hHeld
  obtain ⟨s, hs⟩ : ∃ s, u.heap.size = s := ⟨_, rfl⟩
  have g3 := (HC.out v1 J.out.2.2).2.2
  have c3 : v1.cell? ⟨P.p, 3, none⟩ = some (.int .i64 (k : Int)) := by rw [← HK.out]; exact (HC.out v1 J.out.2.2).2.1
  clear HC
  go_wp2_with fail
  go_ret
  have hp := HP.out.ringB (q' := c.w.drop k) (J.out.2.2.more (L' := [P.r1, P.g1]) (by simp)) J.out.2.1
  have kk : Ke P.bs u (v1.setCell ⟨P.p, 3, none⟩ (.int .i64 (z : Int))) := (Pl.ka (.inr (.inr (.inr (.inl rfl)))) J.out.2.2).trans (P.kp v1 3 _)
  have hfs := (Fs.bk (B := u.heap.size) J.out.1 (Nat.le_refl _) HL.out.1 (by have := HL.out.2.1; omega)).ke ((Ke.refl [P.p] v1).set (p := ⟨P.p, 3, none⟩) (by simp) (.int .i64 (z : Int))) (fun x hx => by rw [List.mem_singleton.1 hx]; exact HLT.out _ (by simp [Pl.bs]))
  exact ⟨_, _, rfl, hfs, hp.cred z, kk⟩
end
end Go.Proofs.Ytndamiocmdnenaa
