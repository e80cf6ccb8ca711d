/- config: rightTenant, Right: their contracts. (Written by gen_cg1.py.) -/
import Derived.Test.YtekobdmlgbffnaaGreatDoorCg1
namespace Go.Proofs.YtekobdmlgbffnaaGreatDoor
set_option linter.unusedVariables false
set_option maxRecDepth 100000
set_option linter.unusedSimpArgs false
open Go.RowKit

/-- A block made for itself, all below being as it was. -/
structure Bx (w : World) (g : Nat) (t : TypeId) (cs : Array Value) (u : World) : Prop where
  b : Bk u g t cs
  l : Below w.heap.size w u
theorem Bx.on {w u u' : World} {g : Nat} {t : TypeId} {cs : Array Value} (h : Bx w g t cs u) (hb : Below u.heap.size u u') : Bx w g t cs u' := ⟨h.b.below hb h.b.lt, h.l.trans (hb.mono h.l.size)⟩
theorem Bx.cell {w u : World} {g : Nat} {t : TypeId} {cs : Array Value} (h : Bx w g t cs u) (i : Nat) : u.cell? ⟨g, i, none⟩ = cs[i]? := h.b.cell i
theorem Bx.new (w : World) (t : TypeId) (cs : Array Value) : Bx w w.heap.size t cs (w.alloc (.cells cs t)) := ⟨Bk.new _ _ _, (Below.refl _ _).alloc (Nat.le_refl _) _⟩

set_option maxRecDepth 100000 in
set_option maxHeartbeats 8000000 in
theorem rten_ok (x : Tv) (w : World) (h : RT1 w x) : Calls Tryz.prog 46 #[.agg (tcs x)] w fun e w' => e = .returned (.bool (tenB x.t)) ∧ Below w.heap.size w w' := by
  obtain ⟨⟨nm, a, b, nl, kl⟩, An, cn, Ak, ck⟩ := x
  show Calls Tryz.prog 46 #[.agg #[.string nm, .int .i64 a, .int .i64 b, .slice An nl.length cn, .slice Ak kl.length ck]] w _
  obtain ⟨x1, x2, x3, x4, x5, x6, x7⟩ := h
  dsimp only at x1 x2 x3 x4 x5 x6 x7
  have g1 := x3.cap
  have g2 := x3.max
  have g3 := x4.cap
  have g4 := x4.max
  obtain ⟨v, hv⟩ : ∃ v, tenB ⟨nm, a, b, nl, kl⟩ = v := ⟨_, rfl⟩
  rw [hv]
  have hi1 : decide (nl.length ≤ 4) = decide ((nl.length : Int) ≤ 4) := by apply decide_eq_decide.2; omega
  have hi2 : decide (kl.length ≤ 4) = decide ((kl.length : Int) ≤ 4) := by apply decide_eq_decide.2; omega
  simp only [tenB, hi1, hi2] at hv
  obtain ⟨n, hn⟩ : ∃ n, nl.length = n := ⟨_, rfl⟩
  obtain ⟨m, hm⟩ : ∃ m, kl.length = m := ⟨_, rfl⟩
  have HB0 := Lib.hid (Bx.new w 33 #[.string nm, .int .i64 a, .int .i64 b, .slice An n cn, .slice Ak m ck])
  have HQ1 := Lib.hid (fun u => quota_ok a u)
  have HQ2 := Lib.hid (fun u => quota_ok b u)
  have HA1 := Lib.hid (fun u (hu : Bx w w.heap.size 33 #[.string nm, .int .i64 a, .int .i64 b, .slice An n cn, .slice Ak m ck] u) => (allN_ok An nl n cn u (x1.on hu.l) x5 hn (by omega)).mono (R' := fun e u' => e = .returned (.bool (nl.all netB)) ∧ Bx w w.heap.size 33 #[.string nm, .int .i64 a, .int .i64 b, .slice An n cn, .slice Ak m ck] u') fun e u' hh => ⟨hh.1, hu.on hh.2⟩)
  have HR1 := Lib.hid (fun u (hu : Bx w w.heap.size 33 #[.string nm, .int .i64 a, .int .i64 b, .slice An n cn, .slice Ak m ck] u) => (risK_ok Ak kl m ck u (x2.on hu.l) (fun y hy => (x7 y hy).1) hm (by omega)).mono (R' := fun e u' => e = .returned (.bool (rise ByteArray.empty (kl.map fun x => x.name))) ∧ Bx w w.heap.size 33 #[.string nm, .int .i64 a, .int .i64 b, .slice An n cn, .slice Ak m ck] u') fun e u' hh => ⟨hh.1, hu.on hh.2⟩)
  have HA2 := Lib.hid (fun u (hu : Bx w w.heap.size 33 #[.string nm, .int .i64 a, .int .i64 b, .slice An n cn, .slice Ak m ck] u) => (allK_ok Ak kl m ck u (x2.on hu.l) hm (by omega)).mono (R' := fun e u' => e = .returned (.bool (kl.all tokB)) ∧ Bx w w.heap.size 33 #[.string nm, .int .i64 a, .int .i64 b, .slice An n cn, .slice Ak m ck] u') fun e u' hh => ⟨hh.1, hu.on hh.2⟩)
  rw [hn, hm] at hv ⊢
  clear hn hm hi1 hi2 x1 x2 x3 x4 x5 x6 x7 g1 g3
  cases h1 : quoB a with
  | false =>
    rw [h1] at HQ1
    have e : v = false := by rw [← hv]; simp [h1]
    subst e
    clear hv
    go_enter Tryz.func46, Tryz.ntmps46
    go_wp2_with (first | (go_at_call 81; first | (refine (HQ1.out _).mono ?_; rintro e uq ⟨rfl, rfl⟩) | (refine (HQ2.out _).mono ?_; rintro e uq ⟨rfl, rfl⟩)) | (go_at_call 82; refine (HA1.out _ HB0.out).mono ?_; rintro e u1 ⟨rfl, hb⟩; have d4 : u1.cell? ⟨w.heap.size, 4, none⟩ = some (.slice Ak m ck) := hb.cell 4; have HB1 := Lib.hid hb; clear hb) | (go_at_call 84; refine (HR1.out _ HB1.out).mono ?_; rintro e u2 ⟨rfl, hb⟩; have e4 : u2.cell? ⟨w.heap.size, 4, none⟩ = some (.slice Ak m ck) := hb.cell 4; have HB2 := Lib.hid hb; clear hb) | (go_at_call 85; refine (HA2.out _ HB2.out).mono ?_; rintro e u3 ⟨rfl, hb⟩; have HB3 := Lib.hid hb; clear hb))
    go_ret
    exact ⟨rfl, by first | exact HB3.out.l | exact HB2.out.l | exact HB1.out.l | exact HB0.out.l⟩
  | true =>
    rw [h1] at HQ1
    cases h2 : quoB b with
    | false =>
      rw [h2] at HQ2
      have e : v = false := by rw [← hv]; simp [h1, h2]
      subst e
      clear hv
      go_enter Tryz.func46, Tryz.ntmps46
      go_wp2_with (first | (go_at_call 81; first | (refine (HQ1.out _).mono ?_; rintro e uq ⟨rfl, rfl⟩) | (refine (HQ2.out _).mono ?_; rintro e uq ⟨rfl, rfl⟩)) | (go_at_call 82; refine (HA1.out _ HB0.out).mono ?_; rintro e u1 ⟨rfl, hb⟩; have d4 : u1.cell? ⟨w.heap.size, 4, none⟩ = some (.slice Ak m ck) := hb.cell 4; have HB1 := Lib.hid hb; clear hb) | (go_at_call 84; refine (HR1.out _ HB1.out).mono ?_; rintro e u2 ⟨rfl, hb⟩; have e4 : u2.cell? ⟨w.heap.size, 4, none⟩ = some (.slice Ak m ck) := hb.cell 4; have HB2 := Lib.hid hb; clear hb) | (go_at_call 85; refine (HA2.out _ HB2.out).mono ?_; rintro e u3 ⟨rfl, hb⟩; have HB3 := Lib.hid hb; clear hb))
      go_ret
      exact ⟨rfl, by first | exact HB3.out.l | exact HB2.out.l | exact HB1.out.l | exact HB0.out.l⟩
    | true =>
      rw [h2] at HQ2
      cases h3 : decide ((n : Int) ≤ 4) with
      | false =>
        have e : v = false := by rw [← hv]; simp [h1, h2, h3]
        subst e
        clear hv
        go_enter Tryz.func46, Tryz.ntmps46
        go_wp2_with (first | (go_at_call 81; first | (refine (HQ1.out _).mono ?_; rintro e uq ⟨rfl, rfl⟩) | (refine (HQ2.out _).mono ?_; rintro e uq ⟨rfl, rfl⟩)) | (go_at_call 82; refine (HA1.out _ HB0.out).mono ?_; rintro e u1 ⟨rfl, hb⟩; have d4 : u1.cell? ⟨w.heap.size, 4, none⟩ = some (.slice Ak m ck) := hb.cell 4; have HB1 := Lib.hid hb; clear hb) | (go_at_call 84; refine (HR1.out _ HB1.out).mono ?_; rintro e u2 ⟨rfl, hb⟩; have e4 : u2.cell? ⟨w.heap.size, 4, none⟩ = some (.slice Ak m ck) := hb.cell 4; have HB2 := Lib.hid hb; clear hb) | (go_at_call 85; refine (HA2.out _ HB2.out).mono ?_; rintro e u3 ⟨rfl, hb⟩; have HB3 := Lib.hid hb; clear hb))
        go_ret
        exact ⟨rfl, by first | exact HB3.out.l | exact HB2.out.l | exact HB1.out.l | exact HB0.out.l⟩
      | true =>
        cases h4 : nl.all netB with
        | false =>
          rw [h4] at HA1
          have e : v = false := by rw [← hv]; simp [h1, h2, h3, h4]
          subst e
          clear hv
          go_enter Tryz.func46, Tryz.ntmps46
          go_wp2_with (first | (go_at_call 81; first | (refine (HQ1.out _).mono ?_; rintro e uq ⟨rfl, rfl⟩) | (refine (HQ2.out _).mono ?_; rintro e uq ⟨rfl, rfl⟩)) | (go_at_call 82; refine (HA1.out _ HB0.out).mono ?_; rintro e u1 ⟨rfl, hb⟩; have d4 : u1.cell? ⟨w.heap.size, 4, none⟩ = some (.slice Ak m ck) := hb.cell 4; have HB1 := Lib.hid hb; clear hb) | (go_at_call 84; refine (HR1.out _ HB1.out).mono ?_; rintro e u2 ⟨rfl, hb⟩; have e4 : u2.cell? ⟨w.heap.size, 4, none⟩ = some (.slice Ak m ck) := hb.cell 4; have HB2 := Lib.hid hb; clear hb) | (go_at_call 85; refine (HA2.out _ HB2.out).mono ?_; rintro e u3 ⟨rfl, hb⟩; have HB3 := Lib.hid hb; clear hb))
          go_ret
          exact ⟨rfl, by first | exact HB3.out.l | exact HB2.out.l | exact HB1.out.l | exact HB0.out.l⟩
        | true =>
          rw [h4] at HA1
          cases h5 : decide ((m : Int) ≤ 4) with
          | false =>
            have e : v = false := by rw [← hv]; simp [h1, h2, h3, h4, h5]
            subst e
            clear hv
            go_enter Tryz.func46, Tryz.ntmps46
            go_wp2_with (first | (go_at_call 81; first | (refine (HQ1.out _).mono ?_; rintro e uq ⟨rfl, rfl⟩) | (refine (HQ2.out _).mono ?_; rintro e uq ⟨rfl, rfl⟩)) | (go_at_call 82; refine (HA1.out _ HB0.out).mono ?_; rintro e u1 ⟨rfl, hb⟩; have d4 : u1.cell? ⟨w.heap.size, 4, none⟩ = some (.slice Ak m ck) := hb.cell 4; have HB1 := Lib.hid hb; clear hb) | (go_at_call 84; refine (HR1.out _ HB1.out).mono ?_; rintro e u2 ⟨rfl, hb⟩; have e4 : u2.cell? ⟨w.heap.size, 4, none⟩ = some (.slice Ak m ck) := hb.cell 4; have HB2 := Lib.hid hb; clear hb) | (go_at_call 85; refine (HA2.out _ HB2.out).mono ?_; rintro e u3 ⟨rfl, hb⟩; have HB3 := Lib.hid hb; clear hb))
            go_ret
            exact ⟨rfl, by first | exact HB3.out.l | exact HB2.out.l | exact HB1.out.l | exact HB0.out.l⟩
          | true =>
            cases h6 : rise ByteArray.empty (kl.map fun x => x.name) with
            | false =>
              rw [h6] at HR1
              have e : v = false := by rw [← hv]; simp [h1, h2, h3, h4, h5, h6]
              subst e
              clear hv
              go_enter Tryz.func46, Tryz.ntmps46
              go_wp2_with (first | (go_at_call 81; first | (refine (HQ1.out _).mono ?_; rintro e uq ⟨rfl, rfl⟩) | (refine (HQ2.out _).mono ?_; rintro e uq ⟨rfl, rfl⟩)) | (go_at_call 82; refine (HA1.out _ HB0.out).mono ?_; rintro e u1 ⟨rfl, hb⟩; have d4 : u1.cell? ⟨w.heap.size, 4, none⟩ = some (.slice Ak m ck) := hb.cell 4; have HB1 := Lib.hid hb; clear hb) | (go_at_call 84; refine (HR1.out _ HB1.out).mono ?_; rintro e u2 ⟨rfl, hb⟩; have e4 : u2.cell? ⟨w.heap.size, 4, none⟩ = some (.slice Ak m ck) := hb.cell 4; have HB2 := Lib.hid hb; clear hb) | (go_at_call 85; refine (HA2.out _ HB2.out).mono ?_; rintro e u3 ⟨rfl, hb⟩; have HB3 := Lib.hid hb; clear hb))
              go_ret
              exact ⟨rfl, by first | exact HB3.out.l | exact HB2.out.l | exact HB1.out.l | exact HB0.out.l⟩
            | true =>
              rw [h6] at HR1
              cases h7 : kl.all tokB with
              | false =>
                rw [h7] at HA2
                have e : v = false := by rw [← hv]; simp [h1, h2, h3, h4, h5, h6, h7]
                subst e
                clear hv
                go_enter Tryz.func46, Tryz.ntmps46
                go_wp2_with (first | (go_at_call 81; first | (refine (HQ1.out _).mono ?_; rintro e uq ⟨rfl, rfl⟩) | (refine (HQ2.out _).mono ?_; rintro e uq ⟨rfl, rfl⟩)) | (go_at_call 82; refine (HA1.out _ HB0.out).mono ?_; rintro e u1 ⟨rfl, hb⟩; have d4 : u1.cell? ⟨w.heap.size, 4, none⟩ = some (.slice Ak m ck) := hb.cell 4; have HB1 := Lib.hid hb; clear hb) | (go_at_call 84; refine (HR1.out _ HB1.out).mono ?_; rintro e u2 ⟨rfl, hb⟩; have e4 : u2.cell? ⟨w.heap.size, 4, none⟩ = some (.slice Ak m ck) := hb.cell 4; have HB2 := Lib.hid hb; clear hb) | (go_at_call 85; refine (HA2.out _ HB2.out).mono ?_; rintro e u3 ⟨rfl, hb⟩; have HB3 := Lib.hid hb; clear hb))
                go_ret
                exact ⟨rfl, by first | exact HB3.out.l | exact HB2.out.l | exact HB1.out.l | exact HB0.out.l⟩
              | true =>
                rw [h7] at HA2
                have e : v = true := by rw [← hv]; simp [h1, h2, h3, h4, h5, h6, h7]
                subst e
                clear hv
                go_enter Tryz.func46, Tryz.ntmps46
                go_wp2_with (first | (go_at_call 81; first | (refine (HQ1.out _).mono ?_; rintro e uq ⟨rfl, rfl⟩) | (refine (HQ2.out _).mono ?_; rintro e uq ⟨rfl, rfl⟩)) | (go_at_call 82; refine (HA1.out _ HB0.out).mono ?_; rintro e u1 ⟨rfl, hb⟩; have d4 : u1.cell? ⟨w.heap.size, 4, none⟩ = some (.slice Ak m ck) := hb.cell 4; have HB1 := Lib.hid hb; clear hb) | (go_at_call 84; refine (HR1.out _ HB1.out).mono ?_; rintro e u2 ⟨rfl, hb⟩; have e4 : u2.cell? ⟨w.heap.size, 4, none⟩ = some (.slice Ak m ck) := hb.cell 4; have HB2 := Lib.hid hb; clear hb) | (go_at_call 85; refine (HA2.out _ HB2.out).mono ?_; rintro e u3 ⟨rfl, hb⟩; have HB3 := Lib.hid hb; clear hb))
                go_ret
                exact ⟨rfl, by first | exact HB3.out.l | exact HB2.out.l | exact HB1.out.l | exact HB0.out.l⟩

set_option maxRecDepth 100000 in
set_option maxHeartbeats 4000000 in
theorem allT_ok (A : Option Addr) (l : List Tv) (n c : Nat) (w : World) (h : RT w A l) (hn : l.length = n) (hf : n ≤ 9223372036854775807) :
    Calls Tryz.prog 45 #[.slice A n c, .func (.func 46) #[] #[]] w fun e w' => e = .returned (.bool (l.all fun x => tenB x.t)) ∧ Below w.heap.size w w' := by
  have HR := Lib.hid h
  have HN := Lib.hid hn
  obtain ⟨R, hR⟩ : ∃ R, l.all (fun x => tenB x.t) = R := ⟨_, rfl⟩
  rw [hR]
  have HA := Lib.hid hR
  clear h hn hR 
  go_enter Tryz.func45, Tryz.ntmps45
  go_wp2
  go_loopw [9] (fun v9 wr => ∃ (i : Nat), i ≤ n ∧ v9 = .int .i64 (i : Int) ∧ Hid (R = (l.drop i).all fun x => tenB x.t) ∧ Hid (Below w.heap.size w wr)) (fun v9 _ => n - (intOf v9).toNat)
  case atStart => exact ⟨0, by omega, rfl, Lib.hid (by rw [List.drop_zero]; exact HA.out.symm), Lib.hid (by go_grown)⟩
  case round =>
    obtain ⟨i, hi, rfl, HD, HB⟩ := hrel
    by_cases hi1 : i < n
    · have hi2 : (i : Int) < (n : Int) := by omega
      obtain ⟨b, o, x, rfl, hx, h1, hc⟩ := HR.out.at5 i (by rw [HN.out]; exact hi1)
      obtain ⟨c0, c1, c2, c3, c4⟩ := hc wr HB.out
      have HST := Lib.hid (show (l.drop i).all (fun x => tenB x.t) = ((tenB x.t) && (l.drop (i + 1)).all fun x => tenB x.t) by
        rw [List.drop_eq_getElem_cons (by rw [HN.out]; exact hi1), List.all_cons, (List.getElem?_eq_some_iff.1 hx).2])
      have HF := Lib.hid (fun u (hu : Below w.heap.size w u) => rten_ok x u (h1.on hu))
      clear h1
      obtain ⟨⟨xn, xa, xb, xl, xk⟩, An, cn, Ak, ck⟩ := x
      clear hc hx
      cases hp : tenB ⟨xn, xa, xb, xl, xk⟩ with
      | true =>
        rw [hp] at HST HF
        clear hp
        go_wp2_with (go_at_call 46; refine (HF.out _ (by have hbb := HB.out; exact hbb.alloc hbb.size _)).mono ?_; rintro e u2 ⟨rfl, hb2⟩; have HB2 := Lib.hid (show Below w.heap.size w u2 from (HB.out.alloc HB.out.size _).trans (hb2.mono (by rw [World.size_alloc]; have := HB.out.size; omega))); clear hb2)
        go_roundw
        case rel => exact ⟨i + 1, by omega, by go_num, Lib.hid (by rw [HD.out, HST.out, Bool.true_and]), HB2⟩
        case measure => simp [intOf]; omega
      | false =>
        rw [hp] at HST HF
        clear hp
        go_wp2_with (go_at_call 46; refine (HF.out _ (by have hbb := HB.out; exact hbb.alloc hbb.size _)).mono ?_; rintro e u2 ⟨rfl, hb2⟩; have HB2 := Lib.hid (show Below w.heap.size w u2 from (HB.out.alloc HB.out.size _).trans (hb2.mono (by rw [World.size_alloc]; have := HB.out.size; omega))); clear hb2)
        go_ret
        exact ⟨by rw [HD.out, HST.out]; rfl, HB2.out⟩
    · have hi2 : ¬ (i : Int) < (n : Int) := by omega
      go_wp2
      go_ret
      exact ⟨by rw [HD.out, List.drop_eq_nil_of_le (by rw [HN.out]; omega)]; rfl, HB.out⟩

end Go.Proofs.YtekobdmlgbffnaaGreatDoor
