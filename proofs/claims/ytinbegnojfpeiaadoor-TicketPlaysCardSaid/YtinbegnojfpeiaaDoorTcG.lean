/- What ticket's laws share: great, shown; rows of the law's own. -/
import Derived.Test.YtinbegnojfpeiaaDoorTk7
import Derived.Test.YtinbegnojfpeiaaDoorG16
import Derived.BigQuiet
namespace Go.Proofs.YtinbegnojfpeiaaDoor
set_option linter.unusedVariables false
set_option maxRecDepth 100000
set_option linter.unusedSimpArgs false
open Go.RowKit

/-- Is that too much? -/
def szT (o : To) : Nat := o.p.nm.size + o.p.ten.size + o.dr.size + o.tx.size + o.tn.size
def bgT (o : To) : Bool := decide (3000 < szT o)
def grT (l : List To) : Bool := (l.take 300).any bgT || decide (200 < l.length)
theorem grT_few {l : List To} (h : grT l = false) : l.length ≤ 200 := by
  unfold grT at h
  simp only [Bool.or_eq_false_iff, decide_eq_false_iff_not] at h
  omega
theorem grT_small {l : List To} (h : grT l = false) : ∀ o ∈ l, szT o ≤ 3000 := by
  have h1 := grT_few h
  unfold grT at h
  simp only [Bool.or_eq_false_iff] at h
  intro o ho
  have := List.any_eq_false.1 h.1 o (by rw [List.take_of_length_le (by omega)]; exact ho)
  unfold bgT at this
  simpa using this
set_option maxRecDepth 100000 in
set_option maxHeartbeats 4000000 in
theorem tgreat_ok (A : Option Addr) (l : List To) (c : Nat) (u : World) (h : InTk u A l c) : Calls Tryd.prog 12 #[.slice A l.length c] u fun e u' => e = .returned (.bool (grT l)) ∧ Below u.heap.size u u' := by
  have HI := Lib.hid h
  obtain ⟨R, hR⟩ : ∃ R, grT l = R := ⟨_, rfl⟩
  have HRR := Lib.hid hR
  rw [hR]
  obtain ⟨n, hn⟩ : ∃ n, l.length = n := ⟨_, rfl⟩
  have HN := Lib.hid hn
  have hnb : n ≤ 140737488355328 := by rw [← hn]; exact h.n
  rw [hn]
  clear h hn hR
  go_enter Tryd.func12, Tryd.ntmps12
  go_wp2_with fail
  go_loopw [3] (fun v3 wr => ∃ i : Nat, i ≤ n ∧ i ≤ 300 ∧ v3 = .int .i64 (i : Int) ∧ Hid (∀ y ∈ l.take i, bgT y = false) ∧ Hid (Below u.heap.size u wr)) (fun v3 _ => n - (intOf v3).toNat)
  case atStart => exact ⟨0, by omega, by omega, rfl, Lib.hid (fun y hy => by simp at hy), Lib.hid (Below.refl _ _)⟩
  case round =>
    obtain ⟨i, hi, hi4, rfl, H0, HB⟩ := hrel
    have HNO := Lib.hid (show (i = 300 ∨ i = n) → R = decide (200 < n) from fun hh => by
      rw [← HRR.out]
      unfold grT
      have e : l.take 300 = l.take i := by
        rcases hh with hh | hh
        · rw [hh]
        · rw [List.take_of_length_le (by rw [HN.out]; omega), List.take_of_length_le (by rw [HN.out]; omega)]
      have : (l.take 300).any bgT = false := by
        rw [e, List.any_eq_false]
        intro y hy
        rw [H0.out y hy]; simp
      rw [this, HN.out, Bool.false_or])
    by_cases hin : i < n ∧ i < 300
    · obtain ⟨hin1, hin2⟩ := hin
      have hi2 : (i : Int) < (n : Int) := by omega
      have hi3 : (i : Int) < 300 := by omega
      obtain ⟨b, o, x, rfl, hx, hsm, hc⟩ := HI.out.at9 i (by rw [HN.out]; exact hin1)
      have HC := Lib.hid hc
      have HXX := Lib.hid hx
      obtain ⟨xw, ⟨xv, xn, xt, xe⟩, xd, xa, xx, xg⟩ := x
      dsimp only at HC
      obtain ⟨m1, m2, m3, m4, m5⟩ := hsm
      dsimp only at m1 m2 m3 m4 m5
      obtain ⟨s, hs⟩ : ∃ s : Nat, xn.size + xt.size + xd.size + xx.size + xg.size = s := ⟨_, rfl⟩
      have HBG := Lib.hid (show bgT ⟨xw, ⟨xv, xn, xt, xe⟩, xd, xa, xx, xg⟩ = decide (3000 < s) by unfold bgT szT; dsimp only; rw [hs])
      obtain ⟨k1, hk1⟩ : ∃ k1 : Nat, xn.size + xt.size = k1 := ⟨_, rfl⟩
      obtain ⟨k2, hk2⟩ : ∃ k2 : Nat, k1 + xd.size = k2 := ⟨_, rfl⟩
      obtain ⟨k3, hk3⟩ : ∃ k3 : Nat, k2 + xx.size = k3 := ⟨_, rfl⟩
      have hk4 : k3 + xg.size = s := by omega
      have hw1 : IntKind.i64.wrap ((xn.size : Int) + (xt.size : Int)) = (k1 : Int) := (iwrap _ k1 (by omega) (by omega)).1
      have hw2 : IntKind.i64.wrap ((k1 : Int) + (xd.size : Int)) = (k2 : Int) := (iwrap _ k2 (by omega) (by omega)).1
      have hw3 : IntKind.i64.wrap ((k2 : Int) + (xx.size : Int)) = (k3 : Int) := (iwrap _ k3 (by omega) (by omega)).1
      have hw4 : IntKind.i64.wrap ((k3 : Int) + (xg.size : Int)) = (s : Int) := (iwrap _ s (by omega) (by omega)).1
      clear hc hx m1 m2 m3 m4 m5 hs hk1 hk2 hk3 hk4
      obtain ⟨c0, c1, c2, c3, c4, c5, c6, c7, c8⟩ := HC.out wr HB.out
      by_cases hgt : s > 3000
      · have hg2 : (s : Int) > 3000 := by omega
        have hg3 : decide ((3000 : Int) < (s : Int)) = true := decide_eq_true (by omega)
        have HG := Lib.hid (show R = true by
          rw [← HRR.out]
          unfold grT
          have : (l.take 300).any bgT = true := by
            rw [List.any_eq_true]
            exact ⟨_, List.mem_of_getElem? (by rw [List.getElem?_take_of_lt hin2]; exact HXX.out), by rw [HBG.out]; simpa using hgt⟩
          rw [this]; rfl)
        clear hgt
        go_wp2_with fail
        go_region
        go_wp2
        go_ret
        exact ⟨by rw [HG.out]; rfl, by first | exact HB.out | exact HB.out.trans ((below_dn _).mono HB.out.size)⟩
      · have hg2 : ¬ (s : Int) > 3000 := by omega
        have hg3 : decide ((3000 : Int) < (s : Int)) = false := decide_eq_false (by omega)
        have HG := Lib.hid (show bgT ⟨xw, ⟨xv, xn, xt, xe⟩, xd, xa, xx, xg⟩ = false by rw [HBG.out]; simpa using hgt)
        clear hgt
        go_wp2_with fail
        go_region
        go_wp2
        go_roundw
        case rel =>
          refine ⟨i + 1, by omega, by omega, by go_num, Lib.hid (fun y hy => ?_), by first | exact HB | exact Lib.hid (HB.out.trans ((below_dn _).mono HB.out.size))⟩
          rw [List.take_add_one, HXX.out, List.mem_append] at hy
          rcases hy with hy | hy
          · exact H0.out y hy
          · simp at hy; rw [hy]; exact HG.out
        case measure => simp [intOf]; omega
    · by_cases hin1 : i < n
      · have hi600 : i = 300 := by omega
        subst hi600
        have hi2 : ((300 : Nat) : Int) < (n : Int) := by omega
        have hi2b : (300 : Int) < (n : Int) := by omega
        have hg : (n : Int) > 200 := by omega
        have HF := Lib.hid (show R = true by rw [HNO.out (.inl rfl)]; exact decide_eq_true (by omega))
        go_wp2_with fail
        go_ret
        exact ⟨by rw [HF.out]; first | rfl | simp | (simp; omega), HB.out⟩
      · have hi2 : ¬ (i : Int) < (n : Int) := by omega
        have hi2b : decide ((i : Int) < (n : Int)) = false := decide_eq_false hi2
        have HF0 := Lib.hid (HNO.out (.inr (by omega)))
        by_cases hg : n > 200
        · have hg2 : (n : Int) > 200 := by omega
          have HF := Lib.hid (show R = true by rw [HF0.out]; exact decide_eq_true (by omega))
          go_wp2_with fail
          go_ret
          exact ⟨by rw [HF.out]; first | rfl | simp | (simp; omega), HB.out⟩
        · have hg2 : decide ((n : Int) > 200) = false := decide_eq_false (by omega)
          have hg3 : decide ((200 : Int) < (n : Int)) = false := decide_eq_false (by omega)
          have HF := Lib.hid (show R = false by rw [HF0.out]; exact decide_eq_false (by omega))
          go_wp2_with fail
          go_ret
          exact ⟨by rw [HF.out]; first | rfl | simp | (simp; omega), HB.out⟩
/-- The ticket that a Redeem shows. -/
def shS (o : To) (told : List ByteArray) : ByteArray := if 0 ≤ o.a ∧ o.a < (told.length : Int) then told.getD o.a.toNat ⟨#[]⟩ else o.tx
abbrev tsv (x : ByteArray) : Array Value := #[.string x]
set_option maxRecDepth 100000 in
set_option maxHeartbeats 1000000 in
theorem tshown_ok (o : To) (A : Option Addr) (told : List ByteArray) (n c : Nat) (u : World) (h : Rw 1 tsv u A told) (hn : told.length = n) (R : ByteArray) (hR : shS o told = R) : Calls Tryd.prog 14 #[.agg (toc o), .slice A n c] u fun e u' => e = .returned (.string R) ∧ Below u.heap.size u u' := by
  obtain ⟨ow, ⟨ov, on, ot, oe⟩, od, oa, ox, og⟩ := o
  have hb : Below u.heap.size u (u.alloc (.cells (toc ⟨ow, ⟨ov, on, ot, oe⟩, od, oa, ox, og⟩) 33)) := (Below.refl _ _).alloc (Nat.le_refl _) _
  have HB := Lib.hid hb
  by_cases h1 : 0 ≤ oa ∧ oa < (n : Int)
  · obtain ⟨j, hj⟩ := Int.eq_ofNat_of_zero_le h1.1
    subst hj
    have hjn : j < n := by omega
    obtain ⟨b, o, x, rfl, hx, hc⟩ := Rw.at_ h j (by rw [hn]; exact hjn)
    have c0 : (u.alloc (.cells (toc ⟨ow, ⟨ov, on, ot, oe⟩, od, (j : Int), ox, og⟩) 33)).cell? ⟨b, o + j, none⟩ = some (.string x) := by
      have := hc _ hb 0 (by omega)
      simpa using this
    have HR := Lib.hid (show R = x by
      rw [← hR]
      unfold shS
      dsimp only
      rw [if_pos (by rw [hn]; exact h1), Int.toNat_natCast, List.getD_eq_getElem?_getD, hx]; rfl)
    have h2 : (j : Int) < (n : Int) := h1.2
    have h3 : (j : Int) ≥ 0 := h1.1
    clear h hn hR hc hx hb h1
    simp only [toc] at c0 HB ⊢
    go_enter Tryd.func14, Tryd.ntmps14
    go_wp2
    go_ret
    exact ⟨by rw [HR.out]; rfl, HB.out⟩
  · have HR := Lib.hid (show R = ox by
      rw [← hR]
      unfold shS
      dsimp only
      rw [if_neg (by rw [hn]; exact h1)])
    clear h hn hR hb
    simp only [toc] at HB ⊢
    by_cases h2 : 0 ≤ oa
    · have h3 : ¬ oa < (n : Int) := fun h => h1 ⟨h2, h⟩
      have h4 : oa ≥ 0 := h2
      clear h1
      go_enter Tryd.func14, Tryd.ntmps14
      go_wp2
      go_ret
      exact ⟨by rw [HR.out]; rfl, HB.out⟩
    · have h4 : ¬ oa ≥ 0 := h2
      clear h1
      go_enter Tryd.func14, Tryd.ntmps14
      go_wp2
      go_ret
      exact ⟨by rw [HR.out]; rfl, HB.out⟩
end Go.Proofs.YtinbegnojfpeiaaDoor
