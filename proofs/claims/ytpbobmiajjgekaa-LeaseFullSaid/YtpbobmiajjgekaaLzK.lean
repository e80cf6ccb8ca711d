/- One name, claimed, let go, claimed anew: what comes of it. -/
import Derived.Test.YtpbobmiajjgekaaLzN
namespace Go.Proofs.Ytpbobmiajjgekaa
set_option linter.unusedVariables false
set_option maxRecDepth 100000
set_option linter.unusedSimpArgs false
open Go.RowKit

abbrev nAnn : ByteArray := ⟨#[97, 110, 110]⟩
abbrev nBob : ByteArray := ⟨#[98, 111, 98]⟩
abbrev nWeb : ByteArray := ⟨#[119, 101, 98]⟩
theorem nm_ann : nameB nAnn = true := by decide +kernel
theorem nm_bob : nameB nBob = true := by decide +kernel
theorem nm_web : nameB nWeb = true := by decide +kernel
theorem ab_ne : nmE nAnn nBob = false := by decide +kernel
theorem clk_nat (n : Nat) (h : n ≤ 100000) : clkB (n : Int) = true := by
  unfold clkB
  rw [decide_eq_true (show 0 ≤ (n : Int) by omega), decide_eq_true (show (n : Int) ≤ 1099511627776 by omega)]
  rfl
theorem tim_nat (n : Nat) (h1 : 1 ≤ n) (h : n ≤ 100000) : timB (n : Int) = true := by
  unfold timB
  rw [decide_eq_true (show 1 ≤ (n : Int) by omega), decide_eq_true (show (n : Int) ≤ 1073741824 by omega)]
  rfl
theorem kc_first (g : Int) (T : Nat) (h1 : 1 ≤ T) (h2 : T ≤ 256) : claimL g 1000 ⟨[], 1⟩ nAnn nWeb 1 0 (T : Int) = (⟨nWeb, nAnn, 1, 1, (T : Int), true⟩, 0, ⟨[⟨nWeb, nAnn, 1, 1, (T : Int), true⟩], 2⟩) := by
  unfold claimL
  rw [nm_ann, nm_web, show clkB 0 = true from by decide, tim_nat T h1 (by omega)]
  have e : (0 : Int) + min (T : Int) 1000 = (T : Int) := by omega
  simp [e, fnL, ptL]
theorem fn_one (y : Ls) (h : y.name = nWeb) : fnL nWeb [y] = some y := by
  unfold fnL
  rw [List.find?_cons, (nmE_iff _ _).2 h]
theorem pt_one (x y : Ls) (h : y.name = x.name) : ptL x [y] = [x] := by
  unfold ptL
  rw [if_pos ((nmE_iff _ _).2 h)]
theorem kc_own {T E : Nat} (h : E < T) (hE : E ≤ 100000) : ownL ⟨[⟨nWeb, nAnn, 1, 1, (T : Int), true⟩], 2⟩ nAnn nWeb 1 (E : Int) = (⟨nWeb, nAnn, 1, 1, (T : Int), true⟩, 0) := by
  unfold ownL
  rw [clk_nat E hE, if_neg (by simp), hold_of (fn_one _ rfl)]
  have hh : heL ⟨nWeb, nAnn, 1, 1, (T : Int), true⟩ (E : Int) = true := by unfold heL; simp; omega
  rw [if_pos hh]
  dsimp only
  rw [(nmE_iff nAnn nAnn).2 rfl, if_neg (by simp), if_pos rfl]
theorem kc_release (g : Int) {T E : Nat} (h : E < T) (hE : E ≤ 100000) : releaseL g ⟨[⟨nWeb, nAnn, 1, 1, (T : Int), true⟩], 2⟩ nAnn nWeb 1 (E : Int) = (0, ⟨[⟨nWeb, nAnn, 1, 1, (E : Int) + g, false⟩], 2⟩) := by
  unfold releaseL
  rw [kc_own h hE, if_pos rfl]
  dsimp only
  rw [pt_one (⟨nWeb, nAnn, 1, 1, (E : Int) + g, false⟩ : Ls) (⟨nWeb, nAnn, 1, 1, (T : Int), true⟩ : Ls) rfl]
theorem kc_leave (g : Int) {T E : Nat} (h : E < T) (hE : E ≤ 100000) : leaveL g ⟨[⟨nWeb, nAnn, 1, 1, (T : Int), true⟩], 2⟩ 1 (E : Int) = ([⟨nWeb, nAnn, 1, 1, (T : Int), true⟩], ⟨[⟨nWeb, nAnn, 1, 1, (E : Int) + g, false⟩], 2⟩) := by
  rw [leave_parts (clk_nat E hE)]
  have hh : (decide (((⟨nWeb, nAnn, 1, 1, (T : Int), true⟩ : Ls)).conn = 1) && heL ⟨nWeb, nAnn, 1, 1, (T : Int), true⟩ (E : Int)) = true := by unfold heL; simp; omega
  have e1 : [(⟨nWeb, nAnn, 1, 1, (T : Int), true⟩ : Ls)].filter (fun x => decide (x.conn = 1) && heL x (E : Int)) = [⟨nWeb, nAnn, 1, 1, (T : Int), true⟩] := by
    rw [List.filter_cons, if_pos hh]; rfl
  have e2 : [(⟨nWeb, nAnn, 1, 1, (T : Int), true⟩ : Ls)].map (lvX g 1 (E : Int)) = [⟨nWeb, nAnn, 1, 1, (E : Int) + g, false⟩] := by
    rw [List.map_cons]
    unfold lvX
    rw [if_pos hh]
    rfl
  rw [e1, e2]
theorem kc_lapse (g : Int) (hg : 1 ≤ g) {T : Nat} (hT : T ≤ 100000) : lapseL g ⟨[⟨nWeb, nAnn, 1, 1, (T : Int), true⟩], 2⟩ (T : Int) = ([⟨nWeb, nAnn, 1, 1, (T : Int), true⟩], ⟨[⟨nWeb, nAnn, 1, 1, (T : Int) + g, false⟩], 2⟩) := by
  unfold lapseL
  rw [clk_nat T hT, if_neg (by simp)]
  have e2 : lpX g (T : Int) ⟨nWeb, nAnn, 1, 1, (T : Int), true⟩ = ⟨nWeb, nAnn, 1, 1, (T : Int) + g, false⟩ := by
    unfold lpX
    rw [if_pos (by simp)]
  have e3 : (heL ⟨nWeb, nAnn, 1, 1, (T : Int) + g, false⟩ (T : Int) || kpL g ⟨nWeb, nAnn, 1, 1, (T : Int) + g, false⟩ (T : Int)) = true := by
    unfold heL kpL
    simp
    omega
  simp only [List.map_cons, List.map_nil, e2]
  rw [List.filter_cons, if_pos (by simp), List.filter_cons, if_pos e3]
  rfl
/-- Claimed anew. -/
theorem kc_again (g : Int) (y : Ls) (who : ByteArray) (N : Nat) (hN : N ≤ 100000) (hw : nameB who = true) (hn : y.name = nWeb) (ht : y.ten = nAnn) (hh : heL y (N : Int) = false) :
    (claimL g 1000 ⟨[y], 2⟩ who nWeb 2 (N : Int) 5).2.1 = if (!nmE nAnn who && kpL g y (N : Int)) = true then 131 else 0 := by
  unfold claimL
  rw [hw, nm_web, clk_nat N hN, show timB 5 = true from by decide]
  rw [if_neg (by simp), fn_one y hn]
  dsimp only
  rw [ht, hh, Bool.false_or]
  split
  · rfl
  · rw [if_neg (by simp)]
theorem kc_hold (y : Ls) (N : Int) (hn : y.name = nWeb) (hh : heL y N = false) : holdL ⟨[y], 2⟩ nWeb N = none := by
  rw [hold_of (fn_one y hn), hh]
  rfl
theorem he_off (n t : ByteArray) (c e u now : Int) : heL ⟨n, t, c, e, u, false⟩ now = false := rfl
theorem kp_off (g : Int) (n t : ByteArray) (c e u now : Int) : kpL g ⟨n, t, c, e, u, false⟩ now = decide (now < u) := by unfold kpL; rw [if_neg (by simp)]
theorem kp_on (g : Int) (n t : ByteArray) (c e u now : Int) (h : u ≤ now) : kpL g ⟨n, t, c, e, u, true⟩ now = decide (now < u + g) := by
  unfold kpL
  rw [if_pos rfl, decide_eq_true h, Bool.true_and]
theorem he_on (n t : ByteArray) (c e u now : Int) (h : u ≤ now) : heL ⟨n, t, c, e, u, true⟩ now = false := by
  unfold heL
  simp
  omega
end Go.Proofs.Ytpbobmiajjgekaa
