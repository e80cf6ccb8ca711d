/- A configuration's text, and a tenant's line behind it: plain mathematics. -/
import Derived.Test.YtfpjkedcpnmfeaaDoorCfgX
namespace Go.Proofs.YtfpjkedcpnmfeaaDoor
set_option linter.unusedVariables false
set_option linter.unusedSimpArgs false

def zzL : List UInt8 := [122, 122]
def zzT (a b : Nat) : Tn := ⟨bs zzL, a, b, [], []⟩
def dgt (a : Nat) : UInt8 := UInt8.ofNat (48 + a)
def zzLine (a b : Nat) : List UInt8 := [116, 101, 110, 97, 110, 116, 32, 122, 122, 32] ++ [dgt a] ++ [32] ++ [dgt b] ++ [10]
theorem dec_digit1 (a : Nat) (h : a < 9) : decB a = [dgt a] := by
  unfold decB
  rw [dg_small (by omega)]
  match a, h with
  | 0, _ => rfl
  | 1, _ => rfl
  | 2, _ => rfl
  | 3, _ => rfl
  | 4, _ => rfl
  | 5, _ => rfl
  | 6, _ => rfl
  | 7, _ => rfl
  | 8, _ => rfl
theorem zz_line (a b : Nat) (ha : a < 9) (hb : b < 9) : zzLine a b = lineT (tenW (zzT a b)) := by
  unfold lineT tenW zzT zzLine
  simp only [Int.toNat_natCast]
  rw [dec_digit1 a ha, dec_digit1 b hb, bs_data]
  rfl
theorem zz_fine (a b : Nat) : fineL (tenW (zzT a b)) := by
  refine ⟨by simp [tenW], fun w hw => ?_⟩
  simp only [tenW, List.mem_cons, List.not_mem_nil, or_false] at hw
  rcases hw with rfl | rfl | rfl | rfl
  · exact wTenant_fine
  · rw [show (zzT a b).name.data.toList = zzL from bs_data _]
    intro c h; revert c; decide
  · exact dec_fine _
  · exact dec_fine _
theorem zz_name : nameB (bs zzL) = true := by decide
theorem rise_snoc : ∀ (A : List ByteArray) (l x : ByteArray), rise l A = true → nameB x = true → (∀ y, A.getLast? = some y → ltS y x = true) → (A = [] → ltS l x = true) → rise l (A ++ [x]) = true
  | [], l, x, _, hn, _, h0 => by
    rw [List.nil_append, rise, Bool.and_eq_true, Bool.and_eq_true]
    exact ⟨⟨hn, h0 rfl⟩, rfl⟩
  | a :: A, l, x, h, hn, hl, _ => by
    rw [rise, Bool.and_eq_true] at h
    rw [List.cons_append, rise, Bool.and_eq_true]
    refine ⟨h.1, rise_snoc A a x h.2 hn (fun y hy => hl y ?_) (fun hA => ?_)⟩
    · rw [List.getLast?_cons, hy]; rfl
    · subst hA
      exact hl a rfl
def growC (c : Cg) (a b : Nat) : Cg := { c with tens := c.tens ++ [zzT a b] }
theorem grow_right {c : Cg} (h : cfgB c = true) (a b : Nat) (ha : a < 9) (hb : b < 9) (hlast : ∀ t, c.tens.getLast? = some t → ltS t.name (bs zzL) = true) (h8 : c.tens.length < 8) : cfgB (growC c a b) = true := by
  obtain ⟨h1, h2, h3, h4, h5, h6, h7⟩ := cfgB_parts h
  refine cfgB_mk ⟨h1, h2, h3, h4, by simp [growC]; omega, ?_, fun t ht => ?_⟩
  · simp only [growC, List.map_append, List.map_cons, List.map_nil]
    refine rise_snoc _ _ _ h6 zz_name (fun y hy => ?_) (fun _ => show ltS ByteArray.empty (bs zzL) = true by kernel_rfl)
    rw [List.getLast?_map] at hy
    cases hq : c.tens.getLast? with
    | none => rw [hq] at hy; cases hy
    | some t =>
      rw [hq] at hy
      injection hy with hy
      subst hy
      exact hlast t hq
  · rcases List.mem_append.1 ht with ht | ht
    · exact h7 t ht
    · rw [List.mem_singleton.1 ht]
      refine tenB_mk ⟨?_, ?_, by simp [zzT], (fun n hn => by simp [zzT] at hn), by simp [zzT], rfl, (fun k hk => by simp [zzT] at hk)⟩
      · show (decide (0 ≤ (a : Int)) && decide ((a : Int) ≤ 8)) = true
        rw [Bool.and_eq_true, decide_eq_true_eq, decide_eq_true_eq]; omega
      · show (decide (0 ≤ (b : Int)) && decide ((b : Int) ≤ 8)) = true
        rw [Bool.and_eq_true, decide_eq_true_eq, decide_eq_true_eq]; omega
theorem grow_wrong {c : Cg} (a b : Nat) (h8 : ¬ c.tens.length < 8) : cfgB (growC c a b) = false := by
  cases hc : cfgB (growC c a b) with
  | false => rfl
  | true =>
    obtain ⟨_, _, _, _, h5, _⟩ := cfgB_parts hc
    simp [growC] at h5
    omega
theorem parse_grow {c : Cg} (h : cfgB c = true) (hl : netsLt c) (a b : Nat) (ha : a < 9) (hb : b < 9) :
    parseC (bs (printT c ++ zzLine a b)) = if cfgB (growC c a b) = true then .ok (growC c a b) else .error (cfgLs c).length := by
  unfold parseC
  rw [bs_data, parse_more h hl, zz_line a b ha hb]
  have hf := zz_fine a b
  have h1 := lines_textT [tenW (zzT a b)] [] (fun ws hws => by rw [List.mem_singleton.1 hws]; exact hf)
  have e1 : textT [tenW (zzT a b)] ++ [] = lineT (tenW (zzT a b)) := by simp [textT]
  rw [e1] at h1
  rw [h1]
  show runL c (cfgLs c).length ([(joinL 32 (tenW (zzT a b)), true)] ++ linesL []) = _
  rw [show linesL [] = [] from rfl, List.append_nil, runL, if_pos rfl, pieces_line hf]
  have hL : ((cfgLs c).length == 0) = false := by simp [cfgLs]
  have hr : readW c (tenW (zzT a b)) = some (growC c a b) := by
    unfold tenW readW
    dsimp only
    rw [if_neg kw1, if_pos rfl]
    unfold readTenant zzT
    simp only [Int.toNat_natCast]
    rw [decO_back a (by omega), decO_back b (by omega)]
    simp only [growC, zzT, bs_data]
  rw [hL]
  unfold lineC
  have hd : decide ((tenW (zzT a b)).head? = some wTimes) = false := by unfold tenW; simp; decide
  rw [if_pos hd, hr]
  by_cases hq : cfgB (growC c a b) = true
  · simp only [okC, if_pos hq]
    rw [runL, if_neg (by simp)]
  · simp only [okC, if_neg hq]
end Go.Proofs.YtfpjkedcpnmfeaaDoor
