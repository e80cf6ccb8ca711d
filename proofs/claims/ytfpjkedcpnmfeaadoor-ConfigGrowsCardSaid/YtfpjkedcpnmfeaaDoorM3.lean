/- Parse, ParMath, SynM, Region, Syn1, Sidx, Syn3, CfgM, CgR, NetAt, CfgN, CfgL: texts of this seat, one behind the other. -/
import Derived.Test.YtfpjkedcpnmfeaaDoorM1
import Derived.BigQuiet
import Derived.Deep.QuietTactic
import Derived.Test.YtfpjkedcpnmfeaaDoorM2
import Derived.Lib.Bytealg
import Derived.Deep.RegionHeld3
import Derived.Test.YtfpjkedcpnmfeaaDoorRows
import Derived.WalkKit
import Derived.Lib.Hide
/- num.Parse: its contract. -/
namespace Go.Proofs.YtfpjkedcpnmfeaaDoor
set_option linter.unusedVariables false
set_option linter.unusedSimpArgs false
open Go.RowKit

def stP (s : ByteArray) (k : Nat) : Nat × Bool × Bool := if h : k < s.size then ((s[k]).toNat - 48, decide (k + 1 = s.size), decide (48 ≤ (s[k]).toNat ∧ (s[k]).toNat ≤ 57)) else (0, true, false)
/-- The number of which a text is the decimals. -/
def parseS (s : ByteArray) : Option (Nat × Nat) := numS 10 (stP s) (s.size + 1) 0 0

structure ParI (w : World) (g : Nat) (s : ByteArray) (k : Nat) : Prop where
  rd : RdS w g s k
  next : Bk w (g + 1 + 1) 127 #[.func (.func 79) #[] #[.pointer (some ⟨g + 1, 0, none⟩), .pointer (some ⟨g, 0, none⟩)]]
  left : Bk w (g + 1 + 1 + 1) 3 #[.int .i64 ((s.size : Int) - (k : Int))]

theorem ParI.step {w : World} {g k : Nat} {s : ByteArray} (h : ParI w g s k) (hk : k < s.size) (nq : Nat) :
    ParI (((w.setCell ⟨g + 1, 0, none⟩ (.int .i64 ((k : Int) + 1))).setCell ⟨g + 1 + 1 + 1, 0, none⟩ (.int .i64 ((s.size : Int) - (k : Int) - 1))).drewN nq) g s (k + 1) ∧
    Below g w (((w.setCell ⟨g + 1, 0, none⟩ (.int .i64 ((k : Int) + 1))).setCell ⟨g + 1 + 1 + 1, 0, none⟩ (.int .i64 ((s.size : Int) - (k : Int) - 1))).drewN nq) := by
  have e1 : ((s.size : Int) - (k : Int) - 1) = ((s.size : Int) - ((k + 1 : Nat) : Int)) := by omega
  have e2 : ((k : Int) + 1) = ((k + 1 : Nat) : Int) := by omega
  rw [e1, e2]
  refine ⟨⟨?_, ?_, ?_⟩, ?_⟩
  · have := h.rd.step hk
    exact ⟨this.pos.far (p := ⟨g + 1 + 1 + 1, 0, none⟩) (by show g + 1 ≠ g + 1 + 1 + 1; omega) _, this.from_.far (p := ⟨g + 1 + 1 + 1, 0, none⟩) (by show g ≠ g + 1 + 1 + 1; omega) _, this.size, this.le⟩
  · exact (h.next.far (p := ⟨g + 1, 0, none⟩) (by show g + 1 + 1 ≠ g + 1; omega) _).far (p := ⟨g + 1 + 1 + 1, 0, none⟩) (by show g + 1 + 1 ≠ g + 1 + 1 + 1; omega) _
  · exact (h.left.far (p := ⟨g + 1, 0, none⟩) (by show g + 1 + 1 + 1 ≠ g + 1; omega) _).set 0 _
  · exact below_drewN (((Below.refl g w).setCell (by show g ≤ g + 1; omega) _).setCell (by show g ≤ g + 1 + 1 + 1; omega) _) nq

theorem parse1_fin {w' : World} {g k v S : Nat} {P Q : Prop} (b1 : Bool) (hb : b1 = decide (48 ≤ v ∧ v ≤ 57)) (h : P) (h' : Q) :
    ∃ di lb, Ending.returned (.tuple #[.int .i64 ((v : Int) - 48), .bool ((S : Int) - (k : Int) - 1 == 0), .bool b1]) = Ending.returned (.tuple #[.int .i64 di, .bool lb, .bool (decide (48 ≤ v ∧ v ≤ 57))]) ∧
      (decide (48 ≤ v ∧ v ≤ 57) = true → di = ((v - 48 : Nat) : Int) ∧ lb = decide (k + 1 = S) ∧ P) ∧ Q :=
  ⟨_, _, by rw [hb], (fun h0 => ⟨(by have : 48 ≤ v ∧ v ≤ 57 := (by simpa using h0); omega), (by rw [Bool.eq_iff_iff]; simp; omega), h⟩), h'⟩

set_option maxHeartbeats 400000 in
theorem parse1_ok (g k : Nat) (s : ByteArray) (w : World) (h : ParI w g s k) :
    Calls Tryd.prog 70 #[.pointer (some ⟨g + 1 + 1, 0, none⟩), .pointer (some ⟨g + 1 + 1 + 1, 0, none⟩)] w fun e w' =>
      ∃ di lb, e = .returned (.tuple #[.int .i64 di, .bool lb, .bool (stP s k).2.2]) ∧ ((stP s k).2.2 = true → di = ((stP s k).1 : Int) ∧ lb = (stP s k).2.1 ∧ ParI w' g s (k + 1)) ∧ Below g w w' := by
  have c1 : w.cell? ⟨g + 1 + 1, 0, none⟩ = some (.func (.func 79) #[] #[.pointer (some ⟨g + 1, 0, none⟩), .pointer (some ⟨g, 0, none⟩)]) := by rw [h.next.cell]; rfl
  have hsz := h.rd.size
  by_cases hk : k < s.size
  · have hc := Lib.hid (readS_more g k s w h.rd hk)
    have c2 : ∀ u : Value, (w.setCell ⟨g + 1, 0, none⟩ u).cell? ⟨g + 1 + 1 + 1, 0, none⟩ = some (.int .i64 ((s.size : Int) - (k : Int))) := by
      intro u
      have := (h.left.far (p := ⟨g + 1, 0, none⟩) (by show g + 1 + 1 + 1 ≠ g + 1; omega) u).cell 0
      rw [this]; rfl
    have c3 : ∀ u : Value, (w.setCell ⟨g + 1, 0, none⟩ u).frozen? ⟨g + 1 + 1 + 1, 0, none⟩ = false := fun u => (h.left.far (p := ⟨g + 1, 0, none⟩) (by show g + 1 + 1 + 1 ≠ g + 1; omega) u).frozen 0
    have c4 : ∀ u u' : Value, ((w.setCell ⟨g + 1, 0, none⟩ u).setCell ⟨g + 1 + 1 + 1, 0, none⟩ u').cell? ⟨g + 1 + 1 + 1, 0, none⟩ = some u' := by
      intro u u'
      have := ((h.left.far (p := ⟨g + 1, 0, none⟩) (by show g + 1 + 1 + 1 ≠ g + 1; omega) u).set 0 u').cell 0
      rw [this]; rfl
    have HF := Lib.hid (fun nq => ParI.step h hk nq)
    have hs : stP s k = ((s[k]).toNat - 48, decide (k + 1 = s.size), decide (48 ≤ (s[k]).toNat ∧ (s[k]).toNat ≤ 57)) := by simp [stP, hk]
    rw [hs]
    obtain ⟨v, hv⟩ : ∃ v : Nat, v = (s[k]).toNat := ⟨_, rfl⟩
    have hv2 : v < 256 := by rw [hv]; exact (s[k]).toNat_lt
    rw [← hv] at hc ⊢
    clear hs hv h
    have w1 : IntKind.i64.wrap ((v : Nat) : Int) = (v : Int) := IntWalk.i64_in _ (by omega)
    have w2 : IntKind.i64.wrap ((v : Int) - 48) = (v : Int) - 48 := IntWalk.i64_in _ (by omega)
    by_cases d1 : 48 ≤ v
    · have d2 : decide ((48 : Int) ≤ (v : Int)) = true := by simp; omega
      go_enter Tryd.func70, Tryd.ntmps70
      go_wp2_with (refine hc.out.mono ?_; rintro e w1 ⟨rfl, hw1⟩; subst hw1)
      go_quiet (fail)
      go_wp2
      go_ret3
      have := HF.out nq
      exact parse1_fin (w' := w) (g := g) _ (by rw [Bool.eq_iff_iff]; simp; omega) this.1 this.2
    · have d2 : decide ((48 : Int) ≤ (v : Int)) = false := by simp; omega
      go_enter Tryd.func70, Tryd.ntmps70
      go_wp2_with (refine hc.out.mono ?_; rintro e w1 ⟨rfl, hw1⟩; subst hw1)
      go_quiet (fail)
      go_wp2
      go_ret3
      have := HF.out nq
      exact parse1_fin (w' := w) (g := g) _ (by rw [Bool.eq_iff_iff]; simp; omega) this.1 this.2
  · have hc := Lib.hid (readS_end g k s w h.rd hk)
    have hs : stP s k = (0, true, false) := by simp [stP, hk]
    have c2 : w.cell? ⟨g + 1 + 1 + 1, 0, none⟩ = some (.int .i64 ((s.size : Int) - (k : Int))) := by rw [h.left.cell]; rfl
    have c3 : w.frozen? ⟨g + 1 + 1 + 1, 0, none⟩ = false := h.left.frozen 0
    have hle := h.rd.le
    have c4 : ∀ u' : Value, (w.setCell ⟨g + 1 + 1 + 1, 0, none⟩ u').cell? ⟨g + 1 + 1 + 1, 0, none⟩ = some u' := by
      intro u'
      have := (h.left.set 0 u').cell 0
      rw [this]; rfl
    rw [hs]
    clear hs h
    have w1 : IntKind.i64.wrap (-48 : Int) = -48 := IntWalk.i64_in _ (by omega)
    go_enter Tryd.func70, Tryd.ntmps70
    go_wp2_with (refine hc.out.mono ?_; rintro e w1 ⟨rfl, rfl⟩)
    go_quiet (fail)
    go_wp2
    go_ret3
    exact ⟨_, _, rfl, (fun h => by cases h), below_drewN ((Below.refl g w).setCell (by show g ≤ g + 1 + 1 + 1; omega) _) nq⟩

theorem in26 (args : Array Value) (w : World) : (callFunc 70 args).run Tryd.prog w = .ok (.enter 70 args) w := goes_in Tryd.func70 (by kernel_rfl) rfl args w

/-- How Parse returns it. -/
def parE : Option (Nat × Nat) → Ending
  | some (n, _) => .returned (.tuple #[.int .i64 n, .bool true])
  | none => .returned (.tuple #[.int .i64 0, .bool false])

set_option maxHeartbeats 400000 in
theorem parse_ok (s : ByteArray) (w : World) (hl : s.size ≤ 140737488355328) :
    Calls Tryd.prog 59 #[.string s] w fun e w' => e = parE (parseS s) ∧ Below w.heap.size w w' := by
  have h1 := Lib.hid (RdS.start (w := w) hl)
  have hnum := Lib.hid (fun (w' : World) (hi : ParI w' w.heap.size s 0) => number_ok 10 70 #[.pointer (some ⟨w.heap.size + 1 + 1, 0, none⟩), .pointer (some ⟨w.heap.size + 1 + 1 + 1, 0, none⟩)] w.heap.size s.size (fun k w' => ParI w' w.heap.size s k) (stP s) (by omega) (by omega)
    (fun k hk => by
      unfold stP at hk ⊢
      by_cases hkl : k < s.size
      · rw [dif_pos hkl]; exact ⟨hkl, by have := (s[k]).toNat_lt; show (s[k]).toNat - 48 < 256; omega⟩
      · rw [dif_neg hkl] at hk; cases hk) hl (fun w' => in26 _ w') (fun k w' _ hi => parse1_ok w.heap.size k s w' hi) w' hi)
  obtain ⟨R, hR⟩ : ∃ R, parseS s = R := ⟨_, rfl⟩
  rw [hR]
  have HR := Lib.hid hR
  clear hR
  have hmf := @hmf Tryd.prog
  go_enter Tryd.func59, Tryd.ntmps59
  go_wp2_with fail
  refine (readerS_ok s _).mono ?_
  rintro e w' ⟨rfl, rfl⟩
  go_wp2_with fail
  refine (hnum.out _ ⟨(h1.out.below (Below.alloc (Below.refl _ _) (Nat.le_refl _) _) (by simp)).below (Below.alloc (Below.refl _ _) (Nat.le_refl _) _) (by simp), ?_, ?_⟩).mono ?_
  · exact (Bk.here (by simp)).alloc _
  · exact Bk.here (by simp)
  rintro e w' ⟨he, hb⟩
  have hb2 : Below w.heap.size w w' := (by go_grown : Below w.heap.size w _).trans hb
  replace he : e = numE R := he.trans (congrArg numE HR.out)
  rcases R with _ | ⟨n, k⟩
  · simp only [numE] at he
    subst he
    go_wp2
    go_ret2
    exact ⟨rfl, hb2⟩
  · simp only [numE] at he
    subst he
    go_wp2
    go_ret2
    exact ⟨rfl, hb2⟩

end Go.Proofs.YtfpjkedcpnmfeaaDoor

/- There and back, of decimals: plain mathematics. -/
namespace Go.Proofs.YtfpjkedcpnmfeaaDoor
set_option linter.unusedVariables false
set_option linter.unusedSimpArgs false

/-! ### Decimals -/

theorem stP_at (s : ByteArray) (k : Nat) (h : k < s.size) : stP s k = ((s[k]).toNat - 48, decide (k + 1 = s.size), decide (48 ≤ (s[k]).toNat ∧ (s[k]).toNat ≤ 57)) := by simp [stP, h]
theorem stP_end (s : ByteArray) (k : Nat) (h : ¬ k < s.size) : stP s k = (0, true, false) := by simp [stP, h]

theorem bs_at (l : List UInt8) (k : Nat) (h : k < (bs l).size) (h' : k < l.length) : (bs l)[k] = l[k] := by
  show (bs l).data[k] = _
  simp [bs]

theorem decB_eq (n : Nat) : decB n = (hiD 10 n).map (fun d => UInt8.ofNat (d + 48)) ++ [UInt8.ofNat (n % 10 + 48)] := by
  unfold decB hiD
  by_cases h : n < 10
  · rw [dg_small h, if_pos h, Nat.mod_eq_of_lt h]; rfl
  · rw [dg_big (by omega) h, if_neg h, List.map_append]; rfl

theorem parse_back (n : Nat) (hn : n ≤ 1099511627776) : ∃ k, parseS (bs (decB n)) = some (n, k) := by
  have hm := Nat.mod_lt n (by omega : 10 > 0)
  have hlen : (decB n).length = (hiD 10 n).length + 1 := by rw [decB_eq]; simp
  have hsz : (bs (decB n)).size = (hiD 10 n).length + 1 := by rw [bs_size, hlen]
  have hf : fold 10 0 (hiD 10 n) = n / 10 := hiD_fold 10 (by omega) n
  unfold parseS
  have e : (bs (decB n)).size + 1 = 2 + (hiD 10 n).length := by rw [hsz]; omega
  refine ⟨(hiD 10 n).length + 1, ?_⟩
  rw [e, numS_front (by omega) (hiD 10 n) _ 0 0 ?_ (by rw [hf]; omega) (fun d r e => by have := hiD_head 10 (by omega) n d r e; omega), hf, Nat.zero_add]
  · have hk : (hiD 10 n).length < (bs (decB n)).size := by omega
    have hst : stP (bs (decB n)) (hiD 10 n).length = (n % 10, true, true) := by
      rw [stP_at _ _ hk]
      have e2 : (bs (decB n))[(hiD 10 n).length] = UInt8.ofNat (n % 10 + 48) := by
        refine (bs_at _ _ hk (by omega)).trans ?_
        have := decB_eq n
        simp only [this]
        rw [List.getElem_append_right (by simp)]
        simp
      rw [e2, u8_ofNat _ (by omega), hsz]
      have e3 : n % 10 + 48 - 48 = n % 10 := by omega
      rw [e3, decide_eq_true rfl, decide_eq_true ⟨by omega, by omega⟩]
    have hdm := Nat.div_add_mod n 10
    rw [numS_last hst (by omega)]
    congr 2
    omega
  · intro i hi
    have hd := hiD_lt 10 (by omega) n _ (List.getElem_mem hi)
    have hi2 : i < (bs (decB n)).size := by omega
    rw [Nat.zero_add, stP_at _ i hi2]
    have e2 : (bs (decB n))[i] = UInt8.ofNat ((hiD 10 n)[i] + 48) := by
      refine (bs_at _ _ hi2 (by omega)).trans ?_
      have := decB_eq n
      simp only [this]
      rw [List.getElem_append_left (by simpa using hi)]
      simp
    rw [e2, u8_ofNat _ (by omega), hsz]
    have e3 : (hiD 10 n)[i] + 48 - 48 = (hiD 10 n)[i] := by omega
    rw [e3, decide_eq_false (by omega), decide_eq_true ⟨by omega, by omega⟩]

theorem par_inv (s : ByteArray) : ∀ (f k n r m : Nat), ((k = 0 ∧ n = 0) ∨ (1 ≤ n ∧ k ≤ s.size ∧ s.data.toList.take k = decB n)) → numS 10 (stP s) f k n = some (r, m) →
    r ≤ 1099511627776 ∧ s.data.toList = decB r := by
  intro f
  induction f with
  | zero => intro k n r m _ h; cases h
  | succ f ih =>
    intro k n r m hI h
    by_cases hk : k < s.size
    · have hst := stP_at s k hk
      have hk2 : k < s.data.toList.length := hk
      have ht : s.data.toList.take (k + 1) = s.data.toList.take k ++ [s.data.toList[k]] := List.take_succ_eq_append_getElem hk2
      have hsk : s.data.toList[k] = s[k] := by
        show s.data.toList[k] = s.data[k]
        simp
      rw [hsk] at ht
      generalize hv : (s[k]).toNat = v at hst
      by_cases hdig : 48 ≤ v ∧ v ≤ 57
      · rw [decide_eq_true hdig] at hst
        have hc : s[k] = UInt8.ofNat ((v - 48) + 48) := by rw [ofNat_toNat_eq _ _ hv]; congr 1; omega
        rw [hc] at ht
        by_cases hbig : 1099511627776 < n * 10 + (v - 48) ∨ (n * 10 + (v - 48) = 0 ∧ decide (k + 1 = s.size) = false)
        · simp only [numS, hst] at h
          rw [if_neg (by simp), if_pos hbig] at h
          cases h
        · have hle : n * 10 + (v - 48) ≤ 1099511627776 := by
            rcases Nat.lt_or_ge 1099511627776 (n * 10 + (v - 48)) with h1 | h1
            · exact absurd (.inl h1) hbig
            · exact h1
          have hnew : s.data.toList.take (k + 1) = decB (n * 10 + (v - 48)) := by
            rw [ht]
            rcases hI with ⟨rfl, rfl⟩ | ⟨hn1, _, htk⟩
            · rw [decB, dg_small (by omega)]; simp
            · rw [htk, decB, decB, dg_step 10 n (v - 48) (by omega) (by omega) hn1, List.map_append]; rfl
          by_cases hlast : k + 1 = s.size
          · rw [decide_eq_true hlast] at hst
            rw [numS_last hst hle] at h
            injection h with h
            injection h with h1 h2
            subst h1
            refine ⟨hle, ?_⟩
            rw [← hnew, List.take_of_length_le]
            show s.size ≤ k + 1
            omega
          · rw [decide_eq_false hlast] at hst
            have hne : n * 10 + (v - 48) ≠ 0 := fun h0 => hbig (.inr ⟨h0, decide_eq_false hlast⟩)
            rw [numS_more hst hle hne] at h
            exact ih (k + 1) _ r m (.inr ⟨by omega, by omega, hnew⟩) h
      · rw [decide_eq_false hdig] at hst
        rw [numS_no (by rw [hst])] at h
        cases h
    · rw [numS_no (by rw [stP_end _ _ hk])] at h
      cases h

theorem parse_is (s : ByteArray) (z k : Nat) (h : parseS s = some (z, k)) : z ≤ 1099511627776 ∧ s = bs (decB z) := by
  obtain ⟨h1, h2⟩ := par_inv s _ 0 0 z k (.inl ⟨rfl, rfl⟩) h
  refine ⟨h1, ?_⟩
  rw [← h2]
  cases s; simp [bs]

end Go.Proofs.YtfpjkedcpnmfeaaDoor

/- Names, addresses, nets: plain mathematics. -/
namespace Go.Proofs.YtfpjkedcpnmfeaaDoor
set_option linter.unusedVariables false
set_option linter.unusedSimpArgs false

/-! ### Texts cut at a mark -/

/-- What stands ahead of a byte, what behind it, whether there is one. -/
def cutL (c : UInt8) : List UInt8 → List UInt8 × List UInt8 × Bool
  | [] => ([], [], false)
  | x :: r => if x = c then ([], r, true) else (x :: (cutL c r).1, (cutL c r).2.1, (cutL c r).2.2)

def piecesL (c : UInt8) : List UInt8 → List (List UInt8)
  | [] => [[]]
  | x :: r => if x = c then [] :: piecesL c r else
    match piecesL c r with
    | [] => [[x]]
    | p :: ps => (x :: p) :: ps

def joinL (c : UInt8) : List (List UInt8) → List UInt8
  | [] => []
  | [p] => p
  | p :: q :: ps => p ++ c :: joinL c (q :: ps)

theorem cutL_join (c : UInt8) : ∀ l, ((cutL c l).2.2 = true → l = (cutL c l).1 ++ c :: (cutL c l).2.1) ∧ ((cutL c l).2.2 = false → l = (cutL c l).1 ∧ (cutL c l).2.1 = [])
  | [] => by simp [cutL]
  | x :: r => by
    obtain ⟨h1, h2⟩ := cutL_join c r
    unfold cutL
    by_cases hx : x = c
    · simp [hx]
    · simp only [if_neg hx]
      refine ⟨fun h => by rw [List.cons_append, ← h1 h], fun h => ⟨by rw [← (h2 h).1], (h2 h).2⟩⟩
theorem cutL_lt (c : UInt8) (l : List UInt8) (h : (cutL c l).2.2 = true) : (cutL c l).2.1.length < l.length := by
  have := congrArg List.length ((cutL_join c l).1 h)
  rw [List.length_append, List.length_cons] at this
  omega
theorem cutL_len (c : UInt8) (l : List UInt8) : (cutL c l).1.length ≤ l.length ∧ (cutL c l).2.1.length ≤ l.length := by
  cases h : (cutL c l).2.2
  · obtain ⟨h1, h2⟩ := (cutL_join c l).2 h
    exact ⟨Nat.le_of_eq (congrArg List.length h1).symm, by rw [h2]; simp⟩
  · have := congrArg List.length ((cutL_join c l).1 h)
    rw [List.length_append, List.length_cons] at this
    omega
theorem cutL_no (c : UInt8) : ∀ l, c ∉ (cutL c l).1
  | [] => by simp [cutL]
  | x :: r => by
    unfold cutL
    by_cases hx : x = c
    · simp [hx]
    · simp only [if_neg hx, List.mem_cons, not_or]
      exact ⟨fun h => hx h.symm, cutL_no c r⟩
theorem cutL_hit (c : UInt8) : ∀ (p r : List UInt8), c ∉ p → cutL c (p ++ c :: r) = (p, r, true)
  | [], r, _ => by simp [cutL]
  | x :: p, r, h => by
    rw [List.mem_cons, not_or] at h
    have hx : ¬ x = c := fun e => h.1 e.symm
    rw [List.cons_append, cutL, if_neg hx, cutL_hit c p r h.2]
theorem cutL_miss (c : UInt8) : ∀ p : List UInt8, c ∉ p → cutL c p = (p, [], false)
  | [], _ => rfl
  | x :: p, h => by
    rw [List.mem_cons, not_or] at h
    have hx : ¬ x = c := fun e => h.1 e.symm
    rw [cutL, if_neg hx, cutL_miss c p h.2]

theorem pieces_cut (c : UInt8) : ∀ l, piecesL c l = (cutL c l).1 :: (if (cutL c l).2.2 = true then piecesL c (cutL c l).2.1 else [])
  | [] => by simp [cutL, piecesL]
  | x :: r => by
    have ih := pieces_cut c r
    rw [cutL, piecesL]
    by_cases hx : x = c
    · simp [hx]
    · simp only [if_neg hx]
      rw [ih]
theorem pieces_join (c : UInt8) : ∀ l, joinL c (piecesL c l) = l
  | [] => rfl
  | x :: r => by
    have ih := pieces_join c r
    unfold piecesL
    by_cases hx : x = c
    · rw [if_pos hx]
      have hp := pieces_cut c r
      rw [hp] at ih ⊢
      rw [joinL, ih, hx]; rfl
    · rw [if_neg hx]
      cases hp : piecesL c r with
      | nil => rw [pieces_cut] at hp; cases hp
      | cons p ps =>
        rw [hp] at ih
        cases ps with
        | nil => show x :: p = _; rw [show p = r from ih]
        | cons q ps => show (x :: p) ++ c :: joinL c (q :: ps) = _; rw [← ih]; rfl
theorem pieces_of (c : UInt8) : ∀ ps : List (List UInt8), ps ≠ [] → (∀ p ∈ ps, c ∉ p) → piecesL c (joinL c ps) = ps
  | [], h, _ => absurd rfl h
  | [p], _, h => by rw [joinL, pieces_cut, cutL_miss c p (h p (by simp))]; simp
  | p :: q :: ps, _, h => by
    rw [joinL, pieces_cut, cutL_hit c p _ (h p (by simp)), if_pos rfl, pieces_of c (q :: ps) (by simp) (fun p' hp' => h p' (List.mem_cons_of_mem _ hp'))]
theorem pieces_small (c : UInt8) (l : List UInt8) : ∀ p ∈ piecesL c l, p.length ≤ l.length := by
  induction hn : l.length using Nat.strongRecOn generalizing l with
  | _ n ih =>
    intro p hp
    rw [pieces_cut] at hp
    rcases List.mem_cons.1 hp with rfl | hp
    · have := (cutL_len c l).1; omega
    · cases hm : (cutL c l).2.2
      · rw [hm] at hp; simp at hp
      · rw [hm, if_pos rfl] at hp
        have := cutL_lt c l hm
        have := ih _ (by omega) (cutL c l).2.1 rfl p hp
        omega

theorem pieces_len (c : UInt8) : ∀ l, (piecesL c l).length ≤ l.length + 1
  | [] => by simp [piecesL]
  | x :: r => by
    have ih := pieces_len c r
    have hc := pieces_cut c r
    rw [piecesL]
    by_cases hx : x = c
    · rw [if_pos hx, List.length_cons, List.length_cons]; omega
    · rw [if_neg hx, hc]
      rw [hc] at ih
      simp only [List.length_cons] at ih ⊢
      omega

/-- What the library's search makes of it. -/
theorem cutL_index (c : UInt8) : ∀ l : List UInt8, (Go.Lib.indexByte l c = -1 ∧ cutL c l = (l, [], false)) ∨ ∃ i : Nat, Go.Lib.indexByte l c = (i : Int) ∧ i < l.length ∧ cutL c l = (l.take i, l.drop (i + 1), true)
  | [] => .inl ⟨by simp [Go.Lib.indexByte], rfl⟩
  | x :: r => by
    unfold cutL Go.Lib.indexByte
    by_cases hx : x = c
    · exact .inr ⟨0, by simp [hx], by simp, by simp [hx]⟩
    · rcases cutL_index c r with ⟨h1, h2⟩ | ⟨i, h1, h2, h3⟩
      · exact .inl ⟨by simp [hx, h1], by simp [hx, h2]⟩
      · refine .inr ⟨i + 1, ?_, by simp; omega, by simp [hx, h3]⟩
        have e : ((i : Int) == -1) = false := by simp
        simp [hx, h1, e]

/-! ### Numbers up to a greatest one -/

def upToO (top : Nat) (p : ByteArray) : Option Nat := match parseS p with
  | some (n, _) => if n ≤ top then some n else none
  | none => none

theorem upToO_dec (top n : Nat) (h : n ≤ top) (ht : top ≤ 1099511627776) : upToO top (bs (decB n)) = some n := by
  obtain ⟨k, hk⟩ := parse_back n (by omega)
  simp [upToO, hk, h]
theorem upToO_is (top n : Nat) (p : ByteArray) (h : upToO top p = some n) : n ≤ top ∧ p = bs (decB n) := by
  unfold upToO at h
  cases hp : parseS p with
  | none => rw [hp] at h; cases h
  | some x =>
    obtain ⟨m, k⟩ := x
    rw [hp] at h
    simp only at h
    by_cases hm : m ≤ top
    · rw [if_pos hm] at h
      obtain rfl : m = n := by injection h
      exact ⟨hm, (parse_is p m k hp).2⟩
    · rw [if_neg hm] at h; cases h


theorem dec_digit (n : Nat) (c : UInt8) (h : c ∈ decB n) : 48 ≤ c.toNat ∧ c.toNat ≤ 57 := by
  unfold decB at h
  obtain ⟨d, hd, rfl⟩ := List.mem_map.1 h
  have := dg_lt 10 (by omega) n d hd
  rw [u8_ofNat _ (by omega)]; omega
theorem dec_no (n : Nat) (c : UInt8) (h : c.toNat < 48) : c ∉ decB n := fun hc => by have := dec_digit n c hc; omega

/-! ### Addresses -/

def dotsB (a : Nat) : List UInt8 := joinL 46 [decB (a / 16777216 % 256), decB (a / 65536 % 256), decB (a / 256 % 256), decB (a % 256)]

def addrL : List (Option Nat) → Option Nat
  | [some a, some b, some c, some d] => some (((a * 256 + b) * 256 + c) * 256 + d)
  | _ => none
def addrO (s : ByteArray) : Option Nat := addrL ((piecesL 46 s.data.toList).map fun p => upToO 255 (bs p))

theorem dotsB_pieces (a : Nat) : piecesL 46 (dotsB a) = [decB (a / 16777216 % 256), decB (a / 65536 % 256), decB (a / 256 % 256), decB (a % 256)] := by
  refine pieces_of 46 _ (by simp) (fun p hp => ?_)
  simp only [List.mem_cons, List.not_mem_nil, or_false] at hp
  rcases hp with rfl | rfl | rfl | rfl <;> exact dec_no _ _ (by decide)

theorem addr_back (a : Nat) (h : a < 4294967296) : addrO (bs (dotsB a)) = some a := by
  unfold addrO
  rw [bs_data, dotsB_pieces]
  simp only [List.map_cons, List.map_nil]
  rw [upToO_dec 255 _ (by omega) (by omega), upToO_dec 255 _ (by omega) (by omega), upToO_dec 255 _ (by omega) (by omega), upToO_dec 255 _ (by omega) (by omega)]
  simp only [addrL]
  congr 1
  omega

theorem addrL_some {l : List (Option Nat)} {v : Nat} (h : addrL l = some v) : ∃ a b c d, l = [some a, some b, some c, some d] ∧ v = ((a * 256 + b) * 256 + c) * 256 + d := by
  unfold addrL at h
  split at h
  · injection h with h; exact ⟨_, _, _, _, rfl, h.symm⟩
  · cases h

theorem addr_is (s : ByteArray) (v : Nat) (h : addrO s = some v) : v < 4294967296 ∧ s = bs (dotsB v) := by
  obtain ⟨a, b, c, d, hl, hv⟩ := addrL_some h
  have hlen := congrArg List.length hl
  rw [List.length_map] at hlen
  match hp : piecesL 46 s.data.toList, hlen with
  | [p, q, r, t], _ =>
    rw [hp] at hl
    simp only [List.map_cons, List.map_nil, List.cons.injEq, and_true] at hl
    obtain ⟨h1, h2, h3, h4⟩ := hl
    obtain ⟨k1, e1⟩ := upToO_is _ _ _ h1
    obtain ⟨k2, e2⟩ := upToO_is _ _ _ h2
    obtain ⟨k3, e3⟩ := upToO_is _ _ _ h3
    obtain ⟨k4, e4⟩ := upToO_is _ _ _ h4
    refine ⟨by omega, ?_⟩
    have hj := pieces_join 46 s.data.toList
    rw [hp, bs_inj e1, bs_inj e2, bs_inj e3, bs_inj e4] at hj
    rw [← bs_of s, ← hj]
    unfold dotsB
    rw [show v / 16777216 % 256 = a by omega, show v / 65536 % 256 = b by omega, show v / 256 % 256 = c by omega, show v % 256 = d by omega]

/-! ### Nets -/

/-- An address with 0 behind its first bits. -/
def firstN (bits a : Nat) : Nat := a / 2 ^ (32 - bits) * 2 ^ (32 - bits)
def rightB (a : Nat) (bits : Int) : Bool := decide (0 ≤ bits) && decide (bits ≤ 32) && decide (firstN bits.toNat a = a)
def inB (n : Nat) (bits : Int) (a : Nat) : Bool := rightB n bits && decide (firstN bits.toNat a = n)
def slashL (a : Nat) (bits : Int) : List UInt8 := if rightB a bits = true then dotsB a ++ 47 :: decB bits.toNat else []
def netL : List (List UInt8) → Option (Nat × Nat)
  | [x, y] => match addrO (bs x), upToO 32 (bs y) with
    | some a, some b => if rightB a b = true then some (a, b) else none
    | _, _ => none
  | _ => none
def netO (s : ByteArray) : Option (Nat × Nat) := netL (piecesL 47 s.data.toList)

theorem dots_no (a : Nat) : (47 : UInt8) ∉ dotsB a := by
  unfold dotsB
  simp only [joinL, List.mem_append, List.mem_cons, not_or]
  refine ⟨dec_no _ _ (by decide), by decide, dec_no _ _ (by decide), by decide, dec_no _ _ (by decide), by decide, dec_no _ _ (by decide)⟩

theorem net_back (a : Nat) (bits : Int) (ha : a < 4294967296) (h : rightB a bits = true) : netO (bs (slashL a bits)) = some (a, bits.toNat) := by
  have hb : 0 ≤ bits ∧ bits ≤ 32 := by
    unfold rightB at h
    simp only [Bool.and_eq_true, decide_eq_true_eq] at h
    exact h.1
  unfold netO slashL
  rw [if_pos h, bs_data, pieces_cut, cutL_hit 47 _ _ (dots_no a), if_pos rfl]
  simp only
  rw [pieces_cut, cutL_miss 47 _ (dec_no _ _ (by decide))]
  simp only [Bool.false_eq_true, if_false, netL]
  rw [addr_back a ha, upToO_dec 32 _ (by omega) (by omega)]
  simp only
  have e : ((bits.toNat : Nat) : Int) = bits := by omega
  rw [e, if_pos h]

theorem net_is (s : ByteArray) (a b : Nat) (h : netO s = some (a, b)) : a < 4294967296 ∧ b ≤ 32 ∧ rightB a b = true ∧ s = bs (slashL a b) := by
  unfold netO at h
  have hj := pieces_join 47 s.data.toList
  match hp : piecesL 47 s.data.toList, h with
  | [x, y], h =>
    rw [hp] at hj
    simp only [netL] at h
    cases h1 : addrO (bs x) with
    | none => rw [h1] at h; cases h
    | some a' =>
      cases h2 : upToO 32 (bs y) with
      | none => rw [h1, h2] at h; cases h
      | some b' =>
        rw [h1, h2] at h
        simp only at h
        by_cases hr : rightB a' b' = true
        · rw [if_pos hr] at h
          injection h with h
          injection h with e1 e2
          subst e1; subst e2
          obtain ⟨k1, q1⟩ := addr_is _ _ h1
          obtain ⟨k2, q2⟩ := upToO_is _ _ _ h2
          refine ⟨k1, k2, hr, ?_⟩
          rw [← bs_of s, ← hj]
          unfold slashL
          rw [if_pos hr, bs_inj q1, bs_inj q2]; rfl
        · rw [if_neg hr] at h; cases h

/-! ### What the loops keep -/

def ixs : Nat → List (List UInt8) → List (Nat × ByteArray)
  | _, [] => []
  | k, p :: ps => (k, bs p) :: ixs (k + 1) ps
theorem ixs_len : ∀ (ps : List (List UInt8)) (k : Nat), (ixs k ps).length = ps.length
  | [], _ => rfl
  | p :: ps, k => by rw [ixs, List.length_cons, ixs_len ps, List.length_cons]
theorem ixs_append : ∀ (ps qs : List (List UInt8)) (k : Nat), ixs k (ps ++ qs) = ixs k ps ++ ixs (k + ps.length) qs
  | [], qs, k => rfl
  | p :: ps, qs, k => by rw [List.cons_append, ixs, ixs_append ps qs, ixs, List.cons_append, List.length_cons]; congr 3; omega

def okA (x : Nat × ByteArray) : Bool := (upToO 255 x.2).isSome && !decide (x.1 = 4)
def stA (s : Nat × Nat) (x : Nat × ByteArray) : Nat × Nat := ((s.1 * 256 + (upToO 255 x.2).getD 0) % 4294967296, x.1)
def fA (xs : List (Nat × ByteArray)) : Nat × Nat := xs.foldl stA (0, 0)
theorem fA_snoc (xs : List (Nat × ByteArray)) (x : Nat × ByteArray) : fA (xs ++ [x]) = stA (fA xs) x := by simp [fA]

theorem opt_some {o : Option Nat} (h : o.isSome = true) : ∃ n, o = some n := by cases o <;> simp_all

theorem okA_all {ps : List (List UInt8)} {v : Nat} (h : addrL (ps.map fun p => upToO 255 (bs p)) = some v) : ∀ x ∈ ixs 0 ps, okA x = true := by
  obtain ⟨a, b, c, d, hl, _⟩ := addrL_some h
  have hlen := congrArg List.length hl
  rw [List.length_map] at hlen
  match ps, hlen with
  | [p, q, r, t], _ =>
    simp only [List.map_cons, List.map_nil, List.cons.injEq, and_true] at hl
    obtain ⟨h1, h2, h3, h4⟩ := hl
    intro x hx
    simp only [ixs, List.mem_cons, List.not_mem_nil, or_false] at hx
    rcases hx with rfl | rfl | rfl | rfl <;> simp [okA, h1, h2, h3, h4]

theorem A_done (ps : List (List UInt8)) (h : ∀ x ∈ ixs 0 ps, okA x = true) : addrL (ps.map fun p => upToO 255 (bs p)) = if (fA (ixs 0 ps)).2 = 3 then some (fA (ixs 0 ps)).1 else none := by
  match ps with
  | [] => rfl
  | [p] => simp [ixs, fA, stA, addrL]
  | [p, q] => simp [ixs, fA, stA, addrL]
  | [p, q, r] => simp [ixs, fA, stA, addrL]
  | [p, q, r, t] =>
    have g : ∀ x ∈ [p, q, r, t], ∃ n, upToO 255 (bs x) = some n ∧ n ≤ 255 := by
      intro x hx
      have : (upToO 255 (bs x)).isSome = true := by
        simp only [ixs, List.mem_cons, List.not_mem_nil, or_false, forall_eq_or_imp, forall_eq, okA, Bool.and_eq_true] at h hx
        rcases hx with rfl | rfl | rfl | rfl
        · exact h.1.1
        · exact h.2.1.1
        · exact h.2.2.1.1
        · exact h.2.2.2.1
      obtain ⟨n, hn⟩ := opt_some this
      exact ⟨n, hn, (upToO_is _ _ _ hn).1⟩
    obtain ⟨a, h1, k1⟩ := g p (by simp)
    obtain ⟨b, h2, k2⟩ := g q (by simp)
    obtain ⟨c, h3, k3⟩ := g r (by simp)
    obtain ⟨d, h4, k4⟩ := g t (by simp)
    simp [ixs, fA, stA, addrL, h1, h2, h3, h4]
    omega
  | p :: q :: r :: t :: u :: ps =>
    have := h (4, bs u) (by simp [ixs])
    simp [okA] at this

theorem A_stop (ps : List (List UInt8)) (pre : List (Nat × ByteArray)) (hp : pre <+: ixs 0 ps) (x : Nat × ByteArray) (hx : x ∈ pre) (hb : okA x = false) : addrL (ps.map fun p => upToO 255 (bs p)) = none := by
  cases h : addrL (ps.map fun p => upToO 255 (bs p)) with
  | none => rfl
  | some v =>
    have := okA_all h x (hp.subset hx)
    rw [hb] at this; cases this

/-- The net's loop: what is right of the pieces that came. -/
def okN (x : Nat × ByteArray) : Bool := match x.1 with
  | 0 => (addrO x.2).isSome
  | 1 => (upToO 32 x.2).isSome
  | _ => false
structure StN where
  addr : Nat
  bits : Nat
  last : Nat
def stN (s : StN) (x : Nat × ByteArray) : StN := match x.1 with
  | 0 => ⟨(addrO x.2).getD 0, s.bits, 0⟩
  | 1 => ⟨s.addr, (upToO 32 x.2).getD 0, 1⟩
  | n + 2 => ⟨s.addr, s.bits, n + 2⟩
def fN (xs : List (Nat × ByteArray)) : StN := xs.foldl stN ⟨0, 0, 0⟩
theorem fN_snoc (xs : List (Nat × ByteArray)) (x : Nat × ByteArray) : fN (xs ++ [x]) = stN (fN xs) x := by simp [fN]

theorem N_done (ps : List (List UInt8)) (h : ∀ x ∈ ixs 0 ps, okN x = true) : netL ps = if (fN (ixs 0 ps)).last = 1 ∧ rightB (fN (ixs 0 ps)).addr (fN (ixs 0 ps)).bits = true then some ((fN (ixs 0 ps)).addr, (fN (ixs 0 ps)).bits) else none := by
  match ps with
  | [] => simp [netL, fN, ixs]
  | [p] => simp [netL, fN, ixs, stN]
  | [p, q] =>
    have h1 := h (0, bs p) (by simp [ixs])
    have h2 := h (1, bs q) (by simp [ixs])
    simp only [okN] at h1 h2
    obtain ⟨a, ha⟩ := opt_some h1
    obtain ⟨b, hb⟩ := opt_some h2
    simp [netL, fN, ixs, stN, ha, hb]
  | p :: q :: r :: ps =>
    have := h (2, bs r) (by simp [ixs])
    simp [okN] at this
theorem N_stop (ps : List (List UInt8)) (pre : List (Nat × ByteArray)) (hp : pre <+: ixs 0 ps) (x : Nat × ByteArray) (hx : x ∈ pre) (hb : okN x = false) : netL ps = none := by
  have hm := hp.subset hx
  match ps with
  | [] => simp [netL]
  | [p] => simp [netL]
  | [p, q] =>
    simp only [ixs, List.mem_cons, List.not_mem_nil, or_false] at hm
    rcases hm with rfl | rfl
    · simp only [okN] at hb
      have : addrO (bs p) = none := by cases h : addrO (bs p) <;> simp_all
      simp [netL, this]
    · simp only [okN] at hb
      have : upToO 32 (bs q) = none := by cases h : upToO 32 (bs q) <;> simp_all
      simp [netL, this]
  | p :: q :: r :: ps => simp [netL]

end Go.Proofs.YtfpjkedcpnmfeaaDoor

/- Regions that draw their order: a stronger condition on worlds may be taken up on the way. Nothing of the program is named here. -/
namespace Go.Proofs.YtfpjkedcpnmfeaaDoor
set_option linter.unusedVariables false
set_option linter.unusedSimpArgs false

theorem wpAnyH_mono {P : Program} {md : Region.Mode} {ops : Array Oper} {Q : Exit → Act → World → Prop} {S S' : World → Prop} (hS : ∀ w, S' w → S w) :
    ∀ (fuel : Nat) (listed : Array Bool) (a : Act) (w : World), wpAnyH P md ops Q S' fuel listed a w → wpAnyH P md ops Q S fuel listed a w
  | 0, _, _, _, h => h
  | fuel + 1, _, _, _, h => ⟨h.1, fun i hi => wpOp_mono (fun a' w' h' => ⟨hS w' h'.1, wpAnyH_mono hS fuel _ a' w' h'.2⟩) (h.2 i hi)⟩

/-- 'wpAnyH_take', the operation's own place said outright. -/
theorem take_at {P : Program} {md : Region.Mode} {ops : Array Oper} {Q : Exit → Act → World → Prop} {S : World → Prop} (d : Option Tmp) {i : Nat} {oi : Oper} {v : Value} {fuel : Nat} {listed : Array Bool} {a : Act} {w : World} (hi : ops[i]? = some oi)
    (hd : oi.dst = d) (hs : Region.noSelect ops = true) (hf : Region.free md ops listed i = true) (hr : (Region.ready md ops listed).contains i = true)
    (hQ : ∀ c a w, Q (.panic c) (a.put oi.dst v) w → Q (.panic c) a w) (hy : YieldsIf P ops S oi v a) (hS : S w)
    (h : wpAnyH P md ops Q S fuel (listed.setIfInBounds i true) (a.put d v) w) : wpAnyH P md ops Q S (fuel + 1) listed a w := by
  subst hd
  exact wpAnyH_take hi hs hf hr hQ hy hS h

end Go.Proofs.YtfpjkedcpnmfeaaDoor

/- syntax: first, right, In, upTo: their contracts. -/
namespace Go.Proofs.YtfpjkedcpnmfeaaDoor
set_option linter.unusedVariables false
set_option linter.unusedSimpArgs false
open Go.RowKit

theorem firstN_le (bits a : Nat) : firstN bits a ≤ a := Nat.div_mul_le_self _ _
theorem first_cast (bits a : Nat) (ha : a < 4294967296) : (a : Int) / 2 ^ (32 - bits) * 2 ^ (32 - bits) % 4294967296 = (firstN bits a : Int) := by
  have h := firstN_le bits a
  have e : (a : Int) / 2 ^ (32 - bits) * 2 ^ (32 - bits) = ((firstN bits a : Nat) : Int) := by simp [firstN]
  rw [e]; omega

set_option maxHeartbeats 400000 in
theorem first_ok (bits a : Nat) (w : World) (hb : bits ≤ 32) (ha : a < 4294967296) :
    Calls Tryd.prog 55 #[.int .i64 bits, .int .u32 a] w fun e w' => e = .returned (.int .u32 (firstN bits a)) ∧ w = w' := by
  go_enter Tryd.func55, Tryd.ntmps55
  go_wp2
  rw [first_cast bits a ha]
  go_ret
  exact ⟨rfl, rfl⟩
theorem first_q (bits a : Nat) (w : World) (hb : bits ≤ 32) (ha : a < 4294967296) :
    Calls Tryd.prog 55 #[.int .i64 bits, .int .u32 a] w fun e w' => e = .returned (.int .u32 (firstN bits a)) ∧ ∃ m, w' = w.drewN m :=
  (first_ok bits a w hb ha).mono fun e w' ⟨h1, h2⟩ => ⟨h1, 0, h2.symm⟩

set_option maxHeartbeats 400000 in
theorem upTo_ok (top : Nat) (s : ByteArray) (w : World) (ht : top ≤ 255) (hl : s.size ≤ 140737488355328) :
    Calls Tryd.prog 73 #[.int .i64 top, .string s] w fun e w' => e = .returned (.tuple #[.int .i64 ((upToO top s).getD 0), .bool (upToO top s).isSome]) ∧ Below w.heap.size w w' := by
  have hp := parse_ok s w hl
  cases hr : parseS s with
  | none =>
    have hu : upToO top s = none := by simp [upToO, hr]
    rw [hr] at hp
    rw [hu]
    clear hu hr
    go_enter Tryd.func73, Tryd.ntmps73
    go_wp2_with fail
    refine hp.mono ?_
    rintro e w1 ⟨rfl, hb1⟩
    clear hp
    simp only [parE]
    go_wp2
    go_ret2
    exact ⟨rfl, hb1⟩
  | some x =>
    obtain ⟨n, k⟩ := x
    rw [hr] at hp
    have hn := (parse_is s n k hr).1
    by_cases hle : n ≤ top
    · have hu : upToO top s = some n := by simp [upToO, hr, hle]
      rw [hu]
      clear hu hr
      go_enter Tryd.func73, Tryd.ntmps73
      go_wp2_with fail
      refine hp.mono ?_
      rintro e w1 ⟨rfl, hb1⟩
      clear hp
      simp only [parE]
      go_wp2
      go_ret2
      exact ⟨rfl, hb1⟩
    · have hu : upToO top s = none := by simp [upToO, hr, hle]
      rw [hu]
      clear hu hr
      go_enter Tryd.func73, Tryd.ntmps73
      go_wp2_with fail
      refine hp.mono ?_
      rintro e w1 ⟨rfl, hb1⟩
      clear hp
      simp only [parE]
      go_wp2
      go_ret2
      exact ⟨rfl, hb1⟩

theorem cast_eq (x y : Nat) : ((x : Int) == (y : Int)) = decide (x = y) := by
  by_cases h : x = y
  · subst h; simp
  · rw [decide_eq_false h, beq_eq_false_iff_ne]; omega

set_option maxHeartbeats 1000000 in
theorem right_ok (a : Nat) (bits : Int) (w : World) (ha : a < 4294967296) :
    Calls Tryd.prog 35 #[.agg #[.int .u32 a, .int .i64 bits]] w fun e w' => e = .returned (.bool (rightB a bits)) ∧ Below w.heap.size w w' := by
  have hbel : ∀ n, Below w.heap.size w ((w.alloc (.cells #[.int .u32 a, .int .i64 bits] 53)).drewN n) := fun n => below_drewN ((Below.refl _ _).alloc (Nat.le_refl _) _) n
  have HB := Lib.hid hbel
  clear hbel
  by_cases h0 : 0 ≤ bits
  · by_cases h1 : bits ≤ 32
    · obtain ⟨b, rfl⟩ := Int.eq_ofNat_of_zero_le h0
      have hb : b ≤ 32 := by omega
      have hr : rightB a b = decide (firstN b a = a) := by
        have e1 : decide ((0 : Int) ≤ (b : Int)) = true := by simp
        have e2 : decide ((b : Int) ≤ 32) = true := by simp; omega
        unfold rightB
        rw [e1, e2]; simp
      rw [hr]
      clear hr h0
      have hd1 : decide ((0 : Int) ≤ (b : Int)) = true := by simp
      have hd2 : decide ((b : Int) ≤ 32) = true := by simp; omega
      have HE := Lib.hid (cast_eq (firstN b a) a)
      go_enter Tryd.func35, Tryd.ntmps35
      go_wp2
      go_quiet (((go_at_call 55; with_reducible exact Calls.quiet_of (first_q b a _ hb ha))))
      go_wp2
      go_ret
      exact ⟨by rw [← HE.out]; rfl, HB.out _⟩
    · have hr : rightB a bits = false := by simp [rightB, h1]
      rw [hr]
      clear hr
      have hd1 : decide ((0 : Int) ≤ bits) = true := by simpa using h0
      have hd2 : decide (bits ≤ 32) = false := by simpa using h1
      go_enter Tryd.func35, Tryd.ntmps35
      go_wp2
      go_quiet (fail)
      go_wp2
      go_ret
      exact ⟨rfl, HB.out _⟩
  · have hr : rightB a bits = false := by simp [rightB, h0]
    rw [hr]
    clear hr
    have hd1 : decide ((0 : Int) ≤ bits) = false := by simpa using h0
    go_enter Tryd.func35, Tryd.ntmps35
    go_wp2
    go_quiet (fail)
    go_wp2
    go_ret
    exact ⟨rfl, HB.out _⟩
end Go.Proofs.YtfpjkedcpnmfeaaDoor

/- A byte of a text, its place a letter. -/
namespace Go.Proofs.YtfpjkedcpnmfeaaDoor
set_option linter.unusedVariables false
set_option linter.unusedSimpArgs false
open Go.RowKit

theorem sidx (s : ByteArray) (i v : Nat) (h : i < s.size) (hv : (s.data.toList.getD i 0).toNat = v) (w : World) : (Instr.index 9 (.string s) (.int .i64 (i : Int))).run Tryd.prog w = .ok (.int .u8 (v : Int)) w := by
  subst hv
  rw [run_index_string (P := Tryd.prog) w 9 s .i64 i Tryd.underlying9]
  have e : s.data.toList.getD i 0 = s[i] := by
    have h2 : i < s.data.toList.length := h
    have : s.data.toList[i] = s[i] := by
      show s.data.toList[i] = s.data[i]
      simp
    rw [← this, List.getD, List.getElem?_eq_getElem h2]; rfl
  rw [e]
  simp [h]

end Go.Proofs.YtfpjkedcpnmfeaaDoor

/- syntax: named, Name: their contracts. -/
namespace Go.Proofs.YtfpjkedcpnmfeaaDoor
set_option linter.unusedVariables false
set_option linter.unusedSimpArgs false
open Go.RowKit

/-- May a name have that byte? -/
def nmdB (c : UInt8) : Bool := (decide (97 ≤ c.toNat) && decide (c.toNat ≤ 122)) || (decide (48 ≤ c.toNat) && decide (c.toNat ≤ 57)) || decide (c.toNat = 45)
def nameB (s : ByteArray) : Bool := decide (1 ≤ s.size) && decide (s.size ≤ 20) && decide ((s.data.toList.getD 0 0).toNat ≠ 45) && decide ((s.data.toList.getD (s.size - 1) 0).toNat ≠ 45) && s.data.toList.all nmdB

set_option maxHeartbeats 400000 in
theorem named_ok (c : UInt8) (w : World) :
    Calls Tryd.prog 58 #[.int .u8 (c.toNat : Int)] w fun e w' => e = .returned (.bool (nmdB c)) ∧ w = w' := by
  obtain ⟨v, hv⟩ : ∃ v, v = c.toNat := ⟨_, rfl⟩
  have hv2 : v < 256 := by rw [hv]; exact c.toNat_lt
  have hN : nmdB c = ((decide (97 ≤ v) && decide (v ≤ 122)) || (decide (48 ≤ v) && decide (v ≤ 57)) || decide (v = 45)) := by rw [nmdB, hv]
  rw [hN, ← hv]
  clear hN hv
  go_enter Tryd.func58, Tryd.ntmps58
  go_wp2
  all_goals (go_ret; refine ⟨?_, rfl⟩; show Ending.returned (.bool _) = .returned (.bool _); refine congrArg _ (congrArg _ ?_); rw [Bool.eq_iff_iff]; simp; omega)


set_option maxHeartbeats 1000000 in
theorem name_ok (s : ByteArray) (w : World) (hs : s.size ≤ 140737488355328) :
    Calls Tryd.prog 40 #[.string s] w fun e w' => e = .returned (.bool (nameB s)) ∧ w = w' := by
  by_cases h0 : s.size = 0
  · have hN : nameB s = false := by simp [nameB, h0]
    rw [hN]
    clear hN
    obtain rfl : s = ⟨#[]⟩ := by cases s; rename_i d; simp [ByteArray.size] at h0; rw [h0]
    go_enter Tryd.func40, Tryd.ntmps40
    go_wp2
    go_ret
    exact ⟨rfl, rfl⟩
  have hne : (s.toList == []) = false := by
    rw [beq_eq_false_iff_ne, ByteArray.toList_eq]
    intro h
    apply h0
    have := congrArg List.length h
    simpa using this
  by_cases h1 : 20 < s.size
  · have hN : nameB s = false := by have : ¬ s.size ≤ 20 := by omega
                                    simp [nameB, this]
    rw [hN]
    clear hN
    go_enter Tryd.func40, Tryd.ntmps40
    go_wp2
    go_ret
    exact ⟨rfl, rfl⟩
  have hz : 0 < s.size := by omega
  obtain ⟨v0, hv0⟩ : ∃ v0, (s.data.toList.getD 0 0).toNat = v0 := ⟨_, rfl⟩
  obtain ⟨vl, hvl⟩ : ∃ vl, (s.data.toList.getD (s.size - 1) 0).toNat = vl := ⟨_, rfl⟩
  have hx0 : (Instr.index 9 (.string s) (.int .i64 0)).run Tryd.prog w = .ok (.int .u8 (v0 : Int)) w := sidx s 0 v0 hz hv0 w
  have hd20 : decide ((20 : Int) < (s.size : Int)) = false := by simp; omega
  have hxl := sidx s (s.size - 1) vl (by omega) hvl w
  rw [show ((s.size - 1 : Nat) : Int) = (s.size : Int) - 1 by omega] at hxl
  have hN : nameB s = (decide (v0 ≠ 45) && decide (vl ≠ 45) && s.data.toList.all nmdB) := by
    unfold nameB
    rw [hv0, hvl, decide_eq_true (by omega : 1 ≤ s.size), decide_eq_true (by omega : s.size ≤ 20)]; simp
  rw [hN]
  clear hN hv0 hvl
  by_cases d0 : v0 = 45
  · subst d0
    go_enter Tryd.func40, Tryd.ntmps40
    go_wp2
    go_ret
    exact ⟨rfl, rfl⟩
  have e0 : ((v0 : Int) == 45) = false := by rw [beq_eq_false_iff_ne]; omega
  by_cases dl : vl = 45
  · subst dl
    rw [decide_eq_true d0]
    clear d0
    go_enter Tryd.func40, Tryd.ntmps40
    go_wp2
    go_ret
    exact ⟨rfl, rfl⟩
  have el : ((vl : Int) == 45) = false := by rw [beq_eq_false_iff_ne]; omega
  rw [decide_eq_true d0, decide_eq_true dl]
  obtain ⟨R, hR⟩ : ∃ R, R = (true && true && s.data.toList.all nmdB) := ⟨_, rfl⟩
  rw [← hR]
  have HR := Lib.hid (show R = s.data.toList.all nmdB by rw [hR]; simp)
  clear hR d0 dl
  go_enter Tryd.func40, Tryd.ntmps40
  go_wp2_with fail
  clear hx0 hxl e0 el hne hd20
  go_loop [26] (fun v26 => ∃ i : Nat, i ≤ s.size ∧ v26 = .int .i64 i ∧ Hid (R = (s.data.toList.drop i).all nmdB)) (fun v26 => s.size - (intOf v26).toNat)
  case atStart => exact ⟨0, by omega, rfl, HR⟩
  case round =>
    obtain ⟨i, hi, rfl, HE⟩ := hrel
    clear HR
    by_cases hlt : i < s.size
    · obtain ⟨c, hc⟩ : ∃ c, s.data.toList.getD i 0 = c := ⟨_, rfl⟩
      have hxi := sidx s i c.toNat hlt (by rw [hc]) w
      have hcons : s.data.toList.drop i = c :: s.data.toList.drop (i + 1) := by
        have h2 : i < s.data.toList.length := hlt
        rw [List.drop_eq_getElem_cons h2, ← hc, List.getD, List.getElem?_eq_getElem h2]; rfl
      have HC := Lib.hid (show R = (nmdB c && (s.data.toList.drop (i + 1)).all nmdB) by rw [HE.out, hcons, List.all_cons])
      clear hcons hc
      have HNM := Lib.hid (named_ok c w)
      by_cases hb : nmdB c = true
      · rw [hb] at HC HNM
        go_wp2_with (refine HNM.out.mono ?_; rintro e w' ⟨rfl, rfl⟩)
        go_round
        case rel => exact ⟨i + 1, by omega, by go_num, Lib.hid (by rw [HC.out]; simp)⟩
        case measure => simp [intOf]; omega
      · have hb2 : nmdB c = false := by simpa using hb
        rw [hb2] at HC HNM
        clear hb hb2
        go_wp2_with (refine HNM.out.mono ?_; rintro e w' ⟨rfl, rfl⟩)
        go_ret
        exact ⟨by rw [HC.out]; rfl, rfl⟩
    · have HF := Lib.hid (show R = true by rw [HE.out, List.drop_of_length_le (by show s.size ≤ i; omega)]; rfl)
      go_wp2
      go_ret
      exact ⟨by rw [HF.out]; rfl, rfl⟩
end Go.Proofs.YtfpjkedcpnmfeaaDoor

/- Configurations, their texts, and what is read of a text: plain mathematics. -/
namespace Go.Proofs.YtfpjkedcpnmfeaaDoor
set_option linter.unusedVariables false
set_option linter.unusedSimpArgs false

/-! ### What may be -/

structure Nt where
  addr : Nat
  bits : Int
structure Tk where
  name : ByteArray
  sec : ByteArray
  till : Int
structure Tn where
  name : ByteArray
  names : Int
  visitors : Int
  nets : List Nt
  toks : List Tk
structure Cg where
  wait : Int
  grace : Int
  idle : Int
  lease : Int
  tens : List Tn

/-- Is one text less than another one? -/
def ltS (a b : ByteArray) : Bool := Op.bytesLess a.toList b.toList
/-- Are these names, each greater than the one ahead of it? -/
def rise : ByteArray → List ByteArray → Bool
  | _, [] => true
  | last, x :: r => nameB x && ltS last x && rise x r
def netB (n : Nt) : Bool := rightB n.addr n.bits
def tokB (k : Tk) : Bool := decide (1 ≤ k.sec.size) && decide (k.sec.size ≤ 32) && decide (0 ≤ k.till) && decide (k.till ≤ 1099511627776)
def quoB (n : Int) : Bool := decide (0 ≤ n) && decide (n ≤ 8)
def tenB (t : Tn) : Bool := quoB t.names && quoB t.visitors && decide (t.nets.length ≤ 4) && t.nets.all netB && decide (t.toks.length ≤ 4) && rise ByteArray.empty (t.toks.map (·.name)) && t.toks.all tokB
def timB (n : Int) : Bool := decide (1 ≤ n) && decide (n ≤ 1073741824)
def cfgB (c : Cg) : Bool := timB c.wait && timB c.grace && timB c.idle && timB c.lease && decide (c.tens.length ≤ 8) && rise ByteArray.empty (c.tens.map (·.name)) && c.tens.all tenB

theorem rise_app : ∀ (a b : List ByteArray) (l : ByteArray), rise l (a ++ b) = true → rise l a = true
  | [], _, _, _ => rfl
  | x :: a, b, l, h => by
    rw [List.cons_append, rise, Bool.and_eq_true] at h
    rw [rise, Bool.and_eq_true]
    exact ⟨h.1, rise_app a b x h.2⟩

/-! ### Lines -/

def wTimes : List UInt8 := [116, 105, 109, 101, 115]
def wTenant : List UInt8 := [116, 101, 110, 97, 110, 116]
def wNet : List UInt8 := [110, 101, 116]
def wToken : List UInt8 := [116, 111, 107, 101, 110]

def timesW (c : Cg) : List (List UInt8) := [wTimes, decB c.wait.toNat, decB c.grace.toNat, decB c.idle.toNat, decB c.lease.toNat]
def tenW (t : Tn) : List (List UInt8) := [wTenant, t.name.data.toList, decB t.names.toNat, decB t.visitors.toNat]
def netW (n : Nt) : List (List UInt8) := [wNet, slashL n.addr n.bits]
def tokW (k : Tk) : List (List UInt8) := [wToken, k.name.data.toList, hexB k.sec.data.toList, decB k.till.toNat]
def tenLs (t : Tn) : List (List (List UInt8)) := tenW t :: (t.nets.map netW ++ t.toks.map tokW)
def cfgLs (c : Cg) : List (List (List UInt8)) := timesW c :: c.tens.flatMap tenLs
def lineT (ws : List (List UInt8)) : List UInt8 := joinL 32 ws ++ [10]
def textT (ls : List (List (List UInt8))) : List UInt8 := ls.flatMap lineT
def printT (c : Cg) : List UInt8 := if cfgB c = true then textT (cfgLs c) else []

/-- The lines of a text, each with whether it has an end. -/
def linesL : List UInt8 → List (List UInt8 × Bool)
  | [] => []
  | x :: r => if x = 10 then ([], true) :: linesL r else
    match linesL r with
    | [] => [([x], false)]
    | (p, e) :: ps => (x :: p, e) :: ps

theorem linesL_cons (x : UInt8) (r : List UInt8) : ∃ p e ps, linesL (x :: r) = (p, e) :: ps := by
  unfold linesL
  by_cases h : x = 10
  · exact ⟨_, _, _, by rw [if_pos h]⟩
  · rw [if_neg h]
    split
    · exact ⟨_, _, _, rfl⟩
    · exact ⟨_, _, _, rfl⟩

theorem lines_cut : ∀ l : List UInt8, l ≠ [] → linesL l = ((cutL 10 l).1, (cutL 10 l).2.2) :: linesL (cutL 10 l).2.1
  | [], h => absurd rfl h
  | x :: r, _ => by
    rw [linesL, cutL]
    by_cases hx : x = 10
    · rw [if_pos hx, if_pos hx]
    · rw [if_neg hx, if_neg hx]
      cases r with
      | nil => rfl
      | cons y r =>
        have ih := lines_cut (y :: r) (by simp)
        rw [ih]

theorem lines_hit (p r : List UInt8) (h : (10 : UInt8) ∉ p) : linesL (p ++ 10 :: r) = (p, true) :: linesL r := by
  have := lines_cut (p ++ 10 :: r) (by simp)
  rw [this, cutL_hit 10 p r h]
theorem lines_miss (p : List UInt8) (h : (10 : UInt8) ∉ p) (h0 : p ≠ []) : linesL p = [(p, false)] := by
  have := lines_cut p h0
  rw [this, cutL_miss 10 p h]
  rfl
theorem lines_no : ∀ l : List UInt8, ∀ p e, (p, e) ∈ linesL l → (10 : UInt8) ∉ p
  | [], _, _, h => by cases h
  | x :: r, p, e, h => by
    have ih := lines_no r
    unfold linesL at h
    by_cases hx : x = 10
    · rw [if_pos hx] at h
      rcases List.mem_cons.1 h with h | h
      · injection h with h1 h2; rw [h1]; simp
      · exact ih p e h
    · rw [if_neg hx] at h
      cases hl : linesL r with
      | nil =>
        rw [hl] at h
        simp only [List.mem_singleton] at h
        injection h with h1 h2
        rw [h1]
        simp only [List.mem_singleton]
        exact fun k => hx k.symm
      | cons q qs =>
        obtain ⟨q1, q2⟩ := q
        rw [hl] at h ih
        simp only [List.mem_cons] at h
        rcases h with h | h
        · injection h with h1 h2
          rw [h1, List.mem_cons, not_or]
          exact ⟨fun k => hx k.symm, ih q1 q2 (by simp)⟩
        · exact ih p e (List.mem_cons_of_mem _ h)
/-- A text of whole lines is its lines. -/
theorem lines_text : ∀ l : List UInt8, (∀ x ∈ linesL l, x.2 = true) → l = (linesL l).flatMap fun x => x.1 ++ [10]
  | [], _ => rfl
  | x :: r, h => by
    have ih := lines_text r
    unfold linesL at h ⊢
    by_cases hx : x = 10
    · rw [if_pos hx] at h ⊢
      have := ih (fun y hy => h y (List.mem_cons_of_mem _ hy))
      rw [List.flatMap_cons, ← this, hx]; rfl
    · rw [if_neg hx] at h ⊢
      cases hl : linesL r with
      | nil =>
        rw [hl] at h
        have := h ([x], false) (by simp)
        cases this
      | cons q qs =>
        obtain ⟨q1, q2⟩ := q
        rw [hl] at h ih
        have := ih (fun y hy => by
          rcases List.mem_cons.1 hy with h1 | h1
          · rw [h1]; exact h (x :: q1, q2) (by simp)
          · exact h y (List.mem_cons_of_mem _ h1))
        simp only [List.flatMap_cons] at this ⊢
        rw [List.cons_append, List.cons_append, ← this]

/-! ### What is read -/

def decO (w : List UInt8) : Option Nat := (parseS (bs w)).map (·.1)
theorem decO_back (n : Nat) (h : n ≤ 1099511627776) : decO (decB n) = some n := by
  obtain ⟨k, hk⟩ := parse_back n h
  simp [decO, hk]
theorem decO_is (w : List UInt8) (n : Nat) (h : decO w = some n) : n ≤ 1099511627776 ∧ w = decB n := by
  unfold decO at h
  cases hp : parseS (bs w) with
  | none => rw [hp] at h; cases h
  | some x =>
    obtain ⟨m, k⟩ := x
    rw [hp] at h
    obtain rfl : m = n := by injection h
    obtain ⟨h1, h2⟩ := parse_is _ m k hp
    exact ⟨h1, bs_inj h2⟩

/-- With another last tenant. -/
def lastC (c : Cg) : Option Tn := c.tens.getLast?
def setC (c : Cg) (t : Tn) : Cg := { c with tens := c.tens.dropLast ++ [t] }
def zeroC : Cg := ⟨0, 0, 0, 0, []⟩

def readTimes (c : Cg) : List (List UInt8) → Option Cg
  | [a, b, d, e] => match decO a, decO b, decO d, decO e with
    | some a, some b, some d, some e => some ⟨a, b, d, e, c.tens⟩
    | _, _, _, _ => none
  | _ => none
def readTenant (c : Cg) : List (List UInt8) → Option Cg
  | [n, a, b] => match decO a, decO b with
    | some a, some b => some { c with tens := c.tens ++ [⟨bs n, a, b, [], []⟩] }
    | _, _ => none
  | _ => none
def readNet (c : Cg) : List (List UInt8) → Option Cg
  | [n] => match lastC c with
    | none => none
    | some t => if t.toks = [] then match netO (bs n) with
      | some x => some (setC c { t with nets := t.nets ++ [⟨x.1, x.2⟩] })
      | none => none
      else none
  | _ => none
def readToken (c : Cg) : List (List UInt8) → Option Cg
  | [n, s, u] => match lastC c with
    | none => none
    | some t => match unhexB s, decO u with
      | some b, some v => some (setC c { t with toks := t.toks ++ [⟨bs n, bs b, v⟩] })
      | _, _ => none
  | _ => none
def readW (c : Cg) : List (List UInt8) → Option Cg
  | [] => none
  | k :: ws => if k = wTimes then readTimes c ws else if k = wTenant then readTenant c ws else if k = wNet then readNet c ws else if k = wToken then readToken c ws else none
def okC (o : Option Cg) : Option Cg := match o with
  | some c => if cfgB c = true then some c else none
  | none => none
/-- One line, the first one or another one. -/
def lineC (c : Cg) (first : Bool) (ws : List (List UInt8)) : Option Cg := if decide (ws.head? = some wTimes) = first then okC (readW c ws) else none
def runL : Cg → Nat → List (List UInt8 × Bool) → Except Nat Cg
  | c, at', [] => if at' = 0 then .error 0 else .ok c
  | c, at', (l, e) :: r => if e = true then match lineC c (at' == 0) (piecesL 32 l) with
    | some c' => runL c' (at' + 1) r
    | none => .error at'
    else .error at'
def parseC (s : ByteArray) : Except Nat Cg := runL zeroC 0 (linesL s.data.toList)

end Go.Proofs.YtfpjkedcpnmfeaaDoor

/- Configurations in memory: rows of structs that slices read as. -/
namespace Go.Proofs.YtfpjkedcpnmfeaaDoor
set_option linter.unusedVariables false
set_option linter.unusedSimpArgs false
open Go.RowKit

/-- The slice at A reads as the rows l, of k cells each. -/
def Rw {β : Type} (k : Nat) (f : β → Array Value) (w : World) (A : Option Addr) (l : List β) : Prop :=
  l = [] ∨ ∃ b o, A = some ⟨b, o, none⟩ ∧ b < w.heap.size ∧ ∀ i, (h : i < l.length) → ∀ j, j < k → w.cell? ⟨b, o + i * k + j, none⟩ = (f l[i])[j]?
theorem Rw.nil {β : Type} {k : Nat} {f : β → Array Value} {w : World} {A : Option Addr} : Rw k f w A [] := .inl rfl
theorem Rw.on {β : Type} {k : Nat} {f : β → Array Value} {w w' : World} {A : Option Addr} {l : List β} (h : Rw k f w A l) (hb : Below w.heap.size w w') : Rw k f w' A l := by
  rcases h with h | ⟨b, o, e, hlt, hc⟩
  · exact .inl h
  · exact .inr ⟨b, o, e, Nat.lt_of_lt_of_le hlt hb.size, fun i hi j hj => (hb.cell (p := ⟨b, o + i * k + j, none⟩) hlt).trans (hc i hi j hj)⟩
/-- One of the rows, in every later world. -/
theorem Rw.at_ {β : Type} {k : Nat} {f : β → Array Value} {w : World} {A : Option Addr} {l : List β} (h : Rw k f w A l) (i : Nat) (hi : i < l.length) :
    ∃ b o x, A = some ⟨b, o, none⟩ ∧ l[i]? = some x ∧ ∀ u, Below w.heap.size w u → ∀ j, j < k → u.cell? ⟨b, o + i * k + j, none⟩ = (f x)[j]? := by
  rcases h with h | ⟨b, o, e, hlt, hc⟩
  · subst h; simp at hi
  · exact ⟨b, o, l[i], e, List.getElem?_eq_getElem hi, fun u hb j hj => (hb.cell (p := ⟨b, o + i * k + j, none⟩) hlt).trans (hc i hi j hj)⟩

abbrev ncs (n : Nt) : Array Value := #[.int .u32 (n.addr : Int), .int .i64 n.bits]
abbrev kcs (k : Tk) : Array Value := #[.string k.name, .string k.sec, .int .i64 k.till]
/-- A tenant, with where its rows lie. -/
structure Tv where
  t : Tn
  An : Option Addr
  cn : Nat
  Ak : Option Addr
  ck : Nat
abbrev tcs (x : Tv) : Array Value := #[.string x.t.name, .int .i64 x.t.names, .int .i64 x.t.visitors, .slice x.An x.t.nets.length x.cn, .slice x.Ak x.t.toks.length x.ck]
structure Cv where
  wait : Int
  grace : Int
  idle : Int
  lease : Int
  ts : List Tv
  A : Option Addr
  c : Nat
abbrev ccs (x : Cv) : Array Value := #[.int .i64 x.wait, .int .i64 x.grace, .int .i64 x.idle, .int .i64 x.lease, .slice x.A x.ts.length x.c]
def Cv.cg (x : Cv) : Cg := ⟨x.wait, x.grace, x.idle, x.lease, x.ts.map (·.t)⟩

/-- Where a slice of n rows may lie. -/
structure Fit (A : Option Addr) (n c : Nat) : Prop where
  cap : n ≤ c
  max : c ≤ 9223372036854775807
  nil_ : A = none → n = 0 ∧ c = 0

abbrev RN (w : World) (A : Option Addr) (l : List Nt) : Prop := Rw 2 ncs w A l
abbrev RK (w : World) (A : Option Addr) (l : List Tk) : Prop := Rw 3 kcs w A l
structure RT1 (w : World) (x : Tv) : Prop where
  n : RN w x.An x.t.nets
  k : RK w x.Ak x.t.toks
  fn : Fit x.An x.t.nets.length x.cn
  fk : Fit x.Ak x.t.toks.length x.ck
  lt : ∀ n ∈ x.t.nets, n.addr < 4294967296
  sz : x.t.name.size ≤ 140737488355328
  szk : ∀ k ∈ x.t.toks, k.name.size ≤ 140737488355328 ∧ k.sec.size ≤ 140737488355328
theorem RT1.on {w w' : World} {x : Tv} (h : RT1 w x) (hb : Below w.heap.size w w') : RT1 w' x := ⟨h.n.on hb, h.k.on hb, h.fn, h.fk, h.lt, h.sz, h.szk⟩
structure RT (w : World) (A : Option Addr) (l : List Tv) : Prop where
  r : Rw 5 tcs w A l
  each : ∀ x ∈ l, RT1 w x
theorem RT.on {w w' : World} {A : Option Addr} {l : List Tv} (h : RT w A l) (hb : Below w.heap.size w w') : RT w' A l := ⟨h.r.on hb, fun x hx => (h.each x hx).on hb⟩
/-- The configuration x lies in memory. -/
structure RC (w : World) (x : Cv) : Prop where
  r : RT w x.A x.ts
  f : Fit x.A x.ts.length x.c
theorem RC.on {w w' : World} {x : Cv} (h : RC w x) (hb : Below w.heap.size w w') : RC w' x := ⟨h.r.on hb, h.f⟩

theorem RN.at2 {w : World} {A : Option Addr} {l : List Nt} (h : RN w A l) (i : Nat) (hi : i < l.length) :
    ∃ b o x, A = some ⟨b, o, none⟩ ∧ l[i]? = some x ∧ ∀ u, Below w.heap.size w u → u.cell? ⟨b, o + i * 2, none⟩ = some (.int .u32 (x.addr : Int)) ∧ u.cell? ⟨b, o + i * 2 + 1, none⟩ = some (.int .i64 x.bits) := by
  obtain ⟨b, o, x, h1, h2, h3⟩ := Rw.at_ h i hi
  exact ⟨b, o, x, h1, h2, fun u hb => ⟨h3 u hb 0 (by omega), h3 u hb 1 (by omega)⟩⟩
theorem RK.at3 {w : World} {A : Option Addr} {l : List Tk} (h : RK w A l) (i : Nat) (hi : i < l.length) :
    ∃ b o x, A = some ⟨b, o, none⟩ ∧ l[i]? = some x ∧ ∀ u, Below w.heap.size w u → u.cell? ⟨b, o + i * 3, none⟩ = some (.string x.name) ∧ u.cell? ⟨b, o + i * 3 + 1, none⟩ = some (.string x.sec) ∧ u.cell? ⟨b, o + i * 3 + 2, none⟩ = some (.int .i64 x.till) := by
  obtain ⟨b, o, x, h1, h2, h3⟩ := Rw.at_ h i hi
  exact ⟨b, o, x, h1, h2, fun u hb => ⟨h3 u hb 0 (by omega), h3 u hb 1 (by omega), h3 u hb 2 (by omega)⟩⟩
theorem RT.at5 {w : World} {A : Option Addr} {l : List Tv} (h : RT w A l) (i : Nat) (hi : i < l.length) :
    ∃ b o x, A = some ⟨b, o, none⟩ ∧ l[i]? = some x ∧ RT1 w x ∧ ∀ u, Below w.heap.size w u → u.cell? ⟨b, o + i * 5, none⟩ = some (.string x.t.name) ∧ u.cell? ⟨b, o + i * 5 + 1, none⟩ = some (.int .i64 x.t.names) ∧ u.cell? ⟨b, o + i * 5 + 2, none⟩ = some (.int .i64 x.t.visitors) ∧
      u.cell? ⟨b, o + i * 5 + 3, none⟩ = some (.slice x.An x.t.nets.length x.cn) ∧ u.cell? ⟨b, o + i * 5 + 4, none⟩ = some (.slice x.Ak x.t.toks.length x.ck) := by
  obtain ⟨b, o, x, h1, h2, h3⟩ := Rw.at_ h.r i hi
  exact ⟨b, o, x, h1, h2, h.each x (List.mem_of_getElem? h2), fun u hb => ⟨h3 u hb 0 (by omega), h3 u hb 1 (by omega), h3 u hb 2 (by omega), h3 u hb 3 (by omega), h3 u hb 4 (by omega)⟩⟩
end Go.Proofs.YtfpjkedcpnmfeaaDoor

/- syntax.In: its contract. (Written by gen_syn.py.) -/
namespace Go.Proofs.YtfpjkedcpnmfeaaDoor
set_option linter.unusedVariables false
set_option linter.unusedSimpArgs false
open Go.RowKit

/-- A net in a block of its own. -/
structure NetAt (B : Nat) (w : World) (g a : Nat) (bits : Int) (u : World) : Prop where
  b : Below B w u
  c0 : u.cell? ⟨g, 0, none⟩ = some (.int .u32 (a : Int))
  c1 : u.cell? ⟨g, 1, none⟩ = some (.int .i64 bits)
  lt : g < u.heap.size
theorem NetAt.on {B : Nat} {w u u' : World} {g a : Nat} {bits : Int} (h : NetAt B w g a bits u) (hB : B ≤ u.heap.size) (hb : Below u.heap.size u u') : NetAt B w g a bits u' :=
  ⟨h.b.trans (hb.mono hB), (hb.cell (p := ⟨g, 0, none⟩) h.lt).trans h.c0, (hb.cell (p := ⟨g, 1, none⟩) h.lt).trans h.c1, Nat.lt_of_lt_of_le h.lt hb.size⟩
theorem NetAt.draw {B : Nat} {w u : World} {g a : Nat} {bits : Int} (h : NetAt B w g a bits u) : NetAt B w g a bits u.drew := ⟨h.b.drew, h.c0, h.c1, h.lt⟩
theorem NetAt.new (w : World) (a : Nat) (bits : Int) (t : TypeId) : NetAt w.heap.size w w.heap.size a bits (w.alloc (.cells #[.int .u32 (a : Int), .int .i64 bits] t)) := by
  have hk : Bk (w.alloc (.cells #[.int .u32 (a : Int), .int .i64 bits] t)) w.heap.size t #[.int .u32 (a : Int), .int .i64 bits] := Bk.new _ _ _
  exact ⟨(Below.refl _ _).alloc (Nat.le_refl _) _, by rw [hk.cell]; rfl, by rw [hk.cell]; rfl, hk.lt⟩
end Go.Proofs.YtfpjkedcpnmfeaaDoor

/- Configurations, there and back: plain mathematics. -/
namespace Go.Proofs.YtfpjkedcpnmfeaaDoor
set_option linter.unusedVariables false
set_option linter.unusedSimpArgs false

/-! ### Words without blanks and ends -/

def fineW (w : List UInt8) : Prop := ∀ c ∈ w, 45 ≤ c.toNat
theorem fine_no {w : List UInt8} (h : fineW w) (c : UInt8) (hc : c.toNat < 45) : c ∉ w := fun k => by have := h c k; omega
theorem dec_fine (n : Nat) : fineW (decB n) := fun c h => by have := (dec_digit n c h).1; omega
theorem dots_fine (a : Nat) : fineW (dotsB a) := by
  intro c h
  unfold dotsB at h
  simp only [joinL, List.mem_append, List.mem_cons] at h
  rcases h with h | h | h | h | h | h | h
  · exact dec_fine _ c h
  · rw [h]; decide
  · exact dec_fine _ c h
  · rw [h]; decide
  · exact dec_fine _ c h
  · rw [h]; decide
  · exact dec_fine _ c h
theorem slash_fine (a : Nat) (b : Int) : fineW (slashL a b) := by
  unfold slashL
  split
  · intro c h
    rcases List.mem_append.1 h with h | h
    · exact dots_fine a c h
    · rcases List.mem_cons.1 h with h | h
      · rw [h]; decide
      · exact dec_fine _ c h
  · intro c h; cases h
theorem dig_fine (n : Nat) : 45 ≤ (dig n).toNat ∨ 16 ≤ n := by
  rcases Nat.lt_or_ge n 16 with h | h
  · left
    have : ∀ k : Fin 16, 45 ≤ (dig k.1).toNat := by decide
    exact this ⟨n, h⟩
  · exact .inr h
theorem hex_fine : ∀ l : List UInt8, fineW (hexB l)
  | [] => fun c h => by cases h
  | x :: r => by
    intro c h
    unfold hexB at h
    have hx := x.toNat_lt
    simp only [List.mem_cons] at h
    rcases h with h | h | h
    · rw [h]; rcases dig_fine (x.toNat / 16) with k | k <;> omega
    · rw [h]; rcases dig_fine (x.toNat % 16) with k | k <;> omega
    · exact hex_fine r c h
theorem name_fine (s : ByteArray) (h : nameB s = true) : fineW s.data.toList := by
  intro c hc
  unfold nameB at h
  simp only [Bool.and_eq_true, decide_eq_true_eq, List.all_eq_true] at h
  have := h.2 c hc
  unfold nmdB at this
  simp only [Bool.or_eq_true, Bool.and_eq_true, decide_eq_true_eq] at this
  omega

def fineL (ws : List (List UInt8)) : Prop := ws ≠ [] ∧ ∀ w ∈ ws, fineW w
theorem pieces_line {ws : List (List UInt8)} (h : fineL ws) : piecesL 32 (joinL 32 ws) = ws :=
  pieces_of 32 ws h.1 (fun p hp => fine_no (h.2 p hp) 32 (by decide))
theorem join_mem (c : UInt8) : ∀ ws : List (List UInt8), ∀ x ∈ joinL c ws, x = c ∨ ∃ w ∈ ws, x ∈ w
  | [], x, h => by cases h
  | [p], x, h => .inr ⟨p, by simp, h⟩
  | p :: q :: ps, x, h => by
    rw [joinL] at h
    rcases List.mem_append.1 h with h | h
    · exact .inr ⟨p, by simp, h⟩
    · rcases List.mem_cons.1 h with h | h
      · exact .inl h
      · rcases join_mem c (q :: ps) x h with h | ⟨w, h1, h2⟩
        · exact .inl h
        · exact .inr ⟨w, List.mem_cons_of_mem _ h1, h2⟩
theorem line_no {ws : List (List UInt8)} (h : fineL ws) : (10 : UInt8) ∉ joinL 32 ws := by
  intro k
  rcases join_mem 32 ws 10 k with k | ⟨w, h1, h2⟩
  · exact absurd k (by decide)
  · exact fine_no (h.2 w h1) 10 (by decide) h2
theorem lines_textT : ∀ (ls : List (List (List UInt8))) (r : List UInt8), (∀ ws ∈ ls, fineL ws) → linesL (textT ls ++ r) = ls.map (fun ws => (joinL 32 ws, true)) ++ linesL r
  | [], r, _ => rfl
  | ws :: ls, r, h => by
    have ih := lines_textT ls r (fun x hx => h x (List.mem_cons_of_mem _ hx))
    have e : textT (ws :: ls) ++ r = joinL 32 ws ++ 10 :: (textT ls ++ r) := by simp [textT, lineT]
    rw [e, lines_hit _ _ (line_no (h ws (by simp))), ih]; rfl

theorem rise_names : ∀ (l : List ByteArray) (last : ByteArray), rise last l = true → ∀ x ∈ l, nameB x = true
  | [], _, _, x, h => by cases h
  | y :: r, last, h, x, hx => by
    simp only [rise, Bool.and_eq_true] at h
    rcases List.mem_cons.1 hx with rfl | hx
    · exact h.1.1
    · exact rise_names r y h.2 x hx
theorem wTimes_fine : fineW wTimes := by intro c h; revert c; decide
theorem wTenant_fine : fineW wTenant := by intro c h; revert c; decide
theorem wNet_fine : fineW wNet := by intro c h; revert c; decide
theorem wToken_fine : fineW wToken := by intro c h; revert c; decide

theorem cfgB_parts {c : Cg} (h : cfgB c = true) : timB c.wait = true ∧ timB c.grace = true ∧ timB c.idle = true ∧ timB c.lease = true ∧ c.tens.length ≤ 8 ∧ rise ByteArray.empty (c.tens.map (·.name)) = true ∧ (∀ t ∈ c.tens, tenB t = true) := by
  unfold cfgB at h
  simp only [Bool.and_eq_true, decide_eq_true_eq, List.all_eq_true] at h
  obtain ⟨⟨⟨⟨⟨⟨a, b⟩, d⟩, e⟩, f⟩, g⟩, i⟩ := h
  exact ⟨a, b, d, e, f, g, i⟩
theorem cfgB_mk {c : Cg} (h : timB c.wait = true ∧ timB c.grace = true ∧ timB c.idle = true ∧ timB c.lease = true ∧ c.tens.length ≤ 8 ∧ rise ByteArray.empty (c.tens.map (·.name)) = true ∧ (∀ t ∈ c.tens, tenB t = true)) : cfgB c = true := by
  obtain ⟨a, b, d, e, f, g, i⟩ := h
  unfold cfgB
  simp only [Bool.and_eq_true, decide_eq_true_eq, List.all_eq_true]
  exact ⟨⟨⟨⟨⟨⟨a, b⟩, d⟩, e⟩, f⟩, g⟩, i⟩
theorem tenB_parts {t : Tn} (h : tenB t = true) : quoB t.names = true ∧ quoB t.visitors = true ∧ t.nets.length ≤ 4 ∧ (∀ n ∈ t.nets, netB n = true) ∧ t.toks.length ≤ 4 ∧ rise ByteArray.empty (t.toks.map (·.name)) = true ∧ (∀ k ∈ t.toks, tokB k = true) := by
  unfold tenB at h
  simp only [Bool.and_eq_true, decide_eq_true_eq, List.all_eq_true] at h
  obtain ⟨⟨⟨⟨⟨⟨a, b⟩, d⟩, e⟩, f⟩, g⟩, i⟩ := h
  exact ⟨a, b, d, e, f, g, i⟩
theorem tenB_mk {t : Tn} (h : quoB t.names = true ∧ quoB t.visitors = true ∧ t.nets.length ≤ 4 ∧ (∀ n ∈ t.nets, netB n = true) ∧ t.toks.length ≤ 4 ∧ rise ByteArray.empty (t.toks.map (·.name)) = true ∧ (∀ k ∈ t.toks, tokB k = true)) : tenB t = true := by
  obtain ⟨a, b, d, e, f, g, i⟩ := h
  unfold tenB
  simp only [Bool.and_eq_true, decide_eq_true_eq, List.all_eq_true]
  exact ⟨⟨⟨⟨⟨⟨a, b⟩, d⟩, e⟩, f⟩, g⟩, i⟩

theorem cfg_fine {c : Cg} (h : cfgB c = true) : ∀ ws ∈ cfgLs c, fineL ws := by
  obtain ⟨_, _, _, _, _, hr, ht⟩ := cfgB_parts h
  intro ws hw
  unfold cfgLs at hw
  rcases List.mem_cons.1 hw with rfl | hw
  · refine ⟨by simp [timesW], fun w hw => ?_⟩
    simp only [timesW, List.mem_cons, List.not_mem_nil, or_false] at hw
    rcases hw with rfl | rfl | rfl | rfl | rfl
    · exact wTimes_fine
    all_goals exact dec_fine _
  · obtain ⟨t, htm, hw⟩ := List.mem_flatMap.1 hw
    obtain ⟨_, _, _, _, _, kr, _⟩ := tenB_parts (ht t htm)
    unfold tenLs at hw
    rcases List.mem_cons.1 hw with rfl | hw
    · refine ⟨by simp [tenW], fun w hw => ?_⟩
      simp only [tenW, List.mem_cons, List.not_mem_nil, or_false] at hw
      rcases hw with rfl | rfl | rfl | rfl
      · exact wTenant_fine
      · exact name_fine _ (rise_names _ _ hr _ (List.mem_map.2 ⟨t, htm, rfl⟩))
      all_goals exact dec_fine _
    · rcases List.mem_append.1 hw with hw | hw
      · obtain ⟨n, _, rfl⟩ := List.mem_map.1 hw
        refine ⟨by simp [netW], fun w hw => ?_⟩
        simp only [netW, List.mem_cons, List.not_mem_nil, or_false] at hw
        rcases hw with rfl | rfl
        · exact wNet_fine
        · exact slash_fine _ _
      · obtain ⟨k, hk, rfl⟩ := List.mem_map.1 hw
        refine ⟨by simp [tokW], fun w hw => ?_⟩
        simp only [tokW, List.mem_cons, List.not_mem_nil, or_false] at hw
        rcases hw with rfl | rfl | rfl | rfl
        · exact wToken_fine
        · exact name_fine _ (rise_names _ _ kr _ (List.mem_map.2 ⟨k, hk, rfl⟩))
        · exact hex_fine _
        · exact dec_fine _

/-! ### What is printed is read -/

def runW : Cg → Nat → List (List (List UInt8)) → Option Cg
  | c, _, [] => some c
  | c, at', ws :: r => match lineC c (at' == 0) ws with
    | some c' => runW c' (at' + 1) r
    | none => none
theorem runW_app : ∀ (a b : List (List (List UInt8))) (c c' : Cg) (at' : Nat), runW c at' a = some c' → runW c at' (a ++ b) = runW c' (at' + a.length) b
  | [], b, c, c', at', h => by injection h with h; rw [h]; rfl
  | ws :: a, b, c, c', at', h => by
    rw [List.cons_append, runW]
    rw [runW] at h
    cases hl : lineC c (at' == 0) ws with
    | none => rw [hl] at h; cases h
    | some d =>
      rw [hl] at h
      simp only at h ⊢
      rw [runW_app a b d c' (at' + 1) h, List.length_cons]
      congr 1; omega
theorem runL_map : ∀ (ls : List (List (List UInt8))) (r : List (List UInt8 × Bool)) (c c' : Cg) (at' : Nat), (∀ ws ∈ ls, fineL ws) → runW c at' ls = some c' → runL c at' (ls.map (fun ws => (joinL 32 ws, true)) ++ r) = runL c' (at' + ls.length) r
  | [], r, c, c', at', _, h => by injection h with h; rw [h]; rfl
  | ws :: ls, r, c, c', at', hf, h => by
    rw [runW] at h
    rw [List.map_cons, List.cons_append, runL, if_pos rfl, pieces_line (hf ws (by simp))]
    cases hl : lineC c (at' == 0) ws with
    | none => rw [hl] at h; cases h
    | some d =>
      rw [hl] at h
      simp only at h ⊢
      rw [runL_map ls r d c' (at' + 1) (fun x hx => hf x (List.mem_cons_of_mem _ hx)) h, List.length_cons]
      congr 1; omega

theorem toNat_back {n : Int} (h0 : 0 ≤ n) (h1 : n ≤ 1099511627776) : decO (decB n.toNat) = some n.toNat ∧ ((n.toNat : Nat) : Int) = n := ⟨decO_back _ (by omega), by omega⟩

def cT (c : Cg) (T : List Tn) : Cg := { c with tens := T }
theorem tenB_pre {t : Tn} (h : tenB t = true) {n1 n2 : List Nt} {k1 k2 : List Tk} (hn : t.nets = n1 ++ n2) (hk : t.toks = k1 ++ k2) : tenB { t with nets := n1, toks := k1 } = true := by
  obtain ⟨a, b, d, e, f, g, i⟩ := tenB_parts h
  rw [hn] at d e
  rw [hk] at f g i
  rw [List.length_append] at d f
  rw [List.map_append] at g
  exact tenB_mk ⟨a, b, by show n1.length ≤ 4; omega, fun n hm => e n (List.mem_append.2 (.inl hm)), by show k1.length ≤ 4; omega, rise_app _ _ _ g, fun k hm => i k (List.mem_append.2 (.inl hm))⟩
theorem cfgB_pre {c : Cg} {T S : List Tn} {t t' : Tn} (h : cfgB (cT c (T ++ t :: S)) = true) (hn : t'.name = t.name) (ht : tenB t' = true) : cfgB (cT c (T ++ [t'])) = true := by
  obtain ⟨a, b, d, e, f, g, i⟩ := cfgB_parts h
  refine cfgB_mk ⟨a, b, d, e, ?_, ?_, ?_⟩
  · have f' : (T ++ t :: S).length ≤ 8 := f
    show (T ++ [t']).length ≤ 8
    rw [List.length_append, List.length_cons] at f'
    rw [List.length_append, List.length_singleton]; omega
  · have g' : rise ByteArray.empty ((T ++ t :: S).map (·.name)) = true := g
    show rise ByteArray.empty ((T ++ [t']).map (·.name)) = true
    have e1 : (T ++ t :: S).map (·.name) = (T ++ [t']).map (·.name) ++ S.map (·.name) := by simp [hn]
    rw [e1] at g'
    exact rise_app _ _ _ g'
  · intro x hx
    rcases List.mem_append.1 (show x ∈ T ++ [t'] from hx) with hx | hx
    · exact i x (List.mem_append.2 (.inl hx))
    · rw [List.mem_singleton.1 hx]; exact ht
theorem cfgB_pre0 {c : Cg} {T S : List Tn} (h : cfgB (cT c (T ++ S)) = true) : cfgB (cT c T) = true := by
  obtain ⟨a, b, d, e, f, g, i⟩ := cfgB_parts h
  have f' : (T ++ S).length ≤ 8 := f
  have g' : rise ByteArray.empty ((T ++ S).map (·.name)) = true := g
  rw [List.length_append] at f'
  rw [List.map_append] at g'
  exact cfgB_mk ⟨a, b, d, e, by show T.length ≤ 8; omega, rise_app _ _ _ g', fun x hx => i x (List.mem_append.2 (.inl hx))⟩

theorem kw1 : wTenant ≠ wTimes := by decide
theorem kw2 : wNet ≠ wTimes := by decide
theorem kw3 : wToken ≠ wTimes := by decide
theorem kw4 : wNet ≠ wTenant := by decide
theorem kw5 : wToken ≠ wTenant := by decide
theorem kw6 : wToken ≠ wNet := by decide
theorem lineC_of {c c' : Cg} {first : Bool} {ws : List (List UInt8)} (h1 : decide (ws.head? = some wTimes) = first) (h2 : readW c ws = some c') (h3 : cfgB c' = true) : lineC c first ws = some c' := by
  unfold lineC okC
  rw [if_pos h1, h2]
  simp only
  rw [if_pos h3]
theorem quo_le {n : Int} (h : quoB n = true) : 0 ≤ n ∧ n ≤ 8 := by simpa [quoB] using h
theorem tim_le {n : Int} (h : timB n = true) : 1 ≤ n ∧ n ≤ 1073741824 := by simpa [timB] using h

theorem run_nets (c : Cg) (T : List Tn) (t : Tn) (S : List Tn) (ht : cfgB (cT c (T ++ t :: S)) = true) (hlt : ∀ n ∈ t.nets, n.addr < 4294967296) : ∀ (n2 n1 : List Nt) (at' : Nat), t.nets = n1 ++ n2 → runW (cT c (T ++ [{ t with nets := n1, toks := [] }])) (at' + 1) (n2.map netW) = some (cT c (T ++ [{ t with nets := t.nets, toks := [] }]))
  | [], n1, at', h => by rw [List.append_nil] at h; rw [h]; rfl
  | x :: n2, n1, at', h => by
    have hT := tenB_parts ((cfgB_parts ht).2.2.2.2.2.2 t (by show t ∈ T ++ t :: S; simp))
    have hx := hT.2.2.2.1 x (by rw [h]; simp)
    have hb : tenB { t with nets := n1 ++ [x], toks := [] } = true := tenB_pre (t := t) ((cfgB_parts ht).2.2.2.2.2.2 t (by show t ∈ T ++ t :: S; simp)) (n2 := n2) (k2 := t.toks) (by rw [h]; simp) (by simp)
    have e1 : readW (cT c (T ++ [{ t with nets := n1, toks := [] }])) (netW x) = some (cT c (T ++ [{ t with nets := n1 ++ [x], toks := [] }])) := by
      unfold netW readW
      simp only [if_neg kw2, if_neg kw4, if_pos]
      unfold readNet lastC
      simp only [cT, List.getLast?_append, List.getLast?_singleton, Option.some_or, if_pos]
      have hb2 : rightB x.addr x.bits = true := hx
      rw [net_back x.addr x.bits (hlt x (by rw [h]; simp)) hb2]
      have hbits : ((x.bits.toNat : Nat) : Int) = x.bits := by
        unfold rightB at hb2
        simp only [Bool.and_eq_true, decide_eq_true_eq] at hb2
        omega
      simp only [setC, hbits]
      rw [List.dropLast_concat]
    rw [List.map_cons, runW]
    have e2 : lineC (cT c (T ++ [{ t with nets := n1, toks := [] }])) (at' + 1 == 0) (netW x) = some (cT c (T ++ [{ t with nets := n1 ++ [x], toks := [] }])) :=
      lineC_of (by rw [show (at' + 1 == 0) = false by simp]; simp [netW, kw2]) e1 (cfgB_pre ht rfl hb)
    rw [e2]
    simp only
    exact run_nets c T t S ht hlt n2 (n1 ++ [x]) (at' + 1) (by rw [h]; simp)

theorem run_toks (c : Cg) (T : List Tn) (t : Tn) (S : List Tn) (ht : cfgB (cT c (T ++ t :: S)) = true) : ∀ (k2 k1 : List Tk) (at' : Nat), t.toks = k1 ++ k2 → runW (cT c (T ++ [{ t with toks := k1 }])) (at' + 1) (k2.map tokW) = some (cT c (T ++ [t]))
  | [], k1, at', h => by rw [List.append_nil] at h; rw [← h]; rfl
  | x :: k2, k1, at', h => by
    have hTb := (cfgB_parts ht).2.2.2.2.2.2 t (by show t ∈ T ++ t :: S; simp)
    have hT := tenB_parts hTb
    have hx := hT.2.2.2.2.2.2 x (by rw [h]; simp)
    have hb : tenB { t with nets := t.nets, toks := k1 ++ [x] } = true := tenB_pre (t := t) hTb (n2 := []) (k2 := k2) (by simp) (by rw [h]; simp)
    have e1 : readW (cT c (T ++ [{ t with toks := k1 }])) (tokW x) = some (cT c (T ++ [{ t with toks := k1 ++ [x] }])) := by
      unfold tokW readW
      simp only [if_neg kw3, if_neg kw5, if_neg kw6, if_pos]
      unfold readToken lastC
      simp only [cT, List.getLast?_append, List.getLast?_singleton, Option.some_or, if_pos]
      unfold tokB at hx
      simp only [Bool.and_eq_true, decide_eq_true_eq] at hx
      obtain ⟨b1, b2⟩ := toNat_back hx.1.2 hx.2
      rw [unhexB_hexB, b1]
      simp only [setC, b2, bs_of]
      rw [List.dropLast_concat]
    rw [List.map_cons, runW]
    have e2 : lineC (cT c (T ++ [{ t with toks := k1 }])) (at' + 1 == 0) (tokW x) = some (cT c (T ++ [{ t with toks := k1 ++ [x] }])) :=
      lineC_of (by rw [show (at' + 1 == 0) = false by simp]; simp [tokW, kw3]) e1 (cfgB_pre ht rfl hb)
    rw [e2]
    simp only
    exact run_toks c T t S ht k2 (k1 ++ [x]) (at' + 1) (by rw [h]; simp)

def netsLt (c : Cg) : Prop := ∀ t ∈ c.tens, ∀ n ∈ t.nets, n.addr < 4294967296

theorem run_ten (c : Cg) (T : List Tn) (t : Tn) (S : List Tn) (ht : cfgB (cT c (T ++ t :: S)) = true) (hlt : ∀ n ∈ t.nets, n.addr < 4294967296) (at' : Nat) : runW (cT c T) (at' + 1) (tenLs t) = some (cT c (T ++ [t])) := by
  have hTb := (cfgB_parts ht).2.2.2.2.2.2 t (by show t ∈ T ++ t :: S; simp)
  have hT := tenB_parts hTb
  have hb : tenB { t with nets := [], toks := [] } = true := tenB_pre (t := t) hTb (n2 := t.nets) (k2 := t.toks) (by simp) (by simp)
  have e1 : readW (cT c T) (tenW t) = some (cT c (T ++ [{ t with nets := [], toks := [] }])) := by
    unfold tenW readW
    simp only [if_neg kw1, if_pos]
    unfold readTenant
    obtain ⟨a1, a2⟩ := toNat_back (n := t.names) (quo_le hT.1).1 (by have := (quo_le hT.1).2; omega)
    obtain ⟨b1, b2⟩ := toNat_back (n := t.visitors) (quo_le hT.2.1).1 (by have := (quo_le hT.2.1).2; omega)
    simp only [a1, b1, a2, b2, bs_of]
    rfl
  have e2 : lineC (cT c T) (at' + 1 == 0) (tenW t) = some (cT c (T ++ [{ t with nets := [], toks := [] }])) :=
    lineC_of (by rw [show (at' + 1 == 0) = false by simp]; simp [tenW, kw1]) e1 (cfgB_pre ht rfl hb)
  unfold tenLs
  rw [runW, e2]
  simp only
  rw [runW_app _ _ _ _ _ (run_nets c T t S ht hlt t.nets [] (at' + 1) rfl)]
  have := run_toks c T t S ht t.toks [] (at' + 1 + (t.nets.map netW).length) rfl
  rw [show at' + 1 + 1 + (t.nets.map netW).length = at' + 1 + (t.nets.map netW).length + 1 by omega]
  exact this

theorem run_tens (c : Cg) : ∀ (S T : List Tn) (at' : Nat), cfgB (cT c (T ++ S)) = true → (∀ t ∈ S, ∀ n ∈ t.nets, n.addr < 4294967296) → runW (cT c T) (at' + 1) (S.flatMap tenLs) = some (cT c (T ++ S))
  | [], T, at', _, _ => by rw [List.append_nil]; rfl
  | t :: S, T, at', h, hl => by
    rw [List.flatMap_cons, runW_app _ _ _ _ _ (run_ten c T t S h (hl t (by simp)) at')]
    have e : T ++ t :: S = (T ++ [t]) ++ S := by simp
    rw [e] at h ⊢
    have := run_tens c S (T ++ [t]) (at' + (tenLs t).length) h (fun x hx => hl x (List.mem_cons_of_mem _ hx))
    rw [show at' + 1 + (tenLs t).length = at' + (tenLs t).length + 1 by omega]
    exact this

theorem run_cfg {c : Cg} (h : cfgB c = true) (hl : netsLt c) : runW zeroC 0 (cfgLs c) = some c := by
  obtain ⟨a, b, d, e, _, _, _⟩ := cfgB_parts h
  have e1 : readW zeroC (timesW c) = some (cT c []) := by
    unfold timesW readW
    simp only [if_pos]
    unfold readTimes
    obtain ⟨a1, a2⟩ := toNat_back (n := c.wait) (by have := (tim_le a).1; omega) (by have := (tim_le a).2; omega)
    obtain ⟨b1, b2⟩ := toNat_back (n := c.grace) (by have := (tim_le b).1; omega) (by have := (tim_le b).2; omega)
    obtain ⟨d1, d2⟩ := toNat_back (n := c.idle) (by have := (tim_le d).1; omega) (by have := (tim_le d).2; omega)
    obtain ⟨f1, f2⟩ := toNat_back (n := c.lease) (by have := (tim_le e).1; omega) (by have := (tim_le e).2; omega)
    simp only [a1, b1, d1, f1, a2, b2, d2, f2]
    rfl
  have e2 : lineC zeroC (0 == 0) (timesW c) = some (cT c []) := lineC_of (by simp [timesW]) e1 (cfgB_pre0 (T := []) (S := c.tens) h)
  unfold cfgLs
  rw [runW, e2]
  simp only
  have := run_tens c c.tens [] 0 h hl
  rw [List.nil_append] at this
  exact this

/-- What is printed, with more behind it, is read. -/
theorem parse_more {c : Cg} (h : cfgB c = true) (hl : netsLt c) (r : List UInt8) : runL zeroC 0 (linesL (printT c ++ r)) = runL c (cfgLs c).length (linesL r) := by
  unfold printT
  rw [if_pos h, lines_textT _ _ (cfg_fine h), runL_map _ _ _ _ _ (cfg_fine h) (run_cfg h hl), Nat.zero_add]
theorem parse_print {c : Cg} (h : cfgB c = true) (hl : netsLt c) : parseC (bs (printT c)) = .ok c := by
  unfold parseC
  rw [bs_data]
  have := parse_more h hl []
  rw [List.append_nil] at this
  rw [this]
  simp [linesL, runL, cfgLs]

/-! ### What is read is printed -/

theorem setC_ls {c : Cg} {t t' : Tn} (h : lastC c = some t) (x : List (List UInt8)) (ht : tenLs t' = tenLs t ++ [x]) : cfgLs (setC c t') = cfgLs c ++ [x] := by
  unfold lastC at h
  obtain ⟨T, hT⟩ := List.getLast?_eq_some_iff.1 h
  unfold cfgLs setC
  simp only [timesW]
  rw [hT, List.dropLast_concat, List.flatMap_append, List.flatMap_append]
  simp [ht]
theorem readW_is {c c' : Cg} {ws : List (List UInt8)} (h : readW c ws = some c') : (ws.head? = some wTimes → cfgLs c' = ws :: c.tens.flatMap tenLs) ∧ (ws.head? ≠ some wTimes → cfgLs c' = cfgLs c ++ [ws]) := by
  cases ws with
  | nil => cases h
  | cons k ws =>
    unfold readW at h
    dsimp only at h
    by_cases h1 : k = wTimes
    · subst h1
      rw [if_pos rfl] at h
      refine ⟨fun _ => ?_, fun k => absurd rfl k⟩
      match ws, h with
      | [a, b, d, e], h =>
        simp only [readTimes] at h
        cases ha : decO a with
        | none => simp only [ha] at h; cases h
        | some a' =>
          cases hb : decO b with
          | none => simp only [ha, hb] at h; cases h
          | some b' =>
            cases hd : decO d with
            | none => simp only [ha, hb, hd] at h; cases h
            | some d' =>
              cases he : decO e with
              | none => simp only [ha, hb, hd, he] at h; cases h
              | some e' =>
                simp only [ha, hb, hd, he] at h
                injection h with h
                subst h
                simp only [cfgLs, timesW, Int.toNat_natCast]
                rw [(decO_is _ _ ha).2, (decO_is _ _ hb).2, (decO_is _ _ hd).2, (decO_is _ _ he).2]
    · rw [if_neg h1] at h
      refine ⟨fun q => absurd (by simpa using q) h1, fun _ => ?_⟩
      by_cases h2 : k = wTenant
      · subst h2
        rw [if_pos rfl] at h
        match ws, h with
        | [n, a, b], h =>
          simp only [readTenant] at h
          cases ha : decO a with
          | none => simp only [ha] at h; cases h
          | some a' =>
            cases hb : decO b with
            | none => simp only [ha, hb] at h; cases h
            | some b' =>
              simp only [ha, hb] at h
              injection h with h
              subst h
              simp only [cfgLs, timesW, List.flatMap_append, List.flatMap_cons, List.flatMap_nil, tenLs, tenW, Int.toNat_natCast, bs_data, List.map_nil, List.append_nil]
              rw [(decO_is _ _ ha).2, (decO_is _ _ hb).2]
              rfl
      · rw [if_neg h2] at h
        by_cases h3 : k = wNet
        · subst h3
          rw [if_pos rfl] at h
          match ws, h with
          | [n], h =>
            simp only [readNet] at h
            cases hl : lastC c with
            | none => simp only [hl] at h; cases h
            | some t =>
              simp only [hl] at h
              by_cases ht : t.toks = []
              · rw [if_pos ht] at h
                cases hn : netO (bs n) with
                | none => simp only [hn] at h; cases h
                | some x =>
                  simp only [hn] at h
                  injection h with h
                  subst h
                  refine setC_ls hl _ ?_
                  obtain ⟨x1, x2⟩ := x
                  have := bs_inj (net_is _ _ _ hn).2.2.2
                  simp only [tenLs, ht, List.map_nil, List.append_nil, List.map_append, List.map_cons, netW, tenW]
                  rw [this, List.cons_append]
              · rw [if_neg ht] at h; cases h
        · rw [if_neg h3] at h
          by_cases h4 : k = wToken
          · subst h4
            rw [if_pos rfl] at h
            match ws, h with
            | [n, s, u], h =>
              simp only [readToken] at h
              cases hl : lastC c with
              | none => simp only [hl] at h; cases h
              | some t =>
                simp only [hl] at h
                cases hs : unhexB s with
                | none => simp only [hs] at h; cases h
                | some b =>
                  cases hu : decO u with
                  | none => simp only [hs, hu] at h; cases h
                  | some v =>
                    simp only [hs, hu] at h
                    injection h with h
                    subst h
                    refine setC_ls hl _ ?_
                    simp only [tenLs, List.map_append, List.map_cons, List.map_nil, tokW, tenW, bs_data, Int.toNat_natCast]
                    rw [hexB_unhexB _ _ hs, (decO_is _ _ hu).2]
                    simp
          · rw [if_neg h4] at h; cases h
theorem lineC_is {c c' : Cg} {first : Bool} {ws : List (List UInt8)} (h : lineC c first ws = some c') : cfgB c' = true ∧ decide (ws.head? = some wTimes) = first ∧ readW c ws = some c' := by
  unfold lineC at h
  by_cases h1 : decide (ws.head? = some wTimes) = first
  · rw [if_pos h1] at h
    unfold okC at h
    cases hr : readW c ws with
    | none => rw [hr] at h; cases h
    | some d =>
      rw [hr] at h
      simp only at h
      by_cases hd : cfgB d = true
      · rw [if_pos hd] at h
        injection h with h
        subst h
        exact ⟨hd, h1, rfl⟩
      · rw [if_neg hd] at h; cases h
  · rw [if_neg h1] at h; cases h
theorem lineC_ls {c c' : Cg} {at' : Nat} {ws : List (List UInt8)} (h0 : at' = 0 → c.tens = []) (h : lineC c (at' == 0) ws = some c') : cfgB c' = true ∧ cfgLs c' = (if at' = 0 then [] else cfgLs c) ++ [ws] := by
  obtain ⟨h1, h2, h3⟩ := lineC_is h
  refine ⟨h1, ?_⟩
  obtain ⟨k1, k2⟩ := readW_is h3
  by_cases ha : at' = 0
  · subst ha
    rw [k1 (by simpa using h2), h0 rfl]; rfl
  · have e : (at' == 0) = false := by simpa using ha
    rw [e] at h2
    rw [k2 (by simpa using h2), if_neg ha]
theorem runL_is : ∀ (ls : List (List UInt8 × Bool)) (c c' : Cg) (at' : Nat), (at' = 0 → c.tens = []) → (at' ≠ 0 → cfgB c = true) → runL c at' ls = .ok c' →
    cfgB c' = true ∧ (∀ x ∈ ls, x.2 = true) ∧ textT (cfgLs c') = (if at' = 0 then [] else textT (cfgLs c)) ++ ls.flatMap fun x => x.1 ++ [10]
  | [], c, c', at', h0, h1, h => by
    rw [runL] at h
    by_cases ha : at' = 0
    · rw [if_pos ha] at h; cases h
    · rw [if_neg ha] at h
      injection h with h
      subst h
      exact ⟨h1 ha, (fun x hx => by cases hx), by rw [if_neg ha]; simp⟩
  | (l, e) :: r, c, c', at', h0, h1, h => by
    rw [runL] at h
    by_cases he : e = true
    · subst he
      rw [if_pos rfl] at h
      cases hl : lineC c (at' == 0) (piecesL 32 l) with
      | none => rw [hl] at h; cases h
      | some d =>
        rw [hl] at h
        simp only at h
        obtain ⟨g1, g2⟩ := lineC_ls h0 hl
        obtain ⟨i1, i2, i3⟩ := runL_is r d c' (at' + 1) (fun k => by omega) (fun _ => g1) h
        refine ⟨i1, fun x hx => ?_, ?_⟩
        · rcases List.mem_cons.1 hx with rfl | hx
          · rfl
          · exact i2 x hx
        · rw [i3, if_neg (by omega), g2]
          unfold textT
          rw [List.flatMap_append, List.flatMap_cons, List.flatMap_cons, List.flatMap_nil, List.append_nil, lineT, pieces_join]
          by_cases ha : at' = 0
          · rw [if_pos ha, if_pos ha]; simp
          · rw [if_neg ha, if_neg ha]; simp
    · rw [if_neg he] at h; cases h
theorem parse_isC (s : ByteArray) (c : Cg) (h : parseC s = .ok c) : cfgB c = true ∧ s = bs (printT c) := by
  unfold parseC at h
  obtain ⟨h1, h2, h3⟩ := runL_is _ _ _ _ (fun _ => rfl) (fun k => absurd rfl k) h
  refine ⟨h1, ?_⟩
  rw [if_pos rfl, List.nil_append, ← lines_text _ h2] at h3
  unfold printT
  rw [if_pos h1, h3, bs_of]
end Go.Proofs.YtfpjkedcpnmfeaaDoor

/- Beginnings of a text that has a configuration: plain mathematics. -/
namespace Go.Proofs.YtfpjkedcpnmfeaaDoor
set_option linter.unusedVariables false
set_option linter.unusedSimpArgs false

def wholeT (ls : List (List UInt8)) : List UInt8 := ls.flatMap fun l => l ++ [10]
theorem lines_whole : ∀ (ls : List (List UInt8)) (r : List UInt8), (∀ l ∈ ls, (10 : UInt8) ∉ l) → linesL (wholeT ls ++ r) = ls.map (fun l => (l, true)) ++ linesL r
  | [], r, _ => rfl
  | l :: ls, r, h => by
    have ih := lines_whole ls r (fun x hx => h x (List.mem_cons_of_mem _ hx))
    have h1 := lines_hit l (wholeT ls ++ r) (h l (by simp))
    unfold wholeT at ih h1 ⊢
    rw [List.flatMap_cons, List.append_assoc, List.append_assoc, List.singleton_append, h1, ih]
    rfl
theorem whole_cut : ∀ P : List UInt8, ∃ (ls : List (List UInt8)) (p : List UInt8), (∀ l ∈ ls, (10 : UInt8) ∉ l) ∧ (10 : UInt8) ∉ p ∧ P = wholeT ls ++ p
  | [] => ⟨[], [], (fun l h => by cases h), (fun h => by cases h), rfl⟩
  | x :: r => by
    obtain ⟨ls, p, h1, h2, h3⟩ := whole_cut r
    by_cases hx : x = 10
    · refine ⟨[] :: ls, p, ?_, h2, ?_⟩
      · intro l hl
        rcases List.mem_cons.1 hl with rfl | hl
        · simp
        · exact h1 l hl
      · rw [hx, h3]; rfl
    · have hx' : ¬ (10 : UInt8) = x := fun e => hx e.symm
      cases ls with
      | nil =>
        refine ⟨[], x :: p, h1, ?_, by rw [h3]; rfl⟩
        rw [List.mem_cons, not_or]
        exact ⟨hx', h2⟩
      | cons l ls =>
        refine ⟨(x :: l) :: ls, p, ?_, h2, by rw [h3]; rfl⟩
        intro y hy
        rcases List.mem_cons.1 hy with rfl | hy
        · rw [List.mem_cons, not_or]
          exact ⟨hx', h1 l (by simp)⟩
        · exact h1 y (List.mem_cons_of_mem _ hy)
def cnt10 (l : List UInt8) : Nat := l.count 10
theorem cnt_no : ∀ l : List UInt8, (10 : UInt8) ∉ l → cnt10 l = 0 := fun l h => List.count_eq_zero.2 h
theorem cnt_whole : ∀ ls : List (List UInt8), (∀ l ∈ ls, (10 : UInt8) ∉ l) → cnt10 (wholeT ls) = ls.length
  | [], _ => rfl
  | l :: ls, h => by
    have ih := cnt_whole ls (fun x hx => h x (List.mem_cons_of_mem _ hx))
    have h0 := cnt_no l (h l (by simp))
    unfold cnt10 wholeT at *
    rw [List.flatMap_cons, List.count_append, List.count_append, ih, h0, List.length_cons]
    simp; omega
theorem run_pre : ∀ (ls : List (List UInt8)) (B : List (List UInt8 × Bool)) (c c' : Cg) (at' : Nat), runL c at' (ls.map (fun l => (l, true)) ++ B) = .ok c' → ∃ d, ∀ B', runL c at' (ls.map (fun l => (l, true)) ++ B') = runL d (at' + ls.length) B'
  | [], B, c, c', at', h => ⟨c, fun B' => rfl⟩
  | l :: ls, B, c, c', at', h => by
    rw [List.map_cons, List.cons_append, runL, if_pos rfl] at h
    cases hl : lineC c (at' == 0) (piecesL 32 l) with
    | none => rw [hl] at h; cases h
    | some d =>
      rw [hl] at h
      obtain ⟨d', hd⟩ := run_pre ls B d c' (at' + 1) h
      refine ⟨d', fun B' => ?_⟩
      rw [List.map_cons, List.cons_append, runL, if_pos rfl, hl]
      simp only
      rw [hd B', List.length_cons]
      congr 1; omega
/-- What is read of a beginning. -/
theorem lines_begin {S : List UInt8} {c : Cg} (h : parseC (bs S) = .ok c) (k : Nat) (hk : k ≤ S.length) :
    (k = 0 ∨ S.getD (k - 1) 0 ≠ 10 → parseC (bs (S.take k)) = .error (cnt10 (S.take k))) ∧ (k ≠ 0 → S.getD (k - 1) 0 = 10 → ∃ d, parseC (bs (S.take k)) = .ok d) := by
  unfold parseC at h ⊢
  rw [bs_data] at h ⊢
  obtain ⟨P, Q, hP, hPl, hPQ⟩ : ∃ P Q, S.take k = P ∧ P.length = k ∧ S = P ++ Q := ⟨S.take k, S.drop k, rfl, by simp; omega, (List.take_append_drop k S).symm⟩
  rw [hP]
  have hlast : ∀ x p, P = p ++ [x] → S.getD (k - 1) 0 = x := by
    intro x p e
    rw [hPQ, e, List.getD_eq_getElem?_getD, List.append_assoc, List.getElem?_append_right (by rw [← hPl, e]; simp)]
    rw [← hPl, e]
    simp
  obtain ⟨ls, p, h1, h2, h3⟩ := whole_cut P
  have hS : linesL S = ls.map (fun l => (l, true)) ++ linesL (p ++ Q) := by rw [hPQ, h3, List.append_assoc, lines_whole ls _ h1]
  have hPlines : linesL P = ls.map (fun l => (l, true)) ++ linesL p := by rw [h3, lines_whole ls _ h1]
  have hcnt : cnt10 P = ls.length := by
    rw [h3]
    have := cnt_whole ls h1
    have h0 := cnt_no p h2
    unfold cnt10 at *
    rw [List.count_append, this, h0]; rfl
  rw [hS] at h
  obtain ⟨d, hd⟩ := run_pre ls _ _ _ 0 h
  rw [hPlines, hd, hcnt, Nat.zero_add]
  by_cases hp : p = []
  · subst hp
    rcases List.eq_nil_or_concat ls with rfl | ⟨l0, l1, rfl⟩
    · have hk0 : k = 0 := by rw [← hPl, h3]; rfl
      exact ⟨fun _ => rfl, fun hh => absurd hk0 hh⟩
    · rw [List.concat_eq_append] at *
      have e10 : S.getD (k - 1) 0 = 10 := hlast 10 (wholeT l0 ++ l1) (by rw [h3]; unfold wholeT; simp)
      have hk0 : k ≠ 0 := by rw [← hPl, h3]; unfold wholeT; simp
      refine ⟨fun hh => ?_, fun _ _ => ⟨d, ?_⟩⟩
      · rcases hh with hh | hh
        · exact absurd hh hk0
        · exact absurd e10 hh
      · show runL d _ [] = _
        rw [runL, if_neg (by simp)]
  · rw [lines_miss p h2 hp]
    have hne : S.getD (k - 1) 0 ≠ 10 := by
      rcases List.eq_nil_or_concat p with h0 | ⟨p0, x, h0⟩
      · exact absurd h0 hp
      · rw [List.concat_eq_append] at h0
        rw [hlast x (wholeT ls ++ p0) (by rw [h3, h0, List.append_assoc])]
        intro hx
        exact h2 (by rw [h0, hx]; simp)
    refine ⟨fun _ => ?_, fun _ hh => absurd hh hne⟩
    rw [runL, if_neg (by simp)]
end Go.Proofs.YtfpjkedcpnmfeaaDoor
