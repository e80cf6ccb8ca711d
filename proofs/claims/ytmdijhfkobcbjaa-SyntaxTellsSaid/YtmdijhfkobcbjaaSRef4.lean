/- The document's own: Addr, Net: their contracts. (Written by gen_sref.py.) -/
import Derived.Test.YtmdijhfkobcbjaaSRef1
import Derived.Test.YtmdijhfkobcbjaaRefP
import Derived.Test.YtmdijhfkobcbjaaSyn6
import Derived.BigGuard
namespace Go.Proofs.Ytmdijhfkobcbjaa
set_option linter.unusedVariables false
set_option linter.unusedSimpArgs false
open Go.RowKit

def goA : Nat → Nat → List UInt8 → Option Nat
  | 0, a, _ => some a
  | r + 1, a, l => match upToO 255 (bs (cutL 46 l).1) with
    | none => none
    | some n => if (cutL 46 l).2.2 = decide (0 < r) then goA r ((256 * a + n) % 4294967296) (cutL 46 l).2.1 else none
def evalA : Nat → Nat → List (Option Nat) → Option Nat
  | 0, a, [] => some a
  | r + 1, a, some n :: ps => evalA r ((256 * a + n) % 4294967296) ps
  | _, _, _ => none
theorem goA_eval : ∀ (r a : Nat) (l : List UInt8), goA (r + 1) a l = evalA (r + 1) a ((piecesL 46 l).map fun p => upToO 255 (bs p)) := by
  intro r
  induction r with
  | zero =>
    intro a l
    rw [goA, pieces_cut, List.map_cons]
    cases hu : upToO 255 (bs (cutL 46 l).1) with
    | none => simp [evalA]
    | some n =>
      cases hm : (cutL 46 l).2.2 with
      | false => simp [evalA, goA]
      | true =>
        rw [pieces_cut 46 (cutL 46 l).2.1]
        simp [evalA]
  | succ r ih =>
    intro a l
    rw [goA, pieces_cut, List.map_cons]
    cases hu : upToO 255 (bs (cutL 46 l).1) with
    | none => simp [evalA]
    | some n =>
      cases hm : (cutL 46 l).2.2 with
      | false => simp [evalA]
      | true =>
        simp only [evalA, if_true]
        rw [← ih]
        simp
theorem evalA_four (ps : List (Option Nat)) (h : ∀ x ∈ ps, ∀ n, x = some n → n ≤ 255) : evalA 4 0 ps = addrL ps := by
  match ps, h with
  | [], _ => rfl
  | [p], _ => cases p <;> rfl
  | [p, q], _ => cases p <;> cases q <;> rfl
  | [p, q, r], _ => cases p <;> cases q <;> cases r <;> rfl
  | [p, q, r, t], h =>
    cases p with
    | none => rfl
    | some a => cases q with
      | none => rfl
      | some b => cases r with
        | none => rfl
        | some c => cases t with
          | none => rfl
          | some d =>
            have h1 := h (some a) (by simp) a rfl
            have h2 := h (some b) (by simp) b rfl
            have h3 := h (some c) (by simp) c rfl
            have h4 := h (some d) (by simp) d rfl
            simp only [evalA, addrL]
            congr 1
            omega
  | p :: q :: r :: t :: u :: ps, _ => cases p <;> cases q <;> cases r <;> cases t <;> rfl
theorem goA_addr (s : ByteArray) : goA 4 0 s.data.toList = addrO s := by
  rw [goA_eval]
  unfold addrO
  refine evalA_four _ (fun x hx n hn => ?_)
  obtain ⟨p, _, hp⟩ := List.mem_map.1 hx
  rw [hn] at hp
  exact (upToO_is 255 n _ hp).1

set_option maxHeartbeats 2000000 in
theorem raddr_ok (s : ByteArray) (w : World) (hs : s.size ≤ 140737488355328) :
    Calls Try.prog 12 #[.string s] w fun e w' => e = .returned (.tuple #[.int .u32 ((addrO s).getD 0 : Nat), .bool (addrO s).isSome]) ∧ ∃ n, w' = w.drewN n := by
  obtain ⟨R, hR⟩ : ∃ R, goA 4 0 s.data.toList = R := ⟨_, rfl⟩
  rw [← goA_addr s, hR]
  have HR := Lib.hid hR
  clear hR
  go_enter Try.func12, Try.ntmps12
  go_wp2_with fail
  go_loopw [0, 4, 5] (fun v0 v4 v5 wr => ∃ (i a k : Nat) (l : List UInt8), i ≤ 4 ∧ v5 = .int .i64 i ∧ v0 = .string (bs l) ∧ v4 = .int .u32 a ∧ a < 4294967296 ∧ l.length ≤ 140737488355328 ∧ Hid (goA (4 - i) a l = R) ∧ wr = w.drewN k) (fun _ _ v5 _ => 4 - (intOf v5).toNat)
  case atStart => exact ⟨0, 0, 0, s.data.toList, by omega, rfl, by rw [bs_of], rfl, by omega, hs, HR, rfl⟩
  case round =>
    obtain ⟨i, a, k, l, hi, rfl, rfl, rfl, ha, hll, HE, rfl⟩ := hrel
    clear HR
    by_cases hlt : i < 4
    · have hE := HE.out
      rw [show 4 - i = (3 - i) + 1 by omega, goA] at hE
      obtain ⟨p, q, m, hc⟩ : ∃ p q m, cutL 46 l = (p, q, m) := ⟨_, _, _, rfl⟩
      have hsz := cutL_len 46 l
      rw [hc] at hE hsz
      simp only at hE hsz
      have HC := Lib.hid (fun u => rcut_ok (bs l) 46 u (by rw [bs_size]; exact hll))
      rw [show cutV 46 (bs l) = .tuple #[.string (bs p), .string (bs q), .bool m] by unfold cutV; rw [bs_data, hc]] at HC
      rw [show (((46 : UInt8).toNat : Nat) : Int) = 46 from rfl] at HC
      obtain ⟨P, hP⟩ : ∃ P, bs p = P := ⟨_, rfl⟩
      have HPR := Lib.hid (fun u => rparse_ok P u (by rw [← hP, bs_size]; omega))
      rw [hP] at HC hE
      have hq2 : q.length ≤ 140737488355328 := by omega
      clear hP hc HE
      unfold upToO at hE
      cases hp : parseS P with
      | none =>
        rw [hp] at hE HPR
        simp only [parE] at hE HPR
        have HN := Lib.hid hE.symm
        clear hE hp
        go_wp2_with fail
        refine (HC.out _).mono ?_
        rintro e w1 ⟨rfl, k1, rfl⟩
        go_wp2_with fail
        refine (HPR.out _).mono ?_
        rintro e w2 ⟨rfl, rfl⟩
        go_wp2_with fail
        all_goals (first | (go_ret2; exact ⟨by rw [HN.out]; rfl, _, rfl⟩) | (exfalso; have hh := ‹some undef = some (Value.bool _)›; injection hh with hh; cases hh))
      | some x =>
        obtain ⟨n, kk⟩ := x
        rw [hp] at hE HPR
        simp only [parE] at hE HPR
        have hn1 := (parse_is P n kk hp).1
        clear hp
        by_cases hle : n ≤ 255
        · rw [if_pos hle] at hE
          simp only at hE
          have hn2 : (n : Int) ≤ 255 := by omega
          obtain ⟨lb, hlb⟩ : ∃ lb, decide (0 < 3 - i) = lb := ⟨_, rfl⟩
          rw [hlb] at hE
          have hil : decide ((i : Int) < 3) = lb := by rw [← hlb, decide_eq_decide]; omega
          have d255 : decide ((255 : Int) < (n : Int)) = false := by simp <;> omega
          cases m with
          | true =>
            cases lb with
            | true =>
              have HG := Lib.hid (show goA (3 - i) ((256 * a + n) % 4294967296) q = R by simpa using hE)
              clear hE hlb
              go_wp2_with fail
              refine (HC.out _).mono ?_
              rintro e w1 ⟨rfl, k1, rfl⟩
              go_wp2_with fail
              refine (HPR.out _).mono ?_
              rintro e w2 ⟨rfl, rfl⟩
              go_wp2_with fail
              go_roundw
              case rel => exact ⟨i + 1, (256 * a + n) % 4294967296, _, q, by omega, by go_num, rfl, congrArg _ (by omega), Nat.mod_lt _ (by omega), hq2, by rw [show 4 - (i + 1) = 3 - i by omega]; exact HG, rfl⟩
              case measure => simp [intOf]; omega
            | false =>
              have HN := Lib.hid (show R = none by simpa using hE.symm)
              clear hE hlb
              go_wp2_with fail
              refine (HC.out _).mono ?_
              rintro e w1 ⟨rfl, k1, rfl⟩
              go_wp2_with fail
              refine (HPR.out _).mono ?_
              rintro e w2 ⟨rfl, rfl⟩
              go_wp2_with fail
              go_ret2
              exact ⟨by rw [HN.out]; rfl, _, rfl⟩
          | false =>
            cases lb with
            | true =>
              have HN := Lib.hid (show R = none by simpa using hE.symm)
              clear hE hlb
              go_wp2_with fail
              refine (HC.out _).mono ?_
              rintro e w1 ⟨rfl, k1, rfl⟩
              go_wp2_with fail
              refine (HPR.out _).mono ?_
              rintro e w2 ⟨rfl, rfl⟩
              go_wp2_with fail
              go_ret2
              exact ⟨by rw [HN.out]; rfl, _, rfl⟩
            | false =>
              have HG := Lib.hid (show goA (3 - i) ((256 * a + n) % 4294967296) q = R by simpa using hE)
              clear hE hlb
              go_wp2_with fail
              refine (HC.out _).mono ?_
              rintro e w1 ⟨rfl, k1, rfl⟩
              go_wp2_with fail
              refine (HPR.out _).mono ?_
              rintro e w2 ⟨rfl, rfl⟩
              go_wp2_with fail
              go_roundw
              case rel => exact ⟨i + 1, (256 * a + n) % 4294967296, _, q, by omega, by go_num, rfl, congrArg _ (by omega), Nat.mod_lt _ (by omega), hq2, by rw [show 4 - (i + 1) = 3 - i by omega]; exact HG, rfl⟩
              case measure => simp [intOf]; omega
        · rw [if_neg hle] at hE
          simp only at hE
          have HN := Lib.hid hE.symm
          have hn2 : (255 : Int) < (n : Int) := by omega
          clear hE
          go_wp2_with fail
          refine (HC.out _).mono ?_
          rintro e w1 ⟨rfl, k1, rfl⟩
          go_wp2_with fail
          refine (HPR.out _).mono ?_
          rintro e w2 ⟨rfl, rfl⟩
          go_wp2_with fail
          all_goals (first | (go_ret2; exact ⟨by rw [HN.out]; rfl, _, rfl⟩) | (exfalso; have hh := ‹some undef = some (Value.bool _)›; injection hh with hh; cases hh))
    · obtain rfl : i = 4 := by omega
      have HG := Lib.hid (show R = some a by rw [← HE.out]; rfl)
      clear HE
      go_wp2
      go_ret2
      exact ⟨by rw [HG.out]; rfl, k, rfl⟩
end Go.Proofs.Ytmdijhfkobcbjaa
