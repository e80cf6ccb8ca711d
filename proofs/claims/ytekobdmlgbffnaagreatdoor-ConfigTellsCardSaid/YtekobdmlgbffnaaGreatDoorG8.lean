/- RefP, Cz4, Tail, ConvR, Iw, Lib1, Cat, Cz3: texts of this seat, one behind the other. -/
import Derived.Test.YtekobdmlgbffnaaGreatDoorG2
import Derived.Test.YtekobdmlgbffnaaGreatDoorG3
import Derived.Test.YtekobdmlgbffnaaGreatDoorG5
import Derived.Test.YtekobdmlgbffnaaGreatDoorG1
import Derived.Test.YtekobdmlgbffnaaGreatDoorRows
import Derived.Test.YtekobdmlgbffnaaGreatDoorG4
import Derived.Laws.Concat
/- The document's answers for decimals: Parse: its contract. -/
namespace Go.Proofs.YtekobdmlgbffnaaGreatDoor
set_option linter.unusedVariables false
set_option maxRecDepth 100000
set_option linter.unusedSimpArgs false
open Go.RowKit

/-- Where the document's Parse stands behind i bytes. -/
def PInv (s : ByteArray) (R : Option (Nat × Nat)) (i n : Nat) : Prop :=
  (i < s.size ∧ n ≤ 1099511627776 ∧ numS 10 (stP s) (s.size + 1 - i) i n = R ∧ (i = 0 ∧ n = 0 ∨ 1 ≤ i ∧ 10 ^ (i - 1) ≤ n ∧ s.data.toList.head? ≠ some 48)) ∨
  (i = s.size ∧ 0 < s.size ∧ n ≤ 1099511627776 ∧ R = some (n, s.size) ∧ (s.data.toList.head? = some 48 → s.size = 1)) ∨
  (R = none ∧ (1099511627776 < n ∨ (s.data.toList.head? = some 48 ∧ 1 < s.size))) ∨
  (s.size = 0 ∧ R = none)

theorem PInv.start (s : ByteArray) : PInv s (parseS s) 0 0 := by
  by_cases h : 0 < s.size
  · exact .inl ⟨h, by omega, rfl, .inl ⟨rfl, rfl⟩⟩
  · refine .inr (.inr (.inr ⟨by omega, ?_⟩))
    unfold parseS
    have e : s.size + 1 = 0 + 1 := by omega
    rw [e]
    exact numS_no (by rw [stP_end _ _ h])

theorem head_at (s : ByteArray) (h : 0 < s.size) : s.data.toList.head? = some s[0] := by
  have h2 : 0 < s.data.toList.length := h
  cases hd : s.data.toList with
  | nil => rw [hd] at h2; simp at h2
  | cons c r =>
    have : s.data.toList[0] = s[0] := by
      show s.data.toList[0] = s.data[0]
      simp
    simp only [hd, List.getElem_cons_zero] at this
    simp [this]

/-- A digit. -/
theorem par_step {s : ByteArray} {R : Option (Nat × Nat)} {i n v : Nat} (hI : PInv s R i n) (h : i < s.size) (hv : (s[i]).toNat = v) (h1 : 48 ≤ v) (h2 : v ≤ 57) : PInv s R (i + 1) (10 * n + (v - 48)) := by
  have hst := stP_at s i h
  rw [hv, decide_eq_true (And.intro h1 h2)] at hst
  have ef : s.size + 1 - i = (s.size + 1 - (i + 1)) + 1 := by omega
  have ec : n * 10 = 10 * n := Nat.mul_comm _ _
  rcases hI with ⟨_, hn, hS, hlo⟩ | ⟨hi, _⟩ | ⟨hR, hbad⟩ | ⟨h0, _⟩
  · rw [ef] at hS
    by_cases hbig : 1099511627776 < 10 * n + (v - 48)
    · rw [numS_big' hst (by omega)] at hS
      exact .inr (.inr (.inl ⟨hS.symm, .inl hbig⟩))
    · by_cases hlast : i + 1 = s.size
      · rw [decide_eq_true hlast] at hst
        rw [numS_last hst (by omega), ec] at hS
        refine .inr (.inl ⟨hlast, by omega, by omega, by rw [← hS, hlast], fun h48 => ?_⟩)
        rcases hlo with ⟨rfl, _⟩ | ⟨_, _, hh⟩
        · omega
        · exact absurd h48 hh
      · rw [decide_eq_false hlast] at hst
        by_cases hz : 10 * n + (v - 48) = 0
        · have hR : R = none := by rw [← hS]; exact numS_zero' hst (by omega)
          refine .inr (.inr (.inl ⟨hR, .inr ⟨?_, by omega⟩⟩))
          rcases hlo with ⟨rfl, rfl⟩ | ⟨hi, hlo, _⟩
          · rw [head_at s h]
            have : s[0] = 48 := by
              have hv0 : (s[0]).toNat = 48 := by rw [hv]; omega
              exact UInt8.toNat_inj.1 hv0
            rw [this]
          · have : 0 < 10 ^ (i - 1) := Nat.pow_pos (by omega)
            omega
        · rw [numS_more hst (by omega) (by omega), ec] at hS
          refine .inl ⟨by omega, by omega, hS, .inr ⟨by omega, ?_, ?_⟩⟩
          · rcases hlo with ⟨rfl, rfl⟩ | ⟨hi, hlo, _⟩
            · simp; omega
            · obtain ⟨j, rfl⟩ : ∃ j, i = j + 1 := ⟨i - 1, by omega⟩
              simp only [Nat.add_sub_cancel] at hlo ⊢
              rw [Nat.pow_succ]; omega
          · rcases hlo with ⟨rfl, rfl⟩ | ⟨_, _, hh⟩
            · rw [head_at s h]
              intro he
              injection he with he
              have : (s[0]).toNat = 48 := by rw [he]; rfl
              omega
            · exact hh
  · omega
  · refine .inr (.inr (.inl ⟨hR, ?_⟩))
    rcases hbad with hb | hb
    · exact .inl (by omega)
    · exact .inr hb
  · omega

/-- No digit; or the fourteenth one. -/
theorem par_no {s : ByteArray} {R : Option (Nat × Nat)} {i n v : Nat} (hI : PInv s R i n) (h : i < s.size) (hv : (s[i]).toNat = v) (h1 : ¬ (48 ≤ v ∧ v ≤ 57) ∨ 13 ≤ i) : R = none := by
  have hst := stP_at s i h
  rw [hv] at hst
  have ef : s.size + 1 - i = (s.size + 1 - (i + 1)) + 1 := by omega
  rcases hI with ⟨_, hn, hS, hlo⟩ | ⟨hi, _⟩ | ⟨hR, _⟩ | ⟨h0, _⟩
  · rw [ef] at hS
    by_cases hd : 48 ≤ v ∧ v ≤ 57
    · rw [decide_eq_true hd] at hst
      have hi : 13 ≤ i := by rcases h1 with h1 | h1; exact absurd hd h1; exact h1
      have hbig : 1000000000000 ≤ n := by
        rcases hlo with ⟨h0, _⟩ | ⟨_, hlo, _⟩
        · omega
        · have : 10 ^ 12 ≤ 10 ^ (i - 1) := Nat.pow_le_pow_right (by omega) (by omega)
          have e : (10 : Nat) ^ 12 = 1000000000000 := by decide
          omega
      rw [numS_big' hst (by omega)] at hS
      exact hS.symm
    · rw [decide_eq_false hd] at hst
      rw [numS_no (by rw [hst])] at hS
      exact hS.symm
  · omega
  · exact hR
  · omega

/-- A byte of a text, behind a letter. -/
theorem idx_at (s : ByteArray) (i v : Nat) (h : i < s.size) (hv : (s[i]).toNat = v) (w : World) : (Instr.index 9 (.string s) (.int .i64 (i : Int))).run Tryz.prog w = .ok (.int .u8 (v : Int)) w := by
  subst hv
  rw [run_index_string (P := Tryz.prog) w 9 s .i64 i Tryz.underlying9]
  simp [h]

set_option maxRecDepth 100000 in
set_option maxHeartbeats 2000000 in
theorem rparse_ok (s : ByteArray) (w : World) (hs : s.size ≤ 140737488355328) :
    Calls Tryz.prog 79 #[.string s] w fun e w' => e = parE (parseS s) ∧ w = w' := by
  have HI := Lib.hid (PInv.start s)
  obtain ⟨R, hR⟩ : ∃ R, parseS s = R := ⟨_, rfl⟩
  rw [hR] at HI ⊢
  clear hR
  go_enter Tryz.func79, Tryz.ntmps79
  go_wp2_with fail
  go_loop [4, 5] (fun v4 v5 => ∃ x i : Nat, v4 = .int .i64 x ∧ v5 = .int .i64 i ∧ i ≤ s.size ∧ i ≤ 13 ∧ x < 10 ^ i ∧ Hid (PInv s R i x)) (fun _ v5 => s.size - (intOf v5).toNat)
  case atStart => exact ⟨0, 0, rfl, rfl, by omega, by omega, by simp, HI⟩
  case round =>
    obtain ⟨x, i, rfl, rfl, hi, hi13, hx, HG⟩ := hrel
    have hx13 : x < 10000000000000 := by
      have : 10 ^ i ≤ 10 ^ 13 := Nat.pow_le_pow_right (by omega) hi13
      have e : (10 : Nat) ^ 13 = 10000000000000 := by decide
      omega
    have HX := Lib.hid hx
    clear hx HI
    by_cases hil : i < s.size
    · obtain ⟨v, hv⟩ : ∃ v : Nat, v = (s[i]).toNat := ⟨_, rfl⟩
      have hv2 : v < 256 := by rw [hv]; exact (s[i]).toNat_lt
      have hidx := idx_at s i v hil hv.symm
      have HV := Lib.hid hv.symm
      clear hv
      by_cases d1 : v < 48
      · have hR := Lib.hid (par_no HG.out hil HV.out (.inl (by omega)))
        have b1 : decide ((v : Int) < 48) = true := by simp; omega
        go_wp2
        go_ret2
        exact ⟨by rw [hR.out]; rfl, rfl⟩
      · have b1 : decide ((v : Int) < 48) = false := by simp; omega
        by_cases d2 : 57 < v
        · have hR := Lib.hid (par_no HG.out hil HV.out (.inl (by omega)))
          have b2 : decide ((57 : Int) < (v : Int)) = true := by simp; omega
          go_wp2
          go_ret2
          exact ⟨by rw [hR.out]; rfl, rfl⟩
        · have b2 : decide ((57 : Int) < (v : Int)) = false := by simp; omega
          by_cases d3 : 13 ≤ i
          · have hR := Lib.hid (par_no HG.out hil HV.out (.inr d3))
            have b3 : decide ((13 : Int) ≤ (i : Int)) = true := by simp; omega
            go_wp2
            go_ret2
            exact ⟨by rw [hR.out]; rfl, rfl⟩
          · have b3 : decide ((13 : Int) ≤ (i : Int)) = false := by simp; omega
            have G := Lib.hid (par_step HG.out hil HV.out (by omega) (by omega))
            go_wp2
            go_round
            case rel => exact ⟨10 * x + (v - 48), i + 1, by go_num, by go_num, by omega, by omega, by have := HX.out; rw [Nat.pow_succ]; omega, G⟩
            case measure => simp [intOf]; omega
    · have hie : i = s.size := by omega
      by_cases h0 : s.size = 0
      · have hR : R = none := by
          rcases HG.out with ⟨h, _⟩ | ⟨_, h, _⟩ | ⟨h, _⟩ | ⟨_, h⟩
          · omega
          · omega
          · exact h
          · exact h
        have HR := Lib.hid hR
        have b0 : ((s.size : Int) == 0) = true := beq_iff_eq.2 (by omega)
        clear hR hie
        go_wp2
        go_ret2
        exact ⟨by rw [HR.out]; rfl, rfl⟩
      · have b0 : ((s.size : Int) == 0) = false := beq_eq_false_iff_ne.2 (by omega)
        have hpos : 0 < s.size := by omega
        obtain ⟨v, hv⟩ : ∃ v : Nat, v = (s[0]).toNat := ⟨_, rfl⟩
        have hv2 : v < 256 := by rw [hv]; exact (s[0]).toNat_lt
        have hidx : ∀ w, (Instr.index 9 (.string s) (.int .i64 0)).run Tryz.prog w = .ok (.int .u8 (v : Int)) w := fun w => idx_at s 0 v hpos hv.symm w
        have hh := head_at s hpos
        have h48 : s.data.toList.head? = some 48 ↔ v = 48 := by
          rw [hh, hv]
          constructor
          · intro h; injection h with h; rw [h]; rfl
          · intro h; rw [UInt8.toNat_inj.1 (show (s[0]).toNat = (48 : UInt8).toNat from h)]
        have H48 := Lib.hid h48
        clear hv hh h48
        have hfin : (R = none ∧ (1099511627776 < x ∨ (v = 48 ∧ 1 < s.size))) ∨ (R = some (x, s.size) ∧ x ≤ 1099511627776 ∧ (v = 48 → s.size = 1)) := by
          rcases HG.out with ⟨h, _⟩ | ⟨_, h, hx, hR, hh⟩ | ⟨hR, hb⟩ | ⟨h, _⟩
          · omega
          · exact .inr ⟨hR, hx, fun h => hh (H48.out.2 h)⟩
          · refine .inl ⟨hR, ?_⟩
            rcases hb with hb | ⟨hb, hb2⟩
            · exact .inl hb
            · exact .inr ⟨H48.out.1 hb, hb2⟩
          · omega
        have b3 : decide ((1 : Int) < (s.size : Int)) = decide (1 < s.size) := decide_eq_decide.2 (by omega)
        by_cases c48 : v = 48
        · have b1 : ((v : Int) == 48) = true := by simp; omega
          by_cases c1 : 1 < s.size
          · have HR := Lib.hid (show R = none from hfin.elim (fun h => h.1) (fun h => absurd (h.2.2 c48) (by omega)))
            clear hfin hie c48 b3
            go_wp2
            go_ret2
            exact ⟨by rw [HR.out]; rfl, rfl⟩
          · by_cases cx : 1099511627776 < x
            · have HR := Lib.hid (show R = none from hfin.elim (fun h => h.1) (fun h => absurd h.2.1 (by omega)))
              clear hfin hie c48 b3
              go_wp2
              go_ret2
              exact ⟨by rw [HR.out]; rfl, rfl⟩
            · have HR := Lib.hid (show R = some (x, s.size) from hfin.elim (fun h => h.2.elim (fun h1 => absurd h1 cx) (fun h2 => absurd h2.2 c1)) (fun h => h.1))
              clear hfin hie c48 b3
              go_wp2
              go_ret2
              exact ⟨by rw [HR.out]; rfl, rfl⟩
        · have b1 : ((v : Int) == 48) = false := by simp; omega
          by_cases cx : 1099511627776 < x
          · have HR := Lib.hid (show R = none from hfin.elim (fun h => h.1) (fun h => absurd h.2.1 (by omega)))
            clear hfin hie c48 b3
            go_wp2
            go_ret2
            exact ⟨by rw [HR.out]; rfl, rfl⟩
          · have HR := Lib.hid (show R = some (x, s.size) from hfin.elim (fun h => h.2.elim (fun h1 => absurd h1 cx) (fun h2 => absurd h2.1 c48)) (fun h => h.1))
            clear hfin hie c48 b3
            go_wp2
            go_ret2
            exact ⟨by rw [HR.out]; rfl, rfl⟩

end Go.Proofs.YtekobdmlgbffnaaGreatDoor

/- The document's own: numbers: its contract. -/
namespace Go.Proofs.YtekobdmlgbffnaaGreatDoor
set_option linter.unusedVariables false
set_option maxRecDepth 100000
set_option linter.unusedSimpArgs false
open Go.RowKit

abbrev ics (x : Nat) : Array Value := #[.int .i64 (x : Int)]
theorem roI : Ro Tryz.prog 133 2 1 8 ics := ⟨Tryz.underlying133, (by
  obtain ⟨i, h1, h2, h3, h4⟩ := info_parts (show (Tryz.prog.info? 2).map (fun i => (i.zero, i.size, i.bytes)) = some (some (.int .i64 0), 1, 8) by kernel_rfl)
  exact ⟨i, _, h1, h2, h3, h4, rfl⟩), by omega, fun _ => rfl, (fun x u hu => by simp [ics] at hu; subst hu; rfl), by omega⟩
abbrev OIt (w : World) (B : Nat) (A : Option Addr) (c : Nat) (l : List Nat) : Prop := Ow 2 1 ics w B A c l

def numsO : List (List UInt8) → Option (List Nat)
  | [] => some []
  | x :: r => match decO x, numsO r with
    | some a, some l => some (a :: l)
    | _, _ => none
theorem numsO_cons (x : List UInt8) (r : List (List UInt8)) : numsO (x :: r) = (match decO x, numsO r with
    | some a, some l => some (a :: l)
    | _, _ => none) := rfl
/-- What numbers tells. -/
def NuP (w : World) (R : Option (List Nat)) (e : Ending) (w' : World) : Prop :=
  (match R with
    | none => e = .returned (.tuple #[.slice none 0 0, .bool false])
    | some l => ∃ A c, e = .returned (.tuple #[.slice A l.length c, .bool true]) ∧ OIt w' w.heap.size A c l) ∧ Below w.heap.size w w'
theorem numsO_step {ws : List (List UInt8)} {i : Nat} {x : List UInt8} {a : Nat} {done : List Nat} (hx : ws[i]? = some x) (hd : decO x = some a) (h : numsO ws = (numsO (ws.drop i)).map (done ++ ·)) : numsO ws = (numsO (ws.drop (i + 1))).map (done ++ [a] ++ ·) := by
  obtain ⟨hi, he⟩ := List.getElem?_eq_some_iff.1 hx
  rw [List.drop_eq_getElem_cons hi, he] at h
  rw [h, numsO_cons, hd]
  cases numsO (ws.drop (i + 1)) with
  | none => rfl
  | some l => simp
theorem numsO_no {ws : List (List UInt8)} {i : Nat} {x : List UInt8} {done : List Nat} (hx : ws[i]? = some x) (hd : decO x = none) (h : numsO ws = (numsO (ws.drop i)).map (done ++ ·)) : numsO ws = none := by
  obtain ⟨hi, he⟩ := List.getElem?_eq_some_iff.1 hx
  rw [List.drop_eq_getElem_cons hi, he] at h
  rw [h, numsO_cons, hd]
  rfl

set_option maxRecDepth 100000 in
set_option maxHeartbeats 4000000 in
theorem rnumbers_ok (b o n c : Nat) (ws : List (List UInt8)) (w : World) (hn : ws.length = n) (hn9 : n ≤ 1099511627) (hlt : b < w.heap.size) (hc : ∀ j x, ws[j]? = some x → w.cell? ⟨b, o + j, none⟩ = some (.string (bs x)) ∧ x.length ≤ 140737488355328) :
    Calls Tryz.prog 75 #[.slice (some ⟨b, o, none⟩) n c] w (NuP w (numsO ws)) := by
  have HC := Lib.hid hc
  have HN := Lib.hid hn
  obtain ⟨R, hR⟩ : ∃ R, numsO ws = R := ⟨_, rfl⟩
  have HS := Lib.hid (show numsO ws = (numsO (ws.drop 0)).map (([] : List Nat) ++ ·) by rw [List.drop_zero]; cases numsO ws <;> rfl)
  rw [hR]
  have HR := Lib.hid hR
  clear hn hc hR
  go_enter Tryz.func75, Tryz.ntmps75
  go_wp2
  go_loopw [4, 5, 6, 7] (fun v4 v5 v6 v7 wr => ∃ (done : List Nat) (A : Option Addr) (c i : Nat), i ≤ n ∧ v4 = .slice A i c ∧ v5 = .int .i64 (i : Int) ∧ Hid (done.length = i) ∧ Hid (numsO ws = (numsO (ws.drop i)).map (done ++ ·)) ∧ Hid (OIt wr w.heap.size A c done) ∧ Hid (Below w.heap.size w wr)) (fun _ v5 _ _ _ => n - (intOf v5).toNat)
  case atStart => exact ⟨[], none, 0, 0, by omega, rfl, rfl, Lib.hid rfl, HS, Lib.hid (Ow.nil _ _), Lib.hid (Below.refl _ _)⟩
  case round =>
    obtain ⟨done, A, c1, i, hi, rfl, rfl, HM, HQ, HO, HB⟩ := hrel
    by_cases hi1 : i < n
    · have hi2 : (i : Int) < (n : Int) := by omega
      obtain ⟨x, hx⟩ : ∃ x, ws[i]? = some x := ⟨_, List.getElem?_eq_getElem (by rw [HN.out]; exact hi1)⟩
      have c0 : wr.cell? ⟨b, o + i, none⟩ = some (.string (bs x)) := (HB.out.cell (p := ⟨b, o + i, none⟩) hlt).trans (HC.out i x hx).1
      have HP := Lib.hid (fun u => rparse_ok (bs x) u (by rw [bs_size]; exact (HC.out i x hx).2))
      have HX := Lib.hid hx
      have HD := Lib.hid (show decO x = (parseS (bs x)).map (·.1) from rfl)
      clear hx
      cases hp : parseS (bs x) with
      | none =>
        rw [hp] at HP HD
        simp only [parE] at HP
        have HNO := Lib.hid (HR.out.symm.trans (numsO_no HX.out HD.out HQ.out))
        clear hp
        go_wp2_with (go_at_call 79; (with_reducible refine (HP.out _).mono ?_); rintro e u2 ⟨rfl, rfl⟩)
        refine bodyPost_ret (v := .tuple #[.slice none 0 0, .bool false]) ?_ rfl ?_
        · simp [results, Tryz.f75, go_sem]
        · rw [HNO.out]
          exact ⟨rfl, HB.out⟩
      | some q =>
        obtain ⟨a, k⟩ := q
        rw [hp] at HP HD
        simp only [parE] at HP
        have HQ2 := Lib.hid (numsO_step HX.out HD.out HQ.out)
        have HBN := Lib.hid (Bk.new wr 2 #[.int .i64 (a : Int)])
        have HO1 := Lib.hid (HO.out.on ((Below.refl _ _).alloc (Nat.le_refl _) (.cells #[.int .i64 (a : Int)] 2)))
        have HB1 := Lib.hid (HB.out.alloc HB.out.size (.cells #[.int .i64 (a : Int)] 2))
        clear hp
        go_wp2_with (first
          | (go_at_call 79; (with_reducible refine (HP.out _).mono ?_); rintro e u2 ⟨rfl, rfl⟩)
          | (refine wp_rows0 roI rfl (.tmp 24) (.tmp 26) rfl i rfl HM.out HO1.out [a] _ 1 _ rfl rfl (fun h => by cases h) (Rw.bk HBN.out) (by omega) HB1.out.size (i + 1) rfl ?_; intro A2 c2 w2 ho hg hb; have HO2 := Lib.hid ho; have HB2 := Lib.hid (HB1.out.trans (hb.mono (Nat.le_refl _))); clear ho hg hb))
        go_roundw
        case rel => exact ⟨done ++ [a], A2, c2, i + 1, by omega, rfl, by go_num, Lib.hid (by rw [List.length_append, HM.out]; rfl), HQ2, HO2, HB2⟩
        case measure => simp [intOf]; omega
    · have hi2 : ¬ (i : Int) < (n : Int) := by omega
      have HNO := Lib.hid (show R = some done by
        rw [← HR.out, HQ.out, List.drop_eq_nil_of_le (by rw [HN.out]; omega)]; simp [numsO])
      go_wp2
      refine bodyPost_ret (v := .tuple #[.slice A i c1, .bool true]) ?_ rfl ?_
      · simp [results, Tryz.f75, go_sem]
      · rw [HNO.out]
        exact ⟨⟨A, c1, by rw [HM.out], HO.out⟩, HB.out⟩
end Go.Proofs.YtekobdmlgbffnaaGreatDoor

/- Parts of a slice of bytes; a slice expression in a region that draws its order, and in one that does not. -/
namespace Go.Proofs.YtekobdmlgbffnaaGreatDoor
set_option linter.unusedVariables false
set_option maxRecDepth 100000
set_option linter.unusedSimpArgs false
open Go.RowKit

/-- Where b[lo:] lies. -/
def tailA (A : Option Addr) (c lo : Nat) : Option Addr := if c = lo then A else A.map (·.add (lo * 1))
end Go.Proofs.YtekobdmlgbffnaaGreatDoor

/- string(b) in a region that draws its order. Nothing of the program is named here. -/
namespace Go.Proofs.YtekobdmlgbffnaaGreatDoor
set_option linter.unusedVariables false
set_option maxRecDepth 100000
set_option linter.unusedSimpArgs false
open Go.RowKit

theorem yieldsIf_conv {P : Program} {ops : Array Oper} {S : World → Prop} {oi : Oper} {a : Act} (hw : Region.wanted oi (yielded ops a.tmps) = true) (src e dst : TypeId) (x : Operand) (ho : oi.op = .convert src dst x)
    (A : Option Addr) (n c : Nat) (l : List UInt8) (hx : a.eval x = .slice A n c) (hn : l.length = n) {B : World → Nat} (hR : ∀ w, S w → Rb w (B w) A l) (hs : P.underlying src = some (.slice e)) (he : P.underlying e = some (.int .u8)) (hd : P.underlying dst = some .string) : YieldsIf P ops S oi (.string (bs l)) a :=
  .inl ⟨hw, fun w hw' => by
    unfold execOp
    simp only [ho, hx, Sem.run_bind, str_of (hR w hw') src e dst hs he hd n c hn, Result.andThen_ok, Sem.run_pure, bs]⟩
end Go.Proofs.YtekobdmlgbffnaaGreatDoor

/- A number that lies in its range. -/
namespace Go.Proofs.YtekobdmlgbffnaaGreatDoor
set_option linter.unusedVariables false
set_option maxRecDepth 100000
set_option linter.unusedSimpArgs false
open Go.RowKit
theorem iwrap (x : Int) (n : Nat) (h : x = (n : Int)) (hn : n ≤ 9223372036854775807) : IntKind.i64.wrap x = (n : Int) ∧ wrap64 x = (n : Int) := by
  subst h
  constructor
  · rw [IntKind.wrap_i64]; omega
  · unfold wrap64; omega
end Go.Proofs.YtekobdmlgbffnaaGreatDoor

/- Small words for walks over slices of bytes. -/
namespace Go.Proofs.YtekobdmlgbffnaaGreatDoor
set_option linter.unusedVariables false
set_option maxRecDepth 100000
set_option linter.unusedSimpArgs false
open Go.RowKit

theorem Rb.on {u u' : World} {A : Option Addr} {l : List UInt8} (h : Rb u u.heap.size A l) (hb : Below u.heap.size u u') : Rb u' u'.heap.size A l := (h.below hb (Nat.le_refl _)).more hb.size
theorem OB.nil_ {w : World} {B : Nat} {e : TypeId} {A : Option Addr} {c : Nat} {l : List UInt8} (h : OB w B e A c l) (hA : A = none) : l.length = 0 ∧ c = 0 := by
  rcases h.2 with ⟨hv, h0⟩ | ⟨g, cap, cur, hv, _⟩
  · injection hv with _ _ h3
    exact ⟨h0, h3⟩
  · rw [hA] at hv; cases hv
/-- min of two numbers, as one operation. -/
theorem op_min {P : Program} {o : Oper} {a : Act} {K : Act → World → Prop} {Q : Exit → Act → World → Prop} {w : World} (x y : Operand) (t : TypeId) (ho : o.op = .call { callee := .builtin .min, args := #[x, y], argTypes := #[t, t] }) (u v m : Int) (hx : a.eval x = .int .i64 u) (hy : a.eval y = .int .i64 v) (hm : min u v = m)
    (h : K (a.put o.dst (.int .i64 m)) w) : o.wp P a w K Q := by
  subst hm
  have e : (if v < u then v else u) = min u v := by split <;> omega
  have hr : (Builtin.min_ #[t, t] o.type #[.int .i64 u, .int .i64 v]).run P w = .ok (.int .i64 (min u v)) w := by rw [← e]; simp [Builtin.min_, Builtin.min2]
  unfold Oper.wp execOp
  simp only [ho, resolve, invoke, builtin, Sem.run_bind, Sem.run_pure, Result.andThen_ok, List.map_toArray, List.map_cons, List.map_nil, hx, hy, hr]
  exact h
/-- The same in a region that draws nothing. -/
theorem wpList_min {P : Program} {ops : Array Oper} {rest : List Oper} {o : Oper} {a : Act} {Q : Exit → Act → World → Prop} {w : World} (hgd : o.guard = none) (x y : Operand) (t : TypeId) (ho : o.op = .call { callee := .builtin .min, args := #[x, y], argTypes := #[t, t] }) (u v m : Int) (hx : a.eval x = .int .i64 u) (hy : a.eval y = .int .i64 v) (hm : min u v = m)
    (h : wpList P ops Q rest (a.put o.dst (.int .i64 m)) w) : wpList P ops Q (o :: rest) a w :=
  wpList_plain hgd fun K hK => op_min x y t ho u v m hx hy hm (hK _ _ h)
end Go.Proofs.YtekobdmlgbffnaaGreatDoor

/- One text behind the other, as one operation. Nothing of the program is named here. -/
namespace Go.Proofs.YtekobdmlgbffnaaGreatDoor
set_option linter.unusedVariables false
set_option maxRecDepth 100000
set_option linter.unusedSimpArgs false
open Go.RowKit

theorem bs_cat (a b : List UInt8) : bs a ++ bs b = bs (a ++ b) := ByteArray.mk_append_mk a b
theorem run_cat {P : Program} (w : World) (t : TypeId) (l k : List UInt8) (h : l.length + k.length ≤ 9223372036854775807) : (binOp .add t (.string (bs l)) (.string (bs k))).run P w = .ok (.string (bs (l ++ k))) w := by
  have h1 := run_string_add_sum (P := P) w (bs l) (bs k) (by rw [bs_size, bs_size]; exact h)
  rw [bs_cat] at h1
  simp [binOp, h1]

theorem op_cat {P : Program} {o : Oper} {a : Act} {K : Act → World → Prop} {Q : Exit → Act → World → Prop} {w : World} (x y : Operand) (t t2 : TypeId) (ho : o.op = .binOp .add t x y t2) (l k m : List UInt8) (hx : a.eval x = .string (bs l)) (hy : a.eval y = .string (bs k)) (hlen : l.length + k.length ≤ 9223372036854775807) (hm : l ++ k = m)
    (h : K (a.put o.dst (.string (bs m))) w) : o.wp P a w K Q := by
  subst hm
  have hr := run_cat (P := P) w t l k hlen
  unfold Oper.wp execOp
  simp only [ho, hx, hy, eqGuard, Bool.not_false, if_true, Sem.run_bind, Sem.run_pure, Result.andThen_ok, hr]
  exact h
theorem wpList_cat {P : Program} {ops : Array Oper} {Q : Exit → Act → World → Prop} {a : Act} {w : World} {rest : List Oper} {o : Oper} (hw : Region.wanted o (yielded ops a.tmps) = true) (x y : Operand) (t t2 : TypeId) (ho : o.op = .binOp .add t x y t2) (l k m : List UInt8) (hx : a.eval x = .string (bs l)) (hy : a.eval y = .string (bs k)) (hlen : l.length + k.length ≤ 9223372036854775807) (hm : l ++ k = m)
    (h : wpList P ops Q rest (a.put o.dst (.string (bs m))) w) : wpList P ops Q (o :: rest) a w :=
  wpList_wanted hw fun K hK => op_cat x y t t2 ho l k m hx hy hlen hm (hK _ _ h)
end Go.Proofs.YtekobdmlgbffnaaGreatDoor

/- The document's own: words: its contract. -/
namespace Go.Proofs.YtekobdmlgbffnaaGreatDoor
set_option linter.unusedVariables false
set_option maxRecDepth 100000
set_option linter.unusedSimpArgs false
open Go.RowKit

abbrev scs (x : List UInt8) : Array Value := #[.string (bs x)]
theorem roS : Ro Tryz.prog 71 9 1 16 scs := ⟨Tryz.underlying71, (by
  obtain ⟨i, h1, h2, h3, h4⟩ := info_parts (show (Tryz.prog.info? 9).map (fun i => (i.zero, i.size, i.bytes)) = some (some (.string ByteArray.empty), 1, 16) by kernel_rfl)
  exact ⟨i, _, h1, h2, h3, h4, rfl⟩), by omega, fun _ => rfl, (fun x u hu => by simp [scs] at hu; subst hu; rfl), by omega⟩
abbrev OSt (w : World) (B : Nat) (A : Option Addr) (c : Nat) (l : List (List UInt8)) : Prop := Ow 9 1 scs w B A c l

/-- What the loop of words keeps. -/
def Wst (l : List UInt8) (n : Nat) (ps : List (List UInt8)) (f i : Nat) : Prop :=
  (i ≤ n ∧ f ≤ i ∧ (32 : UInt8) ∉ (l.drop f).take (i - f) ∧ piecesL 32 l = ps ++ piecesL 32 (l.drop f)) ∨ (i = n + 1 ∧ piecesL 32 l = ps)
theorem drop_at {l : List UInt8} {f i : Nat} (hf : f ≤ i) (hi : i < l.length) : l.drop f = (l.drop f).take (i - f) ++ l.getD i 0 :: l.drop (i + 1) := by
  have h1 := (List.take_append_drop (i - f) (l.drop f)).symm
  rw [List.drop_drop, show f + (i - f) = i by omega, List.drop_eq_getElem_cons hi] at h1
  rw [List.getD_eq_getElem?_getD, List.getElem?_eq_getElem hi]
  exact h1
theorem take_more {l : List UInt8} {f i : Nat} (hf : f ≤ i) (hi : i < l.length) : (l.drop f).take (i + 1 - f) = (l.drop f).take (i - f) ++ [l.getD i 0] := by
  rw [show i + 1 - f = (i - f) + 1 by omega, List.take_add_one, List.getElem?_drop, show f + (i - f) = i by omega, List.getD_eq_getElem?_getD, List.getElem?_eq_getElem hi]
  rfl
theorem Wst.start (l : List UInt8) (n : Nat) : Wst l n [] 0 0 := .inl ⟨Nat.zero_le _, Nat.le_refl _, by simp, by simp⟩
theorem Wst.go {l : List UInt8} {n : Nat} {ps : List (List UInt8)} {f i : Nat} (hn : l.length = n) (h : Wst l n ps f i) (hi : i < n) (hb : l.getD i 0 ≠ 32) : Wst l n ps f (i + 1) := by
  rcases h with ⟨h1, h2, h3, h4⟩ | ⟨h1, h2⟩
  · refine .inl ⟨by omega, by omega, ?_, h4⟩
    rw [take_more h2 (by omega)]
    simp only [List.mem_append, List.mem_singleton, not_or]
    exact ⟨h3, fun h => hb h.symm⟩
  · omega
theorem Wst.cut {l : List UInt8} {n : Nat} {ps : List (List UInt8)} {f i : Nat} (hn : l.length = n) (h : Wst l n ps f i) (hi : i < n) (hb : l.getD i 0 = 32) : f ≤ i ∧ Wst l n (ps ++ [(l.drop f).take (i - f)]) (i + 1) (i + 1) := by
  rcases h with ⟨h1, h2, h3, h4⟩ | ⟨h1, h2⟩
  · refine ⟨h2, .inl ⟨by omega, by omega, by simp, ?_⟩⟩
    have e := drop_at h2 (by omega : i < l.length)
    rw [hb] at e
    rw [h4]
    obtain ⟨p, hp⟩ : ∃ p, (l.drop f).take (i - f) = p := ⟨_, rfl⟩
    rw [hp] at e h3 ⊢
    rw [e, pieces_cut, cutL_hit 32 p _ h3, if_pos rfl, List.append_assoc]; rfl
  · omega
theorem Wst.last {l : List UInt8} {n : Nat} {ps : List (List UInt8)} {f : Nat} (hn : l.length = n) (h : Wst l n ps f n) : f ≤ n ∧ Wst l n (ps ++ [(l.drop f).take (n - f)]) (n + 1) (n + 1) := by
  rcases h with ⟨h1, h2, h3, h4⟩ | ⟨h1, h2⟩
  · refine ⟨h2, .inr ⟨rfl, ?_⟩⟩
    have e : (l.drop f).take (n - f) = l.drop f := List.take_of_length_le (by rw [List.length_drop]; omega)
    rw [e] at h3 ⊢
    rw [h4, pieces_cut, cutL_miss 32 _ h3]; simp
  · omega
theorem bs_part (l : List UInt8) (f i : Nat) : (bs l).extract f i = bs ((l.drop f).take (i - f)) := by
  apply ByteArray.ext
  rw [ByteArray.data_extract]
  show (l.toArray).extract f i = ((l.drop f).take (i - f)).toArray
  simp [List.extract]

set_option maxRecDepth 100000 in
set_option maxHeartbeats 4000000 in
theorem rwords_ok (l : List UInt8) (w : World) (hl : l.length ≤ 1099511627) :
    Calls Tryz.prog 37 #[.string (bs l)] w fun e w' => ∃ A c, e = .returned (.slice A (piecesL 32 l).length c) ∧ OSt w' w.heap.size A c (piecesL 32 l) ∧ Below w.heap.size w w' := by
  obtain ⟨n, hn⟩ : ∃ n, l.length = n := ⟨_, rfl⟩
  have hn9 : n ≤ 1099511627 := by omega
  have hsz : (bs l).size = n := by rw [bs_size, hn]
  have HSL := Lib.hid hn
  obtain ⟨B, hB⟩ : ∃ B, bs l = B := ⟨_, rfl⟩
  rw [hB] at hsz ⊢
  have HBS := Lib.hid hB
  clear hn hB hl
  go_enter Tryz.func37, Tryz.ntmps37
  go_wp2
  go_loopw [3, 4, 5] (fun v3 v4 v5 wr => ∃ (ps : List (List UInt8)) (A : Option Addr) (m c f i : Nat), m ≤ i ∧ i ≤ n + 1 ∧ v3 = .slice A m c ∧ v4 = .int .i64 (f : Int) ∧ v5 = .int .i64 (i : Int) ∧ Hid (ps.length = m) ∧ Hid (Wst l n ps f i) ∧ Hid (OSt wr w.heap.size A c ps) ∧ Hid (Below w.heap.size w wr)) (fun _ _ v5 _ => n + 1 - (intOf v5).toNat)
  case atStart => exact ⟨[], none, 0, 0, 0, 0, by omega, by omega, rfl, rfl, rfl, Lib.hid rfl, Lib.hid (Wst.start l n), Lib.hid (Ow.nil _ _), Lib.hid (Below.refl _ _)⟩
  case round =>
    obtain ⟨ps, A, m, c, f, i, hmi, hi, rfl, rfl, rfl, HM, HW, HO, HB⟩ := hrel
    have HSZ := Lib.hid HB.out.size
    by_cases hi1 : i < n
    · have hi2 : (i : Int) ≤ (n : Int) := by omega
      have hi3 : i ≤ n := by omega
      have hi4 : ((i : Int) == (n : Int)) = false := by rw [beq_eq_false_iff_ne]; omega
      have hi5 : ¬ i = n := by omega
      obtain ⟨x, hx⟩ : ∃ x, (B.data.toList.getD i 0).toNat = x := ⟨_, rfl⟩
      have hix := sidx B i x (by omega) hx wr
      obtain ⟨b, hb⟩ : ∃ b, decide (l.getD i 0 = 32) = b := ⟨_, rfl⟩
      have hxS : (l.getD i 0).toNat = x := by rw [← hx, ← HBS.out, bs_data]
      have hbx : ((x : Int) == 32) = b := by
        rw [← hb, Bool.eq_iff_iff, beq_iff_eq, decide_eq_true_iff, ← hxS]
        constructor
        · intro h
          apply UInt8.toNat_inj.1
          show _ = 32
          omega
        · intro h; rw [h]; rfl
      have HBD := Lib.hid hb
      clear hx hxS hb
      cases b with
      | false =>
        go_wp2
        go_roundw
        case rel => exact ⟨ps, A, m, c, f, i + 1, by omega, by omega, rfl, rfl, by go_num, HM, Lib.hid (HW.out.go HSL.out hi1 (of_decide_eq_false HBD.out)), HO, HB⟩
        case measure => simp [intOf]; omega
      | true =>
        obtain ⟨hfi, hW2⟩ := HW.out.cut HSL.out hi1 (of_decide_eq_true HBD.out)
        have HW2 := Lib.hid hW2
        have hsl : (Instr.sliceAt 9 (.string B) (some (.int .i64 (f : Int))) (some (.int .i64 (i : Int))) none).run Tryz.prog wr = .ok (.string (bs ((l.drop f).take (i - f)))) wr := by
          rw [← HBS.out]
          go_simp
          rw [if_pos (by rw [bs_size, HSL.out]; omega), bs_part]
        obtain ⟨p, hp⟩ : ∃ p, (l.drop f).take (i - f) = p := ⟨_, rfl⟩
        rw [hp] at hsl HW2
        clear hp hW2
        have HBN := Lib.hid (Bk.new wr 9 #[.string (bs p)])
        have HO1 := Lib.hid (HO.out.on ((Below.refl _ _).alloc (Nat.le_refl _) (.cells #[.string (bs p)] 9)))
        have HB1 := Lib.hid (HB.out.alloc HB.out.size (.cells #[.string (bs p)] 9))
        go_wp2_with (refine wp_rows0 roS rfl (.tmp 22) (.tmp 27) rfl m rfl HM.out HO1.out [p] _ 1 _ rfl rfl (fun h => by cases h) (Rw.bk HBN.out) (by omega) HB1.out.size (m + 1) rfl ?_; intro A2 c2 w2 ho hg hb; have HO2 := Lib.hid ho; have HB2 := Lib.hid (HB1.out.trans (hb.mono (Nat.le_refl _))); clear ho hg hb)
        go_roundw
        case rel => exact ⟨ps ++ [p], A2, m + 1, c2, i + 1, i + 1, by omega, by omega, rfl, by go_num, by go_num, Lib.hid (by rw [List.length_append, HM.out]; rfl), HW2, HO2, HB2⟩
        case measure => simp [intOf]; omega
    · by_cases hi6 : i = n
      · have hi2 : (i : Int) ≤ (n : Int) := by omega
        have hi3 : i ≤ n := by omega
        have hi4 : ((i : Int) == (n : Int)) = true := by rw [beq_iff_eq]; omega
        obtain ⟨hfi, hW2⟩ := (show Wst l n ps f n by have h := HW.out; rwa [hi6] at h).last HSL.out
        have HW2 := Lib.hid hW2
        have hsl : (Instr.sliceAt 9 (.string B) (some (.int .i64 (f : Int))) (some (.int .i64 (i : Int))) none).run Tryz.prog wr = .ok (.string (bs ((l.drop f).take (i - f)))) wr := by
          rw [← HBS.out]
          go_simp
          rw [if_pos (by rw [bs_size, HSL.out]; omega), bs_part]
        obtain ⟨p, hp⟩ : ∃ p, (l.drop f).take (i - f) = p := ⟨_, rfl⟩
        rw [hp] at hsl
        rw [← hi6, hp] at HW2
        clear hp hW2
        have HI6 := Lib.hid hi6
        clear hi6
        have HBN := Lib.hid (Bk.new wr 9 #[.string (bs p)])
        have HO1 := Lib.hid (HO.out.on ((Below.refl _ _).alloc (Nat.le_refl _) (.cells #[.string (bs p)] 9)))
        have HB1 := Lib.hid (HB.out.alloc HB.out.size (.cells #[.string (bs p)] 9))
        go_wp2_with (refine wp_rows0 roS rfl (.tmp 22) (.tmp 27) rfl m rfl HM.out HO1.out [p] _ 1 _ rfl rfl (fun h => by cases h) (Rw.bk HBN.out) (by omega) HB1.out.size (m + 1) rfl ?_; intro A2 c2 w2 ho hg hb; have HO2 := Lib.hid ho; have HB2 := Lib.hid (HB1.out.trans (hb.mono (Nat.le_refl _))); clear ho hg hb)
        go_roundw
        case rel => exact ⟨ps ++ [p], A2, m + 1, c2, i + 1, i + 1, by omega, by have := HI6.out; omega, rfl, by go_num, by go_num, Lib.hid (by rw [List.length_append, HM.out]; rfl), by have := HW2.out; rw [HI6.out] at this; rw [HI6.out]; exact Lib.hid this, HO2, HB2⟩
        case measure => simp [intOf]; have := HI6.out; omega
      · have hi2 : ¬ (i : Int) ≤ (n : Int) := by omega
        have hi3 : ¬ i ≤ n := by omega
        have HPS := Lib.hid (show piecesL 32 l = ps from by
          rcases HW.out with ⟨h1, _⟩ | ⟨_, h2⟩
          · omega
          · exact h2)
        go_wp2
        go_ret
        exact ⟨A, c, by rw [HPS.out, HM.out]; rfl, by rw [HPS.out]; exact HO.out, HB.out⟩
end Go.Proofs.YtekobdmlgbffnaaGreatDoor
