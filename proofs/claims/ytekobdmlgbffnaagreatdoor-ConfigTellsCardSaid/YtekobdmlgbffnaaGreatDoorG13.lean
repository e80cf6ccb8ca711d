/- CfgN, Cz9, CzD, SNameM, SRef2: texts of this seat, one behind the other. -/
import Derived.Test.YtekobdmlgbffnaaGreatDoorG3
import Derived.Test.YtekobdmlgbffnaaGreatDoorG9
import Derived.Test.YtekobdmlgbffnaaGreatDoorCzA
import Derived.Test.YtekobdmlgbffnaaGreatDoorCzB
import Derived.Test.YtekobdmlgbffnaaGreatDoorCzC
import Derived.Test.YtekobdmlgbffnaaGreatDoorCz8
import Derived.Test.YtekobdmlgbffnaaGreatDoorG11
import Derived.Test.YtekobdmlgbffnaaGreatDoorG4
/- Configurations, there and back: plain mathematics. -/
namespace Go.Proofs.YtekobdmlgbffnaaGreatDoor
set_option linter.unusedVariables false
set_option maxRecDepth 100000
set_option linter.unusedSimpArgs false

/-! ### Words without blanks and ends -/

def fineW (w : List UInt8) : Prop := ∀ c ∈ w, 45 ≤ c.toNat
def fineL (ws : List (List UInt8)) : Prop := ws ≠ [] ∧ ∀ w ∈ ws, fineW w
theorem rise_names : ∀ (l : List ByteArray) (last : ByteArray), rise last l = true → ∀ x ∈ l, nameB x = true
  | [], _, _, x, h => by cases h
  | y :: r, last, h, x, hx => by
    simp only [rise, Bool.and_eq_true] at h
    rcases List.mem_cons.1 hx with rfl | hx
    · exact h.1.1
    · exact rise_names r y h.2 x hx
theorem cfgB_parts {c : Cg} (h : cfgB c = true) : timB c.wait = true ∧ timB c.grace = true ∧ timB c.idle = true ∧ timB c.lease = true ∧ c.tens.length ≤ 8 ∧ rise ByteArray.empty (c.tens.map (·.name)) = true ∧ (∀ t ∈ c.tens, tenB t = true) := by
  unfold cfgB at h
  simp only [Bool.and_eq_true, decide_eq_true_eq, List.all_eq_true] at h
  obtain ⟨⟨⟨⟨⟨⟨a, b⟩, d⟩, e⟩, f⟩, g⟩, i⟩ := h
  exact ⟨a, b, d, e, f, g, i⟩
theorem tenB_parts {t : Tn} (h : tenB t = true) : quoB t.names = true ∧ quoB t.visitors = true ∧ t.nets.length ≤ 4 ∧ (∀ n ∈ t.nets, netB n = true) ∧ t.toks.length ≤ 4 ∧ rise ByteArray.empty (t.toks.map (·.name)) = true ∧ (∀ k ∈ t.toks, tokB k = true) := by
  unfold tenB at h
  simp only [Bool.and_eq_true, decide_eq_true_eq, List.all_eq_true] at h
  obtain ⟨⟨⟨⟨⟨⟨a, b⟩, d⟩, e⟩, f⟩, g⟩, i⟩ := h
  exact ⟨a, b, d, e, f, g, i⟩
/-! ### What is printed is read -/

def runW : Cg → Nat → List (List (List UInt8)) → Option Cg
  | c, _, [] => some c
  | c, at', ws :: r => match lineC c (at' == 0) ws with
    | some c' => runW c' (at' + 1) r
    | none => none
def cT (c : Cg) (T : List Tn) : Cg := { c with tens := T }
theorem kw1 : wTenant ≠ wTimes := by decide
theorem kw2 : wNet ≠ wTimes := by decide
theorem kw3 : wToken ≠ wTimes := by decide
theorem kw4 : wNet ≠ wTenant := by decide
theorem kw5 : wToken ≠ wTenant := by decide
theorem kw6 : wToken ≠ wNet := by decide
theorem quo_le {n : Int} (h : quoB n = true) : 0 ≤ n ∧ n ≤ 8 := by simpa [quoB] using h
theorem tim_le {n : Int} (h : timB n = true) : 1 ≤ n ∧ n ≤ 1073741824 := by simpa [timB] using h

def netsLt (c : Cg) : Prop := ∀ t ∈ c.tens, ∀ n ∈ t.nets, n.addr < 4294967296

/-! ### What is read is printed -/

theorem setC_ls {c : Cg} {t t' : Tn} (h : lastC c = some t) (x : List (List UInt8)) (ht : tenLs t' = tenLs t ++ [x]) : cfgLs (setC c t') = cfgLs c ++ [x] := by
  unfold lastC at h
  obtain ⟨T, hT⟩ := List.getLast?_eq_some_iff.1 h
  unfold cfgLs setC
  simp only [timesW]
  rw [hT, List.dropLast_concat, List.flatMap_append, List.flatMap_append]
  simp [ht]
theorem readW_is {c c' : Cg} {ws : List (List UInt8)} (h : readW c ws = some c') : (ws.head? = some wTimes → cfgLs c' = ws :: c.tens.flatMap tenLs) ∧ (ws.head? ≠ some wTimes → cfgLs c' = cfgLs c ++ [ws]) := by
  cases ws with
  | nil => cases h
  | cons k ws =>
    unfold readW at h
    dsimp only at h
    by_cases h1 : k = wTimes
    · subst h1
      rw [if_pos rfl] at h
      refine ⟨fun _ => ?_, fun k => absurd rfl k⟩
      match ws, h with
      | [a, b, d, e], h =>
        simp only [readTimes] at h
        cases ha : decO a with
        | none => simp only [ha] at h; cases h
        | some a' =>
          cases hb : decO b with
          | none => simp only [ha, hb] at h; cases h
          | some b' =>
            cases hd : decO d with
            | none => simp only [ha, hb, hd] at h; cases h
            | some d' =>
              cases he : decO e with
              | none => simp only [ha, hb, hd, he] at h; cases h
              | some e' =>
                simp only [ha, hb, hd, he] at h
                injection h with h
                subst h
                simp only [cfgLs, timesW, Int.toNat_natCast]
                rw [(decO_is _ _ ha).2, (decO_is _ _ hb).2, (decO_is _ _ hd).2, (decO_is _ _ he).2]
    · rw [if_neg h1] at h
      refine ⟨fun q => absurd (by simpa using q) h1, fun _ => ?_⟩
      by_cases h2 : k = wTenant
      · subst h2
        rw [if_pos rfl] at h
        match ws, h with
        | [n, a, b], h =>
          simp only [readTenant] at h
          cases ha : decO a with
          | none => simp only [ha] at h; cases h
          | some a' =>
            cases hb : decO b with
            | none => simp only [ha, hb] at h; cases h
            | some b' =>
              simp only [ha, hb] at h
              injection h with h
              subst h
              simp only [cfgLs, timesW, List.flatMap_append, List.flatMap_cons, List.flatMap_nil, tenLs, tenW, Int.toNat_natCast, bs_data, List.map_nil, List.append_nil]
              rw [(decO_is _ _ ha).2, (decO_is _ _ hb).2]
              rfl
      · rw [if_neg h2] at h
        by_cases h3 : k = wNet
        · subst h3
          rw [if_pos rfl] at h
          match ws, h with
          | [n], h =>
            simp only [readNet] at h
            cases hl : lastC c with
            | none => simp only [hl] at h; cases h
            | some t =>
              simp only [hl] at h
              by_cases ht : t.toks = []
              · rw [if_pos ht] at h
                cases hn : netO (bs n) with
                | none => simp only [hn] at h; cases h
                | some x =>
                  simp only [hn] at h
                  injection h with h
                  subst h
                  refine setC_ls hl _ ?_
                  obtain ⟨x1, x2⟩ := x
                  have := bs_inj (net_is _ _ _ hn).2.2.2
                  simp only [tenLs, ht, List.map_nil, List.append_nil, List.map_append, List.map_cons, netW, tenW]
                  rw [this, List.cons_append]
              · rw [if_neg ht] at h; cases h
        · rw [if_neg h3] at h
          by_cases h4 : k = wToken
          · subst h4
            rw [if_pos rfl] at h
            match ws, h with
            | [n, s, u], h =>
              simp only [readToken] at h
              cases hl : lastC c with
              | none => simp only [hl] at h; cases h
              | some t =>
                simp only [hl] at h
                cases hs : unhexB s with
                | none => simp only [hs] at h; cases h
                | some b =>
                  cases hu : decO u with
                  | none => simp only [hs, hu] at h; cases h
                  | some v =>
                    simp only [hs, hu] at h
                    injection h with h
                    subst h
                    refine setC_ls hl _ ?_
                    simp only [tenLs, List.map_append, List.map_cons, List.map_nil, tokW, tenW, bs_data, Int.toNat_natCast]
                    rw [hexB_unhexB _ _ hs, (decO_is _ _ hu).2]
                    simp
          · rw [if_neg h4] at h; cases h
theorem lineC_is {c c' : Cg} {first : Bool} {ws : List (List UInt8)} (h : lineC c first ws = some c') : cfgB c' = true ∧ decide (ws.head? = some wTimes) = first ∧ readW c ws = some c' := by
  unfold lineC at h
  by_cases h1 : decide (ws.head? = some wTimes) = first
  · rw [if_pos h1] at h
    unfold okC at h
    cases hr : readW c ws with
    | none => rw [hr] at h; cases h
    | some d =>
      rw [hr] at h
      simp only at h
      by_cases hd : cfgB d = true
      · rw [if_pos hd] at h
        injection h with h
        subst h
        exact ⟨hd, h1, rfl⟩
      · rw [if_neg hd] at h; cases h
  · rw [if_neg h1] at h; cases h
theorem lineC_ls {c c' : Cg} {at' : Nat} {ws : List (List UInt8)} (h0 : at' = 0 → c.tens = []) (h : lineC c (at' == 0) ws = some c') : cfgB c' = true ∧ cfgLs c' = (if at' = 0 then [] else cfgLs c) ++ [ws] := by
  obtain ⟨h1, h2, h3⟩ := lineC_is h
  refine ⟨h1, ?_⟩
  obtain ⟨k1, k2⟩ := readW_is h3
  by_cases ha : at' = 0
  · subst ha
    rw [k1 (by simpa using h2), h0 rfl]; rfl
  · have e : (at' == 0) = false := by simpa using ha
    rw [e] at h2
    rw [k2 (by simpa using h2), if_neg ha]
theorem runL_is : ∀ (ls : List (List UInt8 × Bool)) (c c' : Cg) (at' : Nat), (at' = 0 → c.tens = []) → (at' ≠ 0 → cfgB c = true) → runL c at' ls = .ok c' →
    cfgB c' = true ∧ (∀ x ∈ ls, x.2 = true) ∧ textT (cfgLs c') = (if at' = 0 then [] else textT (cfgLs c)) ++ ls.flatMap fun x => x.1 ++ [10]
  | [], c, c', at', h0, h1, h => by
    rw [runL] at h
    by_cases ha : at' = 0
    · rw [if_pos ha] at h; cases h
    · rw [if_neg ha] at h
      injection h with h
      subst h
      exact ⟨h1 ha, (fun x hx => by cases hx), by rw [if_neg ha]; simp⟩
  | (l, e) :: r, c, c', at', h0, h1, h => by
    rw [runL] at h
    by_cases he : e = true
    · subst he
      rw [if_pos rfl] at h
      cases hl : lineC c (at' == 0) (piecesL 32 l) with
      | none => rw [hl] at h; cases h
      | some d =>
        rw [hl] at h
        simp only at h
        obtain ⟨g1, g2⟩ := lineC_ls h0 hl
        obtain ⟨i1, i2, i3⟩ := runL_is r d c' (at' + 1) (fun k => by omega) (fun _ => g1) h
        refine ⟨i1, fun x hx => ?_, ?_⟩
        · rcases List.mem_cons.1 hx with rfl | hx
          · rfl
          · exact i2 x hx
        · rw [i3, if_neg (by omega), g2]
          unfold textT
          rw [List.flatMap_append, List.flatMap_cons, List.flatMap_cons, List.flatMap_nil, List.append_nil, lineT, pieces_join]
          by_cases ha : at' = 0
          · rw [if_pos ha, if_pos ha]; simp
          · rw [if_neg ha, if_neg ha]; simp
    · rw [if_neg he] at h; cases h
theorem parse_isC (s : ByteArray) (c : Cg) (h : parseC s = .ok c) : cfgB c = true ∧ s = bs (printT c) := by
  unfold parseC at h
  obtain ⟨h1, h2, h3⟩ := runL_is _ _ _ _ (fun _ => rfl) (fun k => absurd rfl k) h
  refine ⟨h1, ?_⟩
  rw [if_pos rfl, List.nil_append, ← lines_text _ h2] at h3
  unfold printT
  rw [if_pos h1, h3, bs_of]
end Go.Proofs.YtekobdmlgbffnaaGreatDoor

/- The document's own: with: lines that it does not take, without a call. (Written by gen_cz9.py.) -/
namespace Go.Proofs.YtekobdmlgbffnaaGreatDoor
set_option linter.unusedVariables false
set_option maxRecDepth 100000
set_option linter.unusedSimpArgs false
open Go.RowKit

set_option maxRecDepth 100000 in
set_option maxHeartbeats 4000000 in
theorem rwith_o1 (x : Cv) (first : Bool) (b o n c : Nat) (k : List UInt8) (ws : List (List UInt8)) (w : World) (hn : (k :: ws).length = n) (hn9 : n ≤ 1099511627) (hlt : b < w.heap.size) (hc0 : w.cell? ⟨b, o, none⟩ = some (.string (bs k))) (hts : x.ts = []) (hf : decide (k = wTimes) = first) (h5 : k = wTimes → n ≠ 5) (h4 : k = wTenant → n ≠ 4) (hno : withO x.cg first (k :: ws) = none) :
    Calls Tryz.prog 36 #[.agg (ccs x), .bool first, .slice (some ⟨b, o, none⟩) n c] w (WiP x first (k :: ws) w) := by
  obtain ⟨a0, a1, a2, a3, ts, A, c1⟩ := x
  have h0 : 0 < n := by rw [← hn]; simp
  have h0i : (0 : Int) < (n : Int) := by omega
  have hq : ((bs k).toList == [116, 105, 109, 101, 115]) = first := by rw [is_times, hf]
  obtain ⟨be, hbe⟩ : ∃ be, ((bs k).toList == [116, 101, 110, 97, 110, 116]) = be := ⟨_, rfl⟩
  have h5' : first = true → ¬ (n : Int) = 5 := fun h => by
    have := h5 (of_decide_eq_true (hf.trans h)); omega
  have h4' : be = true → ¬ (n : Int) = 4 := fun h => by
    have := h4 (of_decide_eq_true ((is_tenant k).symm.trans (hbe.trans h))); omega
  clear h5 h4 hf hn
  obtain ⟨n1, hn1⟩ : ∃ m, ts.length = m := ⟨_, rfl⟩
  have h10 : (n1 : Int) = 0 := by rw [← hn1, show ts = [] from hts]; rfl
  have HN1 := Lib.hid hn1
  obtain ⟨B, hB⟩ : ∃ B, bs k = B := ⟨_, rfl⟩
  rw [hB] at hq hbe hc0
  clear hB hts
  simp only [ccs, hn1]
  have HB0 := Lib.hid (show Bk ((w.alloc (.cells #[.int .i64 a0, .int .i64 a1, .int .i64 a2, .int .i64 a3, .slice A n1 c1] 24)).alloc (.cells #[.int .i64 0, .int .i64 0, .int .i64 0, .int .i64 0, .slice none 0 0] 24)) w.heap.size 24 #[.int .i64 a0, .int .i64 a1, .int .i64 a2, .int .i64 a3, .slice A n1 c1] from (Bk.new w _ _).alloc _)
  have HB1 := Lib.hid (show Bk ((w.alloc (.cells #[.int .i64 a0, .int .i64 a1, .int .i64 a2, .int .i64 a3, .slice A n1 c1] 24)).alloc (.cells #[.int .i64 0, .int .i64 0, .int .i64 0, .int .i64 0, .slice none 0 0] 24)) (w.heap.size + 1) 24 #[.int .i64 0, .int .i64 0, .int .i64 0, .int .i64 0, .slice none 0 0] by have := Bk.new (w.alloc (.cells #[.int .i64 a0, .int .i64 a1, .int .i64 a2, .int .i64 a3, .slice A n1 c1] 24)) 24 #[.int .i64 0, .int .i64 0, .int .i64 0, .int .i64 0, .slice none 0 0]; rwa [World.size_alloc] at this)
  have HLO := Lib.hid (show Below w.heap.size w ((w.alloc (.cells #[.int .i64 a0, .int .i64 a1, .int .i64 a2, .int .i64 a3, .slice A n1 c1] 24)).alloc (.cells #[.int .i64 0, .int .i64 0, .int .i64 0, .int .i64 0, .slice none 0 0] 24)) from ((Below.refl w.heap.size w).alloc (Nat.le_refl _) _).alloc (by rw [World.size_alloc]; omega) _)
  have c0w : ((w.alloc (.cells #[.int .i64 a0, .int .i64 a1, .int .i64 a2, .int .i64 a3, .slice A n1 c1] 24)).alloc (.cells #[.int .i64 0, .int .i64 0, .int .i64 0, .int .i64 0, .slice none 0 0] 24)).cell? ⟨b, o, none⟩ = some (.string B) := (HLO.out.cell (p := ⟨b, o, none⟩) hlt).trans hc0
  clear hn1
  have HNO := Lib.hid hno
  clear hno
  cases first <;> cases be
  all_goals
    try (have q5 := h5' rfl)
    try (have q4 := h4' rfl)
    clear h5' h4'
    go_enter Tryz.func36, Tryz.ntmps36
    go_upto_region 1 with fail
    obtain ⟨v0, hv0⟩ : ∃ v, ((w.alloc (.cells #[.int .i64 a0, .int .i64 a1, .int .i64 a2, .int .i64 a3, .slice A n1 c1] 24)).alloc (.cells #[.int .i64 0, .int .i64 0, .int .i64 0, .int .i64 0, .slice none 0 0] 24)) = v := ⟨_, rfl⟩
    rw [hv0] at HB0 HB1 HLO c0w ⊢
    clear hv0
    have p0 : v0.cell? ⟨w.heap.size, 0, none⟩ = some (.int .i64 a0) := HB0.out.cell 0
    have g0 : v0.cell? ⟨w.heap.size + 1, 0, none⟩ = some (.int .i64 0) := HB1.out.cell 0
    have gf0 := HB1.out.frozen 0
    have p1 : v0.cell? ⟨w.heap.size, 1, none⟩ = some (.int .i64 a1) := HB0.out.cell 1
    have g1 : v0.cell? ⟨w.heap.size + 1, 1, none⟩ = some (.int .i64 0) := HB1.out.cell 1
    have gf1 := HB1.out.frozen 1
    have p2 : v0.cell? ⟨w.heap.size, 2, none⟩ = some (.int .i64 a2) := HB0.out.cell 2
    have g2 : v0.cell? ⟨w.heap.size + 1, 2, none⟩ = some (.int .i64 0) := HB1.out.cell 2
    have gf2 := HB1.out.frozen 2
    have p3 : v0.cell? ⟨w.heap.size, 3, none⟩ = some (.int .i64 a3) := HB0.out.cell 3
    have g3 : v0.cell? ⟨w.heap.size + 1, 3, none⟩ = some (.int .i64 0) := HB1.out.cell 3
    have gf3 := HB1.out.frozen 3
    have p4 : v0.cell? ⟨w.heap.size, 4, none⟩ = some (.slice A n1 c1) := HB0.out.cell 4
    have g4 : v0.cell? ⟨w.heap.size + 1, 4, none⟩ = some (.slice none 0 0) := HB1.out.cell 4
    have gf4 := HB1.out.frozen 4
    try simp only [List.cons_append, List.nil_append]
    go_wp2
    have kU := (((((HB1.out.set 0 (.int .i64 a0)).set 1 (.int .i64 a1)).set 2 (.int .i64 a2)).set 3 (.int .i64 a3)).set 4 (.slice A n1 c1))
    simp only [List.setIfInBounds_toArray, List.set_cons_zero, List.set_cons_succ] at kU
    refine bodyPost_ret (v := .tuple #[.agg #[.int .i64 a0, .int .i64 a1, .int .i64 a2, .int .i64 a3, .slice A n1 c1], .bool false]) ?_ rfl ⟨?_, .inl ⟨⟨a0, a1, a2, a3, ts, A, c1⟩, by simp only [ccs, HN1.out], HNO.out⟩⟩
    · have k0 := kU.cell 0; have k1 := kU.cell 1; have k2 := kU.cell 2; have k3 := kU.cell 3; have k4 := kU.cell 4
      simp [results, Tryz.f36, go_sem, k0, k1, k2, k3, k4]
    · exact (((((HLO.out.setCell (p := ⟨w.heap.size + 1, 0, none⟩) (by show w.heap.size ≤ w.heap.size + 1; omega) _).setCell (p := ⟨w.heap.size + 1, 1, none⟩) (by show w.heap.size ≤ w.heap.size + 1; omega) _).setCell (p := ⟨w.heap.size + 1, 2, none⟩) (by show w.heap.size ≤ w.heap.size + 1; omega) _).setCell (p := ⟨w.heap.size + 1, 3, none⟩) (by show w.heap.size ≤ w.heap.size + 1; omega) _).setCell (p := ⟨w.heap.size + 1, 4, none⟩) (by show w.heap.size ≤ w.heap.size + 1; omega) _)
end Go.Proofs.YtekobdmlgbffnaaGreatDoor

/- The document's own: with: its contract, every line. -/
namespace Go.Proofs.YtekobdmlgbffnaaGreatDoor
set_option linter.unusedVariables false
set_option maxRecDepth 100000
set_option linter.unusedSimpArgs false
open Go.RowKit

theorem no_times (c : Cg) : ∀ l : List (List UInt8), l.length ≠ 4 → readTimes c l = none
  | [], _ => rfl
  | [_], _ => rfl
  | [_, _], _ => rfl
  | [_, _, _], _ => rfl
  | [_, _, _, _], h => absurd rfl h
  | _ :: _ :: _ :: _ :: _ :: _, _ => rfl
theorem no_tenant (c : Cg) : ∀ l : List (List UInt8), l.length ≠ 3 → readTenant c l = none
  | [], _ => rfl
  | [_], _ => rfl
  | [_, _], _ => rfl
  | [_, _, _], h => absurd rfl h
  | _ :: _ :: _ :: _ :: _, _ => rfl
theorem no_net (c : Cg) : ∀ l : List (List UInt8), (l.length ≠ 1 ∨ c.tens = [] ∨ ∃ T t, c.tens = T ++ [t] ∧ t.toks ≠ []) → readNet c l = none
  | [], _ => rfl
  | [n], h => by
    unfold readNet
    rcases h with h | h | ⟨T, t, h, ht⟩
    · exact absurd rfl h
    · unfold lastC; rw [h]; rfl
    · unfold lastC; rw [h]; simp [ht]
  | _ :: _ :: _, _ => rfl
theorem no_token (c : Cg) : ∀ l : List (List UInt8), (l.length ≠ 3 ∨ c.tens = []) → readToken c l = none
  | [], _ => rfl
  | [_], _ => rfl
  | [_, _], _ => rfl
  | [n, s, u], h => by
    unfold readToken
    rcases h with h | h
    · exact absurd rfl h
    · unfold lastC; rw [h]; rfl
  | _ :: _ :: _ :: _ :: _, _ => rfl
theorem readW_other (c : Cg) (k : List UInt8) (l : List (List UInt8)) (h1 : k ≠ wTimes) (h2 : k ≠ wTenant) (h3 : k ≠ wNet) (h4 : k ≠ wToken) : readW c (k :: l) = none := by
  simp only [readW]
  rw [if_neg h1, if_neg h2, if_neg h3, if_neg h4]
theorem readW_tim (c : Cg) (l : List (List UInt8)) : readW c (wTimes :: l) = readTimes c l := by
  simp only [readW]
  rw [if_pos trivial]
/-- A configuration without a tenant. -/
theorem no_first (c : Cg) (k : List UInt8) (l : List (List UInt8)) (hc : c.tens = []) (h1 : k = wTimes → l.length ≠ 4) (h2 : k = wTenant → l.length ≠ 3) : readW c (k :: l) = none := by
  by_cases e1 : k = wTimes
  · subst e1; rw [readW_tim]; exact no_times c l (h1 rfl)
  · by_cases e2 : k = wTenant
    · subst e2; rw [readW_ten]; exact no_tenant c l (h2 rfl)
    · by_cases e3 : k = wNet
      · subst e3; rw [readW_net]; exact no_net c l (.inr (.inl hc))
      · by_cases e4 : k = wToken
        · subst e4; rw [readW_tok]; exact no_token c l (.inr hc)
        · exact readW_other c k l e1 e2 e3 e4
theorem four_of {α : Type} : ∀ l : List α, l.length = 4 → ∃ a b c d, l = [a, b, c, d]
  | [a, b, c, d], _ => ⟨a, b, c, d, rfl⟩
theorem three_of {α : Type} : ∀ l : List α, l.length = 3 → ∃ a b c, l = [a, b, c]
  | [a, b, c], _ => ⟨a, b, c, rfl⟩
theorem one_of {α : Type} : ∀ l : List α, l.length = 1 → ∃ a, l = [a]
  | [a], _ => ⟨a, rfl⟩
theorem snoc_of {α : Type} (l : List α) (h : l ≠ []) : ∃ T y, l = T ++ [y] := ⟨l.dropLast, l.getLast h, (List.dropLast_concat_getLast h).symm⟩

/-- What is read is small. -/
structure FewC (x : Cv) : Prop where
  n : x.ts.length ≤ 1000
  each : ∀ y ∈ x.ts, y.t.nets.length ≤ 1000 ∧ y.t.toks.length ≤ 1000
theorem few_of {x : Cv} (h : cfgB x.cg = true) : FewC x := by
  obtain ⟨_, _, _, _, h1, _, h2⟩ := cfgB_parts h
  have h3 : x.ts.length ≤ 8 := by simpa [Cv.cg] using h1
  refine ⟨by omega, fun y hy => ?_⟩
  obtain ⟨_, _, h4, _, h5, _⟩ := tenB_parts (h2 y.t (List.mem_map.2 ⟨y, hy, rfl⟩))
  omega
theorem rwith_ok (x : Cv) (first : Bool) (A : Option Addr) (c B : Nat) (ws : List (List UInt8)) (w : World) (hws : ws ≠ []) (h : RC w x) (hfew : FewC x) (hfirst : first = true → x.ts = []) (hr : OSt w B A c ws) (hlen : ∀ z ∈ ws, z.length ≤ 1099511627) (hn9 : ws.length ≤ 1099511627) :
    Calls Tryz.prog 36 #[.agg (ccs x), .bool first, .slice A ws.length c] w (WiP x first ws w) := by
  obtain ⟨k, l, rfl⟩ : ∃ k l, ws = k :: l := by cases ws with
    | nil => exact absurd rfl hws
    | cons k l => exact ⟨k, l, rfl⟩
  have hcap : (k :: l).length ≤ c := (Ow.fit hr).cap
  obtain ⟨b, o, rfl, hlt, hcell⟩ : ∃ b o, A = some ⟨b, o, none⟩ ∧ b < w.heap.size ∧ ∀ j z, (k :: l)[j]? = some z → w.cell? ⟨b, o + j, none⟩ = some (.string (bs z)) := by
    rcases Ow.rw_ (k := 1) (f := scs) (fun _ => rfl) hr with h1 | ⟨b, o, e, hb, hc⟩
    · cases h1
    · refine ⟨b, o, e, hb, fun j z hz => ?_⟩
      obtain ⟨hj, e1⟩ := List.getElem?_eq_some_iff.1 hz
      have := hc j hj 0 (by decide)
      rw [e1, Nat.mul_one, Nat.add_zero] at this
      exact this
  have hc0 := hcell 0 k rfl
  rw [Nat.add_zero] at hc0
  have hrow : ∀ j z, (k :: l)[j]? = some z → w.cell? ⟨b, o + j, none⟩ = some (.string (bs z)) ∧ z.length ≤ 140737488355328 := fun j z hz => ⟨hcell j z hz, by have := hlen z (List.mem_of_getElem? hz); omega⟩
  have hrow2 : ∀ j z, (k :: l)[j]? = some z → w.cell? ⟨b, o + j, none⟩ = some (.string (bs z)) ∧ z.length ≤ 1099511627776 := fun j z hz => ⟨hcell j z hz, by have := hlen z (List.mem_of_getElem? hz); omega⟩
  have hn8 := hfew.n
  by_cases hf : decide (k = wTimes) = first
  · cases first with
    | true =>
      have hk : k = wTimes := of_decide_eq_true hf
      have hts := hfirst rfl
      by_cases h5 : l.length = 4
      · obtain ⟨y0, y1, y2, y3, rfl⟩ := four_of l h5
        subst hk
        exact rwith_times x b o c y0 y1 y2 y3 w hcap hlt hts hrow
      · refine rwith_o1 x true b o _ c k l w rfl hn9 hlt hc0 hts hf (fun _ e => h5 (by simpa using e)) (fun e => by rw [hk] at e; exact absurd e (by decide)) ?_
        rw [with_eq _ _ _ _ hf]
        exact no_first _ k l (by simp [Cv.cg, hts]) (fun _ => h5) (fun e => by rw [hk] at e; exact absurd e (by decide))
    | false =>
      have hk : k ≠ wTimes := of_decide_eq_false hf
      by_cases ht4 : k = wTenant ∧ l.length = 3
      · obtain ⟨rfl, h4⟩ := ht4
        obtain ⟨nm, y0, y1, rfl⟩ := three_of l h4
        exact rwith_tenant x b o c nm y0 y1 w h (by omega) hcap hlt hrow
      · by_cases hts : x.ts = []
        · refine rwith_o1 x false b o _ c k l w rfl hn9 hlt hc0 hts hf (fun e => absurd e hk) (fun e e4 => ht4 ⟨e, by simpa using e4⟩) ?_
          rw [with_eq _ _ _ _ hf]
          exact no_first _ k l (by simp [Cv.cg, hts]) (fun e => absurd e hk) (fun e e3 => ht4 ⟨e, e3⟩)
        · obtain ⟨T, y, hy⟩ := snoc_of x.ts hts
          have hyf := hfew.each y (by rw [hy]; simp)
          have htens : x.cg.tens = T.map (·.t) ++ [y.t] := by simp [Cv.cg, hy]
          by_cases e2 : k = wTenant
          · have h4 : (k :: l).length ≠ 4 := fun e => ht4 ⟨e2, by simpa using e⟩
            refine rwith_o2a x b o _ c k l w rfl hn9 hlt hc0 T y hy h (by omega) hf (decide_eq_true e2) (by rw [e2]; decide) (by rw [e2]; decide) h4 ?_
            rw [with_eq _ _ _ _ hf, e2, readW_ten]
            exact no_tenant _ l (fun e => h4 (by simp [e]))
          · by_cases e3 : k = wNet
            · by_cases h2 : l.length = 1
              · by_cases hto : y.t.toks = []
                · obtain ⟨p, rfl⟩ := one_of l h2
                  subst e3
                  exact rwith_net x T y hy b o c p w h (by omega) hto (by omega) hlt hrow2
                · refine rwith_o2c x b o _ c k l w rfl hn9 hlt hc0 T y hy h (by omega) hf (decide_eq_false e2) (decide_eq_true e3) (by rw [e3]; decide) (by simp [h2]) hto ?_
                  rw [with_eq _ _ _ _ hf, e3, readW_net]
                  exact no_net _ l (.inr (.inr ⟨_, _, htens, hto⟩))
              · refine rwith_o2b x b o _ c k l w rfl hn9 hlt hc0 T y hy h (by omega) hf (decide_eq_false e2) (decide_eq_true e3) (by rw [e3]; decide) (by simpa using h2) ?_
                rw [with_eq _ _ _ _ hf, e3, readW_net]
                exact no_net _ l (.inl h2)
            · by_cases e4 : k = wToken
              · by_cases h6 : l.length = 3
                · obtain ⟨nm, sx, ux, rfl⟩ := three_of l h6
                  subst e4
                  exact rwith_token x T y hy b o c nm sx ux w h (by omega) (by omega) hlt hrow2
                · refine rwith_o2d x b o _ c k l w rfl hn9 hlt hc0 T y hy h (by omega) hf (decide_eq_false e2) (decide_eq_false e3) (decide_eq_true e4) (by simpa using h6) ?_
                  rw [with_eq _ _ _ _ hf, e4, readW_tok]
                  exact no_token _ l (.inl h6)
              · refine rwith_o2e x b o _ c k l w rfl hn9 hlt hc0 T y hy h (by omega) hf (decide_eq_false e2) (decide_eq_false e3) (decide_eq_false e4) ?_
                rw [with_eq _ _ _ _ hf]
                exact readW_other _ k l hk e2 e3 e4
  · exact rwith_ne x first b o _ c k l w rfl hn9 hlt hc0 (by cases first <;> cases hq : decide (k = wTimes) <;> simp_all)
end Go.Proofs.YtekobdmlgbffnaaGreatDoor

/- Names with more behind them: plain mathematics. -/
namespace Go.Proofs.YtekobdmlgbffnaaGreatDoor
set_option linter.unusedVariables false
set_option maxRecDepth 100000
set_option linter.unusedSimpArgs false

def letB (c : UInt8) : Bool := (decide (97 ≤ c.toNat) && decide (c.toNat ≤ 122)) || (decide (48 ≤ c.toNat) && decide (c.toNat ≤ 57))
def nameL (l : List UInt8) : Bool := decide (1 ≤ l.length) && decide (l.length ≤ 20) && decide ((l.getD 0 0).toNat ≠ 45) && decide ((l.getD (l.length - 1) 0).toNat ≠ 45) && l.all nmdB
structure NameP (l : List UInt8) : Prop where
  one : 1 ≤ l.length
  most : l.length ≤ 20
  first : (l.getD 0 0).toNat ≠ 45
  last : (l.getD (l.length - 1) 0).toNat ≠ 45
  all : l.all nmdB = true
theorem name_p {l : List UInt8} (h : nameL l = true) : NameP l := by
  unfold nameL at h
  simp only [Bool.and_eq_true, decide_eq_true_eq] at h
  exact ⟨h.1.1.1.1, h.1.1.1.2, h.1.1.2, h.1.2, h.2⟩
end Go.Proofs.YtekobdmlgbffnaaGreatDoor

/- The document's own: Name, Dots: their contracts. -/
namespace Go.Proofs.YtekobdmlgbffnaaGreatDoor
set_option linter.unusedVariables false
set_option maxRecDepth 100000
set_option linter.unusedSimpArgs false
open Go.RowKit

def okI (l : List UInt8) (i : Nat) : Bool := letB (l.getD i 0) || (decide ((l.getD i 0).toNat = 45) && decide (0 < i) && decide (i + 1 < l.length))
theorem nmd_let (c : UInt8) : nmdB c = (letB c || decide (c.toNat = 45)) := rfl
theorem ok_nmd (l : List UInt8) (i : Nat) (h : okI l i = true) : nmdB (l.getD i 0) = true := by
  unfold okI at h
  rw [nmd_let]
  simp only [Bool.or_eq_true, Bool.and_eq_true, decide_eq_true_eq] at h ⊢
  rcases h with h | h
  · exact .inl h
  · exact .inr h.1.1
theorem let_not (c : UInt8) (h : letB c = true) : c.toNat ≠ 45 := by
  intro e
  unfold letB at h
  rw [e] at h
  simp at h
theorem all_getD (p : UInt8 → Bool) (l : List UInt8) : l.all p = true ↔ ∀ i, i < l.length → p (l.getD i 0) = true := by
  rw [List.all_eq_true]
  constructor
  · intro h i hi
    rw [List.getD, List.getElem?_eq_getElem hi]
    exact h _ (List.getElem_mem hi)
  · intro h x hx
    obtain ⟨i, hi, rfl⟩ := List.mem_iff_getElem.1 hx
    have := h i hi
    rwa [List.getD, List.getElem?_eq_getElem hi] at this
theorem name_all (l : List UInt8) (h : ∀ i, i < l.length → okI l i = true) : nameL l = (decide (1 ≤ l.length) && decide (l.length ≤ 20)) := by
  unfold nameL
  have ha : l.all nmdB = true := (all_getD nmdB l).2 (fun i hi => ok_nmd l i (h i hi))
  rw [ha]
  by_cases h1 : 1 ≤ l.length
  · have g0 := h 0 (by omega)
    have g1 := h (l.length - 1) (by omega)
    have e0 : (l.getD 0 0).toNat ≠ 45 := by
      unfold okI at g0
      simp only [Bool.or_eq_true, Bool.and_eq_true, decide_eq_true_eq] at g0
      rcases g0 with g | g
      · exact let_not _ g
      · omega
    have e1 : (l.getD (l.length - 1) 0).toNat ≠ 45 := by
      unfold okI at g1
      simp only [Bool.or_eq_true, Bool.and_eq_true, decide_eq_true_eq] at g1
      rcases g1 with g | g
      · exact let_not _ g
      · omega
    rw [decide_eq_true e0, decide_eq_true e1]; simp
  · simp [h1]
theorem name_not (l : List UInt8) (i : Nat) (hi : i < l.length) (h : okI l i = false) : nameL l = false := by
  cases hn : nameL l with
  | false => rfl
  | true =>
    have p := name_p hn
    have ha := (all_getD nmdB l).1 p.all i hi
    rw [nmd_let] at ha
    unfold okI at h
    simp only [Bool.or_eq_true, Bool.or_eq_false_iff, Bool.and_eq_false_iff, decide_eq_true_eq, decide_eq_false_iff_not] at ha h
    rcases ha with g | g
    · rw [h.1] at g; cases g
    · rcases h.2 with (h2 | h2) | h2
      · exact (h2 g).elim
      · have : i = 0 := by omega
        subst this
        exact (p.first g).elim
      · have : i = l.length - 1 := by omega
        subst this
        exact (p.last g).elim

set_option maxRecDepth 100000 in
set_option maxHeartbeats 2000000 in
theorem rname_ok (s : ByteArray) (w : World) (hs : s.size ≤ 140737488355328) :
    Calls Tryz.prog 87 #[.string s] w fun e w' => e = .returned (.bool (nameB s)) ∧ w = w' := by
  obtain ⟨R, hR⟩ : ∃ R, nameL s.data.toList = R := ⟨_, rfl⟩
  rw [show nameB s = R from hR]
  have HR := Lib.hid hR
  clear hR
  go_enter Tryz.func87, Tryz.ntmps87
  go_wp2_with fail
  go_loop [3] (fun v3 => ∃ i : Nat, i ≤ s.size ∧ v3 = .int .i64 i ∧ Hid (∀ j, j < i → okI s.data.toList j = true)) (fun v3 => s.size - (intOf v3).toNat)
  case atStart => exact ⟨0, by omega, rfl, Lib.hid (fun j hj => by omega)⟩
  case round =>
    obtain ⟨i, hi, rfl, HE⟩ := hrel
    by_cases hlt : i < s.size
    · obtain ⟨v, hv⟩ : ∃ v, (s.data.toList.getD i 0).toNat = v := ⟨_, rfl⟩
      have hv2 : v < 256 := by rw [← hv]; exact UInt8.toNat_lt _
      have hxi := sidx s i v hlt hv w
      have HOK := Lib.hid (show okI s.data.toList i = (((decide (97 ≤ v) && decide (v ≤ 122)) || (decide (48 ≤ v) && decide (v ≤ 57))) || (decide (v = 45) && decide (0 < i) && decide (i + 1 < s.size))) by
        unfold okI letB; rw [hv]; rfl)
      have HNO := Lib.hid (fun h : okI s.data.toList i = false => show R = false by rw [← HR.out]; exact name_not _ i hlt h)
      have HYES := Lib.hid (fun h : okI s.data.toList i = true => show ∀ j, j < i + 1 → okI s.data.toList j = true from fun j hj => by
        by_cases hji : j = i
        · rw [hji]; exact h
        · exact HE.out j (by omega))
      clear hv HE HR
      by_cases h45 : v = 45
      · subst h45
        have hxi : (Instr.index 9 (.string s) (.int .i64 (i : Int))).run Tryz.prog w = .ok (.int .u8 45) w := hxi
        by_cases hi0 : 0 < i
        · by_cases hil : i + 1 < s.size
          · have hil2 : (i : Int) < (s.size : Int) - 1 := by omega
            have hil3 : decide ((i : Int) < (s.size : Int) - 1) = true := by simp <;> omega
            go_wp2
            go_round
            case rel => exact ⟨i + 1, by omega, by go_num, Lib.hid (HYES.out (by rw [HOK.out]; simp [hi0, hil]))⟩
            case measure => simp [intOf]; omega
          · have hil2 : (s.size : Int) - 1 ≤ (i : Int) := by omega
            have hil3 : decide ((i : Int) < (s.size : Int) - 1) = false := by simp <;> omega
            go_wp2
            go_ret
            exact ⟨by rw [HNO.out (by rw [HOK.out]; simp [hil])]; rfl, rfl⟩
        · obtain rfl : i = 0 := by omega
          have hxi : (Instr.index 9 (.string s) (.int .i64 0)).run Tryz.prog w = .ok (.int .u8 45) w := hxi
          go_wp2
          go_ret
          exact ⟨by rw [HNO.out (by rw [HOK.out]; simp)]; rfl, rfl⟩
      · have e45 : ((v : Int) == 45) = false := by rw [beq_eq_false_iff_ne]; omega
        by_cases hy : (97 ≤ v ∧ v ≤ 122) ∨ (48 ≤ v ∧ v ≤ 57)
        · have HY := Lib.hid (HYES.out (by rw [HOK.out]; simp; omega))
          clear HOK HNO HYES h45
          rcases hy with ⟨a1, a2⟩ | ⟨a1, a2⟩
          · have b1 : (97 : Int) ≤ (v : Int) := by omega
            have b2 : (v : Int) ≤ 122 := by omega
            go_wp2
            go_round
            case rel => exact ⟨i + 1, by omega, by go_num, HY⟩
            case measure => simp [intOf]; omega
          · have b1 : (48 : Int) ≤ (v : Int) := by omega
            have b2 : (v : Int) ≤ 57 := by omega
            have b3 : (v : Int) < 97 := by omega
            go_wp2
            go_round
            case rel => exact ⟨i + 1, by omega, by go_num, HY⟩
            case measure => simp [intOf]; omega
        · have HN := Lib.hid (HNO.out (by rw [HOK.out]; simp [h45]; omega))
          clear HOK HNO HYES h45
          rcases Nat.lt_or_ge v 48 with a1 | a1
          · have b1 : (v : Int) < 48 := by omega
            have b2 : (v : Int) < 97 := by omega
            go_wp2
            go_ret
            exact ⟨by rw [HN.out]; rfl, rfl⟩
          · rcases Nat.lt_or_ge v 97 with a2 | a2
            · have b1 : (57 : Int) < (v : Int) := by omega
              have b2 : (v : Int) < 97 := by omega
              have b3 : (48 : Int) ≤ (v : Int) := by omega
              go_wp2
              go_ret
              exact ⟨by rw [HN.out]; rfl, rfl⟩
            · have b1 : (122 : Int) < (v : Int) := by omega
              have b2 : (97 : Int) ≤ (v : Int) := by omega
              have b3 : (57 : Int) < (v : Int) := by omega
              have b4 : (48 : Int) ≤ (v : Int) := by omega
              go_wp2
              go_ret
              exact ⟨by rw [HN.out]; rfl, rfl⟩
    · have HF := Lib.hid (show R = (decide (1 ≤ s.size) && decide (s.size ≤ 20)) by
        rw [← HR.out]
        exact name_all _ (fun j hj => HE.out j (by have : s.data.toList.length = s.size := rfl; omega)))
      clear HE HR
      by_cases h1 : 1 ≤ s.size
      · by_cases h2 : s.size ≤ 20
        · rw [decide_eq_true h1, decide_eq_true h2] at HF
          have b1 : decide ((1 : Int) ≤ (s.size : Int)) = true := by simp <;> omega
          have b2 : decide ((s.size : Int) ≤ 20) = true := by simp <;> omega
          go_wp2
          go_ret
          exact ⟨by rw [HF.out]; rfl, rfl⟩
        · rw [decide_eq_true h1, decide_eq_false h2] at HF
          have b1 : decide ((1 : Int) ≤ (s.size : Int)) = true := by simp <;> omega
          have b2 : decide ((s.size : Int) ≤ 20) = false := by simp <;> omega
          go_wp2
          go_ret
          exact ⟨by rw [HF.out]; rfl, rfl⟩
      · rw [decide_eq_false h1] at HF
        have b1 : decide ((1 : Int) ≤ (s.size : Int)) = false := by simp <;> omega
        go_wp2
        go_ret
        exact ⟨by rw [HF.out]; rfl, rfl⟩
end Go.Proofs.YtekobdmlgbffnaaGreatDoor
