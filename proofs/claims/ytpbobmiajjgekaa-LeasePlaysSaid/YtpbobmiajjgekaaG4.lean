/- CfgN, CfgX: texts of this seat, one behind the other. -/
import Derived.Test.YtpbobmiajjgekaaG3
/- Configurations, there and back: plain mathematics. -/
namespace Go.Proofs.Ytpbobmiajjgekaa
set_option linter.unusedVariables false
set_option maxRecDepth 100000
set_option linter.unusedSimpArgs false

/-! ### Words without blanks and ends -/

def fineW (w : List UInt8) : Prop := ∀ c ∈ w, 45 ≤ c.toNat
theorem fine_no {w : List UInt8} (h : fineW w) (c : UInt8) (hc : c.toNat < 45) : c ∉ w := fun k => by have := h c k; omega
theorem dec_fine (n : Nat) : fineW (decB n) := fun c h => by have := (dec_digit n c h).1; omega
theorem dots_fine (a : Nat) : fineW (dotsB a) := by
  intro c h
  unfold dotsB at h
  simp only [joinL, List.mem_append, List.mem_cons] at h
  rcases h with h | h | h | h | h | h | h
  · exact dec_fine _ c h
  · rw [h]; decide
  · exact dec_fine _ c h
  · rw [h]; decide
  · exact dec_fine _ c h
  · rw [h]; decide
  · exact dec_fine _ c h
theorem slash_fine (a : Nat) (b : Int) : fineW (slashL a b) := by
  unfold slashL
  split
  · intro c h
    rcases List.mem_append.1 h with h | h
    · exact dots_fine a c h
    · rcases List.mem_cons.1 h with h | h
      · rw [h]; decide
      · exact dec_fine _ c h
  · intro c h; cases h
theorem dig_fine (n : Nat) : 45 ≤ (dig n).toNat ∨ 16 ≤ n := by
  rcases Nat.lt_or_ge n 16 with h | h
  · left
    have : ∀ k : Fin 16, 45 ≤ (dig k.1).toNat := by decide
    exact this ⟨n, h⟩
  · exact .inr h
theorem hex_fine : ∀ l : List UInt8, fineW (hexB l)
  | [] => fun c h => by cases h
  | x :: r => by
    intro c h
    unfold hexB at h
    have hx := x.toNat_lt
    simp only [List.mem_cons] at h
    rcases h with h | h | h
    · rw [h]; rcases dig_fine (x.toNat / 16) with k | k <;> omega
    · rw [h]; rcases dig_fine (x.toNat % 16) with k | k <;> omega
    · exact hex_fine r c h
theorem name_fine (s : ByteArray) (h : nameB s = true) : fineW s.data.toList := by
  intro c hc
  unfold nameB at h
  simp only [Bool.and_eq_true, decide_eq_true_eq, List.all_eq_true] at h
  have := h.2 c hc
  unfold nmdB at this
  simp only [Bool.or_eq_true, Bool.and_eq_true, decide_eq_true_eq] at this
  omega

def fineL (ws : List (List UInt8)) : Prop := ws ≠ [] ∧ ∀ w ∈ ws, fineW w
theorem pieces_line {ws : List (List UInt8)} (h : fineL ws) : piecesL 32 (joinL 32 ws) = ws :=
  pieces_of 32 ws h.1 (fun p hp => fine_no (h.2 p hp) 32 (by decide))
theorem join_mem (c : UInt8) : ∀ ws : List (List UInt8), ∀ x ∈ joinL c ws, x = c ∨ ∃ w ∈ ws, x ∈ w
  | [], x, h => by cases h
  | [p], x, h => .inr ⟨p, by simp, h⟩
  | p :: q :: ps, x, h => by
    rw [joinL] at h
    rcases List.mem_append.1 h with h | h
    · exact .inr ⟨p, by simp, h⟩
    · rcases List.mem_cons.1 h with h | h
      · exact .inl h
      · rcases join_mem c (q :: ps) x h with h | ⟨w, h1, h2⟩
        · exact .inl h
        · exact .inr ⟨w, List.mem_cons_of_mem _ h1, h2⟩
theorem line_no {ws : List (List UInt8)} (h : fineL ws) : (10 : UInt8) ∉ joinL 32 ws := by
  intro k
  rcases join_mem 32 ws 10 k with k | ⟨w, h1, h2⟩
  · exact absurd k (by decide)
  · exact fine_no (h.2 w h1) 10 (by decide) h2
theorem lines_textT : ∀ (ls : List (List (List UInt8))) (r : List UInt8), (∀ ws ∈ ls, fineL ws) → linesL (textT ls ++ r) = ls.map (fun ws => (joinL 32 ws, true)) ++ linesL r
  | [], r, _ => rfl
  | ws :: ls, r, h => by
    have ih := lines_textT ls r (fun x hx => h x (List.mem_cons_of_mem _ hx))
    have e : textT (ws :: ls) ++ r = joinL 32 ws ++ 10 :: (textT ls ++ r) := by simp [textT, lineT]
    rw [e, lines_hit _ _ (line_no (h ws (by simp))), ih]; rfl

theorem rise_names : ∀ (l : List ByteArray) (last : ByteArray), rise last l = true → ∀ x ∈ l, nameB x = true
  | [], _, _, x, h => by cases h
  | y :: r, last, h, x, hx => by
    simp only [rise, Bool.and_eq_true] at h
    rcases List.mem_cons.1 hx with rfl | hx
    · exact h.1.1
    · exact rise_names r y h.2 x hx
theorem wTimes_fine : fineW wTimes := by intro c h; revert c; decide
theorem wTenant_fine : fineW wTenant := by intro c h; revert c; decide
theorem wNet_fine : fineW wNet := by intro c h; revert c; decide
theorem wToken_fine : fineW wToken := by intro c h; revert c; decide

theorem cfgB_parts {c : Cg} (h : cfgB c = true) : timB c.wait = true ∧ timB c.grace = true ∧ timB c.idle = true ∧ timB c.lease = true ∧ c.tens.length ≤ 8 ∧ rise ByteArray.empty (c.tens.map (·.name)) = true ∧ (∀ t ∈ c.tens, tenB t = true) := by
  unfold cfgB at h
  simp only [Bool.and_eq_true, decide_eq_true_eq, List.all_eq_true] at h
  obtain ⟨⟨⟨⟨⟨⟨a, b⟩, d⟩, e⟩, f⟩, g⟩, i⟩ := h
  exact ⟨a, b, d, e, f, g, i⟩
theorem cfgB_mk {c : Cg} (h : timB c.wait = true ∧ timB c.grace = true ∧ timB c.idle = true ∧ timB c.lease = true ∧ c.tens.length ≤ 8 ∧ rise ByteArray.empty (c.tens.map (·.name)) = true ∧ (∀ t ∈ c.tens, tenB t = true)) : cfgB c = true := by
  obtain ⟨a, b, d, e, f, g, i⟩ := h
  unfold cfgB
  simp only [Bool.and_eq_true, decide_eq_true_eq, List.all_eq_true]
  exact ⟨⟨⟨⟨⟨⟨a, b⟩, d⟩, e⟩, f⟩, g⟩, i⟩
theorem tenB_parts {t : Tn} (h : tenB t = true) : quoB t.names = true ∧ quoB t.visitors = true ∧ t.nets.length ≤ 4 ∧ (∀ n ∈ t.nets, netB n = true) ∧ t.toks.length ≤ 4 ∧ rise ByteArray.empty (t.toks.map (·.name)) = true ∧ (∀ k ∈ t.toks, tokB k = true) := by
  unfold tenB at h
  simp only [Bool.and_eq_true, decide_eq_true_eq, List.all_eq_true] at h
  obtain ⟨⟨⟨⟨⟨⟨a, b⟩, d⟩, e⟩, f⟩, g⟩, i⟩ := h
  exact ⟨a, b, d, e, f, g, i⟩
theorem tenB_mk {t : Tn} (h : quoB t.names = true ∧ quoB t.visitors = true ∧ t.nets.length ≤ 4 ∧ (∀ n ∈ t.nets, netB n = true) ∧ t.toks.length ≤ 4 ∧ rise ByteArray.empty (t.toks.map (·.name)) = true ∧ (∀ k ∈ t.toks, tokB k = true)) : tenB t = true := by
  obtain ⟨a, b, d, e, f, g, i⟩ := h
  unfold tenB
  simp only [Bool.and_eq_true, decide_eq_true_eq, List.all_eq_true]
  exact ⟨⟨⟨⟨⟨⟨a, b⟩, d⟩, e⟩, f⟩, g⟩, i⟩

theorem cfg_fine {c : Cg} (h : cfgB c = true) : ∀ ws ∈ cfgLs c, fineL ws := by
  obtain ⟨_, _, _, _, _, hr, ht⟩ := cfgB_parts h
  intro ws hw
  unfold cfgLs at hw
  rcases List.mem_cons.1 hw with rfl | hw
  · refine ⟨by simp [timesW], fun w hw => ?_⟩
    simp only [timesW, List.mem_cons, List.not_mem_nil, or_false] at hw
    rcases hw with rfl | rfl | rfl | rfl | rfl
    · exact wTimes_fine
    all_goals exact dec_fine _
  · obtain ⟨t, htm, hw⟩ := List.mem_flatMap.1 hw
    obtain ⟨_, _, _, _, _, kr, _⟩ := tenB_parts (ht t htm)
    unfold tenLs at hw
    rcases List.mem_cons.1 hw with rfl | hw
    · refine ⟨by simp [tenW], fun w hw => ?_⟩
      simp only [tenW, List.mem_cons, List.not_mem_nil, or_false] at hw
      rcases hw with rfl | rfl | rfl | rfl
      · exact wTenant_fine
      · exact name_fine _ (rise_names _ _ hr _ (List.mem_map.2 ⟨t, htm, rfl⟩))
      all_goals exact dec_fine _
    · rcases List.mem_append.1 hw with hw | hw
      · obtain ⟨n, _, rfl⟩ := List.mem_map.1 hw
        refine ⟨by simp [netW], fun w hw => ?_⟩
        simp only [netW, List.mem_cons, List.not_mem_nil, or_false] at hw
        rcases hw with rfl | rfl
        · exact wNet_fine
        · exact slash_fine _ _
      · obtain ⟨k, hk, rfl⟩ := List.mem_map.1 hw
        refine ⟨by simp [tokW], fun w hw => ?_⟩
        simp only [tokW, List.mem_cons, List.not_mem_nil, or_false] at hw
        rcases hw with rfl | rfl | rfl | rfl
        · exact wToken_fine
        · exact name_fine _ (rise_names _ _ kr _ (List.mem_map.2 ⟨k, hk, rfl⟩))
        · exact hex_fine _
        · exact dec_fine _

/-! ### What is printed is read -/

def runW : Cg → Nat → List (List (List UInt8)) → Option Cg
  | c, _, [] => some c
  | c, at', ws :: r => match lineC c (at' == 0) ws with
    | some c' => runW c' (at' + 1) r
    | none => none
theorem runW_app : ∀ (a b : List (List (List UInt8))) (c c' : Cg) (at' : Nat), runW c at' a = some c' → runW c at' (a ++ b) = runW c' (at' + a.length) b
  | [], b, c, c', at', h => by injection h with h; rw [h]; rfl
  | ws :: a, b, c, c', at', h => by
    rw [List.cons_append, runW]
    rw [runW] at h
    cases hl : lineC c (at' == 0) ws with
    | none => rw [hl] at h; cases h
    | some d =>
      rw [hl] at h
      simp only at h ⊢
      rw [runW_app a b d c' (at' + 1) h, List.length_cons]
      congr 1; omega
theorem runL_map : ∀ (ls : List (List (List UInt8))) (r : List (List UInt8 × Bool)) (c c' : Cg) (at' : Nat), (∀ ws ∈ ls, fineL ws) → runW c at' ls = some c' → runL c at' (ls.map (fun ws => (joinL 32 ws, true)) ++ r) = runL c' (at' + ls.length) r
  | [], r, c, c', at', _, h => by injection h with h; rw [h]; rfl
  | ws :: ls, r, c, c', at', hf, h => by
    rw [runW] at h
    rw [List.map_cons, List.cons_append, runL, if_pos rfl, pieces_line (hf ws (by simp))]
    cases hl : lineC c (at' == 0) ws with
    | none => rw [hl] at h; cases h
    | some d =>
      rw [hl] at h
      simp only at h ⊢
      rw [runL_map ls r d c' (at' + 1) (fun x hx => hf x (List.mem_cons_of_mem _ hx)) h, List.length_cons]
      congr 1; omega

theorem toNat_back {n : Int} (h0 : 0 ≤ n) (h1 : n ≤ 1099511627776) : decO (decB n.toNat) = some n.toNat ∧ ((n.toNat : Nat) : Int) = n := ⟨decO_back _ (by omega), by omega⟩

def cT (c : Cg) (T : List Tn) : Cg := { c with tens := T }
theorem tenB_pre {t : Tn} (h : tenB t = true) {n1 n2 : List Nt} {k1 k2 : List Tk} (hn : t.nets = n1 ++ n2) (hk : t.toks = k1 ++ k2) : tenB { t with nets := n1, toks := k1 } = true := by
  obtain ⟨a, b, d, e, f, g, i⟩ := tenB_parts h
  rw [hn] at d e
  rw [hk] at f g i
  rw [List.length_append] at d f
  rw [List.map_append] at g
  exact tenB_mk ⟨a, b, by show n1.length ≤ 4; omega, fun n hm => e n (List.mem_append.2 (.inl hm)), by show k1.length ≤ 4; omega, rise_app _ _ _ g, fun k hm => i k (List.mem_append.2 (.inl hm))⟩
theorem cfgB_pre {c : Cg} {T S : List Tn} {t t' : Tn} (h : cfgB (cT c (T ++ t :: S)) = true) (hn : t'.name = t.name) (ht : tenB t' = true) : cfgB (cT c (T ++ [t'])) = true := by
  obtain ⟨a, b, d, e, f, g, i⟩ := cfgB_parts h
  refine cfgB_mk ⟨a, b, d, e, ?_, ?_, ?_⟩
  · have f' : (T ++ t :: S).length ≤ 8 := f
    show (T ++ [t']).length ≤ 8
    rw [List.length_append, List.length_cons] at f'
    rw [List.length_append, List.length_singleton]; omega
  · have g' : rise ByteArray.empty ((T ++ t :: S).map (·.name)) = true := g
    show rise ByteArray.empty ((T ++ [t']).map (·.name)) = true
    have e1 : (T ++ t :: S).map (·.name) = (T ++ [t']).map (·.name) ++ S.map (·.name) := by simp [hn]
    rw [e1] at g'
    exact rise_app _ _ _ g'
  · intro x hx
    rcases List.mem_append.1 (show x ∈ T ++ [t'] from hx) with hx | hx
    · exact i x (List.mem_append.2 (.inl hx))
    · rw [List.mem_singleton.1 hx]; exact ht
theorem cfgB_pre0 {c : Cg} {T S : List Tn} (h : cfgB (cT c (T ++ S)) = true) : cfgB (cT c T) = true := by
  obtain ⟨a, b, d, e, f, g, i⟩ := cfgB_parts h
  have f' : (T ++ S).length ≤ 8 := f
  have g' : rise ByteArray.empty ((T ++ S).map (·.name)) = true := g
  rw [List.length_append] at f'
  rw [List.map_append] at g'
  exact cfgB_mk ⟨a, b, d, e, by show T.length ≤ 8; omega, rise_app _ _ _ g', fun x hx => i x (List.mem_append.2 (.inl hx))⟩

theorem kw1 : wTenant ≠ wTimes := by decide
theorem kw2 : wNet ≠ wTimes := by decide
theorem kw3 : wToken ≠ wTimes := by decide
theorem kw4 : wNet ≠ wTenant := by decide
theorem kw5 : wToken ≠ wTenant := by decide
theorem kw6 : wToken ≠ wNet := by decide
theorem lineC_of {c c' : Cg} {first : Bool} {ws : List (List UInt8)} (h1 : decide (ws.head? = some wTimes) = first) (h2 : readW c ws = some c') (h3 : cfgB c' = true) : lineC c first ws = some c' := by
  unfold lineC okC
  rw [if_pos h1, h2]
  simp only
  rw [if_pos h3]
theorem quo_le {n : Int} (h : quoB n = true) : 0 ≤ n ∧ n ≤ 8 := by simpa [quoB] using h
theorem tim_le {n : Int} (h : timB n = true) : 1 ≤ n ∧ n ≤ 1073741824 := by simpa [timB] using h

theorem run_nets (c : Cg) (T : List Tn) (t : Tn) (S : List Tn) (ht : cfgB (cT c (T ++ t :: S)) = true) (hlt : ∀ n ∈ t.nets, n.addr < 4294967296) : ∀ (n2 n1 : List Nt) (at' : Nat), t.nets = n1 ++ n2 → runW (cT c (T ++ [{ t with nets := n1, toks := [] }])) (at' + 1) (n2.map netW) = some (cT c (T ++ [{ t with nets := t.nets, toks := [] }]))
  | [], n1, at', h => by rw [List.append_nil] at h; rw [h]; rfl
  | x :: n2, n1, at', h => by
    have hT := tenB_parts ((cfgB_parts ht).2.2.2.2.2.2 t (by show t ∈ T ++ t :: S; simp))
    have hx := hT.2.2.2.1 x (by rw [h]; simp)
    have hb : tenB { t with nets := n1 ++ [x], toks := [] } = true := tenB_pre (t := t) ((cfgB_parts ht).2.2.2.2.2.2 t (by show t ∈ T ++ t :: S; simp)) (n2 := n2) (k2 := t.toks) (by rw [h]; simp) (by simp)
    have e1 : readW (cT c (T ++ [{ t with nets := n1, toks := [] }])) (netW x) = some (cT c (T ++ [{ t with nets := n1 ++ [x], toks := [] }])) := by
      unfold netW readW
      simp only [if_neg kw2, if_neg kw4, if_pos]
      unfold readNet lastC
      simp only [cT, List.getLast?_append, List.getLast?_singleton, Option.some_or, if_pos]
      have hb2 : rightB x.addr x.bits = true := hx
      rw [net_back x.addr x.bits (hlt x (by rw [h]; simp)) hb2]
      have hbits : ((x.bits.toNat : Nat) : Int) = x.bits := by
        unfold rightB at hb2
        simp only [Bool.and_eq_true, decide_eq_true_eq] at hb2
        omega
      simp only [setC, hbits]
      rw [List.dropLast_concat]
    rw [List.map_cons, runW]
    have e2 : lineC (cT c (T ++ [{ t with nets := n1, toks := [] }])) (at' + 1 == 0) (netW x) = some (cT c (T ++ [{ t with nets := n1 ++ [x], toks := [] }])) :=
      lineC_of (by rw [show (at' + 1 == 0) = false by simp]; simp [netW, kw2]) e1 (cfgB_pre ht rfl hb)
    rw [e2]
    simp only
    exact run_nets c T t S ht hlt n2 (n1 ++ [x]) (at' + 1) (by rw [h]; simp)

theorem run_toks (c : Cg) (T : List Tn) (t : Tn) (S : List Tn) (ht : cfgB (cT c (T ++ t :: S)) = true) : ∀ (k2 k1 : List Tk) (at' : Nat), t.toks = k1 ++ k2 → runW (cT c (T ++ [{ t with toks := k1 }])) (at' + 1) (k2.map tokW) = some (cT c (T ++ [t]))
  | [], k1, at', h => by rw [List.append_nil] at h; rw [← h]; rfl
  | x :: k2, k1, at', h => by
    have hTb := (cfgB_parts ht).2.2.2.2.2.2 t (by show t ∈ T ++ t :: S; simp)
    have hT := tenB_parts hTb
    have hx := hT.2.2.2.2.2.2 x (by rw [h]; simp)
    have hb : tenB { t with nets := t.nets, toks := k1 ++ [x] } = true := tenB_pre (t := t) hTb (n2 := []) (k2 := k2) (by simp) (by rw [h]; simp)
    have e1 : readW (cT c (T ++ [{ t with toks := k1 }])) (tokW x) = some (cT c (T ++ [{ t with toks := k1 ++ [x] }])) := by
      unfold tokW readW
      simp only [if_neg kw3, if_neg kw5, if_neg kw6, if_pos]
      unfold readToken lastC
      simp only [cT, List.getLast?_append, List.getLast?_singleton, Option.some_or, if_pos]
      unfold tokB at hx
      simp only [Bool.and_eq_true, decide_eq_true_eq] at hx
      obtain ⟨b1, b2⟩ := toNat_back hx.1.2 hx.2
      rw [unhexB_hexB, b1]
      simp only [setC, b2, bs_of]
      rw [List.dropLast_concat]
    rw [List.map_cons, runW]
    have e2 : lineC (cT c (T ++ [{ t with toks := k1 }])) (at' + 1 == 0) (tokW x) = some (cT c (T ++ [{ t with toks := k1 ++ [x] }])) :=
      lineC_of (by rw [show (at' + 1 == 0) = false by simp]; simp [tokW, kw3]) e1 (cfgB_pre ht rfl hb)
    rw [e2]
    simp only
    exact run_toks c T t S ht k2 (k1 ++ [x]) (at' + 1) (by rw [h]; simp)

def netsLt (c : Cg) : Prop := ∀ t ∈ c.tens, ∀ n ∈ t.nets, n.addr < 4294967296

theorem run_ten (c : Cg) (T : List Tn) (t : Tn) (S : List Tn) (ht : cfgB (cT c (T ++ t :: S)) = true) (hlt : ∀ n ∈ t.nets, n.addr < 4294967296) (at' : Nat) : runW (cT c T) (at' + 1) (tenLs t) = some (cT c (T ++ [t])) := by
  have hTb := (cfgB_parts ht).2.2.2.2.2.2 t (by show t ∈ T ++ t :: S; simp)
  have hT := tenB_parts hTb
  have hb : tenB { t with nets := [], toks := [] } = true := tenB_pre (t := t) hTb (n2 := t.nets) (k2 := t.toks) (by simp) (by simp)
  have e1 : readW (cT c T) (tenW t) = some (cT c (T ++ [{ t with nets := [], toks := [] }])) := by
    unfold tenW readW
    simp only [if_neg kw1, if_pos]
    unfold readTenant
    obtain ⟨a1, a2⟩ := toNat_back (n := t.names) (quo_le hT.1).1 (by have := (quo_le hT.1).2; omega)
    obtain ⟨b1, b2⟩ := toNat_back (n := t.visitors) (quo_le hT.2.1).1 (by have := (quo_le hT.2.1).2; omega)
    simp only [a1, b1, a2, b2, bs_of]
    rfl
  have e2 : lineC (cT c T) (at' + 1 == 0) (tenW t) = some (cT c (T ++ [{ t with nets := [], toks := [] }])) :=
    lineC_of (by rw [show (at' + 1 == 0) = false by simp]; simp [tenW, kw1]) e1 (cfgB_pre ht rfl hb)
  unfold tenLs
  rw [runW, e2]
  simp only
  rw [runW_app _ _ _ _ _ (run_nets c T t S ht hlt t.nets [] (at' + 1) rfl)]
  have := run_toks c T t S ht t.toks [] (at' + 1 + (t.nets.map netW).length) rfl
  rw [show at' + 1 + 1 + (t.nets.map netW).length = at' + 1 + (t.nets.map netW).length + 1 by omega]
  exact this

theorem run_tens (c : Cg) : ∀ (S T : List Tn) (at' : Nat), cfgB (cT c (T ++ S)) = true → (∀ t ∈ S, ∀ n ∈ t.nets, n.addr < 4294967296) → runW (cT c T) (at' + 1) (S.flatMap tenLs) = some (cT c (T ++ S))
  | [], T, at', _, _ => by rw [List.append_nil]; rfl
  | t :: S, T, at', h, hl => by
    rw [List.flatMap_cons, runW_app _ _ _ _ _ (run_ten c T t S h (hl t (by simp)) at')]
    have e : T ++ t :: S = (T ++ [t]) ++ S := by simp
    rw [e] at h ⊢
    have := run_tens c S (T ++ [t]) (at' + (tenLs t).length) h (fun x hx => hl x (List.mem_cons_of_mem _ hx))
    rw [show at' + 1 + (tenLs t).length = at' + (tenLs t).length + 1 by omega]
    exact this

theorem run_cfg {c : Cg} (h : cfgB c = true) (hl : netsLt c) : runW zeroC 0 (cfgLs c) = some c := by
  obtain ⟨a, b, d, e, _, _, _⟩ := cfgB_parts h
  have e1 : readW zeroC (timesW c) = some (cT c []) := by
    unfold timesW readW
    simp only [if_pos]
    unfold readTimes
    obtain ⟨a1, a2⟩ := toNat_back (n := c.wait) (by have := (tim_le a).1; omega) (by have := (tim_le a).2; omega)
    obtain ⟨b1, b2⟩ := toNat_back (n := c.grace) (by have := (tim_le b).1; omega) (by have := (tim_le b).2; omega)
    obtain ⟨d1, d2⟩ := toNat_back (n := c.idle) (by have := (tim_le d).1; omega) (by have := (tim_le d).2; omega)
    obtain ⟨f1, f2⟩ := toNat_back (n := c.lease) (by have := (tim_le e).1; omega) (by have := (tim_le e).2; omega)
    simp only [a1, b1, d1, f1, a2, b2, d2, f2]
    rfl
  have e2 : lineC zeroC (0 == 0) (timesW c) = some (cT c []) := lineC_of (by simp [timesW]) e1 (cfgB_pre0 (T := []) (S := c.tens) h)
  unfold cfgLs
  rw [runW, e2]
  simp only
  have := run_tens c c.tens [] 0 h hl
  rw [List.nil_append] at this
  exact this

/-- What is printed, with more behind it, is read. -/
theorem parse_more {c : Cg} (h : cfgB c = true) (hl : netsLt c) (r : List UInt8) : runL zeroC 0 (linesL (printT c ++ r)) = runL c (cfgLs c).length (linesL r) := by
  unfold printT
  rw [if_pos h, lines_textT _ _ (cfg_fine h), runL_map _ _ _ _ _ (cfg_fine h) (run_cfg h hl), Nat.zero_add]
theorem parse_print {c : Cg} (h : cfgB c = true) (hl : netsLt c) : parseC (bs (printT c)) = .ok c := by
  unfold parseC
  rw [bs_data]
  have := parse_more h hl []
  rw [List.append_nil] at this
  rw [this]
  simp [linesL, runL, cfgLs]

/-! ### What is read is printed -/

theorem setC_ls {c : Cg} {t t' : Tn} (h : lastC c = some t) (x : List (List UInt8)) (ht : tenLs t' = tenLs t ++ [x]) : cfgLs (setC c t') = cfgLs c ++ [x] := by
  unfold lastC at h
  obtain ⟨T, hT⟩ := List.getLast?_eq_some_iff.1 h
  unfold cfgLs setC
  simp only [timesW]
  rw [hT, List.dropLast_concat, List.flatMap_append, List.flatMap_append]
  simp [ht]
theorem readW_is {c c' : Cg} {ws : List (List UInt8)} (h : readW c ws = some c') : (ws.head? = some wTimes → cfgLs c' = ws :: c.tens.flatMap tenLs) ∧ (ws.head? ≠ some wTimes → cfgLs c' = cfgLs c ++ [ws]) := by
  cases ws with
  | nil => cases h
  | cons k ws =>
    unfold readW at h
    dsimp only at h
    by_cases h1 : k = wTimes
    · subst h1
      rw [if_pos rfl] at h
      refine ⟨fun _ => ?_, fun k => absurd rfl k⟩
      match ws, h with
      | [a, b, d, e], h =>
        simp only [readTimes] at h
        cases ha : decO a with
        | none => simp only [ha] at h; cases h
        | some a' =>
          cases hb : decO b with
          | none => simp only [ha, hb] at h; cases h
          | some b' =>
            cases hd : decO d with
            | none => simp only [ha, hb, hd] at h; cases h
            | some d' =>
              cases he : decO e with
              | none => simp only [ha, hb, hd, he] at h; cases h
              | some e' =>
                simp only [ha, hb, hd, he] at h
                injection h with h
                subst h
                simp only [cfgLs, timesW, Int.toNat_natCast]
                rw [(decO_is _ _ ha).2, (decO_is _ _ hb).2, (decO_is _ _ hd).2, (decO_is _ _ he).2]
    · rw [if_neg h1] at h
      refine ⟨fun q => absurd (by simpa using q) h1, fun _ => ?_⟩
      by_cases h2 : k = wTenant
      · subst h2
        rw [if_pos rfl] at h
        match ws, h with
        | [n, a, b], h =>
          simp only [readTenant] at h
          cases ha : decO a with
          | none => simp only [ha] at h; cases h
          | some a' =>
            cases hb : decO b with
            | none => simp only [ha, hb] at h; cases h
            | some b' =>
              simp only [ha, hb] at h
              injection h with h
              subst h
              simp only [cfgLs, timesW, List.flatMap_append, List.flatMap_cons, List.flatMap_nil, tenLs, tenW, Int.toNat_natCast, bs_data, List.map_nil, List.append_nil]
              rw [(decO_is _ _ ha).2, (decO_is _ _ hb).2]
              rfl
      · rw [if_neg h2] at h
        by_cases h3 : k = wNet
        · subst h3
          rw [if_pos rfl] at h
          match ws, h with
          | [n], h =>
            simp only [readNet] at h
            cases hl : lastC c with
            | none => simp only [hl] at h; cases h
            | some t =>
              simp only [hl] at h
              by_cases ht : t.toks = []
              · rw [if_pos ht] at h
                cases hn : netO (bs n) with
                | none => simp only [hn] at h; cases h
                | some x =>
                  simp only [hn] at h
                  injection h with h
                  subst h
                  refine setC_ls hl _ ?_
                  obtain ⟨x1, x2⟩ := x
                  have := bs_inj (net_is _ _ _ hn).2.2.2
                  simp only [tenLs, ht, List.map_nil, List.append_nil, List.map_append, List.map_cons, netW, tenW]
                  rw [this, List.cons_append]
              · rw [if_neg ht] at h; cases h
        · rw [if_neg h3] at h
          by_cases h4 : k = wToken
          · subst h4
            rw [if_pos rfl] at h
            match ws, h with
            | [n, s, u], h =>
              simp only [readToken] at h
              cases hl : lastC c with
              | none => simp only [hl] at h; cases h
              | some t =>
                simp only [hl] at h
                cases hs : unhexB s with
                | none => simp only [hs] at h; cases h
                | some b =>
                  cases hu : decO u with
                  | none => simp only [hs, hu] at h; cases h
                  | some v =>
                    simp only [hs, hu] at h
                    injection h with h
                    subst h
                    refine setC_ls hl _ ?_
                    simp only [tenLs, List.map_append, List.map_cons, List.map_nil, tokW, tenW, bs_data, Int.toNat_natCast]
                    rw [hexB_unhexB _ _ hs, (decO_is _ _ hu).2]
                    simp
          · rw [if_neg h4] at h; cases h
theorem lineC_is {c c' : Cg} {first : Bool} {ws : List (List UInt8)} (h : lineC c first ws = some c') : cfgB c' = true ∧ decide (ws.head? = some wTimes) = first ∧ readW c ws = some c' := by
  unfold lineC at h
  by_cases h1 : decide (ws.head? = some wTimes) = first
  · rw [if_pos h1] at h
    unfold okC at h
    cases hr : readW c ws with
    | none => rw [hr] at h; cases h
    | some d =>
      rw [hr] at h
      simp only at h
      by_cases hd : cfgB d = true
      · rw [if_pos hd] at h
        injection h with h
        subst h
        exact ⟨hd, h1, rfl⟩
      · rw [if_neg hd] at h; cases h
  · rw [if_neg h1] at h; cases h
theorem lineC_ls {c c' : Cg} {at' : Nat} {ws : List (List UInt8)} (h0 : at' = 0 → c.tens = []) (h : lineC c (at' == 0) ws = some c') : cfgB c' = true ∧ cfgLs c' = (if at' = 0 then [] else cfgLs c) ++ [ws] := by
  obtain ⟨h1, h2, h3⟩ := lineC_is h
  refine ⟨h1, ?_⟩
  obtain ⟨k1, k2⟩ := readW_is h3
  by_cases ha : at' = 0
  · subst ha
    rw [k1 (by simpa using h2), h0 rfl]; rfl
  · have e : (at' == 0) = false := by simpa using ha
    rw [e] at h2
    rw [k2 (by simpa using h2), if_neg ha]
theorem runL_is : ∀ (ls : List (List UInt8 × Bool)) (c c' : Cg) (at' : Nat), (at' = 0 → c.tens = []) → (at' ≠ 0 → cfgB c = true) → runL c at' ls = .ok c' →
    cfgB c' = true ∧ (∀ x ∈ ls, x.2 = true) ∧ textT (cfgLs c') = (if at' = 0 then [] else textT (cfgLs c)) ++ ls.flatMap fun x => x.1 ++ [10]
  | [], c, c', at', h0, h1, h => by
    rw [runL] at h
    by_cases ha : at' = 0
    · rw [if_pos ha] at h; cases h
    · rw [if_neg ha] at h
      injection h with h
      subst h
      exact ⟨h1 ha, (fun x hx => by cases hx), by rw [if_neg ha]; simp⟩
  | (l, e) :: r, c, c', at', h0, h1, h => by
    rw [runL] at h
    by_cases he : e = true
    · subst he
      rw [if_pos rfl] at h
      cases hl : lineC c (at' == 0) (piecesL 32 l) with
      | none => rw [hl] at h; cases h
      | some d =>
        rw [hl] at h
        simp only at h
        obtain ⟨g1, g2⟩ := lineC_ls h0 hl
        obtain ⟨i1, i2, i3⟩ := runL_is r d c' (at' + 1) (fun k => by omega) (fun _ => g1) h
        refine ⟨i1, fun x hx => ?_, ?_⟩
        · rcases List.mem_cons.1 hx with rfl | hx
          · rfl
          · exact i2 x hx
        · rw [i3, if_neg (by omega), g2]
          unfold textT
          rw [List.flatMap_append, List.flatMap_cons, List.flatMap_cons, List.flatMap_nil, List.append_nil, lineT, pieces_join]
          by_cases ha : at' = 0
          · rw [if_pos ha, if_pos ha]; simp
          · rw [if_neg ha, if_neg ha]; simp
    · rw [if_neg he] at h; cases h
theorem parse_isC (s : ByteArray) (c : Cg) (h : parseC s = .ok c) : cfgB c = true ∧ s = bs (printT c) := by
  unfold parseC at h
  obtain ⟨h1, h2, h3⟩ := runL_is _ _ _ _ (fun _ => rfl) (fun k => absurd rfl k) h
  refine ⟨h1, ?_⟩
  rw [if_pos rfl, List.nil_append, ← lines_text _ h2] at h3
  unfold printT
  rw [if_pos h1, h3, bs_of]
end Go.Proofs.Ytpbobmiajjgekaa

/- Configurations that are changed: plain mathematics. -/
namespace Go.Proofs.Ytpbobmiajjgekaa
set_option linter.unusedVariables false
set_option maxRecDepth 100000
set_option linter.unusedSimpArgs false

theorem bl_irrefl : ∀ x : List UInt8, Op.bytesLess x x = false
  | [] => rfl
  | a :: x => by
    have ih := bl_irrefl x
    simp only [Op.bytesLess, ih]
    simp
theorem bl_trans : ∀ x y z : List UInt8, Op.bytesLess x y = true → Op.bytesLess y z = true → Op.bytesLess x z = true
  | [], _, [], _, h => by revert h; cases ‹List UInt8› <;> simp [Op.bytesLess]
  | [], _, c :: z, _, _ => by simp [Op.bytesLess]
  | a :: x, [], z, h, _ => by simp [Op.bytesLess] at h
  | a :: x, b :: y, [], _, h => by simp [Op.bytesLess] at h
  | a :: x, b :: y, c :: z, h1, h2 => by
    have ih := bl_trans x y z
    simp only [Op.bytesLess, Bool.or_eq_true, Bool.and_eq_true, decide_eq_true_eq, beq_iff_eq] at h1 h2 ⊢
    rcases h1 with h1 | ⟨rfl, h1⟩
    · rcases h2 with h2 | ⟨rfl, h2⟩
      · exact .inl (by rw [UInt8.lt_iff_toNat_lt] at *; omega)
      · exact .inl h1
    · rcases h2 with h2 | ⟨rfl, h2⟩
      · exact .inl h2
      · exact .inr ⟨rfl, ih h1 h2⟩
theorem ltS_irrefl (a : ByteArray) : ltS a a = false := bl_irrefl _
theorem ltS_trans {a b c : ByteArray} (h : ltS a b = true) (k : ltS b c = true) : ltS a c = true := bl_trans _ _ _ h k
theorem rise_last : ∀ (A : List ByteArray) (l x : ByteArray), rise l (A ++ [x]) = true → ltS l x = true ∧ ∀ y ∈ A, ltS y x = true
  | [], l, x, h => by
    rw [List.nil_append, rise, Bool.and_eq_true, Bool.and_eq_true] at h
    exact ⟨h.1.2, fun y hy => by cases hy⟩
  | a :: A, l, x, h => by
    rw [List.cons_append, rise, Bool.and_eq_true, Bool.and_eq_true] at h
    obtain ⟨k1, k2⟩ := rise_last A a x h.2
    refine ⟨ltS_trans h.1.2 k1, fun y hy => ?_⟩
    rcases List.mem_cons.1 hy with rfl | hy
    · exact k1
    · exact k2 y hy
theorem cfg_twice {c : Cg} {t : Tn} (ht : t ∈ c.tens) : cfgB { c with tens := c.tens ++ [t] } = false := by
  cases h : cfgB { c with tens := c.tens ++ [t] } with
  | false => rfl
  | true =>
    obtain ⟨_, _, _, _, _, h6, _⟩ := cfgB_parts h
    simp only [List.map_append, List.map_cons, List.map_nil] at h6
    have := (rise_last _ _ _ h6).2 t.name (List.mem_map.2 ⟨t, ht, rfl⟩)
    rw [ltS_irrefl] at this
    cases this
theorem cfg_idle0 (a b d : Int) (T : List Tn) : cfgB ⟨a, b, 0, d, T⟩ = false := by
  cases h : cfgB ⟨a, b, 0, d, T⟩ with
  | false => rfl
  | true => obtain ⟨_, _, h3, _⟩ := cfgB_parts h; cases h3
theorem cfg_waitB (b d e : Int) (T : List Tn) : cfgB ⟨1073741825, b, d, e, T⟩ = false := by
  cases h : cfgB ⟨1073741825, b, d, e, T⟩ with
  | false => rfl
  | true => obtain ⟨h1, _⟩ := cfgB_parts h; cases h1
theorem cfg_quota {c : Cg} {t : Tn} (ht : t ∈ c.tens) (h9 : t.visitors = 9) : cfgB c = false := by
  cases h : cfgB c with
  | false => rfl
  | true =>
    obtain ⟨_, _, _, _, _, _, h7⟩ := cfgB_parts h
    obtain ⟨_, h2, _⟩ := tenB_parts (h7 t ht)
    rw [h9] at h2
    cases h2
end Go.Proofs.Ytpbobmiajjgekaa
